/- CondParses, part 4: the engine, contracts, theory. -/
import Derived.Test.YtedlaclfhgneeabGreatDoorCondParsesP3
import Derived.Shelf.Spec.SlicesGrow
import Derived.LoopN
import Derived.Sort.AssemblyPlain
namespace Go.Proofs.YtedlaclfhgneeabGreatDoor
open Go.RowKit
set_option linter.unusedVariables false
set_option linter.unusedSimpArgs false
set_option maxRecDepth 100000
set_option maxHeartbeats 2000000
set_option simprocs false
theorem regnm_x (r : Int) : regnm0 [82, 65, 88] [82, 66, 88] [82, 67, 88] [82, 68, 88] [82, 83, 73] [82, 68, 73] [82, 56] [82, 57] r = Old.nameF r := by
  unfold regnm0
  split
  · next h => rw [nameF_o (by revert h; simp only [Bool.or_eq_true, decide_eq_true_eq]; omega)]
  · next h => rw [nameF_i (by revert h; simp only [Bool.or_eq_true, Bool.or_eq_false_iff, decide_eq_true_eq, decide_eq_false_iff_not]; omega)]
theorem idxL_at (q : List UInt8) : ∀ (ls : List (List UInt8)) (n : Nat), Old.idxL ls q n = if idxS ls q < 0 then -1 else idxS ls q + n := by
  intro ls
  induction ls with
  | nil => intro n; rfl
  | cons y l ih =>
    intro n
    unfold Old.idxL
    have hr : List.range (y :: l).length = 0 :: (List.range l.length).map Nat.succ := by rw [List.length_cons, List.range_succ_eq_map]
    cases hy : eqL y q
    · rw [if_neg (by decide), ih (n + 1)]
      have hne : (q == y) = false := by
        cases hh : (q == y) with
        | false => rfl
        | true => rw [eq_of_beq hh, eqL_same] at hy; cases hy
      have e : idxS (y :: l) q = if idxS l q < 0 then -1 else idxS l q + 1 := by
        unfold idxS
        rw [hr, List.find?_cons]
        simp only [List.getD_cons_zero, hne]
        rw [List.find?_map]
        have : ((fun j => q == (y :: l).getD j []) ∘ Nat.succ) = fun j => q == l.getD j [] := by funext j; simp
        rw [this]
        cases (List.range l.length).find? (fun j => q == l.getD j []) with
        | none => rfl
        | some j => simp; omega
      rw [e]
      have := (idxS_ge (ls := l) (q := q)).1
      split <;> split <;> omega
    · rw [if_pos rfl]
      have hq : (q == y) = true := by rw [eqL_eq hy]; exact beq_self_eq_true q
      have e : idxS (y :: l) q = 0 := by
        unfold idxS
        rw [hr, List.find?_cons]
        simp only [List.getD_cons_zero, hq]
        rfl
      rw [e]; simp
theorem idxS_L (ls : List (List UInt8)) (q : List UInt8) : idxS ls q = Old.idxL ls q 0 := by
  rw [idxL_at]
  have := (idxS_ge (ls := ls) (q := q)).1
  split <;> omega
theorem xname_ (r : Int)  : Fn Tryz.prog 109 [.int .i64 r] [] (Rt (.str (Old.nameF r)) []) :=
 enterM (n := 6) (by kernel_rfl) Tryz.func109 rfl rfl rfl fun G w a h0 A => N hX 7 A rfl rfl fun A => CALL1 [] xregs_ A rfl rfl rfl rfl rfl rfl rfl fun A => N hX 1 A rfl rfl fun A => CALL1 [] (regnm_ [82, 65, 88] [82, 66, 88] [82, 67, 88] [82, 68, 88] [82, 83, 73] [82, 68, 73] [82, 56] [82, 57] r) A rfl rfl rfl rfl rfl rfl rfl fun A => N hX 4 A rfl rfl fun A => RETN hX A rfl rfl rfl h0 rfl rfl rfl rfl (by rw [← regnm_x] <;> rfl) rfl
theorem nameF_k (k : Nat) (h : k < 8) : Old.nameF (k : Int) = Old.regsX.getD k [] := by
  have : k = 0 ∨ k = 1 ∨ k = 2 ∨ k = 3 ∨ k = 4 ∨ k = 5 ∨ k = 6 ∨ k = 7 := by omega
  rcases this with e | e | e | e | e | e | e | e <;> subst e <;> rfl
theorem regs_ne (k : Nat) (h : k < 8) : Old.regsX.getD k [] ≠ [] := by
  have : k = 0 ∨ k = 1 ∨ k = 2 ∨ k = 3 ∨ k = 4 ∨ k = 5 ∨ k = 6 ∨ k = 7 := by omega
  rcases this with e | e | e | e | e | e | e | e <;> subst e <;> decide
theorem rg_no1 {q : List UInt8} {k : Nat} (h : k < 8) (h1 : Old.nameF (k : Int) ≠ q) : (q == Old.regsX.getD k []) = false := by
  rw [nameF_k k h] at h1
  exact beq_eq_false_iff_ne.2 fun e => h1 e.symm
theorem rg_no2 {q : List UInt8} {k : Nat} (h : k < 8) (h1 : q = []) : (q == Old.regsX.getD k []) = false := by
  rw [h1]; exact beq_eq_false_iff_ne.2 fun e => regs_ne k h e.symm
theorem rg_yes {q : List UInt8} {k : Nat} (h : k < 8) (h1 : Old.nameF (k : Int) = q) : (q == Old.regsX.getD k []) = true := by
  rw [nameF_k k h] at h1
  rw [h1]; exact beq_self_eq_true q
theorem rregn_x (q : List UInt8)  : Fn Tryz.prog 17 [.int .i64 1, .str q] [] (Rt (.int .i64 (Old.regF q)) []) :=
 enterM (n := 20) (by kernel_rfl) Tryz.func17 rfl rfl rfl fun G w a h0 A => N hX 12 A rfl rfl fun A => LOOP1 (fun (k : Nat) => [(0, .int .i64 1), (1, .str q), (4, .int .i64 0), (5, .int .i64 (k : Int))]) (fun (k : Nat) => []) (fun (k : Nat) => IxI Old.regsX q k) (fun (k : Nat) => 8 - k) 0 IxI.i0 ((A.cut [0, 1, 4, 5] rfl).trunc 0 rfl rfl rfl (by simp only [List.length_cons, List.length_nil] at h0; omega)) fun k hI {G a w} A => N hX 7 A rfl rfl fun A => forkD 7 A rfl
   (fun h1 A => N hX 10 A rfl rfl fun A => forkN 12 A rfl
    (fun h2 A => N hX 2 A rfl rfl fun A => CALL1 [] (rname_x (k : Int)) A rfl rfl rfl rfl rfl rfl rfl fun A => N hX 5 A rfl rfl fun A => forkE 18 A rfl
     (fun h3 A => N hX 8 A rfl rfl fun A => RETN hX A rfl rfl rfl h0 rfl rfl rfl rfl (by unfold Old.regF; rw [← idxS_L, hI.hit (by show k < 8; omega) (rg_yes (by omega) h3)]; rfl) rfl)
     (fun h3 A => N hX 9 A rfl (ok_d (by have := hI.le; have e : Old.regsX.length = 8 := rfl; omega) <| okE_nil) fun A => ⟨k + 1, _, (by omega), (hI.nx (by show k < 8; omega) (rg_no1 (by omega) h3)), ((A.cut [0, 1, 4, 5] rfl).trunc 0 rfl rfl rfl (by simp only [List.length_cons, List.length_nil] at h0; omega))⟩))
    (fun h2 A => N hX 17 A rfl (ok_d (by have := hI.le; have e : Old.regsX.length = 8 := rfl; omega) <| okE_nil) fun A => ⟨k + 1, _, (by omega), (hI.nx (by show k < 8; omega) (rg_no2 (by omega) h2)), ((A.cut [0, 1, 4, 5] rfl).trunc 0 rfl rfl rfl (by simp only [List.length_cons, List.length_nil] at h0; omega))⟩))
   (fun h1 A => N hX 9 A rfl rfl fun A => RETN hX A rfl rfl rfl h0 rfl rfl rfl rfl (by unfold Old.regF; rw [← idxS_L, hI.fi (by show 8 ≤ k; omega)]; rfl) rfl)
theorem rpeek_ (ws : List Tk) (cw : Nat) (k : Nat) (hk : k ≤ ws.length) (hn : ws.length ≤ 1000000) : Fn Tryz.prog 28 [.ptr 0 0] [some (.blk [.sl 1 ws.length cw, .int .i64 ((k : Nat) : Int)]), some (.lst 4 ws.length (fun zz => tkc (ws.getD zz tok0)))] (Rt (.tup [.agg [.int .i64 ((ws.getD k tok0).kind), .str ((ws.getD k tok0).text), .int .i64 ((ws.getD k tok0).n), .int .i64 ((ws.getD k tok0).at_)], .bool (decide (k < ws.length))]) [some (.blk [.sl 1 ws.length cw, .int .i64 ((k : Nat) : Int)]), some (.lst 4 ws.length (fun zz => tkc (ws.getD zz tok0)))]) :=
 enterM (n := 25) (by kernel_rfl) Tryz.func28 rfl rfl rfl fun G w a h0 A => N hX 8 A rfl rfl fun A => DRAWN hX hmo [] [] A rfl rfl rfl rfl (by kernel_rfl) (effAll_nil _ _) trivial fun A => N hX 1 A rfl rfl fun A => forkD 13 A rfl
  (fun h1 A => N hX 9 A rfl rfl fun A => RETN hX A rfl rfl rfl h0 rfl rfl rfl rfl (by rw [tk_out (by omega), dec_f (by omega)]; rfl) rfl)
  (fun h1 A => N hX 4 A rfl rfl fun A => DRAWN hX hmo [] [] A rfl (ok_d (by omega) <| ok_d (by omega) <| okE_nil) rfl rfl (by kernel_rfl) (effAll_nil _ _) trivial fun A => N hX 2 A rfl rfl fun A => RETN hX A rfl rfl rfl h0 rfl rfl rfl rfl (by rw [dec_t (p := k < ws.length) (by omega)]; rfl) rfl)
theorem rnext_ (ws : List Tk) (cw : Nat) (k : Nat) (hk : k ≤ ws.length) (hn : ws.length ≤ 1000000) : Fn Tryz.prog 31 [.ptr 0 0] [some (.blk [.sl 1 ws.length cw, .int .i64 ((k : Nat) : Int)]), some (.lst 4 ws.length (fun zz => tkc (ws.getD zz tok0)))] (Rt (.tup [.agg [.int .i64 ((ws.getD k tok0).kind), .str ((ws.getD k tok0).text), .int .i64 ((ws.getD k tok0).n), .int .i64 ((ws.getD k tok0).at_)], .bool (decide (k < ws.length))]) [some (.blk [.sl 1 ws.length cw, .int .i64 ((nxK ws k : Nat) : Int)]), some (.lst 4 ws.length (fun zz => tkc (ws.getD zz tok0)))]) :=
 enterM (n := 21) (by kernel_rfl) Tryz.func31 rfl rfl rfl fun G w a h0 A => N hX 9 A rfl rfl fun A => CALL1 [0, 1] (rpeek_ ws cw k hk hn) A rfl rfl rfl rfl rfl rfl rfl fun A => N hX 14 A rfl rfl fun A => forkD 11 A rfl
  (fun h1 A => N hX 13 A rfl (ok_d (by omega) <| okE_nil) fun A => N hX 8 A rfl rfl fun A => RETN hX A rfl rfl rfl h0 rfl rfl rfl rfl (by first | rfl | (rw [dec_t (p := k < ws.length) h1] <;> rfl)) (by unfold nxK; rw [if_pos h1] <;> rfl))
  (fun h1 A => N hX 12 A rfl rfl fun A => RETN hX A rfl rfl rfl h0 rfl rfl rfl rfl (by first | rfl | (rw [dec_f (p := k < ws.length) h1] <;> rfl)) (by unfold nxK; rw [if_neg h1] <;> rfl))
theorem rwhere_ (ws : List Tk) (cw : Nat) (k : Nat) (hk : k ≤ ws.length) (hn : ws.length ≤ 1000000) (hw : ∀ t ∈ ws, 0 ≤ t.at_ ∧ t.at_ ≤ 1000000 ∧ t.text.length ≤ 1000000) : Fn Tryz.prog 29 [.ptr 0 0] [some (.blk [.sl 1 ws.length cw, .int .i64 ((k : Nat) : Int)]), some (.lst 4 ws.length (fun zz => tkc (ws.getD zz tok0)))] (Rt (.int .i64 (atW ws k)) [some (.blk [.sl 1 ws.length cw, .int .i64 ((k : Nat) : Int)]), some (.lst 4 ws.length (fun zz => tkc (ws.getD zz tok0)))]) :=
 enterM (n := 49) (by kernel_rfl) Tryz.func29 rfl rfl rfl fun G w a h0 A => N hX 7 A rfl rfl fun A => DRAWN hX hmo [] [] A rfl rfl rfl rfl (by kernel_rfl) (effAll_nil _ _) trivial fun A => N hX 1 A rfl rfl fun A => forkD 13 A rfl
  (fun h1 A => N hX 2 A rfl rfl fun A => DRAWN hX hmo [] [] A rfl (ok_d (by omega) <| ok_d (by omega) <| ok_d (by omega) <| okE_nil) rfl rfl (by kernel_rfl) (effAll_nil _ _) trivial fun A => N hX 2 A rfl rfl fun A => RETN hX A rfl rfl rfl h0 rfl rfl rfl rfl (by unfold atW; rw [if_pos (show k < ws.length by omega)] <;> rfl) rfl)
  (fun h1 A => N hX 14 A rfl rfl fun A => forkE 30 A rfl
   (fun h2 A => N hX 7 A rfl rfl fun A => RETN hX A rfl rfl rfl h0 rfl rfl rfl rfl (by unfold atW; rw [if_neg (show ¬ k < ws.length by omega), if_pos (show ws.length = 0 by omega)] <;> rfl) rfl)
   (fun h2 A => N hX 4 A rfl rfl fun A => DRAWN hX hmo [] [] A rfl (ok_d (by omega) <| ok_d (by omega) <| ok_d (by omega) <| ok_d (by omega) <| ok_d (by omega) <| ok_d (by omega) <| okE_nil) rfl rfl (by kernel_rfl) (effAll_nil _ _) trivial fun A => N hX 13 A rfl (ok_d (by have := hw (ws.getD (((ws.length : Nat) : Int) - 1).toNat tok0) (tk_mem (by omega)); omega) <| okE_nil) fun A => RETN hX A rfl rfl rfl h0 rfl rfl rfl rfl (by unfold atW; rw [if_neg (show ¬ k < ws.length by omega), if_neg (show ¬ ws.length = 0 by omega), show ws.length - 1 = (((ws.length : Nat) : Int) - 1).toNat by omega] <;> rfl) rfl))
section
variable {ws : List Tk} {k : Nat} {m : List UInt8}
theorem tk_end (h : ws.length ≤ k) : tkB ws k m = false := by unfold tkB; rw [decide_eq_false (by omega)]; rfl
theorem rtk_no (hl : k < ws.length) (h : (((ws.getD k tok0).kind == 2) || (!((ws.getD k tok0).text == m))) = true) : tkB ws k m = false := by
  unfold tkB; revert h
  generalize decide (k < ws.length) = x; generalize ((ws.getD k tok0).kind == 2) = y; generalize ((ws.getD k tok0).text == m) = z
  cases x <;> cases y <;> cases z <;> intro h <;> first | rfl | cases h
theorem rtk_yes (hl : k < ws.length) (h : (((ws.getD k tok0).kind == 2) || (!((ws.getD k tok0).text == m))) = false) : tkB ws k m = true := by
  unfold tkB; rw [decide_eq_true hl]; revert h
  generalize ((ws.getD k tok0).kind == 2) = y; generalize ((ws.getD k tok0).text == m) = z
  cases y <;> cases z <;> intro h <;> first | rfl | cases h
end
theorem rtake_ (ws : List Tk) (cw : Nat) (k : Nat) (m : List UInt8) (hk : k ≤ ws.length) (hn : ws.length ≤ 1000000) : Fn Tryz.prog 176 [.ptr 0 0, .sl 2 1 0] [some (.blk [.sl 1 ws.length cw, .int .i64 ((k : Nat) : Int)]), some (.lst 4 ws.length (fun zz => tkc (ws.getD zz tok0))), some (.row 9 1 1 0 (fun _ => [.str m]))] (Rt (.bool (tkB ws k m)) [some (.blk [.sl 1 ws.length cw, .int .i64 ((tkK ws k m : Nat) : Int)]), some (.lst 4 ws.length (fun zz => tkc (ws.getD zz tok0))), some (.row 9 1 1 0 (fun _ => [.str m]))]) :=
 enterM (n := 60) (by kernel_rfl) Tryz.func176 rfl rfl rfl fun G w a h0 A => N hX 7 A rfl rfl fun A => DRAWN hX hmo [] [] A rfl (ok_d (by omega) <| okE_nil) rfl rfl (by kernel_rfl) (effAll_nil _ _) trivial fun A => N hX 1 A rfl rfl fun A => forkD 19 A rfl
  (fun h1 A => N hX 7 A rfl rfl fun A => RETN hX A rfl rfl rfl h0 rfl rfl rfl rfl (by have z : tkB ws k m = false := tk_end (by omega); rw [z]; rfl) (by have z : tkB ws k m = false := tk_end (by omega); unfold tkK; rw [z]; rfl))
  (fun h1 A => N hX 10 A rfl rfl fun A => LOOPU [(0, .ptr 0 0), (1, .sl 2 1 0), (4, .ff), (5, .int .i64 1)] [some (.blk [.sl 1 ws.length cw, .int .i64 ((k : Nat) : Int)]), some (.lst 4 ws.length (fun zz => tkc (ws.getD zz tok0))), some (.row 9 1 1 0 (fun _ => [.str m]))] (tkB ws k m = true) (A.cut [0, 1, 4, 5] rfl) (fun {G a w} A => N hX 9 A rfl rfl fun A => forkD 23 A rfl
    (fun h2 A => N hX 6 A rfl rfl fun A => DRAWN hX hmo [] [] A rfl (ok_d (by omega) <| ok_d (by omega) <| ok_d (by omega) <| ok_d (by omega) <| ok_d (by omega) <| ok_d (by omega) <| okE_nil) rfl rfl (by kernel_rfl) (effAll_nil _ _) trivial fun A => N hX 2 A rfl rfl fun A => DRAWN hX hmo [] [] A rfl (ok_r <| ok_r <| ok_r <| ok_g (fun hg => (by omega)) <| ok_r <| ok_g (fun hg => (by omega)) <| ok_r <| ok_r <| ok_r <| okE_nil) rfl rfl (by kernel_rfl) (effAll_nil _ _) trivial fun A => N hX 1 A rfl rfl fun A => fork 49 A rfl
     (fun h3 A => N hX 7 A rfl rfl fun A => RETN hX A rfl rfl rfl h0 rfl rfl rfl rfl (by have z : tkB ws k m = false := rtk_no (by omega) h3; rw [z]; rfl) (by have z : tkB ws k m = false := rtk_no (by omega) h3; unfold tkK; rw [z]; rfl))
     (fun h3 A => N hX 9 A rfl (ok_d (by omega) <| okE_nil) fun A => ⟨_, (rtk_yes (by omega) h3), ((A.cut [0, 1, 4, 5] rfl).trunc 3 rfl rfl rfl (by simp only [List.length_cons, List.length_nil] at h0; omega)).sayT rfl⟩))
    (fun h2 A => absurd (by decide) h2)) (fun hU {G a w} A => N hX 9 A rfl rfl fun A => forkD 23 A rfl
    (fun h4 A => absurd h4 (by decide))
    (fun h4 A => N hX 19 A rfl (ok_d (by omega) <| okE_nil) fun A => N hX 5 A rfl rfl fun A => RETN hX A rfl rfl rfl h0 rfl rfl rfl rfl (by rw [hU]; rfl) (by unfold tkK; rw [if_pos hU]; rfl))))
theorem rmark_ (ws : List Tk) (cw : Nat) (k : Nat) (m : List UInt8) (hk : k ≤ ws.length) (hn : ws.length ≤ 1000000) : Fn Tryz.prog 121 [.ptr 0 0, .str m] [some (.blk [.sl 1 ws.length cw, .int .i64 ((k : Nat) : Int)]), some (.lst 4 ws.length (fun zz => tkc (ws.getD zz tok0)))] (Rt (.bool (tkB ws k m)) [some (.blk [.sl 1 ws.length cw, .int .i64 ((tkK ws k m : Nat) : Int)]), some (.lst 4 ws.length (fun zz => tkc (ws.getD zz tok0)))]) :=
 enterM (n := 12) (by kernel_rfl) Tryz.func121 rfl rfl rfl fun G w a h0 A => N hX 16 A rfl rfl fun A => have A := A.nilRow 7 9 1 (fun _ => [.str m]) rfl (fun z => ⟨_, rfl, rfl⟩); APP1 hX 1 (fun _ => [.str m]) A rfl rfl rfl rfl (by decide) rfl (fun k hk => rfl) rfl (fun z => ⟨_, rfl, rfl⟩) fun A => CALL1 [0, 1, 4] (rtake_ ws cw k m hk hn) A rfl rfl rfl rfl rfl rfl rfl fun A => N hX 4 A rfl rfl fun A => RETN hX A rfl rfl rfl h0 rfl rfl rfl rfl rfl rfl
theorem nd_t {p : Prop} [Decidable p] (h : (!(decide p)) = true) : ¬ p := by simpa using h
theorem nd_f {p : Prop} [Decidable p] (h : (!(decide p)) = false) : p := by simpa using h
def regG (rf : List UInt8 → Int) (L : List Tk) (s : Old.Rs) : Old.Rs × Int := if s.e == 0 then (match L[s.p]? with
    | some y => if (y.kind == 1) && !decide (rf y.text < 0) then (⟨s.e, s.a, s.p + 1⟩, rf y.text) else (Old.oddR L true s, -1)
    | none => (Old.oddR L true s, -1)) else (s, -1)
section
variable {ws : List Tk} {k : Nat} {m : List UInt8} {s : Old.Rs} {x y : Int} {u : Bool} {rf : List UInt8 → Int}
theorem tk_get (h : k < ws.length) : ws[k]? = some (ws.getD k tok0) := by rw [List.getD_eq_getElem?_getD, List.getElem?_eq_getElem h]; rfl
theorem tk_non (h : ¬ k < ws.length) : ws[k]? = none := List.getElem?_eq_none (by omega)
theorem reads_tk : Old.reads ws m k = tkB ws k m := by
  unfold Old.reads tkB
  by_cases h : k < ws.length
  · rw [tk_get h, decide_eq_true h]; rfl
  · rw [tk_non h, decide_eq_false h]; rfl
theorem where_at (hw : WsOK ws) : Old.whereR ws k = atW ws k := by
  unfold Old.whereR atW
  by_cases h : k < ws.length
  · rw [tk_get h, if_pos h]
  · rw [tk_non h, if_neg h]
    by_cases h0 : ws.length = 0
    · rw [if_pos h0, tk_non (by omega)]
    · rw [if_neg h0, tk_get (by omega)]
      have := hw _ (tk_mem (ws := ws) (k := ws.length - 1) (by omega))
      exact wrap_in ⟨by omega, by omega⟩
theorem nxK_y (h : k < ws.length) : nxK ws k = k + 1 := by unfold nxK; rw [if_pos h]
theorem fail_y (h : s.e = 0) : Old.failR s x y = ⟨x, y, s.p⟩ := by unfold Old.failR; rw [if_pos (beq_iff_eq.2 h)]
theorem fail_n (h : s.e ≠ 0) : Old.failR s x y = s := by unfold Old.failR; rw [if_neg (fun e => h (eq_of_beq e))]
theorem fail_p : (Old.failR s x y).p = s.p := by unfold Old.failR; split <;> rfl
theorem fail_le (h : s.p ≤ ws.length) : (Old.failR s x y).p ≤ ws.length := by rw [fail_p]; exact h
theorem odd_e (hw : WsOK ws) (h : ¬ s.p < ws.length) : Old.oddR ws u s = Old.failR s 24 (atW ws s.p) := by unfold Old.oddR; rw [tk_non h]; simp only [where_at hw]
theorem odd_w (h : s.p < ws.length) (h1 : (ws.getD s.p tok0).kind = 1) : Old.oddR ws true s = Old.failR s 21 (ws.getD s.p tok0).at_ := by unfold Old.oddR; rw [tk_get h]; simp only [h1]; rfl
theorem odd_f (h : s.p < ws.length) (h1 : (ws.getD s.p tok0).kind ≠ 1) : Old.oddR ws true s = Old.failR s 22 (ws.getD s.p tok0).at_ := by
  unfold Old.oddR; rw [tk_get h]
  have : ((ws.getD s.p tok0).kind == 1) = false := beq_eq_false_iff_ne.2 h1
  simp only [this]; rfl
theorem odd_g (h : s.p < ws.length) : Old.oddR ws false s = Old.failR s 22 (ws.getD s.p tok0).at_ := by unfold Old.oddR; rw [tk_get h]; rfl
theorem odd_p : (Old.oddR ws u s).p = s.p := by
  unfold Old.oddR; split
  · exact fail_p
  · split <;> exact fail_p
theorem odd_le (h : s.p ≤ ws.length) : (Old.oddR ws u s).p ≤ ws.length := by rw [odd_p]; exact h
theorem odd_ne (h : s.e = 0) : (Old.oddR ws u s).e ≠ 0 := by
  unfold Old.oddR; split
  · rw [fail_y h]; exact (by decide : (24 : Int) ≠ 0)
  · split
    · rw [fail_y h]; exact (by decide : (21 : Int) ≠ 0)
    · rw [fail_y h]; exact (by decide : (22 : Int) ≠ 0)
theorem tkK_n (h : tkB ws k m = false) : tkK ws k m = k := by unfold tkK; rw [h]; rfl
theorem tkK_y (h : tkB ws k m = true) : tkK ws k m = k + 1 := by unfold tkK; rw [h]; rfl
theorem mark_y (h : s.e = 0) (hb : tkB ws s.p m = true) : Old.markR ws m s = ⟨s.e, s.a, tkK ws s.p m⟩ := by unfold Old.markR; rw [if_pos (beq_iff_eq.2 h), reads_tk, if_pos hb, tkK_y hb]
theorem mark_n (h : s.e = 0) (hb : tkB ws s.p m = false) : Old.markR ws m s = Old.oddR ws false ⟨s.e, s.a, tkK ws s.p m⟩ := by unfold Old.markR; rw [if_pos (beq_iff_eq.2 h), reads_tk, if_neg (by rw [hb]; decide), tkK_n hb]
theorem mark_s (h : s.e ≠ 0) : Old.markR ws m s = s := by unfold Old.markR; rw [if_neg (fun e => h (eq_of_beq e))]
theorem mark_le (h : s.p ≤ ws.length) : (Old.markR ws m s).p ≤ ws.length := by
  by_cases he : s.e = 0
  · cases hb : tkB ws s.p m with
    | true => rw [mark_y he hb]; exact tkK_le h
    | false => rw [mark_n he hb]; exact odd_le (tkK_le h)
  · rw [mark_s he]; exact h
theorem reg_s (h : s.e ≠ 0) : regG rf ws s = (s, -1) := by unfold regG; rw [if_neg (fun e => h (eq_of_beq e))]
theorem reg_n (h : s.e = 0) (hb : (((!(decide (s.p < ws.length))) || (!((ws.getD s.p tok0).kind == 1))) || (decide (rf (ws.getD s.p tok0).text < 0))) = true) : regG rf ws s = (Old.oddR ws true s, -1) := by
  unfold regG; rw [if_pos (beq_iff_eq.2 h)]
  by_cases hl : s.p < ws.length
  · rw [tk_get hl]
    rw [decide_eq_true hl] at hb
    simp only
    rw [if_neg]
    revert hb
    cases ((ws.getD s.p tok0).kind == 1) <;> cases decide (rf (ws.getD s.p tok0).text < 0) <;> decide
  · rw [tk_non hl]
theorem reg_y (h : s.e = 0) (hb : (((!(decide (s.p < ws.length))) || (!((ws.getD s.p tok0).kind == 1))) || (decide (rf (ws.getD s.p tok0).text < 0))) = false) : regG rf ws s = (⟨s.e, s.a, nxK ws s.p⟩, rf (ws.getD s.p tok0).text) := by
  unfold regG; rw [if_pos (beq_iff_eq.2 h)]
  by_cases hl : s.p < ws.length
  · rw [tk_get hl, nxK_y hl]
    rw [decide_eq_true hl] at hb
    simp only
    rw [if_pos]
    revert hb
    cases ((ws.getD s.p tok0).kind == 1) <;> cases decide (rf (ws.getD s.p tok0).text < 0) <;> decide
  · rw [decide_eq_false hl] at hb; cases hb
theorem regG_le (h : s.p ≤ ws.length) : (regG rf ws s).1.p ≤ ws.length := by
  by_cases he : s.e = 0
  · cases hb : (((!(decide (s.p < ws.length))) || (!((ws.getD s.p tok0).kind == 1))) || (decide (rf (ws.getD s.p tok0).text < 0))) with
    | true => rw [reg_n he hb]; exact odd_le h
    | false => rw [reg_y he hb]; exact nxK_le h
  · rw [reg_s he]; exact h
theorem num_s (h : s.e ≠ 0) : Old.numS ws s = (s, 0) := by unfold Old.numS; rw [if_neg (fun e => h (eq_of_beq e))]
theorem numM (h : s.e = 0) : Old.numS ws s = Old.numE ws (tkB ws s.p [45]) ⟨s.e, s.a, tkK ws s.p [45]⟩ := by
  unfold Old.numS; rw [if_pos (beq_iff_eq.2 h), reads_tk]
  cases hb : tkB ws s.p [45] with
  | true => rw [if_pos rfl, tkK_y hb]
  | false => rw [if_neg (by decide), tkK_n hb]
theorem numE_n {mi : Bool} (hb : ((!(decide (s.p < ws.length))) || (!((ws.getD s.p tok0).kind == 2))) = true) : Old.numE ws mi s = (Old.oddR ws false s, 0) := by
  unfold Old.numE
  by_cases hl : s.p < ws.length
  · rw [tk_get hl]
    rw [decide_eq_true hl] at hb
    simp only
    rw [if_neg]
    revert hb
    cases ((ws.getD s.p tok0).kind == 2) <;> decide
  · rw [tk_non hl]
theorem numE_y {mi : Bool} (hb : ((!(decide (s.p < ws.length))) || (!((ws.getD s.p tok0).kind == 2))) = false) : Old.numE ws mi s = (⟨s.e, s.a, nxK ws s.p⟩, if mi = true then IntKind.wrap .i64 (0 - (ws.getD s.p tok0).n) else (ws.getD s.p tok0).n) := by
  unfold Old.numE
  by_cases hl : s.p < ws.length
  · rw [tk_get hl, nxK_y hl]
    rw [decide_eq_true hl] at hb
    simp only
    rw [if_pos, Int.zero_sub]
    revert hb
    cases ((ws.getD s.p tok0).kind == 2) <;> decide
  · rw [decide_eq_false hl] at hb; cases hb
theorem num_le (h : s.p ≤ ws.length) : (Old.numS ws s).1.p ≤ ws.length := by
  by_cases he : s.e = 0
  · rw [numM he]
    have hk : (⟨s.e, s.a, tkK ws s.p [45]⟩ : Old.Rs).p ≤ ws.length := tkK_le h
    generalize (⟨s.e, s.a, tkK ws s.p [45]⟩ : Old.Rs) = z at hk ⊢
    cases hb : ((!(decide (z.p < ws.length))) || (!((ws.getD z.p tok0).kind == 2))) with
    | true => rw [numE_n hb]; exact odd_le hk
    | false => rw [numE_y hb]; exact nxK_le hk
  · rw [num_s he]; exact h
end
theorem rfail_ (ar : Int) (ws : List Tk) (cw : Nat) (s : Old.Rs) (x : Int) (y : Int) (hk : s.p ≤ ws.length) (hn : ws.length ≤ 1000000) (hw : WsOK ws) : Fn Tryz.prog 36 [.ptr 0 0, .int .i64 x, .int .i64 y] [some (.blk [.int .i64 ar, .ptr 1 0, .int .i64 s.e, .int .i64 s.a]), some (.blk [.sl 2 ws.length cw, .int .i64 ((s.p : Nat) : Int)]), some (.lst 4 ws.length (fun zz => tkc (ws.getD zz tok0)))] (Rt (.tup []) [some (.blk [.int .i64 ar, .ptr 1 0, .int .i64 ((Old.failR s x y).e), .int .i64 ((Old.failR s x y).a)]), some (.blk [.sl 2 ws.length cw, .int .i64 (((Old.failR s x y).p : Nat) : Int)]), some (.lst 4 ws.length (fun zz => tkc (ws.getD zz tok0)))]) :=
 enterM (n := 19) (by kernel_rfl) Tryz.func36 rfl rfl rfl fun G w a h0 A => N hX 9 A rfl rfl fun A => forkE 10 A rfl
  (fun h1 A => N hX 17 A rfl rfl fun A => ENDN (RETN hX A rfl rfl rfl h0 rfl rfl rfl rfl rfl (by rw [fail_y h1] <;> rfl)))
  (fun h1 A => N hX 2 A rfl rfl fun A => ENDN (RETN hX A rfl rfl rfl h0 rfl rfl rfl rfl rfl (by rw [fail_n h1] <;> rfl)))
theorem roddT_ (ar : Int) (ws : List Tk) (cw : Nat) (s : Old.Rs) (hk : s.p ≤ ws.length) (hn : ws.length ≤ 1000000) (hw : WsOK ws) : Fn Tryz.prog 30 [.ptr 0 0, .tt] [some (.blk [.int .i64 ar, .ptr 1 0, .int .i64 s.e, .int .i64 s.a]), some (.blk [.sl 2 ws.length cw, .int .i64 ((s.p : Nat) : Int)]), some (.lst 4 ws.length (fun zz => tkc (ws.getD zz tok0)))] (Rt (.tup []) [some (.blk [.int .i64 ar, .ptr 1 0, .int .i64 ((Old.oddR ws true s).e), .int .i64 ((Old.oddR ws true s).a)]), some (.blk [.sl 2 ws.length cw, .int .i64 (((Old.oddR ws true s).p : Nat) : Int)]), some (.lst 4 ws.length (fun zz => tkc (ws.getD zz tok0)))]) :=
 enterM (n := 39) (by kernel_rfl) Tryz.func30 rfl rfl rfl fun G w a h0 A => N hX 6 A rfl rfl fun A => CALL1 [1, 2] (rpeek_ ws cw s.p hk hn) A rfl rfl rfl rfl rfl rfl rfl fun A => N hX 16 A rfl rfl fun A => fork 18 A rfl
  (fun h1 A => N hX 7 A rfl rfl fun A => CALL1 [1, 2] (rwhere_ ws cw s.p hk hn hw) A rfl rfl rfl rfl rfl rfl rfl fun A => CALL1 [0, 1, 2] (rfail_ ar ws cw s 24 (atW ws s.p) hk hn hw) A rfl rfl rfl rfl rfl rfl rfl fun A => N hX 2 A rfl rfl fun A => ENDN (RETN hX A rfl rfl rfl h0 rfl rfl rfl rfl rfl (by rw [odd_e hw (nd_t h1)] <;> rfl)))
  (fun h1 A => N hX 12 A rfl rfl fun A => forkE 28 A rfl
   (fun h2 A => N hX 5 A rfl rfl fun A => CALL1 [0, 1, 2] (rfail_ ar ws cw s 21 ((ws.getD s.p tok0).at_) hk hn hw) A rfl rfl rfl rfl rfl rfl rfl fun A => N hX 2 A rfl rfl fun A => ENDN (RETN hX A rfl rfl rfl h0 rfl rfl rfl rfl rfl (by rw [odd_w (nd_f h1) h2] <;> rfl)))
   (fun h2 A => N hX 5 A rfl rfl fun A => CALL1 [0, 1, 2] (rfail_ ar ws cw s 22 ((ws.getD s.p tok0).at_) hk hn hw) A rfl rfl rfl rfl rfl rfl rfl fun A => N hX 2 A rfl rfl fun A => ENDN (RETN hX A rfl rfl rfl h0 rfl rfl rfl rfl rfl (by rw [odd_f (nd_f h1) h2] <;> rfl))))
theorem roddF_ (ar : Int) (ws : List Tk) (cw : Nat) (s : Old.Rs) (hk : s.p ≤ ws.length) (hn : ws.length ≤ 1000000) (hw : WsOK ws) : Fn Tryz.prog 30 [.ptr 0 0, .ff] [some (.blk [.int .i64 ar, .ptr 1 0, .int .i64 s.e, .int .i64 s.a]), some (.blk [.sl 2 ws.length cw, .int .i64 ((s.p : Nat) : Int)]), some (.lst 4 ws.length (fun zz => tkc (ws.getD zz tok0)))] (Rt (.tup []) [some (.blk [.int .i64 ar, .ptr 1 0, .int .i64 ((Old.oddR ws false s).e), .int .i64 ((Old.oddR ws false s).a)]), some (.blk [.sl 2 ws.length cw, .int .i64 (((Old.oddR ws false s).p : Nat) : Int)]), some (.lst 4 ws.length (fun zz => tkc (ws.getD zz tok0)))]) :=
 enterM (n := 39) (by kernel_rfl) Tryz.func30 rfl rfl rfl fun G w a h0 A => N hX 6 A rfl rfl fun A => CALL1 [1, 2] (rpeek_ ws cw s.p hk hn) A rfl rfl rfl rfl rfl rfl rfl fun A => N hX 16 A rfl rfl fun A => fork 18 A rfl
  (fun h1 A => N hX 7 A rfl rfl fun A => CALL1 [1, 2] (rwhere_ ws cw s.p hk hn hw) A rfl rfl rfl rfl rfl rfl rfl fun A => CALL1 [0, 1, 2] (rfail_ ar ws cw s 24 (atW ws s.p) hk hn hw) A rfl rfl rfl rfl rfl rfl rfl fun A => N hX 2 A rfl rfl fun A => ENDN (RETN hX A rfl rfl rfl h0 rfl rfl rfl rfl rfl (by rw [odd_e hw (nd_t h1)] <;> rfl)))
  (fun h1 A => N hX 17 A rfl rfl fun A => CALL1 [0, 1, 2] (rfail_ ar ws cw s 22 ((ws.getD s.p tok0).at_) hk hn hw) A rfl rfl rfl rfl rfl rfl rfl fun A => N hX 2 A rfl rfl fun A => ENDN (RETN hX A rfl rfl rfl h0 rfl rfl rfl rfl rfl (by rw [odd_g (nd_f h1)] <;> rfl)))
theorem rmk_ (ar : Int) (ws : List Tk) (cw : Nat) (s : Old.Rs) (m : List UInt8) (hk : s.p ≤ ws.length) (hn : ws.length ≤ 1000000) (hw : WsOK ws) : Fn Tryz.prog 78 [.ptr 0 0, .str m] [some (.blk [.int .i64 ar, .ptr 1 0, .int .i64 s.e, .int .i64 s.a]), some (.blk [.sl 2 ws.length cw, .int .i64 ((s.p : Nat) : Int)]), some (.lst 4 ws.length (fun zz => tkc (ws.getD zz tok0)))] (Rt (.tup []) [some (.blk [.int .i64 ar, .ptr 1 0, .int .i64 ((Old.markR ws m s).e), .int .i64 ((Old.markR ws m s).a)]), some (.blk [.sl 2 ws.length cw, .int .i64 (((Old.markR ws m s).p : Nat) : Int)]), some (.lst 4 ws.length (fun zz => tkc (ws.getD zz tok0)))]) :=
 enterM (n := 20) (by kernel_rfl) Tryz.func78 rfl rfl rfl fun G w a h0 A => N hX 8 A rfl rfl fun A => forkE 9 A rfl
  (fun h1 A => N hX 5 A rfl rfl fun A => CALL1 [1, 2] (rmark_ ws cw s.p m hk hn) A rfl rfl rfl rfl rfl rfl rfl fun A => N hX 4 A rfl rfl fun A => fork 17 A rfl
   (fun h2 A => N hX 3 A rfl rfl fun A => CALL1 [0, 1, 2] (roddF_ ar ws cw (⟨s.e, s.a, tkK ws s.p m⟩ : Old.Rs) (tkK_le hk) hn hw) A rfl rfl rfl rfl rfl rfl rfl fun A => N hX 1 A rfl rfl fun A => ENDN (RETN hX A rfl rfl rfl h0 rfl rfl rfl rfl rfl (by rw [mark_n h1 (by simpa using h2)] <;> rfl)))
   (fun h2 A => N hX 2 A rfl rfl fun A => ENDN (RETN hX A rfl rfl rfl h0 rfl rfl rfl rfl rfl (by rw [mark_y h1 (by simpa using h2)] <;> rfl))))
  (fun h1 A => N hX 12 A rfl rfl fun A => ENDN (RETN hX A rfl rfl rfl h0 rfl rfl rfl rfl rfl (by rw [mark_s h1] <;> rfl)))
theorem rreg_ (ar : Int) (ws : List Tk) (cw : Nat) (s : Old.Rs) (hk : s.p ≤ ws.length) (hn : ws.length ≤ 1000000) (hw : WsOK ws) (rf : List UInt8 → Int) (hrf : ∀ q : List UInt8, Fn Tryz.prog 17 [.int .i64 ar, .str q] [] (Rt (.int .i64 (rf q)) [])) : Fn Tryz.prog 77 [.ptr 0 0] [some (.blk [.int .i64 ar, .ptr 1 0, .int .i64 s.e, .int .i64 s.a]), some (.blk [.sl 2 ws.length cw, .int .i64 ((s.p : Nat) : Int)]), some (.lst 4 ws.length (fun zz => tkc (ws.getD zz tok0)))] (Rt (.int .i64 ((regG rf ws s).2)) [some (.blk [.int .i64 ar, .ptr 1 0, .int .i64 (((regG rf ws s).1).e), .int .i64 (((regG rf ws s).1).a)]), some (.blk [.sl 2 ws.length cw, .int .i64 ((((regG rf ws s).1).p : Nat) : Int)]), some (.lst 4 ws.length (fun zz => tkc (ws.getD zz tok0)))]) :=
 enterM (n := 49) (by kernel_rfl) Tryz.func77 rfl rfl rfl fun G w a h0 A => N hX 11 A rfl rfl fun A => CALL1 [1, 2] (rpeek_ ws cw s.p hk hn) A rfl rfl rfl rfl rfl rfl rfl fun A => N hX 18 A rfl rfl fun A => forkN 17 A rfl
  (fun h1 A => N hX 7 A rfl rfl fun A => RETN hX A rfl rfl rfl h0 rfl rfl rfl rfl (by rw [reg_s h1] <;> rfl) (by rw [reg_s h1] <;> rfl))
  (fun h1 A => N hX 5 A rfl rfl fun A => DRAWN hX hmo [(14, .opt (!((!(decide (s.p < ws.length))) || (!(((ws.getD s.p tok0).kind) == 1)))) (.int .i64 (rf ((ws.getD s.p tok0).text))))] [] A rfl rfl rfl rfl (by kernel_rfl) (effAll_nil _ _) ⟨.inr ⟨_, _, _, _, _, _, rfl, rfl, rfl, rfl, rfl, fun hg => hrf ((ws.getD s.p tok0).text)⟩, trivial⟩ fun A => N hX 1 A rfl rfl fun A => fork 34 A rfl
   (fun h2 A => N hX 4 A rfl rfl fun A => CALL1 [0, 1, 2] (roddT_ ar ws cw s hk hn hw) A rfl rfl rfl rfl rfl rfl rfl fun A => N hX 8 A rfl rfl fun A => RETN hX A rfl rfl rfl h0 rfl rfl rfl rfl (by rw [reg_n h1 h2] <;> rfl) (by rw [reg_n h1 h2] <;> rfl))
   (fun h2 A => N hX 9 A rfl rfl fun A => CALL1 [1, 2] (rnext_ ws cw s.p hk hn) A rfl rfl rfl rfl rfl rfl rfl fun A => N hX 3 A rfl rfl fun A => DRAWN hX hmo [(6, .int .i64 (rf ((ws.getD s.p tok0).text)))] [] A rfl rfl rfl rfl (by kernel_rfl) (effAll_nil _ _) ⟨.inl ⟨_, _, rfl, rfl, hrf ((ws.getD s.p tok0).text)⟩, trivial⟩ fun A => N hX 2 A rfl rfl fun A => RETN hX A rfl rfl rfl h0 rfl rfl rfl rfl (by rw [reg_y h1 h2] <;> rfl) (by rw [reg_y h1 h2] <;> rfl)))
theorem rnum_ (ar : Int) (ws : List Tk) (cw : Nat) (s : Old.Rs) (hk : s.p ≤ ws.length) (hn : ws.length ≤ 1000000) (hw : WsOK ws) : Fn Tryz.prog 140 [.ptr 0 0] [some (.blk [.int .i64 ar, .ptr 1 0, .int .i64 s.e, .int .i64 s.a]), some (.blk [.sl 2 ws.length cw, .int .i64 ((s.p : Nat) : Int)]), some (.lst 4 ws.length (fun zz => tkc (ws.getD zz tok0)))] (Rt (.int .i64 ((Old.numS ws s).2)) [some (.blk [.int .i64 ar, .ptr 1 0, .int .i64 (((Old.numS ws s).1).e), .int .i64 (((Old.numS ws s).1).a)]), some (.blk [.sl 2 ws.length cw, .int .i64 ((((Old.numS ws s).1).p : Nat) : Int)]), some (.lst 4 ws.length (fun zz => tkc (ws.getD zz tok0)))]) :=
 enterM (n := 44) (by kernel_rfl) Tryz.func140 rfl rfl rfl fun G w a h0 A => N hX 15 A rfl rfl fun A => forkN 10 A rfl
  (fun h1 A => N hX 7 A rfl rfl fun A => RETN hX A rfl rfl rfl h0 rfl rfl rfl rfl (by rw [num_s h1] <;> rfl) (by rw [num_s h1] <;> rfl))
  (fun h1 A => N hX 9 A rfl rfl fun A => CALL1 [1, 2] (rmark_ ws cw s.p [45] hk hn) A rfl rfl rfl rfl rfl rfl rfl fun A => N hX 9 A rfl rfl fun A => CALL1 [1, 2] (rpeek_ ws cw (tkK ws s.p [45]) (tkK_le hk) hn) A rfl rfl rfl rfl rfl rfl rfl fun A => N hX 20 A rfl rfl fun A => fork 30 A rfl
   (fun h2 A => N hX 4 A rfl rfl fun A => CALL1 [0, 1, 2] (roddF_ ar ws cw (⟨s.e, s.a, tkK ws s.p [45]⟩ : Old.Rs) (tkK_le hk) hn hw) A rfl rfl rfl rfl rfl rfl rfl fun A => N hX 8 A rfl rfl fun A => RETN hX A rfl rfl rfl h0 rfl rfl rfl rfl (by rw [numM h1, numE_n h2] <;> rfl) (by rw [numM h1, numE_n h2] <;> rfl))
   (fun h2 A => N hX 9 A rfl rfl fun A => CALL1 [1, 2] (rnext_ ws cw (tkK ws s.p [45]) (tkK_le hk) hn) A rfl rfl rfl rfl rfl rfl rfl fun A => N hX 8 A rfl rfl fun A => fork 38 A rfl
    (fun h3 A => N hX 10 A rfl rfl fun A => RETN hX A rfl rfl rfl h0 rfl rfl rfl rfl (by rw [numM h1, numE_y h2]; simp only [h3, if_true, if_false, Bool.false_eq_true] <;> rfl) (by rw [numM h1, numE_y h2] <;> rfl))
    (fun h3 A => N hX 11 A rfl rfl fun A => RETN hX A rfl rfl rfl h0 rfl rfl rfl rfl (by rw [numM h1, numE_y h2]; simp only [h3, if_true, if_false, Bool.false_eq_true] <;> rfl) (by rw [numM h1, numE_y h2] <;> rfl))))
section
variable {ws : List Tk} {k : Nat} {m : List UInt8} {s : Old.Rs} {i : Old.Ins} {rf : List UInt8 → Int}
end
theorem locN3 {q : List UInt8} (h1 : q ≠ [120]) (h2 : q ≠ [121]) (h3 : q ≠ [122]) : Old.locF q = -1 := by
  unfold Old.locF Old.locsX Old.idxL Old.idxL Old.idxL Old.idxL
  rw [Old.eqL_no (fun e => h1 e.symm), Old.eqL_no (fun e => h2 e.symm), Old.eqL_no (fun e => h3 e.symm)]; rfl
theorem rloc_ (q : List UInt8)  : Fn Tryz.prog 141 [.str q] [] (Rt (.int .i64 (Old.locF q)) []) :=
 enterM (n := 10) (by kernel_rfl) Tryz.func141 rfl rfl rfl fun G w a h0 A => N hX 18 A rfl rfl fun A => forkE 4 A rfl
  (fun h1 A => N hX 7 A rfl rfl fun A => RETN hX A rfl rfl rfl h0 rfl rfl rfl rfl (by rw [h1]; rfl) rfl)
  (fun h1 A => N hX 7 A rfl rfl fun A => forkE 6 A rfl
   (fun h2 A => N hX 7 A rfl rfl fun A => RETN hX A rfl rfl rfl h0 rfl rfl rfl rfl (by rw [h2]; rfl) rfl)
   (fun h2 A => N hX 7 A rfl rfl fun A => forkE 8 A rfl
    (fun h3 A => N hX 7 A rfl rfl fun A => RETN hX A rfl rfl rfl h0 rfl rfl rfl rfl (by rw [h3]; rfl) rfl)
    (fun h3 A => N hX 10 A rfl rfl fun A => RETN hX A rfl rfl rfl h0 rfl rfl rfl rfl (by rw [locN3 h1 h2 h3]; rfl) rfl)))
def regsA : List (List UInt8) := [[88, 48], [88, 49], [88, 50], [88, 51], [88, 52], [88, 53], [88, 54], [88, 55]]
def nameA (r : Int) : List UInt8 := if r < 0 then [] else (regsA[r.toNat]?).getD []
def regA (q : List UInt8) : Int := Old.idxL regsA q 0
def tailsA : List (List UInt8) := [[66], [72], [87], []]
def szA (q h : List UInt8) : Int := if preB q h then Old.szI (Old.idxL tailsA (q.drop h.length) 0) else 0
def endsA : List (List UInt8) := [[], [65], [76], [65, 76]]
def ordA (q h : List UInt8) : Int × Bool × Bool := if szA q (h ++ []) > 0 then (szA q (h ++ []), false, false) else if szA q (h ++ [65]) > 0 then (szA q (h ++ [65]), true, false) else if szA q (h ++ [76]) > 0 then (szA q (h ++ [76]), false, true) else if szA q (h ++ [65, 76]) > 0 then (szA q (h ++ [65, 76]), true, true) else (0, false, false)
theorem nameA_o {g : Int} (h : ((decide (g < 0)) || (decide (g > 7))) = true) : nameA g = [] := by
  unfold nameA
  simp only [Bool.or_eq_true, decide_eq_true_eq] at h
  rcases h with h | h
  · rw [if_pos h]
  · rw [if_neg (by omega), List.getElem?_eq_none (by show regsA.length ≤ _; have : regsA.length = 8 := rfl; omega)]; rfl
theorem nameA_i {g : Int} (h : ((decide (g < 0)) || (decide (g > 7))) = false) : nameA g = [88] ++ (([48, 49, 50, 51, 52, 53, 54, 55] : List UInt8).take (g + 1).toNat).drop g.toNat := by
  simp only [Bool.or_eq_false_iff, decide_eq_false_iff_not] at h
  have : g = 0 ∨ g = 1 ∨ g = 2 ∨ g = 3 ∨ g = 4 ∨ g = 5 ∨ g = 6 ∨ g = 7 := by omega
  rcases this with e | e | e | e | e | e | e | e <;> subst e <;> rfl
theorem nameA_k (k : Nat) (h : k < 8) : nameA (k : Int) = regsA.getD k [] := by
  have : k = 0 ∨ k = 1 ∨ k = 2 ∨ k = 3 ∨ k = 4 ∨ k = 5 ∨ k = 6 ∨ k = 7 := by omega
  rcases this with e | e | e | e | e | e | e | e <;> subst e <;> rfl
theorem regsA_ne (k : Nat) (h : k < 8) : regsA.getD k [] ≠ [] := by
  have : k = 0 ∨ k = 1 ∨ k = 2 ∨ k = 3 ∨ k = 4 ∨ k = 5 ∨ k = 6 ∨ k = 7 := by omega
  rcases this with e | e | e | e | e | e | e | e <;> subst e <;> decide
theorem rgA_no1 {q : List UInt8} {k : Nat} (h : k < 8) (h1 : nameA (k : Int) ≠ q) : (q == regsA.getD k []) = false := by
  rw [nameA_k k h] at h1
  exact beq_eq_false_iff_ne.2 fun e => h1 e.symm
theorem rgA_no2 {q : List UInt8} {k : Nat} (h : k < 8) (h1 : q = []) : (q == regsA.getD k []) = false := by
  rw [h1]; exact beq_eq_false_iff_ne.2 fun e => regsA_ne k h e.symm
theorem rgA_yes {q : List UInt8} {k : Nat} (h : k < 8) (h1 : nameA (k : Int) = q) : (q == regsA.getD k []) = true := by
  rw [nameA_k k h] at h1
  rw [h1]; exact beq_self_eq_true q
structure OrI (q h : List UInt8) (k : Nat) : Prop where
  le : k ≤ 4
  no : ∀ j, j < k → ¬ szA q (h ++ endsA.getD j []) > 0
theorem OrI.i0 {q h : List UInt8} : OrI q h 0 := ⟨by omega, fun j hj => by omega⟩
theorem OrI.nx {q h : List UInt8} {k : Nat} (hI : OrI q h k) (hk : k < 4) (h1 : ¬ szA q (h ++ endsA.getD k []) > 0) : OrI q h (k + 1) := ⟨by omega, fun j hj => by
  by_cases e : j = k
  · subst e; exact h1
  · exact hI.no j (by omega)⟩
theorem OrI.fi {q h : List UInt8} {k : Nat} (hI : OrI q h k) (hk : 4 ≤ k) : ordA q h = (0, false, false) := by
  have a0 : ¬ szA q (h ++ []) > 0 := hI.no 0 (by omega)
  have a1 : ¬ szA q (h ++ [65]) > 0 := hI.no 1 (by omega)
  have a2 : ¬ szA q (h ++ [76]) > 0 := hI.no 2 (by omega)
  have a3 : ¬ szA q (h ++ [65, 76]) > 0 := hI.no 3 (by omega)
  unfold ordA; rw [if_neg a0, if_neg a1, if_neg a2, if_neg a3]
theorem rname_a (g : Int)  : Fn Tryz.prog 15 [.int .i64 3, .int .i64 g] [] (Rt (.str (nameA g)) []) :=
 enterM (n := 37) (by kernel_rfl) Tryz.func15 rfl rfl rfl fun G w a h0 A => N hX 16 A rfl rfl fun A => fork 12 A rfl
  (fun h1 A => N hX 7 A rfl rfl fun A => RETN hX A rfl rfl rfl h0 rfl rfl rfl rfl (by rw [nameA_o h1]; rfl) rfl)
  (fun h1 A => N hX 27 A rfl rfl fun A => forkE 15 A rfl
   (fun h2 A => absurd h2 (by decide))
   (fun h2 A => N hX 7 A rfl rfl fun A => forkE 21 A rfl
    (fun h3 A => absurd h3 (by decide))
    (fun h3 A => N hX 7 A rfl rfl fun A => forkE 29 A rfl
     (fun h4 A => N hX 13 A rfl (ok_d (by have hz := h1; simp only [Bool.or_eq_false_iff, decide_eq_false_iff_not] at hz; (try simp only [List.length_cons, List.length_nil, List.length_drop, List.length_take]); omega) <| ok_d (by have hz := h1; simp only [Bool.or_eq_false_iff, decide_eq_false_iff_not] at hz; (try simp only [List.length_cons, List.length_nil, List.length_drop, List.length_take]); omega) <| ok_d (by have hz := h1; simp only [Bool.or_eq_false_iff, decide_eq_false_iff_not] at hz; (try simp only [List.length_cons, List.length_nil, List.length_drop, List.length_take]); omega) <| okE_nil) fun A => RETN hX A rfl rfl rfl h0 rfl rfl rfl rfl (by rw [nameA_i h1]; rfl) rfl)
     (fun h4 A => absurd rfl h4))))
theorem rregn_a (q : List UInt8)  : Fn Tryz.prog 17 [.int .i64 3, .str q] [] (Rt (.int .i64 (regA q)) []) :=
 enterM (n := 20) (by kernel_rfl) Tryz.func17 rfl rfl rfl fun G w a h0 A => N hX 12 A rfl rfl fun A => LOOP1 (fun (k : Nat) => [(0, .int .i64 3), (1, .str q), (4, .int .i64 0), (5, .int .i64 (k : Int))]) (fun (k : Nat) => []) (fun (k : Nat) => IxI regsA q k) (fun (k : Nat) => 8 - k) 0 IxI.i0 ((A.cut [0, 1, 4, 5] rfl).trunc 0 rfl rfl rfl (by simp only [List.length_cons, List.length_nil] at h0; omega)) fun k hI {G a w} A => N hX 7 A rfl rfl fun A => forkD 7 A rfl
   (fun h1 A => N hX 10 A rfl rfl fun A => forkN 12 A rfl
    (fun h2 A => N hX 2 A rfl rfl fun A => CALL1 [] (rname_a (k : Int)) A rfl rfl rfl rfl rfl rfl rfl fun A => N hX 5 A rfl rfl fun A => forkE 18 A rfl
     (fun h3 A => N hX 8 A rfl rfl fun A => RETN hX A rfl rfl rfl h0 rfl rfl rfl rfl (by unfold regA; rw [← idxS_L, hI.hit (by show k < 8; omega) (rgA_yes (by omega) h3)]; rfl) rfl)
     (fun h3 A => N hX 9 A rfl (ok_d (by have := hI.le; have e : regsA.length = 8 := rfl; omega) <| okE_nil) fun A => ⟨k + 1, _, (by omega), (hI.nx (by show k < 8; omega) (rgA_no1 (by omega) h3)), ((A.cut [0, 1, 4, 5] rfl).trunc 0 rfl rfl rfl (by simp only [List.length_cons, List.length_nil] at h0; omega))⟩))
    (fun h2 A => N hX 17 A rfl (ok_d (by have := hI.le; have e : regsA.length = 8 := rfl; omega) <| okE_nil) fun A => ⟨k + 1, _, (by omega), (hI.nx (by show k < 8; omega) (rgA_no2 (by omega) h2)), ((A.cut [0, 1, 4, 5] rfl).trunc 0 rfl rfl rfl (by simp only [List.length_cons, List.length_nil] at h0; omega))⟩))
   (fun h1 A => N hX 9 A rfl rfl fun A => RETN hX A rfl rfl rfl h0 rfl rfl rfl rfl (by unfold regA; rw [← idxS_L, hI.fi (by show 8 ≤ k; omega)]; rfl) rfl)


end Go.Proofs.YtedlaclfhgneeabGreatDoor
namespace Go.Proofs.YtedlaclfhgneeabGreatDoor
open Go.Shelf Go.RowKit
set_option linter.unusedVariables false

end Go.Proofs.YtedlaclfhgneeabGreatDoor
namespace Go.Proofs.YtedlaclfhgneeabGreatDoor
open Go.RowKit
set_option linter.unusedVariables false
set_option linter.unusedSimpArgs false
set_option maxRecDepth 100000
set_option maxHeartbeats 2000000
set_option simprocs false
section
variable {P : Program} {n : Nat} {ks : List Nat} {G0 : Gr} {w0 : World} {T : List (Nat × SV)} {H : Hp} {G : Gr} {a : Act} {w w' : World} {Q : Exit → Act → World → Prop} {K : List Fr} {ops : Array Oper} {o : Oper} {rest : List Oper} {c : Code}
end
def c5 : List (List UInt8 × Int) := [([65, 68, 68], 1), ([83, 85, 66], 2), ([69, 79, 82], 3), ([65, 78, 68], 4), ([79, 82, 82], 5)]
abbrev cr1 (x : List UInt8 × Int) (b1 : Nat) : Rw := ⟨x.1, [], insF 3 x.2, some ⟨b1, 0, none⟩, [1, 2, 3], 3⟩
abbrev cr2 (x : List UInt8 × Int) (b2 : Nat) : Rw := ⟨x.1, [], insF 3 x.2, some ⟨b2, 0, none⟩, [1, 2, 5], 3⟩
def acomp : List (List UInt8 × List UInt8 × In × List Int) := c5.flatMap fun x => [(x.1, [], insF 3 x.2, [1, 2, 3]), (x.1, [], insF 3 x.2, [1, 2, 5])]
structure AC (lo : Nat) (z : List Rw × Nat) (w : World) (ks : List Nat) : Prop where
  le : z.2 ≤ 5
  tm : z.1.map tm = acomp.take (2 * z.2)
  rw : RowsIn lo z.1 w ks
theorem AC.len {lo : Nat} {z : List Rw × Nat} {w : World} {ks : List Nat} (h : AC lo z w ks) : z.1.length = 2 * z.2 := by
  have h1 := congrArg List.length h.tm
  rw [List.length_map, List.length_take] at h1
  have h2 : acomp.length = 10 := by decide
  have := h.le
  omega
theorem AC.nx {lo b1 b2 : Nat} {z : List Rw × Nat} {w w1 : World} {ks ks1 : List Nat} {l : List (Nat × List SV)} (h : AC lo z w ks) (hk : (z.2 : Int) < 5) (hr : RowsIn lo z.1 w1 ks1) (hA : Acc lo [(b2, [.int .i64 1, .int .i64 2, .int .i64 5]), (b1, [.int .i64 1, .int .i64 2, .int .i64 3])] w1 ks1) : AC lo (z.1 ++ [cr1 (c5.getD ((z.2 : Int)).toNat nz) b1, cr2 (c5.getD ((z.2 : Int)).toNat nz) b2], z.2 + 1) w1 ks1 := by
  refine ⟨by have := h.le; show z.2 + 1 ≤ 5; omega, ?_, fun r hr' => ?_⟩
  · show List.map _ (z.1 ++ _) = _
    rw [List.map_append, h.tm, Int.toNat_natCast]
    have : z.2 = 0 ∨ z.2 = 1 ∨ z.2 = 2 ∨ z.2 = 3 ∨ z.2 = 4 := by omega
    rcases this with e | e | e | e | e <;> rw [e] <;> rfl
  · rcases List.mem_append.1 hr' with h1 | h1
    · exact hr r h1
    · simp only [List.mem_cons, List.mem_nil_iff, or_false] at h1
      rcases h1 with rfl | rfl
      · exact lies_of (cs := []) [1, 2, 3] hA (List.mem_cons_of_mem _ (List.mem_cons_self))
      · exact lies_of (cs := []) [1, 2, 5] hA (List.mem_cons_self)
abbrev sz : List UInt8 × Bool × Bool := ([], false, false)
def a2 : List (List UInt8 × Int) := [([83, 87, 80], 6), ([76, 68, 65, 68, 68], 1)]
def s4 : List (List UInt8 × Bool × Bool) := [([], false, false), ([65], true, false), ([76], false, true), ([65, 76], true, true)]
def insA (x : List UInt8 × Int) (y : List UInt8 × Bool × Bool) : In := ⟨6, 0, 0, 0, 0, 0, 0, 0, 0, x.2, y.2.1, false, y.2.2, 0, 0, 0, false⟩
abbrev aa1 (x : List UInt8 × Int) (y : List UInt8 × Bool × Bool) (b1 : Nat) : Rw := ⟨(x.1 ++ y.1) ++ [42], [], insA x y, some ⟨b1, 0, none⟩, [2, 1, 6], 3⟩
def aatom : List (List UInt8 × List UInt8 × In × List Int) := a2.flatMap fun x => s4.map fun y => ((x.1 ++ y.1) ++ [42], [], insA x y, [2, 1, 6])
structure AA (lo n : Nat) (L : List Rw) (w : World) (ks : List Nat) : Prop where
  tm : L.map tm = aatom.take n
  rw : RowsIn lo L w ks
theorem AA.len {lo n : Nat} {L : List Rw} {w : World} {ks : List Nat} (h : AA lo n L w ks) : L.length ≤ 8 ∧ (n ≤ 8 → L.length = n) := by
  have h1 := congrArg List.length h.tm
  rw [List.length_map, List.length_take] at h1
  have h2 : aatom.length = 8 := by decide
  omega
theorem AA.nx {lo b1 k j : Nat} {L : List Rw} {w w1 : World} {ks ks1 : List Nat} (h : AA lo (4 * k + j) L w ks) (hk : k < 2) (hj : j < 4) (hr : RowsIn lo L w1 ks1) (hA : Acc lo [(b1, [.int .i64 2, .int .i64 1, .int .i64 6])] w1 ks1) : AA lo (4 * k + (j + 1)) (L ++ [aa1 (a2.getD ((k : Int)).toNat nz) (s4.getD ((j : Int)).toNat sz) b1]) w1 ks1 := by
  refine ⟨?_, fun r hr' => ?_⟩
  · rw [List.map_append, h.tm, Int.toNat_natCast, Int.toNat_natCast]
    have q1 : k = 0 ∨ k = 1 := by omega
    have q2 : j = 0 ∨ j = 1 ∨ j = 2 ∨ j = 3 := by omega
    rcases q1 with e | e <;> rcases q2 with e2 | e2 | e2 | e2 <;> rw [e, e2] <;> rfl
  · rcases List.mem_append.1 hr' with h1 | h1
    · exact hr r h1
    · simp only [List.mem_cons, List.mem_nil_iff, or_false] at h1
      subst h1
      exact lies_of (cs := []) [2, 1, 6] hA List.mem_cons_self
abbrev fz : List UInt8 × Int × Int := ([], 0, 0)
def f3 : List (List UInt8 × Int × Int) := [([83, 89], 3, 3), ([76, 68], 1, 3), ([83, 84], 2, 2)]
def insN (x : List UInt8 × Int × Int) : In := ⟨7, 0, 0, 0, 0, 0, 0, 0, 0, 0, false, false, false, x.2.1, x.2.2, 0, false⟩
abbrev fr1 (x : List UInt8 × Int × Int) (b1 : Nat) : Rw := ⟨[68, 77, 66], x.1, insN x, some ⟨b1, 0, none⟩, [10], 1⟩
def afen : List (List UInt8 × List UInt8 × In × List Int) := f3.map fun x => ([68, 77, 66], x.1, insN x, [10])
structure AF (lo : Nat) (z : List Rw × Nat) (w : World) (ks : List Nat) : Prop where
  le : z.2 ≤ 3
  tm : z.1.map tm = afen.take z.2
  rw : RowsIn lo z.1 w ks
theorem AF.len {lo : Nat} {z : List Rw × Nat} {w : World} {ks : List Nat} (h : AF lo z w ks) : z.1.length = z.2 := by
  have h1 := congrArg List.length h.tm
  rw [List.length_map, List.length_take] at h1
  have h2 : afen.length = 3 := by decide
  have := h.le
  omega
theorem AF.nx {lo b1 : Nat} {z : List Rw × Nat} {w w1 : World} {ks ks1 : List Nat} {l : List (Nat × List SV)} (h : AF lo z w ks) (hk : (z.2 : Int) < 3) (hr : RowsIn lo z.1 w1 ks1) (hA : Acc lo [(b1, [.int .i64 10])] w1 ks1) : AF lo (z.1 ++ [fr1 (f3.getD ((z.2 : Int)).toNat fz) b1], z.2 + 1) w1 ks1 := by
  refine ⟨by have := h.le; show z.2 + 1 ≤ 3; omega, ?_, fun r hr' => ?_⟩
  · show List.map _ (z.1 ++ _) = _
    rw [List.map_append, h.tm, Int.toNat_natCast]
    have : z.2 = 0 ∨ z.2 = 1 ∨ z.2 = 2 := by omega
    rcases this with e | e | e <;> rw [e] <;> rfl
  · rcases List.mem_append.1 hr' with h1 | h1
    · exact hr r h1
    · simp only [List.mem_cons, List.mem_nil_iff, or_false] at h1
      subst h1
      exact lies_of (cs := []) [10] hA List.mem_cons_self

section
variable {n : Nat} {ks : List Nat} {G0 : Gr} {w0 : World} {T : List (Nat × SV)} {H : Hp} {G : Gr} {a : Act} {w : World} {Q : Exit → Act → World → Prop} {K : List Fr} {ops : Array Oper} {o : Oper} {rest : List Oper}
end
section
variable {n : Nat} {ks : List Nat} {G0 : Gr} {w0 : World} {T : List (Nat × SV)} {H : Hp} {G : Gr} {a : Act} {w : World} {Q : Exit → Act → World → Prop} {K : List Fr} {ops : Array Oper} {o : Oper} {rest : List Oper}
end
end Go.Proofs.YtedlaclfhgneeabGreatDoor
namespace Go.Proofs.YtedlaclfhgneeabGreatDoor
open Go.RowKit
set_option linter.unusedVariables false
set_option linter.unusedSimpArgs false
set_option maxRecDepth 100000
set_option maxHeartbeats 2000000
section
variable {g : Lg} {L : List Rw} {i : In} {lb : List UInt8}
end
end Go.Proofs.YtedlaclfhgneeabGreatDoor
namespace Go.Proofs.YtedlaclfhgneeabGreatDoor
open Go.RowKit
set_option linter.unusedVariables false
set_option linter.unusedSimpArgs false
set_option linter.unusedSectionVars false
section
variable {P : Program} {n : Nat} {ks : List Nat} {G0 : Gr} {w0 : World} {T : List (Nat × SV)} {H : Hp} {G : Gr} {a : Act} {w w' : World} {Q : Exit → Act → World → Prop} {K : List Fr} {ops : Array Oper} {o : Oper} {rest : List Oper} {fuel i : Nat} {listed : Array Bool}
end
end Go.Proofs.YtedlaclfhgneeabGreatDoor
namespace Go.Proofs.YtedlaclfhgneeabGreatDoor
open Go.RowKit
set_option linter.unusedVariables false
set_option linter.unusedSimpArgs false
set_option maxRecDepth 100000
set_option maxHeartbeats 2000000
set_option simprocs false

section
variable {ws : List Tk} {s : Old.Rs} {i : Old.Ins} {z : Bool}
end
section
variable {ws : List Tk} {s : Old.Rs} {i : Old.Ins}
end
end Go.Proofs.YtedlaclfhgneeabGreatDoor
namespace Go.Proofs.YtedlaclfhgneeabGreatDoor
open Go.RowKit
set_option linter.unusedVariables false
set_option linter.unusedSimpArgs false
end Go.Proofs.YtedlaclfhgneeabGreatDoor
namespace Go.Proofs.YtedlaclfhgneeabGreatDoor.Old
set_option linter.unusedSimpArgs false
open Go.RowKit
end Go.Proofs.YtedlaclfhgneeabGreatDoor.Old
namespace Go.Proofs.YtedlaclfhgneeabGreatDoor
set_option linter.unusedSimpArgs false
end Go.Proofs.YtedlaclfhgneeabGreatDoor
namespace Go.Proofs.YtedlaclfhgneeabGreatDoor
set_option linter.unusedVariables false

end Go.Proofs.YtedlaclfhgneeabGreatDoor
namespace Go.Proofs.YtedlaclfhgneeabGreatDoor
open Go.RowKit
set_option linter.unusedVariables false
set_option linter.unusedSimpArgs false
set_option maxRecDepth 100000
set_option maxHeartbeats 2000000

end Go.Proofs.YtedlaclfhgneeabGreatDoor
namespace Go.Proofs.YtedlaclfhgneeabGreatDoor
open Go.RowKit
set_option linter.unusedVariables false
set_option linter.unusedSimpArgs false
set_option maxRecDepth 100000
set_option maxHeartbeats 2000000
set_option simprocs false
theorem regnm_a (r : Int) : regnm0 [88, 48] [88, 49] [88, 50] [88, 51] [88, 52] [88, 53] [88, 54] [88, 55] r = nameA r := by
  unfold regnm0
  split
  · next h => rw [nameA_o (by revert h; simp only [Bool.or_eq_true, decide_eq_true_eq]; omega)]
  · next h =>
    have : r = 0 ∨ r = 1 ∨ r = 2 ∨ r = 3 ∨ r = 4 ∨ r = 5 ∨ r = 6 ∨ r = 7 := by
      revert h; simp only [Bool.or_eq_true, decide_eq_true_eq]; omega
    rcases this with e | e | e | e | e | e | e | e <;> subst e <;> rfl
theorem aname_ (r : Int)  : Fn Tryz.prog 14 [.int .i64 r] [] (Rt (.str (nameA r)) []) :=
 enterM (n := 6) (by kernel_rfl) Tryz.func14 rfl rfl rfl fun G w a h0 A => N hX 7 A rfl rfl fun A => CALL1 [] aregs_ A rfl rfl rfl rfl rfl rfl rfl fun A => N hX 1 A rfl rfl fun A => CALL1 [] (regnm_ [88, 48] [88, 49] [88, 50] [88, 51] [88, 52] [88, 53] [88, 54] [88, 55] r) A rfl rfl rfl rfl rfl rfl rfl fun A => N hX 4 A rfl rfl fun A => RETN hX A rfl rfl rfl h0 rfl rfl rfl rfl (by rw [← regnm_a] <;> rfl) rfl
def regsV : List (List UInt8) := [[97, 48], [97, 49], [97, 50], [97, 51], [97, 52], [97, 53], [97, 54], [97, 55]]
def nameV (r : Int) : List UInt8 := if r < 0 then [] else (regsV[r.toNat]?).getD []
def regV (q : List UInt8) : Int := Old.idxL regsV q 0
def alusV : List (List UInt8) := [[97, 100, 100], [115, 117, 98], [120, 111, 114], [97, 110, 100], [111, 114]]
def alusW : List (List UInt8) := [[97, 100, 100, 105], [115, 117, 98, 105], [120, 111, 114, 105], [97, 110, 100, 105], [111, 114, 105]]
def aluV (q : List UInt8) : Int × Bool := if idxS alusV q < 0 then (if idxS alusW q < 0 then (0, false) else (idxS alusW q + 1, true)) else (idxS alusV q + 1, false)
theorem nameV_o {g : Int} (h : ((decide (g < 0)) || (decide (g > 7))) = true) : nameV g = [] := by
  unfold nameV
  simp only [Bool.or_eq_true, decide_eq_true_eq] at h
  rcases h with h | h
  · rw [if_pos h]
  · rw [if_neg (by omega), List.getElem?_eq_none (by show regsV.length ≤ _; have : regsV.length = 8 := rfl; omega)]; rfl
theorem nameV_i {g : Int} (h : ((decide (g < 0)) || (decide (g > 7))) = false) : nameV g = [97] ++ (([48, 49, 50, 51, 52, 53, 54, 55] : List UInt8).take (g + 1).toNat).drop g.toNat := by
  simp only [Bool.or_eq_false_iff, decide_eq_false_iff_not] at h
  have : g = 0 ∨ g = 1 ∨ g = 2 ∨ g = 3 ∨ g = 4 ∨ g = 5 ∨ g = 6 ∨ g = 7 := by omega
  rcases this with e | e | e | e | e | e | e | e <;> subst e <;> rfl
theorem nameV_k (k : Nat) (h : k < 8) : nameV (k : Int) = regsV.getD k [] := by
  have : k = 0 ∨ k = 1 ∨ k = 2 ∨ k = 3 ∨ k = 4 ∨ k = 5 ∨ k = 6 ∨ k = 7 := by omega
  rcases this with e | e | e | e | e | e | e | e <;> subst e <;> rfl
theorem regsV_ne (k : Nat) (h : k < 8) : regsV.getD k [] ≠ [] := by
  have : k = 0 ∨ k = 1 ∨ k = 2 ∨ k = 3 ∨ k = 4 ∨ k = 5 ∨ k = 6 ∨ k = 7 := by omega
  rcases this with e | e | e | e | e | e | e | e <;> subst e <;> decide
theorem rgV_no1 {q : List UInt8} {k : Nat} (h : k < 8) (h1 : nameV (k : Int) ≠ q) : (q == regsV.getD k []) = false := by
  rw [nameV_k k h] at h1
  exact beq_eq_false_iff_ne.2 fun e => h1 e.symm
theorem rgV_no2 {q : List UInt8} {k : Nat} (h : k < 8) (h1 : q = []) : (q == regsV.getD k []) = false := by
  rw [h1]; exact beq_eq_false_iff_ne.2 fun e => regsV_ne k h e.symm
theorem rgV_yes {q : List UInt8} {k : Nat} (h : k < 8) (h1 : nameV (k : Int) = q) : (q == regsV.getD k []) = true := by
  rw [nameV_k k h] at h1
  rw [h1]; exact beq_self_eq_true q
theorem alW (k : Nat) (h : k < 5) : alusV.getD k [] ++ [105] = alusW.getD k [] := by
  have : k = 0 ∨ k = 1 ∨ k = 2 ∨ k = 3 ∨ k = 4 := by omega
  rcases this with e | e | e | e | e <;> subst e <;> rfl
theorem rname_v (g : Int)  : Fn Tryz.prog 15 [.int .i64 2, .int .i64 g] [] (Rt (.str (nameV g)) []) :=
 enterM (n := 37) (by kernel_rfl) Tryz.func15 rfl rfl rfl fun G w a h0 A => N hX 16 A rfl rfl fun A => fork 12 A rfl
  (fun h1 A => N hX 7 A rfl rfl fun A => RETN hX A rfl rfl rfl h0 rfl rfl rfl rfl (by rw [nameV_o h1]; rfl) rfl)
  (fun h1 A => N hX 27 A rfl rfl fun A => forkE 15 A rfl
   (fun h2 A => absurd h2 (by decide))
   (fun h2 A => N hX 7 A rfl rfl fun A => forkE 21 A rfl
    (fun h3 A => N hX 13 A rfl (ok_d (by have hz := h1; simp only [Bool.or_eq_false_iff, decide_eq_false_iff_not] at hz; (try simp only [List.length_cons, List.length_nil, List.length_drop, List.length_take]); omega) <| ok_d (by have hz := h1; simp only [Bool.or_eq_false_iff, decide_eq_false_iff_not] at hz; (try simp only [List.length_cons, List.length_nil, List.length_drop, List.length_take]); omega) <| ok_d (by have hz := h1; simp only [Bool.or_eq_false_iff, decide_eq_false_iff_not] at hz; (try simp only [List.length_cons, List.length_nil, List.length_drop, List.length_take]); omega) <| okE_nil) fun A => RETN hX A rfl rfl rfl h0 rfl rfl rfl rfl (by rw [nameV_i h1]; rfl) rfl)
    (fun h3 A => absurd rfl h3)))
theorem rregn_v (q : List UInt8)  : Fn Tryz.prog 17 [.int .i64 2, .str q] [] (Rt (.int .i64 (regV q)) []) :=
 enterM (n := 20) (by kernel_rfl) Tryz.func17 rfl rfl rfl fun G w a h0 A => N hX 12 A rfl rfl fun A => LOOP1 (fun (k : Nat) => [(0, .int .i64 2), (1, .str q), (4, .int .i64 0), (5, .int .i64 (k : Int))]) (fun (k : Nat) => []) (fun (k : Nat) => IxI regsV q k) (fun (k : Nat) => 8 - k) 0 IxI.i0 ((A.cut [0, 1, 4, 5] rfl).trunc 0 rfl rfl rfl (by simp only [List.length_cons, List.length_nil] at h0; omega)) fun k hI {G a w} A => N hX 7 A rfl rfl fun A => forkD 7 A rfl
   (fun h1 A => N hX 10 A rfl rfl fun A => forkN 12 A rfl
    (fun h2 A => N hX 2 A rfl rfl fun A => CALL1 [] (rname_v (k : Int)) A rfl rfl rfl rfl rfl rfl rfl fun A => N hX 5 A rfl rfl fun A => forkE 18 A rfl
     (fun h3 A => N hX 8 A rfl rfl fun A => RETN hX A rfl rfl rfl h0 rfl rfl rfl rfl (by unfold regV; rw [← idxS_L, hI.hit (by show k < 8; omega) (rgV_yes (by omega) h3)]; rfl) rfl)
     (fun h3 A => N hX 9 A rfl (ok_d (by have := hI.le; have e : regsV.length = 8 := rfl; omega) <| okE_nil) fun A => ⟨k + 1, _, (by omega), (hI.nx (by show k < 8; omega) (rgV_no1 (by omega) h3)), ((A.cut [0, 1, 4, 5] rfl).trunc 0 rfl rfl rfl (by simp only [List.length_cons, List.length_nil] at h0; omega))⟩))
    (fun h2 A => N hX 17 A rfl (ok_d (by have := hI.le; have e : regsV.length = 8 := rfl; omega) <| okE_nil) fun A => ⟨k + 1, _, (by omega), (hI.nx (by show k < 8; omega) (rgV_no2 (by omega) h2)), ((A.cut [0, 1, 4, 5] rfl).trunc 0 rfl rfl rfl (by simp only [List.length_cons, List.length_nil] at h0; omega))⟩))
   (fun h1 A => N hX 9 A rfl rfl fun A => RETN hX A rfl rfl rfl h0 rfl rfl rfl rfl (by unfold regV; rw [← idxS_L, hI.fi (by show 8 ≤ k; omega)]; rfl) rfl)
structure AlI (q : List UInt8) (k : Nat) : Prop where
  a : IxI alusV q k
  b : IxI alusW q k
theorem AlI.i0 {q : List UInt8} : AlI q 0 := ⟨IxI.i0, IxI.i0⟩
theorem AlI.nx {q : List UInt8} {k : Nat} (hI : AlI q k) (hk : k < 5) (h1 : alusV.getD k [] ≠ q) (h2 : alusV.getD k [] ++ [105] ≠ q) : AlI q (k + 1) := ⟨hI.a.nx hk (beq_eq_false_iff_ne.2 fun e => h1 e.symm), hI.b.nx hk (beq_eq_false_iff_ne.2 fun e => h2 (by rw [alW k hk]; exact e.symm))⟩
theorem AlI.fi {q : List UInt8} {k : Nat} (hI : AlI q k) (hk : 5 ≤ k) : aluV q = (0, false) := by
  unfold aluV; rw [hI.a.fi hk, hI.b.fi hk]; rfl
theorem regnm_v (r : Int) : regnm0 [97, 48] [97, 49] [97, 50] [97, 51] [97, 52] [97, 53] [97, 54] [97, 55] r = nameV r := by
  unfold regnm0
  split
  · next h => rw [nameV_o (by revert h; simp only [Bool.or_eq_true, decide_eq_true_eq]; omega)]
  · next h =>
    have : r = 0 ∨ r = 1 ∨ r = 2 ∨ r = 3 ∨ r = 4 ∨ r = 5 ∨ r = 6 ∨ r = 7 := by
      revert h; simp only [Bool.or_eq_true, decide_eq_true_eq]; omega
    rcases this with e | e | e | e | e | e | e | e <;> subst e <;> rfl
theorem vname_ (r : Int)  : Fn Tryz.prog 110 [.int .i64 r] [] (Rt (.str (nameV r)) []) :=
 enterM (n := 6) (by kernel_rfl) Tryz.func110 rfl rfl rfl fun G w a h0 A => N hX 7 A rfl rfl fun A => CALL1 [] rregs_ A rfl rfl rfl rfl rfl rfl rfl fun A => N hX 1 A rfl rfl fun A => CALL1 [] (regnm_ [97, 48] [97, 49] [97, 50] [97, 51] [97, 52] [97, 53] [97, 54] [97, 55] r) A rfl rfl rfl rfl rfl rfl rfl fun A => N hX 4 A rfl rfl fun A => RETN hX A rfl rfl rfl h0 rfl rfl rfl rfl (by rw [← regnm_v] <;> rfl) rfl
def rgA (nf : Int → List UInt8) (k j : Nat) : List UInt8 := if j < k then nf j else []
theorem rgA_ne {nf : Int → List UInt8} {k j : Nat} (h : j ≠ k) : rgA nf (k + 1) j = rgA nf k j := by
  unfold rgA
  by_cases hj : j < k
  · rw [if_pos hj, if_pos (by omega)]
  · rw [if_neg hj, if_neg (by omega)]
theorem rgA_at {nf : Int → List UInt8} {k : Nat} : rgA nf (k + 1) k = nf k := by unfold rgA; rw [if_pos (by omega)]
def rgL (nf : Int → List UInt8) : List (List UInt8) := [nf 0, nf 1, nf 2, nf 3, nf 4, nf 5, nf 6, nf 7]
theorem rgA_8 {nf : Int → List UInt8} (j : Nat) (h : j < 8) : (rgL nf).getD j [] = rgA nf 8 j := by
  have : j = 0 ∨ j = 1 ∨ j = 2 ∨ j = 3 ∨ j = 4 ∨ j = 5 ∨ j = 6 ∨ j = 7 := by omega
  rcases this with e | e | e | e | e | e | e | e <;> subst e <;> rfl
theorem regnX_   : Fn Tryz.prog 108 [.fn 109 []] [] (Rt (.sl 0 8 8) [some (.row 9 1 8 8 (fun zz => [.str ((rgL Old.nameF).getD zz [])]))]) :=
 enterM (n := 19) (by kernel_rfl) Tryz.func108 rfl rfl rfl fun G w a h0 A => N hX 7 A rfl rfl fun A => q_eff A rfl (mkE' (m := 8) (fun j => [.str (rgA Old.nameF 0 j)]) (fun j => by show [SV.str (rgA Old.nameF 0 j)] = _; unfold rgA; rw [if_neg (by omega)]) rfl rfl rfl rfl (by kernel_rfl) strInfo (by omega) rfl) fun A => N hX 12 A rfl rfl fun A => LOOP1 (fun (k : Nat) => [(0, .fn 109 []), (2, .sla none 0 0), (3, .sl 0 8 8), (7, .int .i64 ((8 : Nat) : Int)), (8, .int .i64 (k : Int))]) (fun (k : Nat) => [some (.row 9 1 8 8 (fun j => [.str (rgA Old.nameF k j)]))]) (fun (k : Nat) => k ≤ 8 ∧ True) (fun (k : Nat) => 8 - k) 0 ⟨by omega, trivial⟩ ((A.cut [0, 2, 3, 7, 8] rfl).trunc 1 rfl rfl rfl (by simp only [List.length_cons, List.length_nil] at h0; omega)) fun k hI {G a w} A => N hX 6 A rfl rfl fun A => forkD 9 A rfl
   (fun h1 A => N hX 16 A rfl rfl fun A => CALL1 [] (xname_ (k : Int)) A rfl rfl rfl rfl rfl rfl rfl fun A => N hX 1 A rfl (ok_d (by have := hI.1; omega) <| okE_nil) fun A => STR (i := 0) (e := 9) (s := 1) (m := 8) (c := 8) hX k (fun j => [.str (rgA Old.nameF (k + 1) j)]) A rfl rfl (Int.toNat_natCast k) (by omega) (fun z hz => by show [SV.str _] = [SV.str _]; rw [rgA_ne hz]) (by show _ = some [SV.str _]; rw [rgA_at]; rfl) fun A => N hX 7 A rfl (ok_d (by have := hI.1; omega) <| okE_nil) fun A => ⟨k + 1, _, (by omega), ⟨by omega, trivial⟩, ((A.cut [0, 2, 3, 7, 8] rfl).trunc 1 rfl rfl rfl (by simp only [List.length_cons, List.length_nil] at h0; omega))⟩)
   (fun h1 A => N hX 10 A rfl rfl fun A => have A := A.rowAs 0 8 (fun zz => [.str ((rgL Old.nameF).getD zz [])]) rfl rfl (fun j hj => by show [SV.str _] = [SV.str (rgA Old.nameF k j)]; rw [show k = 8 by have := hI.1; omega, rgA_8 j hj]) (fun z => ⟨_, rfl, rfl⟩); RET hX [0] A ⟨rfl, rfl⟩ rfl rfl rfl rfl rfl rfl rfl rfl h0)
theorem regnV_   : Fn Tryz.prog 108 [.fn 110 []] [] (Rt (.sl 0 8 8) [some (.row 9 1 8 8 (fun zz => [.str ((rgL nameV).getD zz [])]))]) :=
 enterM (n := 19) (by kernel_rfl) Tryz.func108 rfl rfl rfl fun G w a h0 A => N hX 7 A rfl rfl fun A => q_eff A rfl (mkE' (m := 8) (fun j => [.str (rgA nameV 0 j)]) (fun j => by show [SV.str (rgA nameV 0 j)] = _; unfold rgA; rw [if_neg (by omega)]) rfl rfl rfl rfl (by kernel_rfl) strInfo (by omega) rfl) fun A => N hX 12 A rfl rfl fun A => LOOP1 (fun (k : Nat) => [(0, .fn 110 []), (2, .sla none 0 0), (3, .sl 0 8 8), (7, .int .i64 ((8 : Nat) : Int)), (8, .int .i64 (k : Int))]) (fun (k : Nat) => [some (.row 9 1 8 8 (fun j => [.str (rgA nameV k j)]))]) (fun (k : Nat) => k ≤ 8 ∧ True) (fun (k : Nat) => 8 - k) 0 ⟨by omega, trivial⟩ ((A.cut [0, 2, 3, 7, 8] rfl).trunc 1 rfl rfl rfl (by simp only [List.length_cons, List.length_nil] at h0; omega)) fun k hI {G a w} A => N hX 6 A rfl rfl fun A => forkD 9 A rfl
   (fun h1 A => N hX 16 A rfl rfl fun A => CALL1 [] (vname_ (k : Int)) A rfl rfl rfl rfl rfl rfl rfl fun A => N hX 1 A rfl (ok_d (by have := hI.1; omega) <| okE_nil) fun A => STR (i := 0) (e := 9) (s := 1) (m := 8) (c := 8) hX k (fun j => [.str (rgA nameV (k + 1) j)]) A rfl rfl (Int.toNat_natCast k) (by omega) (fun z hz => by show [SV.str _] = [SV.str _]; rw [rgA_ne hz]) (by show _ = some [SV.str _]; rw [rgA_at]; rfl) fun A => N hX 7 A rfl (ok_d (by have := hI.1; omega) <| okE_nil) fun A => ⟨k + 1, _, (by omega), ⟨by omega, trivial⟩, ((A.cut [0, 2, 3, 7, 8] rfl).trunc 1 rfl rfl rfl (by simp only [List.length_cons, List.length_nil] at h0; omega))⟩)
   (fun h1 A => N hX 10 A rfl rfl fun A => have A := A.rowAs 0 8 (fun zz => [.str ((rgL nameV).getD zz [])]) rfl rfl (fun j hj => by show [SV.str _] = [SV.str (rgA nameV k j)]; rw [show k = 8 by have := hI.1; omega, rgA_8 j hj]) (fun z => ⟨_, rfl, rfl⟩); RET hX [0] A ⟨rfl, rfl⟩ rfl rfl rfl rfl rfl rfl rfl rfl h0)
theorem regnA_   : Fn Tryz.prog 108 [.fn 14 []] [] (Rt (.sl 0 8 8) [some (.row 9 1 8 8 (fun zz => [.str ((rgL nameA).getD zz [])]))]) :=
 enterM (n := 19) (by kernel_rfl) Tryz.func108 rfl rfl rfl fun G w a h0 A => N hX 7 A rfl rfl fun A => q_eff A rfl (mkE' (m := 8) (fun j => [.str (rgA nameA 0 j)]) (fun j => by show [SV.str (rgA nameA 0 j)] = _; unfold rgA; rw [if_neg (by omega)]) rfl rfl rfl rfl (by kernel_rfl) strInfo (by omega) rfl) fun A => N hX 12 A rfl rfl fun A => LOOP1 (fun (k : Nat) => [(0, .fn 14 []), (2, .sla none 0 0), (3, .sl 0 8 8), (7, .int .i64 ((8 : Nat) : Int)), (8, .int .i64 (k : Int))]) (fun (k : Nat) => [some (.row 9 1 8 8 (fun j => [.str (rgA nameA k j)]))]) (fun (k : Nat) => k ≤ 8 ∧ True) (fun (k : Nat) => 8 - k) 0 ⟨by omega, trivial⟩ ((A.cut [0, 2, 3, 7, 8] rfl).trunc 1 rfl rfl rfl (by simp only [List.length_cons, List.length_nil] at h0; omega)) fun k hI {G a w} A => N hX 6 A rfl rfl fun A => forkD 9 A rfl
   (fun h1 A => N hX 16 A rfl rfl fun A => CALL1 [] (aname_ (k : Int)) A rfl rfl rfl rfl rfl rfl rfl fun A => N hX 1 A rfl (ok_d (by have := hI.1; omega) <| okE_nil) fun A => STR (i := 0) (e := 9) (s := 1) (m := 8) (c := 8) hX k (fun j => [.str (rgA nameA (k + 1) j)]) A rfl rfl (Int.toNat_natCast k) (by omega) (fun z hz => by show [SV.str _] = [SV.str _]; rw [rgA_ne hz]) (by show _ = some [SV.str _]; rw [rgA_at]; rfl) fun A => N hX 7 A rfl (ok_d (by have := hI.1; omega) <| okE_nil) fun A => ⟨k + 1, _, (by omega), ⟨by omega, trivial⟩, ((A.cut [0, 2, 3, 7, 8] rfl).trunc 1 rfl rfl rfl (by simp only [List.length_cons, List.length_nil] at h0; omega))⟩)
   (fun h1 A => N hX 10 A rfl rfl fun A => have A := A.rowAs 0 8 (fun zz => [.str ((rgL nameA).getD zz [])]) rfl rfl (fun j hj => by show [SV.str _] = [SV.str (rgA nameA k j)]; rw [show k = 8 by have := hI.1; omega, rgA_8 j hj]) (fun z => ⟨_, rfl, rfl⟩); RET hX [0] A ⟨rfl, rfl⟩ rfl rfl rfl rfl rfl rfl rfl rfl h0)
end Go.Proofs.YtedlaclfhgneeabGreatDoor
namespace Go.Proofs.YtedlaclfhgneeabGreatDoor
open Go.RowKit
set_option linter.unusedVariables false
set_option linter.unusedSimpArgs false
section
variable {n : Nat} {T : List (Nat × SV)} {H : Hp} {ks : List Nat} {G0 : Gr} {w0 : World} {G : Gr} {a : Act} {w : World}
theorem Sy.noRow (A : Sy n T H ks G0 w0 G a w) (e s : Nat) (f : Nat → List SV) (htot : ∀ k, ∃ vs, denL [] (f k) = some vs ∧ vs.length = s) : Sy n T (H ++ [some (.row e s 0 0 f)]) ks G0 w0 (G ++ [none]) a w := by
  have hlen := A.mem.len
  have hold : ∀ (j : Nat) (x : Ent), (H ++ [some (.row e s 0 0 f)])[j]? = some (some x) → (H[j]? = some (some x) ∧ j < H.length) ∨ (j = H.length ∧ x = .row e s 0 0 f) := by
    intro j x h
    by_cases hj : j < H.length
    · rw [List.getElem?_append_left hj] at h; exact .inl ⟨h, hj⟩
    · rw [List.getElem?_append_right (by omega)] at h
      have : j - H.length = 0 := by
        cases hq : j - H.length with
        | zero => rfl
        | succ k => rw [hq] at h; simp at h
      rw [this] at h
      simp at h
      exact .inr ⟨by omega, h.symm⟩
  have hG : ∀ j, j < H.length → (G ++ [(none : Option Loc)])[j]? = G[j]? := fun j hj => List.getElem?_append_left (by omega)
  have hGn : (G ++ [(none : Option Loc)])[H.length]? = some none := by rw [List.getElem?_append_right (by omega), hlen]; simp
  refine ⟨A.size, A.defers, fun t x hx => den_mono _ x (A.get t x hx), ⟨by simp [hlen], ?_, ?_⟩, ?_, ?_, A.mix⟩
  · intro j x h
    rcases hold j x h with ⟨h2, h3⟩ | ⟨rfl, rfl⟩
    · rw [hG j h3]; exact (A.mem.ent j x h2).more _
    · rw [hGn]; exact ⟨htot, fun L h => (by cases h), [], rfl, by simp, .inl ⟨rfl, rfl⟩⟩
  · intro j k x y L M hjk h1 h2 h3 h4 h5 h6
    rcases hold j x h1 with ⟨a2, a3⟩ | ⟨rfl, rfl⟩
    · rw [hG j a3] at h4
      rcases hold k y h2 with ⟨b2, b3⟩ | ⟨rfl, rfl⟩
      · rw [hG k b3] at h5; exact A.mem.sep j k x y L M hjk a2 b2 h3 h4 h5 h6
      · rw [hGn] at h5; cases h5
    · rw [hGn] at h4; cases h4
  · obtain ⟨F, hF⟩ := A.pre; exact ⟨F ++ [none], by rw [hF, List.append_assoc]⟩
  · intro j x L h1 h2 h3
    rcases hold j x h1 with ⟨a2, a3⟩ | ⟨rfl, rfl⟩
    · rw [hG j a3] at h3; exact A.own j x L a2 h2 h3
    · rw [hGn] at h3; cases h3
theorem stH_get {α : Type} : ∀ (l : List α) (i j : Nat) (x : α), (stH l i x)[j]? = if j = i then (l[i]?).map (fun _ => x) else l[j]?
  | [], i, j, x => by unfold stH; split <;> simp
  | y :: l, 0, 0, x => by unfold stH; simp
  | y :: l, 0, j + 1, x => by unfold stH; simp
  | y :: l, i + 1, 0, x => by unfold stH; simp
  | y :: l, i + 1, j + 1, x => by
    unfold stH
    rw [List.getElem?_cons_succ, stH_get l i j x, List.getElem?_cons_succ, List.getElem?_cons_succ]
    by_cases h : j = i
    · rw [if_pos h, if_pos (by omega)]
    · rw [if_neg h, if_neg (by omega)]
theorem den_nil {G : Gr} {q : Nat} (h : G[q]? = some none) : den G (.sl q 0 0) = den G (.sla none 0 0) := by
  unfold den; rw [h]; rfl
theorem denL_at {G : Gr} {x y : SV} (h : den G x = den G y) : ∀ (l r : List SV), denL G (l ++ x :: r) = denL G (l ++ y :: r)
  | [], r => by
    show denL G (x :: r) = denL G (y :: r)
    unfold denL; rw [h]
  | z :: l, r => by
    show denL G (z :: (l ++ x :: r)) = denL G (z :: (l ++ y :: r))
    unfold denL; rw [denL_at h l r]
theorem Sy.nilCell (A : Sy n T H ks G0 w0 G a w) (i e s : Nat) (f : Nat → List SV) {cs : List SV} (cs' : List SV) (h : H[i]? = some (some (.blk cs))) (hc : ∀ G' : Gr, G'[H.length]? = some none → ∀ vs, denL G' cs = some vs → denL G' cs' = some vs) (htot : ∀ k, ∃ vs, denL [] (f k) = some vs ∧ vs.length = s) : Sy n T (stH (H ++ [some (.row e s 0 0 f)]) i (some (.blk cs'))) ks G0 w0 (G ++ [none]) a w := by
  have A1 := A.noRow e s f htot
  have hilt : i < H.length := (List.getElem?_eq_some_iff.1 h).1
  have hGn : (G ++ [(none : Option Loc)])[H.length]? = some none := by rw [List.getElem?_append_right (by rw [A.mem.len]; exact Nat.le_refl _), A.mem.len]; simp
  have hi : (H ++ [some (.row e s 0 0 f)])[i]? = some (some (.blk cs)) := by rw [List.getElem?_append_left hilt]; exact h
  have old : ∀ (j : Nat) (x : Ent), (stH (H ++ [some (.row e s 0 0 f)]) i (some (.blk cs')))[j]? = some (some x) → (j = i ∧ x = .blk cs') ∨ (j ≠ i ∧ (H ++ [some (.row e s 0 0 f)])[j]? = some (some x)) := by
    intro j x hj
    rw [stH_get] at hj
    by_cases he : j = i
    · rw [if_pos he, hi] at hj; simp at hj; exact .inl ⟨he, hj.symm⟩
    · rw [if_neg he] at hj; exact .inr ⟨he, hj⟩
  refine ⟨A1.size, A1.defers, A1.get, ⟨?_, ?_, ?_⟩, A1.pre, ?_, A1.mix⟩
  · have := A1.mem.len
    rw [← this]
    have hl : ∀ (l : Hp) (i : Nat) (x : Option Ent), (stH l i x).length = l.length := by
      intro l
      induction l with
      | nil => intro i x; unfold stH; rfl
      | cons y l ih => intro i x; cases i <;> unfold stH <;> simp [ih]
    exact hl _ _ _
  · intro j x hj
    rcases old j x hj with ⟨rfl, rfl⟩ | ⟨_, hj2⟩
    · obtain ⟨L, vs, q1, q2, q3⟩ := A1.mem.ent j _ hi
      exact ⟨L, vs, q1, hc _ hGn vs q2, q3⟩
    · exact A1.mem.ent j x hj2
  · intro j k x y L M hjk h1 h2 h3 h4 h5 h6
    have fx : ∀ (j : Nat) (x : Ent), (stH (H ++ [some (.row e s 0 0 f)]) i (some (.blk cs')))[j]? = some (some x) → ∃ x', (H ++ [some (.row e s 0 0 f)])[j]? = some (some x') ∧ x'.mut = x.mut ∧ (x'.empty → x.empty) := by
      intro j x hj
      rcases old j x hj with ⟨rfl, rfl⟩ | ⟨_, hj2⟩
      · exact ⟨.blk cs, hi, rfl, fun h => h⟩
      · exact ⟨x, hj2, rfl, fun h => h⟩
    obtain ⟨x', a1, a2, _⟩ := fx j x h1
    obtain ⟨y', b1, _, b3⟩ := fx k y h2
    exact A1.mem.sep j k x' y' L M hjk a1 b1 (by rw [a2]; exact h3) h4 h5 (fun z => h6 (b3 z))
  · intro j x L h1 h2 h3
    rcases old j x h1 with ⟨rfl, rfl⟩ | ⟨_, hj2⟩
    · exact A1.own j _ L hi h2 h3
    · exact A1.own j x L hj2 h2 h3
end
end Go.Proofs.YtedlaclfhgneeabGreatDoor
namespace Go.Proofs.YtedlaclfhgneeabGreatDoor
open Go.RowKit
set_option linter.unusedVariables false
set_option linter.unusedSimpArgs false
set_option maxRecDepth 100000
set_option maxHeartbeats 2000000
set_option simprocs false
theorem regs1_   : Fn Tryz.prog 45 [.int .i64 1] [] (Rt (.sl 0 8 8) [some (.row 9 1 8 8 (fun zz => [.str ((rgL Old.nameF).getD zz [])]))]) :=
 enterM (n := 13) (by kernel_rfl) Tryz.func45 rfl rfl rfl fun G w a h0 A => N hX 18 A rfl rfl fun A => forkE 4 A rfl
  (fun h1 A => N hX 3 A rfl rfl fun A => CALL1 [] regnX_ A rfl rfl rfl rfl rfl rfl rfl fun A => N hX 4 A rfl rfl fun A => RET hX [0] A ⟨rfl, rfl⟩ rfl rfl rfl rfl rfl rfl rfl rfl h0)
  (fun h1 A => absurd rfl h1)
theorem regs2_   : Fn Tryz.prog 45 [.int .i64 2] [] (Rt (.sl 0 8 8) [some (.row 9 1 8 8 (fun zz => [.str ((rgL nameV).getD zz [])]))]) :=
 enterM (n := 13) (by kernel_rfl) Tryz.func45 rfl rfl rfl fun G w a h0 A => N hX 18 A rfl rfl fun A => forkE 4 A rfl
  (fun h1 A => absurd h1 (by decide))
  (fun h1 A => N hX 7 A rfl rfl fun A => forkE 7 A rfl
   (fun h2 A => N hX 3 A rfl rfl fun A => CALL1 [] regnV_ A rfl rfl rfl rfl rfl rfl rfl fun A => N hX 4 A rfl rfl fun A => RET hX [0] A ⟨rfl, rfl⟩ rfl rfl rfl rfl rfl rfl rfl rfl h0)
   (fun h2 A => absurd rfl h2))
theorem regs3_   : Fn Tryz.prog 45 [.int .i64 3] [] (Rt (.sl 0 8 8) [some (.row 9 1 8 8 (fun zz => [.str ((rgL nameA).getD zz [])]))]) :=
 enterM (n := 13) (by kernel_rfl) Tryz.func45 rfl rfl rfl fun G w a h0 A => N hX 18 A rfl rfl fun A => forkE 4 A rfl
  (fun h1 A => absurd h1 (by decide))
  (fun h1 A => N hX 7 A rfl rfl fun A => forkE 7 A rfl
   (fun h2 A => absurd h2 (by decide))
   (fun h2 A => N hX 7 A rfl rfl fun A => forkE 10 A rfl
    (fun h3 A => N hX 3 A rfl rfl fun A => CALL1 [] regnA_ A rfl rfl rfl rfl rfl rfl rfl fun A => N hX 4 A rfl rfl fun A => RET hX [0] A ⟨rfl, rfl⟩ rfl rfl rfl rfl rfl rfl rfl rfl h0)
    (fun h3 A => absurd rfl h3)))
def cpZ (ws : List Tk) (rs : List (List UInt8)) : Cs := coF ws rs (ws.length - 0 + 1) ⟨⟨0, 0, 0⟩, [], 0, fun _ => 0, 0⟩
def cpS (ws : List Tk) (rs : List (List UInt8)) : As := endA ws (bif decide ((cpZ ws rs).op > 0) then refA ws (cpZ ws rs).s 22 else (cpZ ws rs).s)
def cpN (ws : List Tk) (rs : List (List UInt8)) : List Cn := (setF 5 (cpZ ws rs).wf (cpZ ws rs).m (cpZ ws rs).ns).2
theorem coF_ok {ws : List Tk} {rs : List (List UInt8)} : ∀ (f : Nat) (z : Cs), z.s.p ≤ ws.length → z.op = (brk z.wf z.m : Int) → z.ns.length + z.m ≤ 2 * z.s.p → (coF ws rs f z).s.p ≤ ws.length ∧ (coF ws rs f z).ns.length + (coF ws rs f z).m ≤ 2 * (coF ws rs f z).s.p + 1
  | 0, z, hk, ho, hs => ⟨hk, by show z.ns.length + z.m ≤ _; exact Nat.le_succ_of_le hs⟩
  | f + 1, z, hk, ho, hs => by
    obtain ⟨r1, r2, r3, r4, r5⟩ := coR_ok (rs := rs) hk ho hs
    unfold coF
    cases hc : (coR ws rs z).1 with
    | false => rw [if_neg (by decide)]; exact ⟨r1, r4⟩
    | true => rw [if_pos rfl]; exact coF_ok f _ r1 r5 (r3 hc).2
theorem cpZ_ok (ws : List Tk) (rs : List (List UInt8)) : (cpZ ws rs).s.p ≤ ws.length ∧ (cpZ ws rs).ns.length + (cpZ ws rs).m ≤ 2 * (cpZ ws rs).s.p + 1 := coF_ok _ _ (Nat.zero_le _) rfl (Nat.le_refl _)
theorem cp_le (ws : List Tk) (rs : List (List UInt8)) : (bif decide ((cpZ ws rs).op > 0) then refA ws (cpZ ws rs).s 22 else (cpZ ws rs).s).p ≤ ws.length := by
  cases decide ((cpZ ws rs).op > 0)
  · exact (cpZ_ok ws rs).1
  · show (refA ws (cpZ ws rs).s 22).p ≤ _; rw [refA_p]; exact (cpZ_ok ws rs).1
def cpE (ws : List Tk) (rs : List (List UInt8)) : Int := if (cpS ws rs).e ≠ 0 then (cpS ws rs).e else 2
def cpA (ws : List Tk) (rs : List (List UInt8)) : Int := if (cpS ws rs).e ≠ 0 then (cpS ws rs).a else atW ws 0
theorem cparse1_no (ws : List Tk) (cw : Nat) (hn : ws.length ≤ 10000) (hw : WsOK ws) (hq : ¬ ((cpS ws (rgL Old.nameF)).e = 0 ∧ (cpN ws (rgL Old.nameF)).length ≤ 32)) : Fn Tryz.prog 19 [.int .i64 1, .sl 0 ws.length cw] [some (.lst 4 ws.length (fun zz => tkc (ws.getD zz tok0)))] (Rt (.tup [.sla none 0 0, .int .i64 (cpE ws (rgL Old.nameF)), .int .i64 (cpA ws (rgL Old.nameF))]) [some (.lst 4 ws.length (fun zz => tkc (ws.getD zz tok0)))]) :=
 enterM (n := 59) (by kernel_rfl) Tryz.func19 rfl rfl rfl fun G w a h0 A => N hX 10 A rfl rfl fun A => CALL1 [] regs1_ A rfl rfl rfl rfl rfl rfl rfl fun A => N hX 7 A rfl rfl fun A => NILR hX A rfl rfl (by omega) fun A => N hX 8 A rfl rfl fun A => CALL1 [0] (askNew_ ws cw (by omega)) A rfl rfl rfl rfl rfl rfl rfl fun A => N hX 7 A rfl rfl fun A => have A := A.freeze 1 rfl; have A := A.freeze 4 rfl; have A := A.nilCell 5 88 5 (fun zz => cc (([] : List Cn).getD zz Cn.z)) [.ptr 2 0, .sl 1 8 8, .sl 6 0 0, .sla none 0 0, .int .i64 0] rfl (fun G' hG vs h => (denL_at (den_nil hG) [.ptr 2 0, .sl 1 8 8] [.sla none 0 0, .int .i64 0]).trans h) (fun z => ⟨_, rfl, rfl⟩); have A := A.nilCell 5 3 1 (fun zz => [.int .i64 ((fun _ => 0) zz)]) [.ptr 2 0, .sl 1 8 8, .sl 6 0 0, .sl 7 0 0, .int .i64 0] rfl (fun G' hG vs h => (denL_at (den_nil hG) [.ptr 2 0, .sl 1 8 8, .sl 6 0 0] [.int .i64 0]).trans h) (fun z => ⟨_, rfl, rfl⟩); N hX 8 A rfl rfl fun A => CALL1 [3, 4] (at_W ws 0 0 (by first | exact Nat.zero_le _ | exact cp_le ws (rgL Old.nameF) | exact endA_le (cp_le ws (rgL Old.nameF))) (by omega) hw) A rfl rfl rfl rfl rfl rfl rfl fun A => N hX 6 A rfl rfl fun A => CALL1 [5, 2, 3, 4, 1, 6, 7] (condition_ ws 0 (rgL Old.nameF) 8 (⟨0, 0, 0⟩ : As) ([] : List Cn) 0 (fun _ => 0) 0 (Nat.zero_le _) (by omega) hw (by decide) (by decide) (by show 8 ≤ 1000; decide) rfl (Nat.le_refl _)) A rfl rfl rfl rfl rfl rfl rfl fun A => N hX 8 A rfl rfl fun A => CALL1 [2, 3, 4] (end_ ws 0 (bif decide ((coF ws (rgL Old.nameF) (ws.length - (⟨0, 0, 0⟩ : As).p + 1) (⟨(⟨0, 0, 0⟩ : As), ([] : List Cn), 0, fun _ => 0, 0⟩ : Cs)).op > 0) then refA ws (coF ws (rgL Old.nameF) (ws.length - (⟨0, 0, 0⟩ : As).p + 1) (⟨(⟨0, 0, 0⟩ : As), ([] : List Cn), 0, fun _ => 0, 0⟩ : Cs)).s 22 else (coF ws (rgL Old.nameF) (ws.length - (⟨0, 0, 0⟩ : As).p + 1) (⟨(⟨0, 0, 0⟩ : As), ([] : List Cn), 0, fun _ => 0, 0⟩ : Cs)).s) (by first | exact Nat.zero_le _ | exact cp_le ws (rgL Old.nameF) | exact endA_le (cp_le ws (rgL Old.nameF))) (by omega) hw) A rfl rfl rfl rfl rfl rfl rfl fun A => N hX 9 A rfl rfl fun A => CALL1 [2, 3, 4] (fault_ ws 0 (endA ws (bif decide ((coF ws (rgL Old.nameF) (ws.length - (⟨0, 0, 0⟩ : As).p + 1) (⟨(⟨0, 0, 0⟩ : As), ([] : List Cn), 0, fun _ => 0, 0⟩ : Cs)).op > 0) then refA ws (coF ws (rgL Old.nameF) (ws.length - (⟨0, 0, 0⟩ : As).p + 1) (⟨(⟨0, 0, 0⟩ : As), ([] : List Cn), 0, fun _ => 0, 0⟩ : Cs)).s 22 else (coF ws (rgL Old.nameF) (ws.length - (⟨0, 0, 0⟩ : As).p + 1) (⟨(⟨0, 0, 0⟩ : As), ([] : List Cn), 0, fun _ => 0, 0⟩ : Cs)).s)) (by first | exact Nat.zero_le _ | exact cp_le ws (rgL Old.nameF) | exact endA_le (cp_le ws (rgL Old.nameF))) (by omega) hw) A rfl rfl rfl rfl rfl rfl rfl fun A => N hX 13 A rfl rfl fun A => forkN 45 A rfl
  (fun h1 A => N hX 11 A rfl rfl fun A => (by unfold cpE cpA; rw [if_pos (show (cpS ws (rgL Old.nameF)).e ≠ 0 from h1), if_pos (show (cpS ws (rgL Old.nameF)).e ≠ 0 from h1)]; exact RETN hX A rfl rfl rfl h0 rfl rfl rfl rfl rfl rfl))
  (fun h1 A => N hX 14 A rfl rfl fun A => forkD 53 A rfl
   (fun h2 A => N hX 10 A rfl rfl fun A => (by unfold cpE cpA; rw [if_neg (show ¬ (cpS ws (rgL Old.nameF)).e ≠ 0 from not_not_intro h1), if_neg (show ¬ (cpS ws (rgL Old.nameF)).e ≠ 0 from not_not_intro h1)]; exact RETN hX A rfl rfl rfl h0 rfl rfl rfl rfl rfl rfl))
   (fun h2 A => N hX 15 A rfl rfl fun A => (by exact absurd ⟨(show (cpS ws (rgL Old.nameF)).e = 0 from h1), (by have : ¬ (((cpN ws (rgL Old.nameF)).length : Nat) : Int) > 32 := h2; omega)⟩ hq)))
theorem cparse1_ok (ws : List Tk) (cw : Nat) (hn : ws.length ≤ 10000) (hw : WsOK ws) (hq : (cpS ws (rgL Old.nameF)).e = 0 ∧ (cpN ws (rgL Old.nameF)).length ≤ 32) : Fn Tryz.prog 19 [.int .i64 1, .sl 0 ws.length cw] [some (.lst 4 ws.length (fun zz => tkc (ws.getD zz tok0)))] (Rt (.tup [.sl 1 ((cpN ws (rgL Old.nameF)).length) 0, .int .i64 0, .int .i64 0]) [some (.lst 4 ws.length (fun zz => tkc (ws.getD zz tok0))), some (.row 88 5 ((cpN ws (rgL Old.nameF)).length) 0 (fun zz => cc ((cpN ws (rgL Old.nameF)).getD zz Cn.z)))]) :=
 enterM (n := 59) (by kernel_rfl) Tryz.func19 rfl rfl rfl fun G w a h0 A => N hX 10 A rfl rfl fun A => CALL1 [] regs1_ A rfl rfl rfl rfl rfl rfl rfl fun A => N hX 7 A rfl rfl fun A => NILR hX A rfl rfl (by omega) fun A => N hX 8 A rfl rfl fun A => CALL1 [0] (askNew_ ws cw (by omega)) A rfl rfl rfl rfl rfl rfl rfl fun A => N hX 7 A rfl rfl fun A => have A := A.freeze 1 rfl; have A := A.freeze 4 rfl; have A := A.nilCell 5 88 5 (fun zz => cc (([] : List Cn).getD zz Cn.z)) [.ptr 2 0, .sl 1 8 8, .sl 6 0 0, .sla none 0 0, .int .i64 0] rfl (fun G' hG vs h => (denL_at (den_nil hG) [.ptr 2 0, .sl 1 8 8] [.sla none 0 0, .int .i64 0]).trans h) (fun z => ⟨_, rfl, rfl⟩); have A := A.nilCell 5 3 1 (fun zz => [.int .i64 ((fun _ => 0) zz)]) [.ptr 2 0, .sl 1 8 8, .sl 6 0 0, .sl 7 0 0, .int .i64 0] rfl (fun G' hG vs h => (denL_at (den_nil hG) [.ptr 2 0, .sl 1 8 8, .sl 6 0 0] [.int .i64 0]).trans h) (fun z => ⟨_, rfl, rfl⟩); N hX 8 A rfl rfl fun A => CALL1 [3, 4] (at_W ws 0 0 (by first | exact Nat.zero_le _ | exact cp_le ws (rgL Old.nameF) | exact endA_le (cp_le ws (rgL Old.nameF))) (by omega) hw) A rfl rfl rfl rfl rfl rfl rfl fun A => N hX 6 A rfl rfl fun A => CALL1 [5, 2, 3, 4, 1, 6, 7] (condition_ ws 0 (rgL Old.nameF) 8 (⟨0, 0, 0⟩ : As) ([] : List Cn) 0 (fun _ => 0) 0 (Nat.zero_le _) (by omega) hw (by decide) (by decide) (by show 8 ≤ 1000; decide) rfl (Nat.le_refl _)) A rfl rfl rfl rfl rfl rfl rfl fun A => N hX 8 A rfl rfl fun A => CALL1 [2, 3, 4] (end_ ws 0 (bif decide ((coF ws (rgL Old.nameF) (ws.length - (⟨0, 0, 0⟩ : As).p + 1) (⟨(⟨0, 0, 0⟩ : As), ([] : List Cn), 0, fun _ => 0, 0⟩ : Cs)).op > 0) then refA ws (coF ws (rgL Old.nameF) (ws.length - (⟨0, 0, 0⟩ : As).p + 1) (⟨(⟨0, 0, 0⟩ : As), ([] : List Cn), 0, fun _ => 0, 0⟩ : Cs)).s 22 else (coF ws (rgL Old.nameF) (ws.length - (⟨0, 0, 0⟩ : As).p + 1) (⟨(⟨0, 0, 0⟩ : As), ([] : List Cn), 0, fun _ => 0, 0⟩ : Cs)).s) (by first | exact Nat.zero_le _ | exact cp_le ws (rgL Old.nameF) | exact endA_le (cp_le ws (rgL Old.nameF))) (by omega) hw) A rfl rfl rfl rfl rfl rfl rfl fun A => N hX 9 A rfl rfl fun A => CALL1 [2, 3, 4] (fault_ ws 0 (endA ws (bif decide ((coF ws (rgL Old.nameF) (ws.length - (⟨0, 0, 0⟩ : As).p + 1) (⟨(⟨0, 0, 0⟩ : As), ([] : List Cn), 0, fun _ => 0, 0⟩ : Cs)).op > 0) then refA ws (coF ws (rgL Old.nameF) (ws.length - (⟨0, 0, 0⟩ : As).p + 1) (⟨(⟨0, 0, 0⟩ : As), ([] : List Cn), 0, fun _ => 0, 0⟩ : Cs)).s 22 else (coF ws (rgL Old.nameF) (ws.length - (⟨0, 0, 0⟩ : As).p + 1) (⟨(⟨0, 0, 0⟩ : As), ([] : List Cn), 0, fun _ => 0, 0⟩ : Cs)).s)) (by first | exact Nat.zero_le _ | exact cp_le ws (rgL Old.nameF) | exact endA_le (cp_le ws (rgL Old.nameF))) (by omega) hw) A rfl rfl rfl rfl rfl rfl rfl fun A => N hX 13 A rfl rfl fun A => forkN 45 A rfl
  (fun h1 A => N hX 11 A rfl rfl fun A => (by exact absurd (show (cpS ws (rgL Old.nameF)).e = 0 from hq.1) h1))
  (fun h1 A => N hX 14 A rfl rfl fun A => forkD 53 A rfl
   (fun h2 A => N hX 10 A rfl rfl fun A => (by exact absurd (show (((cpN ws (rgL Old.nameF)).length : Nat) : Int) > 32 from h2) (by have := hq.2; omega)))
   (fun h2 A => N hX 15 A rfl rfl fun A => (by exact RET hX [8] A ⟨rfl, rfl⟩ rfl rfl rfl rfl rfl rfl rfl rfl h0)))
theorem cparse2_no (ws : List Tk) (cw : Nat) (hn : ws.length ≤ 10000) (hw : WsOK ws) (hq : ¬ ((cpS ws (rgL nameV)).e = 0 ∧ (cpN ws (rgL nameV)).length ≤ 32)) : Fn Tryz.prog 19 [.int .i64 2, .sl 0 ws.length cw] [some (.lst 4 ws.length (fun zz => tkc (ws.getD zz tok0)))] (Rt (.tup [.sla none 0 0, .int .i64 (cpE ws (rgL nameV)), .int .i64 (cpA ws (rgL nameV))]) [some (.lst 4 ws.length (fun zz => tkc (ws.getD zz tok0)))]) :=
 enterM (n := 59) (by kernel_rfl) Tryz.func19 rfl rfl rfl fun G w a h0 A => N hX 10 A rfl rfl fun A => CALL1 [] regs2_ A rfl rfl rfl rfl rfl rfl rfl fun A => N hX 7 A rfl rfl fun A => NILR hX A rfl rfl (by omega) fun A => N hX 8 A rfl rfl fun A => CALL1 [0] (askNew_ ws cw (by omega)) A rfl rfl rfl rfl rfl rfl rfl fun A => N hX 7 A rfl rfl fun A => have A := A.freeze 1 rfl; have A := A.freeze 4 rfl; have A := A.nilCell 5 88 5 (fun zz => cc (([] : List Cn).getD zz Cn.z)) [.ptr 2 0, .sl 1 8 8, .sl 6 0 0, .sla none 0 0, .int .i64 0] rfl (fun G' hG vs h => (denL_at (den_nil hG) [.ptr 2 0, .sl 1 8 8] [.sla none 0 0, .int .i64 0]).trans h) (fun z => ⟨_, rfl, rfl⟩); have A := A.nilCell 5 3 1 (fun zz => [.int .i64 ((fun _ => 0) zz)]) [.ptr 2 0, .sl 1 8 8, .sl 6 0 0, .sl 7 0 0, .int .i64 0] rfl (fun G' hG vs h => (denL_at (den_nil hG) [.ptr 2 0, .sl 1 8 8, .sl 6 0 0] [.int .i64 0]).trans h) (fun z => ⟨_, rfl, rfl⟩); N hX 8 A rfl rfl fun A => CALL1 [3, 4] (at_W ws 0 0 (by first | exact Nat.zero_le _ | exact cp_le ws (rgL nameV) | exact endA_le (cp_le ws (rgL nameV))) (by omega) hw) A rfl rfl rfl rfl rfl rfl rfl fun A => N hX 6 A rfl rfl fun A => CALL1 [5, 2, 3, 4, 1, 6, 7] (condition_ ws 0 (rgL nameV) 8 (⟨0, 0, 0⟩ : As) ([] : List Cn) 0 (fun _ => 0) 0 (Nat.zero_le _) (by omega) hw (by decide) (by decide) (by show 8 ≤ 1000; decide) rfl (Nat.le_refl _)) A rfl rfl rfl rfl rfl rfl rfl fun A => N hX 8 A rfl rfl fun A => CALL1 [2, 3, 4] (end_ ws 0 (bif decide ((coF ws (rgL nameV) (ws.length - (⟨0, 0, 0⟩ : As).p + 1) (⟨(⟨0, 0, 0⟩ : As), ([] : List Cn), 0, fun _ => 0, 0⟩ : Cs)).op > 0) then refA ws (coF ws (rgL nameV) (ws.length - (⟨0, 0, 0⟩ : As).p + 1) (⟨(⟨0, 0, 0⟩ : As), ([] : List Cn), 0, fun _ => 0, 0⟩ : Cs)).s 22 else (coF ws (rgL nameV) (ws.length - (⟨0, 0, 0⟩ : As).p + 1) (⟨(⟨0, 0, 0⟩ : As), ([] : List Cn), 0, fun _ => 0, 0⟩ : Cs)).s) (by first | exact Nat.zero_le _ | exact cp_le ws (rgL nameV) | exact endA_le (cp_le ws (rgL nameV))) (by omega) hw) A rfl rfl rfl rfl rfl rfl rfl fun A => N hX 9 A rfl rfl fun A => CALL1 [2, 3, 4] (fault_ ws 0 (endA ws (bif decide ((coF ws (rgL nameV) (ws.length - (⟨0, 0, 0⟩ : As).p + 1) (⟨(⟨0, 0, 0⟩ : As), ([] : List Cn), 0, fun _ => 0, 0⟩ : Cs)).op > 0) then refA ws (coF ws (rgL nameV) (ws.length - (⟨0, 0, 0⟩ : As).p + 1) (⟨(⟨0, 0, 0⟩ : As), ([] : List Cn), 0, fun _ => 0, 0⟩ : Cs)).s 22 else (coF ws (rgL nameV) (ws.length - (⟨0, 0, 0⟩ : As).p + 1) (⟨(⟨0, 0, 0⟩ : As), ([] : List Cn), 0, fun _ => 0, 0⟩ : Cs)).s)) (by first | exact Nat.zero_le _ | exact cp_le ws (rgL nameV) | exact endA_le (cp_le ws (rgL nameV))) (by omega) hw) A rfl rfl rfl rfl rfl rfl rfl fun A => N hX 13 A rfl rfl fun A => forkN 45 A rfl
  (fun h1 A => N hX 11 A rfl rfl fun A => (by unfold cpE cpA; rw [if_pos (show (cpS ws (rgL nameV)).e ≠ 0 from h1), if_pos (show (cpS ws (rgL nameV)).e ≠ 0 from h1)]; exact RETN hX A rfl rfl rfl h0 rfl rfl rfl rfl rfl rfl))
  (fun h1 A => N hX 14 A rfl rfl fun A => forkD 53 A rfl
   (fun h2 A => N hX 10 A rfl rfl fun A => (by unfold cpE cpA; rw [if_neg (show ¬ (cpS ws (rgL nameV)).e ≠ 0 from not_not_intro h1), if_neg (show ¬ (cpS ws (rgL nameV)).e ≠ 0 from not_not_intro h1)]; exact RETN hX A rfl rfl rfl h0 rfl rfl rfl rfl rfl rfl))
   (fun h2 A => N hX 15 A rfl rfl fun A => (by exact absurd ⟨(show (cpS ws (rgL nameV)).e = 0 from h1), (by have : ¬ (((cpN ws (rgL nameV)).length : Nat) : Int) > 32 := h2; omega)⟩ hq)))
theorem cparse2_ok (ws : List Tk) (cw : Nat) (hn : ws.length ≤ 10000) (hw : WsOK ws) (hq : (cpS ws (rgL nameV)).e = 0 ∧ (cpN ws (rgL nameV)).length ≤ 32) : Fn Tryz.prog 19 [.int .i64 2, .sl 0 ws.length cw] [some (.lst 4 ws.length (fun zz => tkc (ws.getD zz tok0)))] (Rt (.tup [.sl 1 ((cpN ws (rgL nameV)).length) 0, .int .i64 0, .int .i64 0]) [some (.lst 4 ws.length (fun zz => tkc (ws.getD zz tok0))), some (.row 88 5 ((cpN ws (rgL nameV)).length) 0 (fun zz => cc ((cpN ws (rgL nameV)).getD zz Cn.z)))]) :=
 enterM (n := 59) (by kernel_rfl) Tryz.func19 rfl rfl rfl fun G w a h0 A => N hX 10 A rfl rfl fun A => CALL1 [] regs2_ A rfl rfl rfl rfl rfl rfl rfl fun A => N hX 7 A rfl rfl fun A => NILR hX A rfl rfl (by omega) fun A => N hX 8 A rfl rfl fun A => CALL1 [0] (askNew_ ws cw (by omega)) A rfl rfl rfl rfl rfl rfl rfl fun A => N hX 7 A rfl rfl fun A => have A := A.freeze 1 rfl; have A := A.freeze 4 rfl; have A := A.nilCell 5 88 5 (fun zz => cc (([] : List Cn).getD zz Cn.z)) [.ptr 2 0, .sl 1 8 8, .sl 6 0 0, .sla none 0 0, .int .i64 0] rfl (fun G' hG vs h => (denL_at (den_nil hG) [.ptr 2 0, .sl 1 8 8] [.sla none 0 0, .int .i64 0]).trans h) (fun z => ⟨_, rfl, rfl⟩); have A := A.nilCell 5 3 1 (fun zz => [.int .i64 ((fun _ => 0) zz)]) [.ptr 2 0, .sl 1 8 8, .sl 6 0 0, .sl 7 0 0, .int .i64 0] rfl (fun G' hG vs h => (denL_at (den_nil hG) [.ptr 2 0, .sl 1 8 8, .sl 6 0 0] [.int .i64 0]).trans h) (fun z => ⟨_, rfl, rfl⟩); N hX 8 A rfl rfl fun A => CALL1 [3, 4] (at_W ws 0 0 (by first | exact Nat.zero_le _ | exact cp_le ws (rgL nameV) | exact endA_le (cp_le ws (rgL nameV))) (by omega) hw) A rfl rfl rfl rfl rfl rfl rfl fun A => N hX 6 A rfl rfl fun A => CALL1 [5, 2, 3, 4, 1, 6, 7] (condition_ ws 0 (rgL nameV) 8 (⟨0, 0, 0⟩ : As) ([] : List Cn) 0 (fun _ => 0) 0 (Nat.zero_le _) (by omega) hw (by decide) (by decide) (by show 8 ≤ 1000; decide) rfl (Nat.le_refl _)) A rfl rfl rfl rfl rfl rfl rfl fun A => N hX 8 A rfl rfl fun A => CALL1 [2, 3, 4] (end_ ws 0 (bif decide ((coF ws (rgL nameV) (ws.length - (⟨0, 0, 0⟩ : As).p + 1) (⟨(⟨0, 0, 0⟩ : As), ([] : List Cn), 0, fun _ => 0, 0⟩ : Cs)).op > 0) then refA ws (coF ws (rgL nameV) (ws.length - (⟨0, 0, 0⟩ : As).p + 1) (⟨(⟨0, 0, 0⟩ : As), ([] : List Cn), 0, fun _ => 0, 0⟩ : Cs)).s 22 else (coF ws (rgL nameV) (ws.length - (⟨0, 0, 0⟩ : As).p + 1) (⟨(⟨0, 0, 0⟩ : As), ([] : List Cn), 0, fun _ => 0, 0⟩ : Cs)).s) (by first | exact Nat.zero_le _ | exact cp_le ws (rgL nameV) | exact endA_le (cp_le ws (rgL nameV))) (by omega) hw) A rfl rfl rfl rfl rfl rfl rfl fun A => N hX 9 A rfl rfl fun A => CALL1 [2, 3, 4] (fault_ ws 0 (endA ws (bif decide ((coF ws (rgL nameV) (ws.length - (⟨0, 0, 0⟩ : As).p + 1) (⟨(⟨0, 0, 0⟩ : As), ([] : List Cn), 0, fun _ => 0, 0⟩ : Cs)).op > 0) then refA ws (coF ws (rgL nameV) (ws.length - (⟨0, 0, 0⟩ : As).p + 1) (⟨(⟨0, 0, 0⟩ : As), ([] : List Cn), 0, fun _ => 0, 0⟩ : Cs)).s 22 else (coF ws (rgL nameV) (ws.length - (⟨0, 0, 0⟩ : As).p + 1) (⟨(⟨0, 0, 0⟩ : As), ([] : List Cn), 0, fun _ => 0, 0⟩ : Cs)).s)) (by first | exact Nat.zero_le _ | exact cp_le ws (rgL nameV) | exact endA_le (cp_le ws (rgL nameV))) (by omega) hw) A rfl rfl rfl rfl rfl rfl rfl fun A => N hX 13 A rfl rfl fun A => forkN 45 A rfl
  (fun h1 A => N hX 11 A rfl rfl fun A => (by exact absurd (show (cpS ws (rgL nameV)).e = 0 from hq.1) h1))
  (fun h1 A => N hX 14 A rfl rfl fun A => forkD 53 A rfl
   (fun h2 A => N hX 10 A rfl rfl fun A => (by exact absurd (show (((cpN ws (rgL nameV)).length : Nat) : Int) > 32 from h2) (by have := hq.2; omega)))
   (fun h2 A => N hX 15 A rfl rfl fun A => (by exact RET hX [8] A ⟨rfl, rfl⟩ rfl rfl rfl rfl rfl rfl rfl rfl h0)))
theorem cparse3_no (ws : List Tk) (cw : Nat) (hn : ws.length ≤ 10000) (hw : WsOK ws) (hq : ¬ ((cpS ws (rgL nameA)).e = 0 ∧ (cpN ws (rgL nameA)).length ≤ 32)) : Fn Tryz.prog 19 [.int .i64 3, .sl 0 ws.length cw] [some (.lst 4 ws.length (fun zz => tkc (ws.getD zz tok0)))] (Rt (.tup [.sla none 0 0, .int .i64 (cpE ws (rgL nameA)), .int .i64 (cpA ws (rgL nameA))]) [some (.lst 4 ws.length (fun zz => tkc (ws.getD zz tok0)))]) :=
 enterM (n := 59) (by kernel_rfl) Tryz.func19 rfl rfl rfl fun G w a h0 A => N hX 10 A rfl rfl fun A => CALL1 [] regs3_ A rfl rfl rfl rfl rfl rfl rfl fun A => N hX 7 A rfl rfl fun A => NILR hX A rfl rfl (by omega) fun A => N hX 8 A rfl rfl fun A => CALL1 [0] (askNew_ ws cw (by omega)) A rfl rfl rfl rfl rfl rfl rfl fun A => N hX 7 A rfl rfl fun A => have A := A.freeze 1 rfl; have A := A.freeze 4 rfl; have A := A.nilCell 5 88 5 (fun zz => cc (([] : List Cn).getD zz Cn.z)) [.ptr 2 0, .sl 1 8 8, .sl 6 0 0, .sla none 0 0, .int .i64 0] rfl (fun G' hG vs h => (denL_at (den_nil hG) [.ptr 2 0, .sl 1 8 8] [.sla none 0 0, .int .i64 0]).trans h) (fun z => ⟨_, rfl, rfl⟩); have A := A.nilCell 5 3 1 (fun zz => [.int .i64 ((fun _ => 0) zz)]) [.ptr 2 0, .sl 1 8 8, .sl 6 0 0, .sl 7 0 0, .int .i64 0] rfl (fun G' hG vs h => (denL_at (den_nil hG) [.ptr 2 0, .sl 1 8 8, .sl 6 0 0] [.int .i64 0]).trans h) (fun z => ⟨_, rfl, rfl⟩); N hX 8 A rfl rfl fun A => CALL1 [3, 4] (at_W ws 0 0 (by first | exact Nat.zero_le _ | exact cp_le ws (rgL nameA) | exact endA_le (cp_le ws (rgL nameA))) (by omega) hw) A rfl rfl rfl rfl rfl rfl rfl fun A => N hX 6 A rfl rfl fun A => CALL1 [5, 2, 3, 4, 1, 6, 7] (condition_ ws 0 (rgL nameA) 8 (⟨0, 0, 0⟩ : As) ([] : List Cn) 0 (fun _ => 0) 0 (Nat.zero_le _) (by omega) hw (by decide) (by decide) (by show 8 ≤ 1000; decide) rfl (Nat.le_refl _)) A rfl rfl rfl rfl rfl rfl rfl fun A => N hX 8 A rfl rfl fun A => CALL1 [2, 3, 4] (end_ ws 0 (bif decide ((coF ws (rgL nameA) (ws.length - (⟨0, 0, 0⟩ : As).p + 1) (⟨(⟨0, 0, 0⟩ : As), ([] : List Cn), 0, fun _ => 0, 0⟩ : Cs)).op > 0) then refA ws (coF ws (rgL nameA) (ws.length - (⟨0, 0, 0⟩ : As).p + 1) (⟨(⟨0, 0, 0⟩ : As), ([] : List Cn), 0, fun _ => 0, 0⟩ : Cs)).s 22 else (coF ws (rgL nameA) (ws.length - (⟨0, 0, 0⟩ : As).p + 1) (⟨(⟨0, 0, 0⟩ : As), ([] : List Cn), 0, fun _ => 0, 0⟩ : Cs)).s) (by first | exact Nat.zero_le _ | exact cp_le ws (rgL nameA) | exact endA_le (cp_le ws (rgL nameA))) (by omega) hw) A rfl rfl rfl rfl rfl rfl rfl fun A => N hX 9 A rfl rfl fun A => CALL1 [2, 3, 4] (fault_ ws 0 (endA ws (bif decide ((coF ws (rgL nameA) (ws.length - (⟨0, 0, 0⟩ : As).p + 1) (⟨(⟨0, 0, 0⟩ : As), ([] : List Cn), 0, fun _ => 0, 0⟩ : Cs)).op > 0) then refA ws (coF ws (rgL nameA) (ws.length - (⟨0, 0, 0⟩ : As).p + 1) (⟨(⟨0, 0, 0⟩ : As), ([] : List Cn), 0, fun _ => 0, 0⟩ : Cs)).s 22 else (coF ws (rgL nameA) (ws.length - (⟨0, 0, 0⟩ : As).p + 1) (⟨(⟨0, 0, 0⟩ : As), ([] : List Cn), 0, fun _ => 0, 0⟩ : Cs)).s)) (by first | exact Nat.zero_le _ | exact cp_le ws (rgL nameA) | exact endA_le (cp_le ws (rgL nameA))) (by omega) hw) A rfl rfl rfl rfl rfl rfl rfl fun A => N hX 13 A rfl rfl fun A => forkN 45 A rfl
  (fun h1 A => N hX 11 A rfl rfl fun A => (by unfold cpE cpA; rw [if_pos (show (cpS ws (rgL nameA)).e ≠ 0 from h1), if_pos (show (cpS ws (rgL nameA)).e ≠ 0 from h1)]; exact RETN hX A rfl rfl rfl h0 rfl rfl rfl rfl rfl rfl))
  (fun h1 A => N hX 14 A rfl rfl fun A => forkD 53 A rfl
   (fun h2 A => N hX 10 A rfl rfl fun A => (by unfold cpE cpA; rw [if_neg (show ¬ (cpS ws (rgL nameA)).e ≠ 0 from not_not_intro h1), if_neg (show ¬ (cpS ws (rgL nameA)).e ≠ 0 from not_not_intro h1)]; exact RETN hX A rfl rfl rfl h0 rfl rfl rfl rfl rfl rfl))
   (fun h2 A => N hX 15 A rfl rfl fun A => (by exact absurd ⟨(show (cpS ws (rgL nameA)).e = 0 from h1), (by have : ¬ (((cpN ws (rgL nameA)).length : Nat) : Int) > 32 := h2; omega)⟩ hq)))
theorem cparse3_ok (ws : List Tk) (cw : Nat) (hn : ws.length ≤ 10000) (hw : WsOK ws) (hq : (cpS ws (rgL nameA)).e = 0 ∧ (cpN ws (rgL nameA)).length ≤ 32) : Fn Tryz.prog 19 [.int .i64 3, .sl 0 ws.length cw] [some (.lst 4 ws.length (fun zz => tkc (ws.getD zz tok0)))] (Rt (.tup [.sl 1 ((cpN ws (rgL nameA)).length) 0, .int .i64 0, .int .i64 0]) [some (.lst 4 ws.length (fun zz => tkc (ws.getD zz tok0))), some (.row 88 5 ((cpN ws (rgL nameA)).length) 0 (fun zz => cc ((cpN ws (rgL nameA)).getD zz Cn.z)))]) :=
 enterM (n := 59) (by kernel_rfl) Tryz.func19 rfl rfl rfl fun G w a h0 A => N hX 10 A rfl rfl fun A => CALL1 [] regs3_ A rfl rfl rfl rfl rfl rfl rfl fun A => N hX 7 A rfl rfl fun A => NILR hX A rfl rfl (by omega) fun A => N hX 8 A rfl rfl fun A => CALL1 [0] (askNew_ ws cw (by omega)) A rfl rfl rfl rfl rfl rfl rfl fun A => N hX 7 A rfl rfl fun A => have A := A.freeze 1 rfl; have A := A.freeze 4 rfl; have A := A.nilCell 5 88 5 (fun zz => cc (([] : List Cn).getD zz Cn.z)) [.ptr 2 0, .sl 1 8 8, .sl 6 0 0, .sla none 0 0, .int .i64 0] rfl (fun G' hG vs h => (denL_at (den_nil hG) [.ptr 2 0, .sl 1 8 8] [.sla none 0 0, .int .i64 0]).trans h) (fun z => ⟨_, rfl, rfl⟩); have A := A.nilCell 5 3 1 (fun zz => [.int .i64 ((fun _ => 0) zz)]) [.ptr 2 0, .sl 1 8 8, .sl 6 0 0, .sl 7 0 0, .int .i64 0] rfl (fun G' hG vs h => (denL_at (den_nil hG) [.ptr 2 0, .sl 1 8 8, .sl 6 0 0] [.int .i64 0]).trans h) (fun z => ⟨_, rfl, rfl⟩); N hX 8 A rfl rfl fun A => CALL1 [3, 4] (at_W ws 0 0 (by first | exact Nat.zero_le _ | exact cp_le ws (rgL nameA) | exact endA_le (cp_le ws (rgL nameA))) (by omega) hw) A rfl rfl rfl rfl rfl rfl rfl fun A => N hX 6 A rfl rfl fun A => CALL1 [5, 2, 3, 4, 1, 6, 7] (condition_ ws 0 (rgL nameA) 8 (⟨0, 0, 0⟩ : As) ([] : List Cn) 0 (fun _ => 0) 0 (Nat.zero_le _) (by omega) hw (by decide) (by decide) (by show 8 ≤ 1000; decide) rfl (Nat.le_refl _)) A rfl rfl rfl rfl rfl rfl rfl fun A => N hX 8 A rfl rfl fun A => CALL1 [2, 3, 4] (end_ ws 0 (bif decide ((coF ws (rgL nameA) (ws.length - (⟨0, 0, 0⟩ : As).p + 1) (⟨(⟨0, 0, 0⟩ : As), ([] : List Cn), 0, fun _ => 0, 0⟩ : Cs)).op > 0) then refA ws (coF ws (rgL nameA) (ws.length - (⟨0, 0, 0⟩ : As).p + 1) (⟨(⟨0, 0, 0⟩ : As), ([] : List Cn), 0, fun _ => 0, 0⟩ : Cs)).s 22 else (coF ws (rgL nameA) (ws.length - (⟨0, 0, 0⟩ : As).p + 1) (⟨(⟨0, 0, 0⟩ : As), ([] : List Cn), 0, fun _ => 0, 0⟩ : Cs)).s) (by first | exact Nat.zero_le _ | exact cp_le ws (rgL nameA) | exact endA_le (cp_le ws (rgL nameA))) (by omega) hw) A rfl rfl rfl rfl rfl rfl rfl fun A => N hX 9 A rfl rfl fun A => CALL1 [2, 3, 4] (fault_ ws 0 (endA ws (bif decide ((coF ws (rgL nameA) (ws.length - (⟨0, 0, 0⟩ : As).p + 1) (⟨(⟨0, 0, 0⟩ : As), ([] : List Cn), 0, fun _ => 0, 0⟩ : Cs)).op > 0) then refA ws (coF ws (rgL nameA) (ws.length - (⟨0, 0, 0⟩ : As).p + 1) (⟨(⟨0, 0, 0⟩ : As), ([] : List Cn), 0, fun _ => 0, 0⟩ : Cs)).s 22 else (coF ws (rgL nameA) (ws.length - (⟨0, 0, 0⟩ : As).p + 1) (⟨(⟨0, 0, 0⟩ : As), ([] : List Cn), 0, fun _ => 0, 0⟩ : Cs)).s)) (by first | exact Nat.zero_le _ | exact cp_le ws (rgL nameA) | exact endA_le (cp_le ws (rgL nameA))) (by omega) hw) A rfl rfl rfl rfl rfl rfl rfl fun A => N hX 13 A rfl rfl fun A => forkN 45 A rfl
  (fun h1 A => N hX 11 A rfl rfl fun A => (by exact absurd (show (cpS ws (rgL nameA)).e = 0 from hq.1) h1))
  (fun h1 A => N hX 14 A rfl rfl fun A => forkD 53 A rfl
   (fun h2 A => N hX 10 A rfl rfl fun A => (by exact absurd (show (((cpN ws (rgL nameA)).length : Nat) : Int) > 32 from h2) (by have := hq.2; omega)))
   (fun h2 A => N hX 15 A rfl rfl fun A => (by exact RET hX [8] A ⟨rfl, rfl⟩ rfl rfl rfl rfl rfl rfl rfl rfl h0)))
def putN (s : Old.Rs) (ns : List Cn) (c : Cn) : List Cn := if s.e = 0 then ns ++ [c] else ns
theorem putN_y {s : Old.Rs} {ns : List Cn} {c : Cn} (h : s.e = 0) : putN s ns c = ns ++ [c] := if_pos h
theorem putN_n {s : Old.Rs} {ns : List Cn} {c : Cn} (h : s.e ≠ 0) : putN s ns c = ns := if_neg h
theorem putN_len (s : Old.Rs) (ns : List Cn) (c : Cn) : (putN s ns c).length ≤ ns.length + 1 := by
  unfold putN; split
  · rw [List.length_append]; exact Nat.le_refl _
  · exact Nat.le_succ _
theorem rput_ (ar : Int) (ws : List Tk) (cw : Nat) (s : Old.Rs) (ns : List Cn) (c : Cn) (hk : s.p ≤ ws.length) (hn : ws.length ≤ 1000000) (hw : WsOK ws) (hns : ns.length ≤ 100000) : Fn Tryz.prog 122 [.ptr 0 0, .agg [.int .i64 c.k, .int .i64 c.t, .int .i64 c.r, .int .i64 c.l, .int .i64 c.v]] [some (.blk [.ptr 1 0, .sl 4 ns.length 0]), some (.blk [.int .i64 ar, .ptr 2 0, .int .i64 s.e, .int .i64 s.a]), some (.blk [.sl 3 ws.length cw, .int .i64 ((s.p : Nat) : Int)]), some (.lst 4 ws.length (fun zz => tkc (ws.getD zz tok0))), some (.row 88 5 ns.length 0 (fun zz => cc (ns.getD zz Cn.z)))] (Rt (.tup []) [some (.blk [.ptr 1 0, .sl 5 ((putN s ns c).length) 0]), some (.blk [.int .i64 ar, .ptr 2 0, .int .i64 s.e, .int .i64 s.a]), some (.blk [.sl 3 ws.length cw, .int .i64 ((s.p : Nat) : Int)]), some (.lst 4 ws.length (fun zz => tkc (ws.getD zz tok0))), none, some (.row 88 5 ((putN s ns c).length) 0 (fun zz => cc ((putN s ns c).getD zz Cn.z)))]) :=
 enterM (n := 22) (by kernel_rfl) Tryz.func122 rfl rfl rfl fun G w a h0 A => N hX 17 A rfl rfl fun A => forkE 11 A rfl
  (fun h1 A => N hX 1 A rfl rfl fun A => DRAWN hX hmo [] [(7, .sl 7 ((ns ++ [(⟨c.k, c.t, c.r, c.l, c.v⟩ : Cn)]).length) 0, [some (.blk [.ptr 1 0, .sl 4 ns.length 0]), some (.blk [.int .i64 ar, .ptr 2 0, .int .i64 s.e, .int .i64 s.a]), some (.blk [.sl 3 ws.length cw, .int .i64 ((s.p : Nat) : Int)]), some (.lst 4 ws.length (fun zz => tkc (ws.getD zz tok0))), none, some (.blk [.int .i64 c.k, .int .i64 c.t, .int .i64 c.r, .int .i64 c.l, .int .i64 c.v]), some (.blk [.int .i64 c.k, .int .i64 c.t, .int .i64 c.r, .int .i64 c.l, .int .i64 c.v]), some (.row 88 5 ((ns ++ [(⟨c.k, c.t, c.r, c.l, c.v⟩ : Cn)]).length) 0 (fun zz => cc ((ns ++ [(⟨c.k, c.t, c.r, c.l, c.v⟩ : Cn)]).getD zz Cn.z)))])] A rfl rfl rfl rfl (by kernel_rfl) ⟨trivial, ⟨appE (i := 4) hX ((ns ++ [(⟨c.k, c.t, c.r, c.l, c.v⟩ : Cn)]).length) (fun zz => cc ((ns ++ [(⟨c.k, c.t, c.r, c.l, c.v⟩ : Cn)]).getD zz Cn.z)) rfl rfl rfl rfl (by omega) (by rw [List.length_append]; rfl) (fun k hk => by show cc _ = cc _; rw [cn_l hk]) (by show cc _ = _; rw [cn_1]; rfl) (fun z => ⟨_, rfl, rfl⟩), ⟨trivial, trivial⟩⟩⟩ trivial fun A => ENDN ((by rw [putN_y h1]; exact RET hX [7] A ⟨rfl, rfl⟩ rfl rfl rfl rfl rfl rfl rfl rfl h0)))
  (fun h1 A => N hX 2 A rfl rfl fun A => ENDN (have A := (A.cut [] rfl).mx (T' := []) (H' := [some (.blk [.ptr 1 0, .sl 5 ns.length 0]), some (.blk [.int .i64 ar, .ptr 2 0, .int .i64 s.e, .int .i64 s.a]), some (.blk [.sl 3 ws.length cw, .int .i64 ((s.p : Nat) : Int)]), some (.lst 4 ws.length (fun zz => tkc (ws.getD zz tok0))), none, some (.row 88 5 ns.length 0 (fun zz => cc (ns.getD zz Cn.z)))]) 5 [4] [true, true, true, true, false, true] rfl rfl rfl rfl rfl (by simp only [List.length_cons, List.length_nil] at h0; omega); (by rw [putN_n h1]; exact RET hX [5] A ⟨rfl, rfl⟩ rfl rfl rfl rfl rfl rfl rfl rfl h0)))
def atR (rf : List UInt8 → Int) (ws : List Tk) (s : Old.Rs) : Old.Rs × Int := regG rf ws (Old.markR ws [58] ⟨s.e, s.a, nxK ws s.p⟩)
def atV (rf : List UInt8 → Int) (ws : List Tk) (s : Old.Rs) : Old.Rs × Int := Old.numS ws (Old.markR ws [61] (atR rf ws s).1)
def atL (ws : List Tk) (s : Old.Rs) : Old.Rs × Int := Old.numS ws (Old.markR ws [61] ⟨s.e, s.a, nxK ws s.p⟩)
def atZ (rf : List UInt8 → Int) (ws : List Tk) (s : Old.Rs) (ns : List Cn) : Old.Rs × List Cn :=
  if (decide (s.p < ws.length) && ((ws.getD s.p tok0).kind == 2)) = true then
    if (decide ((ws.getD s.p tok0).n < 0) || decide ((ws.getD s.p tok0).n > 2)) = true then (Old.failR s 22 (ws.getD s.p tok0).at_, ns)
    else ((atV rf ws s).1, putN (atV rf ws s).1 ns ⟨1, (ws.getD s.p tok0).n, (atR rf ws s).2, 0, (atV rf ws s).2⟩)
  else if ((decide (s.p < ws.length) && ((ws.getD s.p tok0).kind == 1)) && decide (Old.locF (ws.getD s.p tok0).text ≥ 0)) = true then ((atL ws s).1, putN (atL ws s).1 ns ⟨2, 0, 0, Old.locF (ws.getD s.p tok0).text, (atL ws s).2⟩)
  else if (decide (s.p < ws.length) && ((ws.getD s.p tok0).kind == 1)) = true then (Old.failR s 21 (ws.getD s.p tok0).at_, ns)
  else if s.p < ws.length then (Old.failR s 22 (ws.getD s.p tok0).at_, ns) else (Old.failR s 24 (atW ws s.p), ns)
section
variable {rf : List UInt8 → Int} {ws : List Tk} {s : Old.Rs} {ns : List Cn}
theorem bne {b : Bool} (h : b = false) : ¬ b = true := by rw [h]; decide
theorem at_1 (h1 : (decide (s.p < ws.length) && ((ws.getD s.p tok0).kind == 2)) = true) (h2 : (decide ((ws.getD s.p tok0).n < 0) || decide ((ws.getD s.p tok0).n > 2)) = true) : atZ rf ws s ns = (Old.failR s 22 (ws.getD s.p tok0).at_, ns) := by unfold atZ; rw [if_pos h1, if_pos h2]
theorem at_2 (h1 : (decide (s.p < ws.length) && ((ws.getD s.p tok0).kind == 2)) = true) (h2 : (decide ((ws.getD s.p tok0).n < 0) || decide ((ws.getD s.p tok0).n > 2)) = false) : atZ rf ws s ns = ((atV rf ws s).1, putN (atV rf ws s).1 ns ⟨1, (ws.getD s.p tok0).n, (atR rf ws s).2, 0, (atV rf ws s).2⟩) := by unfold atZ; rw [if_pos h1, if_neg (bne h2)]
theorem at_3 (h1 : (decide (s.p < ws.length) && ((ws.getD s.p tok0).kind == 2)) = false) (h3 : ((decide (s.p < ws.length) && ((ws.getD s.p tok0).kind == 1)) && decide (Old.locF (ws.getD s.p tok0).text ≥ 0)) = true) : atZ rf ws s ns = ((atL ws s).1, putN (atL ws s).1 ns ⟨2, 0, 0, Old.locF (ws.getD s.p tok0).text, (atL ws s).2⟩) := by unfold atZ; rw [if_neg (bne h1), if_pos h3]
theorem at_4 (h1 : (decide (s.p < ws.length) && ((ws.getD s.p tok0).kind == 2)) = false) (h3 : ((decide (s.p < ws.length) && ((ws.getD s.p tok0).kind == 1)) && decide (Old.locF (ws.getD s.p tok0).text ≥ 0)) = false) (h4 : (decide (s.p < ws.length) && ((ws.getD s.p tok0).kind == 1)) = true) : atZ rf ws s ns = (Old.failR s 21 (ws.getD s.p tok0).at_, ns) := by unfold atZ; rw [if_neg (bne h1), if_neg (bne h3), if_pos h4]
theorem at_5 (h1 : (decide (s.p < ws.length) && ((ws.getD s.p tok0).kind == 2)) = false) (h3 : ((decide (s.p < ws.length) && ((ws.getD s.p tok0).kind == 1)) && decide (Old.locF (ws.getD s.p tok0).text ≥ 0)) = false) (h4 : (decide (s.p < ws.length) && ((ws.getD s.p tok0).kind == 1)) = false) (h5 : s.p < ws.length) : atZ rf ws s ns = (Old.failR s 22 (ws.getD s.p tok0).at_, ns) := by unfold atZ; rw [if_neg (bne h1), if_neg (bne h3), if_neg (bne h4), if_pos h5]
theorem at_6 (h1 : (decide (s.p < ws.length) && ((ws.getD s.p tok0).kind == 2)) = false) (h3 : ((decide (s.p < ws.length) && ((ws.getD s.p tok0).kind == 1)) && decide (Old.locF (ws.getD s.p tok0).text ≥ 0)) = false) (h4 : (decide (s.p < ws.length) && ((ws.getD s.p tok0).kind == 1)) = false) (h5 : ¬ s.p < ws.length) : atZ rf ws s ns = (Old.failR s 24 (atW ws s.p), ns) := by unfold atZ; rw [if_neg (bne h1), if_neg (bne h3), if_neg (bne h4), if_neg h5]
end
theorem ratom_ (ar : Int) (ws : List Tk) (cw : Nat) (s : Old.Rs) (ns : List Cn) (hk : s.p ≤ ws.length) (hn : ws.length ≤ 1000000) (hw : WsOK ws) (hns : ns.length ≤ 100000) (rf : List UInt8 → Int) (hrf : ∀ q : List UInt8, Fn Tryz.prog 17 [.int .i64 ar, .str q] [] (Rt (.int .i64 (rf q)) [])) : Fn Tryz.prog 212 [.ptr 0 0] [some (.blk [.ptr 1 0, .sl 4 ns.length 0]), some (.blk [.int .i64 ar, .ptr 2 0, .int .i64 s.e, .int .i64 s.a]), some (.blk [.sl 3 ws.length cw, .int .i64 ((s.p : Nat) : Int)]), some (.lst 4 ws.length (fun zz => tkc (ws.getD zz tok0))), some (.row 88 5 ns.length 0 (fun zz => cc (ns.getD zz Cn.z)))] (Rt (.tup []) [some (.blk [.ptr 1 0, .sl 5 (((atZ rf ws s ns).2).length) 0]), some (.blk [.int .i64 ar, .ptr 2 0, .int .i64 (((atZ rf ws s ns).1).e), .int .i64 (((atZ rf ws s ns).1).a)]), some (.blk [.sl 3 ws.length cw, .int .i64 ((((atZ rf ws s ns).1).p : Nat) : Int)]), some (.lst 4 ws.length (fun zz => tkc (ws.getD zz tok0))), none, some (.row 88 5 (((atZ rf ws s ns).2).length) 0 (fun zz => cc (((atZ rf ws s ns).2).getD zz Cn.z)))]) :=
 enterM (n := 145) (by kernel_rfl) Tryz.func212 rfl rfl rfl fun G w a h0 A => N hX 9 A rfl rfl fun A => CALL1 [2, 3] (rpeek_ ws cw s.p hk hn) A rfl rfl rfl rfl rfl rfl rfl fun A => N hX 20 A rfl rfl fun A => fork 29 A rfl
  (fun h1 A => N hX 14 A rfl rfl fun A => fork 43 A rfl
   (fun h2 A => N hX 2 A rfl rfl fun A => DRAWN hX hmo [] [(6, .tup [], [some (.blk [.ptr 1 0, .sl 4 ns.length 0]), some (.blk [.int .i64 ar, .ptr 2 0, .int .i64 ((Old.failR s 22 ((ws.getD s.p tok0).at_)).e), .int .i64 ((Old.failR s 22 ((ws.getD s.p tok0).at_)).a)]), some (.blk [.sl 3 ws.length cw, .int .i64 (((Old.failR s 22 ((ws.getD s.p tok0).at_)).p : Nat) : Int)]), some (.lst 4 ws.length (fun zz => tkc (ws.getD zz tok0))), some (.row 88 5 ns.length 0 (fun zz => cc (ns.getD zz Cn.z))), some (.blk [.int .i64 ((ws.getD s.p tok0).kind), .str ((ws.getD s.p tok0).text), .int .i64 ((ws.getD s.p tok0).n), .int .i64 ((ws.getD s.p tok0).at_)])])] A rfl rfl rfl rfl (by kernel_rfl) ⟨callE [1, 2, 3] (rfail_ ar ws cw s 22 ((ws.getD s.p tok0).at_) hk hn hw) rfl rfl rfl rfl rfl rfl rfl, trivial⟩ trivial fun A => N hX 2 A rfl rfl fun A => have A := (A.cut [] rfl).mx (T' := []) (H' := [some (.blk [.ptr 1 0, .sl 5 ns.length 0]), some (.blk [.int .i64 ar, .ptr 2 0, .int .i64 ((Old.failR s 22 ((ws.getD s.p tok0).at_)).e), .int .i64 ((Old.failR s 22 ((ws.getD s.p tok0).at_)).a)]), some (.blk [.sl 3 ws.length cw, .int .i64 (((Old.failR s 22 ((ws.getD s.p tok0).at_)).p : Nat) : Int)]), some (.lst 4 ws.length (fun zz => tkc (ws.getD zz tok0))), none, some (.row 88 5 ns.length 0 (fun zz => cc (ns.getD zz Cn.z)))]) 5 [4] [true, true, true, true, false, true] rfl rfl rfl rfl rfl (by simp only [List.length_cons, List.length_nil] at h0; omega); (by rw [at_1 h1 h2]; exact RET hX [5] A ⟨rfl, rfl⟩ rfl rfl rfl rfl rfl rfl rfl rfl h0))
   (fun h2 A => N hX 12 A rfl rfl fun A => CALL1 [2, 3] (rnext_ ws cw s.p hk hn) A rfl rfl rfl rfl rfl rfl rfl fun A => N hX 8 A rfl rfl fun A => CALL1 [1, 2, 3] (rmk_ ar ws cw (⟨s.e, s.a, nxK ws s.p⟩ : Old.Rs) [58] (nxK_le hk) hn hw) A rfl rfl rfl rfl rfl rfl rfl fun A => N hX 8 A rfl rfl fun A => CALL1 [1, 2, 3] (rreg_ ar ws cw (Old.markR ws [58] (⟨s.e, s.a, nxK ws s.p⟩ : Old.Rs)) (mark_le (nxK_le hk)) hn hw rf hrf) A rfl rfl rfl rfl rfl rfl rfl fun A => N hX 9 A rfl rfl fun A => CALL1 [1, 2, 3] (rmk_ ar ws cw ((regG rf ws (Old.markR ws [58] (⟨s.e, s.a, nxK ws s.p⟩ : Old.Rs))).1) [61] (regG_le (mark_le (nxK_le hk))) hn hw) A rfl rfl rfl rfl rfl rfl rfl fun A => N hX 2 A rfl rfl fun A => DRAWN hX hmo [] [(8, .int .i64 ((Old.numS ws (Old.markR ws [61] ((regG rf ws (Old.markR ws [58] (⟨s.e, s.a, nxK ws s.p⟩ : Old.Rs))).1))).2), [some (.blk [.ptr 1 0, .sl 4 ns.length 0]), some (.blk [.int .i64 ar, .ptr 2 0, .int .i64 (((Old.numS ws (Old.markR ws [61] ((regG rf ws (Old.markR ws [58] (⟨s.e, s.a, nxK ws s.p⟩ : Old.Rs))).1))).1).e), .int .i64 (((Old.numS ws (Old.markR ws [61] ((regG rf ws (Old.markR ws [58] (⟨s.e, s.a, nxK ws s.p⟩ : Old.Rs))).1))).1).a)]), some (.blk [.sl 3 ws.length cw, .int .i64 ((((Old.numS ws (Old.markR ws [61] ((regG rf ws (Old.markR ws [58] (⟨s.e, s.a, nxK ws s.p⟩ : Old.Rs))).1))).1).p : Nat) : Int)]), some (.lst 4 ws.length (fun zz => tkc (ws.getD zz tok0))), some (.row 88 5 ns.length 0 (fun zz => cc (ns.getD zz Cn.z))), some (.blk [.int .i64 ((ws.getD s.p tok0).kind), .str ((ws.getD s.p tok0).text), .int .i64 ((ws.getD s.p tok0).n), .int .i64 ((ws.getD s.p tok0).at_)])]), (10, .tup [], [some (.blk [.ptr 1 0, .sl 6 ((putN ((Old.numS ws (Old.markR ws [61] ((regG rf ws (Old.markR ws [58] (⟨s.e, s.a, nxK ws s.p⟩ : Old.Rs))).1))).1) ns (⟨1, (ws.getD s.p tok0).n, (regG rf ws (Old.markR ws [58] (⟨s.e, s.a, nxK ws s.p⟩ : Old.Rs))).2, 0, (Old.numS ws (Old.markR ws [61] ((regG rf ws (Old.markR ws [58] (⟨s.e, s.a, nxK ws s.p⟩ : Old.Rs))).1))).2⟩ : Cn)).length) 0]), some (.blk [.int .i64 ar, .ptr 2 0, .int .i64 (((Old.numS ws (Old.markR ws [61] ((regG rf ws (Old.markR ws [58] (⟨s.e, s.a, nxK ws s.p⟩ : Old.Rs))).1))).1).e), .int .i64 (((Old.numS ws (Old.markR ws [61] ((regG rf ws (Old.markR ws [58] (⟨s.e, s.a, nxK ws s.p⟩ : Old.Rs))).1))).1).a)]), some (.blk [.sl 3 ws.length cw, .int .i64 ((((Old.numS ws (Old.markR ws [61] ((regG rf ws (Old.markR ws [58] (⟨s.e, s.a, nxK ws s.p⟩ : Old.Rs))).1))).1).p : Nat) : Int)]), some (.lst 4 ws.length (fun zz => tkc (ws.getD zz tok0))), none, some (.blk [.int .i64 ((ws.getD s.p tok0).kind), .str ((ws.getD s.p tok0).text), .int .i64 ((ws.getD s.p tok0).n), .int .i64 ((ws.getD s.p tok0).at_)]), some (.row 88 5 ((putN ((Old.numS ws (Old.markR ws [61] ((regG rf ws (Old.markR ws [58] (⟨s.e, s.a, nxK ws s.p⟩ : Old.Rs))).1))).1) ns (⟨1, (ws.getD s.p tok0).n, (regG rf ws (Old.markR ws [58] (⟨s.e, s.a, nxK ws s.p⟩ : Old.Rs))).2, 0, (Old.numS ws (Old.markR ws [61] ((regG rf ws (Old.markR ws [58] (⟨s.e, s.a, nxK ws s.p⟩ : Old.Rs))).1))).2⟩ : Cn)).length) 0 (fun zz => cc ((putN ((Old.numS ws (Old.markR ws [61] ((regG rf ws (Old.markR ws [58] (⟨s.e, s.a, nxK ws s.p⟩ : Old.Rs))).1))).1) ns (⟨1, (ws.getD s.p tok0).n, (regG rf ws (Old.markR ws [58] (⟨s.e, s.a, nxK ws s.p⟩ : Old.Rs))).2, 0, (Old.numS ws (Old.markR ws [61] ((regG rf ws (Old.markR ws [58] (⟨s.e, s.a, nxK ws s.p⟩ : Old.Rs))).1))).2⟩ : Cn)).getD zz Cn.z)))])] A rfl rfl rfl rfl (by kernel_rfl) ⟨callE [1, 2, 3] (rnum_ ar ws cw (Old.markR ws [61] ((regG rf ws (Old.markR ws [58] (⟨s.e, s.a, nxK ws s.p⟩ : Old.Rs))).1)) (mark_le (regG_le (mark_le (nxK_le hk)))) hn hw) rfl rfl rfl rfl rfl rfl rfl, ⟨callE [0, 1, 2, 3, 4] (rput_ ar ws cw ((Old.numS ws (Old.markR ws [61] ((regG rf ws (Old.markR ws [58] (⟨s.e, s.a, nxK ws s.p⟩ : Old.Rs))).1))).1) ns (⟨1, (ws.getD s.p tok0).n, (regG rf ws (Old.markR ws [58] (⟨s.e, s.a, nxK ws s.p⟩ : Old.Rs))).2, 0, (Old.numS ws (Old.markR ws [61] ((regG rf ws (Old.markR ws [58] (⟨s.e, s.a, nxK ws s.p⟩ : Old.Rs))).1))).2⟩ : Cn) (num_le (mark_le (regG_le (mark_le (nxK_le hk))))) hn hw hns) rfl rfl rfl rfl rfl rfl rfl, trivial⟩⟩ trivial fun A => N hX 1 A rfl rfl fun A => ENDN ((by rw [at_2 h1 h2]; exact RET hX [6] A ⟨rfl, rfl⟩ rfl rfl rfl rfl rfl rfl rfl rfl h0))))
  (fun h1 A => N hX 5 A rfl rfl fun A => forkD 87 A rfl
   (fun h3 A => N hX 5 A rfl rfl fun A => forkE 92 A rfl
    (fun h4 A => N hX 2 A rfl rfl fun A => CALL1 [] (rloc_ ((ws.getD s.p tok0).text)) A rfl rfl rfl rfl rfl rfl rfl fun A => N hX 5 A rfl rfl fun A => forkD 85 A rfl
     (fun h5 A => N hX 10 A rfl rfl fun A => CALL1 [2, 3] (rnext_ ws cw s.p hk hn) A rfl rfl rfl rfl rfl rfl rfl fun A => N hX 8 A rfl rfl fun A => CALL1 [1, 2, 3] (rmk_ ar ws cw (⟨s.e, s.a, nxK ws s.p⟩ : Old.Rs) [61] (nxK_le hk) hn hw) A rfl rfl rfl rfl rfl rfl rfl fun A => N hX 2 A rfl rfl fun A => DRAWN hX hmo [(3, .int .i64 (Old.locF ((ws.getD s.p tok0).text)))] [(8, .int .i64 ((Old.numS ws (Old.markR ws [61] (⟨s.e, s.a, nxK ws s.p⟩ : Old.Rs))).2), [some (.blk [.ptr 1 0, .sl 4 ns.length 0]), some (.blk [.int .i64 ar, .ptr 2 0, .int .i64 (((Old.numS ws (Old.markR ws [61] (⟨s.e, s.a, nxK ws s.p⟩ : Old.Rs))).1).e), .int .i64 (((Old.numS ws (Old.markR ws [61] (⟨s.e, s.a, nxK ws s.p⟩ : Old.Rs))).1).a)]), some (.blk [.sl 3 ws.length cw, .int .i64 ((((Old.numS ws (Old.markR ws [61] (⟨s.e, s.a, nxK ws s.p⟩ : Old.Rs))).1).p : Nat) : Int)]), some (.lst 4 ws.length (fun zz => tkc (ws.getD zz tok0))), some (.row 88 5 ns.length 0 (fun zz => cc (ns.getD zz Cn.z))), some (.blk [.int .i64 ((ws.getD s.p tok0).kind), .str ((ws.getD s.p tok0).text), .int .i64 ((ws.getD s.p tok0).n), .int .i64 ((ws.getD s.p tok0).at_)])]), (10, .tup [], [some (.blk [.ptr 1 0, .sl 6 ((putN ((Old.numS ws (Old.markR ws [61] (⟨s.e, s.a, nxK ws s.p⟩ : Old.Rs))).1) ns (⟨2, 0, 0, Old.locF ((ws.getD s.p tok0).text), (Old.numS ws (Old.markR ws [61] (⟨s.e, s.a, nxK ws s.p⟩ : Old.Rs))).2⟩ : Cn)).length) 0]), some (.blk [.int .i64 ar, .ptr 2 0, .int .i64 (((Old.numS ws (Old.markR ws [61] (⟨s.e, s.a, nxK ws s.p⟩ : Old.Rs))).1).e), .int .i64 (((Old.numS ws (Old.markR ws [61] (⟨s.e, s.a, nxK ws s.p⟩ : Old.Rs))).1).a)]), some (.blk [.sl 3 ws.length cw, .int .i64 ((((Old.numS ws (Old.markR ws [61] (⟨s.e, s.a, nxK ws s.p⟩ : Old.Rs))).1).p : Nat) : Int)]), some (.lst 4 ws.length (fun zz => tkc (ws.getD zz tok0))), none, some (.blk [.int .i64 ((ws.getD s.p tok0).kind), .str ((ws.getD s.p tok0).text), .int .i64 ((ws.getD s.p tok0).n), .int .i64 ((ws.getD s.p tok0).at_)]), some (.row 88 5 ((putN ((Old.numS ws (Old.markR ws [61] (⟨s.e, s.a, nxK ws s.p⟩ : Old.Rs))).1) ns (⟨2, 0, 0, Old.locF ((ws.getD s.p tok0).text), (Old.numS ws (Old.markR ws [61] (⟨s.e, s.a, nxK ws s.p⟩ : Old.Rs))).2⟩ : Cn)).length) 0 (fun zz => cc ((putN ((Old.numS ws (Old.markR ws [61] (⟨s.e, s.a, nxK ws s.p⟩ : Old.Rs))).1) ns (⟨2, 0, 0, Old.locF ((ws.getD s.p tok0).text), (Old.numS ws (Old.markR ws [61] (⟨s.e, s.a, nxK ws s.p⟩ : Old.Rs))).2⟩ : Cn)).getD zz Cn.z)))])] A rfl rfl rfl rfl (by kernel_rfl) ⟨callE [1, 2, 3] (rnum_ ar ws cw (Old.markR ws [61] (⟨s.e, s.a, nxK ws s.p⟩ : Old.Rs)) (mark_le (nxK_le hk)) hn hw) rfl rfl rfl rfl rfl rfl rfl, ⟨callE [0, 1, 2, 3, 4] (rput_ ar ws cw ((Old.numS ws (Old.markR ws [61] (⟨s.e, s.a, nxK ws s.p⟩ : Old.Rs))).1) ns (⟨2, 0, 0, Old.locF ((ws.getD s.p tok0).text), (Old.numS ws (Old.markR ws [61] (⟨s.e, s.a, nxK ws s.p⟩ : Old.Rs))).2⟩ : Cn) (num_le (mark_le (nxK_le hk))) hn hw hns) rfl rfl rfl rfl rfl rfl rfl, trivial⟩⟩ ⟨.inl ⟨_, _, rfl, rfl, rloc_ ((ws.getD s.p tok0).text)⟩, trivial⟩ fun A => N hX 1 A rfl rfl fun A => ENDN ((by rw [at_3 h1 (by rw [decide_eq_true h3, beq_iff_eq.2 h4, decide_eq_true h5]; rfl)]; exact RET hX [6] A ⟨rfl, rfl⟩ rfl rfl rfl rfl rfl rfl rfl rfl h0)))
     (fun h5 A => N hX 12 A rfl rfl fun A => fork 122 A rfl
      (fun h6 A => N hX 1 A rfl rfl fun A => DRAWN hX hmo [] [(6, .tup [], [some (.blk [.ptr 1 0, .sl 4 ns.length 0]), some (.blk [.int .i64 ar, .ptr 2 0, .int .i64 ((Old.failR s 21 ((ws.getD s.p tok0).at_)).e), .int .i64 ((Old.failR s 21 ((ws.getD s.p tok0).at_)).a)]), some (.blk [.sl 3 ws.length cw, .int .i64 (((Old.failR s 21 ((ws.getD s.p tok0).at_)).p : Nat) : Int)]), some (.lst 4 ws.length (fun zz => tkc (ws.getD zz tok0))), some (.row 88 5 ns.length 0 (fun zz => cc (ns.getD zz Cn.z))), some (.blk [.int .i64 ((ws.getD s.p tok0).kind), .str ((ws.getD s.p tok0).text), .int .i64 ((ws.getD s.p tok0).n), .int .i64 ((ws.getD s.p tok0).at_)])])] A rfl rfl rfl rfl (by kernel_rfl) ⟨callE [1, 2, 3] (rfail_ ar ws cw s 21 ((ws.getD s.p tok0).at_) hk hn hw) rfl rfl rfl rfl rfl rfl rfl, trivial⟩ trivial fun A => N hX 1 A rfl rfl fun A => ENDN (have A := (A.cut [] rfl).mx (T' := []) (H' := [some (.blk [.ptr 1 0, .sl 5 ns.length 0]), some (.blk [.int .i64 ar, .ptr 2 0, .int .i64 ((Old.failR s 21 ((ws.getD s.p tok0).at_)).e), .int .i64 ((Old.failR s 21 ((ws.getD s.p tok0).at_)).a)]), some (.blk [.sl 3 ws.length cw, .int .i64 (((Old.failR s 21 ((ws.getD s.p tok0).at_)).p : Nat) : Int)]), some (.lst 4 ws.length (fun zz => tkc (ws.getD zz tok0))), none, some (.row 88 5 ns.length 0 (fun zz => cc (ns.getD zz Cn.z)))]) 5 [4] [true, true, true, true, false, true] rfl rfl rfl rfl rfl (by simp only [List.length_cons, List.length_nil] at h0; omega); (by rw [at_4 h1 (by rw [decide_eq_false h5, Bool.and_false]) h6]; exact RET hX [5] A ⟨rfl, rfl⟩ rfl rfl rfl rfl rfl rfl rfl rfl h0)))
      (fun h6 A => N hX 7 A rfl rfl fun A => forkD 136 A rfl
       (fun h7 A => N hX 1 A rfl rfl fun A => DRAWN hX hmo [] [(6, .tup [], [some (.blk [.ptr 1 0, .sl 4 ns.length 0]), some (.blk [.int .i64 ar, .ptr 2 0, .int .i64 ((Old.failR s 22 ((ws.getD s.p tok0).at_)).e), .int .i64 ((Old.failR s 22 ((ws.getD s.p tok0).at_)).a)]), some (.blk [.sl 3 ws.length cw, .int .i64 (((Old.failR s 22 ((ws.getD s.p tok0).at_)).p : Nat) : Int)]), some (.lst 4 ws.length (fun zz => tkc (ws.getD zz tok0))), some (.row 88 5 ns.length 0 (fun zz => cc (ns.getD zz Cn.z))), some (.blk [.int .i64 ((ws.getD s.p tok0).kind), .str ((ws.getD s.p tok0).text), .int .i64 ((ws.getD s.p tok0).n), .int .i64 ((ws.getD s.p tok0).at_)])])] A rfl rfl rfl rfl (by kernel_rfl) ⟨callE [1, 2, 3] (rfail_ ar ws cw s 22 ((ws.getD s.p tok0).at_) hk hn hw) rfl rfl rfl rfl rfl rfl rfl, trivial⟩ trivial fun A => N hX 1 A rfl rfl fun A => ENDN (have A := (A.cut [] rfl).mx (T' := []) (H' := [some (.blk [.ptr 1 0, .sl 5 ns.length 0]), some (.blk [.int .i64 ar, .ptr 2 0, .int .i64 ((Old.failR s 22 ((ws.getD s.p tok0).at_)).e), .int .i64 ((Old.failR s 22 ((ws.getD s.p tok0).at_)).a)]), some (.blk [.sl 3 ws.length cw, .int .i64 (((Old.failR s 22 ((ws.getD s.p tok0).at_)).p : Nat) : Int)]), some (.lst 4 ws.length (fun zz => tkc (ws.getD zz tok0))), none, some (.row 88 5 ns.length 0 (fun zz => cc (ns.getD zz Cn.z)))]) 5 [4] [true, true, true, true, false, true] rfl rfl rfl rfl rfl (by simp only [List.length_cons, List.length_nil] at h0; omega); (by rw [at_5 h1 (by rw [decide_eq_false h5, Bool.and_false]) h6 h7]; exact RET hX [5] A ⟨rfl, rfl⟩ rfl rfl rfl rfl rfl rfl rfl rfl h0)))
       (fun h7 A => N hX 1 A rfl rfl fun A => DRAWN hX hmo [] [(11, .int .i64 (atW ws s.p), [some (.blk [.ptr 1 0, .sl 4 ns.length 0]), some (.blk [.int .i64 ar, .ptr 2 0, .int .i64 s.e, .int .i64 s.a]), some (.blk [.sl 3 ws.length cw, .int .i64 ((s.p : Nat) : Int)]), some (.lst 4 ws.length (fun zz => tkc (ws.getD zz tok0))), some (.row 88 5 ns.length 0 (fun zz => cc (ns.getD zz Cn.z))), some (.blk [.int .i64 ((ws.getD s.p tok0).kind), .str ((ws.getD s.p tok0).text), .int .i64 ((ws.getD s.p tok0).n), .int .i64 ((ws.getD s.p tok0).at_)])]), (12, .tup [], [some (.blk [.ptr 1 0, .sl 4 ns.length 0]), some (.blk [.int .i64 ar, .ptr 2 0, .int .i64 ((Old.failR s 24 (atW ws s.p)).e), .int .i64 ((Old.failR s 24 (atW ws s.p)).a)]), some (.blk [.sl 3 ws.length cw, .int .i64 (((Old.failR s 24 (atW ws s.p)).p : Nat) : Int)]), some (.lst 4 ws.length (fun zz => tkc (ws.getD zz tok0))), some (.row 88 5 ns.length 0 (fun zz => cc (ns.getD zz Cn.z))), some (.blk [.int .i64 ((ws.getD s.p tok0).kind), .str ((ws.getD s.p tok0).text), .int .i64 ((ws.getD s.p tok0).n), .int .i64 ((ws.getD s.p tok0).at_)])])] A rfl rfl rfl rfl (by kernel_rfl) ⟨callE [2, 3] (rwhere_ ws cw s.p hk hn hw) rfl rfl rfl rfl rfl rfl rfl, ⟨callE [1, 2, 3] (rfail_ ar ws cw s 24 (atW ws s.p) hk hn hw) rfl rfl rfl rfl rfl rfl rfl, trivial⟩⟩ trivial fun A => N hX 1 A rfl rfl fun A => ENDN (have A := (A.cut [] rfl).mx (T' := []) (H' := [some (.blk [.ptr 1 0, .sl 5 ns.length 0]), some (.blk [.int .i64 ar, .ptr 2 0, .int .i64 ((Old.failR s 24 (atW ws s.p)).e), .int .i64 ((Old.failR s 24 (atW ws s.p)).a)]), some (.blk [.sl 3 ws.length cw, .int .i64 (((Old.failR s 24 (atW ws s.p)).p : Nat) : Int)]), some (.lst 4 ws.length (fun zz => tkc (ws.getD zz tok0))), none, some (.row 88 5 ns.length 0 (fun zz => cc (ns.getD zz Cn.z)))]) 5 [4] [true, true, true, true, false, true] rfl rfl rfl rfl rfl (by simp only [List.length_cons, List.length_nil] at h0; omega); (by rw [at_6 h1 (by rw [decide_eq_false h5, Bool.and_false]) h6 h7]; exact RET hX [5] A ⟨rfl, rfl⟩ rfl rfl rfl rfl rfl rfl rfl rfl h0))))))
    (fun h4 A => N hX 20 A rfl rfl fun A => fork 122 A rfl
     (fun h8 A => N hX 1 A rfl rfl fun A => DRAWN hX hmo [] [(6, .tup [], [some (.blk [.ptr 1 0, .sl 4 ns.length 0]), some (.blk [.int .i64 ar, .ptr 2 0, .int .i64 ((Old.failR s 21 ((ws.getD s.p tok0).at_)).e), .int .i64 ((Old.failR s 21 ((ws.getD s.p tok0).at_)).a)]), some (.blk [.sl 3 ws.length cw, .int .i64 (((Old.failR s 21 ((ws.getD s.p tok0).at_)).p : Nat) : Int)]), some (.lst 4 ws.length (fun zz => tkc (ws.getD zz tok0))), some (.row 88 5 ns.length 0 (fun zz => cc (ns.getD zz Cn.z))), some (.blk [.int .i64 ((ws.getD s.p tok0).kind), .str ((ws.getD s.p tok0).text), .int .i64 ((ws.getD s.p tok0).n), .int .i64 ((ws.getD s.p tok0).at_)])])] A rfl rfl rfl rfl (by kernel_rfl) ⟨callE [1, 2, 3] (rfail_ ar ws cw s 21 ((ws.getD s.p tok0).at_) hk hn hw) rfl rfl rfl rfl rfl rfl rfl, trivial⟩ trivial fun A => N hX 1 A rfl rfl fun A => ENDN (have A := (A.cut [] rfl).mx (T' := []) (H' := [some (.blk [.ptr 1 0, .sl 5 ns.length 0]), some (.blk [.int .i64 ar, .ptr 2 0, .int .i64 ((Old.failR s 21 ((ws.getD s.p tok0).at_)).e), .int .i64 ((Old.failR s 21 ((ws.getD s.p tok0).at_)).a)]), some (.blk [.sl 3 ws.length cw, .int .i64 (((Old.failR s 21 ((ws.getD s.p tok0).at_)).p : Nat) : Int)]), some (.lst 4 ws.length (fun zz => tkc (ws.getD zz tok0))), none, some (.row 88 5 ns.length 0 (fun zz => cc (ns.getD zz Cn.z)))]) 5 [4] [true, true, true, true, false, true] rfl rfl rfl rfl rfl (by simp only [List.length_cons, List.length_nil] at h0; omega); (by rw [at_4 h1 (by rw [beq_eq_false_iff_ne.2 h4, Bool.and_false, Bool.false_and]) h8]; exact RET hX [5] A ⟨rfl, rfl⟩ rfl rfl rfl rfl rfl rfl rfl rfl h0)))
     (fun h8 A => N hX 7 A rfl rfl fun A => forkD 136 A rfl
      (fun h9 A => N hX 1 A rfl rfl fun A => DRAWN hX hmo [] [(6, .tup [], [some (.blk [.ptr 1 0, .sl 4 ns.length 0]), some (.blk [.int .i64 ar, .ptr 2 0, .int .i64 ((Old.failR s 22 ((ws.getD s.p tok0).at_)).e), .int .i64 ((Old.failR s 22 ((ws.getD s.p tok0).at_)).a)]), some (.blk [.sl 3 ws.length cw, .int .i64 (((Old.failR s 22 ((ws.getD s.p tok0).at_)).p : Nat) : Int)]), some (.lst 4 ws.length (fun zz => tkc (ws.getD zz tok0))), some (.row 88 5 ns.length 0 (fun zz => cc (ns.getD zz Cn.z))), some (.blk [.int .i64 ((ws.getD s.p tok0).kind), .str ((ws.getD s.p tok0).text), .int .i64 ((ws.getD s.p tok0).n), .int .i64 ((ws.getD s.p tok0).at_)])])] A rfl rfl rfl rfl (by kernel_rfl) ⟨callE [1, 2, 3] (rfail_ ar ws cw s 22 ((ws.getD s.p tok0).at_) hk hn hw) rfl rfl rfl rfl rfl rfl rfl, trivial⟩ trivial fun A => N hX 1 A rfl rfl fun A => ENDN (have A := (A.cut [] rfl).mx (T' := []) (H' := [some (.blk [.ptr 1 0, .sl 5 ns.length 0]), some (.blk [.int .i64 ar, .ptr 2 0, .int .i64 ((Old.failR s 22 ((ws.getD s.p tok0).at_)).e), .int .i64 ((Old.failR s 22 ((ws.getD s.p tok0).at_)).a)]), some (.blk [.sl 3 ws.length cw, .int .i64 (((Old.failR s 22 ((ws.getD s.p tok0).at_)).p : Nat) : Int)]), some (.lst 4 ws.length (fun zz => tkc (ws.getD zz tok0))), none, some (.row 88 5 ns.length 0 (fun zz => cc (ns.getD zz Cn.z)))]) 5 [4] [true, true, true, true, false, true] rfl rfl rfl rfl rfl (by simp only [List.length_cons, List.length_nil] at h0; omega); (by rw [at_5 h1 (by rw [beq_eq_false_iff_ne.2 h4, Bool.and_false, Bool.false_and]) h8 h9]; exact RET hX [5] A ⟨rfl, rfl⟩ rfl rfl rfl rfl rfl rfl rfl rfl h0)))
      (fun h9 A => N hX 1 A rfl rfl fun A => DRAWN hX hmo [] [(11, .int .i64 (atW ws s.p), [some (.blk [.ptr 1 0, .sl 4 ns.length 0]), some (.blk [.int .i64 ar, .ptr 2 0, .int .i64 s.e, .int .i64 s.a]), some (.blk [.sl 3 ws.length cw, .int .i64 ((s.p : Nat) : Int)]), some (.lst 4 ws.length (fun zz => tkc (ws.getD zz tok0))), some (.row 88 5 ns.length 0 (fun zz => cc (ns.getD zz Cn.z))), some (.blk [.int .i64 ((ws.getD s.p tok0).kind), .str ((ws.getD s.p tok0).text), .int .i64 ((ws.getD s.p tok0).n), .int .i64 ((ws.getD s.p tok0).at_)])]), (12, .tup [], [some (.blk [.ptr 1 0, .sl 4 ns.length 0]), some (.blk [.int .i64 ar, .ptr 2 0, .int .i64 ((Old.failR s 24 (atW ws s.p)).e), .int .i64 ((Old.failR s 24 (atW ws s.p)).a)]), some (.blk [.sl 3 ws.length cw, .int .i64 (((Old.failR s 24 (atW ws s.p)).p : Nat) : Int)]), some (.lst 4 ws.length (fun zz => tkc (ws.getD zz tok0))), some (.row 88 5 ns.length 0 (fun zz => cc (ns.getD zz Cn.z))), some (.blk [.int .i64 ((ws.getD s.p tok0).kind), .str ((ws.getD s.p tok0).text), .int .i64 ((ws.getD s.p tok0).n), .int .i64 ((ws.getD s.p tok0).at_)])])] A rfl rfl rfl rfl (by kernel_rfl) ⟨callE [2, 3] (rwhere_ ws cw s.p hk hn hw) rfl rfl rfl rfl rfl rfl rfl, ⟨callE [1, 2, 3] (rfail_ ar ws cw s 24 (atW ws s.p) hk hn hw) rfl rfl rfl rfl rfl rfl rfl, trivial⟩⟩ trivial fun A => N hX 1 A rfl rfl fun A => ENDN (have A := (A.cut [] rfl).mx (T' := []) (H' := [some (.blk [.ptr 1 0, .sl 5 ns.length 0]), some (.blk [.int .i64 ar, .ptr 2 0, .int .i64 ((Old.failR s 24 (atW ws s.p)).e), .int .i64 ((Old.failR s 24 (atW ws s.p)).a)]), some (.blk [.sl 3 ws.length cw, .int .i64 (((Old.failR s 24 (atW ws s.p)).p : Nat) : Int)]), some (.lst 4 ws.length (fun zz => tkc (ws.getD zz tok0))), none, some (.row 88 5 ns.length 0 (fun zz => cc (ns.getD zz Cn.z)))]) 5 [4] [true, true, true, true, false, true] rfl rfl rfl rfl rfl (by simp only [List.length_cons, List.length_nil] at h0; omega); (by rw [at_6 h1 (by rw [beq_eq_false_iff_ne.2 h4, Bool.and_false, Bool.false_and]) h8 h9]; exact RET hX [5] A ⟨rfl, rfl⟩ rfl rfl rfl rfl rfl rfl rfl rfl h0))))))
   (fun h3 A => N hX 25 A rfl rfl fun A => fork 122 A rfl
    (fun h10 A => N hX 1 A rfl rfl fun A => DRAWN hX hmo [] [(6, .tup [], [some (.blk [.ptr 1 0, .sl 4 ns.length 0]), some (.blk [.int .i64 ar, .ptr 2 0, .int .i64 ((Old.failR s 21 ((ws.getD s.p tok0).at_)).e), .int .i64 ((Old.failR s 21 ((ws.getD s.p tok0).at_)).a)]), some (.blk [.sl 3 ws.length cw, .int .i64 (((Old.failR s 21 ((ws.getD s.p tok0).at_)).p : Nat) : Int)]), some (.lst 4 ws.length (fun zz => tkc (ws.getD zz tok0))), some (.row 88 5 ns.length 0 (fun zz => cc (ns.getD zz Cn.z))), some (.blk [.int .i64 ((ws.getD s.p tok0).kind), .str ((ws.getD s.p tok0).text), .int .i64 ((ws.getD s.p tok0).n), .int .i64 ((ws.getD s.p tok0).at_)])])] A rfl rfl rfl rfl (by kernel_rfl) ⟨callE [1, 2, 3] (rfail_ ar ws cw s 21 ((ws.getD s.p tok0).at_) hk hn hw) rfl rfl rfl rfl rfl rfl rfl, trivial⟩ trivial fun A => N hX 1 A rfl rfl fun A => ENDN (have A := (A.cut [] rfl).mx (T' := []) (H' := [some (.blk [.ptr 1 0, .sl 5 ns.length 0]), some (.blk [.int .i64 ar, .ptr 2 0, .int .i64 ((Old.failR s 21 ((ws.getD s.p tok0).at_)).e), .int .i64 ((Old.failR s 21 ((ws.getD s.p tok0).at_)).a)]), some (.blk [.sl 3 ws.length cw, .int .i64 (((Old.failR s 21 ((ws.getD s.p tok0).at_)).p : Nat) : Int)]), some (.lst 4 ws.length (fun zz => tkc (ws.getD zz tok0))), none, some (.row 88 5 ns.length 0 (fun zz => cc (ns.getD zz Cn.z)))]) 5 [4] [true, true, true, true, false, true] rfl rfl rfl rfl rfl (by simp only [List.length_cons, List.length_nil] at h0; omega); (by rw [at_4 h1 (by rw [decide_eq_false h3, Bool.false_and, Bool.false_and]) h10]; exact RET hX [5] A ⟨rfl, rfl⟩ rfl rfl rfl rfl rfl rfl rfl rfl h0)))
    (fun h10 A => N hX 7 A rfl rfl fun A => forkD 136 A rfl
     (fun h11 A => N hX 1 A rfl rfl fun A => DRAWN hX hmo [] [(6, .tup [], [some (.blk [.ptr 1 0, .sl 4 ns.length 0]), some (.blk [.int .i64 ar, .ptr 2 0, .int .i64 ((Old.failR s 22 ((ws.getD s.p tok0).at_)).e), .int .i64 ((Old.failR s 22 ((ws.getD s.p tok0).at_)).a)]), some (.blk [.sl 3 ws.length cw, .int .i64 (((Old.failR s 22 ((ws.getD s.p tok0).at_)).p : Nat) : Int)]), some (.lst 4 ws.length (fun zz => tkc (ws.getD zz tok0))), some (.row 88 5 ns.length 0 (fun zz => cc (ns.getD zz Cn.z))), some (.blk [.int .i64 ((ws.getD s.p tok0).kind), .str ((ws.getD s.p tok0).text), .int .i64 ((ws.getD s.p tok0).n), .int .i64 ((ws.getD s.p tok0).at_)])])] A rfl rfl rfl rfl (by kernel_rfl) ⟨callE [1, 2, 3] (rfail_ ar ws cw s 22 ((ws.getD s.p tok0).at_) hk hn hw) rfl rfl rfl rfl rfl rfl rfl, trivial⟩ trivial fun A => N hX 1 A rfl rfl fun A => ENDN (have A := (A.cut [] rfl).mx (T' := []) (H' := [some (.blk [.ptr 1 0, .sl 5 ns.length 0]), some (.blk [.int .i64 ar, .ptr 2 0, .int .i64 ((Old.failR s 22 ((ws.getD s.p tok0).at_)).e), .int .i64 ((Old.failR s 22 ((ws.getD s.p tok0).at_)).a)]), some (.blk [.sl 3 ws.length cw, .int .i64 (((Old.failR s 22 ((ws.getD s.p tok0).at_)).p : Nat) : Int)]), some (.lst 4 ws.length (fun zz => tkc (ws.getD zz tok0))), none, some (.row 88 5 ns.length 0 (fun zz => cc (ns.getD zz Cn.z)))]) 5 [4] [true, true, true, true, false, true] rfl rfl rfl rfl rfl (by simp only [List.length_cons, List.length_nil] at h0; omega); (by rw [at_5 h1 (by rw [decide_eq_false h3, Bool.false_and, Bool.false_and]) h10 h11]; exact RET hX [5] A ⟨rfl, rfl⟩ rfl rfl rfl rfl rfl rfl rfl rfl h0)))
     (fun h11 A => N hX 1 A rfl rfl fun A => DRAWN hX hmo [] [(11, .int .i64 (atW ws s.p), [some (.blk [.ptr 1 0, .sl 4 ns.length 0]), some (.blk [.int .i64 ar, .ptr 2 0, .int .i64 s.e, .int .i64 s.a]), some (.blk [.sl 3 ws.length cw, .int .i64 ((s.p : Nat) : Int)]), some (.lst 4 ws.length (fun zz => tkc (ws.getD zz tok0))), some (.row 88 5 ns.length 0 (fun zz => cc (ns.getD zz Cn.z))), some (.blk [.int .i64 ((ws.getD s.p tok0).kind), .str ((ws.getD s.p tok0).text), .int .i64 ((ws.getD s.p tok0).n), .int .i64 ((ws.getD s.p tok0).at_)])]), (12, .tup [], [some (.blk [.ptr 1 0, .sl 4 ns.length 0]), some (.blk [.int .i64 ar, .ptr 2 0, .int .i64 ((Old.failR s 24 (atW ws s.p)).e), .int .i64 ((Old.failR s 24 (atW ws s.p)).a)]), some (.blk [.sl 3 ws.length cw, .int .i64 (((Old.failR s 24 (atW ws s.p)).p : Nat) : Int)]), some (.lst 4 ws.length (fun zz => tkc (ws.getD zz tok0))), some (.row 88 5 ns.length 0 (fun zz => cc (ns.getD zz Cn.z))), some (.blk [.int .i64 ((ws.getD s.p tok0).kind), .str ((ws.getD s.p tok0).text), .int .i64 ((ws.getD s.p tok0).n), .int .i64 ((ws.getD s.p tok0).at_)])])] A rfl rfl rfl rfl (by kernel_rfl) ⟨callE [2, 3] (rwhere_ ws cw s.p hk hn hw) rfl rfl rfl rfl rfl rfl rfl, ⟨callE [1, 2, 3] (rfail_ ar ws cw s 24 (atW ws s.p) hk hn hw) rfl rfl rfl rfl rfl rfl rfl, trivial⟩⟩ trivial fun A => N hX 1 A rfl rfl fun A => ENDN (have A := (A.cut [] rfl).mx (T' := []) (H' := [some (.blk [.ptr 1 0, .sl 5 ns.length 0]), some (.blk [.int .i64 ar, .ptr 2 0, .int .i64 ((Old.failR s 24 (atW ws s.p)).e), .int .i64 ((Old.failR s 24 (atW ws s.p)).a)]), some (.blk [.sl 3 ws.length cw, .int .i64 (((Old.failR s 24 (atW ws s.p)).p : Nat) : Int)]), some (.lst 4 ws.length (fun zz => tkc (ws.getD zz tok0))), none, some (.row 88 5 ns.length 0 (fun zz => cc (ns.getD zz Cn.z)))]) 5 [4] [true, true, true, true, false, true] rfl rfl rfl rfl rfl (by simp only [List.length_cons, List.length_nil] at h0; omega); (by rw [at_6 h1 (by rw [decide_eq_false h3, Bool.false_and, Bool.false_and]) h10 h11]; exact RET hX [5] A ⟨rfl, rfl⟩ rfl rfl rfl rfl rfl rfl rfl rfl h0))))))
section
variable {rf : List UInt8 → Int} {ws : List Tk} {k : Nat} {m : List UInt8} {s : Old.Rs} {x y : Int} {u : Bool}
theorem nxK_gt (h : k < ws.length) : k + 1 ≤ nxK ws k := by rw [nxK_y h]; exact Nat.le_refl _
theorem nxK_ge9 : k ≤ nxK ws k := by unfold nxK; split <;> omega
theorem tkK_ge9 : k ≤ tkK ws k m := by unfold tkK; split <;> omega
theorem tk_lt9 (h : tkB ws k m = true) : k < ws.length := by
  apply Classical.byContradiction; intro hn
  unfold tkB at h
  rw [decide_eq_false hn] at h
  simp at h
theorem mark_ge : s.p ≤ (Old.markR ws m s).p := by
  by_cases he : s.e = 0
  · cases hb : tkB ws s.p m with
    | true => rw [mark_y he hb]; exact tkK_ge9
    | false => rw [mark_n he hb, odd_p]; exact tkK_ge9
  · rw [mark_s he]; exact Nat.le_refl _
theorem regG_ge : s.p ≤ (regG rf ws s).1.p := by
  by_cases he : s.e = 0
  · cases hb : (((!(decide (s.p < ws.length))) || (!((ws.getD s.p tok0).kind == 1))) || (decide (rf (ws.getD s.p tok0).text < 0))) with
    | true => rw [reg_n he hb, odd_p]; exact Nat.le_refl _
    | false => rw [reg_y he hb]; exact nxK_ge9
  · rw [reg_s he]; exact Nat.le_refl _
theorem num_ge : s.p ≤ (Old.numS ws s).1.p := by
  by_cases he : s.e = 0
  · rw [numM he]
    cases hb : ((!(decide (tkK ws s.p [45] < ws.length))) || (!((ws.getD (tkK ws s.p [45]) tok0).kind == 2))) with
    | true => rw [numE_n hb, odd_p]; exact tkK_ge9
    | false => rw [numE_y hb]; exact Nat.le_trans tkK_ge9 nxK_ge9
  · rw [num_s he]; exact Nat.le_refl _
end
def Gdf (ws : List Tk) (f : (Old.Rs → List Cn → Old.Rs × List Cn)) : Prop := ∀ (s : Old.Rs) (ns : List Cn), s.p ≤ ws.length → s.p ≤ (f s ns).1.p ∧ (f s ns).1.p ≤ ws.length ∧ (f s ns).2.length + s.p ≤ ns.length + (f s ns).1.p
theorem at_gd (rf : List UInt8 → Int) (ws : List Tk) : Gdf ws (atZ rf ws) := by
  intro s ns hk
  unfold atZ
  (repeat' split)
  · rw [fail_p]; exact ⟨Nat.le_refl _, hk, Nat.le_refl _⟩
  · rename_i h1 h2
    have h3 : s.p < ws.length := of_decide_eq_true (Bool.and_eq_true _ _ ▸ h1 : _ ∧ _).1
    have h4 := nxK_gt h3
    have h5 := putN_len (atV rf ws s).1 ns ⟨1, (ws.getD s.p tok0).n, (atR rf ws s).2, 0, (atV rf ws s).2⟩
    have h6 : nxK ws s.p ≤ (atV rf ws s).1.p := Nat.le_trans (Nat.le_trans (mark_ge (s := ⟨s.e, s.a, nxK ws s.p⟩)) regG_ge) (Nat.le_trans mark_ge num_ge)
    have h7 : (atV rf ws s).1.p ≤ ws.length := num_le (mark_le (regG_le (mark_le (nxK_le hk))))
    refine ⟨by show s.p ≤ (atV rf ws s).1.p; omega, h7, ?_⟩
    show (putN _ _ _).length + s.p ≤ ns.length + (atV rf ws s).1.p
    omega
  · rename_i h1 h2
    have h3 : s.p < ws.length := of_decide_eq_true (Bool.and_eq_true _ _ ▸ ((Bool.and_eq_true _ _ ▸ h2 : _ ∧ _).1) : _ ∧ _).1
    have h4 := nxK_gt h3
    have h5 := putN_len (atL ws s).1 ns ⟨2, 0, 0, Old.locF (ws.getD s.p tok0).text, (atL ws s).2⟩
    have h6 : nxK ws s.p ≤ (atL ws s).1.p := Nat.le_trans (mark_ge (s := ⟨s.e, s.a, nxK ws s.p⟩)) num_ge
    have h7 : (atL ws s).1.p ≤ ws.length := num_le (mark_le (nxK_le hk))
    refine ⟨by show s.p ≤ (atL ws s).1.p; omega, h7, ?_⟩
    show (putN _ _ _).length + s.p ≤ ns.length + (atL ws s).1.p
    omega
  · rw [fail_p]; exact ⟨Nat.le_refl _, hk, Nat.le_refl _⟩
  · rw [fail_p]; exact ⟨Nat.le_refl _, hk, Nat.le_refl _⟩
  · rw [fail_p]; exact ⟨Nat.le_refl _, hk, Nat.le_refl _⟩
def loR (ws : List Tk) (m : List UInt8) (k : Int) (f : (Old.Rs → List Cn → Old.Rs × List Cn)) : Nat → (Old.Rs → List Cn → Old.Rs × List Cn)
  | 0, s, ns => (s, ns)
  | g + 1, s, ns => if s.e = 0 then (if tkB ws s.p m = true then loR ws m k f g (f ⟨s.e, s.a, tkK ws s.p m⟩ ns).1 (putN (f ⟨s.e, s.a, tkK ws s.p m⟩ ns).1 (f ⟨s.e, s.a, tkK ws s.p m⟩ ns).2 ⟨k, 0, 0, 0, 0⟩) else (⟨s.e, s.a, tkK ws s.p m⟩, ns)) else (s, ns)
def joR (ws : List Tk) (m : List UInt8) (k : Int) (f : (Old.Rs → List Cn → Old.Rs × List Cn)) : (Old.Rs → List Cn → Old.Rs × List Cn) := fun s ns => loR ws m k f (ws.length + 1) (f s ns).1 (f s ns).2
structure LoI (ws : List Tk) (m : List UInt8) (k : Int) (f : (Old.Rs → List Cn → Old.Rs × List Cn)) (b : Nat) (r0 : Old.Rs × List Cn) (g : Nat) (z : Old.Rs) (l : List Cn) : Prop where
  eq : loR ws m k f g z l = r0
  le : z.p ≤ ws.length
  fu : ws.length - z.p < g
  ln : l.length ≤ z.p
  bb : b ≤ z.p
section
variable {ws : List Tk} {m : List UInt8} {k : Int} {f : (Old.Rs → List Cn → Old.Rs × List Cn)} {b g : Nat} {s z : Old.Rs} {ns l : List Cn} {r0 : Old.Rs × List Cn}
theorem LoI.i0 (hg : Gdf ws f) (hk : s.p ≤ ws.length) (hl : ns.length ≤ s.p) (hb : b ≤ s.p) : LoI ws m k f b (joR ws m k f s ns) (ws.length + 1) (f s ns).1 (f s ns).2 := by
  obtain ⟨a1, a2, a3⟩ := hg s ns hk
  exact ⟨rfl, a2, by omega, by omega, by omega⟩
theorem LoI.go (h : LoI ws m k f b r0 g z l) (hg : Gdf ws f) (h1 : z.e = 0) (h2 : tkB ws z.p m = true) : LoI ws m k f b r0 (g - 1) (f ⟨z.e, z.a, tkK ws z.p m⟩ l).1 (putN (f ⟨z.e, z.a, tkK ws z.p m⟩ l).1 (f ⟨z.e, z.a, tkK ws z.p m⟩ l).2 ⟨k, 0, 0, 0, 0⟩) ∧ g - 1 < g := by
  have hlt := tk_lt9 h2
  have hk := tkK_y h2
  obtain ⟨a1, a2, a3⟩ := hg ⟨z.e, z.a, tkK ws z.p m⟩ l (show tkK ws z.p m ≤ ws.length by omega)
  have a1 : tkK ws z.p m ≤ _ := a1
  have a3 : _ + tkK ws z.p m ≤ _ := a3
  have h3 := putN_len (f ⟨z.e, z.a, tkK ws z.p m⟩ l).1 (f ⟨z.e, z.a, tkK ws z.p m⟩ l).2 ⟨k, 0, 0, 0, 0⟩
  have hf := h.fu
  have hl := h.ln
  have hb := h.bb
  obtain ⟨j, rfl⟩ : ∃ j, g = j + 1 := ⟨g - 1, by omega⟩
  refine ⟨⟨?_, a2, by omega, by omega, by omega⟩, by omega⟩
  rw [← h.eq]
  conv => rhs; unfold loR
  rw [if_pos h1, if_pos h2]; rfl
theorem LoI.n1 (h : LoI ws m k f b r0 g z l) (h1 : z.e ≠ 0) : r0 = (z, l) := by
  have hf := h.fu
  obtain ⟨j, rfl⟩ : ∃ j, g = j + 1 := ⟨g - 1, by omega⟩
  rw [← h.eq]; unfold loR; rw [if_neg h1]
theorem LoI.n2 (h : LoI ws m k f b r0 g z l) (h1 : z.e = 0) (h2 : tkB ws z.p m = false) : r0 = (⟨z.e, z.a, tkK ws z.p m⟩, l) := by
  have hf := h.fu
  obtain ⟨j, rfl⟩ : ∃ j, g = j + 1 := ⟨g - 1, by omega⟩
  rw [← h.eq]; unfold loR; rw [if_pos h1, if_neg (bne h2)]
theorem lo_gd (hg : Gdf ws f) : ∀ g, Gdf ws (loR ws m k f g)
  | 0, s, ns, hk => ⟨Nat.le_refl _, hk, Nat.le_refl _⟩
  | g + 1, s, ns, hk => by
    unfold loR
    split
    · split
      · rename_i h1 h2
        have hlt := tk_lt9 h2
        have hkk := tkK_y h2
        obtain ⟨a1, a2, a3⟩ := hg ⟨s.e, s.a, tkK ws s.p m⟩ ns (show tkK ws s.p m ≤ ws.length by omega)
        have a1 : tkK ws s.p m ≤ _ := a1
        have a3 : _ + tkK ws s.p m ≤ _ := a3
        have h3 := putN_len (f ⟨s.e, s.a, tkK ws s.p m⟩ ns).1 (f ⟨s.e, s.a, tkK ws s.p m⟩ ns).2 ⟨k, 0, 0, 0, 0⟩
        obtain ⟨c1, c2, c3⟩ := lo_gd hg g (f ⟨s.e, s.a, tkK ws s.p m⟩ ns).1 (putN (f ⟨s.e, s.a, tkK ws s.p m⟩ ns).1 (f ⟨s.e, s.a, tkK ws s.p m⟩ ns).2 ⟨k, 0, 0, 0, 0⟩) a2
        exact ⟨by omega, c2, by omega⟩
      · exact ⟨tkK_ge9, tkK_le hk, by have := tkK_ge9 (ws := ws) (k := s.p) (m := m); show ns.length + s.p ≤ ns.length + tkK ws s.p m; omega⟩
    · exact ⟨Nat.le_refl _, hk, Nat.le_refl _⟩
theorem jo_gd (hg : Gdf ws f) : Gdf ws (joR ws m k f) := by
  intro s ns hk
  obtain ⟨a1, a2, a3⟩ := hg s ns hk
  obtain ⟨c1, c2, c3⟩ := lo_gd (m := m) (k := k) hg (ws.length + 1) (f s ns).1 (f s ns).2 a2
  exact ⟨Nat.le_trans a1 c1, c2, by show (loR ws m k f (ws.length + 1) (f s ns).1 (f s ns).2).2.length + s.p ≤ ns.length + (loR ws m k f (ws.length + 1) (f s ns).1 (f s ns).2).1.p; omega⟩
end
theorem rand_ (ar : Int) (ws : List Tk) (cw : Nat) (s : Old.Rs) (ns : List Cn) (b : Nat) (fN : Old.Rs → List Cn → Old.Rs × List Cn) (hk : s.p ≤ ws.length) (hn : ws.length ≤ 10000) (hw : WsOK ws) (hl : ns.length ≤ s.p) (hb : b ≤ s.p) (hg : Gdf ws fN) (hf : ∀ (s : Old.Rs) (ns : List Cn), s.p ≤ ws.length → ns.length ≤ s.p → b ≤ s.p → Fn Tryz.prog 175 [.ptr 0 0] [some (.blk [.ptr 1 0, .sl 4 ns.length 0]), some (.blk [.int .i64 ar, .ptr 2 0, .int .i64 s.e, .int .i64 s.a]), some (.blk [.sl 3 ws.length cw, .int .i64 ((s.p : Nat) : Int)]), some (.lst 4 ws.length (fun zz => tkc (ws.getD zz tok0))), some (.row 88 5 ns.length 0 (fun zz => cc (ns.getD zz Cn.z)))] (Rt (.tup []) [some (.blk [.ptr 1 0, .sl 5 (((fN s ns).2).length) 0]), some (.blk [.int .i64 ar, .ptr 2 0, .int .i64 (((fN s ns).1).e), .int .i64 (((fN s ns).1).a)]), some (.blk [.sl 3 ws.length cw, .int .i64 ((((fN s ns).1).p : Nat) : Int)]), some (.lst 4 ws.length (fun zz => tkc (ws.getD zz tok0))), none, some (.row 88 5 (((fN s ns).2).length) 0 (fun zz => cc (((fN s ns).2).getD zz Cn.z)))])) : Fn Tryz.prog 120 [.ptr 0 0] [some (.blk [.ptr 1 0, .sl 4 ns.length 0]), some (.blk [.int .i64 ar, .ptr 2 0, .int .i64 s.e, .int .i64 s.a]), some (.blk [.sl 3 ws.length cw, .int .i64 ((s.p : Nat) : Int)]), some (.lst 4 ws.length (fun zz => tkc (ws.getD zz tok0))), some (.row 88 5 ns.length 0 (fun zz => cc (ns.getD zz Cn.z)))] (Rt (.tup []) [some (.blk [.ptr 1 0, .sl 5 (((joR ws [47, 92] 4 fN s ns).2).length) 0]), some (.blk [.int .i64 ar, .ptr 2 0, .int .i64 (((joR ws [47, 92] 4 fN s ns).1).e), .int .i64 (((joR ws [47, 92] 4 fN s ns).1).a)]), some (.blk [.sl 3 ws.length cw, .int .i64 ((((joR ws [47, 92] 4 fN s ns).1).p : Nat) : Int)]), some (.lst 4 ws.length (fun zz => tkc (ws.getD zz tok0))), none, some (.row 88 5 (((joR ws [47, 92] 4 fN s ns).2).length) 0 (fun zz => cc (((joR ws [47, 92] 4 fN s ns).2).getD zz Cn.z)))]) :=
 enterM (n := 27) (by kernel_rfl) Tryz.func120 rfl rfl rfl fun G w a h0 A => N hX 3 A rfl rfl fun A => CALL1 [0, 1, 2, 3, 4] (hf s ns hk hl hb) A rfl rfl rfl rfl rfl rfl rfl fun A => N hX 3 A rfl rfl fun A => LOOP3 (fun (g : Nat) (z : Old.Rs) (l : List Cn) => [(0, .ptr 0 0)]) (fun (g : Nat) (z : Old.Rs) (l : List Cn) => [some (.blk [.ptr 1 0, .sl 5 l.length 0]), some (.blk [.int .i64 ar, .ptr 2 0, .int .i64 z.e, .int .i64 z.a]), some (.blk [.sl 3 ws.length cw, .int .i64 ((z.p : Nat) : Int)]), some (.lst 4 ws.length (fun zz => tkc (ws.getD zz tok0))), none, some (.row 88 5 l.length 0 (fun zz => cc (l.getD zz Cn.z)))]) (fun (g : Nat) (z : Old.Rs) (l : List Cn) => LoI ws [47, 92] 4 fN b (joR ws [47, 92] 4 fN s ns) g z l) (fun (g : Nat) (z : Old.Rs) (l : List Cn) => g) (ws.length + 1) ((fN s ns).1) ((fN s ns).2) (LoI.i0 hg hk hl hb) ((A.cut [0] rfl).trunc 6 rfl rfl rfl (by simp only [List.length_cons, List.length_nil] at h0; omega)) fun g z l hI {G a w} A => N hX 12 A rfl rfl fun A => forkE 12 A rfl
   (fun h1 A => N hX 7 A rfl rfl fun A => CALL1 [2, 3] (rmark_ ws cw z.p [47, 92] (by have := hI.le; exact this) (by omega)) A rfl rfl rfl rfl rfl rfl rfl fun A => N hX 3 A rfl rfl fun A => fork 21 A rfl
    (fun h2 A => N hX 7 A rfl rfl fun A => CALL1 [0, 1, 2, 3, 5] (hf (⟨z.e, z.a, tkK ws z.p [47, 92]⟩ : Old.Rs) l (by have q1 := tk_lt9 h2; have q2 := tkK_y h2; have q3 := hI.ln; have q4 := hI.bb; show tkK ws z.p [47, 92] ≤ ws.length; omega) (by have q1 := tk_lt9 h2; have q2 := tkK_y h2; have q3 := hI.ln; have q4 := hI.bb; show l.length ≤ tkK ws z.p [47, 92]; omega) (by have q1 := tk_lt9 h2; have q2 := tkK_y h2; have q3 := hI.ln; have q4 := hI.bb; show b ≤ tkK ws z.p [47, 92]; omega)) A rfl rfl rfl rfl rfl rfl rfl fun A => N hX 5 A rfl rfl fun A => CALL1 [0, 1, 2, 3, 6] (rput_ ar ws cw ((fN (⟨z.e, z.a, tkK ws z.p [47, 92]⟩ : Old.Rs) l).1) ((fN (⟨z.e, z.a, tkK ws z.p [47, 92]⟩ : Old.Rs) l).2) (⟨4, 0, 0, 0, 0⟩ : Cn) (by have q1 := tk_lt9 h2; have q2 := tkK_y h2; have q3 := hI.ln; have q4 := hI.bb; obtain ⟨a1, a2, a3⟩ := hg (⟨z.e, z.a, tkK ws z.p [47, 92]⟩ : Old.Rs) l (by show tkK ws z.p [47, 92] ≤ ws.length; omega); have a3 : _ + tkK ws z.p [47, 92] ≤ _ := a3; exact a2) (by omega) hw (by have q1 := tk_lt9 h2; have q2 := tkK_y h2; have q3 := hI.ln; have q4 := hI.bb; obtain ⟨a1, a2, a3⟩ := hg (⟨z.e, z.a, tkK ws z.p [47, 92]⟩ : Old.Rs) l (by show tkK ws z.p [47, 92] ≤ ws.length; omega); have a3 : _ + tkK ws z.p [47, 92] ≤ _ := a3; omega)) A rfl rfl rfl rfl rfl rfl rfl fun A => N hX 2 A rfl rfl fun A => ⟨g - 1, (fN (⟨z.e, z.a, tkK ws z.p [47, 92]⟩ : Old.Rs) l).1, (putN (fN (⟨z.e, z.a, tkK ws z.p [47, 92]⟩ : Old.Rs) l).1 (fN (⟨z.e, z.a, tkK ws z.p [47, 92]⟩ : Old.Rs) l).2 ⟨4, 0, 0, 0, 0⟩), _, (hI.go hg h1 h2).2, (hI.go hg h1 h2).1, ((A.cut [0] rfl).mv 5 [7] rfl rfl rfl rfl (by simp only [List.length_cons, List.length_nil] at h0; omega))⟩)
    (fun h2 A => N hX 2 A rfl rfl fun A => ENDN ((by rw [hI.n2 h1 h2]; exact RET hX [5] A ⟨rfl, rfl⟩ rfl rfl rfl rfl rfl rfl rfl rfl h0))))
   (fun h1 A => N hX 13 A rfl rfl fun A => ENDN ((by rw [hI.n1 h1]; exact RET hX [5] A ⟨rfl, rfl⟩ rfl rfl rfl rfl rfl rfl rfl rfl h0)))
theorem ror_ (ar : Int) (ws : List Tk) (cw : Nat) (s : Old.Rs) (ns : List Cn) (b : Nat) (fN : Old.Rs → List Cn → Old.Rs × List Cn) (hk : s.p ≤ ws.length) (hn : ws.length ≤ 10000) (hw : WsOK ws) (hl : ns.length ≤ s.p) (hb : b ≤ s.p) (hg : Gdf ws fN) (hf : ∀ (s : Old.Rs) (ns : List Cn), s.p ≤ ws.length → ns.length ≤ s.p → b ≤ s.p → Fn Tryz.prog 120 [.ptr 0 0] [some (.blk [.ptr 1 0, .sl 4 ns.length 0]), some (.blk [.int .i64 ar, .ptr 2 0, .int .i64 s.e, .int .i64 s.a]), some (.blk [.sl 3 ws.length cw, .int .i64 ((s.p : Nat) : Int)]), some (.lst 4 ws.length (fun zz => tkc (ws.getD zz tok0))), some (.row 88 5 ns.length 0 (fun zz => cc (ns.getD zz Cn.z)))] (Rt (.tup []) [some (.blk [.ptr 1 0, .sl 5 (((fN s ns).2).length) 0]), some (.blk [.int .i64 ar, .ptr 2 0, .int .i64 (((fN s ns).1).e), .int .i64 (((fN s ns).1).a)]), some (.blk [.sl 3 ws.length cw, .int .i64 ((((fN s ns).1).p : Nat) : Int)]), some (.lst 4 ws.length (fun zz => tkc (ws.getD zz tok0))), none, some (.row 88 5 (((fN s ns).2).length) 0 (fun zz => cc (((fN s ns).2).getD zz Cn.z)))])) : Fn Tryz.prog 51 [.ptr 0 0] [some (.blk [.ptr 1 0, .sl 4 ns.length 0]), some (.blk [.int .i64 ar, .ptr 2 0, .int .i64 s.e, .int .i64 s.a]), some (.blk [.sl 3 ws.length cw, .int .i64 ((s.p : Nat) : Int)]), some (.lst 4 ws.length (fun zz => tkc (ws.getD zz tok0))), some (.row 88 5 ns.length 0 (fun zz => cc (ns.getD zz Cn.z)))] (Rt (.tup []) [some (.blk [.ptr 1 0, .sl 5 (((joR ws [92, 47] 5 fN s ns).2).length) 0]), some (.blk [.int .i64 ar, .ptr 2 0, .int .i64 (((joR ws [92, 47] 5 fN s ns).1).e), .int .i64 (((joR ws [92, 47] 5 fN s ns).1).a)]), some (.blk [.sl 3 ws.length cw, .int .i64 ((((joR ws [92, 47] 5 fN s ns).1).p : Nat) : Int)]), some (.lst 4 ws.length (fun zz => tkc (ws.getD zz tok0))), none, some (.row 88 5 (((joR ws [92, 47] 5 fN s ns).2).length) 0 (fun zz => cc (((joR ws [92, 47] 5 fN s ns).2).getD zz Cn.z)))]) :=
 enterM (n := 27) (by kernel_rfl) Tryz.func51 rfl rfl rfl fun G w a h0 A => N hX 3 A rfl rfl fun A => CALL1 [0, 1, 2, 3, 4] (hf s ns hk hl hb) A rfl rfl rfl rfl rfl rfl rfl fun A => N hX 3 A rfl rfl fun A => LOOP3 (fun (g : Nat) (z : Old.Rs) (l : List Cn) => [(0, .ptr 0 0)]) (fun (g : Nat) (z : Old.Rs) (l : List Cn) => [some (.blk [.ptr 1 0, .sl 5 l.length 0]), some (.blk [.int .i64 ar, .ptr 2 0, .int .i64 z.e, .int .i64 z.a]), some (.blk [.sl 3 ws.length cw, .int .i64 ((z.p : Nat) : Int)]), some (.lst 4 ws.length (fun zz => tkc (ws.getD zz tok0))), none, some (.row 88 5 l.length 0 (fun zz => cc (l.getD zz Cn.z)))]) (fun (g : Nat) (z : Old.Rs) (l : List Cn) => LoI ws [92, 47] 5 fN b (joR ws [92, 47] 5 fN s ns) g z l) (fun (g : Nat) (z : Old.Rs) (l : List Cn) => g) (ws.length + 1) ((fN s ns).1) ((fN s ns).2) (LoI.i0 hg hk hl hb) ((A.cut [0] rfl).trunc 6 rfl rfl rfl (by simp only [List.length_cons, List.length_nil] at h0; omega)) fun g z l hI {G a w} A => N hX 12 A rfl rfl fun A => forkE 12 A rfl
   (fun h1 A => N hX 7 A rfl rfl fun A => CALL1 [2, 3] (rmark_ ws cw z.p [92, 47] (by have := hI.le; exact this) (by omega)) A rfl rfl rfl rfl rfl rfl rfl fun A => N hX 3 A rfl rfl fun A => fork 21 A rfl
    (fun h2 A => N hX 7 A rfl rfl fun A => CALL1 [0, 1, 2, 3, 5] (hf (⟨z.e, z.a, tkK ws z.p [92, 47]⟩ : Old.Rs) l (by have q1 := tk_lt9 h2; have q2 := tkK_y h2; have q3 := hI.ln; have q4 := hI.bb; show tkK ws z.p [92, 47] ≤ ws.length; omega) (by have q1 := tk_lt9 h2; have q2 := tkK_y h2; have q3 := hI.ln; have q4 := hI.bb; show l.length ≤ tkK ws z.p [92, 47]; omega) (by have q1 := tk_lt9 h2; have q2 := tkK_y h2; have q3 := hI.ln; have q4 := hI.bb; show b ≤ tkK ws z.p [92, 47]; omega)) A rfl rfl rfl rfl rfl rfl rfl fun A => N hX 5 A rfl rfl fun A => CALL1 [0, 1, 2, 3, 6] (rput_ ar ws cw ((fN (⟨z.e, z.a, tkK ws z.p [92, 47]⟩ : Old.Rs) l).1) ((fN (⟨z.e, z.a, tkK ws z.p [92, 47]⟩ : Old.Rs) l).2) (⟨5, 0, 0, 0, 0⟩ : Cn) (by have q1 := tk_lt9 h2; have q2 := tkK_y h2; have q3 := hI.ln; have q4 := hI.bb; obtain ⟨a1, a2, a3⟩ := hg (⟨z.e, z.a, tkK ws z.p [92, 47]⟩ : Old.Rs) l (by show tkK ws z.p [92, 47] ≤ ws.length; omega); have a3 : _ + tkK ws z.p [92, 47] ≤ _ := a3; exact a2) (by omega) hw (by have q1 := tk_lt9 h2; have q2 := tkK_y h2; have q3 := hI.ln; have q4 := hI.bb; obtain ⟨a1, a2, a3⟩ := hg (⟨z.e, z.a, tkK ws z.p [92, 47]⟩ : Old.Rs) l (by show tkK ws z.p [92, 47] ≤ ws.length; omega); have a3 : _ + tkK ws z.p [92, 47] ≤ _ := a3; omega)) A rfl rfl rfl rfl rfl rfl rfl fun A => N hX 2 A rfl rfl fun A => ⟨g - 1, (fN (⟨z.e, z.a, tkK ws z.p [92, 47]⟩ : Old.Rs) l).1, (putN (fN (⟨z.e, z.a, tkK ws z.p [92, 47]⟩ : Old.Rs) l).1 (fN (⟨z.e, z.a, tkK ws z.p [92, 47]⟩ : Old.Rs) l).2 ⟨5, 0, 0, 0, 0⟩), _, (hI.go hg h1 h2).2, (hI.go hg h1 h2).1, ((A.cut [0] rfl).mv 5 [7] rfl rfl rfl rfl (by simp only [List.length_cons, List.length_nil] at h0; omega))⟩)
    (fun h2 A => N hX 2 A rfl rfl fun A => ENDN ((by rw [hI.n2 h1 h2]; exact RET hX [5] A ⟨rfl, rfl⟩ rfl rfl rfl rfl rfl rfl rfl rfl h0))))
   (fun h1 A => N hX 13 A rfl rfl fun A => ENDN ((by rw [hI.n1 h1]; exact RET hX [5] A ⟨rfl, rfl⟩ rfl rfl rfl rfl rfl rfl rfl rfl h0)))
def noR (rf : List UInt8 → Int) (ws : List Tk) (fN fO : Old.Rs → List Cn → Old.Rs × List Cn) : Old.Rs → List Cn → Old.Rs × List Cn := fun s ns =>
  if s.e = 0 then (if tkB ws s.p [126] = true then ((fN (⟨s.e, s.a, tkK ws s.p [126]⟩ : Old.Rs) ns).1, putN (fN (⟨s.e, s.a, tkK ws s.p [126]⟩ : Old.Rs) ns).1 (fN (⟨s.e, s.a, tkK ws s.p [126]⟩ : Old.Rs) ns).2 ⟨3, 0, 0, 0, 0⟩)
    else if tkB ws (tkK ws s.p [126]) [40] = true then (Old.markR ws [41] (fO (⟨s.e, s.a, tkK ws (tkK ws s.p [126]) [40]⟩ : Old.Rs) ns).1, (fO (⟨s.e, s.a, tkK ws (tkK ws s.p [126]) [40]⟩ : Old.Rs) ns).2) else atZ rf ws (⟨s.e, s.a, tkK ws (tkK ws s.p [126]) [40]⟩ : Old.Rs) ns) else (s, ns)
section
variable {rf : List UInt8 → Int} {ws : List Tk} {fN fO : Old.Rs → List Cn → Old.Rs × List Cn} {s : Old.Rs} {ns : List Cn}
theorem no_0 (h : s.e ≠ 0) : noR rf ws fN fO s ns = (s, ns) := if_neg h
theorem no_1 (h : s.e = 0) (h1 : tkB ws s.p [126] = true) : noR rf ws fN fO s ns = ((fN (⟨s.e, s.a, tkK ws s.p [126]⟩ : Old.Rs) ns).1, putN (fN (⟨s.e, s.a, tkK ws s.p [126]⟩ : Old.Rs) ns).1 (fN (⟨s.e, s.a, tkK ws s.p [126]⟩ : Old.Rs) ns).2 ⟨3, 0, 0, 0, 0⟩) := by unfold noR; rw [if_pos h, if_pos h1]
theorem no_2 (h : s.e = 0) (h1 : tkB ws s.p [126] = false) (h2 : tkB ws (tkK ws s.p [126]) [40] = true) : noR rf ws fN fO s ns = (Old.markR ws [41] (fO (⟨s.e, s.a, tkK ws (tkK ws s.p [126]) [40]⟩ : Old.Rs) ns).1, (fO (⟨s.e, s.a, tkK ws (tkK ws s.p [126]) [40]⟩ : Old.Rs) ns).2) := by unfold noR; rw [if_pos h, if_neg (bne h1), if_pos h2]
theorem no_3 (h : s.e = 0) (h1 : tkB ws s.p [126] = false) (h2 : tkB ws (tkK ws s.p [126]) [40] = false) : noR rf ws fN fO s ns = atZ rf ws (⟨s.e, s.a, tkK ws (tkK ws s.p [126]) [40]⟩ : Old.Rs) ns := by unfold noR; rw [if_pos h, if_neg (bne h1), if_neg (bne h2)]
theorem no_gd (hN : Gdf ws fN) (hO : Gdf ws fO) : Gdf ws (noR rf ws fN fO) := by
  intro s ns hk
  by_cases h : s.e = 0
  · cases h1 : tkB ws s.p [126] with
    | true =>
      rw [no_1 h h1]
      have q1 := tk_lt9 h1
      have q2 := tkK_y h1
      obtain ⟨a1, a2, a3⟩ := hN (⟨s.e, s.a, tkK ws s.p [126]⟩ : Old.Rs) ns (show tkK ws s.p [126] ≤ ws.length by omega)
      have a1 : tkK ws s.p [126] ≤ _ := a1
      have a3 : _ + tkK ws s.p [126] ≤ _ := a3
      have q3 := putN_len (fN (⟨s.e, s.a, tkK ws s.p [126]⟩ : Old.Rs) ns).1 (fN (⟨s.e, s.a, tkK ws s.p [126]⟩ : Old.Rs) ns).2 ⟨3, 0, 0, 0, 0⟩
      exact ⟨by show s.p ≤ (fN (⟨s.e, s.a, tkK ws s.p [126]⟩ : Old.Rs) ns).1.p; omega, a2, by show (putN _ _ _).length + s.p ≤ ns.length + (fN (⟨s.e, s.a, tkK ws s.p [126]⟩ : Old.Rs) ns).1.p; omega⟩
    | false =>
      have q2 := tkK_n h1
      cases h2 : tkB ws (tkK ws s.p [126]) [40] with
      | true =>
        rw [no_2 h h1 h2]
        have q1 := tk_lt9 h2
        have q3 := tkK_y h2
        obtain ⟨a1, a2, a3⟩ := hO (⟨s.e, s.a, tkK ws (tkK ws s.p [126]) [40]⟩ : Old.Rs) ns (show tkK ws (tkK ws s.p [126]) [40] ≤ ws.length by omega)
        have a1 : tkK ws (tkK ws s.p [126]) [40] ≤ _ := a1
        have a3 : _ + tkK ws (tkK ws s.p [126]) [40] ≤ _ := a3
        have q4 := mark_ge (ws := ws) (m := [41]) (s := (fO (⟨s.e, s.a, tkK ws (tkK ws s.p [126]) [40]⟩ : Old.Rs) ns).1)
        exact ⟨by show s.p ≤ (Old.markR ws [41] (fO (⟨s.e, s.a, tkK ws (tkK ws s.p [126]) [40]⟩ : Old.Rs) ns).1).p; omega, mark_le a2, by show (fO (⟨s.e, s.a, tkK ws (tkK ws s.p [126]) [40]⟩ : Old.Rs) ns).2.length + s.p ≤ ns.length + (Old.markR ws [41] (fO (⟨s.e, s.a, tkK ws (tkK ws s.p [126]) [40]⟩ : Old.Rs) ns).1).p; omega⟩
      | false =>
        rw [no_3 h h1 h2]
        have q3 := tkK_n h2
        obtain ⟨a1, a2, a3⟩ := at_gd rf ws (⟨s.e, s.a, tkK ws (tkK ws s.p [126]) [40]⟩ : Old.Rs) ns (show tkK ws (tkK ws s.p [126]) [40] ≤ ws.length by omega)
        have a1 : tkK ws (tkK ws s.p [126]) [40] ≤ _ := a1
        have a3 : _ + tkK ws (tkK ws s.p [126]) [40] ≤ _ := a3
        exact ⟨by omega, a2, by omega⟩
  · rw [no_0 h]; exact ⟨Nat.le_refl _, hk, Nat.le_refl _⟩
end
theorem rnot_ (ar : Int) (ws : List Tk) (cw : Nat) (s : Old.Rs) (ns : List Cn) (b : Nat) (fN : Old.Rs → List Cn → Old.Rs × List Cn) (fO : Old.Rs → List Cn → Old.Rs × List Cn) (hk : s.p ≤ ws.length) (hn : ws.length ≤ 10000) (hw : WsOK ws) (hl : ns.length ≤ s.p) (hb : b = s.p + 1) (hgN : Gdf ws fN) (hgO : Gdf ws fO) (hf : ∀ (s : Old.Rs) (ns : List Cn), s.p ≤ ws.length → ns.length ≤ s.p → b ≤ s.p → Fn Tryz.prog 175 [.ptr 0 0] [some (.blk [.ptr 1 0, .sl 4 ns.length 0]), some (.blk [.int .i64 ar, .ptr 2 0, .int .i64 s.e, .int .i64 s.a]), some (.blk [.sl 3 ws.length cw, .int .i64 ((s.p : Nat) : Int)]), some (.lst 4 ws.length (fun zz => tkc (ws.getD zz tok0))), some (.row 88 5 ns.length 0 (fun zz => cc (ns.getD zz Cn.z)))] (Rt (.tup []) [some (.blk [.ptr 1 0, .sl 5 (((fN s ns).2).length) 0]), some (.blk [.int .i64 ar, .ptr 2 0, .int .i64 (((fN s ns).1).e), .int .i64 (((fN s ns).1).a)]), some (.blk [.sl 3 ws.length cw, .int .i64 ((((fN s ns).1).p : Nat) : Int)]), some (.lst 4 ws.length (fun zz => tkc (ws.getD zz tok0))), none, some (.row 88 5 (((fN s ns).2).length) 0 (fun zz => cc (((fN s ns).2).getD zz Cn.z)))])) (hg : ∀ (s : Old.Rs) (ns : List Cn), s.p ≤ ws.length → ns.length ≤ s.p → b ≤ s.p → Fn Tryz.prog 51 [.ptr 0 0] [some (.blk [.ptr 1 0, .sl 4 ns.length 0]), some (.blk [.int .i64 ar, .ptr 2 0, .int .i64 s.e, .int .i64 s.a]), some (.blk [.sl 3 ws.length cw, .int .i64 ((s.p : Nat) : Int)]), some (.lst 4 ws.length (fun zz => tkc (ws.getD zz tok0))), some (.row 88 5 ns.length 0 (fun zz => cc (ns.getD zz Cn.z)))] (Rt (.tup []) [some (.blk [.ptr 1 0, .sl 5 (((fO s ns).2).length) 0]), some (.blk [.int .i64 ar, .ptr 2 0, .int .i64 (((fO s ns).1).e), .int .i64 (((fO s ns).1).a)]), some (.blk [.sl 3 ws.length cw, .int .i64 ((((fO s ns).1).p : Nat) : Int)]), some (.lst 4 ws.length (fun zz => tkc (ws.getD zz tok0))), none, some (.row 88 5 (((fO s ns).2).length) 0 (fun zz => cc (((fO s ns).2).getD zz Cn.z)))])) (rf : List UInt8 → Int) (hrf : ∀ q : List UInt8, Fn Tryz.prog 17 [.int .i64 ar, .str q] [] (Rt (.int .i64 (rf q)) [])) : Fn Tryz.prog 175 [.ptr 0 0] [some (.blk [.ptr 1 0, .sl 4 ns.length 0]), some (.blk [.int .i64 ar, .ptr 2 0, .int .i64 s.e, .int .i64 s.a]), some (.blk [.sl 3 ws.length cw, .int .i64 ((s.p : Nat) : Int)]), some (.lst 4 ws.length (fun zz => tkc (ws.getD zz tok0))), some (.row 88 5 ns.length 0 (fun zz => cc (ns.getD zz Cn.z)))] (Rt (.tup []) [some (.blk [.ptr 1 0, .sl 5 (((noR rf ws fN fO s ns).2).length) 0]), some (.blk [.int .i64 ar, .ptr 2 0, .int .i64 (((noR rf ws fN fO s ns).1).e), .int .i64 (((noR rf ws fN fO s ns).1).a)]), some (.blk [.sl 3 ws.length cw, .int .i64 ((((noR rf ws fN fO s ns).1).p : Nat) : Int)]), some (.lst 4 ws.length (fun zz => tkc (ws.getD zz tok0))), none, some (.row 88 5 (((noR rf ws fN fO s ns).2).length) 0 (fun zz => cc (((noR rf ws fN fO s ns).2).getD zz Cn.z)))]) :=
 enterM (n := 40) (by kernel_rfl) Tryz.func175 rfl rfl rfl fun G w a h0 A => N hX 13 A rfl rfl fun A => forkN 9 A rfl
  (fun h1 A => N hX 2 A rfl rfl fun A => have A := (A.cut [] rfl).mx (T' := []) (H' := [some (.blk [.ptr 1 0, .sl 5 ns.length 0]), some (.blk [.int .i64 ar, .ptr 2 0, .int .i64 s.e, .int .i64 s.a]), some (.blk [.sl 3 ws.length cw, .int .i64 ((s.p : Nat) : Int)]), some (.lst 4 ws.length (fun zz => tkc (ws.getD zz tok0))), none, some (.row 88 5 ns.length 0 (fun zz => cc (ns.getD zz Cn.z)))]) 5 [4] [true, true, true, true, false, true] rfl rfl rfl rfl rfl (by simp only [List.length_cons, List.length_nil] at h0; omega); (by rw [no_0 h1]; exact RET hX [5] A ⟨rfl, rfl⟩ rfl rfl rfl rfl rfl rfl rfl rfl h0))
  (fun h1 A => N hX 13 A rfl rfl fun A => CALL1 [2, 3] (rmark_ ws cw s.p [126] hk (by omega)) A rfl rfl rfl rfl rfl rfl rfl fun A => N hX 2 A rfl rfl fun A => fork 17 A rfl
   (fun h2 A => N hX 4 A rfl rfl fun A => CALL1 [0, 1, 2, 3, 4] (hf (⟨s.e, s.a, tkK ws s.p [126]⟩ : Old.Rs) ns (by have := tk_lt9 h2; have := tkK_y h2; show tkK ws s.p [126] ≤ ws.length; omega) (by have := tk_lt9 h2; have := tkK_y h2; show ns.length ≤ tkK ws s.p [126]; omega) (by have := tk_lt9 h2; have := tkK_y h2; show b ≤ tkK ws s.p [126]; omega)) A rfl rfl rfl rfl rfl rfl rfl fun A => N hX 6 A rfl rfl fun A => CALL1 [0, 1, 2, 3, 5] (rput_ ar ws cw ((fN (⟨s.e, s.a, tkK ws s.p [126]⟩ : Old.Rs) ns).1) ((fN (⟨s.e, s.a, tkK ws s.p [126]⟩ : Old.Rs) ns).2) (⟨3, 0, 0, 0, 0⟩ : Cn) (by have := tk_lt9 h2; have := tkK_y h2; obtain ⟨a1, a2, a3⟩ := hgN (⟨s.e, s.a, tkK ws s.p [126]⟩ : Old.Rs) ns (by show tkK ws s.p [126] ≤ ws.length; omega); have a3 : _ + tkK ws s.p [126] ≤ _ := a3; exact a2) (by omega) hw (by have := tk_lt9 h2; have := tkK_y h2; obtain ⟨a1, a2, a3⟩ := hgN (⟨s.e, s.a, tkK ws s.p [126]⟩ : Old.Rs) ns (by show tkK ws s.p [126] ≤ ws.length; omega); have a3 : _ + tkK ws s.p [126] ≤ _ := a3; omega)) A rfl rfl rfl rfl rfl rfl rfl fun A => N hX 3 A rfl rfl fun A => (by rw [no_1 h1 h2]; exact RET hX [6] A ⟨rfl, rfl⟩ rfl rfl rfl rfl rfl rfl rfl rfl h0))
   (fun h2 A => N hX 13 A rfl rfl fun A => CALL1 [2, 3] (rmark_ ws cw (tkK ws s.p [126]) [40] (by have := tkK_n h2; show _ ≤ ws.length; first | exact tkK_le hk | exact tkK_le (tkK_le hk) | omega) (by omega)) A rfl rfl rfl rfl rfl rfl rfl fun A => N hX 2 A rfl rfl fun A => fork 30 A rfl
    (fun h3 A => N hX 4 A rfl rfl fun A => CALL1 [0, 1, 2, 3, 4] (hg (⟨s.e, s.a, tkK ws (tkK ws s.p [126]) [40]⟩ : Old.Rs) ns (by have := tkK_n h2; have := tk_lt9 h3; have := tkK_y h3; show tkK ws (tkK ws s.p [126]) [40] ≤ ws.length; omega) (by have := tkK_n h2; have := tk_lt9 h3; have := tkK_y h3; show ns.length ≤ tkK ws (tkK ws s.p [126]) [40]; omega) (by have := tkK_n h2; have := tk_lt9 h3; have := tkK_y h3; show b ≤ tkK ws (tkK ws s.p [126]) [40]; omega)) A rfl rfl rfl rfl rfl rfl rfl fun A => N hX 8 A rfl rfl fun A => CALL1 [1, 2, 3] (rmk_ ar ws cw ((fO (⟨s.e, s.a, tkK ws (tkK ws s.p [126]) [40]⟩ : Old.Rs) ns).1) [41] (by have := tkK_n h2; have := tk_lt9 h3; have := tkK_y h3; obtain ⟨a1, a2, a3⟩ := hgO (⟨s.e, s.a, tkK ws (tkK ws s.p [126]) [40]⟩ : Old.Rs) ns (by show tkK ws (tkK ws s.p [126]) [40] ≤ ws.length; omega); have a3 : _ + tkK ws (tkK ws s.p [126]) [40] ≤ _ := a3; exact a2) (by omega) hw) A rfl rfl rfl rfl rfl rfl rfl fun A => N hX 3 A rfl rfl fun A => (by rw [no_2 h1 h2 h3]; exact RET hX [5] A ⟨rfl, rfl⟩ rfl rfl rfl rfl rfl rfl rfl rfl h0))
    (fun h3 A => N hX 5 A rfl rfl fun A => CALL1 [0, 1, 2, 3, 4] (ratom_ ar ws cw (⟨s.e, s.a, tkK ws (tkK ws s.p [126]) [40]⟩ : Old.Rs) ns (by have := tkK_n h2; have := tkK_n h3; show _ ≤ ws.length; first | exact tkK_le hk | exact tkK_le (tkK_le hk) | omega) (by omega) hw (by omega) rf hrf) A rfl rfl rfl rfl rfl rfl rfl fun A => N hX 1 A rfl rfl fun A => ENDN ((by rw [no_3 h1 h2 h3]; exact RET hX [5] A ⟨rfl, rfl⟩ rfl rfl rfl rfl rfl rfl rfl rfl h0)))))
def anF (ws : List Tk) (f : Old.Rs → List Cn → Old.Rs × List Cn) : Old.Rs → List Cn → Old.Rs × List Cn := joR ws [47, 92] 4 f
def orF (ws : List Tk) (f : Old.Rs → List Cn → Old.Rs × List Cn) : Old.Rs → List Cn → Old.Rs × List Cn := joR ws [92, 47] 5 (anF ws f)
def noF (rf : List UInt8 → Int) (ws : List Tk) : Nat → Old.Rs → List Cn → Old.Rs × List Cn
  | 0 => fun s ns => (s, ns)
  | f + 1 => noR rf ws (noF rf ws f) (orF ws (noF rf ws f))
theorem or_gd {ws : List Tk} {f : Old.Rs → List Cn → Old.Rs × List Cn} (h : Gdf ws f) : Gdf ws (orF ws f) := jo_gd (jo_gd h)
theorem noF_gd (rf : List UInt8 → Int) (ws : List Tk) : ∀ f, Gdf ws (noF rf ws f)
  | 0 => fun s ns hk => ⟨Nat.le_refl _, hk, Nat.le_refl _⟩
  | f + 1 => no_gd (noF_gd rf ws f) (or_gd (noF_gd rf ws f))
section
variable (ar : Int) (ws : List Tk) (cw : Nat) (hn : ws.length ≤ 10000) (hw : WsOK ws) (rf : List UInt8 → Int) (hrf : ∀ q : List UInt8, Fn Tryz.prog 17 [.int .i64 ar, .str q] [] (Rt (.int .i64 (rf q)) []))
include hn hw
theorem ror_of (b : Nat) (fN : Old.Rs → List Cn → Old.Rs × List Cn) (hg : Gdf ws fN) (hf : ∀ (s : Old.Rs) (ns : List Cn), s.p ≤ ws.length → ns.length ≤ s.p → b ≤ s.p → Fn Tryz.prog 175 [.ptr 0 0] [some (.blk [.ptr 1 0, .sl 4 ns.length 0]), some (.blk [.int .i64 ar, .ptr 2 0, .int .i64 s.e, .int .i64 s.a]), some (.blk [.sl 3 ws.length cw, .int .i64 ((s.p : Nat) : Int)]), some (.lst 4 ws.length (fun zz => tkc (ws.getD zz tok0))), some (.row 88 5 ns.length 0 (fun zz => cc (ns.getD zz Cn.z)))] (Rt (.tup []) [some (.blk [.ptr 1 0, .sl 5 (((fN s ns).2).length) 0]), some (.blk [.int .i64 ar, .ptr 2 0, .int .i64 (((fN s ns).1).e), .int .i64 (((fN s ns).1).a)]), some (.blk [.sl 3 ws.length cw, .int .i64 ((((fN s ns).1).p : Nat) : Int)]), some (.lst 4 ws.length (fun zz => tkc (ws.getD zz tok0))), none, some (.row 88 5 (((fN s ns).2).length) 0 (fun zz => cc (((fN s ns).2).getD zz Cn.z)))])) (s : Old.Rs) (ns : List Cn) (hk : s.p ≤ ws.length) (hl : ns.length ≤ s.p) (hb : b ≤ s.p) : Fn Tryz.prog 51 [.ptr 0 0] [some (.blk [.ptr 1 0, .sl 4 ns.length 0]), some (.blk [.int .i64 ar, .ptr 2 0, .int .i64 s.e, .int .i64 s.a]), some (.blk [.sl 3 ws.length cw, .int .i64 ((s.p : Nat) : Int)]), some (.lst 4 ws.length (fun zz => tkc (ws.getD zz tok0))), some (.row 88 5 ns.length 0 (fun zz => cc (ns.getD zz Cn.z)))] (Rt (.tup []) [some (.blk [.ptr 1 0, .sl 5 (((orF ws fN s ns).2).length) 0]), some (.blk [.int .i64 ar, .ptr 2 0, .int .i64 (((orF ws fN s ns).1).e), .int .i64 (((orF ws fN s ns).1).a)]), some (.blk [.sl 3 ws.length cw, .int .i64 ((((orF ws fN s ns).1).p : Nat) : Int)]), some (.lst 4 ws.length (fun zz => tkc (ws.getD zz tok0))), none, some (.row 88 5 (((orF ws fN s ns).2).length) 0 (fun zz => cc (((orF ws fN s ns).2).getD zz Cn.z)))]) :=
  ror_ ar ws cw s ns b (anF ws fN) hk hn hw hl hb (jo_gd hg) fun s ns hk hl hb => rand_ ar ws cw s ns b fN hk hn hw hl hb hg hf
include hrf
theorem rnot_all : ∀ (f : Nat) (s : Old.Rs) (ns : List Cn), s.p ≤ ws.length → ns.length ≤ s.p → ws.length - s.p < f → Fn Tryz.prog 175 [.ptr 0 0] [some (.blk [.ptr 1 0, .sl 4 ns.length 0]), some (.blk [.int .i64 ar, .ptr 2 0, .int .i64 s.e, .int .i64 s.a]), some (.blk [.sl 3 ws.length cw, .int .i64 ((s.p : Nat) : Int)]), some (.lst 4 ws.length (fun zz => tkc (ws.getD zz tok0))), some (.row 88 5 ns.length 0 (fun zz => cc (ns.getD zz Cn.z)))] (Rt (.tup []) [some (.blk [.ptr 1 0, .sl 5 (((noF rf ws f s ns).2).length) 0]), some (.blk [.int .i64 ar, .ptr 2 0, .int .i64 (((noF rf ws f s ns).1).e), .int .i64 (((noF rf ws f s ns).1).a)]), some (.blk [.sl 3 ws.length cw, .int .i64 ((((noF rf ws f s ns).1).p : Nat) : Int)]), some (.lst 4 ws.length (fun zz => tkc (ws.getD zz tok0))), none, some (.row 88 5 (((noF rf ws f s ns).2).length) 0 (fun zz => cc (((noF rf ws f s ns).2).getD zz Cn.z)))])
  | 0, s, ns, hk, hl, hf => absurd hf (Nat.not_lt_zero _)
  | f + 1, s, ns, hk, hl, hf =>
    rnot_ ar ws cw s ns (s.p + 1) (noF rf ws f) (orF ws (noF rf ws f)) hk hn hw hl rfl (noF_gd rf ws f) (or_gd (noF_gd rf ws f)) (fun s1 n1 k1 l1 b1 => rnot_all f s1 n1 k1 l1 (by omega))
      (fun s1 n1 k1 l1 b1 => ror_of ar ws cw hn hw (s.p + 1) (noF rf ws f) (noF_gd rf ws f) (fun s2 n2 k2 l2 b2 => rnot_all f s2 n2 k2 l2 (by omega)) s1 n1 k1 l1 b1) rf hrf
theorem ror_all (s : Old.Rs) (ns : List Cn) (hk : s.p ≤ ws.length) (hl : ns.length ≤ s.p) : Fn Tryz.prog 51 [.ptr 0 0] [some (.blk [.ptr 1 0, .sl 4 ns.length 0]), some (.blk [.int .i64 ar, .ptr 2 0, .int .i64 s.e, .int .i64 s.a]), some (.blk [.sl 3 ws.length cw, .int .i64 ((s.p : Nat) : Int)]), some (.lst 4 ws.length (fun zz => tkc (ws.getD zz tok0))), some (.row 88 5 ns.length 0 (fun zz => cc (ns.getD zz Cn.z)))] (Rt (.tup []) [some (.blk [.ptr 1 0, .sl 5 (((orF ws (noF rf ws (ws.length + 1)) s ns).2).length) 0]), some (.blk [.int .i64 ar, .ptr 2 0, .int .i64 (((orF ws (noF rf ws (ws.length + 1)) s ns).1).e), .int .i64 (((orF ws (noF rf ws (ws.length + 1)) s ns).1).a)]), some (.blk [.sl 3 ws.length cw, .int .i64 ((((orF ws (noF rf ws (ws.length + 1)) s ns).1).p : Nat) : Int)]), some (.lst 4 ws.length (fun zz => tkc (ws.getD zz tok0))), none, some (.row 88 5 (((orF ws (noF rf ws (ws.length + 1)) s ns).2).length) 0 (fun zz => cc (((orF ws (noF rf ws (ws.length + 1)) s ns).2).getD zz Cn.z)))]) :=
  ror_of ar ws cw hn hw 0 _ (noF_gd rf ws _) (fun s2 n2 k2 l2 _ => rnot_all ar ws cw hn hw rf hrf (ws.length + 1) s2 n2 k2 l2 (by omega)) s ns hk hl (Nat.zero_le _)
end
def rpZ (rf : List UInt8 → Int) (ws : List Tk) : Old.Rs × List Cn := (orF ws (noF rf ws (ws.length + 1))) ⟨0, 0, 0⟩ []
def rpS (rf : List UInt8 → Int) (ws : List Tk) : Old.Rs := if (rpZ rf ws).1.p < ws.length then Old.failR (rpZ rf ws).1 25 (ws.getD (rpZ rf ws).1.p tok0).at_ else (rpZ rf ws).1
def rpN (rf : List UInt8 → Int) (ws : List Tk) : List Cn := (rpZ rf ws).2
def rpE (rf : List UInt8 → Int) (ws : List Tk) : Int := if (rpS rf ws).e ≠ 0 then (rpS rf ws).e else 2
def rpA (rf : List UInt8 → Int) (ws : List Tk) : Int := if (rpS rf ws).e ≠ 0 then (rpS rf ws).a else atW ws 0
section
variable {rf : List UInt8 → Int} {ws : List Tk}
theorem rpZ_ok : (rpZ rf ws).1.p ≤ ws.length ∧ (rpZ rf ws).2.length ≤ (rpZ rf ws).1.p := by
  obtain ⟨a1, a2, a3⟩ := or_gd (noF_gd rf ws (ws.length + 1)) ⟨0, 0, 0⟩ [] (Nat.zero_le _)
  exact ⟨a2, by have a3 : (rpZ rf ws).2.length + 0 ≤ 0 + (rpZ rf ws).1.p := a3; omega⟩
theorem rpS_y (h : (rpZ rf ws).1.p < ws.length) : rpS rf ws = Old.failR (rpZ rf ws).1 25 (ws.getD (rpZ rf ws).1.p tok0).at_ := if_pos h
theorem rpS_n (h : ¬ (rpZ rf ws).1.p < ws.length) : rpS rf ws = (rpZ rf ws).1 := if_neg h
theorem rpE_y (h : (rpS rf ws).e ≠ 0) : rpE rf ws = (rpS rf ws).e := if_pos h
theorem rpE_n (h : (rpS rf ws).e = 0) : rpE rf ws = 2 := if_neg (not_not_intro h)
theorem rpA_y (h : (rpS rf ws).e ≠ 0) : rpA rf ws = (rpS rf ws).a := if_pos h
theorem rpA_n (h : (rpS rf ws).e = 0) : rpA rf ws = atW ws 0 := if_neg (not_not_intro h)
end
theorem rparse8_no (ar : Int) (ws : List Tk) (cw : Nat) (ha : 1 ≤ ar ∧ ar ≤ 3) (hn : ws.length ≤ 10000) (hw : WsOK ws) (rf : List UInt8 → Int) (hrf : ∀ q : List UInt8, Fn Tryz.prog 17 [.int .i64 ar, .str q] [] (Rt (.int .i64 (rf q)) [])) (hq : ¬ ((rpS rf ws).e = 0 ∧ (rpN rf ws).length ≤ 32)) : Fn Tryz.prog 20 [.int .i64 ar, .sl 0 ws.length cw] [some (.lst 4 ws.length (fun zz => tkc (ws.getD zz tok0)))] (Rt (.tup [.sla none 0 0, .int .i64 (rpE rf ws), .int .i64 (rpA rf ws)]) [some (.lst 4 ws.length (fun zz => tkc (ws.getD zz tok0)))]) :=
 enterM (n := 87) (by kernel_rfl) Tryz.func20 rfl rfl rfl fun G w a h0 A => N hX 18 A rfl rfl fun A => fork 16 A rfl
  (fun h1 A => N hX 9 A rfl rfl fun A => (by exact absurd h1 (by rw [decide_eq_false (show ¬ ar < 1 by omega), decide_eq_false (show ¬ ar > 3 by omega)]; decide)))
  (fun h1 A => N hX 25 A rfl rfl fun A => CALL1 [1, 0] (rwhere_ ws cw 0 (Nat.zero_le _) (by omega) hw) A rfl rfl rfl rfl rfl rfl rfl fun A => N hX 4 A rfl rfl fun A => have A := A.nilCell 3 88 5 (fun zz => cc (([] : List Cn).getD zz Cn.z)) [.ptr 2 0, .sl 4 0 0] rfl (fun G' hG vs h => (denL_at (den_nil hG) [.ptr 2 0] []).trans h) (fun z => ⟨_, rfl, rfl⟩); N hX 2 A rfl rfl fun A => CALL1 [3, 2, 1, 0, 4] (ror_all ar ws cw hn hw rf hrf (⟨0, 0, 0⟩ : Old.Rs) [] (Nat.zero_le _) (Nat.le_refl _)) A rfl rfl rfl rfl rfl rfl rfl fun A => N hX 11 A rfl rfl fun A => CALL1 [1, 0] (rpeek_ ws cw (((rpZ rf ws).1).p) (by first | exact Nat.zero_le _ | exact rpZ_ok.1 | exact fail_le rpZ_ok.1) (by omega)) A rfl rfl rfl rfl rfl rfl rfl fun A => N hX 14 A rfl rfl fun A => forkD 46 A rfl
   (fun h2 A => N hX 1 A rfl rfl fun A => DRAWN hX hmo [] [(6, .tup [], [some (.lst 4 ws.length (fun zz => tkc (ws.getD zz tok0))), some (.blk [.sl 0 ws.length cw, .int .i64 (((Old.failR ((rpZ rf ws).1) 25 ((ws.getD (((rpZ rf ws).1).p) tok0).at_)).p : Nat) : Int)]), some (.blk [.int .i64 ar, .ptr 1 0, .int .i64 ((Old.failR ((rpZ rf ws).1) 25 ((ws.getD (((rpZ rf ws).1).p) tok0).at_)).e), .int .i64 ((Old.failR ((rpZ rf ws).1) 25 ((ws.getD (((rpZ rf ws).1).p) tok0).at_)).a)]), some (.blk [.ptr 2 0, .sl 5 (((rpZ rf ws).2).length) 0]), none, some (.row 88 5 (((rpZ rf ws).2).length) 0 (fun zz => cc (((rpZ rf ws).2).getD zz Cn.z))), some (.blk [.int .i64 ((ws.getD (((rpZ rf ws).1).p) tok0).kind), .str ((ws.getD (((rpZ rf ws).1).p) tok0).text), .int .i64 ((ws.getD (((rpZ rf ws).1).p) tok0).n), .int .i64 ((ws.getD (((rpZ rf ws).1).p) tok0).at_)])])] A rfl rfl rfl rfl (by kernel_rfl) ⟨callE [2, 1, 0] (rfail_ ar ws cw ((rpZ rf ws).1) 25 ((ws.getD (((rpZ rf ws).1).p) tok0).at_) (by first | exact Nat.zero_le _ | exact rpZ_ok.1 | exact fail_le rpZ_ok.1) (by omega) hw) rfl rfl rfl rfl rfl rfl rfl, trivial⟩ trivial fun A => N hX 14 A rfl rfl fun A => forkN 61 A rfl
    (fun h3 A => N hX 2 A rfl rfl fun A => DRAWN hX hmo [] [] A rfl rfl rfl rfl (by kernel_rfl) (effAll_nil _ _) trivial fun A => N hX 2 A rfl rfl fun A => (by rw [rpE_y (show (rpS rf ws).e ≠ 0 by rw [rpS_y h2]; exact h3), rpA_y (show (rpS rf ws).e ≠ 0 by rw [rpS_y h2]; exact h3), rpS_y h2]; exact RETN hX A rfl rfl rfl h0 rfl rfl rfl rfl rfl rfl))
    (fun h3 A => N hX 14 A rfl rfl fun A => forkD 81 A rfl
     (fun h4 A => N hX 10 A rfl rfl fun A => (by rw [rpE_n (show (rpS rf ws).e = 0 by rw [rpS_y h2]; exact h3), rpA_n (show (rpS rf ws).e = 0 by rw [rpS_y h2]; exact h3)]; exact RETN hX A rfl rfl rfl h0 rfl rfl rfl rfl rfl rfl))
     (fun h4 A => N hX 15 A rfl rfl fun A => (by exact absurd ⟨(show (rpS rf ws).e = 0 by rw [rpS_y h2]; exact h3), (by have : ¬ (((rpN rf ws).length : Nat) : Int) > 32 := h4; omega)⟩ hq))))
   (fun h2 A => N hX 16 A rfl rfl fun A => forkN 61 A rfl
    (fun h5 A => N hX 2 A rfl rfl fun A => DRAWN hX hmo [] [] A rfl rfl rfl rfl (by kernel_rfl) (effAll_nil _ _) trivial fun A => N hX 2 A rfl rfl fun A => (by rw [rpE_y (show (rpS rf ws).e ≠ 0 by rw [rpS_n h2]; exact h5), rpA_y (show (rpS rf ws).e ≠ 0 by rw [rpS_n h2]; exact h5), rpS_n h2]; exact RETN hX A rfl rfl rfl h0 rfl rfl rfl rfl rfl rfl))
    (fun h5 A => N hX 14 A rfl rfl fun A => forkD 81 A rfl
     (fun h6 A => N hX 10 A rfl rfl fun A => (by rw [rpE_n (show (rpS rf ws).e = 0 by rw [rpS_n h2]; exact h5), rpA_n (show (rpS rf ws).e = 0 by rw [rpS_n h2]; exact h5)]; exact RETN hX A rfl rfl rfl h0 rfl rfl rfl rfl rfl rfl))
     (fun h6 A => N hX 15 A rfl rfl fun A => (by exact absurd ⟨(show (rpS rf ws).e = 0 by rw [rpS_n h2]; exact h5), (by have : ¬ (((rpN rf ws).length : Nat) : Int) > 32 := h6; omega)⟩ hq)))))
theorem rparse8_ok (ar : Int) (ws : List Tk) (cw : Nat) (ha : 1 ≤ ar ∧ ar ≤ 3) (hn : ws.length ≤ 10000) (hw : WsOK ws) (rf : List UInt8 → Int) (hrf : ∀ q : List UInt8, Fn Tryz.prog 17 [.int .i64 ar, .str q] [] (Rt (.int .i64 (rf q)) [])) (hq : (rpS rf ws).e = 0 ∧ (rpN rf ws).length ≤ 32) : Fn Tryz.prog 20 [.int .i64 ar, .sl 0 ws.length cw] [some (.lst 4 ws.length (fun zz => tkc (ws.getD zz tok0)))] (Rt (.tup [.sl 1 ((rpN rf ws).length) 0, .int .i64 0, .int .i64 0]) [some (.lst 4 ws.length (fun zz => tkc (ws.getD zz tok0))), some (.row 88 5 ((rpN rf ws).length) 0 (fun zz => cc ((rpN rf ws).getD zz Cn.z)))]) :=
 enterM (n := 87) (by kernel_rfl) Tryz.func20 rfl rfl rfl fun G w a h0 A => N hX 18 A rfl rfl fun A => fork 16 A rfl
  (fun h1 A => N hX 9 A rfl rfl fun A => (by exact absurd h1 (by rw [decide_eq_false (show ¬ ar < 1 by omega), decide_eq_false (show ¬ ar > 3 by omega)]; decide)))
  (fun h1 A => N hX 25 A rfl rfl fun A => CALL1 [1, 0] (rwhere_ ws cw 0 (Nat.zero_le _) (by omega) hw) A rfl rfl rfl rfl rfl rfl rfl fun A => N hX 4 A rfl rfl fun A => have A := A.nilCell 3 88 5 (fun zz => cc (([] : List Cn).getD zz Cn.z)) [.ptr 2 0, .sl 4 0 0] rfl (fun G' hG vs h => (denL_at (den_nil hG) [.ptr 2 0] []).trans h) (fun z => ⟨_, rfl, rfl⟩); N hX 2 A rfl rfl fun A => CALL1 [3, 2, 1, 0, 4] (ror_all ar ws cw hn hw rf hrf (⟨0, 0, 0⟩ : Old.Rs) [] (Nat.zero_le _) (Nat.le_refl _)) A rfl rfl rfl rfl rfl rfl rfl fun A => N hX 11 A rfl rfl fun A => CALL1 [1, 0] (rpeek_ ws cw (((rpZ rf ws).1).p) (by first | exact Nat.zero_le _ | exact rpZ_ok.1 | exact fail_le rpZ_ok.1) (by omega)) A rfl rfl rfl rfl rfl rfl rfl fun A => N hX 14 A rfl rfl fun A => forkD 46 A rfl
   (fun h2 A => N hX 1 A rfl rfl fun A => DRAWN hX hmo [] [(6, .tup [], [some (.lst 4 ws.length (fun zz => tkc (ws.getD zz tok0))), some (.blk [.sl 0 ws.length cw, .int .i64 (((Old.failR ((rpZ rf ws).1) 25 ((ws.getD (((rpZ rf ws).1).p) tok0).at_)).p : Nat) : Int)]), some (.blk [.int .i64 ar, .ptr 1 0, .int .i64 ((Old.failR ((rpZ rf ws).1) 25 ((ws.getD (((rpZ rf ws).1).p) tok0).at_)).e), .int .i64 ((Old.failR ((rpZ rf ws).1) 25 ((ws.getD (((rpZ rf ws).1).p) tok0).at_)).a)]), some (.blk [.ptr 2 0, .sl 5 (((rpZ rf ws).2).length) 0]), none, some (.row 88 5 (((rpZ rf ws).2).length) 0 (fun zz => cc (((rpZ rf ws).2).getD zz Cn.z))), some (.blk [.int .i64 ((ws.getD (((rpZ rf ws).1).p) tok0).kind), .str ((ws.getD (((rpZ rf ws).1).p) tok0).text), .int .i64 ((ws.getD (((rpZ rf ws).1).p) tok0).n), .int .i64 ((ws.getD (((rpZ rf ws).1).p) tok0).at_)])])] A rfl rfl rfl rfl (by kernel_rfl) ⟨callE [2, 1, 0] (rfail_ ar ws cw ((rpZ rf ws).1) 25 ((ws.getD (((rpZ rf ws).1).p) tok0).at_) (by first | exact Nat.zero_le _ | exact rpZ_ok.1 | exact fail_le rpZ_ok.1) (by omega) hw) rfl rfl rfl rfl rfl rfl rfl, trivial⟩ trivial fun A => N hX 14 A rfl rfl fun A => forkN 61 A rfl
    (fun h3 A => N hX 2 A rfl rfl fun A => DRAWN hX hmo [] [] A rfl rfl rfl rfl (by kernel_rfl) (effAll_nil _ _) trivial fun A => N hX 2 A rfl rfl fun A => (by exact absurd hq.1 (show (rpS rf ws).e ≠ 0 by rw [rpS_y h2]; exact h3)))
    (fun h3 A => N hX 14 A rfl rfl fun A => forkD 81 A rfl
     (fun h4 A => N hX 10 A rfl rfl fun A => (by exact absurd (show (((rpN rf ws).length : Nat) : Int) > 32 from h4) (by have := hq.2; omega)))
     (fun h4 A => N hX 15 A rfl rfl fun A => (by exact RET hX [5] A ⟨rfl, rfl⟩ rfl rfl rfl rfl rfl rfl rfl rfl h0))))
   (fun h2 A => N hX 16 A rfl rfl fun A => forkN 61 A rfl
    (fun h5 A => N hX 2 A rfl rfl fun A => DRAWN hX hmo [] [] A rfl rfl rfl rfl (by kernel_rfl) (effAll_nil _ _) trivial fun A => N hX 2 A rfl rfl fun A => (by exact absurd hq.1 (show (rpS rf ws).e ≠ 0 by rw [rpS_n h2]; exact h5)))
    (fun h5 A => N hX 14 A rfl rfl fun A => forkD 81 A rfl
     (fun h6 A => N hX 10 A rfl rfl fun A => (by exact absurd (show (((rpN rf ws).length : Nat) : Int) > 32 from h6) (by have := hq.2; omega)))
     (fun h6 A => N hX 15 A rfl rfl fun A => (by exact RET hX [5] A ⟨rfl, rfl⟩ rfl rfl rfl rfl rfl rfl rfl rfl h0)))))
def aO (s : Old.Rs) : As := ⟨s.p, s.e, s.a⟩
structure Rel (x : As) (s : Old.Rs) : Prop where
  e : x.e = s.e
  a : x.a = s.a
  p : s.e = 0 → x.p = s.p
def Mi (ws : List Tk) : Prop := ∀ k, k < ws.length → (ws.getD k tok0).text = [45] → (ws.getD k tok0).kind ≠ 2 → (ws.getD k tok0).kind = 3
section
variable {rf : List UInt8 → Int} {ws : List Tk} {rs ls : List (List UInt8)} {x : As} {s : Old.Rs} {m : List UInt8} {k : Int} {ns : List Cn}
theorem Rel.eq (h : Rel x s) (h0 : s.e = 0) : x = aO s := by
  obtain ⟨p, e, a⟩ := x
  have h1 : e = s.e := h.e
  have h2 : a = s.a := h.a
  have h3 : p = s.p := h.p h0
  rw [h1, h2, h3]; rfl
theorem Rel.of (h : s.e ≠ 0) (h1 : x.e = s.e) (h2 : x.a = s.a) : Rel x s := ⟨h1, h2, fun e => absurd e h⟩
theorem kp_ref (h : x.e ≠ 0) : refA ws x k = x := by unfold refA refAt; rw [if_neg h]
theorem kp_mk (h : x.e ≠ 0) : (mkA ws x m).e = x.e ∧ (mkA ws x m).a = x.a := by
  unfold mkA; split
  · exact ⟨rfl, rfl⟩
  · rw [kp_ref (show (goA x (tkK ws x.p m)).e ≠ 0 from h)]; exact ⟨rfl, rfl⟩
theorem kp_num (h : x.e ≠ 0) : (numA ws x).e = x.e ∧ (numA ws x).a = x.a := by
  unfold numA; split
  · exact ⟨rfl, rfl⟩
  · rw [kp_ref (show (goA x (tkK ws (nbK ws x.p) [45])).e ≠ 0 from h)]; exact ⟨rfl, rfl⟩
theorem kp_kn (h : x.e ≠ 0) : (knA ws x ls).e = x.e ∧ (knA ws x ls).a = x.a := by
  unfold knA; split
  · split
    · rw [kp_ref h]; exact ⟨rfl, rfl⟩
    · exact ⟨rfl, rfl⟩
  · rw [kp_ref h]; exact ⟨rfl, rfl⟩
theorem kp_hs (h : x.e ≠ 0) : hoS ws x = x := by unfold hoS; split <;> first | exact kp_ref h | rfl
theorem kp_ho (h : x.e ≠ 0) : (hoA ws x rs).e = x.e ∧ (hoA ws x rs).a = x.a := by
  unfold hoA; split
  · rw [kp_hs h]
    have h1 := kp_mk (ws := ws) (m := [58]) (x := ⟨nxK ws x.p, x.e, x.a⟩) h
    have h2 := kp_kn (ws := ws) (ls := rs) (x := mkA ws ⟨nxK ws x.p, x.e, x.a⟩ [58]) (by rw [h1.1]; exact h)
    exact ⟨h2.1.trans h1.1, h2.2.trans h1.2⟩
  · exact kp_kn h
theorem kp_le (h : x.e ≠ 0) : (leA ws x rs).e = x.e ∧ (leA ws x rs).a = x.a := by
  have h1 := kp_ho (ws := ws) (rs := rs) h
  have h2 := kp_mk (ws := ws) (m := [61]) (x := hoA ws x rs) (by rw [h1.1]; exact h)
  have h3 := kp_num (ws := ws) (x := mkA ws (hoA ws x rs) [61]) (by rw [h2.1, h1.1]; exact h)
  exact ⟨h3.1.trans (h2.1.trans h1.1), h3.2.trans (h2.2.trans h1.2)⟩
theorem at_in {k : Nat} (h : k < ws.length) : atW ws k = (ws.getD k tok0).at_ := by unfold atW; rw [if_pos h]
theorem ref_y {k : Int} (h0 : s.e = 0) (h : s.p < ws.length) : Rel (refA ws (aO s) k) (Old.failR s k (ws.getD s.p tok0).at_) := by
  rw [fail_y h0]; unfold refA refAt; rw [if_pos (show (aO s).e = 0 from h0), if_pos (show (aO s).p < ws.length from h), show atW ws (aO s).p = _ from at_in h]; exact ⟨rfl, rfl, fun _ => rfl⟩
theorem ref_n {k : Int} (h0 : s.e = 0) (h : ¬ s.p < ws.length) : Rel (refA ws (aO s) k) (Old.failR s 24 (atW ws s.p)) := by
  rw [fail_y h0]; unfold refA refAt; rw [if_pos (show (aO s).e = 0 from h0), if_neg (show ¬ (aO s).p < ws.length from h)]; exact ⟨rfl, rfl, fun _ => rfl⟩
theorem rel_odd (hw : WsOK ws) (h0 : s.e = 0) : Rel (refA ws (aO s) 22) (Old.oddR ws false s) := by
  by_cases h : s.p < ws.length
  · rw [odd_g h]; exact ref_y h0 h
  · rw [odd_e hw h]; exact ref_n h0 h
theorem rel_mark (hw : WsOK ws) (h : Rel x s) : Rel (mkA ws x m) (Old.markR ws m s) := by
  by_cases h0 : s.e = 0
  · rw [h.eq h0]
    cases hb : tkB ws s.p m with
    | true => rw [mark_y h0 hb]; unfold mkA; rw [if_pos (show tkB ws (aO s).p m = true from hb)]; exact ⟨rfl, rfl, fun _ => rfl⟩
    | false => rw [mark_n h0 hb]; unfold mkA; rw [if_neg (show ¬ tkB ws (aO s).p m = true from bne hb)]; exact rel_odd (s := ⟨s.e, s.a, tkK ws s.p m⟩) hw h0
  · rw [mark_s h0]
    have := kp_mk (ws := ws) (m := m) (x := x) (by rw [h.e]; exact h0)
    exact .of h0 (this.1.trans h.e) (this.2.trans h.a)
theorem tok_out {k : Nat} (h : ¬ k < ws.length) : ws.getD k tok0 = tok0 := by rw [List.getD_eq_getElem?_getD, List.getElem?_eq_none (by omega)]; rfl
theorem rel_reg (hw : WsOK ws) (hr : ∀ q, rf q = idxS rs q) (h : Rel x s) : Rel (knA ws x rs) (regG rf ws s).1 ∧ ((regG rf ws s).1.e = 0 → knI ws x rs = (regG rf ws s).2) := by
  by_cases h0 : s.e = 0
  · rw [h.eq h0]
    by_cases hl : s.p < ws.length
    · by_cases hk : (ws.getD s.p tok0).kind = 1
      · by_cases hi : rf (ws.getD s.p tok0).text < 0
        · rw [reg_n h0 (by rw [decide_eq_true hi, Bool.or_true])]
          refine ⟨?_, fun e => absurd e (odd_ne h0)⟩
          unfold knA; rw [if_pos (show (ws.getD (aO s).p tok0).kind = 1 from hk), if_pos (show idxS rs (ws.getD (aO s).p tok0).text < 0 by rw [← hr]; exact hi), odd_w hl hk]
          exact ref_y h0 hl
        · rw [reg_y h0 (by rw [decide_eq_true hl, beq_iff_eq.2 hk, decide_eq_false hi]; rfl)]
          have hi2 : ¬ idxS rs (ws.getD (aO s).p tok0).text < 0 := by rw [← hr]; exact hi
          refine ⟨?_, fun _ => ?_⟩
          · unfold knA; rw [if_pos (show (ws.getD (aO s).p tok0).kind = 1 from hk), if_neg hi2]; exact ⟨rfl, rfl, fun _ => rfl⟩
          · unfold knI; rw [if_pos (show (ws.getD (aO s).p tok0).kind = 1 from hk), if_neg hi2]; exact (hr _).symm
      · rw [reg_n h0 (by rw [beq_eq_false_iff_ne.2 hk, decide_eq_true hl]; rfl)]
        refine ⟨?_, fun e => absurd e (odd_ne h0)⟩
        unfold knA; rw [if_neg (show ¬ (ws.getD (aO s).p tok0).kind = 1 from hk), odd_f hl hk]
        exact ref_y h0 hl
    · rw [reg_n h0 (by rw [decide_eq_false hl]; rfl)]
      refine ⟨?_, fun e => absurd e (odd_ne h0)⟩
      unfold knA; rw [if_neg (show ¬ (ws.getD (aO s).p tok0).kind = 1 by rw [show ws.getD (aO s).p tok0 = tok0 from tok_out hl]; decide), odd_e hw hl]
      exact ref_n h0 hl
  · rw [reg_s h0]
    have := kp_kn (ws := ws) (ls := rs) (x := x) (by rw [h.e]; exact h0)
    exact ⟨.of h0 (this.1.trans h.e) (this.2.trans h.a), fun e => absurd e h0⟩
theorem mn_tk (hm : Mi ws) (k : Nat) : mnB ws k = tkB ws k [45] := by
  unfold mnB tkB
  by_cases hl : k < ws.length
  · rw [decide_eq_true hl, Bool.true_and, Bool.true_and]
    by_cases ht : (ws.getD k tok0).text = [45]
    · by_cases h2 : (ws.getD k tok0).kind = 2
      · rw [h2, beq_iff_eq.2 ht]; rfl
      · rw [hm k hl ht h2, beq_iff_eq.2 ht]; rfl
    · rw [beq_eq_false_iff_ne.2 ht, Bool.and_false, Bool.and_false]
  · rw [decide_eq_false hl]; rfl
theorem num_nu {k : Nat} : ((!(decide (k < ws.length))) || (!((ws.getD k tok0).kind == 2))) = !(nuB ws k) := by
  unfold nuB; cases decide (k < ws.length) <;> cases ((ws.getD k tok0).kind == 2) <;> rfl
theorem nuN {k : Nat} (h : nuB ws k = true) : k < ws.length := by
  unfold nuB at h; rw [Bool.and_eq_true] at h; exact of_decide_eq_true h.1
theorem rel_num (hw : WsOK ws) (hm : Mi ws) (h : Rel x s) : Rel (numA ws x) (Old.numS ws s).1 ∧ ((Old.numS ws s).1.e = 0 → nbV ws x.p = (Old.numS ws s).2) := by
  by_cases h0 : s.e = 0
  · rw [h.eq h0, numM h0]
    have hp : (aO s).p = s.p := rfl
    cases hb : tkB ws s.p [45] with
    | true =>
      have hk := tkK_y hb
      have hmn := (mn_tk hm s.p).trans hb
      cases hn : nuB ws (s.p + 1) with
      | true =>
        rw [numE_y (by show ((!(decide (tkK ws s.p [45] < ws.length))) || (!((ws.getD (tkK ws s.p [45]) tok0).kind == 2))) = false; rw [num_nu, hk, hn]; rfl)]
        refine ⟨?_, fun _ => ?_⟩
        · unfold numA nbB nbK; rw [hp, if_pos hmn, if_pos hn, if_pos hmn, if_pos hn]
          refine ⟨rfl, rfl, fun _ => ?_⟩
          show s.p + 1 + 1 = nxK ws (tkK ws s.p [45]); rw [hk, nxK_y (nuN hn)]
        · unfold nbV; rw [hp, if_pos hmn, if_pos hn, if_pos rfl]; show _ = IntKind.wrap .i64 (0 - (ws.getD (tkK ws s.p [45]) tok0).n); rw [hk]
      | false =>
        rw [numE_n (by show ((!(decide (tkK ws s.p [45] < ws.length))) || (!((ws.getD (tkK ws s.p [45]) tok0).kind == 2))) = true; rw [num_nu, hk, hn]; rfl)]
        refine ⟨?_, fun e => absurd e (odd_ne (s := ⟨s.e, s.a, tkK ws s.p [45]⟩) h0)⟩
        unfold numA nbB nbK; rw [hp, if_pos hmn, if_neg (bne hn), if_pos hmn, if_neg (bne hn)]
        exact rel_odd (s := ⟨s.e, s.a, tkK ws s.p [45]⟩) hw h0
    | false =>
      have hk := tkK_n hb
      have hmn := (mn_tk hm s.p).trans hb
      cases hn : nuB ws s.p with
      | true =>
        rw [numE_y (by show ((!(decide (tkK ws s.p [45] < ws.length))) || (!((ws.getD (tkK ws s.p [45]) tok0).kind == 2))) = false; rw [num_nu, hk, hn]; rfl)]
        refine ⟨?_, fun _ => ?_⟩
        · unfold numA nbB nbK; rw [hp, if_neg (bne hmn), if_pos hn, if_neg (bne hmn), if_pos hn]
          refine ⟨rfl, rfl, fun _ => ?_⟩
          show s.p + 1 = nxK ws (tkK ws s.p [45]); rw [hk, nxK_y (nuN hn)]
        · unfold nbV; rw [hp, if_neg (bne hmn), if_pos hn, if_neg (by decide)]; show _ = (ws.getD (tkK ws s.p [45]) tok0).n; rw [hk]
      | false =>
        rw [numE_n (by show ((!(decide (tkK ws s.p [45] < ws.length))) || (!((ws.getD (tkK ws s.p [45]) tok0).kind == 2))) = true; rw [num_nu, hk, hn]; rfl)]
        refine ⟨?_, fun e => absurd e (odd_ne (s := ⟨s.e, s.a, tkK ws s.p [45]⟩) h0)⟩
        unfold numA nbB nbK; rw [hp, if_neg (bne hmn), if_neg (bne hn), if_neg (bne hmn), if_neg (bne hn)]
        exact rel_odd (s := ⟨s.e, s.a, tkK ws s.p [45]⟩) hw h0
  · rw [num_s h0]
    have := kp_num (ws := ws) (x := x) (by rw [h.e]; exact h0)
    exact ⟨.of h0 (this.1.trans h.e) (this.2.trans h.a), fun e => absurd e h0⟩
theorem mark_e0 (h : (Old.markR ws m s).e = 0) : s.e = 0 := by
  apply Classical.byContradiction; intro h0
  rw [mark_s h0] at h; exact h0 h
theorem num_e0 (h : (Old.numS ws s).1.e = 0) : s.e = 0 := by
  apply Classical.byContradiction; intro h0
  rw [num_s h0] at h; exact h0 h
theorem loc_ix (q : List UInt8) : Old.locF q = idxS [[120], [121], [122]] q := (idxS_L _ q).symm
theorem hoS_in (h : (decide ((ws.getD s.p tok0).n < 0) || decide ((ws.getD s.p tok0).n > 2)) = false) : hoS ws (aO s) = aO s := by
  rw [Bool.or_eq_false_iff] at h
  have h1 := of_decide_eq_false h.1
  have h2 := of_decide_eq_false h.2
  unfold hoS
  rw [if_neg]
  show ¬ (decide ((ws.getD s.p tok0).n < 0) || decide ((ws.getD s.p tok0).n ≥ 3)) = true
  rw [decide_eq_false h1, decide_eq_false (by omega)]; decide
theorem hoS_out (h : (decide ((ws.getD s.p tok0).n < 0) || decide ((ws.getD s.p tok0).n > 2)) = true) : hoS ws (aO s) = refA ws (aO s) 22 := by
  unfold hoS
  rw [if_pos]
  show (decide ((ws.getD s.p tok0).n < 0) || decide ((ws.getD s.p tok0).n ≥ 3)) = true
  rw [Bool.or_eq_true] at h ⊢
  rcases h with h | h
  · exact .inl h
  · exact .inr (decide_eq_true (by have := of_decide_eq_true h; omega))
theorem leaf_bad (h : s.e ≠ 0) (hr : Rel (hoA ws x rs) s) : Rel (leA ws x rs) s := by
  have k3 := kp_mk (ws := ws) (m := [61]) (x := hoA ws x rs) (by rw [hr.e]; exact h)
  have k4 := kp_num (ws := ws) (x := mkA ws (hoA ws x rs) [61]) (by rw [k3.1, hr.e]; exact h)
  exact .of h (k4.1.trans (k3.1.trans hr.e)) (k4.2.trans (k3.2.trans hr.a))
theorem rel_leaf (hw : WsOK ws) (hm : Mi ws) (hr : ∀ q, rf q = idxS rs q) (h0 : s.e = 0) : Rel (leA ws (aO s) rs) (atZ rf ws s ns).1 ∧ ((atZ rf ws s ns).1.e = 0 → (atZ rf ws s ns).2 = ns ++ [leC ws (aO s) rs]) := by
  cases h1 : (decide (s.p < ws.length) && ((ws.getD s.p tok0).kind == 2)) with
  | true =>
    have hl : s.p < ws.length := by rw [Bool.and_eq_true] at h1; exact of_decide_eq_true h1.1
    have hk : (ws.getD s.p tok0).kind = 2 := by rw [Bool.and_eq_true] at h1; exact beq_iff_eq.1 h1.2
    have hk' : (ws.getD (aO s).p tok0).kind = 2 := hk
    cases h2 : (decide ((ws.getD s.p tok0).n < 0) || decide ((ws.getD s.p tok0).n > 2)) with
    | true =>
      rw [at_1 h1 h2]
      have q := ref_y (ws := ws) (k := 22) h0 hl
      have qe : (Old.failR s 22 (ws.getD s.p tok0).at_).e ≠ 0 := by rw [fail_y h0]; exact (by decide : (22 : Int) ≠ 0)
      refine ⟨?_, fun e => absurd e qe⟩
      have x0 : (hoS ws (aO s)).e ≠ 0 := by rw [hoS_out h2, q.e]; exact qe
      have h3 : (hoA ws (aO s) rs).e = (hoS ws (aO s)).e ∧ (hoA ws (aO s) rs).a = (hoS ws (aO s)).a := by
        unfold hoA; rw [if_pos hk']
        have k1 := kp_mk (ws := ws) (m := [58]) (x := ⟨nxK ws (hoS ws (aO s)).p, (hoS ws (aO s)).e, (hoS ws (aO s)).a⟩) x0
        have k2 := kp_kn (ws := ws) (ls := rs) (x := mkA ws ⟨nxK ws (hoS ws (aO s)).p, (hoS ws (aO s)).e, (hoS ws (aO s)).a⟩ [58]) (by rw [k1.1]; exact x0)
        exact ⟨k2.1.trans k1.1, k2.2.trans k1.2⟩
      have k3 := kp_mk (ws := ws) (m := [61]) (x := hoA ws (aO s) rs) (by rw [h3.1]; exact x0)
      have k4 := kp_num (ws := ws) (x := mkA ws (hoA ws (aO s) rs) [61]) (by rw [k3.1, h3.1]; exact x0)
      refine .of qe ?_ ?_
      · show (numA ws (mkA ws (hoA ws (aO s) rs) [61])).e = _; rw [k4.1, k3.1, h3.1, hoS_out h2, q.e]
      · show (numA ws (mkA ws (hoA ws (aO s) rs) [61])).a = _; rw [k4.2, k3.2, h3.2, hoS_out h2, q.a]
    | false =>
      rw [at_2 h1 h2]
      have r1 : Rel (mkA ws ⟨nxK ws (hoS ws (aO s)).p, (hoS ws (aO s)).e, (hoS ws (aO s)).a⟩ [58]) (Old.markR ws [58] ⟨s.e, s.a, nxK ws s.p⟩) := by
        rw [hoS_in h2]; exact rel_mark hw ⟨rfl, rfl, fun _ => rfl⟩
      have r2 := rel_reg hw hr r1
      have r3 : Rel (mkA ws (hoA ws (aO s) rs) [61]) (Old.markR ws [61] (atR rf ws s).1) := by
        unfold hoA; rw [if_pos hk']; exact rel_mark hw r2.1
      have r4 := rel_num hw hm r3
      refine ⟨r4.1, fun e => ?_⟩
      have e2 : (atR rf ws s).1.e = 0 := mark_e0 (num_e0 e)
      rw [putN_y (show (atV rf ws s).1.e = 0 from e)]
      have v1 := r2.2 e2
      have v2 := r4.2 e
      have : leC ws (aO s) rs = ⟨1, (ws.getD s.p tok0).n, (atR rf ws s).2, 0, (atV rf ws s).2⟩ := by
        unfold leC; rw [v2]; unfold hoC; rw [if_pos hk', v1]; rfl
      rw [this]
  | false =>
    have hk : ¬ (ws.getD (aO s).p tok0).kind = 2 := by
      intro h
      by_cases hl : s.p < ws.length
      · rw [decide_eq_true hl, beq_iff_eq.2 (show (ws.getD s.p tok0).kind = 2 from h)] at h1; cases h1
      · rw [show ws.getD (aO s).p tok0 = tok0 from tok_out hl] at h; exact absurd h (by decide)
    have hA : hoA ws (aO s) rs = knA ws (aO s) [[120], [121], [122]] := by unfold hoA; rw [if_neg hk]
    cases h4 : (decide (s.p < ws.length) && ((ws.getD s.p tok0).kind == 1)) with
    | true =>
      have hl : s.p < ws.length := by rw [Bool.and_eq_true] at h4; exact of_decide_eq_true h4.1
      have hk1 : (ws.getD (aO s).p tok0).kind = 1 := by rw [Bool.and_eq_true] at h4; exact beq_iff_eq.1 h4.2
      by_cases hi : Old.locF (ws.getD s.p tok0).text ≥ 0
      · rw [at_3 h1 (by rw [h4, decide_eq_true hi]; rfl)]
        have hi2 : ¬ idxS [[120], [121], [122]] (ws.getD (aO s).p tok0).text < 0 := by rw [← loc_ix]; show ¬ Old.locF (ws.getD s.p tok0).text < 0; omega
        have hA2 : hoA ws (aO s) rs = ⟨nxK ws s.p, s.e, s.a⟩ := by rw [hA]; unfold knA; rw [if_pos hk1, if_neg hi2]; rfl
        have r3 : Rel (mkA ws (hoA ws (aO s) rs) [61]) (Old.markR ws [61] ⟨s.e, s.a, nxK ws s.p⟩) := by rw [hA2]; exact rel_mark hw ⟨rfl, rfl, fun _ => rfl⟩
        have r4 := rel_num hw hm r3
        refine ⟨r4.1, fun e => ?_⟩
        rw [putN_y (show (atL ws s).1.e = 0 from e)]
        have v2 := r4.2 e
        have : leC ws (aO s) rs = ⟨2, 0, 0, Old.locF (ws.getD s.p tok0).text, (atL ws s).2⟩ := by
          unfold leC; rw [v2]; unfold hoC; rw [if_neg hk]; unfold knI; rw [if_pos hk1, if_neg hi2, ← loc_ix]; rfl
        rw [this]
      · have h3 : ((decide (s.p < ws.length) && ((ws.getD s.p tok0).kind == 1)) && decide (Old.locF (ws.getD s.p tok0).text ≥ 0)) = false := by rw [decide_eq_false hi, Bool.and_false]
        rw [at_4 h1 h3 h4]
        have q := ref_y (ws := ws) (k := 21) h0 hl
        have qe : (Old.failR s 21 (ws.getD s.p tok0).at_).e ≠ 0 := by rw [fail_y h0]; exact (by decide : (21 : Int) ≠ 0)
        have hA2 : hoA ws (aO s) rs = refA ws (aO s) 21 := by rw [hA]; unfold knA; rw [if_pos hk1, if_pos (show idxS [[120], [121], [122]] (ws.getD (aO s).p tok0).text < 0 by rw [← loc_ix]; show Old.locF (ws.getD s.p tok0).text < 0; omega)]
        exact ⟨leaf_bad qe (by rw [hA2]; exact q), fun e => absurd e qe⟩
    | false =>
      have h3 : ((decide (s.p < ws.length) && ((ws.getD s.p tok0).kind == 1)) && decide (Old.locF (ws.getD s.p tok0).text ≥ 0)) = false := by rw [h4]; rfl
      have hk1 : ¬ (ws.getD (aO s).p tok0).kind = 1 := by
        intro h
        by_cases hl : s.p < ws.length
        · rw [decide_eq_true hl, beq_iff_eq.2 (show (ws.getD s.p tok0).kind = 1 from h)] at h4; cases h4
        · rw [show ws.getD (aO s).p tok0 = tok0 from tok_out hl] at h; exact absurd h (by decide)
      have hA2 : hoA ws (aO s) rs = refA ws (aO s) 22 := by rw [hA]; unfold knA; rw [if_neg hk1]
      by_cases hl : s.p < ws.length
      · rw [at_5 h1 h3 h4 hl]
        have qe : (Old.failR s 22 (ws.getD s.p tok0).at_).e ≠ 0 := by rw [fail_y h0]; exact (by decide : (22 : Int) ≠ 0)
        exact ⟨leaf_bad qe (by rw [hA2]; exact ref_y h0 hl), fun e => absurd e qe⟩
      · rw [at_6 h1 h3 h4 hl]
        have qe : (Old.failR s 24 (atW ws s.p)).e ≠ 0 := by rw [fail_y h0]; exact (by decide : (24 : Int) ≠ 0)
        exact ⟨leaf_bad qe (by rw [hA2]; exact ref_n h0 hl), fun e => absurd e qe⟩
end
structure COK (ws : List Tk) (z : Cs) : Prop where
  le : z.s.p ≤ ws.length
  op : z.op = (brk z.wf z.m : Int)
  sm : z.ns.length + z.m ≤ 2 * z.s.p
def finC (ws : List Tk) (z : Cs) : As × List Cn := (endA ws (bif decide (z.op > 0) then refA ws z.s 22 else z.s), (setF 5 z.wf z.m z.ns).2)
def ouB (ws : List Tk) (rs : List (List UInt8)) (z : Cs) : As × List Cn := finC ws (coF ws rs (ws.length - z.s.p + 1) z)
def enE (ws : List Tk) (y : Cs) : Eg := endF ws y.wf (ws.length - y.s.p + 1) ⟨y.s.p, y.ns, y.m, y.op⟩
def enJ (ws : List Tk) (y : Cs) : Bool × Nat × List Cn × Nat × (Nat → Int) := joF ws (enE ws y).p (enE ws y).ns (enE ws y).m y.wf
def enR (ws : List Tk) (y : Cs) : Bool × Cs := ((enJ ws y).1, ⟨⟨(enJ ws y).2.1, y.s.e, y.s.a⟩, (enJ ws y).2.2.1, (enJ ws y).2.2.2.1, (enJ ws y).2.2.2.2, (enE ws y).op⟩)
def coY (ws : List Tk) (rs : List (List UInt8)) (z : Cs) : Cs := ⟨coL ws rs z, coN ws rs z, (coB ws z).m, (coB ws z).wf, (coB ws z).op⟩
theorem coR_enR (ws : List Tk) (rs : List (List UInt8)) (z : Cs) : coR ws rs z = enR ws (coY ws rs z) := rfl
def ouE (ws : List Tk) (rs : List (List UInt8)) (y : Cs) : As × List Cn := if (enR ws y).1 = true then ouB ws rs (enR ws y).2 else finC ws (enR ws y).2
def stW (wf : Nat → Int) : Nat → List Int
  | 0 => []
  | n + 1 => wf n :: stW wf n
def setL (k : Int) : List Int → List Cn → List Int × List Cn
  | [], ns => ([], ns)
  | x :: st, ns => if x ≤ k then setL k st (ns ++ [⟨x, 0, 0, 0, 0⟩]) else (x :: st, ns)
theorem set_stk (k : Int) (wf : Nat → Int) : ∀ (m : Nat) (ns : List Cn), setL k (stW wf m) ns = (stW wf (setF k wf m ns).1, (setF k wf m ns).2)
  | 0, ns => rfl
  | m + 1, ns => by
    show setL k (wf m :: stW wf m) ns = _
    unfold setL setF
    split
    · exact set_stk k wf m _
    · rfl
theorem stk_congr {wf wg : Nat → Int} : ∀ {n : Nat}, (∀ j, j < n → wf j = wg j) → stW wf n = stW wg n
  | 0, _ => rfl
  | n + 1, h => by unfold stW; rw [h n (by omega), stk_congr fun j hj => h j (by omega)]
theorem stk_upd (wf : Nat → Int) (m : Nat) (x : Int) : stW (updW wf m x) (m + 1) = x :: stW wf m := by
  show updW wf m x m :: stW (updW wf m x) m = _
  rw [updW_1, stk_congr fun j hj => updW_l hj]
theorem stk_tail (wf : Nat → Int) (n : Nat) : stW wf (n - 1) = (stW wf n).tail := by cases n <;> rfl
section
variable {ws : List Tk} {rs : List (List UInt8)} {z y : Cs}
theorem outB_E (h : COK ws z) : ouB ws rs z = ouE ws rs (coY ws rs z) := by
  obtain ⟨r1, r2, r3, r4, r5⟩ := coR_ok (rs := rs) h.le h.op h.sm
  unfold ouB ouE
  rw [← coR_enR]
  conv => lhs; unfold coF
  cases hc : (coR ws rs z).1 with
  | false => rw [if_neg (by decide), if_neg (by decide)]
  | true =>
    obtain ⟨k1, k2⟩ := r3 hc
    rw [if_pos rfl, if_pos rfl]
    have hl := h.le
    show _ = finC ws (coF ws rs (ws.length - (coR ws rs z).2.s.p + 1) (coR ws rs z).2)
    rw [coF_fuel (ws.length - z.s.p) (ws.length - (coR ws rs z).2.s.p + 1) _ r1 r5 k2 (by omega) (by omega)]
def zN (ws : List Tk) (z : Cs) : Cs := ⟨⟨tkK ws z.s.p [126], z.s.e, z.s.a⟩, z.ns, z.m + 1, updW z.wf z.m 3, z.op⟩
def zO (ws : List Tk) (z : Cs) : Cs := ⟨⟨tkK ws (tkK ws z.s.p [126]) [40], z.s.e, z.s.a⟩, z.ns, z.m + 1, updW z.wf z.m 6, z.op + 1⟩
theorem zN_ok (h : COK ws z) (ht : tkB ws z.s.p [126] = true) : COK ws (zN ws z) := by
  have h1 := tk_lt9 ht
  have h2 := tkK_y ht
  have h3 := h.sm
  refine ⟨by show tkK ws z.s.p [126] ≤ _; omega, ?_, by show z.ns.length + (z.m + 1) ≤ 2 * tkK ws z.s.p [126]; omega⟩
  show z.op = ((brk (updW z.wf z.m 3) (z.m + 1) : Nat) : Int)
  rw [brk_upd, if_pos (by decide)]; exact h.op
theorem zO_ok (h : COK ws z) (ht : tkB ws z.s.p [126] = false) (ho : tkB ws (tkK ws z.s.p [126]) [40] = true) : COK ws (zO ws z) := by
  have h1 := tk_lt9 ho
  have h2 := tkK_y ho
  have h4 := tkK_n ht
  have h3 := h.sm
  refine ⟨by show tkK ws (tkK ws z.s.p [126]) [40] ≤ _; omega, ?_, by show z.ns.length + (z.m + 1) ≤ 2 * tkK ws (tkK ws z.s.p [126]) [40]; omega⟩
  show z.op + 1 = ((brk (updW z.wf z.m 6) (z.m + 1) : Nat) : Int)
  rw [brk_upd, if_neg (by decide)]; have := h.op; omega
theorem stepN (h : COK ws z) (ht : tkB ws z.s.p [126] = true) : ouB ws rs z = ouB ws rs (zN ws z) := by
  rw [outB_E h, outB_E (zN_ok h ht)]
  have hb : coB ws z = coB ws (zN ws z) := by
    have h1 := tk_lt9 ht
    have h2 := tkK_y ht
    show begF ws (ws.length - z.s.p + 1) _ = begF ws (ws.length - tkK ws z.s.p [126] + 1) _
    rw [show ws.length - tkK ws z.s.p [126] + 1 = ws.length - z.s.p by omega]
    conv => lhs; unfold begF
    rw [if_pos (show tkB ws (⟨z.s.p, z.m, z.wf, z.op⟩ : Bg).p [126] = true from ht)]; rfl
  unfold coY coL coN coS1; rw [hb]; rfl
theorem stepO (h : COK ws z) (ht : tkB ws z.s.p [126] = false) (ho : tkB ws (tkK ws z.s.p [126]) [40] = true) : ouB ws rs z = ouB ws rs (zO ws z) := by
  rw [outB_E h, outB_E (zO_ok h ht ho)]
  have hb : coB ws z = coB ws (zO ws z) := by
    have h1 := tk_lt9 ho
    have h2 := tkK_y ho
    have h3 := tkK_n ht
    show begF ws (ws.length - z.s.p + 1) _ = begF ws (ws.length - tkK ws (tkK ws z.s.p [126]) [40] + 1) _
    rw [show ws.length - tkK ws (tkK ws z.s.p [126]) [40] + 1 = ws.length - z.s.p by omega]
    conv => lhs; unfold begF
    rw [if_neg (show ¬ tkB ws (⟨z.s.p, z.m, z.wf, z.op⟩ : Bg).p [126] = true from bne ht), if_pos (show tkB ws (tkK ws (⟨z.s.p, z.m, z.wf, z.op⟩ : Bg).p [126]) [40] = true from ho)]; rfl
  unfold coY coL coN coS1; rw [hb]; rfl
def yL (ws : List Tk) (rs : List (List UInt8)) (z : Cs) : Cs := ⟨leA ws ⟨tkK ws (tkK ws z.s.p [126]) [40], z.s.e, z.s.a⟩ rs, z.ns ++ [leC ws ⟨tkK ws (tkK ws z.s.p [126]) [40], z.s.e, z.s.a⟩ rs], z.m, z.wf, z.op⟩
theorem stepL (h : COK ws z) (ht : tkB ws z.s.p [126] = false) (ho : tkB ws (tkK ws z.s.p [126]) [40] = false) : ouB ws rs z = ouE ws rs (yL ws rs z) := by
  rw [outB_E h]
  have hb : coB ws z = ⟨tkK ws (tkK ws z.s.p [126]) [40], z.m, z.wf, z.op⟩ := by
    unfold coB begF
    rw [if_neg (show ¬ tkB ws (⟨z.s.p, z.m, z.wf, z.op⟩ : Bg).p [126] = true from bne ht), if_neg (show ¬ tkB ws (tkK ws (⟨z.s.p, z.m, z.wf, z.op⟩ : Bg).p [126]) [40] = true from bne ho)]
  unfold coY coL coN coS1; rw [hb]; rfl
def yC (ws : List Tk) (y : Cs) : Cs := ⟨⟨tkK ws y.s.p [41], y.s.e, y.s.a⟩, (setF 5 y.wf y.m y.ns).2, ((((setF 5 y.wf y.m y.ns).1 : Nat) : Int) - 1).toNat, y.wf, y.op - 1⟩
theorem stepC (ho : y.op > 0) (ht : tkB ws y.s.p [41] = true) : ouE ws rs y = ouE ws rs (yC ws y) := by
  have hb : enE ws y = enE ws (yC ws y) := by
    have h1 := tk_lt9 ht
    have h2 := tkK_y ht
    show endF ws y.wf (ws.length - y.s.p + 1) _ = endF ws y.wf (ws.length - tkK ws y.s.p [41] + 1) _
    rw [show ws.length - tkK ws y.s.p [41] + 1 = ws.length - y.s.p by omega]
    conv => lhs; unfold endF
    rw [if_pos (show (⟨y.s.p, y.ns, y.m, y.op⟩ : Eg).op > 0 from ho), if_pos (show tkB ws (⟨y.s.p, y.ns, y.m, y.op⟩ : Eg).p [41] = true from ht)]; rfl
  unfold ouE enR enJ; rw [hb]; rfl
theorem yC_ok (h : COK ws y) (ho : y.op > 0) (ht : tkB ws y.s.p [41] = true) : COK ws (yC ws y) := by
  have h1 := tk_lt9 ht
  have h2 := tkK_y ht
  have h3 := h.op
  have h4 := h.sm
  obtain ⟨b1, b2⟩ := brk_pop (wf := y.wf) (n := y.m) (ns := y.ns) (by omega)
  have b3 := set_add 5 y.wf y.m y.ns
  refine ⟨by show tkK ws y.s.p [41] ≤ _; omega, ?_, by show (setF 5 y.wf y.m y.ns).2.length + ((((setF 5 y.wf y.m y.ns).1 : Nat) : Int) - 1).toNat ≤ 2 * tkK ws y.s.p [41]; omega⟩
  show y.op - 1 = ((brk y.wf ((((setF 5 y.wf y.m y.ns).1 : Nat) : Int) - 1).toNat : Nat) : Int)
  rw [show ((((setF 5 y.wf y.m y.ns).1 : Nat) : Int) - 1).toNat = (setF 5 y.wf y.m y.ns).1 - 1 by omega]; omega
theorem enE_no (h : ¬ (y.op > 0 ∧ tkB ws y.s.p [41] = true)) : enE ws y = ⟨y.s.p, y.ns, y.m, y.op⟩ := by
  unfold enE endF
  by_cases ho : y.op > 0
  · have ht : tkB ws y.s.p [41] = false := by
      cases hh : tkB ws y.s.p [41] with
      | true => exact absurd ⟨ho, hh⟩ h
      | false => rfl
    rw [if_pos (show (⟨y.s.p, y.ns, y.m, y.op⟩ : Eg).op > 0 from ho), if_neg (show ¬ tkB ws (⟨y.s.p, y.ns, y.m, y.op⟩ : Eg).p [41] = true from bne ht)]
    show (⟨tkK ws y.s.p [41], y.ns, y.m, y.op⟩ : Eg) = _
    rw [tkK_n ht]
  · rw [if_neg (show ¬ (⟨y.s.p, y.ns, y.m, y.op⟩ : Eg).op > 0 from ho)]
def zJ (ws : List Tk) (k : Int) (m : List UInt8) (y : Cs) : Cs := ⟨⟨tkK ws y.s.p m, y.s.e, y.s.a⟩, (setF k y.wf y.m y.ns).2, (setF k y.wf y.m y.ns).1 + 1, updW y.wf (setF k y.wf y.m y.ns).1 k, y.op⟩
theorem zJ_ok {k : Int} {m : List UInt8} (h : COK ws y) (hk : k ≤ 5) (ht : tkB ws y.s.p m = true) : COK ws (zJ ws k m y) := by
  have h1 := tk_lt9 ht
  have h2 := tkK_y ht
  have h3 := h.sm
  have b3 := set_add k y.wf y.m y.ns
  refine ⟨by show tkK ws y.s.p m ≤ _; omega, ?_, by show (setF k y.wf y.m y.ns).2.length + ((setF k y.wf y.m y.ns).1 + 1) ≤ 2 * tkK ws y.s.p m; omega⟩
  show y.op = ((brk (updW y.wf (setF k y.wf y.m y.ns).1 k) ((setF k y.wf y.m y.ns).1 + 1) : Nat) : Int)
  rw [brk_upd, if_pos hk, brk_setk hk]; exact h.op
theorem tk_two {k : Nat} {m l : List UInt8} (h : tkB ws k m = true) (hn : m ≠ l) : tkB ws k l = false := by
  unfold tkB at h ⊢
  rw [Bool.and_eq_true, Bool.and_eq_true] at h
  rw [beq_iff_eq.1 h.2.2, beq_eq_false_iff_ne.2 hn, Bool.and_false, Bool.and_false]
theorem stepA (ht : tkB ws y.s.p [47, 92] = true) : ouE ws rs y = ouB ws rs (zJ ws 4 [47, 92] y) := by
  have hE := enE_no (ws := ws) (y := y) (fun h => by rw [tk_two ht (by decide)] at h; cases h.2)
  unfold ouE enR enJ
  rw [hE]
  unfold joF
  rw [if_pos (show tkB ws (⟨y.s.p, y.ns, y.m, y.op⟩ : Eg).p [47, 92] = true from ht)]; rfl
theorem stepOr (ht : tkB ws y.s.p [92, 47] = true) : ouE ws rs y = ouB ws rs (zJ ws 5 [92, 47] y) := by
  have hE := enE_no (ws := ws) (y := y) (fun h => by rw [tk_two ht (by decide)] at h; cases h.2)
  have hn : tkB ws y.s.p [47, 92] = false := tk_two ht (by decide)
  have hk := tkK_n hn
  unfold ouE enR enJ
  rw [hE]
  unfold joF
  rw [if_neg (show ¬ tkB ws (⟨y.s.p, y.ns, y.m, y.op⟩ : Eg).p [47, 92] = true from bne hn), if_pos (show tkB ws (tkK ws (⟨y.s.p, y.ns, y.m, y.op⟩ : Eg).p [47, 92]) [92, 47] = true by show tkB ws (tkK ws y.s.p [47, 92]) [92, 47] = true; rw [hk]; exact ht)]
  show ouB ws rs ⟨⟨tkK ws (tkK ws y.s.p [47, 92]) [92, 47], y.s.e, y.s.a⟩, _, _, _, _⟩ = _
  rw [hk]; rfl
theorem stepF (h : ¬ (y.op > 0 ∧ tkB ws y.s.p [41] = true)) (h1 : tkB ws y.s.p [47, 92] = false) (h2 : tkB ws y.s.p [92, 47] = false) : ouE ws rs y = finC ws y := by
  have hE := enE_no h
  have hk := tkK_n h1
  have hk2 := tkK_n h2
  unfold ouE enR enJ
  rw [hE]
  unfold joF
  rw [if_neg (show ¬ tkB ws (⟨y.s.p, y.ns, y.m, y.op⟩ : Eg).p [47, 92] = true from bne h1), if_neg (show ¬ tkB ws (tkK ws (⟨y.s.p, y.ns, y.m, y.op⟩ : Eg).p [47, 92]) [92, 47] = true by show ¬ tkB ws (tkK ws y.s.p [47, 92]) [92, 47] = true; rw [hk]; exact bne h2)]
  show finC ws ⟨⟨tkK ws (tkK ws y.s.p [47, 92]) [92, 47], y.s.e, y.s.a⟩, y.ns, y.m, y.wf, y.op⟩ = _
  rw [hk, hk2]
theorem fin_bad (h : z.s.e ≠ 0) : (finC ws z).1.e = z.s.e ∧ (finC ws z).1.a = z.s.a := by
  unfold finC endA
  cases decide (z.op > 0)
  · show (if z.s.p < ws.length then refA ws z.s 25 else z.s).e = _ ∧ (if z.s.p < ws.length then refA ws z.s 25 else z.s).a = _
    rw [kp_ref h]; split <;> exact ⟨rfl, rfl⟩
  · show (if (refA ws z.s 22).p < ws.length then refA ws (refA ws z.s 22) 25 else refA ws z.s 22).e = _ ∧ (if (refA ws z.s 22).p < ws.length then refA ws (refA ws z.s 22) 25 else refA ws z.s 22).a = _
    rw [kp_ref h, kp_ref h]; split <;> exact ⟨rfl, rfl⟩
theorem coF_bad : ∀ (f : Nat) (z : Cs), z.s.e ≠ 0 → (coF ws rs f z).s.e = z.s.e ∧ (coF ws rs f z).s.a = z.s.a
  | 0, z, h => ⟨rfl, rfl⟩
  | f + 1, z, h => by
    have h1 := kp_le (ws := ws) (rs := rs) (x := coS1 ws z) h
    have e1 : (coR ws rs z).2.s.e = z.s.e := h1.1
    have a1 : (coR ws rs z).2.s.a = z.s.a := h1.2
    unfold coF
    split
    · have h2 := coF_bad f (coR ws rs z).2 (by rw [e1]; exact h)
      exact ⟨h2.1.trans e1, h2.2.trans a1⟩
    · exact ⟨e1, a1⟩
theorem ouB_bad (h : z.s.e ≠ 0) : (ouB ws rs z).1.e = z.s.e ∧ (ouB ws rs z).1.a = z.s.a := by
  have h1 := coF_bad (ws := ws) (rs := rs) (ws.length - z.s.p + 1) z h
  have h2 := fin_bad (ws := ws) (z := coF ws rs (ws.length - z.s.p + 1) z) (by rw [h1.1]; exact h)
  exact ⟨h2.1.trans h1.1, h2.2.trans h1.2⟩
theorem ouE_bad (h : y.s.e ≠ 0) : (ouE ws rs y).1.e = y.s.e ∧ (ouE ws rs y).1.a = y.s.a := by
  unfold ouE; split
  · exact ouB_bad (z := (enR ws y).2) h
  · exact fin_bad (z := (enR ws y).2) h
end
abbrev FT := Old.Rs → List Cn → Old.Rs × List Cn
def cN (k : Int) : Cn := ⟨k, 0, 0, 0, 0⟩
def Wr (o : As × List Cn) (s : Old.Rs) : Prop := o.1.e = s.e ∧ o.1.a = s.a
structure GoN (ws : List Tk) (rs : List (List UInt8)) (z : Cs) (r : Old.Rs × List Cn) (y : Cs) (j : Nat) : Prop where
  out : ouB ws rs z = ouE ws rs y
  s : y.s = aO r.1
  st : stW y.wf y.m = List.replicate j 3 ++ stW z.wf z.m
  ns : r.2 = y.ns ++ List.replicate j (cN 3)
  op : y.op = z.op
  ok : COK ws y
def PartN (ws : List Tk) (rs : List (List UInt8)) (b : Nat) (f : FT) : Prop := ∀ (s : Old.Rs) (ns : List Cn) (z : Cs), s.e = 0 → b ≤ s.p → z.s = aO s → z.ns = ns → COK ws z →
  ((f s ns).1.e ≠ 0 → Wr (ouB ws rs z) (f s ns).1) ∧ ((f s ns).1.e = 0 → ∃ y j, GoN ws rs z (f s ns) y j)
structure GoK (ws : List Tk) (rs : List (List UInt8)) (k : Int) (o : As × List Cn) (op : Int) (st : List Int) (r : Old.Rs × List Cn) (y : Cs) : Prop where
  out : o = ouE ws rs y
  s : y.s = aO r.1
  st : setL k (stW y.wf y.m) y.ns = (st, r.2)
  op : y.op = op
  ok : COK ws y
  an : tkB ws r.1.p [47, 92] = false
  or : k = 5 → tkB ws r.1.p [92, 47] = false
def top (k : Int) (st : List Int) : Prop := ∀ x l, st = x :: l → ¬ x ≤ k
def PartK (ws : List Tk) (rs : List (List UInt8)) (k : Int) (b : Nat) (f : FT) : Prop := ∀ (s : Old.Rs) (ns : List Cn) (z : Cs), s.e = 0 → b ≤ s.p → z.s = aO s → z.ns = ns → COK ws z → top k (stW z.wf z.m) →
  ((f s ns).1.e ≠ 0 → Wr (ouB ws rs z) (f s ns).1) ∧ ((f s ns).1.e = 0 → ∃ y, GoK ws rs k (ouB ws rs z) z.op (stW z.wf z.m) (f s ns) y)
section
variable {ws : List Tk} {rs : List (List UInt8)} {rf : List UInt8 → Int} {k : Int} {b : Nat} {f : FT} {st : List Int} {ns l : List Cn}
theorem setL_top (h : top k st) : setL k st ns = (st, ns) := by
  cases st with
  | nil => rfl
  | cons x t => unfold setL; rw [if_neg (h x t rfl)]
theorem setL_rep (hk : 3 ≤ k) : ∀ (j : Nat) (ns : List Cn), setL k (List.replicate j 3 ++ st) ns = setL k st (ns ++ List.replicate j (cN 3))
  | 0, ns => by rw [List.replicate_zero, List.replicate_zero, List.nil_append, List.append_nil]
  | j + 1, ns => by
    rw [List.replicate_succ, List.cons_append]
    show (if (3 : Int) ≤ k then _ else _) = _
    rw [if_pos hk, setL_rep hk j, List.append_assoc, List.replicate_succ]; rfl
theorem setL_one {x : Int} (h : x ≤ k) : setL k (x :: st) ns = setL k st (ns ++ [cN x]) := by
  show (if x ≤ k then _ else _) = _
  rw [if_pos h]; rfl
theorem setL_45 : ∀ (st : List Int) (ns : List Cn), setL 5 st ns = setL 5 (setL 4 st ns).1 (setL 4 st ns).2
  | [], ns => rfl
  | x :: t, ns => by
    by_cases h : x ≤ 4
    · rw [setL_one h, setL_one (show x ≤ 5 by omega)]; exact setL_45 t _
    · rw [show setL 4 (x :: t) ns = (x :: t, ns) by unfold setL; rw [if_neg h]]
theorem loR_bad {m : List UInt8} {s : Old.Rs} (h : s.e ≠ 0) : ∀ g, loR ws m k f g s ns = (s, ns)
  | 0 => rfl
  | g + 1 => by unfold loR; rw [if_neg h]
theorem zJ_st {m : List UInt8} {y : Cs} {r : List Cn} (h : setL k (stW y.wf y.m) y.ns = (st, r)) : stW (zJ ws k m y).wf (zJ ws k m y).m = k :: st ∧ (zJ ws k m y).ns = r := by
  rw [set_stk] at h
  have h1 : stW y.wf (setF k y.wf y.m y.ns).1 = st := congrArg Prod.fst h
  have h2 : (setF k y.wf y.m y.ns).2 = r := congrArg Prod.snd h
  refine ⟨?_, h2⟩
  show stW (updW y.wf (setF k y.wf y.m y.ns).1 k) ((setF k y.wf y.m y.ns).1 + 1) = _
  rw [stk_upd, h1]
theorem zJ_s {m : List UInt8} {y : Cs} {s : Old.Rs} (h : y.s = aO s) : (zJ ws k m y).s = aO ⟨s.e, s.a, tkK ws s.p m⟩ := by
  show (⟨tkK ws y.s.p m, y.s.e, y.s.a⟩ : As) = _
  rw [h]; rfl
theorem top_cons {x : Int} {t : List Int} (h : ¬ x ≤ k) : top k (x :: t) := fun y l e => by cases e; exact h
theorem loop_and (hf : PartN ws rs b f) (hg : Gdf ws f) (o : As × List Cn) (op : Int) (ht : top 4 st) : ∀ (g : Nat) (s : Old.Rs) (l : List Cn) (y : Cs), s.e = 0 → b ≤ s.p → ws.length - s.p < g → o = ouE ws rs y → y.s = aO s → setL 4 (stW y.wf y.m) y.ns = (st, l) → y.op = op → COK ws y →
    ((loR ws [47, 92] 4 f g s l).1.e ≠ 0 → Wr o (loR ws [47, 92] 4 f g s l).1) ∧ ((loR ws [47, 92] 4 f g s l).1.e = 0 → ∃ y', GoK ws rs 4 o op st (loR ws [47, 92] 4 f g s l) y')
  | 0, s, l, y, h0, hb, hl, ho, hs, hst, hop, hok => by omega
  | g + 1, s, l, y, h0, hb, hl, ho, hs, hst, hop, hok => by
    have hsp : y.s.p = s.p := by rw [hs]; rfl
    cases hm : tkB ws s.p [47, 92] with
    | false =>
      have e : loR ws [47, 92] 4 f (g + 1) s l = (s, l) := by unfold loR; rw [if_pos h0, if_neg (bne hm), tkK_n hm]
      rw [e]
      exact ⟨fun h => absurd h0 h, fun _ => ⟨y, ho, hs, hst, hop, hok, hm, fun h => absurd h (by decide)⟩⟩
    | true =>
      have hlt := tk_lt9 hm
      have hkk := tkK_y hm
      have hmy : tkB ws y.s.p [47, 92] = true := by rw [hsp]; exact hm
      have e : loR ws [47, 92] 4 f (g + 1) s l = loR ws [47, 92] 4 f g (f ⟨s.e, s.a, tkK ws s.p [47, 92]⟩ l).1 (putN (f ⟨s.e, s.a, tkK ws s.p [47, 92]⟩ l).1 (f ⟨s.e, s.a, tkK ws s.p [47, 92]⟩ l).2 (cN 4)) := by
        conv => lhs; unfold loR
        rw [if_pos h0, if_pos hm]; rfl
      rw [e]
      obtain ⟨z1, z2⟩ := zJ_st (ws := ws) (m := [47, 92]) hst
      obtain ⟨a1, a2, a3⟩ := hg ⟨s.e, s.a, tkK ws s.p [47, 92]⟩ l (show tkK ws s.p [47, 92] ≤ ws.length by omega)
      have a1 : tkK ws s.p [47, 92] ≤ _ := a1
      obtain ⟨p1, p2⟩ := hf ⟨s.e, s.a, tkK ws s.p [47, 92]⟩ l (zJ ws 4 [47, 92] y) h0 (show b ≤ tkK ws s.p [47, 92] by omega) (zJ_s hs) z2 (zJ_ok hok (by decide) hmy)
      have ho2 : o = ouB ws rs (zJ ws 4 [47, 92] y) := ho.trans (stepA hmy)
      by_cases he : (f ⟨s.e, s.a, tkK ws s.p [47, 92]⟩ l).1.e = 0
      · obtain ⟨y', j, q⟩ := p2 he
        have hst' : setL 4 (stW y'.wf y'.m) y'.ns = (st, putN (f ⟨s.e, s.a, tkK ws s.p [47, 92]⟩ l).1 (f ⟨s.e, s.a, tkK ws s.p [47, 92]⟩ l).2 (cN 4)) := by
          rw [q.st, z1, setL_rep (by decide), setL_one (by decide), setL_top ht, putN_y he, q.ns]
        exact loop_and hf hg o op ht g _ _ y' he (by omega) (by omega) (ho2.trans q.out) q.s hst' (q.op.trans hop) q.ok
      · rw [loR_bad he]
        exact ⟨fun h => by rw [ho2]; exact p1 he, fun h => absurd h he⟩
theorem part_and (hf : PartN ws rs b f) (hg : Gdf ws f) : PartK ws rs 4 b (anF ws f) := by
  intro s ns z h0 hb hs hn hok ht
  obtain ⟨p1, p2⟩ := hf s ns z h0 hb hs hn hok
  obtain ⟨a1, a2, a3⟩ := hg s ns (by have := hok.le; rw [hs] at this; exact this)
  show ((loR ws [47, 92] 4 f (ws.length + 1) (f s ns).1 (f s ns).2).1.e ≠ 0 → _) ∧ ((loR ws [47, 92] 4 f (ws.length + 1) (f s ns).1 (f s ns).2).1.e = 0 → _)
  by_cases he : (f s ns).1.e = 0
  · obtain ⟨y, j, q⟩ := p2 he
    exact loop_and hf hg (ouB ws rs z) z.op ht (ws.length + 1) _ _ y he (by omega) (by omega) q.out q.s (by rw [q.st, setL_rep (by decide), setL_top ht, q.ns]) q.op q.ok
  · have e : anF ws f s ns = ((f s ns).1, (f s ns).2) := loR_bad he _
    rw [e, loR_bad he]
    exact ⟨fun h => p1 he, fun h => absurd h he⟩
theorem loop_or (hf : PartK ws rs 4 b f) (hg : Gdf ws f) (o : As × List Cn) (op : Int) (ht : top 5 st) : ∀ (g : Nat) (s : Old.Rs) (l : List Cn) (y : Cs), s.e = 0 → b ≤ s.p → ws.length - s.p < g → o = ouE ws rs y → y.s = aO s → setL 5 (stW y.wf y.m) y.ns = (st, l) → y.op = op → COK ws y → tkB ws s.p [47, 92] = false →
    ((loR ws [92, 47] 5 f g s l).1.e ≠ 0 → Wr o (loR ws [92, 47] 5 f g s l).1) ∧ ((loR ws [92, 47] 5 f g s l).1.e = 0 → ∃ y', GoK ws rs 5 o op st (loR ws [92, 47] 5 f g s l) y')
  | 0, s, l, y, h0, hb, hl, ho, hs, hst, hop, hok, han => by omega
  | g + 1, s, l, y, h0, hb, hl, ho, hs, hst, hop, hok, han => by
    have hsp : y.s.p = s.p := by rw [hs]; rfl
    cases hm : tkB ws s.p [92, 47] with
    | false =>
      have e : loR ws [92, 47] 5 f (g + 1) s l = (s, l) := by unfold loR; rw [if_pos h0, if_neg (bne hm), tkK_n hm]
      rw [e]
      exact ⟨fun h => absurd h0 h, fun _ => ⟨y, ho, hs, hst, hop, hok, han, fun _ => hm⟩⟩
    | true =>
      have hlt := tk_lt9 hm
      have hkk := tkK_y hm
      have hmy : tkB ws y.s.p [92, 47] = true := by rw [hsp]; exact hm
      have e : loR ws [92, 47] 5 f (g + 1) s l = loR ws [92, 47] 5 f g (f ⟨s.e, s.a, tkK ws s.p [92, 47]⟩ l).1 (putN (f ⟨s.e, s.a, tkK ws s.p [92, 47]⟩ l).1 (f ⟨s.e, s.a, tkK ws s.p [92, 47]⟩ l).2 (cN 5)) := by
        conv => lhs; unfold loR
        rw [if_pos h0, if_pos hm]; rfl
      rw [e]
      obtain ⟨z1, z2⟩ := zJ_st (ws := ws) (m := [92, 47]) hst
      obtain ⟨a1, a2, a3⟩ := hg ⟨s.e, s.a, tkK ws s.p [92, 47]⟩ l (show tkK ws s.p [92, 47] ≤ ws.length by omega)
      have a1 : tkK ws s.p [92, 47] ≤ _ := a1
      obtain ⟨p1, p2⟩ := hf ⟨s.e, s.a, tkK ws s.p [92, 47]⟩ l (zJ ws 5 [92, 47] y) h0 (show b ≤ tkK ws s.p [92, 47] by omega) (zJ_s hs) z2 (zJ_ok hok (by decide) hmy) (by rw [z1]; exact top_cons (by decide))
      have ho2 : o = ouB ws rs (zJ ws 5 [92, 47] y) := ho.trans (stepOr hmy)
      by_cases he : (f ⟨s.e, s.a, tkK ws s.p [92, 47]⟩ l).1.e = 0
      · obtain ⟨y', q⟩ := p2 he
        have hst' : setL 5 (stW y'.wf y'.m) y'.ns = (st, putN (f ⟨s.e, s.a, tkK ws s.p [92, 47]⟩ l).1 (f ⟨s.e, s.a, tkK ws s.p [92, 47]⟩ l).2 (cN 5)) := by
          rw [setL_45, q.st, z1, setL_one (by decide), setL_top ht, putN_y he]
        exact loop_or hf hg o op ht g _ _ y' he (by omega) (by omega) (ho2.trans q.out) q.s hst' (q.op.trans hop) q.ok q.an
      · rw [loR_bad he]
        exact ⟨fun h => by rw [ho2]; exact p1 he, fun h => absurd h he⟩
theorem top_54 (h : top 5 st) : top 4 st := fun x l e => by have := h x l e; omega
theorem part_or (hf : PartK ws rs 4 b f) (hg : Gdf ws f) : PartK ws rs 5 b (joR ws [92, 47] 5 f) := by
  intro s ns z h0 hb hs hn hok ht
  obtain ⟨p1, p2⟩ := hf s ns z h0 hb hs hn hok (top_54 ht)
  obtain ⟨a1, a2, a3⟩ := hg s ns (by have := hok.le; rw [hs] at this; exact this)
  show ((loR ws [92, 47] 5 f (ws.length + 1) (f s ns).1 (f s ns).2).1.e ≠ 0 → _) ∧ ((loR ws [92, 47] 5 f (ws.length + 1) (f s ns).1 (f s ns).2).1.e = 0 → _)
  by_cases he : (f s ns).1.e = 0
  · obtain ⟨y, q⟩ := p2 he
    exact loop_or hf hg (ouB ws rs z) z.op ht (ws.length + 1) _ _ y he (by omega) (by omega) q.out q.s (by rw [setL_45, q.st, setL_top ht]) q.op q.ok q.an
  · have e : joR ws [92, 47] 5 f s ns = ((f s ns).1, (f s ns).2) := loR_bad he _
    rw [e, loR_bad he]
    exact ⟨fun h => p1 he, fun h => absurd h he⟩
end
section
variable {ws : List Tk} {rs : List (List UInt8)} {rf : List UInt8 → Int} {b : Nat} {fN fO : FT}
theorem part_not (hw : WsOK ws) (hm : Mi ws) (hr : ∀ q, rf q = idxS rs q) {s : Old.Rs} {ns : List Cn} {z : Cs} (hN : PartN ws rs (s.p + 1) fN) (hO : PartK ws rs 5 (s.p + 1) fO) (gO : Gdf ws fO) (h0 : s.e = 0) (hs : z.s = aO s) (hn : z.ns = ns) (hok : COK ws z) :
    ((noR rf ws fN fO s ns).1.e ≠ 0 → Wr (ouB ws rs z) (noR rf ws fN fO s ns).1) ∧ ((noR rf ws fN fO s ns).1.e = 0 → ∃ y j, GoN ws rs z (noR rf ws fN fO s ns) y j) := by
  have hsp : z.s.p = s.p := by rw [hs]; rfl
  have hle := hok.le
  cases h1 : tkB ws s.p [126] with
  | true =>
    have h1z : tkB ws z.s.p [126] = true := by rw [hsp]; exact h1
    have hkk := tkK_y h1
    rw [no_1 h0 h1]
    obtain ⟨p1, p2⟩ := hN ⟨s.e, s.a, tkK ws s.p [126]⟩ ns (zN ws z) h0 (show s.p + 1 ≤ tkK ws s.p [126] by omega) (by show (⟨tkK ws z.s.p [126], z.s.e, z.s.a⟩ : As) = _; rw [hs]; rfl) hn (zN_ok hok h1z)
    have ho : ouB ws rs z = ouB ws rs (zN ws z) := stepN hok h1z
    refine ⟨fun h => by rw [ho]; exact p1 h, fun h => ?_⟩
    obtain ⟨y, j, q⟩ := p2 h
    have h : (fN ⟨s.e, s.a, tkK ws s.p [126]⟩ ns).1.e = 0 := h
    refine ⟨y, j + 1, ho.trans q.out, q.s, ?_, ?_, q.op, q.ok⟩
    · rw [q.st, show stW (zN ws z).wf (zN ws z).m = 3 :: stW z.wf z.m from stk_upd _ _ _, List.replicate_succ', List.append_assoc]; rfl
    · show putN (fN ⟨s.e, s.a, tkK ws s.p [126]⟩ ns).1 _ _ = _
      rw [putN_y h, q.ns, List.replicate_succ', List.append_assoc]; rfl
  | false =>
    have h1z : tkB ws z.s.p [126] = false := by rw [hsp]; exact h1
    have hk1 := tkK_n h1
    cases h2 : tkB ws (tkK ws s.p [126]) [40] with
    | true =>
      have h2z : tkB ws (tkK ws z.s.p [126]) [40] = true := by rw [hsp]; exact h2
      have hk2 := tkK_y h2
      have hl2 := tk_lt9 h2
      rw [no_2 h0 h1 h2]
      have hst : stW (zO ws z).wf (zO ws z).m = 6 :: stW z.wf z.m := stk_upd _ _ _
      obtain ⟨p1, p2⟩ := hO ⟨s.e, s.a, tkK ws (tkK ws s.p [126]) [40]⟩ ns (zO ws z) h0 (show s.p + 1 ≤ tkK ws (tkK ws s.p [126]) [40] by omega) (by show (⟨tkK ws (tkK ws z.s.p [126]) [40], z.s.e, z.s.a⟩ : As) = _; rw [hs]; rfl) hn (zO_ok hok h1z h2z) (by rw [hst]; exact top_cons (by decide))
      have ho : ouB ws rs z = ouB ws rs (zO ws z) := stepO hok h1z h2z
      by_cases he : (fO ⟨s.e, s.a, tkK ws (tkK ws s.p [126]) [40]⟩ ns).1.e = 0
      · obtain ⟨y, q⟩ := p2 he
        have hop : y.op = z.op + 1 := q.op
        have hpos : y.op > 0 := by rw [hop, hok.op]; omega
        have hyp : y.s.p = (fO ⟨s.e, s.a, tkK ws (tkK ws s.p [126]) [40]⟩ ns).1.p := by rw [q.s]; rfl
        have qst := q.st
        rw [set_stk, hst] at qst
        have s1 : stW y.wf (setF 5 y.wf y.m y.ns).1 = 6 :: stW z.wf z.m := congrArg Prod.fst qst
        have s2 : (setF 5 y.wf y.m y.ns).2 = (fO ⟨s.e, s.a, tkK ws (tkK ws s.p [126]) [40]⟩ ns).2 := congrArg Prod.snd qst
        cases h3 : tkB ws (fO ⟨s.e, s.a, tkK ws (tkK ws s.p [126]) [40]⟩ ns).1.p [41] with
        | true =>
          have h3y : tkB ws y.s.p [41] = true := by rw [hyp]; exact h3
          rw [mark_y he h3]
          refine ⟨fun h => absurd he h, fun _ => ⟨yC ws y, 0, ?_, ?_, ?_, ?_, ?_, yC_ok q.ok hpos h3y⟩⟩
          · rw [ho, q.out, stepC hpos h3y]
          · show (⟨tkK ws y.s.p [41], y.s.e, y.s.a⟩ : As) = _
            rw [q.s]; rfl
          · show stW y.wf ((((setF 5 y.wf y.m y.ns).1 : Nat) : Int) - 1).toNat = _
            rw [show ((((setF 5 y.wf y.m y.ns).1 : Nat) : Int) - 1).toNat = (setF 5 y.wf y.m y.ns).1 - 1 by omega, stk_tail, s1]; rfl
          · show _ = (setF 5 y.wf y.m y.ns).2 ++ []
            rw [List.append_nil]; exact s2.symm
          · show y.op - 1 = z.op; omega
        | false =>
          have h3y : tkB ws y.s.p [41] = false := by rw [hyp]; exact h3
          rw [mark_n he h3, tkK_n h3]
          have qe := odd_ne (ws := ws) (u := false) (s := (fO ⟨s.e, s.a, tkK ws (tkK ws s.p [126]) [40]⟩ ns).1) he
          refine ⟨fun _ => ?_, fun h => absurd h qe⟩
          rw [ho, q.out, stepF (fun h => by rw [h3y] at h; cases h.2) (by rw [hyp]; exact q.an) (by rw [hyp]; exact q.or rfl)]
          have r := rel_odd (ws := ws) hw he
          have re : (refA ws y.s 22).e ≠ 0 := by rw [q.s, r.e]; exact qe
          unfold finC Wr endA
          rw [decide_eq_true hpos]
          show (if (refA ws y.s 22).p < ws.length then refA ws (refA ws y.s 22) 25 else refA ws y.s 22).e = _ ∧ (if (refA ws y.s 22).p < ws.length then refA ws (refA ws y.s 22) 25 else refA ws y.s 22).a = _
          rw [kp_ref re]
          have : (if (refA ws y.s 22).p < ws.length then refA ws y.s 22 else refA ws y.s 22) = refA ws y.s 22 := by split <;> rfl
          rw [this, q.s]; exact ⟨r.e, r.a⟩
      · rw [mark_s he]
        exact ⟨fun _ => by rw [ho]; exact p1 he, fun h => absurd h he⟩
    | false =>
      have h2z : tkB ws (tkK ws z.s.p [126]) [40] = false := by rw [hsp]; exact h2
      rw [no_3 h0 h1 h2]
      have hS : (⟨tkK ws (tkK ws z.s.p [126]) [40], z.s.e, z.s.a⟩ : As) = aO ⟨s.e, s.a, tkK ws (tkK ws s.p [126]) [40]⟩ := by rw [hs]; rfl
      have hk2 := tkK_n h2
      obtain ⟨r1, r2⟩ := rel_leaf (rf := rf) (rs := rs) (ns := ns) (s := ⟨s.e, s.a, tkK ws (tkK ws s.p [126]) [40]⟩) hw hm hr h0
      obtain ⟨a1, a2, a3⟩ := at_gd rf ws ⟨s.e, s.a, tkK ws (tkK ws s.p [126]) [40]⟩ ns (show tkK ws (tkK ws s.p [126]) [40] ≤ ws.length by omega)
      have a1 : tkK ws (tkK ws s.p [126]) [40] ≤ _ := a1
      have a3 : _ + tkK ws (tkK ws s.p [126]) [40] ≤ _ := a3
      have ho : ouB ws rs z = ouE ws rs (yL ws rs z) := stepL hok h1z h2z
      have hys : (yL ws rs z).s = leA ws (aO ⟨s.e, s.a, tkK ws (tkK ws s.p [126]) [40]⟩) rs := by unfold yL; rw [hS]
      refine ⟨fun h => ?_, fun h => ?_⟩
      · rw [ho]
        have := ouE_bad (ws := ws) (rs := rs) (y := yL ws rs z) (by rw [hys, r1.e]; exact h)
        exact ⟨this.1.trans (by rw [hys]; exact r1.e), this.2.trans (by rw [hys]; exact r1.a)⟩
      · have e2 := r2 h
        have hys2 := hys.trans (r1.eq h)
        have hyn : (yL ws rs z).ns = ns ++ [leC ws (aO ⟨s.e, s.a, tkK ws (tkK ws s.p [126]) [40]⟩) rs] := by unfold yL; rw [hS, hn]
        refine ⟨yL ws rs z, 0, ho, hys2, rfl, ?_, rfl, ?_⟩
        · rw [hyn, List.replicate_zero, List.append_nil]; exact e2
        · have e3 : (atZ rf ws ⟨s.e, s.a, tkK ws (tkK ws s.p [126]) [40]⟩ ns).2.length = ns.length + 1 := by rw [e2, List.length_append]; rfl
          have yp : (yL ws rs z).s.p = (atZ rf ws ⟨s.e, s.a, tkK ws (tkK ws s.p [126]) [40]⟩ ns).1.p := by rw [hys2]; rfl
          have yn : (yL ws rs z).ns.length = ns.length + 1 := by rw [hyn, List.length_append]; rfl
          have sm := hok.sm
          rw [hn] at sm
          exact ⟨by rw [yp]; exact a2, hok.op, by rw [yp, yn]; show ns.length + 1 + z.m ≤ _; omega⟩
theorem part_all (hw : WsOK ws) (hm : Mi ws) (hr : ∀ q, rf q = idxS rs q) : ∀ (f b : Nat), ws.length - b < f → PartN ws rs b (noF rf ws f)
  | 0, b, h => by omega
  | f + 1, b, h => by
    intro s ns z h0 hb hs hn hok
    have hN : PartN ws rs (s.p + 1) (noF rf ws f) := by
      by_cases hl : ws.length - (s.p + 1) < f
      · exact part_all hw hm hr f _ hl
      · intro s1 n1 z1 e1 b1 hs1 hn1 hok1
        have := hok1.le
        rw [hs1] at this
        have : s1.p ≤ ws.length := this
        exact absurd (show ws.length - (s.p + 1) < f by omega) hl
    exact part_not hw hm hr hN (part_or (part_and hN (noF_gd rf ws f)) (jo_gd (noF_gd rf ws f))) (or_gd (noF_gd rf ws f)) h0 hs hn hok
theorem cp_rp (hw : WsOK ws) (hm : Mi ws) (hr : ∀ q, rf q = idxS rs q) : (cpS ws rs).e = (rpS rf ws).e ∧ (cpS ws rs).a = (rpS rf ws).a ∧ ((rpS rf ws).e = 0 → cpN ws rs = rpN rf ws) := by
  have hN := part_all (rs := rs) hw hm hr (ws.length + 1) 0 (by omega)
  have hO := part_or (part_and hN (noF_gd rf ws _)) (jo_gd (noF_gd rf ws _))
  obtain ⟨p1, p2⟩ := hO ⟨0, 0, 0⟩ [] ⟨⟨0, 0, 0⟩, [], 0, fun _ => 0, 0⟩ rfl (Nat.le_refl _) rfl rfl ⟨Nat.zero_le _, rfl, Nat.le_refl _⟩ (fun x l e => by cases e)
  have hout : ouB ws rs ⟨⟨0, 0, 0⟩, [], 0, fun _ => 0, 0⟩ = (cpS ws rs, cpN ws rs) := rfl
  rw [hout] at p1 p2
  have p1 : (rpZ rf ws).1.e ≠ 0 → Wr (cpS ws rs, cpN ws rs) (rpZ rf ws).1 := p1
  by_cases he : (rpZ rf ws).1.e = 0
  · obtain ⟨y, q⟩ := p2 he
    have qs : y.s = aO (rpZ rf ws).1 := q.s
    have hop : y.op = 0 := q.op
    have hyp : y.s.p = (rpZ rf ws).1.p := by rw [qs]; rfl
    have ho := q.out
    rw [stepF (fun h => by rw [hop] at h; exact absurd h.1 (by decide)) (by rw [hyp]; exact q.an) (by rw [hyp]; exact q.or rfl)] at ho
    have qst := q.st
    rw [set_stk] at qst
    have s2 : (setF 5 y.wf y.m y.ns).2 = (rpZ rf ws).2 := congrArg Prod.snd qst
    have c1 : cpS ws rs = endA ws y.s := by
      have : cpS ws rs = (finC ws y).1 := congrArg Prod.fst ho
      rw [this]; unfold finC; rw [hop]; rfl
    have c2 : cpN ws rs = rpN rf ws := by
      have : cpN ws rs = (finC ws y).2 := congrArg (fun t : As × List Cn => t.2) ho
      rw [this]; exact s2
    rw [c1]
    by_cases hl : (rpZ rf ws).1.p < ws.length
    · rw [rpS_y hl]
      have r := ref_y (ws := ws) (k := 25) he hl
      unfold endA
      rw [hyp, if_pos hl, qs]
      exact ⟨r.e, r.a, fun _ => c2⟩
    · rw [rpS_n hl]
      unfold endA
      rw [hyp, if_neg hl, qs]
      exact ⟨rfl, rfl, fun _ => c2⟩
  · have w := p1 he
    have e : (rpS rf ws).e = (rpZ rf ws).1.e ∧ (rpS rf ws).a = (rpZ rf ws).1.a := by
      by_cases hl : (rpZ rf ws).1.p < ws.length
      · rw [rpS_y hl, fail_n he]; exact ⟨rfl, rfl⟩
      · rw [rpS_n hl]; exact ⟨rfl, rfl⟩
    exact ⟨w.1.trans e.1.symm, w.2.trans e.2.symm, fun h => absurd (e.1.symm.trans h) he⟩
end
theorem rX_ix (q : List UInt8) : Old.regF q = idxS (rgL Old.nameF) q := (idxS_L _ q).symm
theorem rV_ix (q : List UInt8) : regV q = idxS (rgL nameV) q := (idxS_L _ q).symm
theorem rA_ix (q : List UInt8) : regA q = idxS (rgL nameA) q := (idxS_L _ q).symm
theorem rparse8_arch (ar : Int) (ws : List Tk) (cw : Nat) (ha : ¬ (1 ≤ ar ∧ ar ≤ 3)) : Fn Tryz.prog 20 [.int .i64 ar, .sl 0 ws.length cw] [some (.lst 4 ws.length (fun zz => tkc (ws.getD zz tok0)))] (Rt (.tup [.sla none 0 0, .int .i64 36, .int .i64 0]) [some (.lst 4 ws.length (fun zz => tkc (ws.getD zz tok0)))]) :=
 enterM (n := 87) (by kernel_rfl) Tryz.func20 rfl rfl rfl fun G w a h0 A => N hX 16 A rfl rfl fun A => have A := sy_sayD A 16 (.tt) rfl (fun _ => by rw [show ((decide (ar < 1)) || (decide (ar > 3))) = true by (simp only [Bool.or_eq_true, decide_eq_true_eq]; omega)]; rfl); N hX 11 A rfl rfl fun A => RETN hX A rfl rfl rfl h0 rfl rfl rfl rfl rfl rfl
theorem regs0_ (ar : Int) (ha : ¬ (1 ≤ ar ∧ ar ≤ 3)) : Fn Tryz.prog 45 [.int .i64 ar] [] (Rt (.sla none 0 0) []) :=
 enterM (n := 13) (by kernel_rfl) Tryz.func45 rfl rfl rfl fun G w a h0 A => N hX 18 A rfl rfl fun A => forkE 4 A rfl
  (fun h1 A => N hX 3 A rfl rfl fun A => CALL1 [] regnX_ A rfl rfl rfl rfl rfl rfl rfl fun A => N hX 4 A rfl rfl fun A => (by exact absurd h1 (by omega)))
  (fun h1 A => N hX 7 A rfl rfl fun A => forkE 7 A rfl
   (fun h2 A => N hX 3 A rfl rfl fun A => CALL1 [] regnV_ A rfl rfl rfl rfl rfl rfl rfl fun A => N hX 4 A rfl rfl fun A => (by exact absurd h2 (by omega)))
   (fun h2 A => N hX 7 A rfl rfl fun A => forkE 10 A rfl
    (fun h3 A => N hX 3 A rfl rfl fun A => CALL1 [] regnA_ A rfl rfl rfl rfl rfl rfl rfl fun A => N hX 4 A rfl rfl fun A => (by exact absurd h3 (by omega)))
    (fun h3 A => N hX 10 A rfl rfl fun A => (by exact RETN hX A rfl rfl rfl h0 rfl rfl rfl rfl rfl rfl))))
theorem cparse_arch (ar : Int) (ws : List Tk) (cw : Nat) (ha : ¬ (1 ≤ ar ∧ ar ≤ 3)) : Fn Tryz.prog 19 [.int .i64 ar, .sl 0 ws.length cw] [some (.lst 4 ws.length (fun zz => tkc (ws.getD zz tok0)))] (Rt (.tup [.sla none 0 0, .int .i64 36, .int .i64 0]) [some (.lst 4 ws.length (fun zz => tkc (ws.getD zz tok0)))]) :=
 enterM (n := 59) (by kernel_rfl) Tryz.func19 rfl rfl rfl fun G w a h0 A => N hX 10 A rfl rfl fun A => CALL1 [] (regs0_ ar ha) A rfl rfl rfl rfl rfl rfl rfl fun A => N hX 7 A rfl rfl fun A => NILQ (r := .tt) A rfl rfl rfl rfl rfl (e := 9) (by kernel_rfl) rfl fun A => N hX 11 A rfl rfl fun A => RETN hX A rfl rfl rfl h0 rfl rfl rfl rfl rfl rfl
theorem conds_ (ns : List Cn) (hns : ns.length ≤ 1000) : Fn Tryz.prog 21 [.sl 0 ns.length 0, .sl 1 ns.length 0] [some (.row 88 5 ns.length 0 (fun zz => cc (ns.getD zz Cn.z))), some (.row 88 5 ns.length 0 (fun zz => cc (ns.getD zz Cn.z)))] (Rt (.tt) [some (.row 88 5 ns.length 0 (fun zz => cc (ns.getD zz Cn.z))), some (.row 88 5 ns.length 0 (fun zz => cc (ns.getD zz Cn.z)))]) :=
 enterM (n := 26) (by kernel_rfl) Tryz.func21 rfl rfl rfl fun G w a h0 A => N hX 15 A rfl rfl fun A => forkN 10 A rfl
  (fun h1 A => N hX 7 A rfl rfl fun A => RETN hX A rfl rfl rfl h0 rfl rfl rfl rfl (absurd h1 (by simp)) rfl)
  (fun h1 A => N hX 10 A rfl rfl fun A => LOOP1 (fun (i7 : Nat) => [(0, .sl 0 ns.length 0), (1, .sl 1 ns.length 0), (4, .ff), (5, .int .i64 (i7 : Int))]) (fun (i7 : Nat) => [some (.row 88 5 ns.length 0 (fun zz => cc (ns.getD zz Cn.z))), some (.row 88 5 ns.length 0 (fun zz => cc (ns.getD zz Cn.z)))]) (fun (i7 : Nat) => i7 ≤ ns.length) (fun (i7 : Nat) => ns.length - i7) 0 (Nat.zero_le _) ((A.cut [0, 1, 4, 5] rfl).trunc 2 rfl rfl rfl (by simp only [List.length_cons, List.length_nil] at h0; omega)) fun i7 hI {G a w} A => N hX 9 A rfl rfl fun A => forkD 14 A rfl
    (fun h2 A => N hX 6 A rfl rfl fun A => DRAWN hX hmo [] [] A rfl (ok_d (by omega) <| ok_d (by omega) <| ok_d (by omega) <| ok_d (by omega) <| okE_nil) rfl rfl (by kernel_rfl) (effAll_nil _ _) trivial fun A => N hX 1 A rfl rfl fun A => fork 25 A rfl
     (fun h3 A => N hX 7 A rfl rfl fun A => RETN hX A rfl rfl rfl h0 rfl rfl rfl rfl (absurd h3 (by simp)) rfl)
     (fun h3 A => N hX 9 A rfl (ok_d (by omega) <| okE_nil) fun A => ⟨i7 + 1, _, (by omega), (by omega), ((A.cut [0, 1, 4, 5] rfl).trunc 2 rfl rfl rfl (by simp only [List.length_cons, List.length_nil] at h0; omega))⟩))
    (fun h2 A => N hX 9 A rfl rfl fun A => RETN hX A rfl rfl rfl h0 rfl rfl rfl rfl rfl rfl))
theorem conds0_   : Fn Tryz.prog 21 [.sla none 0 0, .sla none 0 0] [] (Rt (.tt) []) :=
 enterM (n := 26) (by kernel_rfl) Tryz.func21 rfl rfl rfl fun G w a h0 A => N hX 15 A rfl rfl fun A => forkN 10 A rfl
  (fun h1 A => absurd h1 (by decide))
  (fun h1 A => N hX 10 A rfl rfl fun A => LOOP1 (fun (i7 : Nat) => [(0, .sla none 0 0), (1, .sla none 0 0), (4, .ff), (5, .int .i64 (i7 : Int))]) (fun (i7 : Nat) => []) (fun (i7 : Nat) => i7 ≤ 0) (fun (i7 : Nat) => 0 - i7) 0 (Nat.zero_le _) ((A.cut [0, 1, 4, 5] rfl).trunc 0 rfl rfl rfl (by simp only [List.length_cons, List.length_nil] at h0; omega)) fun i7 hI {G a w} A => N hX 7 A rfl rfl fun A => have A := sy_sayD A 14 (.ff) rfl (fun _ => by rw [show (decide ((i7 : Int) < ((0 : Nat) : Int))) = false from decide_eq_false (by omega)]; rfl); N hX 11 A rfl rfl fun A => RETN hX A rfl rfl rfl h0 rfl rfl rfl rfl rfl rfl)
end Go.Proofs.YtedlaclfhgneeabGreatDoor
namespace Go.Proofs.YtedlaclfhgneeabGreatDoor
open Go.RowKit
set_option linter.unusedVariables false
set_option linter.unusedSimpArgs false
set_option maxRecDepth 100000
set_option maxHeartbeats 2000000
def gO (g : Lg) (R : List Rw) : Old.Lg := ⟨g.r0, g.r1, g.r2, g.r3, g.r4, g.r5, g.r6, g.r7, g.l0, g.l1, g.l2, g.l3, g.im, g.f0, g.f1, g.f2, Old.nilV, R.map toR⟩
section
variable {ws : List Tk} {z : Ps} {g : Lg} {R L : List Rw} {m : List UInt8} {x : Int} {k : Nat}
end
end Go.Proofs.YtedlaclfhgneeabGreatDoor
namespace Go.Proofs.YtedlaclfhgneeabGreatDoor
open Go.RowKit
set_option linter.unusedVariables false
set_option linter.unusedSimpArgs false
set_option maxRecDepth 100000
theorem ws_toks : ∀ (f : Nat) (l : List UInt8) (a : Nat) (ws : List Tk), a ≤ l.length → ws.length ≤ a → (∀ t ∈ ws, 0 ≤ t.at_ ∧ t.at_ ≤ (l.length : Int) ∧ t.text.length ≤ l.length) → (toksF f l a ws).1.length ≤ l.length ∧ ∀ t ∈ (toksF f l a ws).1, 0 ≤ t.at_ ∧ t.at_ ≤ (l.length : Int) ∧ t.text.length ≤ l.length
  | 0, l, a, ws, ha, hl, h => ⟨Nat.zero_le _, fun y hy => by cases hy⟩
  | f + 1, l, a, ws, ha, hl, h => by
    rw [toksF]
    split
    · exact ⟨Nat.zero_le _, fun y hy => by cases hy⟩
    · split
      · exact ⟨show ws.length ≤ l.length by omega, h⟩
      · next hne =>
        split
        · next hf =>
          have hs := skip_le (l.drop a)
          rw [List.length_drop] at hs
          have hn := first_len hf
          rw [List.length_drop] at hn
          refine ws_toks f l _ _ (by omega) (by simp only [List.length_append, List.length_cons, List.length_nil]; omega) fun y hy => ?_
          rcases List.mem_append.1 hy with hy | hy
          · exact h y hy
          · rw [List.mem_singleton] at hy
            subst hy
            exact ⟨by show 0 ≤ ((_ : Nat) : Int); omega, by show ((_ : Nat) : Int) ≤ _; omega, by show (firstR _).1.text.length ≤ _; omega⟩
        · exact ⟨Nat.zero_le _, fun y hy => by cases hy⟩
theorem ws_tokens {l : List UInt8} {ws : List Tk} (h : tokensR l = (ws, 0, 0)) : ws.length ≤ 8192 ∧ WsOK ws ∧ Old.WF ws := by
  have hf := Old.wf_tokens l
  rw [h] at hf
  by_cases hl : l.length > 8192
  · rw [tokens_long hl] at h
    have := congrArg (fun z => z.2.1) h
    exact absurd (show (2 : Int) = 0 from this) (by decide)
  · have hw := ws_toks (l.length + 1) l 0 [] (Nat.zero_le _) (Nat.zero_le _) (fun t ht => by cases ht)
    rw [← tokens_short (by omega), h] at hw
    refine ⟨by have := hw.1; simp only at this; omega, fun t ht => ?_, hf⟩
    have := hw.2 t ht
    exact ⟨this.1, by omega, by omega⟩
theorem mem_pre {s m m' : Nat} {f f' : Nat → List SV} (hm : m ≤ m') (hf : ∀ k, k < m → f' k = f k) (ht : ∀ k, ∃ vs, denL [] (f k) = some vs) (G : Gr) (w : World) (h : Mem [some (.lst s m' f')] G w) : Mem [some (.lst s m f)] G w := by
  refine ⟨h.len, fun i e he => ?_, fun i j e g L M hij hi hj he => ?_⟩
  · match i, he with
    | 0, he =>
      cases he
      obtain ⟨_, q⟩ := h.ent 0 _ rfl
      refine ⟨ht, ?_⟩
      rcases q with q | ⟨L, q1, q2, q3⟩
      · exact .inl (by omega)
      · exact .inr ⟨L, q1, q2, fun k hk => by rw [← hf k hk]; exact q3 k (by omega)⟩
    | i + 1, he => simp at he
  · match i, hi with
    | 0, hi => cases hi; cases he
    | i + 1, hi => simp at hi
theorem keys1 {s m : Nat} {f : Nat → List SV} (G : Gr) : keys [some (.lst s m f)] G = [] := by
  cases G with
  | nil => rfl
  | cons p G => cases p <;> rfl
end Go.Proofs.YtedlaclfhgneeabGreatDoor
namespace Go.Proofs.YtedlaclfhgneeabGreatDoor
open Go.RowKit
set_option linter.unusedVariables false
set_option linter.unusedSimpArgs false
set_option maxRecDepth 100000
set_option maxHeartbeats 2000000
set_option simprocs false
theorem fn_pre1 {P : Program} {f : Nat} {az : List SV} {s m m' : Nat} {g g' : Nat → List SV} {x : SV} {e1 : Ent} (h : Fn P f az [some (.lst s m g)] (Rt x [some (.lst s m g), some e1])) (hm : m ≤ m') (hf : ∀ k, k < m → g' k = g k) (ht : ∀ k, ∃ vs, denL [] (g k) = some vs) :
    Fn P f az [some (.lst s m' g')] (Rt x [some (.lst s m' g'), some e1]) := by
  refine ⟨h.1, fun G w vs hM hv => Calls.mono (h.2 G w vs (mem_pre hm hf ht G w hM) hv) fun e w' hp => ?_⟩
  obtain ⟨x', H', F, v, ⟨rx, rH⟩, h1, h2, h3, h4, h5, h6, h7⟩ := hp
  subst rx rH
  have hG : G.length = 1 := hM.len.symm
  obtain ⟨p, rfl⟩ : ∃ p, G = [p] := by
    match G, hG with
    | [p], _ => exact ⟨p, rfl⟩
  have k1 : keys ([some (.lst s m g)] : Hp) [p] = [] := keys1 [p]
  have k2 : keys ([some (.lst s m' g')] : Hp) [p] = [] := keys1 [p]
  rw [k1] at h4 h7
  have e0 : EntOK [p] w p (.lst s m' g') := hM.ent 0 _ rfl
  have e0' : EntOK [p] w' p (.lst s m' g') := e0.mix h4 (fun _ _ _ => rfl)
  refine ⟨_, [some (.lst s m' g'), some e1], F, v, ⟨rfl, rfl⟩, h1, h2, ?_, by rw [k2]; exact h4, by show 1 ≤ 2; omega, ?_, ?_⟩
  · refine ⟨h3.len, fun i e he => ?_, fun i j e q L M hij hi hj he hL hMm hq => ?_⟩
    · match i, he with
      | 0, he => cases he; exact e0'
      | 1, he => exact h3.ent 1 e he
      | i + 2, he => cases he
    · match i, j, hi, hj with
      | 0, _, hi, _ => cases hi; cases he
      | 1, 0, hi, hj =>
        cases hj
        rcases h7 1 e hi he L hL with c | c
        · simp at c
        · have hp : p = some M := by simpa using hMm
          subst hp
          have := EntOK.lt e0 hq
          omega
      | 1, 1, _, _ => exact absurd rfl hij
      | 1, j + 2, _, hj => cases hj
      | i + 2, _, hi, _ => cases hi
  · intro i e he hb
    match i, he with
    | 0, he => exact he
    | 1, he => exact absurd (h6 1 e he hb) (fun q => by cases q)
    | i + 2, he => cases he
  · intro i e he hm L hL
    rw [k2]
    match i, he with
    | 0, he => cases he; cases hm
    | 1, he => exact h7 1 e he hm L hL
    | i + 2, he => cases he
theorem fn_pre0 {P : Program} {f : Nat} {az : List SV} {s m m' : Nat} {g g' : Nat → List SV} {x : SV} (h : Fn P f az [some (.lst s m g)] (Rt x [some (.lst s m g)])) (hm : m ≤ m') (hf : ∀ k, k < m → g' k = g k) (ht : ∀ k, ∃ vs, denL [] (g k) = some vs) :
    Fn P f az [some (.lst s m' g')] (Rt x [some (.lst s m' g')]) := by
  refine ⟨h.1, fun G w vs hM hv => Calls.mono (h.2 G w vs (mem_pre hm hf ht G w hM) hv) fun e w' hp => ?_⟩
  obtain ⟨x', H', F, v, ⟨rx, rH⟩, h1, h2, h3, h4, h5, h6, h7⟩ := hp
  subst rx rH
  have hG : G.length = 1 := hM.len.symm
  obtain ⟨p, rfl⟩ : ∃ p, G = [p] := by
    match G, hG with
    | [p], _ => exact ⟨p, rfl⟩
  have k1 : keys ([some (.lst s m g)] : Hp) [p] = [] := keys1 [p]
  have k2 : keys ([some (.lst s m' g')] : Hp) [p] = [] := keys1 [p]
  rw [k1] at h4 h7
  have e0 : EntOK [p] w p (.lst s m' g') := hM.ent 0 _ rfl
  have e0' : EntOK [p] w' p (.lst s m' g') := e0.mix h4 (fun _ _ _ => rfl)
  refine ⟨_, [some (.lst s m' g')], F, v, ⟨rfl, rfl⟩, h1, h2, ?_, by rw [k2]; exact h4, Nat.le_refl _, ?_, ?_⟩
  · refine ⟨h3.len, fun i e he => ?_, fun i j e q L M hij hi hj he hL hMm hq => ?_⟩
    · match i, he with
      | 0, he => cases he; exact e0'
      | i + 1, he => cases he
    · match i, hi with
      | 0, hi => cases hi; cases he
      | i + 1, hi => cases hi
  · intro i e he hb
    exact he
  · intro i e he hm L hL
    match i, he with
    | 0, he => cases he; cases hm
    | i + 1, he => cases he
theorem mi_wf {ws : List Tk} (h : Old.WF ws) : ∀ k, k < ws.length → (ws.getD k tok0).text = [45] → (ws.getD k tok0).kind ≠ 2 → (ws.getD k tok0).kind = 3 := by
  intro k hk ht h2
  have hm : ws.getD k tok0 ∈ ws := by
    rw [List.getD_eq_getElem?_getD, List.getElem?_eq_getElem hk]; exact List.getElem_mem hk
  have w := h _ hm
  rcases w.kd with c | c | c
  · exact absurd ht (w.nm c 45 (by decide))
  · exact absurd c h2
  · exact c
section
variable {C : Prop} {ws : List Tk} (hn : ws.length ≤ 8192) (hw : WsOK ws) (hf : Old.WF ws)
include hn hw hf
theorem parS1 (h1 : ∀ E7 A7 : Int, Fn Tryz.prog 19 [.int .i64 1, .sl 0 ws.length 0] [some (.lst 4 ((ws ++ [(⟨0, [], -77, 0⟩ : Tk)]).length) (fun zz => tkc ((ws ++ [(⟨0, [], -77, 0⟩ : Tk)]).getD zz tok0)))] (Rt (.tup [.sla none 0 0, .int .i64 E7, .int .i64 A7]) [some (.lst 4 ((ws ++ [(⟨0, [], -77, 0⟩ : Tk)]).length) (fun zz => tkc ((ws ++ [(⟨0, [], -77, 0⟩ : Tk)]).getD zz tok0)))]) → Fn Tryz.prog 20 [.int .i64 1, .sl 0 ws.length 0] [some (.lst 4 ws.length (fun zz => tkc (ws.getD zz tok0)))] (Rt (.tup [.sla none 0 0, .int .i64 E7, .int .i64 A7]) [some (.lst 4 ws.length (fun zz => tkc (ws.getD zz tok0)))]) → C) (h2 : ∀ ns : List Cn, Fn Tryz.prog 19 [.int .i64 1, .sl 0 ws.length 0] [some (.lst 4 ((ws ++ [(⟨0, [], -77, 0⟩ : Tk)]).length) (fun zz => tkc ((ws ++ [(⟨0, [], -77, 0⟩ : Tk)]).getD zz tok0)))] (Rt (.tup [.sl 1 ns.length 0, .int .i64 0, .int .i64 0]) [some (.lst 4 ((ws ++ [(⟨0, [], -77, 0⟩ : Tk)]).length) (fun zz => tkc ((ws ++ [(⟨0, [], -77, 0⟩ : Tk)]).getD zz tok0))), some (.row 88 5 ns.length 0 (fun zz => cc (ns.getD zz Cn.z)))]) → Fn Tryz.prog 20 [.int .i64 1, .sl 0 ws.length 0] [some (.lst 4 ws.length (fun zz => tkc (ws.getD zz tok0)))] (Rt (.tup [.sl 1 ns.length 0, .int .i64 0, .int .i64 0]) [some (.lst 4 ws.length (fun zz => tkc (ws.getD zz tok0))), some (.row 88 5 ns.length 0 (fun zz => cc (ns.getD zz Cn.z)))]) → ns.length ≤ 32 → C) : C := by
  have c := cp_rp hw (mi_wf hf) rX_ix
  by_cases hq : (rpS Old.regF ws).e = 0 ∧ (rpN Old.regF ws).length ≤ 32
  · have e := c.2.2 hq.1
    have hq' : (cpS ws (rgL Old.nameF)).e = 0 ∧ (cpN ws (rgL Old.nameF)).length ≤ 32 := ⟨c.1.trans hq.1, by rw [e]; exact hq.2⟩
    have a := fn_pre1 (m' := (ws ++ [(⟨0, [], -77, 0⟩ : Tk)]).length) (g' := fun zz => tkc ((ws ++ [(⟨0, [], -77, 0⟩ : Tk)]).getD zz tok0)) (cparse1_ok ws 0 (by omega) hw hq') (by rw [List.length_append]; omega) (fun k hk => by show tkc _ = tkc _; rw [tk_app hk]) (fun k => ⟨_, rfl⟩)
    rw [e] at a
    exact h2 (rpN Old.regF ws) a (rparse8_ok 1 ws 0 (by omega) (by omega) hw Old.regF rregn_x hq) hq.2
  · have hq' : ¬ ((cpS ws (rgL Old.nameF)).e = 0 ∧ (cpN ws (rgL Old.nameF)).length ≤ 32) := fun h => hq ⟨c.1.symm.trans h.1, by rw [← c.2.2 (c.1.symm.trans h.1)]; exact h.2⟩
    have a := fn_pre0 (m' := (ws ++ [(⟨0, [], -77, 0⟩ : Tk)]).length) (g' := fun zz => tkc ((ws ++ [(⟨0, [], -77, 0⟩ : Tk)]).getD zz tok0)) (cparse1_no ws 0 (by omega) hw hq') (by rw [List.length_append]; omega) (fun k hk => by show tkc _ = tkc _; rw [tk_app hk]) (fun k => ⟨_, rfl⟩)
    rw [show cpE ws (rgL Old.nameF) = rpE Old.regF ws by unfold cpE rpE; rw [c.1], show cpA ws (rgL Old.nameF) = rpA Old.regF ws by unfold cpA rpA; rw [c.1, c.2.1]] at a
    exact h1 (rpE Old.regF ws) (rpA Old.regF ws) a (rparse8_no 1 ws 0 (by omega) (by omega) hw Old.regF rregn_x hq)
theorem parS2 (h1 : ∀ E7 A7 : Int, Fn Tryz.prog 19 [.int .i64 2, .sl 0 ws.length 0] [some (.lst 4 ((ws ++ [(⟨0, [], -77, 0⟩ : Tk)]).length) (fun zz => tkc ((ws ++ [(⟨0, [], -77, 0⟩ : Tk)]).getD zz tok0)))] (Rt (.tup [.sla none 0 0, .int .i64 E7, .int .i64 A7]) [some (.lst 4 ((ws ++ [(⟨0, [], -77, 0⟩ : Tk)]).length) (fun zz => tkc ((ws ++ [(⟨0, [], -77, 0⟩ : Tk)]).getD zz tok0)))]) → Fn Tryz.prog 20 [.int .i64 2, .sl 0 ws.length 0] [some (.lst 4 ws.length (fun zz => tkc (ws.getD zz tok0)))] (Rt (.tup [.sla none 0 0, .int .i64 E7, .int .i64 A7]) [some (.lst 4 ws.length (fun zz => tkc (ws.getD zz tok0)))]) → C) (h2 : ∀ ns : List Cn, Fn Tryz.prog 19 [.int .i64 2, .sl 0 ws.length 0] [some (.lst 4 ((ws ++ [(⟨0, [], -77, 0⟩ : Tk)]).length) (fun zz => tkc ((ws ++ [(⟨0, [], -77, 0⟩ : Tk)]).getD zz tok0)))] (Rt (.tup [.sl 1 ns.length 0, .int .i64 0, .int .i64 0]) [some (.lst 4 ((ws ++ [(⟨0, [], -77, 0⟩ : Tk)]).length) (fun zz => tkc ((ws ++ [(⟨0, [], -77, 0⟩ : Tk)]).getD zz tok0))), some (.row 88 5 ns.length 0 (fun zz => cc (ns.getD zz Cn.z)))]) → Fn Tryz.prog 20 [.int .i64 2, .sl 0 ws.length 0] [some (.lst 4 ws.length (fun zz => tkc (ws.getD zz tok0)))] (Rt (.tup [.sl 1 ns.length 0, .int .i64 0, .int .i64 0]) [some (.lst 4 ws.length (fun zz => tkc (ws.getD zz tok0))), some (.row 88 5 ns.length 0 (fun zz => cc (ns.getD zz Cn.z)))]) → ns.length ≤ 32 → C) : C := by
  have c := cp_rp hw (mi_wf hf) rV_ix
  by_cases hq : (rpS regV ws).e = 0 ∧ (rpN regV ws).length ≤ 32
  · have e := c.2.2 hq.1
    have hq' : (cpS ws (rgL nameV)).e = 0 ∧ (cpN ws (rgL nameV)).length ≤ 32 := ⟨c.1.trans hq.1, by rw [e]; exact hq.2⟩
    have a := fn_pre1 (m' := (ws ++ [(⟨0, [], -77, 0⟩ : Tk)]).length) (g' := fun zz => tkc ((ws ++ [(⟨0, [], -77, 0⟩ : Tk)]).getD zz tok0)) (cparse2_ok ws 0 (by omega) hw hq') (by rw [List.length_append]; omega) (fun k hk => by show tkc _ = tkc _; rw [tk_app hk]) (fun k => ⟨_, rfl⟩)
    rw [e] at a
    exact h2 (rpN regV ws) a (rparse8_ok 2 ws 0 (by omega) (by omega) hw regV rregn_v hq) hq.2
  · have hq' : ¬ ((cpS ws (rgL nameV)).e = 0 ∧ (cpN ws (rgL nameV)).length ≤ 32) := fun h => hq ⟨c.1.symm.trans h.1, by rw [← c.2.2 (c.1.symm.trans h.1)]; exact h.2⟩
    have a := fn_pre0 (m' := (ws ++ [(⟨0, [], -77, 0⟩ : Tk)]).length) (g' := fun zz => tkc ((ws ++ [(⟨0, [], -77, 0⟩ : Tk)]).getD zz tok0)) (cparse2_no ws 0 (by omega) hw hq') (by rw [List.length_append]; omega) (fun k hk => by show tkc _ = tkc _; rw [tk_app hk]) (fun k => ⟨_, rfl⟩)
    rw [show cpE ws (rgL nameV) = rpE regV ws by unfold cpE rpE; rw [c.1], show cpA ws (rgL nameV) = rpA regV ws by unfold cpA rpA; rw [c.1, c.2.1]] at a
    exact h1 (rpE regV ws) (rpA regV ws) a (rparse8_no 2 ws 0 (by omega) (by omega) hw regV rregn_v hq)
theorem parS3 (h1 : ∀ E7 A7 : Int, Fn Tryz.prog 19 [.int .i64 3, .sl 0 ws.length 0] [some (.lst 4 ((ws ++ [(⟨0, [], -77, 0⟩ : Tk)]).length) (fun zz => tkc ((ws ++ [(⟨0, [], -77, 0⟩ : Tk)]).getD zz tok0)))] (Rt (.tup [.sla none 0 0, .int .i64 E7, .int .i64 A7]) [some (.lst 4 ((ws ++ [(⟨0, [], -77, 0⟩ : Tk)]).length) (fun zz => tkc ((ws ++ [(⟨0, [], -77, 0⟩ : Tk)]).getD zz tok0)))]) → Fn Tryz.prog 20 [.int .i64 3, .sl 0 ws.length 0] [some (.lst 4 ws.length (fun zz => tkc (ws.getD zz tok0)))] (Rt (.tup [.sla none 0 0, .int .i64 E7, .int .i64 A7]) [some (.lst 4 ws.length (fun zz => tkc (ws.getD zz tok0)))]) → C) (h2 : ∀ ns : List Cn, Fn Tryz.prog 19 [.int .i64 3, .sl 0 ws.length 0] [some (.lst 4 ((ws ++ [(⟨0, [], -77, 0⟩ : Tk)]).length) (fun zz => tkc ((ws ++ [(⟨0, [], -77, 0⟩ : Tk)]).getD zz tok0)))] (Rt (.tup [.sl 1 ns.length 0, .int .i64 0, .int .i64 0]) [some (.lst 4 ((ws ++ [(⟨0, [], -77, 0⟩ : Tk)]).length) (fun zz => tkc ((ws ++ [(⟨0, [], -77, 0⟩ : Tk)]).getD zz tok0))), some (.row 88 5 ns.length 0 (fun zz => cc (ns.getD zz Cn.z)))]) → Fn Tryz.prog 20 [.int .i64 3, .sl 0 ws.length 0] [some (.lst 4 ws.length (fun zz => tkc (ws.getD zz tok0)))] (Rt (.tup [.sl 1 ns.length 0, .int .i64 0, .int .i64 0]) [some (.lst 4 ws.length (fun zz => tkc (ws.getD zz tok0))), some (.row 88 5 ns.length 0 (fun zz => cc (ns.getD zz Cn.z)))]) → ns.length ≤ 32 → C) : C := by
  have c := cp_rp hw (mi_wf hf) rA_ix
  by_cases hq : (rpS regA ws).e = 0 ∧ (rpN regA ws).length ≤ 32
  · have e := c.2.2 hq.1
    have hq' : (cpS ws (rgL nameA)).e = 0 ∧ (cpN ws (rgL nameA)).length ≤ 32 := ⟨c.1.trans hq.1, by rw [e]; exact hq.2⟩
    have a := fn_pre1 (m' := (ws ++ [(⟨0, [], -77, 0⟩ : Tk)]).length) (g' := fun zz => tkc ((ws ++ [(⟨0, [], -77, 0⟩ : Tk)]).getD zz tok0)) (cparse3_ok ws 0 (by omega) hw hq') (by rw [List.length_append]; omega) (fun k hk => by show tkc _ = tkc _; rw [tk_app hk]) (fun k => ⟨_, rfl⟩)
    rw [e] at a
    exact h2 (rpN regA ws) a (rparse8_ok 3 ws 0 (by omega) (by omega) hw regA rregn_a hq) hq.2
  · have hq' : ¬ ((cpS ws (rgL nameA)).e = 0 ∧ (cpN ws (rgL nameA)).length ≤ 32) := fun h => hq ⟨c.1.symm.trans h.1, by rw [← c.2.2 (c.1.symm.trans h.1)]; exact h.2⟩
    have a := fn_pre0 (m' := (ws ++ [(⟨0, [], -77, 0⟩ : Tk)]).length) (g' := fun zz => tkc ((ws ++ [(⟨0, [], -77, 0⟩ : Tk)]).getD zz tok0)) (cparse3_no ws 0 (by omega) hw hq') (by rw [List.length_append]; omega) (fun k hk => by show tkc _ = tkc _; rw [tk_app hk]) (fun k => ⟨_, rfl⟩)
    rw [show cpE ws (rgL nameA) = rpE regA ws by unfold cpE rpE; rw [c.1], show cpA ws (rgL nameA) = rpA regA ws by unfold cpA rpA; rw [c.1, c.2.1]] at a
    exact h1 (rpE regA ws) (rpA regA ws) a (rparse8_no 3 ws 0 (by omega) (by omega) hw regA rregn_a hq)
theorem parSp (ar : Int) (h1 : ∀ E7 A7 : Int, Fn Tryz.prog 19 [.int .i64 ar, .sl 0 ws.length 0] [some (.lst 4 ((ws ++ [(⟨0, [], -77, 0⟩ : Tk)]).length) (fun zz => tkc ((ws ++ [(⟨0, [], -77, 0⟩ : Tk)]).getD zz tok0)))] (Rt (.tup [.sla none 0 0, .int .i64 E7, .int .i64 A7]) [some (.lst 4 ((ws ++ [(⟨0, [], -77, 0⟩ : Tk)]).length) (fun zz => tkc ((ws ++ [(⟨0, [], -77, 0⟩ : Tk)]).getD zz tok0)))]) → Fn Tryz.prog 20 [.int .i64 ar, .sl 0 ws.length 0] [some (.lst 4 ws.length (fun zz => tkc (ws.getD zz tok0)))] (Rt (.tup [.sla none 0 0, .int .i64 E7, .int .i64 A7]) [some (.lst 4 ws.length (fun zz => tkc (ws.getD zz tok0)))]) → C) (h2 : ∀ ns : List Cn, Fn Tryz.prog 19 [.int .i64 ar, .sl 0 ws.length 0] [some (.lst 4 ((ws ++ [(⟨0, [], -77, 0⟩ : Tk)]).length) (fun zz => tkc ((ws ++ [(⟨0, [], -77, 0⟩ : Tk)]).getD zz tok0)))] (Rt (.tup [.sl 1 ns.length 0, .int .i64 0, .int .i64 0]) [some (.lst 4 ((ws ++ [(⟨0, [], -77, 0⟩ : Tk)]).length) (fun zz => tkc ((ws ++ [(⟨0, [], -77, 0⟩ : Tk)]).getD zz tok0))), some (.row 88 5 ns.length 0 (fun zz => cc (ns.getD zz Cn.z)))]) → Fn Tryz.prog 20 [.int .i64 ar, .sl 0 ws.length 0] [some (.lst 4 ws.length (fun zz => tkc (ws.getD zz tok0)))] (Rt (.tup [.sl 1 ns.length 0, .int .i64 0, .int .i64 0]) [some (.lst 4 ws.length (fun zz => tkc (ws.getD zz tok0))), some (.row 88 5 ns.length 0 (fun zz => cc (ns.getD zz Cn.z)))]) → ns.length ≤ 32 → C) : C := by
  by_cases e1 : ar = 1
  · subst e1; exact parS1 hn hw hf h1 h2
  · by_cases e2 : ar = 2
    · subst e2; exact parS2 hn hw hf h1 h2
    · by_cases e3 : ar = 3
      · subst e3; exact parS3 hn hw hf h1 h2
      · exact h1 36 0 (fn_pre0 (m' := (ws ++ [(⟨0, [], -77, 0⟩ : Tk)]).length) (g' := fun zz => tkc ((ws ++ [(⟨0, [], -77, 0⟩ : Tk)]).getD zz tok0)) (cparse_arch ar ws 0 (by omega)) (by rw [List.length_append]; omega) (fun k hk => by show tkc _ = tkc _; rw [tk_app hk]) (fun k => ⟨_, rfl⟩)) (rparse8_arch ar ws 0 (by omega))
end
theorem cparses0_ (ar : Int) (l : List UInt8) (os : List (Nat × Obj)) (hM : ∀ w ks, Gl os w ks → ∃ m, w.cell? ⟨0, 0, none⟩ = some (.int .i64 m)) (hT : ∀ w ks, Gl os w ks → Lib.TabIs Tryz.prog w "internal/strconv.uint64pow10" .u64 Lib.pow10Tab) (hE : ∀ w ks, Gl os w ks → ∃ ev, w.cell? ⟨1, 0, none⟩ = some ev ∧ (ev = .nilIface ∨ ∃ te pe, ev = .iface te pe)) (hab : FnI (Gl os) Tryz.prog 18 [] [] (Rt .tt [])) : FnI (Gl os) Tryz.prog 6 [.int .i64 ar, .str l] [] (Rt (.tt) []) :=
 enterI (n := 89) (by kernel_rfl) Tryz.func6 rfl rfl rfl fun G w a h0 hI A => N hX 8 A rfl rfl fun A => CALLI [] Gl.ok hI hab A rfl rfl rfl rfl rfl rfl rfl fun A => N hX 9 A rfl rfl fun A => tokSp (l := l)
  (fun ws ht => have hq := ws_tokens ht; have hn := hq.1; have hw := hq.2.1; have hf := hq.2.2; CALLI [] Gl.ok hI (tokens_ok l ws os hM hE ht) A rfl rfl rfl rfl rfl rfl rfl fun A => N hX 14 A rfl rfl fun A => have A := sy_sayD A 25 (.ff) rfl (fun _ => congrArg (fun b => some (Value.bool b)) (show (!(0 == 0)) = false by decide)); N hX 9 A rfl rfl fun A => have A := A.freeze 0 rfl; APPL hX ws.length (fun zz => tkc (ws.getD zz tok0)) A rfl rfl rfl rfl (Nat.le_refl _) (by omega) (by omega) (by omega) (fun k hk => absurd hk (Nat.not_lt_zero k)) (fun k hk => by rw [Nat.zero_add]) (fun z => ⟨_, rfl, rfl⟩) (fun k hk => ⟨_, rfl, okE_nil⟩) fun A => N hX 2 A rfl rfl fun A => APP1 hX (ws.length + 1) (fun zz => tkc ((ws ++ [(⟨0, [], -77, 0⟩ : Tk)]).getD zz tok0)) A rfl rfl rfl rfl (by omega) rfl (fun k hk => by show tkc _ = tkc _; rw [tk_app hk]) (by show tkc _ = _; rw [tk_new]; rfl) (fun z => ⟨_, rfl, rfl⟩) fun A => have A := (A.rowAs 4 ((ws ++ [(⟨0, [], -77, 0⟩ : Tk)]).length) (fun zz => tkc ((ws ++ [(⟨0, [], -77, 0⟩ : Tk)]).getD zz tok0)) rfl (by rw [List.length_append]; rfl) (fun q hq => rfl) (fun z => ⟨_, rfl, rfl⟩)).say 34 (.sl 4 ((ws ++ [(⟨0, [], -77, 0⟩ : Tk)]).length) 0) rfl (by rw [List.length_append] <;> rfl); N hX 10 A rfl (ok_d (by show 0 ≤ ((ws.length : Nat) : Int) ∧ ((ws.length : Nat) : Int) ≤ (((ws ++ [(⟨0, [], -77, 0⟩ : Tk)]).length : Nat) : Int); exact (by (try simp only [List.length_append, List.length_cons, List.length_nil]); omega)) <| okE_nil) fun A => parSp hn hw hf ar
   (fun E7 A7 hC hR => have A := A.freeze 4 rfl; CALL1 [4] hC A rfl rfl rfl rfl rfl rfl rfl fun A => N hX 13 A rfl rfl fun A => CALL1 [0] hR A rfl rfl rfl rfl rfl rfl rfl fun A => N hX 16 A rfl rfl fun A => LOOP1 (fun (i7 : Nat) => [(4, .ff), (5, .sl 0 ws.length 0), (8, .sl 4 ((ws ++ [(⟨0, [], -77, 0⟩ : Tk)]).length) 0), (9, .sla none 0 0), (10, .int .i64 E7), (11, .int .i64 A7), (12, .sla none 0 0), (13, .int .i64 E7), (14, .int .i64 A7), (15, .int .i64 (i7 : Int))]) (fun (i7 : Nat) => [some (.lst 4 ws.length (fun zz => tkc (ws.getD zz tok0))), none, none, some (.blk [.int .i64 0, .str [], .int .i64 (-77), .int .i64 0]), some (.lst 4 ((ws ++ [(⟨0, [], -77, 0⟩ : Tk)]).length) (fun zz => tkc ((ws ++ [(⟨0, [], -77, 0⟩ : Tk)]).getD zz tok0)))]) (fun (i7 : Nat) => i7 ≤ ws.length) (fun (i7 : Nat) => ws.length - i7) 0 (Nat.zero_le _) ((A.cut [4, 5, 8, 9, 10, 11, 12, 13, 14, 15] rfl).trunc 5 rfl rfl rfl (by simp only [List.length_cons, List.length_nil] at h0; omega)) fun i7 hI {G a w} A => N hX 9 A rfl rfl fun A => forkD 55 A rfl
     (fun h1 A => N hX 6 A rfl rfl fun A => DRAWN hX hmo [] [] A rfl (ok_d (by (try simp only [List.length_append, List.length_cons, List.length_nil]); omega) <| ok_d (by (try simp only [List.length_append, List.length_cons, List.length_nil]); omega) <| ok_d (by (try simp only [List.length_append, List.length_cons, List.length_nil]); omega) <| ok_d (by (try simp only [List.length_append, List.length_cons, List.length_nil]); omega) <| okE_nil) rfl rfl (by kernel_rfl) (effAll_nil _ _) trivial fun A => N hX 1 A rfl rfl fun A => fork 66 A rfl
      (fun h2 A => N hX 7 A rfl rfl fun A => RETN hX A rfl rfl rfl h0 rfl rfl rfl rfl (absurd h2 (by rw [tk_app (ws := ws) (x := (⟨0, [], -77, 0⟩ : Tk)) (k := ((i7 : Int)).toNat) (show ((i7 : Int)).toNat < ws.length by omega)]; simp)) rfl)
      (fun h2 A => N hX 9 A rfl (ok_d (by (try simp only [List.length_append, List.length_cons, List.length_nil]); omega) <| okE_nil) fun A => ⟨i7 + 1, _, (by omega), (by omega), ((A.cut [4, 5, 8, 9, 10, 11, 12, 13, 14, 15] rfl).trunc 5 rfl rfl rfl (by simp only [List.length_cons, List.length_nil] at h0; omega))⟩))
     (fun h1 A => N hX 7 A rfl rfl fun A => CALL1 [] conds0_ A rfl rfl rfl rfl rfl rfl rfl fun A => N hX 23 A rfl (ok_r <| ok_r <| ok_r <| ok_r <| ok_r <| ok_r <| ok_g (fun hg => (by (try simp only [List.length_append, List.length_cons, List.length_nil]); omega)) <| ok_r <| ok_g (fun hg => (by (try simp only [List.length_append, List.length_cons, List.length_nil]); omega)) <| ok_r <| ok_g (fun hg => (by (try simp only [List.length_append, List.length_cons, List.length_nil]); omega)) <| ok_r <| ok_r <| okE_nil) fun A => RETN hX A rfl rfl rfl h0 rfl rfl rfl rfl (by have hb : (((E7 == E7) && (A7 == A7)) && ((((ws ++ [(⟨0, [], -77, 0⟩ : Tk)]).getD ((((ws.length : Nat) : Int)).toNat) tok0).n) == (-77))) = true := (by rw [show ((((ws.length : Nat) : Int)).toNat) = ws.length from rfl, tk_new]; set_option simprocs true in simp); rw [hb]; rfl) rfl))
   (fun ns hC hR hns => have A := A.freeze 4 rfl; CALL1 [4] hC A rfl rfl rfl rfl rfl rfl rfl fun A => N hX 13 A rfl rfl fun A => CALL1 [0] hR A rfl rfl rfl rfl rfl rfl rfl fun A => N hX 16 A rfl rfl fun A => LOOP1 (fun (i7 : Nat) => [(4, .ff), (5, .sl 0 ws.length 0), (8, .sl 4 ((ws ++ [(⟨0, [], -77, 0⟩ : Tk)]).length) 0), (9, .sl 5 ns.length 0), (10, .int .i64 0), (11, .int .i64 0), (12, .sl 6 ns.length 0), (13, .int .i64 0), (14, .int .i64 0), (15, .int .i64 (i7 : Int))]) (fun (i7 : Nat) => [some (.lst 4 ws.length (fun zz => tkc (ws.getD zz tok0))), none, none, some (.blk [.int .i64 0, .str [], .int .i64 (-77), .int .i64 0]), some (.lst 4 ((ws ++ [(⟨0, [], -77, 0⟩ : Tk)]).length) (fun zz => tkc ((ws ++ [(⟨0, [], -77, 0⟩ : Tk)]).getD zz tok0))), some (.row 88 5 ns.length 0 (fun zz => cc (ns.getD zz Cn.z))), some (.row 88 5 ns.length 0 (fun zz => cc (ns.getD zz Cn.z)))]) (fun (i7 : Nat) => i7 ≤ ws.length) (fun (i7 : Nat) => ws.length - i7) 0 (Nat.zero_le _) ((A.cut [4, 5, 8, 9, 10, 11, 12, 13, 14, 15] rfl).trunc 7 rfl rfl rfl (by simp only [List.length_cons, List.length_nil] at h0; omega)) fun i7 hI {G a w} A => N hX 9 A rfl rfl fun A => forkD 55 A rfl
     (fun h3 A => N hX 6 A rfl rfl fun A => DRAWN hX hmo [] [] A rfl (ok_d (by (try simp only [List.length_append, List.length_cons, List.length_nil]); omega) <| ok_d (by (try simp only [List.length_append, List.length_cons, List.length_nil]); omega) <| ok_d (by (try simp only [List.length_append, List.length_cons, List.length_nil]); omega) <| ok_d (by (try simp only [List.length_append, List.length_cons, List.length_nil]); omega) <| okE_nil) rfl rfl (by kernel_rfl) (effAll_nil _ _) trivial fun A => N hX 1 A rfl rfl fun A => fork 66 A rfl
      (fun h4 A => N hX 7 A rfl rfl fun A => RETN hX A rfl rfl rfl h0 rfl rfl rfl rfl (absurd h4 (by rw [tk_app (ws := ws) (x := (⟨0, [], -77, 0⟩ : Tk)) (k := ((i7 : Int)).toNat) (show ((i7 : Int)).toNat < ws.length by omega)]; simp)) rfl)
      (fun h4 A => N hX 9 A rfl (ok_d (by (try simp only [List.length_append, List.length_cons, List.length_nil]); omega) <| okE_nil) fun A => ⟨i7 + 1, _, (by omega), (by omega), ((A.cut [4, 5, 8, 9, 10, 11, 12, 13, 14, 15] rfl).trunc 7 rfl rfl rfl (by simp only [List.length_cons, List.length_nil] at h0; omega))⟩))
     (fun h3 A => N hX 7 A rfl rfl fun A => CALL1 [5, 6] (conds_ ns (by omega)) A rfl rfl rfl rfl rfl rfl rfl fun A => N hX 23 A rfl (ok_r <| ok_r <| ok_r <| ok_r <| ok_r <| ok_r <| ok_g (fun hg => (by (try simp only [List.length_append, List.length_cons, List.length_nil]); omega)) <| ok_r <| ok_g (fun hg => (by (try simp only [List.length_append, List.length_cons, List.length_nil]); omega)) <| ok_r <| ok_g (fun hg => (by (try simp only [List.length_append, List.length_cons, List.length_nil]); omega)) <| ok_r <| ok_r <| okE_nil) fun A => RETN hX A rfl rfl rfl h0 rfl rfl rfl rfl (by have hb : ((((0 : Int) == 0) && ((0 : Int) == 0)) && ((((ws ++ [(⟨0, [], -77, 0⟩ : Tk)]).getD ((((ws.length : Nat) : Int)).toNat) tok0).n) == (-77))) = true := (by rw [show ((((ws.length : Nat) : Int)).toNat) = ws.length from rfl, tk_new]; set_option simprocs true in simp); rw [hb]; rfl) rfl)))
  (fun e k he ht => CALLI [] Gl.ok hI (tokens_no l e k os hM hE ht he) A rfl rfl rfl rfl rfl rfl rfl fun A => N hX 14 A rfl rfl fun A => have A := sy_sayD A 25 (.tt) rfl (fun _ => congrArg (fun b => some (Value.bool b)) (show (!(e == 0)) = true by simpa using he)); N hX 12 A rfl rfl fun A => RETN hX A rfl rfl rfl h0 rfl rfl rfl rfl rfl rfl)
end Go.Proofs.YtedlaclfhgneeabGreatDoor
namespace Go.Proofs.YtedlaclfhgneeabGreatDoor.Cd
open Go.RowKit
set_option linter.unusedVariables false
set_option linter.unusedSimpArgs false
set_option maxRecDepth 100000
set_option maxHeartbeats 2000000
set_option simprocs false
theorem hmo : Tryz.prog.follows .mixedOrders = true := by kernel_rfl
def one0 (kd : Int) (th : Int) (rg : Int) (lc : Int) (vl : Int) : Int := if kd = 1 then if ((((decide (th ≥ 0)) && (decide (th < 3))) && (decide (rg ≥ 0))) && (decide (rg < 8))) = true then if (!((((0 : Int) == 0) && (((0 : Int) == 0) && (((0 : Int) == 0) && ((lc == 0) && ((0 : Int) == 0))))))) = true then (-1) else 0 else (-1) else if kd = 2 then if ((decide (lc ≥ 0)) && (decide (lc < 3))) = true then if (!((((0 : Int) == 0) && ((th == 0) && ((rg == 0) && (((0 : Int) == 0) && ((0 : Int) == 0))))))) = true then (-1) else 0 else (-1) else if kd = 3 then if (!((((0 : Int) == 0) && ((th == 0) && ((rg == 0) && ((lc == 0) && (vl == 0))))))) = true then (-1) else 1 else if kd = 4 then if (!((((0 : Int) == 0) && ((th == 0) && ((rg == 0) && ((lc == 0) && (vl == 0))))))) = true then (-1) else 2 else if kd = 5 then if (!((((0 : Int) == 0) && ((th == 0) && ((rg == 0) && ((lc == 0) && (vl == 0))))))) = true then (-1) else 2 else (-1)
theorem below_ (k : Int) (m : Int)  : Fn Tryz.prog 126 [.int .i64 k, .int .i64 m] [] (Rt (.bool ((decide (0 ≤ k)) && (decide (k < m)))) []) :=
 enterM (n := 12) (by kernel_rfl) Tryz.func126 rfl rfl rfl fun G w a h0 A => N hX 18 A rfl rfl fun A => RETN hX A rfl rfl rfl h0 rfl rfl rfl rfl rfl rfl
def node0 (kd : Int) (th : Int) (rg : Int) (lc : Int) (vl : Int) : Bool := if kd = 1 then if ((decide (0 ≤ th)) && (decide (th < 3))) = true then ((decide (0 ≤ rg)) && (decide (rg < 8))) && (lc == 0) else false else if kd = 2 then (((decide (0 ≤ lc)) && (decide (lc < 3))) && (th == 0)) && (rg == 0) else if kd = 3 then ((kd == kd) && ((th == 0) && ((rg == 0) && ((lc == 0) && (vl == 0))))) else if kd = 4 then ((kd == kd) && ((th == 0) && ((rg == 0) && ((lc == 0) && (vl == 0))))) else if kd = 5 then ((kd == kd) && ((th == 0) && ((rg == 0) && ((lc == 0) && (vl == 0))))) else false
theorem node_ (kd : Int) (th : Int) (rg : Int) (lc : Int) (vl : Int)  : Fn Tryz.prog 55 [.agg [.int .i64 kd, .int .i64 th, .int .i64 rg, .int .i64 lc, .int .i64 vl]] [] (Rt (.bool (node0 kd th rg lc vl)) []) :=
 enterM (n := 44) (by kernel_rfl) Tryz.func55 rfl rfl rfl fun G w a h0 A => N hX 20 A rfl rfl fun A => forkE 5 A rfl
  (fun h1 A => N hX 5 A rfl rfl fun A => CALL1 [] (below_ th 3) A rfl rfl rfl rfl rfl rfl rfl fun A => N hX 1 A rfl rfl fun A => fork 10 A rfl
   (fun h2 A => N hX 2 A rfl rfl fun A => CALL1 [] (below_ rg 8) A rfl rfl rfl rfl rfl rfl rfl fun A => N hX 10 A rfl rfl fun A => RETN hX A rfl rfl rfl h0 rfl rfl rfl rfl (by simp only [oneS, nb, nbL, nbH, node0, if_pos h1, if_pos h2]) rfl)
   (fun h2 A => N hX 13 A rfl rfl fun A => RETN hX A rfl rfl rfl h0 rfl rfl rfl rfl (by simp only [oneS, nb, nbL, nbH, node0, if_pos h1, if_neg (ne_true_of_eq_false h2)]) rfl))
  (fun h1 A => N hX 7 A rfl rfl fun A => forkE 20 A rfl
   (fun h3 A => N hX 5 A rfl rfl fun A => CALL1 [] (below_ lc 3) A rfl rfl rfl rfl rfl rfl rfl fun A => N hX 14 A rfl rfl fun A => RETN hX A rfl rfl rfl h0 rfl rfl rfl rfl (by simp only [oneS, nb, nbL, nbH, node0, if_neg (h1), if_pos h3]) rfl)
   (fun h3 A => N hX 8 A rfl rfl fun A => forkE 35 A rfl
    (fun h4 A => N hX 15 A rfl rfl fun A => RETN hX A rfl rfl rfl h0 rfl rfl rfl rfl (by simp only [oneS, nb, nbL, nbH, node0, if_neg (h1), if_neg (h3), if_pos h4]) rfl)
    (fun h4 A => N hX 7 A rfl rfl fun A => forkE 35 A rfl
     (fun h5 A => N hX 15 A rfl rfl fun A => RETN hX A rfl rfl rfl h0 rfl rfl rfl rfl (by simp only [oneS, nb, nbL, nbH, node0, if_neg (h1), if_neg (h3), if_neg (h4), if_pos h5]) rfl)
     (fun h5 A => N hX 6 A rfl rfl fun A => forkE 35 A rfl
      (fun h6 A => N hX 12 A rfl rfl fun A => RETN hX A rfl rfl rfl h0 rfl rfl rfl rfl (by simp only [oneS, nb, nbL, nbH, node0, if_neg (h1), if_neg (h3), if_neg (h4), if_neg (h5), if_pos h6]) rfl)
      (fun h6 A => N hX 10 A rfl rfl fun A => RETN hX A rfl rfl rfl h0 rfl rfl rfl rfl (by simp only [oneS, nb, nbL, nbH, node0, if_neg (h1), if_neg (h3), if_neg (h4), if_neg (h5), if_neg (h6)]) rfl)))))
def parts0 (kd : Int) : Int := if kd = 3 then 1 else if kd = 4 then 2 else if kd = 5 then 2 else 0
theorem parts_ (kd : Int)  : Fn Tryz.prog 56 [.int .i64 kd] [] (Rt (.int .i64 (parts0 kd)) []) :=
 enterM (n := 9) (by kernel_rfl) Tryz.func56 rfl rfl rfl fun G w a h0 A => N hX 18 A rfl rfl fun A => forkE 4 A rfl
  (fun h1 A => N hX 7 A rfl rfl fun A => RETN hX A rfl rfl rfl h0 rfl rfl rfl rfl (by simp only [oneS, nb, nbL, nbH, parts0, if_pos h1]) rfl)
  (fun h1 A => N hX 8 A rfl rfl fun A => forkE 6 A rfl
   (fun h2 A => N hX 10 A rfl rfl fun A => RETN hX A rfl rfl rfl h0 rfl rfl rfl rfl (by simp only [oneS, nb, nbL, nbH, parts0, if_neg (h1), if_pos h2]) rfl)
   (fun h2 A => N hX 6 A rfl rfl fun A => forkE 6 A rfl
    (fun h3 A => N hX 7 A rfl rfl fun A => RETN hX A rfl rfl rfl h0 rfl rfl rfl rfl (by simp only [oneS, nb, nbL, nbH, parts0, if_neg (h1), if_neg (h2), if_pos h3]) rfl)
    (fun h3 A => N hX 10 A rfl rfl fun A => RETN hX A rfl rfl rfl h0 rfl rfl rfl rfl (by simp only [oneS, nb, nbL, nbH, parts0, if_neg (h1), if_neg (h2), if_neg (h3)]) rfl)))
theorem nan_ (k : Int)  : Fn Tryz.prog 269 [.int .i64 k] [] (Rt (.bool (!(k == k))) []) :=
 enterM (n := 6) (by kernel_rfl) Tryz.func269 rfl rfl rfl fun G w a h0 A => N hX 14 A rfl rfl fun A => RETN hX A rfl rfl rfl h0 rfl rfl rfl rfl rfl rfl
def cmpi0 (k : Int) (m : Int) : Int := if k ≠ k then if m ≠ m then 0 else (-1) else if m ≠ m then 1 else if k < m then (-1) else if k > m then 1 else 0
theorem cmpi_ (k : Int) (m : Int)  : Fn Tryz.prog 252 [.int .i64 k, .int .i64 m] [] (Rt (.int .i64 (cmpi0 k m)) []) :=
 enterM (n := 20) (by kernel_rfl) Tryz.func252 rfl rfl rfl fun G w a h0 A => N hX 8 A rfl rfl fun A => CALL1 [] (nan_ k) A rfl rfl rfl rfl rfl rfl rfl fun A => N hX 6 A rfl rfl fun A => CALL1 [] (nan_ m) A rfl rfl rfl rfl rfl rfl rfl fun A => N hX 9 A rfl rfl fun A => forkN 11 A rfl
  (fun h1 A => N hX 7 A rfl rfl fun A => forkN 12 A rfl
   (fun h2 A => N hX 7 A rfl rfl fun A => RETN hX A rfl rfl rfl h0 rfl rfl rfl rfl (by simp only [oneS, nb, nbL, nbH, cmpi0, if_pos h1, if_pos h2]) rfl)
   (fun h2 A => N hX 9 A rfl rfl fun A => RETN hX A rfl rfl rfl h0 rfl rfl rfl rfl (by simp only [oneS, nb, nbL, nbH, cmpi0, if_pos h1, if_neg (not_not_intro h2)]) rfl))
  (fun h1 A => N hX 9 A rfl rfl fun A => forkN 13 A rfl
   (fun h3 A => N hX 7 A rfl rfl fun A => RETN hX A rfl rfl rfl h0 rfl rfl rfl rfl (by simp only [oneS, nb, nbL, nbH, cmpi0, if_neg (not_not_intro h1), if_pos h3]) rfl)
   (fun h3 A => N hX 11 A rfl rfl fun A => forkD 16 A rfl
    (fun h4 A => N hX 7 A rfl rfl fun A => RETN hX A rfl rfl rfl h0 rfl rfl rfl rfl (by simp only [oneS, nb, nbL, nbH, cmpi0, if_neg (not_not_intro h1), if_neg (not_not_intro h3), if_pos h4]) rfl)
    (fun h4 A => N hX 11 A rfl rfl fun A => forkD 19 A rfl
     (fun h5 A => N hX 7 A rfl rfl fun A => RETN hX A rfl rfl rfl h0 rfl rfl rfl rfl (by simp only [oneS, nb, nbL, nbH, cmpi0, if_neg (not_not_intro h1), if_neg (not_not_intro h3), if_neg h4, if_pos h5]) rfl)
     (fun h5 A => N hX 9 A rfl rfl fun A => RETN hX A rfl rfl rfl h0 rfl rfl rfl rfl (by simp only [oneS, nb, nbL, nbH, cmpi0, if_neg (not_not_intro h1), if_neg (not_not_intro h3), if_neg h4, if_neg h5]) rfl))))
end Go.Proofs.YtedlaclfhgneeabGreatDoor.Cd
namespace Go.Proofs.YtedlaclfhgneeabGreatDoor.Cd
open Go.RowKit
set_option linter.unusedVariables false
set_option linter.unusedSimpArgs false
set_option maxRecDepth 100000
set_option maxHeartbeats 2000000
set_option simprocs false
abbrev O := Nat → Int
def oz : O := fun _ => 0
instance : Inhabited O := ⟨oz⟩
abbrev oc (p : O) : List SV := [.int .i64 (p 0), .int .i64 (p 1), .int .i64 (p 2), .int .i64 (p 3), .int .i64 (p 4), .int .i64 (p 5), .int .i64 (p 6), .int .i64 (p 7), .int .i64 (p 8), .int .i64 (p 9), .int .i64 (p 10), .int .i64 (p 11), .int .i64 (p 12), .int .i64 (p 13), .int .i64 (p 14), .int .i64 (p 15), .int .i64 (p 16), .int .i64 (p 17), .int .i64 (p 18), .int .i64 (p 19), .int .i64 (p 20), .int .i64 (p 21), .int .i64 (p 22), .int .i64 (p 23), .int .i64 (p 24), .int .i64 (p 25), .int .i64 (p 26)]
def lx (p q : O) : Nat → Nat → Bool
 | 0, _ => false
 | f + 1, i => if p i = q i then lx p q f (i + 1) else decide (p i < q i)
def lessO (p q : O) : Bool := lx p q 27 0
def lxc (p q : O) : Nat → Nat → Int
 | 0, _ => 0
 | f + 1, i => if p i = q i then lxc p q f (i + 1) else if p i < q i then -1 else 1
def cmpO (p q : O) : Int := lxc p q 27 0
theorem lxc_lx (p q : O) : ∀ (f i : Nat), decide (lxc p q f i < 0) = lx p q f i
 | 0, _ => rfl
 | f + 1, i => by
   unfold lxc lx
   split
   · exact lxc_lx p q f (i + 1)
   · split
     · next h => rw [decide_eq_true h]; rfl
     · next h => rw [decide_eq_false h]; rfl
theorem cmp_less (p q : O) : decide (cmpO p q < 0) = lessO p q := lxc_lx p q 27 0
theorem lxc_add (p q : O) (n : Nat) : ∀ (m i : Nat), lxc p q (m + n) i = if lxc p q m i = 0 then lxc p q n (i + m) else lxc p q m i
 | 0, i => by simp [lxc]
 | m + 1, i => by
   rw [show m + 1 + n = (m + n) + 1 by omega, lxc, lxc]
   split
   · rw [lxc_add p q n m (i + 1), show i + 1 + m = i + (m + 1) by omega]
   · split
     · rfl
     · rfl
theorem cmpi_is (k m : Int) : cmpi0 k m = if k = m then 0 else if k < m then -1 else 1 := by
  have e1 : ¬ (k ≠ k) := fun h => h rfl
  have e2 : ¬ (m ≠ m) := fun h => h rfl
  unfold cmpi0
  rw [if_neg e1, if_neg e2]
  by_cases h : k = m
  · subst h; rw [if_neg (by omega), if_neg (by omega), if_pos rfl]
  · by_cases h2 : k < m
    · rw [if_pos h2, if_neg h, if_pos h2]
    · rw [if_neg h2, if_pos (by omega), if_neg h, if_neg h2]
theorem s24 (p : O) {t r : Nat} (ht : (t : Int) < 3) (hr : (r : Int) < 8) : [[p 0, p 1, p 2, p 3, p 4, p 5, p 6, p 7].getD ((r : Int)).toNat 0, [p 8, p 9, p 10, p 11, p 12, p 13, p 14, p 15].getD ((r : Int)).toNat 0, [p 16, p 17, p 18, p 19, p 20, p 21, p 22, p 23].getD ((r : Int)).toNat 0].getD ((t : Int)).toNat 0 = p (8 * t + r) := by
  have h : t = 0 ∨ t = 1 ∨ t = 2 := by omega
  have h' : r = 0 ∨ r = 1 ∨ r = 2 ∨ r = 3 ∨ r = 4 ∨ r = 5 ∨ r = 6 ∨ r = 7 := by omega
  rcases h with rfl | rfl | rfl <;> rcases h' with rfl | rfl | rfl | rfl | rfl | rfl | rfl | rfl <;> rfl
theorem s3 (p : O) {k : Nat} (hk : (k : Int) < 3) : [p 24, p 25, p 26].getD ((k : Int)).toNat 0 = p (24 + k) := by
  have h : k = 0 ∨ k = 1 ∨ k = 2 := by omega
  rcases h with rfl | rfl | rfl <;> rfl
structure CI (p q : O) (b m k : Nat) : Prop where
  le : k ≤ m
  eq : lxc p q m b = lxc p q (m - k) (b + k)
theorem CI.init {p q : O} {b m : Nat} : CI p q b m 0 := ⟨by omega, rfl⟩
theorem CI.at {p q : O} {b m k : Nat} (h : CI p q b m k) (hk : k < m) : lxc p q m b = if p (b + k) = q (b + k) then lxc p q (m - (k + 1)) (b + (k + 1)) else if p (b + k) < q (b + k) then -1 else 1 := by
  rw [h.eq, show m - k = (m - (k + 1)) + 1 by omega, lxc]; rfl
theorem CI.step {p q : O} {b m k : Nat} {x y : Int} (h : CI p q b m k) (hk : k < m) (e1 : x = p (b + k)) (e2 : y = q (b + k)) (e : cmpi0 x y = 0) : CI p q b m (k + 1) := by
  refine ⟨hk, ?_⟩
  rw [cmpi_is, e1, e2] at e
  rw [h.at hk]
  split at e
  · next hh => rw [if_pos hh]
  · split at e <;> cases e
theorem CI.stop {p q : O} {b m k : Nat} {x y : Int} (h : CI p q b m k) (hk : k < m) (e1 : x = p (b + k)) (e2 : y = q (b + k)) (e : cmpi0 x y ≠ 0) : cmpi0 x y = lxc p q m b := by
  rw [cmpi_is, e1, e2] at e ⊢
  rw [h.at hk]
  split at e
  · exact absurd rfl e
  · next hh => rw [if_neg hh, if_neg hh]
theorem CI.done {p q : O} {b m k : Nat} (h : CI p q b m k) (hk : ¬ k < m) : lxc p q m b = 0 := by
  rw [h.eq, show m - k = 0 by omega, lxc]
structure KI (p q : O) (t : Nat) : Prop where
  le : t ≤ 3
  eq : cmpO p q = lxc p q (27 - 8 * t) (8 * t)
theorem KI.step {p q : O} {t : Nat} (h : KI p q t) (ht : (t : Int) < 3) (e : lxc p q 8 (8 * t) = 0) : KI p q (t + 1) := by
  refine ⟨by omega, ?_⟩
  rw [h.eq, show 27 - 8 * t = 8 + (27 - 8 * (t + 1)) by omega, lxc_add, if_pos e]; rfl
theorem KI.stop {p q : O} {t : Nat} (h : KI p q t) (ht : (t : Int) < 3) (e : lxc p q 8 (8 * t) ≠ 0) : lxc p q 8 (8 * t) = cmpO p q := by
  rw [h.eq, show 27 - 8 * t = 8 + (27 - 8 * (t + 1)) by omega, lxc_add, if_neg e]
theorem KI.done {p q : O} {t : Nat} (h : KI p q t) (ht : ¬ (t : Int) < 3) : lxc p q 3 24 = cmpO p q := by
  have : t = 3 := by have := h.le; omega
  subst this
  rw [h.eq]
theorem cmp8_ (p : O) (q : O) (t : Nat) (ht : (t : Int) < 3) : Fn Tryz.prog 209 [.sp (.ix (.ptr 0 0) 8 3 (t : Int) 0) 8 8, .sp (.ix (.ptr 1 0) 8 3 (t : Int) 0) 8 8] [some (.blk (oc p)), some (.blk (oc q))] (Rt (.int .i64 (lxc p q 8 (8 * t))) [some (.blk (oc p)), some (.blk (oc q))]) :=
 enterM (n := 36) (by kernel_rfl) Tryz.func209 rfl rfl rfl fun G w a h0 A => N hX 14 A rfl rfl fun A => LOOP1 (fun (r : Nat) => [(0, .sp (.ix (.ptr 0 0) 8 3 (t : Int) 0) 8 8), (1, .sp (.ix (.ptr 1 0) 8 3 (t : Int) 0) 8 8), (4, .int .i64 0), (9, .sp (.ix (.ptr 0 0) 8 3 (t : Int) 0) 8 8), (10, .int .i64 ((8 : Nat) : Int)), (11, .int .i64 (r : Int))]) (fun (r : Nat) => [some (.blk (oc p)), some (.blk (oc q))]) (fun (r : Nat) => CI p q (8 * t) 8 r) (fun (r : Nat) => 8 - r) 0 CI.init ((A.cut [0, 1, 4, 9, 10, 11] rfl).trunc 2 rfl rfl rfl (by simp only [List.length_cons, List.length_nil] at h0; omega)) fun r hI {G a w} A => N hX 6 A rfl rfl fun A => forkD 12 A rfl
   (fun h1 A => N hX 16 A rfl (ok_d (by omega) <| ok_d (by omega) <| ok_d (by omega) <| okE_nil) fun A => N hX 7 A rfl rfl fun A => forkD 19 A rfl
    (fun h2 A => N hX 7 A rfl rfl fun A => RETN hX A rfl rfl rfl h0 rfl rfl rfl rfl (absurd h2 (by omega)) rfl)
    (fun h2 A => N hX 13 A rfl (ok_d (by omega) <| ok_d (by omega) <| ok_d (by omega) <| okE_nil) fun A => N hX 3 A rfl rfl fun A => CALL1 [] (cmpi_ ([[(p 0), (p 1), (p 2), (p 3), (p 4), (p 5), (p 6), (p 7)].getD ((r : Int)).toNat 0, [(p 8), (p 9), (p 10), (p 11), (p 12), (p 13), (p 14), (p 15)].getD ((r : Int)).toNat 0, [(p 16), (p 17), (p 18), (p 19), (p 20), (p 21), (p 22), (p 23)].getD ((r : Int)).toNat 0].getD ((t : Int)).toNat 0) ([[(q 0), (q 1), (q 2), (q 3), (q 4), (q 5), (q 6), (q 7)].getD ((r : Int)).toNat 0, [(q 8), (q 9), (q 10), (q 11), (q 12), (q 13), (q 14), (q 15)].getD ((r : Int)).toNat 0, [(q 16), (q 17), (q 18), (q 19), (q 20), (q 21), (q 22), (q 23)].getD ((r : Int)).toNat 0].getD ((t : Int)).toNat 0)) A rfl rfl rfl rfl rfl rfl rfl fun A => N hX 9 A rfl rfl fun A => forkN 28 A rfl
     (fun h3 A => N hX 8 A rfl rfl fun A => RETN hX A rfl rfl rfl h0 rfl rfl rfl rfl (by rw [hI.stop (by omega) (s24 p ht (by omega)) (s24 q ht (by omega)) h3]; rfl) rfl)
     (fun h3 A => N hX 8 A rfl (ok_d (by omega) <| okE_nil) fun A => ⟨r + 1, _, (by omega), (hI.step (by omega) (s24 p ht (by omega)) (s24 q ht (by omega)) h3), ((A.cut [0, 1, 4, 9, 10, 11] rfl).trunc 2 rfl rfl rfl (by simp only [List.length_cons, List.length_nil] at h0; omega))⟩)))
   (fun h1 A => N hX 13 A rfl rfl fun A => forkD 35 A rfl
    (fun h4 A => N hX 7 A rfl rfl fun A => RETN hX A rfl rfl rfl h0 rfl rfl rfl rfl (absurd h4 (by omega)) rfl)
    (fun h4 A => N hX 9 A rfl rfl fun A => RETN hX A rfl rfl rfl h0 rfl rfl rfl rfl (by rw [hI.done (by omega)]; rfl) rfl))
theorem cmp3_ (p : O) (q : O)  : Fn Tryz.prog 209 [.sp (.ptr 0 24) 3 3, .sp (.ptr 1 24) 3 3] [some (.blk (oc p)), some (.blk (oc q))] (Rt (.int .i64 (lxc p q 3 24)) [some (.blk (oc p)), some (.blk (oc q))]) :=
 enterM (n := 36) (by kernel_rfl) Tryz.func209 rfl rfl rfl fun G w a h0 A => N hX 14 A rfl rfl fun A => LOOP1 (fun (k : Nat) => [(0, .sp (.ptr 0 24) 3 3), (1, .sp (.ptr 1 24) 3 3), (4, .int .i64 0), (9, .sp (.ptr 0 24) 3 3), (10, .int .i64 ((3 : Nat) : Int)), (11, .int .i64 (k : Int))]) (fun (k : Nat) => [some (.blk (oc p)), some (.blk (oc q))]) (fun (k : Nat) => CI p q 24 3 k) (fun (k : Nat) => 3 - k) 0 CI.init ((A.cut [0, 1, 4, 9, 10, 11] rfl).trunc 2 rfl rfl rfl (by simp only [List.length_cons, List.length_nil] at h0; omega)) fun k hI {G a w} A => N hX 6 A rfl rfl fun A => forkD 12 A rfl
   (fun h1 A => N hX 16 A rfl (ok_d (by omega) <| ok_d (by omega) <| okE_nil) fun A => N hX 7 A rfl rfl fun A => forkD 19 A rfl
    (fun h2 A => N hX 7 A rfl rfl fun A => RETN hX A rfl rfl rfl h0 rfl rfl rfl rfl (absurd h2 (by omega)) rfl)
    (fun h2 A => N hX 13 A rfl (ok_d (by omega) <| ok_d (by omega) <| okE_nil) fun A => N hX 3 A rfl rfl fun A => CALL1 [] (cmpi_ ([(p 24), (p 25), (p 26)].getD ((k : Int)).toNat 0) ([(q 24), (q 25), (q 26)].getD ((k : Int)).toNat 0)) A rfl rfl rfl rfl rfl rfl rfl fun A => N hX 9 A rfl rfl fun A => forkN 28 A rfl
     (fun h3 A => N hX 8 A rfl rfl fun A => RETN hX A rfl rfl rfl h0 rfl rfl rfl rfl (by rw [hI.stop (by omega) (s3 p (by omega)) (s3 q (by omega)) h3]; rfl) rfl)
     (fun h3 A => N hX 8 A rfl (ok_d (by omega) <| okE_nil) fun A => ⟨k + 1, _, (by omega), (hI.step (by omega) (s3 p (by omega)) (s3 q (by omega)) h3), ((A.cut [0, 1, 4, 9, 10, 11] rfl).trunc 2 rfl rfl rfl (by simp only [List.length_cons, List.length_nil] at h0; omega))⟩)))
   (fun h1 A => N hX 13 A rfl rfl fun A => forkD 35 A rfl
    (fun h4 A => N hX 7 A rfl rfl fun A => RETN hX A rfl rfl rfl h0 rfl rfl rfl rfl (absurd h4 (by omega)) rfl)
    (fun h4 A => N hX 9 A rfl rfl fun A => RETN hX A rfl rfl rfl h0 rfl rfl rfl rfl (by rw [hI.done (by omega)]; rfl) rfl))
theorem compare_ (p : O) (q : O)  : Fn Tryz.prog 163 [.agg (oc p), .agg (oc q)] [] (Rt (.int .i64 (cmpO p q)) []) :=
 enterM (n := 28) (by kernel_rfl) Tryz.func163 rfl rfl rfl fun G w a h0 A => N hX 14 A rfl rfl fun A => LOOP1 (fun (t : Nat) => [(2, .ptr 0 0), (3, .ptr 1 0), (4, .int .i64 0), (7, .int .i64 (t : Int))]) (fun (t : Nat) => [some (.blk (oc p)), some (.blk (oc q))]) (fun (t : Nat) => KI p q t) (fun (t : Nat) => 3 - t) 0 ⟨by omega, rfl⟩ ((A.cut [2, 3, 4, 7] rfl).trunc 2 rfl rfl rfl (by simp only [List.length_cons, List.length_nil] at h0; omega)) fun t hI {G a w} A => N hX 6 A rfl rfl fun A => forkD 8 A rfl
   (fun h1 A => N hX 12 A rfl rfl fun A => DRAWN hX hmo [] [(8, .int .i64 (lxc p q 8 (8 * t)), [some (.blk (oc p)), some (.blk (oc q))])] A rfl (ok_d (by omega) <| ok_d (by omega) <| ok_d (by omega) <| ok_d (by omega) <| okE_nil) rfl rfl (by kernel_rfl) ⟨callE [0, 1] (cmp8_ p q t h1) rfl rfl rfl rfl rfl rfl rfl, trivial⟩ trivial fun A => N hX 7 A rfl rfl fun A => forkN 20 A rfl
    (fun h2 A => N hX 8 A rfl rfl fun A => RETN hX A rfl rfl rfl h0 rfl rfl rfl rfl (by rw [hI.stop h1 h2]; rfl) rfl)
    (fun h2 A => N hX 8 A rfl (ok_d (by omega) <| okE_nil) fun A => ⟨t + 1, _, (by omega), (hI.step h1 h2), ((A.cut [2, 3, 4, 7] rfl).trunc 2 rfl rfl rfl (by simp only [List.length_cons, List.length_nil] at h0; omega))⟩))
   (fun h1 A => N hX 4 A rfl rfl fun A => DRAWN hX hmo [] [(4, .int .i64 (lxc p q 3 24), [some (.blk (oc p)), some (.blk (oc q))])] A rfl rfl rfl rfl (by kernel_rfl) ⟨callE [0, 1] (cmp3_ p q) rfl rfl rfl rfl rfl rfl rfl, trivial⟩ trivial fun A => N hX 2 A rfl rfl fun A => RETN hX A rfl rfl rfl h0 rfl rfl rfl rfl (by rw [hI.done h1]; rfl) rfl)
end Go.Proofs.YtedlaclfhgneeabGreatDoor.Cd
namespace Go.Proofs.YtedlaclfhgneeabGreatDoor.Cd
open Go.RowKit
set_option linter.unusedVariables false
set_option linter.unusedSimpArgs false
set_option maxRecDepth 100000
set_option maxHeartbeats 2000000
set_option simprocs false
open Go.Sort
theorem jlt {p : Prop} [Decidable p] {b : Bool} (h : (decide p && b) = true) : p := by rw [Bool.and_eq_true, decide_eq_true_eq] at h; exact h.1
theorem jrt {b c : Bool} (h : (b && c) = true) : c = true := by rw [Bool.and_eq_true] at h; exact h.2
theorem aset_ne {d : Array O} {k z : Nat} {v : O} (h : z ≠ k) : (d.setIfInBounds k v)[z]! = d[z]! := by
  simp only [Array.getElem!_eq_getD, Array.getD_eq_getD_getElem?]
  rw [Array.getElem?_setIfInBounds_ne (Ne.symm h)]
theorem aset_at {d : Array O} {k : Nat} {v : O} (h : k < d.size) : (d.setIfInBounds k v)[k]! = v := by
  simp only [Array.getElem!_eq_getD, Array.getD_eq_getD_getElem?]
  rw [Array.getElem?_setIfInBounds_self_of_lt h]; rfl
theorem asz {d : Array O} {k : Nat} {v : O} : (d.setIfInBounds k v).size = d.size := by simp
theorem swp_sz (d : Array O) (i j : Nat) : (swp d i j).size = d.size := by simp [swp]
theorem swp_is {d : Array O} {x y : Int} {i j : Nat} (hi : x.toNat = i) (hj : y.toNat = j) : (d.setIfInBounds x.toNat (d[y.toNat]!)).setIfInBounds y.toNat (d[x.toNat]!) = swp d i j := by subst hi; subst hj; rfl
structure SO (d : Array O) (a b : Nat) (dk : Array O) (i : Nat) : Prop where
  sz : dk.size = d.size
  le : a + 1 ≤ i
  eq : insOuter lessO a b i dk = insertionSort lessO d a b
structure SJ (d : Array O) (a i : Nat) (dk dj : Array O) (j : Nat) : Prop where
  sz : dj.size = d.size
  le : j ≤ i
  eq : insInner lessO a j dj = insInner lessO a i dk
theorem SJ.step {d dk dj : Array O} {a i j : Nat} (h : SJ d a i dk dj j) (hc : (decide ((j : Int) > (a : Int)) && decide (cmpO (dj[((j : Int)).toNat]!) (dj[((j : Int) - 1).toNat]!) < 0)) = true) :
    SJ d a i dk ((dj.setIfInBounds ((j : Int)).toNat (dj[((j : Int) - 1).toNat]!)).setIfInBounds ((j : Int) - 1).toNat (dj[((j : Int)).toNat]!)) (j - 1) := by
  have h1 := jlt hc
  have h2 := jrt hc
  rw [cmp_less] at h2
  obtain ⟨k, rfl⟩ : ∃ k, j = k + 1 := ⟨j - 1, by omega⟩
  have e1 : (((k + 1 : Nat) : Int) - 1).toNat = k := by omega
  have e2 : (((k + 1 : Nat) : Int)).toNat = k + 1 := by omega
  rw [swp_is e2 e1]
  rw [e1, e2] at h2
  refine ⟨by rw [swp_sz, h.sz], by have := h.le; omega, ?_⟩
  rw [← h.eq, insInner, h2]
  rw [if_pos (by simp; omega)]; rfl
theorem SJ.stop {d dk dj : Array O} {a i j : Nat} (h : SJ d a i dk dj j) (hc : (decide ((j : Int) > (a : Int)) && decide (cmpO (dj[((j : Int)).toNat]!) (dj[((j : Int) - 1).toNat]!) < 0)) = false) : insInner lessO a i dk = dj := by
  rw [cmp_less] at hc
  rw [← h.eq]
  cases j with
  | zero => rfl
  | succ k =>
    have e1 : (((k + 1 : Nat) : Int) - 1).toNat = k := by omega
    have e2 : (((k + 1 : Nat) : Int)).toNat = k + 1 := by omega
    rw [e1, e2] at hc
    rw [insInner, if_neg]
    intro h2
    rw [Bool.and_eq_true] at h2
    rw [h2.2, Bool.and_true, decide_eq_false_iff_not] at hc
    have := of_decide_eq_true h2.1
    omega
theorem SO.step {d dk dj : Array O} {a b i j : Nat} (h : SO d a b dk i) (hi : (i : Int) < (b : Int)) (hJ : SJ d a i dk dj j) (e : insInner lessO a i dk = dj) : SO d a b dj (i + 1) := by
  refine ⟨hJ.sz, by have := h.le; omega, ?_⟩
  rw [← h.eq]
  conv => rhs; unfold insOuter
  rw [if_pos (by omega), e]
theorem SO.done {d dk : Array O} {a b i : Nat} (h : SO d a b dk i) (hi : ¬ (i : Int) < (b : Int)) : insertionSort lessO d a b = dk := by
  rw [← h.eq]
  unfold insOuter
  rw [if_neg (by omega)]
theorem isort_ (d : Array O) (nn aa b : Nat) (hn : d.size = nn) (hs : nn ≤ 1000000) (ha : aa ≤ nn) (hb : b ≤ nn) : Fn Tryz.prog 242 [.sl 0 nn 0, .int .i64 (aa : Int), .int .i64 (b : Int), .fn 163 []] [some (.row 93 27 nn 0 (fun zz => oc (d[zz]!)))] (Rt (.tup []) [some (.row 93 27 nn 0 (fun zz => oc ((Go.Sort.insertionSort lessO d aa b)[zz]!)))]) :=
 enterM (n := 53) (by kernel_rfl) Tryz.func242 rfl rfl rfl fun G w a h0 A => N hX 8 A rfl (ok_d (by (try have := hI.le); (try have := hJ.le); omega) <| okE_nil) fun A => LOOP2 (fun (i : Nat) (dk : Array O) => [(0, .sl 0 nn 0), (1, .int .i64 (aa : Int)), (2, .int .i64 (b : Int)), (3, .fn 163 []), (8, .int .i64 (i : Int))]) (fun (i : Nat) (dk : Array O) => [some (.row 93 27 nn 0 (fun zz => oc (dk[zz]!)))]) (fun (i : Nat) (dk : Array O) => SO d aa b dk i) (fun (i : Nat) (dk : Array O) => b - i) (aa + 1) d ⟨rfl, Nat.le_refl _, rfl⟩ ((A.cut [0, 1, 2, 3, 8] rfl).trunc 1 rfl rfl rfl (by simp only [List.length_cons, List.length_nil] at h0; omega)) fun i dk hI {G a w} A => N hX 8 A rfl rfl fun A => forkD 14 A rfl
   (fun h1 A => N hX 12 A rfl rfl fun A => LOOP2 (fun (j : Nat) (dj : Array O) => [(0, .sl 0 nn 0), (1, .int .i64 (aa : Int)), (2, .int .i64 (b : Int)), (3, .fn 163 []), (8, .int .i64 (i : Int)), (9, .int .i64 (j : Int))]) (fun (j : Nat) (dj : Array O) => [some (.row 93 27 nn 0 (fun zz => oc (dj[zz]!)))]) (fun (j : Nat) (dj : Array O) => SJ d aa i dk dj j) (fun (j : Nat) (dj : Array O) => j) i dk ⟨hI.sz, Nat.le_refl _, rfl⟩ ((A.cut [0, 1, 2, 3, 8, 9] rfl).trunc 1 rfl rfl rfl (by simp only [List.length_cons, List.length_nil] at h0; omega)) fun j dj hJ {G a w} A => N hX 2 A rfl rfl fun A => DRAWN hX hmo [(14, .opt (decide ((j : Int) > (aa : Int))) (.int .i64 (cmpO (dj[((j : Int)).toNat]!) (dj[((j : Int) - 1).toNat]!))))] [] A rfl (ok_r <| ok_r <| ok_g (fun hg => (by (try have := hI.le); (try have := hJ.le); have := of_decide_eq_true hg; omega)) <| ok_r <| ok_g (fun hg => (by (try have := hI.le); (try have := hJ.le); have := of_decide_eq_true hg; omega)) <| ok_r <| ok_g (fun hg => (by (try have := hI.le); (try have := hJ.le); have := of_decide_eq_true hg; omega)) <| ok_r <| ok_r <| ok_g (fun hg => (by (try have := hI.le); (try have := hJ.le); have := of_decide_eq_true hg; omega)) <| ok_r <| ok_g (fun hg => (by (try have := hI.le); (try have := hJ.le); have := of_decide_eq_true hg; omega)) <| ok_r <| ok_r <| okE_nil) rfl rfl (by kernel_rfl) (effAll_nil _ _) ⟨.inr ⟨_, _, _, _, _, _, rfl, rfl, rfl, rfl, rfl, fun hg => compare_ (dj[((j : Int)).toNat]!) (dj[((j : Int) - 1).toNat]!)⟩, trivial⟩ fun A => N hX 1 A rfl rfl fun A => fork 34 A rfl
     (fun h2 A => N hX 5 A rfl rfl fun A => DRAWN hX hmo [] [(15, .tup [], [some (.row 93 27 nn 0 (fun zz => oc ((dj.setIfInBounds ((j : Int)).toNat (dj[((j : Int) - 1).toNat]!))[zz]!)))]), (17, .tup [], [some (.row 93 27 nn 0 (fun zz => oc (((dj.setIfInBounds ((j : Int)).toNat (dj[((j : Int) - 1).toNat]!)).setIfInBounds ((j : Int) - 1).toNat (dj[((j : Int)).toNat]!))[zz]!)))])] A rfl (ok_d (by (try have := hI.le); (try have := hJ.le); have := jlt h2; omega) <| ok_d (by (try have := hI.le); (try have := hJ.le); have := jlt h2; omega) <| ok_d (by (try have := hI.le); (try have := hJ.le); have := jlt h2; omega) <| ok_d (by (try have := hI.le); (try have := hJ.le); have := jlt h2; omega) <| ok_d (by (try have := hI.le); (try have := hJ.le); have := jlt h2; omega) <| ok_d (by (try have := hI.le); (try have := hJ.le); have := jlt h2; omega) <| ok_d (by (try have := hI.le); (try have := hJ.le); have := jlt h2; omega) <| ok_d (by (try have := hI.le); (try have := hJ.le); have := jlt h2; omega) <| ok_d (by (try have := hI.le); (try have := hJ.le); have := jlt h2; omega) <| ok_d (by (try have := hI.le); (try have := hJ.le); have := jlt h2; omega) <| okE_nil) rfl rfl (by kernel_rfl) ⟨strE (i := 0) (e := 93) (s := 27) (m := nn) (c := 0) hX (((j : Int)).toNat) (fun zz => oc ((dj.setIfInBounds ((j : Int)).toNat (dj[((j : Int) - 1).toNat]!))[zz]!)) rfl rfl rfl (by (try have := hI.le); (try have := hJ.le); have := jlt h2; omega) (fun z hz => by show oc _ = oc _; rw [aset_ne hz]) (by show _ = some (oc _); rw [aset_at (by (try simp only [asz]); rw [hJ.sz, hn]; (try have := hI.le); (try have := hJ.le); have := jlt h2; omega)]; rfl), ⟨strE (i := 0) (e := 93) (s := 27) (m := nn) (c := 0) hX (((j : Int) - 1).toNat) (fun zz => oc (((dj.setIfInBounds ((j : Int)).toNat (dj[((j : Int) - 1).toNat]!)).setIfInBounds ((j : Int) - 1).toNat (dj[((j : Int)).toNat]!))[zz]!)) rfl rfl rfl (by (try have := hI.le); (try have := hJ.le); have := jlt h2; omega) (fun z hz => by show oc _ = oc _; rw [aset_ne hz]) (by show _ = some (oc _); rw [aset_at (by (try simp only [asz]); rw [hJ.sz, hn]; (try have := hI.le); (try have := hJ.le); have := jlt h2; omega)]; rfl), trivial⟩⟩ trivial fun A => N hX 7 A rfl (ok_d (by (try have := hI.le); (try have := hJ.le); have := jlt h2; omega) <| okE_nil) fun A => ⟨j - 1, (dj.setIfInBounds ((j : Int)).toNat (dj[((j : Int) - 1).toNat]!)).setIfInBounds ((j : Int) - 1).toNat (dj[((j : Int)).toNat]!), _, (by have := jlt h2; omega), (hJ.step h2), ((A.cut [0, 1, 2, 3, 8, 9] rfl).trunc 1 rfl rfl rfl (by simp only [List.length_cons, List.length_nil] at h0; omega)).sayT (by rw [show ((j - 1 : Nat) : Int) = (j : Int) - 1 by have := jlt h2; omega])⟩)
     (fun h2 A => N hX 9 A rfl (ok_d (by (try have := hI.le); (try have := hJ.le); omega) <| okE_nil) fun A => ⟨i + 1, dj, _, (by omega), (hI.step h1 hJ (hJ.stop h2)), ((A.cut [0, 1, 2, 3, 8] rfl).trunc 1 rfl rfl rfl (by simp only [List.length_cons, List.length_nil] at h0; omega))⟩))
   (fun h1 A => N hX 2 A rfl rfl fun A => ENDN (RETN hX A rfl rfl rfl h0 rfl rfl rfl rfl rfl (by rw [hI.done h1]; rfl)))
theorem isort_i {xaa xb : Int} (d : Array O) (nn aa b : Nat) (eaa : xaa = (aa : Int)) (eb : xb = (b : Int)) (hn : d.size = nn) (hs : nn ≤ 1000000) (ha : aa ≤ nn) (hb : b ≤ nn) : Fn Tryz.prog 242 [.sl 0 nn 0, .int .i64 xaa, .int .i64 xb, .fn 163 []] [some (.row 93 27 nn 0 (fun zz => oc (d[zz]!)))] (Rt (.tup []) [some (.row 93 27 nn 0 (fun zz => oc ((Go.Sort.insertionSort lessO d aa b)[zz]!)))]) := by
  subst eaa; subst eb; exact isort_ d nn aa b hn hs ha hb
end Go.Proofs.YtedlaclfhgneeabGreatDoor.Cd
