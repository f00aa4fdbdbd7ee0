/- ArmParses, part 5: the engine, contracts, theory. -/
import Derived.Test.YtedlaclfhgneeabGreatDoorArmParsesP4
import Derived.Shelf.Spec.SlicesGrow
import Derived.LoopN
namespace Go.Proofs.YtedlaclfhgneeabGreatDoor
open Go.RowKit
set_option linter.unusedVariables false
set_option linter.unusedSimpArgs false
set_option maxRecDepth 100000
set_option maxHeartbeats 2000000
set_option simprocs false
def regsA : List (List UInt8) := [[88, 48], [88, 49], [88, 50], [88, 51], [88, 52], [88, 53], [88, 54], [88, 55]]
def nameA (r : Int) : List UInt8 := if r < 0 then [] else (regsA[r.toNat]?).getD []
def regA (q : List UInt8) : Int := Old.idxL regsA q 0
def alusA : List (List UInt8) := [[65, 68, 68], [83, 85, 66], [69, 79, 82], [65, 78, 68], [79, 82, 82]]
def aluA (q : List UInt8) : Int := idxS alusA q + 1
def tailsA : List (List UInt8) := [[66], [72], [87], []]
def szA (q h : List UInt8) : Int := if preB q h then Old.szI (Old.idxL tailsA (q.drop h.length) 0) else 0
def endsA : List (List UInt8) := [[], [65], [76], [65, 76]]
def ordA (q h : List UInt8) : Int × Bool × Bool := if szA q (h ++ []) > 0 then (szA q (h ++ []), false, false) else if szA q (h ++ [65]) > 0 then (szA q (h ++ [65]), true, false) else if szA q (h ++ [76]) > 0 then (szA q (h ++ [76]), false, true) else if szA q (h ++ [65, 76]) > 0 then (szA q (h ++ [65, 76]), true, true) else (0, false, false)
theorem nameA_o {g : Int} (h : ((decide (g < 0)) || (decide (g > 7))) = true) : nameA g = [] := by
  unfold nameA
  simp only [Bool.or_eq_true, decide_eq_true_eq] at h
  rcases h with h | h
  · rw [if_pos h]
  · rw [if_neg (by omega), List.getElem?_eq_none (by show regsA.length ≤ _; have : regsA.length = 8 := rfl; omega)]; rfl
theorem nameA_i {g : Int} (h : ((decide (g < 0)) || (decide (g > 7))) = false) : nameA g = [88] ++ (([48, 49, 50, 51, 52, 53, 54, 55] : List UInt8).take (g + 1).toNat).drop g.toNat := by
  simp only [Bool.or_eq_false_iff, decide_eq_false_iff_not] at h
  have : g = 0 ∨ g = 1 ∨ g = 2 ∨ g = 3 ∨ g = 4 ∨ g = 5 ∨ g = 6 ∨ g = 7 := by omega
  rcases this with e | e | e | e | e | e | e | e <;> subst e <;> rfl
theorem nameA_k (k : Nat) (h : k < 8) : nameA (k : Int) = regsA.getD k [] := by
  have : k = 0 ∨ k = 1 ∨ k = 2 ∨ k = 3 ∨ k = 4 ∨ k = 5 ∨ k = 6 ∨ k = 7 := by omega
  rcases this with e | e | e | e | e | e | e | e <;> subst e <;> rfl
theorem regsA_ne (k : Nat) (h : k < 8) : regsA.getD k [] ≠ [] := by
  have : k = 0 ∨ k = 1 ∨ k = 2 ∨ k = 3 ∨ k = 4 ∨ k = 5 ∨ k = 6 ∨ k = 7 := by omega
  rcases this with e | e | e | e | e | e | e | e <;> subst e <;> decide
theorem rgA_no1 {q : List UInt8} {k : Nat} (h : k < 8) (h1 : nameA (k : Int) ≠ q) : (q == regsA.getD k []) = false := by
  rw [nameA_k k h] at h1
  exact beq_eq_false_iff_ne.2 fun e => h1 e.symm
theorem rgA_no2 {q : List UInt8} {k : Nat} (h : k < 8) (h1 : q = []) : (q == regsA.getD k []) = false := by
  rw [h1]; exact beq_eq_false_iff_ne.2 fun e => regsA_ne k h e.symm
theorem rgA_yes {q : List UInt8} {k : Nat} (h : k < 8) (h1 : nameA (k : Int) = q) : (q == regsA.getD k []) = true := by
  rw [nameA_k k h] at h1
  rw [h1]; exact beq_self_eq_true q
theorem szI_le (k : Int) : 0 ≤ Old.szI k ∧ Old.szI k ≤ 8 := by
  unfold Old.szI
  (repeat' split) <;> omega
theorem szA_le (q h : List UInt8) : 0 ≤ szA q h ∧ szA q h ≤ 8 := by
  unfold szA; split
  · exact szI_le _
  · omega
theorem ordA_le (q h : List UInt8) : 0 ≤ (ordA q h).1 ∧ (ordA q h).1 ≤ 8 := by
  unfold ordA
  (repeat' split) <;> first | exact szA_le _ _ | decide
theorem ends_len (k : Nat) : (([[], [65], [76], [65, 76]] : List (List UInt8)).getD k []).length ≤ 2 := by
  rcases k with _ | _ | _ | _ | k <;> first | decide | exact (by decide : ([] : List UInt8).length ≤ 2)
structure OrI (q h : List UInt8) (k : Nat) : Prop where
  le : k ≤ 4
  no : ∀ j, j < k → ¬ szA q (h ++ endsA.getD j []) > 0
theorem OrI.i0 {q h : List UInt8} : OrI q h 0 := ⟨by omega, fun j hj => by omega⟩
theorem OrI.nx {q h : List UInt8} {k : Nat} (hI : OrI q h k) (hk : k < 4) (h1 : ¬ szA q (h ++ endsA.getD k []) > 0) : OrI q h (k + 1) := ⟨by omega, fun j hj => by
  by_cases e : j = k
  · subst e; exact h1
  · exact hI.no j (by omega)⟩
theorem OrI.fi {q h : List UInt8} {k : Nat} (hI : OrI q h k) (hk : 4 ≤ k) : ordA q h = (0, false, false) := by
  have a0 : ¬ szA q (h ++ []) > 0 := hI.no 0 (by omega)
  have a1 : ¬ szA q (h ++ [65]) > 0 := hI.no 1 (by omega)
  have a2 : ¬ szA q (h ++ [76]) > 0 := hI.no 2 (by omega)
  have a3 : ¬ szA q (h ++ [65, 76]) > 0 := hI.no 3 (by omega)
  unfold ordA; rw [if_neg a0, if_neg a1, if_neg a2, if_neg a3]
theorem OrI.hit {q h : List UInt8} {k : Nat} (hI : OrI q h k) (hk : k < 4) (h1 : szA q (h ++ endsA.getD k []) > 0) : ordA q h = (szA q (h ++ endsA.getD k []), (((k : Int) == 1) || ((k : Int) == 3)), decide ((k : Int) ≥ 2)) := by
  have this : k = 0 ∨ k = 1 ∨ k = 2 ∨ k = 3 := by omega
  rcases this with e | e | e | e
  · subst e
    have b : szA q (h ++ []) > 0 := h1
    unfold ordA; rw [if_pos b]; rfl
  · subst e
    have b : szA q (h ++ [65]) > 0 := h1
    unfold ordA; rw [if_neg (show ¬ szA q (h ++ []) > 0 from hI.no 0 (by omega)), if_pos b]; rfl
  · subst e
    have b : szA q (h ++ [76]) > 0 := h1
    unfold ordA; rw [if_neg (show ¬ szA q (h ++ []) > 0 from hI.no 0 (by omega)), if_neg (show ¬ szA q (h ++ [65]) > 0 from hI.no 1 (by omega)), if_pos b]; rfl
  · subst e
    have b : szA q (h ++ [65, 76]) > 0 := h1
    unfold ordA; rw [if_neg (show ¬ szA q (h ++ []) > 0 from hI.no 0 (by omega)), if_neg (show ¬ szA q (h ++ [65]) > 0 from hI.no 1 (by omega)), if_neg (show ¬ szA q (h ++ [76]) > 0 from hI.no 2 (by omega)), if_pos b]; rfl
def immAr (L : List Tk) (s : Old.Rs) : Old.Rs × Int := Old.numS L (Old.markR L [35] s)
def barA (L : List Tk) (s : Old.Rs) : Old.Rs × Int × Int := match L[s.p]? with
    | some y => if y.kind == 1 && y.text == [83, 89] then (⟨s.e, s.a, s.p + 1⟩, 3, 3) else if y.kind == 1 && y.text == [76, 68] then (⟨s.e, s.a, s.p + 1⟩, 1, 3) else if y.kind == 1 && y.text == [83, 84] then (⟨s.e, s.a, s.p + 1⟩, 2, 2) else (Old.oddR L true s, 3, 3)
    | none => (Old.oddR L true s, 3, 3)
def threeA (rf : List UInt8 → Int) (L : List Tk) (s : Old.Rs) (i : Old.Ins) : Old.Rs × Old.Ins := memG rf L (Old.markR L [44] (regG rf L (Old.markR L [44] (regG rf L s).1)).1) { i with a := (regG rf L s).2, dst := (regG rf L (Old.markR L [44] (regG rf L s).1)).2 }
theorem rname_a (g : Int)  : Fn Tryz.prog 15 [.int .i64 3, .int .i64 g] [] (Rt (.str (nameA g)) []) :=
 enterM (n := 37) (by kernel_rfl) Tryz.func15 rfl rfl rfl fun G w a h0 A => N hX 16 A rfl rfl fun A => fork 12 A rfl
  (fun h1 A => N hX 7 A rfl rfl fun A => RETN hX A rfl rfl rfl h0 rfl rfl rfl rfl (by rw [nameA_o h1]; rfl) rfl)
  (fun h1 A => N hX 27 A rfl rfl fun A => forkE 15 A rfl
   (fun h2 A => absurd h2 (by decide))
   (fun h2 A => N hX 7 A rfl rfl fun A => forkE 21 A rfl
    (fun h3 A => absurd h3 (by decide))
    (fun h3 A => N hX 7 A rfl rfl fun A => forkE 29 A rfl
     (fun h4 A => N hX 13 A rfl (ok_d (by have hz := h1; simp only [Bool.or_eq_false_iff, decide_eq_false_iff_not] at hz; (try simp only [List.length_cons, List.length_nil, List.length_drop, List.length_take]); omega) <| ok_d (by have hz := h1; simp only [Bool.or_eq_false_iff, decide_eq_false_iff_not] at hz; (try simp only [List.length_cons, List.length_nil, List.length_drop, List.length_take]); omega) <| ok_d (by have hz := h1; simp only [Bool.or_eq_false_iff, decide_eq_false_iff_not] at hz; (try simp only [List.length_cons, List.length_nil, List.length_drop, List.length_take]); omega) <| okE_nil) fun A => RETN hX A rfl rfl rfl h0 rfl rfl rfl rfl (by rw [nameA_i h1]; rfl) rfl)
     (fun h4 A => absurd rfl h4))))
theorem rregn_a (q : List UInt8)  : Fn Tryz.prog 17 [.int .i64 3, .str q] [] (Rt (.int .i64 (regA q)) []) :=
 enterM (n := 20) (by kernel_rfl) Tryz.func17 rfl rfl rfl fun G w a h0 A => N hX 12 A rfl rfl fun A => LOOP1 (fun (k : Nat) => [(0, .int .i64 3), (1, .str q), (4, .int .i64 0), (5, .int .i64 (k : Int))]) (fun (k : Nat) => []) (fun (k : Nat) => IxI regsA q k) (fun (k : Nat) => 8 - k) 0 IxI.i0 ((A.cut [0, 1, 4, 5] rfl).trunc 0 rfl rfl rfl (by simp only [List.length_cons, List.length_nil] at h0; omega)) fun k hI {G a w} A => N hX 7 A rfl rfl fun A => forkD 7 A rfl
   (fun h1 A => N hX 10 A rfl rfl fun A => forkN 12 A rfl
    (fun h2 A => N hX 2 A rfl rfl fun A => CALL1 [] (rname_a (k : Int)) A rfl rfl rfl rfl rfl rfl rfl fun A => N hX 5 A rfl rfl fun A => forkE 18 A rfl
     (fun h3 A => N hX 8 A rfl rfl fun A => RETN hX A rfl rfl rfl h0 rfl rfl rfl rfl (by unfold regA; rw [← idxS_L, hI.hit (by show k < 8; omega) (rgA_yes (by omega) h3)]; rfl) rfl)
     (fun h3 A => N hX 9 A rfl (ok_d (by have := hI.le; have e : regsA.length = 8 := rfl; omega) <| okE_nil) fun A => ⟨k + 1, _, (by omega), (hI.nx (by show k < 8; omega) (rgA_no1 (by omega) h3)), ((A.cut [0, 1, 4, 5] rfl).trunc 0 rfl rfl rfl (by simp only [List.length_cons, List.length_nil] at h0; omega))⟩))
    (fun h2 A => N hX 17 A rfl (ok_d (by have := hI.le; have e : regsA.length = 8 := rfl; omega) <| okE_nil) fun A => ⟨k + 1, _, (by omega), (hI.nx (by show k < 8; omega) (rgA_no2 (by omega) h2)), ((A.cut [0, 1, 4, 5] rfl).trunc 0 rfl rfl rfl (by simp only [List.length_cons, List.length_nil] at h0; omega))⟩))
   (fun h1 A => N hX 9 A rfl rfl fun A => RETN hX A rfl rfl rfl h0 rfl rfl rfl rfl (by unfold regA; rw [← idxS_L, hI.fi (by show 8 ≤ k; omega)]; rfl) rfl)
theorem risimm_a (ws : List Tk) (cw : Nat) (s : Old.Rs) (hk : s.p ≤ ws.length) (hn : ws.length ≤ 1000000) (hw : WsOK ws) : Fn Tryz.prog 79 [.ptr 0 0] [some (.blk [.int .i64 3, .ptr 1 0, .int .i64 s.e, .int .i64 s.a]), some (.blk [.sl 2 ws.length cw, .int .i64 ((s.p : Nat) : Int)]), some (wQ9 ws)] (Rt (.bool (isR ws s [35])) [some (.blk [.int .i64 3, .ptr 1 0, .int .i64 s.e, .int .i64 s.a]), some (.blk [.sl 2 ws.length cw, .int .i64 ((s.p : Nat) : Int)]), some (wQ9 ws)]) :=
 enterM (n := 23) (by kernel_rfl) Tryz.func79 rfl rfl rfl fun G w a h0 A => N hX 13 A rfl rfl fun A => forkE 8 A rfl
  (fun h1 A => absurd h1 (by decide))
  (fun h1 A => N hX 10 A rfl rfl fun A => forkE 18 A rfl
   (fun h2 A => N hX 1 A rfl rfl fun A => CALL1 [0, 1, 2] (ris_ 3 ws cw s [35] hk hn hw) A rfl rfl rfl rfl rfl rfl rfl fun A => N hX 6 A rfl rfl fun A => RETN hX A rfl rfl rfl h0 rfl rfl rfl rfl (by have z : isR ws s [35] = isR ws s [35] := rfl; rw [z]; rfl) rfl)
   (fun h2 A => absurd rfl h2))
theorem rimm_a (ws : List Tk) (cw : Nat) (s : Old.Rs) (hk : s.p ≤ ws.length) (hn : ws.length ≤ 1000000) (hw : WsOK ws) : Fn Tryz.prog 80 [.ptr 0 0] [some (.blk [.int .i64 3, .ptr 1 0, .int .i64 s.e, .int .i64 s.a]), some (.blk [.sl 2 ws.length cw, .int .i64 ((s.p : Nat) : Int)]), some (wQ9 ws)] (Rt (.int .i64 ((immAr ws s).2)) [some (.blk [.int .i64 3, .ptr 1 0, .int .i64 (((immAr ws s).1).e), .int .i64 (((immAr ws s).1).a)]), some (.blk [.sl 2 ws.length cw, .int .i64 ((((immAr ws s).1).p : Nat) : Int)]), some (wQ9 ws)]) :=
 enterM (n := 19) (by kernel_rfl) Tryz.func80 rfl rfl rfl fun G w a h0 A => N hX 15 A rfl rfl fun A => forkE 7 A rfl
  (fun h1 A => absurd h1 (by decide))
  (fun h1 A => N hX 13 A rfl rfl fun A => forkE 14 A rfl
   (fun h2 A => N hX 3 A rfl rfl fun A => CALL1 [0, 1, 2] (rmk_ 3 ws cw s [35] hk hn hw) A rfl rfl rfl rfl rfl rfl rfl fun A => N hX 5 A rfl rfl fun A => CALL1 [0, 1, 2] (rnum_ 3 ws cw (Old.markR ws [35] s) (mark_le hk) hn hw) A rfl rfl rfl rfl rfl rfl rfl fun A => N hX 4 A rfl rfl fun A => RETN hX A rfl rfl rfl h0 rfl rfl rfl rfl rfl rfl)
   (fun h2 A => absurd rfl h2))
theorem ralu_a (q : List UInt8)  : Fn Tryz.prog 75 [.int .i64 3, .str q] [] (Rt (.tup [.int .i64 (aluA q), .ff]) []) :=
 enterM (n := 40) (by kernel_rfl) Tryz.func75 rfl rfl rfl fun G w a h0 A => N hX 19 A rfl rfl fun A => forkE 10 A rfl
  (fun h1 A => absurd h1 (by decide))
  (fun h1 A => N hX 10 A rfl rfl fun A => forkE 13 A rfl
   (fun h2 A => N hX 13 A rfl rfl fun A => LOOP1 (fun (k : Nat) => [(0, .int .i64 3), (1, .str q), (4, .int .i64 0), (5, .ff), (6, .sl 1 5 5), (7, .int .i64 (k : Int))]) (fun (k : Nat) => [some (.blk [.str [65, 68, 68], .str [83, 85, 66], .str [88, 79, 82], .str [65, 78, 68], .str [79, 82]]), some (.blk [.str [65, 68, 68], .str [83, 85, 66], .str [69, 79, 82], .str [65, 78, 68], .str [79, 82, 82]])]) (fun (k : Nat) => IxI alusA q k) (fun (k : Nat) => 5 - k) 0 IxI.i0 ((A.cut [0, 1, 4, 5, 6, 7] rfl).trunc 2 rfl rfl rfl (by simp only [List.length_cons, List.length_nil] at h0; omega)) fun k hI {G a w} A => N hX 7 A rfl rfl fun A => forkD 16 A rfl
     (fun h3 A => N hX 16 A rfl (ok_d (by have := hI.le; have e : alusA.length = 5 := rfl; omega) <| ok_d (by have := hI.le; have e : alusA.length = 5 := rfl; omega) <| okE_nil) fun A => forkE 24 A rfl
      (fun h4 A => N hX 10 A rfl (ok_d (by have := hI.le; have e : alusA.length = 5 := rfl; omega) <| okE_nil) fun A => RETN hX A rfl rfl rfl h0 rfl rfl rfl rfl (by unfold aluA; rw [hI.hit (by show k < 5; omega) (beq_iff_eq.2 (h4).symm)]; rfl) rfl)
      (fun h4 A => N hX 18 A rfl (ok_r <| ok_r <| ok_g (fun hg => (absurd hg Bool.false_ne_true)) <| ok_r <| ok_g (fun hg => (absurd hg Bool.false_ne_true)) <| ok_r <| ok_g (fun hg => (absurd hg Bool.false_ne_true)) <| ok_r <| ok_r <| ok_r <| okE_nil) fun A => fork 37 A rfl
       (fun h5 A => N hX 10 A rfl (ok_d (by have := hI.le; have e : alusA.length = 5 := rfl; omega) <| okE_nil) fun A => RETN hX A rfl rfl rfl h0 rfl rfl rfl rfl (absurd h5 Bool.false_ne_true) rfl)
       (fun h5 A => N hX 9 A rfl (ok_d (by have := hI.le; have e : alusA.length = 5 := rfl; omega) <| okE_nil) fun A => ⟨k + 1, _, (by omega), (hI.nx (by show k < 5; omega) (beq_eq_false_iff_ne.2 (fun e => h4 e.symm))), ((A.cut [0, 1, 4, 5, 6, 7] rfl).trunc 2 rfl rfl rfl (by simp only [List.length_cons, List.length_nil] at h0; omega))⟩)))
     (fun h3 A => N hX 10 A rfl rfl fun A => RETN hX A rfl rfl rfl h0 rfl rfl rfl rfl (by unfold aluA; rw [hI.fi (by show 5 ≤ k; omega)]; rfl) rfl))
   (fun h2 A => absurd rfl h2))
theorem rsized_a (q : List UInt8) (t : List UInt8)  : Fn Tryz.prog 76 [.int .i64 3, .str q, .str t] [] (Rt (.int .i64 (szA q t)) []) :=
 enterM (n := 44) (by kernel_rfl) Tryz.func76 rfl rfl rfl fun G w a h0 A => N hX 23 A rfl (ok_r <| ok_r <| ok_r <| ok_g (fun hg => (by have hz := nd_t hg; omega)) <| ok_r <| ok_r <| ok_r <| okE_nil) fun A => fork 21 A rfl
  (fun h1 A => N hX 7 A rfl rfl fun A => RETN hX A rfl rfl rfl h0 rfl rfl rfl rfl (by unfold szA; rw [pre_n h1]; rfl) rfl)
  (fun h1 A => N hX 16 A rfl rfl fun A => forkE 24 A rfl
   (fun h2 A => absurd h2 (by decide))
   (fun h2 A => N hX 10 A rfl rfl fun A => forkE 27 A rfl
    (fun h3 A => N hX 13 A rfl rfl fun A => LOOP1 (fun (k : Nat) => [(1, .str q), (2, .str t), (6, .int .i64 0), (7, .sl 1 4 4), (8, .int .i64 (k : Int))]) (fun (k : Nat) => [some (.blk [.str [66], .str [87], .str [76], .str [81]]), some (.blk [.str [66], .str [72], .str [87], .str []])]) (fun (k : Nat) => IxI tailsA (q.drop ((t.length : Int)).toNat) k) (fun (k : Nat) => 4 - k) 0 IxI.i0 ((A.cut [1, 2, 6, 7, 8] rfl).trunc 2 rfl rfl rfl (by simp only [List.length_cons, List.length_nil] at h0; omega)) fun k hI {G a w} A => N hX 7 A rfl rfl fun A => forkD 30 A rfl
      (fun h4 A => N hX 6 A rfl rfl fun A => DRAWN hX hmo [] [] A rfl (ok_d (by have hp := pre_y h1; unfold preB at hp; rw [Bool.and_eq_true] at hp; have hq := of_decide_eq_true hp.1; have := hI.le; have e : tailsA.length = 4 := rfl; omega) <| ok_d (by have hp := pre_y h1; unfold preB at hp; rw [Bool.and_eq_true] at hp; have hq := of_decide_eq_true hp.1; have := hI.le; have e : tailsA.length = 4 := rfl; omega) <| ok_d (by have hp := pre_y h1; unfold preB at hp; rw [Bool.and_eq_true] at hp; have hq := of_decide_eq_true hp.1; have := hI.le; have e : tailsA.length = 4 := rfl; omega) <| okE_nil) rfl rfl (by kernel_rfl) (effAll_nil _ _) trivial fun A => N hX 1 A rfl rfl fun A => forkE 41 A rfl
       (fun h5 A => N hX 9 A rfl (ok_d (by have hp := pre_y h1; unfold preB at hp; rw [Bool.and_eq_true] at hp; have hq := of_decide_eq_true hp.1; have := hI.le; have e : tailsA.length = 4 := rfl; omega) <| okE_nil) fun A => RETN hX A rfl rfl rfl h0 rfl rfl rfl rfl (by unfold szA; rw [pre_y h1, if_pos rfl, ← idxS_L, show t.length = ((t.length : Int)).toNat from rfl, hI.hit (by show k < 4; omega) (beq_iff_eq.2 h5), ← szI_k k (by omega)]; rfl) rfl)
       (fun h5 A => N hX 9 A rfl (ok_d (by have hp := pre_y h1; unfold preB at hp; rw [Bool.and_eq_true] at hp; have hq := of_decide_eq_true hp.1; have := hI.le; have e : tailsA.length = 4 := rfl; omega) <| okE_nil) fun A => ⟨k + 1, _, (by omega), (hI.nx (by show k < 4; omega) (beq_eq_false_iff_ne.2 h5)), ((A.cut [1, 2, 6, 7, 8] rfl).trunc 2 rfl rfl rfl (by simp only [List.length_cons, List.length_nil] at h0; omega))⟩))
      (fun h4 A => N hX 9 A rfl rfl fun A => RETN hX A rfl rfl rfl h0 rfl rfl rfl rfl (by unfold szA; rw [pre_y h1, if_pos rfl, ← idxS_L, show t.length = ((t.length : Int)).toNat from rfl, hI.fi (by show 4 ≤ k; omega)]; rfl) rfl))
    (fun h3 A => absurd rfl h3)))
theorem rorder_ (q : List UInt8) (t : List UInt8) (hq : t.length ≤ 1000) : Fn Tryz.prog 87 [.str q, .str t] [] (Rt (.tup [.int .i64 ((ordA q t).1), .bool ((ordA q t).2.1), .bool ((ordA q t).2.2)]) []) :=
 enterM (n := 34) (by kernel_rfl) Tryz.func87 rfl rfl rfl fun G w a h0 A => N hX 20 A rfl rfl fun A => LOOP1 (fun (k : Nat) => [(0, .str q), (1, .str t), (4, .int .i64 0), (5, .ff), (6, .ff), (7, .sl 0 4 4), (8, .int .i64 (k : Int))]) (fun (k : Nat) => [some (.blk [.str [], .str [65], .str [76], .str [65, 76]])]) (fun (k : Nat) => OrI q t k) (fun (k : Nat) => 4 - k) 0 OrI.i0 ((A.cut [0, 1, 4, 5, 6, 7, 8] rfl).trunc 1 rfl rfl rfl (by simp only [List.length_cons, List.length_nil] at h0; omega)) fun k hI {G a w} A => N hX 7 A rfl rfl fun A => forkD 12 A rfl
   (fun h1 A => N hX 14 A rfl (ok_d (by have := hI.le; omega) <| ok_d (by have := hI.le; omega) <| ok_d (by have hz := ends_len ((k : Int)).toNat; have := hI.le; omega) <| okE_nil) fun A => CALL1 [] (rsized_a q (t ++ ([[], [65], [76], [65, 76]].getD ((k : Int)).toNat []))) A rfl rfl rfl rfl rfl rfl rfl fun A => N hX 9 A rfl rfl fun A => forkD 24 A rfl
    (fun h2 A => N hX 18 A rfl rfl fun A => RETN hX A rfl rfl rfl h0 rfl rfl rfl rfl (by rw [hI.hit (by omega) h2]; rfl) rfl)
    (fun h2 A => N hX 9 A rfl (ok_d (by have := hI.le; omega) <| okE_nil) fun A => ⟨k + 1, _, (by omega), (hI.nx (by omega) h2), ((A.cut [0, 1, 4, 5, 6, 7, 8] rfl).trunc 1 rfl rfl rfl (by simp only [List.length_cons, List.length_nil] at h0; omega))⟩))
   (fun h1 A => N hX 11 A rfl rfl fun A => RETN hX A rfl rfl rfl h0 rfl rfl rfl rfl (by rw [hI.fi (by omega)]; rfl) rfl)
section
variable {ws : List Tk} {s : Old.Rs} {i : Old.Ins} {z : Bool}
end
section
variable {ws : List Tk} {s : Old.Rs} {i : Old.Ins}
theorem bar_sy (hl : s.p < ws.length) (hk : (ws.getD s.p tok0).kind = 1) (ht : (ws.getD s.p tok0).text = [83, 89]) : barA ws s = (⟨s.e, s.a, nxK ws s.p⟩, 3, 3) := by
  unfold barA; rw [tk_get hl, nxK_y hl]; simp only; rw [hk, ht]; rfl
theorem bar_ld (hl : s.p < ws.length) (hk : (ws.getD s.p tok0).kind = 1) (ht : (ws.getD s.p tok0).text = [76, 68]) : barA ws s = (⟨s.e, s.a, nxK ws s.p⟩, 1, 3) := by
  unfold barA; rw [tk_get hl, nxK_y hl]; simp only; rw [hk, ht]; rfl
theorem bar_st (hl : s.p < ws.length) (hk : (ws.getD s.p tok0).kind = 1) (ht : (ws.getD s.p tok0).text = [83, 84]) : barA ws s = (⟨s.e, s.a, nxK ws s.p⟩, 2, 2) := by
  unfold barA; rw [tk_get hl, nxK_y hl]; simp only; rw [hk, ht]; rfl
theorem bar_no (h1 : ¬ (s.p < ws.length ∧ (ws.getD s.p tok0).kind = 1 ∧ (ws.getD s.p tok0).text = [83, 89])) (h2 : ¬ (s.p < ws.length ∧ (ws.getD s.p tok0).kind = 1 ∧ (ws.getD s.p tok0).text = [76, 68])) (h3 : ¬ (s.p < ws.length ∧ (ws.getD s.p tok0).kind = 1 ∧ (ws.getD s.p tok0).text = [83, 84])) : barA ws s = (Old.oddR ws true s, 3, 3) := by
  unfold barA
  by_cases hl : s.p < ws.length
  · rw [tk_get hl]
    simp only
    have hn : ∀ t : List UInt8, ¬ (s.p < ws.length ∧ (ws.getD s.p tok0).kind = 1 ∧ (ws.getD s.p tok0).text = t) → ¬ (((ws.getD s.p tok0).kind == 1) && ((ws.getD s.p tok0).text == t)) = true := fun t h e => by
      rw [Bool.and_eq_true] at e
      exact h ⟨hl, eq_of_beq e.1, eq_of_beq e.2⟩
    rw [if_neg (hn _ h1), if_neg (hn _ h2), if_neg (hn _ h3)]
  · rw [tk_non hl]
theorem bar_le (h : s.p ≤ ws.length) : (barA ws s).1.p ≤ ws.length := by
  unfold barA
  by_cases hl : s.p < ws.length
  · rw [tk_get hl]
    simp only
    (repeat' split) <;> first | exact hl | exact odd_le h
  · rw [tk_non hl]; exact odd_le h
theorem b3_of {x y z : Bool} (h : ((x && y) && z) = true) : x = true ∧ y = true ∧ z = true := by
  rw [Bool.and_eq_true, Bool.and_eq_true] at h; exact ⟨h.1.1, h.1.2, h.2⟩
theorem b3_no {P Q R : Prop} [Decidable P] [Decidable Q] [Decidable R] {x y z : Bool} (h : ((x && y) && z) = false) (hx : P → x = true) (hy : Q → y = true) (hz : R → z = true) : ¬ (P ∧ Q ∧ R) := fun ⟨a, b, c⟩ => by
  rw [hx a, hy b, hz c] at h; cases h
theorem threeA_le {rf : List UInt8 → Int} (h : s.p ≤ ws.length) : (threeA rf ws s i).1.p ≤ ws.length := memG_le (mark_le (regG_le (mark_le (regG_le h))))
theorem immAr_le (h : s.p ≤ ws.length) : (immAr ws s).1.p ≤ ws.length := num_le (mark_le h)
end
theorem rbar_ (ar : Int) (ws : List Tk) (cw : Nat) (s : Old.Rs) (i : Old.Ins) (hk : s.p ≤ ws.length) (hn : ws.length ≤ 1000000) (hw : WsOK ws) : Fn Tryz.prog 88 [.ptr 0 0, .ptr 3 0] [some (.blk [.int .i64 ar, .ptr 1 0, .int .i64 s.e, .int .i64 s.a]), some (.blk [.sl 2 ws.length cw, .int .i64 ((s.p : Nat) : Int)]), some (wQ9 ws), some (.blk (oiQ9 i))] (Rt (.tup []) [some (.blk [.int .i64 ar, .ptr 1 0, .int .i64 (((barA ws s).1).e), .int .i64 (((barA ws s).1).a)]), some (.blk [.sl 2 ws.length cw, .int .i64 ((((barA ws s).1).p : Nat) : Int)]), some (wQ9 ws), some (.blk (oiQ9 (Old.Ins.mk i.op i.dst i.a i.b i.imm i.loc i.off i.index i.size i.fn i.acq i.weak i.rel (barA ws s).2.1 (barA ws s).2.2 i.to i.zero)))]) :=
 enterM (n := 72) (by kernel_rfl) Tryz.func88 rfl rfl rfl fun G w a h0 A => N hX 6 A rfl rfl fun A => CALL1 [1, 2] (rpeek_ ws cw s.p hk hn) A rfl rfl rfl rfl rfl rfl rfl fun A => N hX 42 A rfl rfl fun A => fork 22 A rfl
  (fun h1 A => N hX 9 A rfl rfl fun A => CALL1 [1, 2] (rnext_ ws cw s.p hk hn) A rfl rfl rfl rfl rfl rfl rfl fun A => N hX 1 A rfl rfl fun A => ENDN (RETN hX A rfl rfl rfl h0 rfl rfl rfl rfl rfl (by rw [bar_sy (of_decide_eq_true (b3_of h1).1) (eq_of_beq (b3_of h1).2.1) (eq_of_beq (b3_of h1).2.2)] <;> rfl)))
  (fun h1 A => N hX 17 A rfl rfl fun A => fork 34 A rfl
   (fun h2 A => N hX 14 A rfl rfl fun A => CALL1 [1, 2] (rnext_ ws cw s.p hk hn) A rfl rfl rfl rfl rfl rfl rfl fun A => N hX 1 A rfl rfl fun A => ENDN (RETN hX A rfl rfl rfl h0 rfl rfl rfl rfl rfl (by rw [bar_ld (of_decide_eq_true (b3_of h2).1) (eq_of_beq (b3_of h2).2.1) (eq_of_beq (b3_of h2).2.2)] <;> rfl)))
   (fun h2 A => N hX 17 A rfl rfl fun A => fork 49 A rfl
    (fun h3 A => N hX 22 A rfl rfl fun A => CALL1 [1, 2] (rnext_ ws cw s.p hk hn) A rfl rfl rfl rfl rfl rfl rfl fun A => N hX 1 A rfl rfl fun A => ENDN (RETN hX A rfl rfl rfl h0 rfl rfl rfl rfl rfl (by rw [bar_st (of_decide_eq_true (b3_of h3).1) (eq_of_beq (b3_of h3).2.1) (eq_of_beq (b3_of h3).2.2)] <;> rfl)))
    (fun h3 A => N hX 4 A rfl rfl fun A => CALL1 [0, 1, 2] (roddT_ ar ws cw s hk hn hw) A rfl rfl rfl rfl rfl rfl rfl fun A => N hX 3 A rfl rfl fun A => RETN hX A rfl rfl rfl h0 rfl rfl rfl rfl rfl (by rw [bar_no (b3_no h1 (fun z => decide_eq_true z) (fun z => beq_iff_eq.2 z) (fun z => beq_iff_eq.2 z)) (b3_no h2 (fun z => decide_eq_true z) (fun z => beq_iff_eq.2 z) (fun z => beq_iff_eq.2 z)) (b3_no h3 (fun z => decide_eq_true z) (fun z => beq_iff_eq.2 z) (fun z => beq_iff_eq.2 z))] <;> rfl))))
theorem rthreeA_ (ar : Int) (ws : List Tk) (cw : Nat) (s : Old.Rs) (i : Old.Ins) (hk : s.p ≤ ws.length) (hn : ws.length ≤ 1000000) (hw : WsOK ws) (rf : List UInt8 → Int) (hrf : ∀ q : List UInt8, Fn Tryz.prog 17 [.int .i64 ar, .str q] [] (Rt (.int .i64 (rf q)) [])) : Fn Tryz.prog 85 [.ptr 0 0, .ptr 3 2, .ptr 3 1, .ptr 3 0] [some (.blk [.int .i64 ar, .ptr 1 0, .int .i64 s.e, .int .i64 s.a]), some (.blk [.sl 2 ws.length cw, .int .i64 ((s.p : Nat) : Int)]), some (wQ9 ws), some (.blk (oiQ9 i))] (Rt (.tup []) [some (.blk [.int .i64 ar, .ptr 1 0, .int .i64 (((threeA rf ws s i).1).e), .int .i64 (((threeA rf ws s i).1).a)]), some (.blk [.sl 2 ws.length cw, .int .i64 ((((threeA rf ws s i).1).p : Nat) : Int)]), some (wQ9 ws), some (.blk (oiQ9 ((threeA rf ws s i).2)))]) :=
 enterM (n := 23) (by kernel_rfl) Tryz.func85 rfl rfl rfl fun G w a h0 A => N hX 4 A rfl rfl fun A => CALL1 [0, 1, 2] (rreg_ ar ws cw s hk hn hw rf hrf) A rfl rfl rfl rfl rfl rfl rfl fun A => N hX 7 A rfl rfl fun A => CALL1 [0, 1, 2] (rmk_ ar ws cw ((regG rf ws s).1) [44] (regG_le hk) hn hw) A rfl rfl rfl rfl rfl rfl rfl fun A => N hX 6 A rfl rfl fun A => CALL1 [0, 1, 2] (rreg_ ar ws cw (Old.markR ws [44] ((regG rf ws s).1)) (mark_le (regG_le hk)) hn hw rf hrf) A rfl rfl rfl rfl rfl rfl rfl fun A => N hX 7 A rfl rfl fun A => CALL1 [0, 1, 2] (rmk_ ar ws cw ((regG rf ws (Old.markR ws [44] ((regG rf ws s).1))).1) [44] (regG_le (mark_le (regG_le hk))) hn hw) A rfl rfl rfl rfl rfl rfl rfl fun A => N hX 5 A rfl rfl fun A => CALL1 [0, 1, 2, 3] (rmem_ ar ws cw (Old.markR ws [44] ((regG rf ws (Old.markR ws [44] ((regG rf ws s).1))).1)) (Old.Ins.mk i.op ((regG rf ws (Old.markR ws [44] ((regG rf ws s).1))).2) ((regG rf ws s).2) i.b i.imm i.loc i.off i.index i.size i.fn i.acq i.weak i.rel i.pred i.succ i.to i.zero) (mark_le (regG_le (mark_le (regG_le hk)))) hn hw rf hrf) A rfl rfl rfl rfl rfl rfl rfl fun A => N hX 1 A rfl rfl fun A => ENDN (RETN hX A rfl rfl rfl h0 rfl rfl rfl rfl rfl rfl)
abbrev kQ9 (i : Old.Ins) (q : List UInt8) (f : Int) : Old.Ins := Old.Ins.mk 6 i.dst i.a i.b i.imm i.loc i.off i.index (((ordA q [83, 87, 80]).1) + ((ordA q [76, 68, 65, 68, 68]).1)) f (((ordA q [83, 87, 80]).2.1) || ((ordA q [76, 68, 65, 68, 68]).2.1)) i.weak (((ordA q [83, 87, 80]).2.2) || ((ordA q [76, 68, 65, 68, 68]).2.2)) i.pred i.succ i.to i.zero
def armR (ws : List Tk) (s : Old.Rs) (i : Old.Ins) (q : List UInt8) : (Bool × List UInt8) × Old.Rs × Old.Ins := if q = [77, 79, 86] then if (isR ws (Old.markR ws [44] ((regG regA ws s).1)) [35]) = true then ((true, []), ((immAr ws (Old.markR ws [44] ((regG regA ws s).1))).1), (Old.Ins.mk 1 ((regG regA ws s).2) i.a i.b ((immAr ws (Old.markR ws [44] ((regG regA ws s).1))).2) i.loc i.off i.index i.size i.fn i.acq i.weak i.rel i.pred i.succ i.to i.zero)) else ((true, []), ((regG regA ws (Old.markR ws [44] ((regG regA ws s).1))).1), (Old.Ins.mk 2 ((regG regA ws s).2) ((regG regA ws (Old.markR ws [44] ((regG regA ws s).1))).2) i.b i.imm i.loc i.off i.index i.size i.fn i.acq i.weak i.rel i.pred i.succ i.to i.zero)) else if (aluA q) > 0 then if (isR ws (Old.markR ws [44] ((regG regA ws (Old.markR ws [44] ((regG regA ws s).1))).1)) [35]) = true then ((true, []), ((immAr ws (Old.markR ws [44] ((regG regA ws (Old.markR ws [44] ((regG regA ws s).1))).1))).1), (Old.Ins.mk 3 ((regG regA ws s).2) ((regG regA ws (Old.markR ws [44] ((regG regA ws s).1))).2) i.b ((immAr ws (Old.markR ws [44] ((regG regA ws (Old.markR ws [44] ((regG regA ws s).1))).1))).2) i.loc i.off i.index i.size (aluA q) i.acq i.weak i.rel i.pred i.succ i.to i.zero)) else ((true, []), ((regG regA ws (Old.markR ws [44] ((regG regA ws (Old.markR ws [44] ((regG regA ws s).1))).1))).1), (Old.Ins.mk 3 ((regG regA ws s).2) ((regG regA ws (Old.markR ws [44] ((regG regA ws s).1))).2) ((regG regA ws (Old.markR ws [44] ((regG regA ws (Old.markR ws [44] ((regG regA ws s).1))).1))).2) i.imm i.loc i.off i.index i.size (aluA q) i.acq i.weak i.rel i.pred i.succ i.to i.zero)) else if (((szA q [76, 68, 82]) + (szA q [76, 68, 65, 82])) + (szA q [76, 68, 65, 80, 82])) > 0 then ((true, []), ((memG regA ws (Old.markR ws [44] ((regG regA ws s).1)) (Old.Ins.mk 4 ((regG regA ws s).2) i.a i.b i.imm i.loc i.off i.index (((szA q [76, 68, 82]) + (szA q [76, 68, 65, 82])) + (szA q [76, 68, 65, 80, 82])) i.fn (decide ((szA q [76, 68, 65, 82]) > 0)) (decide ((szA q [76, 68, 65, 80, 82]) > 0)) i.rel i.pred i.succ i.to i.zero)).1), ((memG regA ws (Old.markR ws [44] ((regG regA ws s).1)) (Old.Ins.mk 4 ((regG regA ws s).2) i.a i.b i.imm i.loc i.off i.index (((szA q [76, 68, 82]) + (szA q [76, 68, 65, 82])) + (szA q [76, 68, 65, 80, 82])) i.fn (decide ((szA q [76, 68, 65, 82]) > 0)) (decide ((szA q [76, 68, 65, 80, 82]) > 0)) i.rel i.pred i.succ i.to i.zero)).2)) else if ((szA q [83, 84, 82]) + (szA q [83, 84, 76, 82])) > 0 then ((true, []), ((memG regA ws (Old.markR ws [44] ((regG regA ws s).1)) (Old.Ins.mk 5 i.dst ((regG regA ws s).2) i.b i.imm i.loc i.off i.index ((szA q [83, 84, 82]) + (szA q [83, 84, 76, 82])) i.fn i.acq i.weak (decide ((szA q [83, 84, 76, 82]) > 0)) i.pred i.succ i.to i.zero)).1), ((memG regA ws (Old.markR ws [44] ((regG regA ws s).1)) (Old.Ins.mk 5 i.dst ((regG regA ws s).2) i.b i.imm i.loc i.off i.index ((szA q [83, 84, 82]) + (szA q [83, 84, 76, 82])) i.fn i.acq i.weak (decide ((szA q [83, 84, 76, 82]) > 0)) i.pred i.succ i.to i.zero)).2)) else if (((ordA q [83, 87, 80]).1) + ((ordA q [76, 68, 65, 68, 68]).1)) > 0 then if ((ordA q [76, 68, 65, 68, 68]).1) > 0 then ((true, []), ((threeA regA ws s (kQ9 i q 1)).1), ((threeA regA ws s (kQ9 i q 1)).2)) else ((true, []), ((threeA regA ws s (kQ9 i q 6)).1), ((threeA regA ws s (kQ9 i q 6)).2)) else if q = [68, 77, 66] then ((true, []), ((barA ws s).1), (Old.Ins.mk (Old.Ins.mk 7 i.dst i.a i.b i.imm i.loc i.off i.index i.size i.fn i.acq i.weak i.rel i.pred i.succ i.to i.zero).op (Old.Ins.mk 7 i.dst i.a i.b i.imm i.loc i.off i.index i.size i.fn i.acq i.weak i.rel i.pred i.succ i.to i.zero).dst (Old.Ins.mk 7 i.dst i.a i.b i.imm i.loc i.off i.index i.size i.fn i.acq i.weak i.rel i.pred i.succ i.to i.zero).a (Old.Ins.mk 7 i.dst i.a i.b i.imm i.loc i.off i.index i.size i.fn i.acq i.weak i.rel i.pred i.succ i.to i.zero).b (Old.Ins.mk 7 i.dst i.a i.b i.imm i.loc i.off i.index i.size i.fn i.acq i.weak i.rel i.pred i.succ i.to i.zero).imm (Old.Ins.mk 7 i.dst i.a i.b i.imm i.loc i.off i.index i.size i.fn i.acq i.weak i.rel i.pred i.succ i.to i.zero).loc (Old.Ins.mk 7 i.dst i.a i.b i.imm i.loc i.off i.index i.size i.fn i.acq i.weak i.rel i.pred i.succ i.to i.zero).off (Old.Ins.mk 7 i.dst i.a i.b i.imm i.loc i.off i.index i.size i.fn i.acq i.weak i.rel i.pred i.succ i.to i.zero).index (Old.Ins.mk 7 i.dst i.a i.b i.imm i.loc i.off i.index i.size i.fn i.acq i.weak i.rel i.pred i.succ i.to i.zero).size (Old.Ins.mk 7 i.dst i.a i.b i.imm i.loc i.off i.index i.size i.fn i.acq i.weak i.rel i.pred i.succ i.to i.zero).fn (Old.Ins.mk 7 i.dst i.a i.b i.imm i.loc i.off i.index i.size i.fn i.acq i.weak i.rel i.pred i.succ i.to i.zero).acq (Old.Ins.mk 7 i.dst i.a i.b i.imm i.loc i.off i.index i.size i.fn i.acq i.weak i.rel i.pred i.succ i.to i.zero).weak (Old.Ins.mk 7 i.dst i.a i.b i.imm i.loc i.off i.index i.size i.fn i.acq i.weak i.rel i.pred i.succ i.to i.zero).rel (barA ws s).2.1 (barA ws s).2.2 (Old.Ins.mk 7 i.dst i.a i.b i.imm i.loc i.off i.index i.size i.fn i.acq i.weak i.rel i.pred i.succ i.to i.zero).to (Old.Ins.mk 7 i.dst i.a i.b i.imm i.loc i.off i.index i.size i.fn i.acq i.weak i.rel i.pred i.succ i.to i.zero).zero)) else if q = [73, 83, 66] then ((true, []), s, (Old.Ins.mk 8 i.dst i.a i.b i.imm i.loc i.off i.index i.size i.fn i.acq i.weak i.rel i.pred i.succ i.to i.zero)) else if ((q == [67, 66, 90]) || (q == [67, 66, 78, 90])) = true then ((true, (branG regA ws s i (q == [67, 66, 90])).1), ((branG regA ws s i (q == [67, 66, 90])).2.1), ((branG regA ws s i (q == [67, 66, 90])).2.2)) else ((false, []), s, i)
theorem rarm_ (ws : List Tk) (cw : Nat) (s : Old.Rs) (i : Old.Ins) (q : List UInt8) (hk : s.p ≤ ws.length) (hn : ws.length ≤ 1000000) (hw : WsOK ws) : Fn Tryz.prog 35 [.ptr 0 0, .str q, .ptr 3 0] [some (.blk [.int .i64 3, .ptr 1 0, .int .i64 s.e, .int .i64 s.a]), some (.blk [.sl 2 ws.length cw, .int .i64 ((s.p : Nat) : Int)]), some (wQ9 ws), some (.blk (oiQ9 i))] (Rt (.tup [.bool ((armR ws s i q).1.1), .str ((armR ws s i q).1.2)]) [some (.blk [.int .i64 3, .ptr 1 0, .int .i64 (((armR ws s i q).2.1).e), .int .i64 (((armR ws s i q).2.1).a)]), some (.blk [.sl 2 ws.length cw, .int .i64 ((((armR ws s i q).2.1).p : Nat) : Int)]), some (wQ9 ws), some (.blk (oiQ9 ((armR ws s i q).2.2)))]) :=
 enterM (n := 251) (by kernel_rfl) Tryz.func35 rfl rfl rfl fun G w a h0 A => N hX 9 A rfl rfl fun A => CALL1 [] (ralu_a q) A rfl rfl rfl rfl rfl rfl rfl fun A => N hX 10 A rfl rfl fun A => CALL1 [] (rsized_a q [76, 68, 82]) A rfl rfl rfl rfl rfl rfl rfl fun A => N hX 6 A rfl rfl fun A => CALL1 [] (rsized_a q [76, 68, 65, 82]) A rfl rfl rfl rfl rfl rfl rfl fun A => N hX 6 A rfl rfl fun A => CALL1 [] (rsized_a q [76, 68, 65, 80, 82]) A rfl rfl rfl rfl rfl rfl rfl fun A => N hX 6 A rfl rfl fun A => CALL1 [] (rsized_a q [83, 84, 82]) A rfl rfl rfl rfl rfl rfl rfl fun A => N hX 6 A rfl rfl fun A => CALL1 [] (rsized_a q [83, 84, 76, 82]) A rfl rfl rfl rfl rfl rfl rfl fun A => N hX 6 A rfl rfl fun A => CALL1 [] (rorder_ q [83, 87, 80] (by decide)) A rfl rfl rfl rfl rfl rfl rfl fun A => N hX 12 A rfl rfl fun A => CALL1 [] (rorder_ q [76, 68, 65, 68, 68] (by decide)) A rfl rfl rfl rfl rfl rfl rfl fun A => N hX 18 A rfl rfl fun A => forkE 48 A rfl
  (fun h1 A => N hX 5 A rfl rfl fun A => CALL1 [0, 1, 2] (rreg_ 3 ws cw s hk hn hw regA rregn_a) A rfl rfl rfl rfl rfl rfl rfl fun A => N hX 8 A rfl rfl fun A => CALL1 [0, 1, 2] (rmk_ 3 ws cw ((regG regA ws s).1) [44] (regG_le hk) hn hw) A rfl rfl rfl rfl rfl rfl rfl fun A => N hX 5 A rfl rfl fun A => CALL1 [0, 1, 2] (risimm_a ws cw (Old.markR ws [44] ((regG regA ws s).1)) (mark_le (regG_le hk)) hn hw) A rfl rfl rfl rfl rfl rfl rfl fun A => N hX 2 A rfl rfl fun A => fork 59 A rfl
   (fun h2 A => N hX 12 A rfl rfl fun A => CALL1 [0, 1, 2] (rimm_a ws cw (Old.markR ws [44] ((regG regA ws s).1)) (mark_le (regG_le hk)) hn hw) A rfl rfl rfl rfl rfl rfl rfl fun A => N hX 13 A rfl rfl fun A => RETN hX A rfl rfl rfl h0 rfl rfl rfl rfl (by unfold armR; rw [if_pos h1, if_pos h2] <;> rfl) (by unfold armR; rw [if_pos h1, if_pos h2] <;> rfl))
   (fun h2 A => N hX 12 A rfl rfl fun A => CALL1 [0, 1, 2] (rreg_ 3 ws cw (Old.markR ws [44] ((regG regA ws s).1)) (mark_le (regG_le hk)) hn hw regA rregn_a) A rfl rfl rfl rfl rfl rfl rfl fun A => N hX 13 A rfl rfl fun A => RETN hX A rfl rfl rfl h0 rfl rfl rfl rfl (by unfold armR; rw [if_pos h1, if_neg (ne_true_of_eq_false h2)] <;> rfl) (by unfold armR; rw [if_pos h1, if_neg (ne_true_of_eq_false h2)] <;> rfl)))
  (fun h1 A => N hX 8 A rfl rfl fun A => forkD 76 A rfl
   (fun h3 A => N hX 22 A rfl rfl fun A => CALL1 [0, 1, 2] (rreg_ 3 ws cw s hk hn hw regA rregn_a) A rfl rfl rfl rfl rfl rfl rfl fun A => N hX 8 A rfl rfl fun A => CALL1 [0, 1, 2] (rmk_ 3 ws cw ((regG regA ws s).1) [44] (regG_le hk) hn hw) A rfl rfl rfl rfl rfl rfl rfl fun A => N hX 6 A rfl rfl fun A => CALL1 [0, 1, 2] (rreg_ 3 ws cw (Old.markR ws [44] ((regG regA ws s).1)) (mark_le (regG_le hk)) hn hw regA rregn_a) A rfl rfl rfl rfl rfl rfl rfl fun A => N hX 8 A rfl rfl fun A => CALL1 [0, 1, 2] (rmk_ 3 ws cw ((regG regA ws (Old.markR ws [44] ((regG regA ws s).1))).1) [44] (regG_le (mark_le (regG_le hk))) hn hw) A rfl rfl rfl rfl rfl rfl rfl fun A => N hX 5 A rfl rfl fun A => CALL1 [0, 1, 2] (risimm_a ws cw (Old.markR ws [44] ((regG regA ws (Old.markR ws [44] ((regG regA ws s).1))).1)) (mark_le (regG_le (mark_le (regG_le hk)))) hn hw) A rfl rfl rfl rfl rfl rfl rfl fun A => N hX 2 A rfl rfl fun A => fork 101 A rfl
    (fun h4 A => N hX 4 A rfl rfl fun A => CALL1 [0, 1, 2] (rimm_a ws cw (Old.markR ws [44] ((regG regA ws (Old.markR ws [44] ((regG regA ws s).1))).1)) (mark_le (regG_le (mark_le (regG_le hk)))) hn hw) A rfl rfl rfl rfl rfl rfl rfl fun A => N hX 13 A rfl rfl fun A => RETN hX A rfl rfl rfl h0 rfl rfl rfl rfl (by unfold armR; rw [if_neg (h1), if_pos h3, if_pos h4] <;> rfl) (by unfold armR; rw [if_neg (h1), if_pos h3, if_pos h4] <;> rfl))
    (fun h4 A => N hX 4 A rfl rfl fun A => CALL1 [0, 1, 2] (rreg_ 3 ws cw (Old.markR ws [44] ((regG regA ws (Old.markR ws [44] ((regG regA ws s).1))).1)) (mark_le (regG_le (mark_le (regG_le hk)))) hn hw regA rregn_a) A rfl rfl rfl rfl rfl rfl rfl fun A => N hX 13 A rfl rfl fun A => RETN hX A rfl rfl rfl h0 rfl rfl rfl rfl (by unfold armR; rw [if_neg (h1), if_pos h3, if_neg (ne_true_of_eq_false h4)] <;> rfl) (by unfold armR; rw [if_neg (h1), if_pos h3, if_neg (ne_true_of_eq_false h4)] <;> rfl)))
   (fun h3 A => N hX 12 A rfl (ok_d (by have z1 := szA_le q [76, 68, 82]; have z2 := szA_le q [76, 68, 65, 82]; have z3 := szA_le q [76, 68, 65, 80, 82]; have z4 := szA_le q [83, 84, 82]; have z5 := szA_le q [83, 84, 76, 82]; have z6 := ordA_le q [83, 87, 80]; have z7 := ordA_le q [76, 68, 65, 68, 68]; omega) <| ok_d (by have z1 := szA_le q [76, 68, 82]; have z2 := szA_le q [76, 68, 65, 82]; have z3 := szA_le q [76, 68, 65, 80, 82]; have z4 := szA_le q [83, 84, 82]; have z5 := szA_le q [83, 84, 76, 82]; have z6 := ordA_le q [83, 87, 80]; have z7 := ordA_le q [76, 68, 65, 68, 68]; omega) <| okE_nil) fun A => forkD 112 A rfl
    (fun h5 A => N hX 23 A rfl (ok_d (by have z1 := szA_le q [76, 68, 82]; have z2 := szA_le q [76, 68, 65, 82]; have z3 := szA_le q [76, 68, 65, 80, 82]; have z4 := szA_le q [83, 84, 82]; have z5 := szA_le q [83, 84, 76, 82]; have z6 := ordA_le q [83, 87, 80]; have z7 := ordA_le q [76, 68, 65, 68, 68]; omega) <| ok_d (by have z1 := szA_le q [76, 68, 82]; have z2 := szA_le q [76, 68, 65, 82]; have z3 := szA_le q [76, 68, 65, 80, 82]; have z4 := szA_le q [83, 84, 82]; have z5 := szA_le q [83, 84, 76, 82]; have z6 := ordA_le q [83, 87, 80]; have z7 := ordA_le q [76, 68, 65, 68, 68]; omega) <| okE_nil) fun A => N hX 23 A rfl rfl fun A => CALL1 [0, 1, 2] (rreg_ 3 ws cw s hk hn hw regA rregn_a) A rfl rfl rfl rfl rfl rfl rfl fun A => N hX 8 A rfl rfl fun A => CALL1 [0, 1, 2] (rmk_ 3 ws cw ((regG regA ws s).1) [44] (regG_le hk) hn hw) A rfl rfl rfl rfl rfl rfl rfl fun A => N hX 5 A rfl rfl fun A => CALL1 [0, 1, 2, 3] (rmem_ 3 ws cw (Old.markR ws [44] ((regG regA ws s).1)) (Old.Ins.mk 4 ((regG regA ws s).2) i.a i.b i.imm i.loc i.off i.index (((szA q [76, 68, 82]) + (szA q [76, 68, 65, 82])) + (szA q [76, 68, 65, 80, 82])) i.fn (decide ((szA q [76, 68, 65, 82]) > 0)) (decide ((szA q [76, 68, 65, 80, 82]) > 0)) i.rel i.pred i.succ i.to i.zero) (mark_le (regG_le hk)) hn hw regA rregn_a) A rfl rfl rfl rfl rfl rfl rfl fun A => N hX 10 A rfl rfl fun A => RETN hX A rfl rfl rfl h0 rfl rfl rfl rfl (by unfold armR; rw [if_neg (h1), if_neg h3, if_pos h5] <;> rfl) (by unfold armR; rw [if_neg (h1), if_neg h3, if_pos h5] <;> rfl))
    (fun h5 A => N hX 10 A rfl (ok_d (by have z1 := szA_le q [76, 68, 82]; have z2 := szA_le q [76, 68, 65, 82]; have z3 := szA_le q [76, 68, 65, 80, 82]; have z4 := szA_le q [83, 84, 82]; have z5 := szA_le q [83, 84, 76, 82]; have z6 := ordA_le q [83, 87, 80]; have z7 := ordA_le q [76, 68, 65, 68, 68]; omega) <| okE_nil) fun A => forkD 150 A rfl
     (fun h6 A => N hX 21 A rfl (ok_d (by have z1 := szA_le q [76, 68, 82]; have z2 := szA_le q [76, 68, 65, 82]; have z3 := szA_le q [76, 68, 65, 80, 82]; have z4 := szA_le q [83, 84, 82]; have z5 := szA_le q [83, 84, 76, 82]; have z6 := ordA_le q [83, 87, 80]; have z7 := ordA_le q [76, 68, 65, 68, 68]; omega) <| okE_nil) fun A => N hX 13 A rfl rfl fun A => CALL1 [0, 1, 2] (rreg_ 3 ws cw s hk hn hw regA rregn_a) A rfl rfl rfl rfl rfl rfl rfl fun A => N hX 8 A rfl rfl fun A => CALL1 [0, 1, 2] (rmk_ 3 ws cw ((regG regA ws s).1) [44] (regG_le hk) hn hw) A rfl rfl rfl rfl rfl rfl rfl fun A => N hX 5 A rfl rfl fun A => CALL1 [0, 1, 2, 3] (rmem_ 3 ws cw (Old.markR ws [44] ((regG regA ws s).1)) (Old.Ins.mk 5 i.dst ((regG regA ws s).2) i.b i.imm i.loc i.off i.index ((szA q [83, 84, 82]) + (szA q [83, 84, 76, 82])) i.fn i.acq i.weak (decide ((szA q [83, 84, 76, 82]) > 0)) i.pred i.succ i.to i.zero) (mark_le (regG_le hk)) hn hw regA rregn_a) A rfl rfl rfl rfl rfl rfl rfl fun A => N hX 10 A rfl rfl fun A => RETN hX A rfl rfl rfl h0 rfl rfl rfl rfl (by unfold armR; rw [if_neg (h1), if_neg h3, if_neg h5, if_pos h6] <;> rfl) (by unfold armR; rw [if_neg (h1), if_neg h3, if_neg h5, if_pos h6] <;> rfl))
     (fun h6 A => N hX 10 A rfl (ok_d (by have z1 := szA_le q [76, 68, 82]; have z2 := szA_le q [76, 68, 65, 82]; have z3 := szA_le q [76, 68, 65, 80, 82]; have z4 := szA_le q [83, 84, 82]; have z5 := szA_le q [83, 84, 76, 82]; have z6 := ordA_le q [83, 87, 80]; have z7 := ordA_le q [76, 68, 65, 68, 68]; omega) <| okE_nil) fun A => forkD 179 A rfl
      (fun h7 A => N hX 29 A rfl (ok_d (by have z1 := szA_le q [76, 68, 82]; have z2 := szA_le q [76, 68, 65, 82]; have z3 := szA_le q [76, 68, 65, 80, 82]; have z4 := szA_le q [83, 84, 82]; have z5 := szA_le q [83, 84, 76, 82]; have z6 := ordA_le q [83, 87, 80]; have z7 := ordA_le q [76, 68, 65, 68, 68]; omega) <| okE_nil) fun A => N hX 12 A rfl rfl fun A => N hX 13 A rfl rfl fun A => N hX 5 A rfl rfl fun A => forkD 211 A rfl
       (fun h8 A => N hX 8 A rfl rfl fun A => DRAWN hX hmo [] [(8, .tup [], [some (.blk [.int .i64 3, .ptr 1 0, .int .i64 (((threeA regA ws s (kQ9 i q 1)).1).e), .int .i64 (((threeA regA ws s (kQ9 i q 1)).1).a)]), some (.blk [.sl 2 ws.length cw, .int .i64 ((((threeA regA ws s (kQ9 i q 1)).1).p : Nat) : Int)]), some (wQ9 ws), some (.blk [.int .i64 (((threeA regA ws s (kQ9 i q 1)).2).op), .int .i64 (((threeA regA ws s (kQ9 i q 1)).2).dst), .int .i64 (((threeA regA ws s (kQ9 i q 1)).2).a), .int .i64 (((threeA regA ws s (kQ9 i q 1)).2).b), .int .i64 (((threeA regA ws s (kQ9 i q 1)).2).imm), .int .i64 (((threeA regA ws s (kQ9 i q 1)).2).loc), .int .i64 (((threeA regA ws s (kQ9 i q 1)).2).off), .int .i64 (((threeA regA ws s (kQ9 i q 1)).2).index), .int .i64 (((threeA regA ws s (kQ9 i q 1)).2).size), .int .i64 (((threeA regA ws s (kQ9 i q 1)).2).fn), .bool (((threeA regA ws s (kQ9 i q 1)).2).acq), .bool (((threeA regA ws s (kQ9 i q 1)).2).weak), .bool (((threeA regA ws s (kQ9 i q 1)).2).rel), .int .i64 (((threeA regA ws s (kQ9 i q 1)).2).pred), .int .i64 (((threeA regA ws s (kQ9 i q 1)).2).succ), .int .i64 (((threeA regA ws s (kQ9 i q 1)).2).to), .bool (((threeA regA ws s (kQ9 i q 1)).2).zero)])])] A rfl rfl rfl rfl (by kernel_rfl) ⟨callE [0, 1, 2, 3] (rthreeA_ 3 ws cw s (kQ9 i q 1) hk hn hw regA rregn_a) rfl rfl rfl rfl rfl rfl rfl, trivial⟩ trivial fun A => N hX 9 A rfl rfl fun A => RETN hX A rfl rfl rfl h0 rfl rfl rfl rfl (by unfold armR; rw [if_neg (h1), if_neg h3, if_neg h5, if_neg h6, if_pos h7, if_pos h8] <;> rfl) (by unfold armR; rw [if_neg (h1), if_neg h3, if_neg h5, if_neg h6, if_pos h7, if_pos h8] <;> rfl))
       (fun h8 A => N hX 3 A rfl rfl fun A => DRAWN hX hmo [] [(8, .tup [], [some (.blk [.int .i64 3, .ptr 1 0, .int .i64 (((threeA regA ws s (kQ9 i q 6)).1).e), .int .i64 (((threeA regA ws s (kQ9 i q 6)).1).a)]), some (.blk [.sl 2 ws.length cw, .int .i64 ((((threeA regA ws s (kQ9 i q 6)).1).p : Nat) : Int)]), some (wQ9 ws), some (.blk [.int .i64 (((threeA regA ws s (kQ9 i q 6)).2).op), .int .i64 (((threeA regA ws s (kQ9 i q 6)).2).dst), .int .i64 (((threeA regA ws s (kQ9 i q 6)).2).a), .int .i64 (((threeA regA ws s (kQ9 i q 6)).2).b), .int .i64 (((threeA regA ws s (kQ9 i q 6)).2).imm), .int .i64 (((threeA regA ws s (kQ9 i q 6)).2).loc), .int .i64 (((threeA regA ws s (kQ9 i q 6)).2).off), .int .i64 (((threeA regA ws s (kQ9 i q 6)).2).index), .int .i64 (((threeA regA ws s (kQ9 i q 6)).2).size), .int .i64 (((threeA regA ws s (kQ9 i q 6)).2).fn), .bool (((threeA regA ws s (kQ9 i q 6)).2).acq), .bool (((threeA regA ws s (kQ9 i q 6)).2).weak), .bool (((threeA regA ws s (kQ9 i q 6)).2).rel), .int .i64 (((threeA regA ws s (kQ9 i q 6)).2).pred), .int .i64 (((threeA regA ws s (kQ9 i q 6)).2).succ), .int .i64 (((threeA regA ws s (kQ9 i q 6)).2).to), .bool (((threeA regA ws s (kQ9 i q 6)).2).zero)])])] A rfl rfl rfl rfl (by kernel_rfl) ⟨callE [0, 1, 2, 3] (rthreeA_ 3 ws cw s (kQ9 i q 6) hk hn hw regA rregn_a) rfl rfl rfl rfl rfl rfl rfl, trivial⟩ trivial fun A => N hX 9 A rfl rfl fun A => RETN hX A rfl rfl rfl h0 rfl rfl rfl rfl (by unfold armR; rw [if_neg (h1), if_neg h3, if_neg h5, if_neg h6, if_pos h7, if_neg h8] <;> rfl) (by unfold armR; rw [if_neg (h1), if_neg h3, if_neg h5, if_neg h6, if_pos h7, if_neg h8] <;> rfl)))
      (fun h7 A => N hX 8 A rfl rfl fun A => forkE 224 A rfl
       (fun h9 A => N hX 12 A rfl rfl fun A => CALL1 [0, 1, 2, 3] (rbar_ 3 ws cw s (Old.Ins.mk 7 i.dst i.a i.b i.imm i.loc i.off i.index i.size i.fn i.acq i.weak i.rel i.pred i.succ i.to i.zero) hk hn hw) A rfl rfl rfl rfl rfl rfl rfl fun A => N hX 10 A rfl rfl fun A => RETN hX A rfl rfl rfl h0 rfl rfl rfl rfl (by unfold armR; rw [if_neg (h1), if_neg h3, if_neg h5, if_neg h6, if_neg h7, if_pos h9] <;> rfl) (by unfold armR; rw [if_neg (h1), if_neg h3, if_neg h5, if_neg h6, if_neg h7, if_pos h9] <;> rfl))
       (fun h9 A => N hX 8 A rfl rfl fun A => forkE 233 A rfl
        (fun h10 A => N hX 16 A rfl rfl fun A => RETN hX A rfl rfl rfl h0 rfl rfl rfl rfl (by unfold armR; rw [if_neg (h1), if_neg h3, if_neg h5, if_neg h6, if_neg h7, if_neg (h9), if_pos h10] <;> rfl) (by unfold armR; rw [if_neg (h1), if_neg h3, if_neg h5, if_neg h6, if_neg h7, if_neg (h9), if_pos h10] <;> rfl))
        (fun h10 A => N hX 12 A rfl rfl fun A => fork 239 A rfl
         (fun h11 A => N hX 7 A rfl rfl fun A => CALL1 [0, 1, 2, 3] (rbran_ 3 ws cw s i (q == [67, 66, 90]) hk hn hw regA rregn_a) A rfl rfl rfl rfl rfl rfl rfl fun A => N hX 5 A rfl rfl fun A => RETN hX A rfl rfl rfl h0 rfl rfl rfl rfl (by unfold armR; rw [if_neg (h1), if_neg h3, if_neg h5, if_neg h6, if_neg h7, if_neg (h9), if_neg (h10), if_pos h11] <;> rfl) (by unfold armR; rw [if_neg (h1), if_neg h3, if_neg h5, if_neg h6, if_neg h7, if_neg (h9), if_neg (h10), if_pos h11] <;> rfl))
         (fun h11 A => N hX 8 A rfl rfl fun A => RETN hX A rfl rfl rfl h0 rfl rfl rfl rfl (by unfold armR; rw [if_neg (h1), if_neg h3, if_neg h5, if_neg h6, if_neg h7, if_neg (h9), if_neg (h10), if_neg (ne_true_of_eq_false h11)] <;> rfl) (by unfold armR; rw [if_neg (h1), if_neg h3, if_neg h5, if_neg h6, if_neg h7, if_neg (h9), if_neg (h10), if_neg (ne_true_of_eq_false h11)] <;> rfl)))))))))
def frO (i : Old.Ins) : In := ⟨i.op, i.dst, i.a, i.b, i.imm, i.loc, i.off, i.index, i.size, i.fn, i.acq, i.weak, i.rel, i.pred, i.succ, i.to, i.zero⟩
section
variable {ws : List Tk} {s : Old.Rs} {i : Old.Ins}
theorem more_y (h : s.p < ws.length) : Old.moreR ws s = Old.failR s 25 (ws.getD s.p tok0).at_ := by unfold Old.moreR; rw [tk_get h]
theorem more_n (h : ¬ s.p < ws.length) : Old.moreR ws s = s := by unfold Old.moreR; rw [tk_non h]
theorem last_n (h : s.e ≠ 0) : Old.lastR ws s i = s := by unfold Old.lastR; rw [beq_eq_false_iff_ne.2 h]; rfl
theorem last_y (h : s.e = 0) (hr : Old.rightR (Old.asB i) 0 1 = 0) : Old.lastR ws s i = s := by unfold Old.lastR; rw [beq_iff_eq.2 h, beq_iff_eq.2 hr]; rfl
theorem last_b (hw : WsOK ws) (h : s.e = 0) (hr : Old.rightR (Old.asB i) 0 1 ≠ 0) : Old.lastR ws s i = Old.failR s 34 (atW ws 0) := by unfold Old.lastR; rw [beq_iff_eq.2 h, beq_eq_false_iff_ne.2 hr, where_at hw]; rfl
theorem asb_y (h : i.op = 9) : Old.asB i = { i with to := 1 } := by unfold Old.asB; rw [beq_iff_eq.2 h]; rfl
theorem asb_n (h : i.op ≠ 9) : Old.asB i = i := by unfold Old.asB; rw [beq_eq_false_iff_ne.2 h]; rfl
theorem out_y {l : List UInt8} (h : s.e = 0) : Old.outR s i l = (i, l, 0, 0) := by unfold Old.outR; rw [beq_iff_eq.2 h]; rfl
theorem out_n {l : List UInt8} (h : s.e ≠ 0) : Old.outR s i l = (Old.ins0, [], s.e, s.a) := by unfold Old.outR; rw [beq_eq_false_iff_ne.2 h]; rfl
theorem fin_y {r : (Bool × List UInt8) × Old.Rs × Old.Ins} (h : r.1.1 = true) : Old.finR ws r = Old.outR (Old.lastR ws (Old.moreR ws r.2.1) r.2.2) r.2.2 r.1.2 := by unfold Old.finR; rw [h]; rfl
theorem fin_n {r : (Bool × List UInt8) × Old.Rs × Old.Ins} (hw : WsOK ws) (h : r.1.1 = false) : Old.finR ws r = (Old.ins0, [], 21, atW ws 0) := by unfold Old.finR; rw [h, where_at hw]; rfl
end
theorem rblank5_   : Fn Tryz.prog 32 [] [] (Rt (.agg [.int .i64 0, .int .i64 (-1), .int .i64 (-1), .int .i64 (-1), .int .i64 0, .int .i64 0, .int .i64 0, .int .i64 (-1), .int .i64 0, .int .i64 0, .ff, .ff, .ff, .int .i64 0, .int .i64 0, .int .i64 0, .ff]) []) :=
 enterM (n := 2) (by kernel_rfl) Tryz.func32 rfl rfl rfl fun G w a h0 A => N hX 12 A rfl rfl fun A => RETN hX A rfl rfl rfl h0 rfl rfl rfl rfl rfl rfl
def parM (L : List Tk) : Old.Ins × List UInt8 × Int × Int := match L[0]? with
  | none => Old.badR L
  | some y => if y.kind == 1 then Old.finR L (armR L ⟨0, 0, 0 + 1⟩ Old.blank y.text) else Old.badR L
section
variable {ws : List Tk} {s : Old.Rs} {i : Old.Ins}
theorem pm_bad (h : ((!(decide (0 < ws.length))) || (!((ws.getD 0 tok0).kind == 1))) = true) : parM ws = (Old.ins0, [], (Old.oddR ws true ⟨0, 0, 0⟩).e, (Old.oddR ws true ⟨0, 0, 0⟩).a) := by
  unfold parM
  by_cases hl : 0 < ws.length
  · rw [tk_get hl]
    rw [decide_eq_true hl] at h
    simp only
    rw [if_neg]
    · rfl
    · revert h
      cases ((ws.getD 0 tok0).kind == 1) <;> decide
  · rw [tk_non hl]; rfl
theorem pm_go (h : ((!(decide (0 < ws.length))) || (!((ws.getD 0 tok0).kind == 1))) = false) : parM ws = Old.finR ws (armR ws ⟨0, 0, nxK ws 0⟩ Old.blank (ws.getD 0 tok0).text) := by
  unfold parM
  by_cases hl : 0 < ws.length
  · rw [tk_get hl, nxK_y hl]
    rw [decide_eq_true hl] at h
    simp only
    rw [if_pos]
    revert h
    cases ((ws.getD 0 tok0).kind == 1) <;> decide
  · rw [decide_eq_false hl] at h; cases h
end
theorem arm_le {ws : List Tk} {s : Old.Rs} {i : Old.Ins} {q : List UInt8} (h : s.p ≤ ws.length) : (armR ws s i q).2.1.p ≤ ws.length := by
  unfold armR
  split
  · split
    · exact (immAr_le (mark_le (regG_le h)))
    · exact (regG_le (mark_le (regG_le h)))
  · split
    · split
      · exact (immAr_le (mark_le (regG_le (mark_le (regG_le h)))))
      · exact (regG_le (mark_le (regG_le (mark_le (regG_le h)))))
    · split
      · exact (memG_le (mark_le (regG_le h)))
      · split
        · exact (memG_le (mark_le (regG_le h)))
        · split
          · split
            · exact (threeA_le h)
            · exact (threeA_le h)
          · split
            · exact (bar_le h)
            · split
              · exact h
              · split
                · exact (branG_le h)
                · exact h
abbrev aQ9 (ws : List Tk) := armR ws (⟨0, 0, nxK ws 0⟩ : Old.Rs) Old.blank ((ws.getD 0 tok0).text)
abbrev tQ9 (x : Old.Ins) : Old.Ins := Old.Ins.mk x.op x.dst x.a x.b x.imm x.loc x.off x.index x.size x.fn x.acq x.weak x.rel x.pred x.succ 1 x.zero
theorem rparsea_ (ws : List Tk) (cw : Nat) (hn : ws.length ≤ 1000000) (hw : WsOK ws) : Fn Tryz.prog 11 [.int .i64 3, .sl 0 ws.length cw] [some (wQ9 ws)] (Rt (.tup [.agg (oiQ9 ((parM ws).1)), .str ((parM ws).2.1), .int .i64 ((parM ws).2.2.1), .int .i64 ((parM ws).2.2.2)]) [some (wQ9 ws)]) :=
 enterM (n := 140) (by kernel_rfl) Tryz.func11 rfl rfl rfl fun G w a h0 A => N hX 25 A rfl rfl fun A => CALL1 [2, 0] (rpeek_ ws cw 0 (Nat.zero_le _) hn) A rfl rfl rfl rfl rfl rfl rfl fun A => N hX 14 A rfl rfl fun A => CALL1 [2, 0] (rwhere_ ws cw 0 (Nat.zero_le _) hn hw) A rfl rfl rfl rfl rfl rfl rfl fun A => N hX 15 A rfl rfl fun A => fork 43 A rfl
  (fun h1 A => N hX 4 A rfl rfl fun A => CALL1 [3, 2, 0] (roddT_ 3 ws cw (⟨0, 0, 0⟩ : Old.Rs) (Nat.zero_le _) hn hw) A rfl rfl rfl rfl rfl rfl rfl fun A => N hX 3 A rfl rfl fun A => DRAWN hX hmo [] [] A rfl rfl rfl rfl (by kernel_rfl) (effAll_nil _ _) trivial fun A => N hX 2 A rfl rfl fun A => RETN hX A rfl rfl rfl h0 rfl rfl rfl rfl (by rw [pm_bad h1] <;> rfl) rfl)
  (fun h1 A => N hX 9 A rfl rfl fun A => CALL1 [2, 0] (rnext_ ws cw 0 (Nat.zero_le _) hn) A rfl rfl rfl rfl rfl rfl rfl fun A => N hX 4 A rfl rfl fun A => CALL1 [] rblank5_ A rfl rfl rfl rfl rfl rfl rfl fun A => N hX 27 A rfl rfl fun A => forkE 62 A rfl
   (fun h2 A => absurd h2 (by decide))
   (fun h2 A => N hX 7 A rfl rfl fun A => forkE 71 A rfl
    (fun h3 A => absurd h3 (by decide))
    (fun h3 A => N hX 7 A rfl rfl fun A => forkE 80 A rfl
     (fun h4 A => N hX 5 A rfl rfl fun A => have A := A.asH (H' := [some (wQ9 ws), some (.blk [.int .i64 0, .int .i64 0, .int .i64 0, .int .i64 0, .int .i64 0, .int .i64 0, .int .i64 0, .int .i64 0, .int .i64 0, .int .i64 0, .ff, .ff, .ff, .int .i64 0, .int .i64 0, .int .i64 0, .ff]), some (.blk [.sl 0 ws.length cw, .int .i64 ((nxK ws 0 : Nat) : Int)]), some (.blk [.int .i64 3, .ptr 2 0, .int .i64 0, .int .i64 0]), some (.blk [.int .i64 ((ws.getD 0 tok0).kind), .str ((ws.getD 0 tok0).text), .int .i64 ((ws.getD 0 tok0).n), .int .i64 ((ws.getD 0 tok0).at_)]), some (.blk (oiQ9 Old.blank))]) rfl; CALL1 [3, 2, 0, 5] (rarm_ ws cw (⟨0, 0, nxK ws 0⟩ : Old.Rs) Old.blank ((ws.getD 0 tok0).text) (nxK_le (Nat.zero_le _)) hn hw) A rfl rfl rfl rfl rfl rfl rfl fun A => N hX 15 A rfl rfl fun A => fork 90 A rfl
      (fun h5 A => N hX 12 A rfl rfl fun A => RETN hX A rfl rfl rfl h0 rfl rfl rfl rfl (by rw [pm_go h1, fin_n hw (by simpa using h5)] <;> rfl) rfl)
      (fun h5 A => N hX 9 A rfl rfl fun A => CALL1 [2, 0] (rpeek_ ws cw (((aQ9 ws).2.1).p) (arm_le (nxK_le (Nat.zero_le _))) hn) A rfl rfl rfl rfl rfl rfl rfl fun A => N hX 14 A rfl rfl fun A => forkD 101 A rfl
       (fun h6 A => N hX 5 A rfl rfl fun A => CALL1 [3, 2, 0] (rfail_ 3 ws cw ((aQ9 ws).2.1) 25 ((ws.getD (((aQ9 ws).2.1).p) tok0).at_) (arm_le (nxK_le (Nat.zero_le _))) hn hw) A rfl rfl rfl rfl rfl rfl rfl fun A => N hX 17 A rfl rfl fun A => forkE 109 A rfl
        (fun h7 A => N hX 15 A rfl rfl fun A => forkE 116 A rfl
         (fun h8 A => N hX 1 A rfl rfl fun A => CALL1 [] (fn_asX (rright_ (frO (tQ9 ((aQ9 ws).2.2))) 0 1) (as_int (rright_o (frO (tQ9 ((aQ9 ws).2.2))) 0 1))) A rfl rfl rfl rfl rfl rfl rfl fun A => N hX 4 A rfl rfl fun A => forkN 120 A rfl
          (fun h9 A => N hX 4 A rfl rfl fun A => CALL1 [3, 2, 0] (rfail_ 3 ws cw (Old.failR ((aQ9 ws).2.1) 25 ((ws.getD (((aQ9 ws).2.1).p) tok0).at_)) 34 (atW ws 0) (fail_le (arm_le (nxK_le (Nat.zero_le _)))) hn hw) A rfl rfl rfl rfl rfl rfl rfl fun A => N hX 12 A rfl rfl fun A => forkN 128 A rfl
           (fun h10 A => N hX 2 A rfl rfl fun A => DRAWN hX hmo [] [] A rfl rfl rfl rfl (by kernel_rfl) (effAll_nil _ _) trivial fun A => N hX 2 A rfl rfl fun A => RETN hX A rfl rfl rfl h0 rfl rfl rfl rfl (by rw [pm_go h1, fin_y (by simpa using h5), more_y h6, last_b hw h8 (by rw [asb_y h7]; exact h9), out_n h10] <;> rfl) rfl)
           (fun h10 A => N hX 14 A rfl rfl fun A => RETN hX A rfl rfl rfl h0 rfl rfl rfl rfl (by rw [pm_go h1, fin_y (by simpa using h5), more_y h6, last_b hw h8 (by rw [asb_y h7]; exact h9), out_y h10] <;> rfl) rfl))
          (fun h9 A => N hX 13 A rfl rfl fun A => forkN 128 A rfl
           (fun h11 A => N hX 2 A rfl rfl fun A => DRAWN hX hmo [] [] A rfl rfl rfl rfl (by kernel_rfl) (effAll_nil _ _) trivial fun A => N hX 2 A rfl rfl fun A => RETN hX A rfl rfl rfl h0 rfl rfl rfl rfl (by rw [pm_go h1, fin_y (by simpa using h5), more_y h6, last_y h8 (by rw [asb_y h7]; exact h9), out_n h11] <;> rfl) rfl)
           (fun h11 A => N hX 14 A rfl rfl fun A => RETN hX A rfl rfl rfl h0 rfl rfl rfl rfl (by rw [pm_go h1, fin_y (by simpa using h5), more_y h6, last_y h8 (by rw [asb_y h7]; exact h9), out_y h11] <;> rfl) rfl)))
         (fun h8 A => N hX 19 A rfl rfl fun A => forkN 128 A rfl
          (fun h12 A => N hX 2 A rfl rfl fun A => DRAWN hX hmo [] [] A rfl rfl rfl rfl (by kernel_rfl) (effAll_nil _ _) trivial fun A => N hX 2 A rfl rfl fun A => RETN hX A rfl rfl rfl h0 rfl rfl rfl rfl (by rw [pm_go h1, fin_y (by simpa using h5), more_y h6, last_n h8, out_n h12] <;> rfl) rfl)
          (fun h12 A => N hX 14 A rfl rfl fun A => RETN hX A rfl rfl rfl h0 rfl rfl rfl rfl (by rw [pm_go h1, fin_y (by simpa using h5), more_y h6, last_n h8, out_y h12] <;> rfl) rfl)))
        (fun h7 A => N hX 12 A rfl rfl fun A => forkE 116 A rfl
         (fun h13 A => N hX 1 A rfl rfl fun A => CALL1 [] (fn_asX (rright_ (frO ((aQ9 ws).2.2)) 0 1) (as_int (rright_o (frO ((aQ9 ws).2.2)) 0 1))) A rfl rfl rfl rfl rfl rfl rfl fun A => N hX 4 A rfl rfl fun A => forkN 120 A rfl
          (fun h14 A => N hX 4 A rfl rfl fun A => CALL1 [3, 2, 0] (rfail_ 3 ws cw (Old.failR ((aQ9 ws).2.1) 25 ((ws.getD (((aQ9 ws).2.1).p) tok0).at_)) 34 (atW ws 0) (fail_le (arm_le (nxK_le (Nat.zero_le _)))) hn hw) A rfl rfl rfl rfl rfl rfl rfl fun A => N hX 12 A rfl rfl fun A => forkN 128 A rfl
           (fun h15 A => N hX 2 A rfl rfl fun A => DRAWN hX hmo [] [] A rfl rfl rfl rfl (by kernel_rfl) (effAll_nil _ _) trivial fun A => N hX 2 A rfl rfl fun A => RETN hX A rfl rfl rfl h0 rfl rfl rfl rfl (by rw [pm_go h1, fin_y (by simpa using h5), more_y h6, last_b hw h13 (by rw [asb_n h7]; exact h14), out_n h15] <;> rfl) rfl)
           (fun h15 A => N hX 14 A rfl rfl fun A => RETN hX A rfl rfl rfl h0 rfl rfl rfl rfl (by rw [pm_go h1, fin_y (by simpa using h5), more_y h6, last_b hw h13 (by rw [asb_n h7]; exact h14), out_y h15] <;> rfl) rfl))
          (fun h14 A => N hX 13 A rfl rfl fun A => forkN 128 A rfl
           (fun h16 A => N hX 2 A rfl rfl fun A => DRAWN hX hmo [] [] A rfl rfl rfl rfl (by kernel_rfl) (effAll_nil _ _) trivial fun A => N hX 2 A rfl rfl fun A => RETN hX A rfl rfl rfl h0 rfl rfl rfl rfl (by rw [pm_go h1, fin_y (by simpa using h5), more_y h6, last_y h13 (by rw [asb_n h7]; exact h14), out_n h16] <;> rfl) rfl)
           (fun h16 A => N hX 14 A rfl rfl fun A => RETN hX A rfl rfl rfl h0 rfl rfl rfl rfl (by rw [pm_go h1, fin_y (by simpa using h5), more_y h6, last_y h13 (by rw [asb_n h7]; exact h14), out_y h16] <;> rfl) rfl)))
         (fun h13 A => N hX 19 A rfl rfl fun A => forkN 128 A rfl
          (fun h17 A => N hX 2 A rfl rfl fun A => DRAWN hX hmo [] [] A rfl rfl rfl rfl (by kernel_rfl) (effAll_nil _ _) trivial fun A => N hX 2 A rfl rfl fun A => RETN hX A rfl rfl rfl h0 rfl rfl rfl rfl (by rw [pm_go h1, fin_y (by simpa using h5), more_y h6, last_n h13, out_n h17] <;> rfl) rfl)
          (fun h17 A => N hX 14 A rfl rfl fun A => RETN hX A rfl rfl rfl h0 rfl rfl rfl rfl (by rw [pm_go h1, fin_y (by simpa using h5), more_y h6, last_n h13, out_y h17] <;> rfl) rfl))))
       (fun h6 A => N hX 18 A rfl rfl fun A => forkE 109 A rfl
        (fun h18 A => N hX 15 A rfl rfl fun A => forkE 116 A rfl
         (fun h19 A => N hX 1 A rfl rfl fun A => CALL1 [] (fn_asX (rright_ (frO (tQ9 ((aQ9 ws).2.2))) 0 1) (as_int (rright_o (frO (tQ9 ((aQ9 ws).2.2))) 0 1))) A rfl rfl rfl rfl rfl rfl rfl fun A => N hX 4 A rfl rfl fun A => forkN 120 A rfl
          (fun h20 A => N hX 4 A rfl rfl fun A => CALL1 [3, 2, 0] (rfail_ 3 ws cw ((aQ9 ws).2.1) 34 (atW ws 0) (arm_le (nxK_le (Nat.zero_le _))) hn hw) A rfl rfl rfl rfl rfl rfl rfl fun A => N hX 12 A rfl rfl fun A => forkN 128 A rfl
           (fun h21 A => N hX 2 A rfl rfl fun A => DRAWN hX hmo [] [] A rfl rfl rfl rfl (by kernel_rfl) (effAll_nil _ _) trivial fun A => N hX 2 A rfl rfl fun A => RETN hX A rfl rfl rfl h0 rfl rfl rfl rfl (by rw [pm_go h1, fin_y (by simpa using h5), more_n h6, last_b hw h19 (by rw [asb_y h18]; exact h20), out_n h21] <;> rfl) rfl)
           (fun h21 A => N hX 14 A rfl rfl fun A => RETN hX A rfl rfl rfl h0 rfl rfl rfl rfl (by rw [pm_go h1, fin_y (by simpa using h5), more_n h6, last_b hw h19 (by rw [asb_y h18]; exact h20), out_y h21] <;> rfl) rfl))
          (fun h20 A => N hX 13 A rfl rfl fun A => forkN 128 A rfl
           (fun h22 A => N hX 2 A rfl rfl fun A => DRAWN hX hmo [] [] A rfl rfl rfl rfl (by kernel_rfl) (effAll_nil _ _) trivial fun A => N hX 2 A rfl rfl fun A => RETN hX A rfl rfl rfl h0 rfl rfl rfl rfl (by rw [pm_go h1, fin_y (by simpa using h5), more_n h6, last_y h19 (by rw [asb_y h18]; exact h20), out_n h22] <;> rfl) rfl)
           (fun h22 A => N hX 14 A rfl rfl fun A => RETN hX A rfl rfl rfl h0 rfl rfl rfl rfl (by rw [pm_go h1, fin_y (by simpa using h5), more_n h6, last_y h19 (by rw [asb_y h18]; exact h20), out_y h22] <;> rfl) rfl)))
         (fun h19 A => N hX 19 A rfl rfl fun A => forkN 128 A rfl
          (fun h23 A => N hX 2 A rfl rfl fun A => DRAWN hX hmo [] [] A rfl rfl rfl rfl (by kernel_rfl) (effAll_nil _ _) trivial fun A => N hX 2 A rfl rfl fun A => RETN hX A rfl rfl rfl h0 rfl rfl rfl rfl (by rw [pm_go h1, fin_y (by simpa using h5), more_n h6, last_n h19, out_n h23] <;> rfl) rfl)
          (fun h23 A => N hX 14 A rfl rfl fun A => RETN hX A rfl rfl rfl h0 rfl rfl rfl rfl (by rw [pm_go h1, fin_y (by simpa using h5), more_n h6, last_n h19, out_y h23] <;> rfl) rfl)))
        (fun h18 A => N hX 12 A rfl rfl fun A => forkE 116 A rfl
         (fun h24 A => N hX 1 A rfl rfl fun A => CALL1 [] (fn_asX (rright_ (frO ((aQ9 ws).2.2)) 0 1) (as_int (rright_o (frO ((aQ9 ws).2.2)) 0 1))) A rfl rfl rfl rfl rfl rfl rfl fun A => N hX 4 A rfl rfl fun A => forkN 120 A rfl
          (fun h25 A => N hX 4 A rfl rfl fun A => CALL1 [3, 2, 0] (rfail_ 3 ws cw ((aQ9 ws).2.1) 34 (atW ws 0) (arm_le (nxK_le (Nat.zero_le _))) hn hw) A rfl rfl rfl rfl rfl rfl rfl fun A => N hX 12 A rfl rfl fun A => forkN 128 A rfl
           (fun h26 A => N hX 2 A rfl rfl fun A => DRAWN hX hmo [] [] A rfl rfl rfl rfl (by kernel_rfl) (effAll_nil _ _) trivial fun A => N hX 2 A rfl rfl fun A => RETN hX A rfl rfl rfl h0 rfl rfl rfl rfl (by rw [pm_go h1, fin_y (by simpa using h5), more_n h6, last_b hw h24 (by rw [asb_n h18]; exact h25), out_n h26] <;> rfl) rfl)
           (fun h26 A => N hX 14 A rfl rfl fun A => RETN hX A rfl rfl rfl h0 rfl rfl rfl rfl (by rw [pm_go h1, fin_y (by simpa using h5), more_n h6, last_b hw h24 (by rw [asb_n h18]; exact h25), out_y h26] <;> rfl) rfl))
          (fun h25 A => N hX 13 A rfl rfl fun A => forkN 128 A rfl
           (fun h27 A => N hX 2 A rfl rfl fun A => DRAWN hX hmo [] [] A rfl rfl rfl rfl (by kernel_rfl) (effAll_nil _ _) trivial fun A => N hX 2 A rfl rfl fun A => RETN hX A rfl rfl rfl h0 rfl rfl rfl rfl (by rw [pm_go h1, fin_y (by simpa using h5), more_n h6, last_y h24 (by rw [asb_n h18]; exact h25), out_n h27] <;> rfl) rfl)
           (fun h27 A => N hX 14 A rfl rfl fun A => RETN hX A rfl rfl rfl h0 rfl rfl rfl rfl (by rw [pm_go h1, fin_y (by simpa using h5), more_n h6, last_y h24 (by rw [asb_n h18]; exact h25), out_y h27] <;> rfl) rfl)))
         (fun h24 A => N hX 19 A rfl rfl fun A => forkN 128 A rfl
          (fun h28 A => N hX 2 A rfl rfl fun A => DRAWN hX hmo [] [] A rfl rfl rfl rfl (by kernel_rfl) (effAll_nil _ _) trivial fun A => N hX 2 A rfl rfl fun A => RETN hX A rfl rfl rfl h0 rfl rfl rfl rfl (by rw [pm_go h1, fin_y (by simpa using h5), more_n h6, last_n h24, out_n h28] <;> rfl) rfl)
          (fun h28 A => N hX 14 A rfl rfl fun A => RETN hX A rfl rfl rfl h0 rfl rfl rfl rfl (by rw [pm_go h1, fin_y (by simpa using h5), more_n h6, last_n h24, out_y h28] <;> rfl) rfl))))))
     (fun h4 A => absurd rfl h4))))


end Go.Proofs.YtedlaclfhgneeabGreatDoor
namespace Go.Proofs.YtedlaclfhgneeabGreatDoor
open Go.Shelf Go.RowKit
set_option linter.unusedVariables false
def laysGrow_ren : Go.Shelf.Ren := ⟨fun | 4 => 133 | n => n, fun | 22 => 64 | 25 => 128 | n => n, fun | n => n⟩
theorem laysGrow : Go.Proofs.Lays8.n4 Tryz.prog laysGrow_ren := {
  mixed := by kernel_rfl
  f4 := ⟨"slices.Grow[[]belated/lang.Row,belated/lang.Row]", by decide, Tryz.func133.trans (congrArg some (by kernel_rfl))⟩
  t0 := Tryz.underlying0
  a0 := Tryz.isAgg0
  z0 := Tryz.sizeOf0
  v0 := Tryz.zeroValue0
  t3 := Tryz.underlying3
  a3 := Tryz.isAgg3
  z3 := Tryz.sizeOf3
  v3 := Tryz.zeroValue3
  t4 := Tryz.underlying4
  a4 := Tryz.isAgg4
  z4 := Tryz.sizeOf4
  v4 := Tryz.zeroValue4
  t9 := Tryz.underlying9
  a9 := Tryz.isAgg9
  z9 := Tryz.sizeOf9
  v9 := Tryz.zeroValue9
  t20 := Tryz.underlying20
  a20 := Tryz.isAgg20
  z20 := Tryz.sizeOf20
  v20 := Tryz.zeroValue20
  t22 := Tryz.underlying64
  a22 := Tryz.isAgg64
  z22 := Tryz.sizeOf64
  v22 := Tryz.zeroValue64 }
theorem rowInfo : ∃ ti z, Tryz.prog.info? 128 = some ti ∧ ti.zero = some z ∧ z.cells.size = 20 ∧ ti.size = 20 ∧ ti.bytes ≤ 100000 := by
  have h : (Tryz.prog.info? 128).map (fun ti => (ti.zero.map (fun z => z.cells.size), ti.size, Nat.ble ti.bytes 100000)) = some (some 20, 20, true) := by kernel_rfl
  cases e : Tryz.prog.info? 128 with
  | none => rw [e] at h; cases h
  | some ti =>
    rw [e] at h
    simp only [Option.map_some, Option.some.injEq, Prod.mk.injEq] at h
    obtain ⟨h1, h2, h3⟩ := h
    cases ez : ti.zero with
    | none => rw [ez] at h1; cases h1
    | some z =>
      rw [ez] at h1
      simp only [Option.map_some, Option.some.injEq] at h1
      exact ⟨ti, z, rfl, ez, h1, h2, Nat.le_of_ble_eq_true h3⟩
theorem grow_ (k : Nat) (h0 : 0 < k) (hk : k ≤ 1000000) : FnR Tryz.prog 133 [.sla none 0 0, .int .i64 k] [] (fun x w w' => ∃ (L : List Rw) (b cp : Nat), x = .sla (some ⟨b, 0, none⟩) 0 cp ∧ L = [] ∧ w.heap.size ≤ b ∧ Given 128 20 0 (fun zz => rwc (L.getD zz Rw.z)) b cp w') := by
  refine ⟨by kernel_rfl, fun G w vs hM hv => ?_⟩
  have hv' : some [Value.slice none 0 0, .int .i64 k] = some vs := hv
  cases hv'
  obtain ⟨ti, z, e1, e2, e3, e4, e5⟩ := rowInfo
  have hc := Any8.slices_Grow_grow laysGrow ti z e1 e2 (by omega) none 0 0 k [] w (Nat.le_refl _) (by omega) (by
    have : (0 + k) * ti.bytes ≤ 1000000 * 100000 := Nat.mul_le_mul (by omega) e5
    omega) (by omega) (by simp) (fun _ => rfl) (fun a ha => by cases ha)
  refine hc.mono ?_
  rintro e w' ⟨rfl, rfl⟩
  have hge := grownCap_ge w (0 + k) 0 128
  refine ⟨.sla (some ⟨w.heap.size, 0, none⟩) 0 (grownCap w (0 + k) 0 128), _, rfl, rfl, ((Grow.refl w).drew).alloc _, [], w.heap.size, _, rfl, rfl, Nat.le_refl _, fun k => ⟨_, rfl, rfl⟩, [], rfl, ?_⟩
  refine World.ownsRow_made w.drew _ _ (Nat.zero_le _) (grownCap_le_maxLen w (0 + k) 0 128 (by unfold maxLen; omega)) ?_
  show (([] : List Value).toArray ++ Builtin.zeroCells z.cells (0 + k - 0) ++ Builtin.zeroCells z.cells (grownCap w (0 + k) 0 128 - (0 + k))).size = _
  simp only [Array.size_append, List.size_toArray, List.length_nil, size_zeroCells, e3]
  omega
end Go.Proofs.YtedlaclfhgneeabGreatDoor
namespace Go.Proofs.YtedlaclfhgneeabGreatDoor
open Go.RowKit
set_option linter.unusedVariables false
set_option linter.unusedSimpArgs false
set_option maxRecDepth 100000
set_option maxHeartbeats 2000000
set_option simprocs false
section
variable {P : Program} {n : Nat} {ks : List Nat} {G0 : Gr} {w0 : World} {T : List (Nat × SV)} {H : Hp} {G : Gr} {a : Act} {w w' : World} {Q : Exit → Act → World → Prop} {K : List Fr} {ops : Array Oper} {o : Oper} {rest : List Oper} {c : Code}
theorem RND {q : Nat} (h : Goal P Q (.lp (Code.rounds P c (wpK P Q K) q) :: K) (.code c) a w) : Code.rounds P c (wpK P Q K) (q + 1) a w := h
theorem UNR (q : Nat) (h : Code.rounds P c (wpK P Q K) q a w) : Goal P Q K (.code (.loop c)) a w := wp_loop_rounds q h
theorem CALLROWA {β : Type} {e s m t f : Nat} {az : List SV} {F : β → Nat → List SV} {R : β → Nat → World → World → Prop} (hf : FnR P f az [] (fun x w w' => ∃ (L : β) (b cp : Nat), x = .sla (some ⟨b, 0, none⟩) m cp ∧ R L b w w' ∧ w.heap.size ≤ b ∧ Given e s m (F L) b cp w')) (A : Sy n T H ks G0 w0 G a w) (hd : o.dst = some t) (h1 : callS n ops T o = some (f, az)) (h2 : renL [] az = some az)
    (k : ∀ L b cp a' w' G', R L b w w' → w.heap.size ≤ b → (∀ k, (keys (H ++ [some (.row e s m 0 (F L))]) G').contains k = true → k < w.heap.size ∨ k = b) → Sy n ((t, .sl H.length m 0) :: extS T o.dst (.sla (some ⟨b, 0, none⟩) m cp)) (H ++ [some (.row e s m 0 (F L))]) ks G0 w0 G' a' w' → Goal P Q K (.ops ops rest) a' w') : Goal P Q K (.ops ops (o :: rest)) a w := by
  refine CALLR [] hf A h1 h2 rfl rfl rfl fun x a' w' hJ hk A' => ?_
  obtain ⟨L, b, cp, rfl, hR, hlo, hg⟩ := hJ
  have hl : look (extS T o.dst (.sla (some ⟨b, 0, none⟩) m cp)) t = some (.sla (some ⟨b, 0, none⟩) m cp) := by rw [hd]; simp [extS, look, Nat.beq_refl]
  have A2 := A'.takeRow t hg (fun i e L q1 q2 q3 => by
    have := A.mem.ent i e q1
    rw [q2] at this
    have := EntOK.lt this q3
    omega) (Nat.le_trans A.mix.size hlo) hl
  refine k L b cp a' w' _ hR hlo (fun k hk' => ?_) A2
  obtain ⟨i, e', M, q1, q2, q3, q4⟩ := mem_keys.1 hk'
  have hlen := A.mem.len
  by_cases hi : i < H.length
  · rw [List.getElem?_append_left hi] at q1
    rw [List.getElem?_append_left (by omega)] at q3
    exact .inl (hk k (mem_keys.2 ⟨i, e', M, q1, q2, q3, q4⟩))
  · right
    have hi2 : i = G.length := by
      have := (List.getElem?_eq_some_iff.1 q3).1
      simp at this
      omega
    subst hi2
    rw [List.getElem?_append_right (Nat.le_refl _)] at q3
    simp at q3
    rw [← q4, ← q3]
end
theorem ix_p {i o s m k : Nat} (j : Nat) {q : Nat} (hq : o + j * s + k = q) : ∀ G, den G (.ix (.ptr i o) s m (j : Int) k) = den G (.ptr i q) := fun G => by
  subst hq
  unfold den
  cases hG : G[i]? with
  | none => unfold den; rw [hG]
  | some p => cases p with
    | none => unfold den; rw [hG]
    | some L => unfold den; rw [hG]; simp [Nat.add_assoc]
theorem concat5_ (L1 L2 L3 L4 L5 : List Rw) (c1 c2 c3 c4 c5 : Nat) (l1 : L1.length = 10) (l12 : (L1 ++ L2).length = 15) (l13 : ((L1 ++ L2) ++ L3).length = 23) (l14 : (((L1 ++ L2) ++ L3) ++ L4).length = 26) : Fn Tryz.prog 67 [.sl 0 5 5] [some (.blk [.sl 1 10 c1, .sl 2 5 c2, .sl 3 8 c3, .sl 4 3 c4, .sl 5 5 c5]), some (.lst 20 10 (fun zz => rwc (L1.getD zz Rw.z))), some (.lst 20 5 (fun zz => rwc (L2.getD zz Rw.z))), some (.lst 20 8 (fun zz => rwc (L3.getD zz Rw.z))), some (.lst 20 3 (fun zz => rwc (L4.getD zz Rw.z))), some (.lst 20 5 (fun zz => rwc (L5.getD zz Rw.z)))] (Rt (.sl 6 31 0) [some (.blk [.sl 1 10 c1, .sl 2 5 c2, .sl 3 8 c3, .sl 4 3 c4, .sl 5 5 c5]), some (.lst 20 10 (fun zz => rwc (L1.getD zz Rw.z))), some (.lst 20 5 (fun zz => rwc (L2.getD zz Rw.z))), some (.lst 20 8 (fun zz => rwc (L3.getD zz Rw.z))), some (.lst 20 3 (fun zz => rwc (L4.getD zz Rw.z))), some (.lst 20 5 (fun zz => rwc (L5.getD zz Rw.z))), some (.row 128 20 31 0 (fun zz => rwc (((((L1 ++ L2) ++ L3) ++ L4) ++ L5).getD zz Rw.z)))]) :=
 enterM (n := 36) (by kernel_rfl) Tryz.func67 rfl rfl rfl fun G w a h0 A => N hX 15 A rfl rfl fun A => have A := sy_sayD A 10 (.int .i64 5) rfl (fun _ => rfl); N hX 1 A rfl rfl fun A => N hX 3 A rfl rfl fun A => UNR 6 (RND (have A := A.cut [0, 2, 3, 9, 10, 11] rfl;
 N hX 6 A rfl rfl fun A => forkD 12 A rfl
   (fun h1 A => N hX 8 A rfl (ok_d (by omega) <| okE_nil) fun A => have A := sy_sayD A 13 (.ptr 0 0) rfl (ix_p 0 rfl); N hX 7 A rfl rfl fun A => N hX 2 A rfl rfl fun A => have A := sy_sayD A 17 (.int .i64 10) rfl (fun _ => rfl); N hX 1 A rfl (ok_d (by omega) <| okE_nil) fun A => have A := sy_sayD A 18 (.int .i64 10) rfl (fun _ => rfl); N hX 6 A rfl rfl fun A => N hX 3 A rfl rfl fun A => forkD 20 A rfl
    (fun h2 A => absurd h2 (by decide))
    (fun h2 A => N hX 6 A rfl (ok_d (by omega) <| okE_nil) fun A => have A := sy_sayD A 22 (.int .i64 1) rfl (fun _ => rfl); N hX 1 A rfl rfl fun A => N hX 1 A rfl rfl fun A => RND (have A := A.cut [0, 2, 3, 9, 10, 11] rfl;
 N hX 6 A rfl rfl fun A => forkD 12 A rfl
     (fun h3 A => N hX 8 A rfl (ok_d (by omega) <| okE_nil) fun A => have A := sy_sayD A 13 (.ptr 0 1) rfl (ix_p 1 rfl); N hX 7 A rfl rfl fun A => N hX 2 A rfl rfl fun A => have A := sy_sayD A 17 (.int .i64 5) rfl (fun _ => rfl); N hX 1 A rfl (ok_d (by omega) <| okE_nil) fun A => have A := sy_sayD A 18 (.int .i64 15) rfl (fun _ => rfl); N hX 6 A rfl rfl fun A => N hX 3 A rfl rfl fun A => forkD 20 A rfl
      (fun h4 A => absurd h4 (by decide))
      (fun h4 A => N hX 6 A rfl (ok_d (by omega) <| okE_nil) fun A => have A := sy_sayD A 22 (.int .i64 2) rfl (fun _ => rfl); N hX 1 A rfl rfl fun A => N hX 1 A rfl rfl fun A => RND (have A := A.cut [0, 2, 3, 9, 10, 11] rfl;
 N hX 6 A rfl rfl fun A => forkD 12 A rfl
       (fun h5 A => N hX 8 A rfl (ok_d (by omega) <| okE_nil) fun A => have A := sy_sayD A 13 (.ptr 0 2) rfl (ix_p 2 rfl); N hX 7 A rfl rfl fun A => N hX 2 A rfl rfl fun A => have A := sy_sayD A 17 (.int .i64 8) rfl (fun _ => rfl); N hX 1 A rfl (ok_d (by omega) <| okE_nil) fun A => have A := sy_sayD A 18 (.int .i64 23) rfl (fun _ => rfl); N hX 6 A rfl rfl fun A => N hX 3 A rfl rfl fun A => forkD 20 A rfl
        (fun h6 A => absurd h6 (by decide))
        (fun h6 A => N hX 6 A rfl (ok_d (by omega) <| okE_nil) fun A => have A := sy_sayD A 22 (.int .i64 3) rfl (fun _ => rfl); N hX 1 A rfl rfl fun A => N hX 1 A rfl rfl fun A => RND (have A := A.cut [0, 2, 3, 9, 10, 11] rfl;
 N hX 6 A rfl rfl fun A => forkD 12 A rfl
         (fun h7 A => N hX 8 A rfl (ok_d (by omega) <| okE_nil) fun A => have A := sy_sayD A 13 (.ptr 0 3) rfl (ix_p 3 rfl); N hX 7 A rfl rfl fun A => N hX 2 A rfl rfl fun A => have A := sy_sayD A 17 (.int .i64 3) rfl (fun _ => rfl); N hX 1 A rfl (ok_d (by omega) <| okE_nil) fun A => have A := sy_sayD A 18 (.int .i64 26) rfl (fun _ => rfl); N hX 6 A rfl rfl fun A => N hX 3 A rfl rfl fun A => forkD 20 A rfl
          (fun h8 A => absurd h8 (by decide))
          (fun h8 A => N hX 6 A rfl (ok_d (by omega) <| okE_nil) fun A => have A := sy_sayD A 22 (.int .i64 4) rfl (fun _ => rfl); N hX 1 A rfl rfl fun A => N hX 1 A rfl rfl fun A => RND (have A := A.cut [0, 2, 3, 9, 10, 11] rfl;
 N hX 6 A rfl rfl fun A => forkD 12 A rfl
           (fun h9 A => N hX 8 A rfl (ok_d (by omega) <| okE_nil) fun A => have A := sy_sayD A 13 (.ptr 0 4) rfl (ix_p 4 rfl); N hX 7 A rfl rfl fun A => N hX 2 A rfl rfl fun A => have A := sy_sayD A 17 (.int .i64 5) rfl (fun _ => rfl); N hX 1 A rfl (ok_d (by omega) <| okE_nil) fun A => have A := sy_sayD A 18 (.int .i64 31) rfl (fun _ => rfl); N hX 6 A rfl rfl fun A => N hX 3 A rfl rfl fun A => forkD 20 A rfl
            (fun h10 A => absurd h10 (by decide))
            (fun h10 A => N hX 6 A rfl (ok_d (by omega) <| okE_nil) fun A => have A := sy_sayD A 22 (.int .i64 5) rfl (fun _ => rfl); N hX 1 A rfl rfl fun A => N hX 1 A rfl rfl fun A => RND (have A := A.cut [0, 2, 3, 9, 10, 11] rfl;
 N hX 6 A rfl rfl fun A => forkD 12 A rfl
             (fun h11 A => absurd h11 (by decide))
             (fun h11 A => N hX 6 A rfl rfl fun A => CALLROWA (t := 24) (F := fun (L : List Rw) zz => rwc (L.getD zz Rw.z)) (R := fun L b w w' => L = []) (grow_ 31 (by decide) (by decide)) A rfl rfl rfl fun L b1 cp1 a1 w1 G1 hR hlo hk A =>
 N hX 8 A rfl rfl fun A => have A := sy_sayD A 26 (.int .i64 5) rfl (fun _ => rfl); N hX 1 A rfl rfl fun A => N hX 3 A rfl rfl fun A => UNR 6 (RND (have A := A.cut [2, 6, 25, 26, 27] rfl;
 N hX 6 A rfl rfl fun A => forkD 28 A rfl
               (fun h12 A => N hX 8 A rfl (ok_d (by omega) <| okE_nil) fun A => have A := sy_sayD A 29 (.ptr 0 0) rfl (ix_p 0 rfl); N hX 7 A rfl rfl fun A => q_eff A rfl (aplE hX 10 (fun zz => rwc (L1.getD zz Rw.z)) rfl rfl rfl rfl (Nat.le_refl _) (by decide) (show 10 ≤ 1000000 by decide) rfl (fun k hk => absurd hk (Nat.not_lt_zero k)) (fun k hk => by show rwc (L1.getD (0 + k) Rw.z) = rwc _; rw [Nat.zero_add]) (fun z => ⟨_, rfl, rfl⟩) (fun k hk => ⟨_, rfl, okE_nil⟩)) fun A =>
 N hX 6 A rfl (ok_d (by omega) <| okE_nil) fun A => have A := sy_sayD A 34 (.int .i64 1) rfl (fun _ => rfl); N hX 1 A rfl rfl fun A => N hX 1 A rfl rfl fun A => RND (have A := A.cut [2, 6, 25, 26, 27] rfl;
 N hX 6 A rfl rfl fun A => forkD 28 A rfl
                (fun h13 A => N hX 8 A rfl (ok_d (by omega) <| okE_nil) fun A => have A := sy_sayD A 29 (.ptr 0 1) rfl (ix_p 1 rfl); N hX 7 A rfl rfl fun A => q_eff A rfl (aplE hX 15 (fun zz => rwc ((L1 ++ L2).getD zz Rw.z)) rfl rfl rfl rfl (Nat.le_refl _) (by decide) (show 5 ≤ 1000000 by decide) rfl (fun k hk => by show rwc _ = rwc _; rw [getD_app_l (by rw [l1]; exact hk)]) (fun k hk => by show rwc ((L1 ++ L2).getD (10 + k) Rw.z) = rwc _; rw [show 10 + k = L1.length + k by rw [l1], getD_app_r]) (fun z => ⟨_, rfl, rfl⟩) (fun k hk => ⟨_, rfl, okE_nil⟩)) fun A =>
 N hX 6 A rfl (ok_d (by omega) <| okE_nil) fun A => have A := sy_sayD A 34 (.int .i64 2) rfl (fun _ => rfl); N hX 1 A rfl rfl fun A => N hX 1 A rfl rfl fun A => RND (have A := A.cut [2, 6, 25, 26, 27] rfl;
 N hX 6 A rfl rfl fun A => forkD 28 A rfl
                 (fun h14 A => N hX 8 A rfl (ok_d (by omega) <| okE_nil) fun A => have A := sy_sayD A 29 (.ptr 0 2) rfl (ix_p 2 rfl); N hX 7 A rfl rfl fun A => q_eff A rfl (aplE hX 23 (fun zz => rwc (((L1 ++ L2) ++ L3).getD zz Rw.z)) rfl rfl rfl rfl (Nat.le_refl _) (by decide) (show 8 ≤ 1000000 by decide) rfl (fun k hk => by show rwc _ = rwc _; rw [getD_app_l (by rw [l12]; exact hk)]) (fun k hk => by show rwc (((L1 ++ L2) ++ L3).getD (15 + k) Rw.z) = rwc _; rw [show 15 + k = (L1 ++ L2).length + k by rw [l12], getD_app_r]) (fun z => ⟨_, rfl, rfl⟩) (fun k hk => ⟨_, rfl, okE_nil⟩)) fun A =>
 N hX 6 A rfl (ok_d (by omega) <| okE_nil) fun A => have A := sy_sayD A 34 (.int .i64 3) rfl (fun _ => rfl); N hX 1 A rfl rfl fun A => N hX 1 A rfl rfl fun A => RND (have A := A.cut [2, 6, 25, 26, 27] rfl;
 N hX 6 A rfl rfl fun A => forkD 28 A rfl
                  (fun h15 A => N hX 8 A rfl (ok_d (by omega) <| okE_nil) fun A => have A := sy_sayD A 29 (.ptr 0 3) rfl (ix_p 3 rfl); N hX 7 A rfl rfl fun A => q_eff A rfl (aplE hX 26 (fun zz => rwc ((((L1 ++ L2) ++ L3) ++ L4).getD zz Rw.z)) rfl rfl rfl rfl (Nat.le_refl _) (by decide) (show 3 ≤ 1000000 by decide) rfl (fun k hk => by show rwc _ = rwc _; rw [getD_app_l (by rw [l13]; exact hk)]) (fun k hk => by show rwc ((((L1 ++ L2) ++ L3) ++ L4).getD (23 + k) Rw.z) = rwc _; rw [show 23 + k = ((L1 ++ L2) ++ L3).length + k by rw [l13], getD_app_r]) (fun z => ⟨_, rfl, rfl⟩) (fun k hk => ⟨_, rfl, okE_nil⟩)) fun A =>
 N hX 6 A rfl (ok_d (by omega) <| okE_nil) fun A => have A := sy_sayD A 34 (.int .i64 4) rfl (fun _ => rfl); N hX 1 A rfl rfl fun A => N hX 1 A rfl rfl fun A => RND (have A := A.cut [2, 6, 25, 26, 27] rfl;
 N hX 6 A rfl rfl fun A => forkD 28 A rfl
                   (fun h16 A => N hX 8 A rfl (ok_d (by omega) <| okE_nil) fun A => have A := sy_sayD A 29 (.ptr 0 4) rfl (ix_p 4 rfl); N hX 7 A rfl rfl fun A => q_eff A rfl (aplE hX 31 (fun zz => rwc (((((L1 ++ L2) ++ L3) ++ L4) ++ L5).getD zz Rw.z)) rfl rfl rfl rfl (Nat.le_refl _) (by decide) (show 5 ≤ 1000000 by decide) rfl (fun k hk => by show rwc _ = rwc _; rw [getD_app_l (by rw [l14]; exact hk)]) (fun k hk => by show rwc (((((L1 ++ L2) ++ L3) ++ L4) ++ L5).getD (26 + k) Rw.z) = rwc _; rw [show 26 + k = (((L1 ++ L2) ++ L3) ++ L4).length + k by rw [l14], getD_app_r]) (fun z => ⟨_, rfl, rfl⟩) (fun k hk => ⟨_, rfl, okE_nil⟩)) fun A =>
 N hX 6 A rfl (ok_d (by omega) <| okE_nil) fun A => have A := sy_sayD A 34 (.int .i64 5) rfl (fun _ => rfl); N hX 1 A rfl rfl fun A => N hX 1 A rfl rfl fun A => RND (have A := A.cut [2, 6, 25, 26, 27] rfl;
 N hX 6 A rfl rfl fun A => forkD 28 A rfl
                    (fun h17 A => absurd h17 (by decide))
                    (fun h17 A => N hX 10 A rfl rfl fun A => RET hX [11] A ⟨rfl, rfl⟩ rfl rfl rfl rfl rfl rfl rfl rfl h0)))
                   (fun h16 A => absurd (by decide) h16)))
                  (fun h15 A => absurd (by decide) h15)))
                 (fun h14 A => absurd (by decide) h14)))
                (fun h13 A => absurd (by decide) h13)))
               (fun h12 A => absurd (by decide) h12)))))))
           (fun h9 A => absurd (by decide) h9))))
         (fun h7 A => absurd (by decide) h7))))
       (fun h5 A => absurd (by decide) h5))))
     (fun h3 A => absurd (by decide) h3))))
   (fun h1 A => absurd (by decide) h1)))
def c5 : List (List UInt8 × Int) := [([65, 68, 68], 1), ([83, 85, 66], 2), ([69, 79, 82], 3), ([65, 78, 68], 4), ([79, 82, 82], 5)]
abbrev cr1 (x : List UInt8 × Int) (b1 : Nat) : Rw := ⟨x.1, [], insF 3 x.2, some ⟨b1, 0, none⟩, [1, 2, 3], 3⟩
abbrev cr2 (x : List UInt8 × Int) (b2 : Nat) : Rw := ⟨x.1, [], insF 3 x.2, some ⟨b2, 0, none⟩, [1, 2, 5], 3⟩
def acomp : List (List UInt8 × List UInt8 × In × List Int) := c5.flatMap fun x => [(x.1, [], insF 3 x.2, [1, 2, 3]), (x.1, [], insF 3 x.2, [1, 2, 5])]
structure AC (lo : Nat) (z : List Rw × Nat) (w : World) (ks : List Nat) : Prop where
  le : z.2 ≤ 5
  tm : z.1.map tm = acomp.take (2 * z.2)
  rw : RowsIn lo z.1 w ks
theorem AC.len {lo : Nat} {z : List Rw × Nat} {w : World} {ks : List Nat} (h : AC lo z w ks) : z.1.length = 2 * z.2 := by
  have h1 := congrArg List.length h.tm
  rw [List.length_map, List.length_take] at h1
  have h2 : acomp.length = 10 := by decide
  have := h.le
  omega
theorem AC.nx {lo b1 b2 : Nat} {z : List Rw × Nat} {w w1 : World} {ks ks1 : List Nat} {l : List (Nat × List SV)} (h : AC lo z w ks) (hk : (z.2 : Int) < 5) (hr : RowsIn lo z.1 w1 ks1) (hA : Acc lo [(b2, [.int .i64 1, .int .i64 2, .int .i64 5]), (b1, [.int .i64 1, .int .i64 2, .int .i64 3])] w1 ks1) : AC lo (z.1 ++ [cr1 (c5.getD ((z.2 : Int)).toNat nz) b1, cr2 (c5.getD ((z.2 : Int)).toNat nz) b2], z.2 + 1) w1 ks1 := by
  refine ⟨by have := h.le; show z.2 + 1 ≤ 5; omega, ?_, fun r hr' => ?_⟩
  · show List.map _ (z.1 ++ _) = _
    rw [List.map_append, h.tm, Int.toNat_natCast]
    have : z.2 = 0 ∨ z.2 = 1 ∨ z.2 = 2 ∨ z.2 = 3 ∨ z.2 = 4 := by omega
    rcases this with e | e | e | e | e <;> rw [e] <;> rfl
  · rcases List.mem_append.1 hr' with h1 | h1
    · exact hr r h1
    · simp only [List.mem_cons, List.mem_nil_iff, or_false] at h1
      rcases h1 with rfl | rfl
      · exact lies_of (cs := []) [1, 2, 3] hA (List.mem_cons_of_mem _ (List.mem_cons_self))
      · exact lies_of (cs := []) [1, 2, 5] hA (List.mem_cons_self)
theorem acomp_ : FnR Tryz.prog 68 [] [] (fun x w w' => ∃ (L : List Rw) (b cp : Nat), x = .sla (some ⟨b, 0, none⟩) 10 cp ∧ (L.map tm = acomp ∧ RowsIn w.heap.size L w' [b]) ∧ w.heap.size ≤ b ∧ Given 128 20 10 (fun zz => rwc (L.getD zz Rw.z)) b cp w') :=
 enterR (n := 36) (by kernel_rfl) Tryz.func68 rfl rfl rfl fun G w a h0 A => N hX 13 A rfl rfl fun A => have A := A.asT nz nfc 2 tyN.1 tyN.2.1 tyN.2.2 c5 0 rfl; N hX 17 A rfl rfl fun A => have A := A.nilRow 2 128 20 (fun zz => rwc (([] : List Rw).getD zz Rw.z)) rfl (fun z => ⟨_, rfl, rfl⟩); LOOPJ (fun (z : List Rw × Nat) => [(0, .sla none 0 0), (2, .sl 1 z.1.length 0), (12, .sl 0 5 5), (13, .int .i64 ((5 : Nat) : Int)), (14, .int .i64 (z.2 : Int))]) (fun (z : List Rw × Nat) => [some (.lst 2 5 (fun zz => nfc (c5.getD zz nz))), some (.row 128 20 z.1.length 0 (fun zz => rwc (z.1.getD zz Rw.z)))]) (fun z w1 ks1 => AC w.heap.size z w1 ks1) (fun z => 5 - z.2) ([], 0) (A.cut [0, 2, 12, 13, 14] rfl) ⟨by decide, rfl, fun r hr => by cases hr⟩ fun z G1 a1 w1 hJ hg A B => have hA : Acc w.heap.size [] w1 _ := Acc.nil; have hR := hJ.rw;
 N hX 6 A rfl rfl fun A => forkD 15 A rfl
   (fun h1 A => N hX 14 A rfl (ok_d (by omega) <| ok_d (by omega) <| okE_nil) fun A => N hX 4 A rfl rfl fun A => have A := sy_sayD A 20 (.agg [.int .i64 3, .int .i64 0, .int .i64 0, .int .i64 0, .int .i64 0, .int .i64 0, .int .i64 0, .int .i64 0, .int .i64 0, .int .i64 ((c5.getD (((z.2 : Int)).toNat) nz).2), .bool false, .bool false, .bool false, .int .i64 0, .int .i64 0, .int .i64 0, .bool false]) rfl (fun _ => rfl); N hX 9 A rfl rfl fun A => BSCI [.int .i64 1, .int .i64 2, .int .i64 3] (X := ⟨_, true⟩) hX RowsIn.ok B hA hR A rfl rfl rfl rfl fun b1 B hA hR A =>
 N hX 4 A rfl rfl fun A => BSCI [.int .i64 1, .int .i64 2, .int .i64 5] (X := ⟨_, true⟩) hX RowsIn.ok B hA hR A rfl rfl rfl rfl fun b2 B hA hR A =>
 N hX 2 A rfl rfl fun A => have A := A.asT Rw.z rwc 20 tyR.1 tyR.2.1 tyR.2.2 [cr1 (c5.getD (((z.2 : Int)).toNat) nz) b1, cr2 (c5.getD (((z.2 : Int)).toNat) nz) b2] 4 rfl; q_eff A rfl (aplE hX ((z.1 ++ [cr1 (c5.getD (((z.2 : Int)).toNat) nz) b1, cr2 (c5.getD (((z.2 : Int)).toNat) nz) b2]).length) (fun zz => rwc ((z.1 ++ [cr1 (c5.getD (((z.2 : Int)).toNat) nz) b1, cr2 (c5.getD (((z.2 : Int)).toNat) nz) b2]).getD zz Rw.z)) rfl rfl rfl rfl (Nat.le_refl _) (by have := hJ.len; have := hJ.le; omega) (by decide) List.length_append (fun k hk => by show rwc _ = rwc _; rw [getD_app_l hk]) (fun k hk => by show rwc _ = rwc _; rw [getD_app_r]) (fun z => ⟨_, rfl, rfl⟩) (fun k hk => ⟨_, rfl, okE_nil⟩)) fun A =>
 N hX 8 A rfl (ok_d (by omega) <| okE_nil) fun A => ⟨(z.1 ++ [cr1 (c5.getD (((z.2 : Int)).toNat) nz) b1, cr2 (c5.getD (((z.2 : Int)).toNat) nz) b2], z.2 + 1), _, (by have := h1; show _ - _ < _ - _; omega), (hJ.nx (l := []) h1 (RowsIn.ok _ _ _ _ hR A.mix fun b hb => A.keys_own b ((keys_pick (H := [some (.lst 2 5 (fun zz => nfc (c5.getD zz nz))), none, some (.blk [.str ((c5.getD (((z.2 : Int)).toNat) nz).1), .int .i64 ((c5.getD (((z.2 : Int)).toNat) nz).2)]), some (.blk [.int .i64 3, .int .i64 0, .int .i64 0, .int .i64 0, .int .i64 0, .int .i64 0, .int .i64 0, .int .i64 0, .int .i64 0, .int .i64 ((c5.getD (((z.2 : Int)).toNat) nz).2), .bool false, .bool false, .bool false, .int .i64 0, .int .i64 0, .int .i64 0, .bool false]), some (.lst 20 ([cr1 (c5.getD (((z.2 : Int)).toNat) nz) b1, cr2 (c5.getD (((z.2 : Int)).toNat) nz) b2].length) (fun zz => rwc ([cr1 (c5.getD (((z.2 : Int)).toNat) nz) b1, cr2 (c5.getD (((z.2 : Int)).toNat) nz) b2].getD zz Rw.z))), some (.row 128 20 ((z.1 ++ [cr1 (c5.getD (((z.2 : Int)).toNat) nz) b1, cr2 (c5.getD (((z.2 : Int)).toNat) nz) b2]).length) 0 (fun zz => rwc ((z.1 ++ [cr1 (c5.getD (((z.2 : Int)).toNat) nz) b1, cr2 (c5.getD (((z.2 : Int)).toNat) nz) b2]).getD zz Rw.z)))]) (m := [0, 5]) A.mem.len rfl rfl) b hb)) (hA.go A.mix fun b hb => A.keys_own b ((keys_pick (H := [some (.lst 2 5 (fun zz => nfc (c5.getD zz nz))), none, some (.blk [.str ((c5.getD (((z.2 : Int)).toNat) nz).1), .int .i64 ((c5.getD (((z.2 : Int)).toNat) nz).2)]), some (.blk [.int .i64 3, .int .i64 0, .int .i64 0, .int .i64 0, .int .i64 0, .int .i64 0, .int .i64 0, .int .i64 0, .int .i64 0, .int .i64 ((c5.getD (((z.2 : Int)).toNat) nz).2), .bool false, .bool false, .bool false, .int .i64 0, .int .i64 0, .int .i64 0, .bool false]), some (.lst 20 ([cr1 (c5.getD (((z.2 : Int)).toNat) nz) b1, cr2 (c5.getD (((z.2 : Int)).toNat) nz) b2].length) (fun zz => rwc ([cr1 (c5.getD (((z.2 : Int)).toNat) nz) b1, cr2 (c5.getD (((z.2 : Int)).toNat) nz) b2].getD zz Rw.z))), some (.row 128 20 ((z.1 ++ [cr1 (c5.getD (((z.2 : Int)).toNat) nz) b1, cr2 (c5.getD (((z.2 : Int)).toNat) nz) b2]).length) 0 (fun zz => rwc ((z.1 ++ [cr1 (c5.getD (((z.2 : Int)).toNat) nz) b1, cr2 (c5.getD (((z.2 : Int)).toNat) nz) b2]).getD zz Rw.z)))]) (m := [0, 5]) A.mem.len rfl rfl) b hb))), ((B.trans A).cut [0, 2, 12, 13, 14] rfl).mv 0 [0, 5] rfl rfl rfl rfl (by simp only [List.length_nil] at h0; omega)⟩)
   (fun h1 A => N hX 10 A rfl rfl fun A => (have e5 : z.2 = 5 := (by have := hJ.le; omega); have e : z.1.length = 10 := (by have := hJ.len; omega); match A.giveRow 1 0 (by omega) rfl rfl rfl with | ⟨b, cp, A2, hG, ho, hk⟩ => RETR (J := fun x w w' => ∃ (L : List Rw) (b cp : Nat), x = .sla (some ⟨b, 0, none⟩) 10 cp ∧ (L.map tm = acomp ∧ RowsIn w.heap.size L w' [b]) ∧ w.heap.size ≤ b ∧ Given 128 20 10 (fun zz => rwc (L.getD zz Rw.z)) b cp w') hX (B.trans A2) (fun i e he => nil_no he) rfl rfl rfl rfl ⟨z.1, b, cp, (by show SV.sla _ z.1.length cp = _; rw [e]), ⟨(by have h2 := hJ.tm; rw [e5] at h2; exact h2), (RowsIn.ok _ _ _ _ hJ.rw A.mix fun b2 hb => by have : b2 = b := (by simpa using hb); rw [this]; exact ho)⟩, lo_of B (fun i e he => nil_no he) ho, (by rw [← e]; exact hG)⟩))
abbrev sz : List UInt8 × Bool × Bool := ([], false, false)
def sfc (x : List UInt8 × Bool × Bool) : List SV := [.str x.1, .bool x.2.1, .bool x.2.2]
theorem tyS : (∀ x, (sfc x).length = 3) ∧ (∀ x, inL 0 (sfc x) = true) ∧ (∀ x, ∃ vs, denL [] (sfc x) = some vs) := ⟨fun _ => rfl, fun _ => rfl, fun _ => ⟨_, rfl⟩⟩
def a2 : List (List UInt8 × Int) := [([83, 87, 80], 6), ([76, 68, 65, 68, 68], 1)]
def s4 : List (List UInt8 × Bool × Bool) := [([], false, false), ([65], true, false), ([76], false, true), ([65, 76], true, true)]
theorem a2_len : ∀ k, (a2.getD k nz).1.length ≤ 100
  | 0 => by decide
  | 1 => by decide
  | k + 2 => by simp [a2, List.getD]
theorem s4_len : ∀ k, (s4.getD k sz).1.length ≤ 100
  | 0 => by decide
  | 1 => by decide
  | 2 => by decide
  | 3 => by decide
  | k + 4 => by simp [s4, List.getD]
def insA (x : List UInt8 × Int) (y : List UInt8 × Bool × Bool) : In := ⟨6, 0, 0, 0, 0, 0, 0, 0, 0, x.2, y.2.1, false, y.2.2, 0, 0, 0, false⟩
abbrev aa1 (x : List UInt8 × Int) (y : List UInt8 × Bool × Bool) (b1 : Nat) : Rw := ⟨(x.1 ++ y.1) ++ [42], [], insA x y, some ⟨b1, 0, none⟩, [2, 1, 6], 3⟩
def aatom : List (List UInt8 × List UInt8 × In × List Int) := a2.flatMap fun x => s4.map fun y => ((x.1 ++ y.1) ++ [42], [], insA x y, [2, 1, 6])
structure AA (lo n : Nat) (L : List Rw) (w : World) (ks : List Nat) : Prop where
  tm : L.map tm = aatom.take n
  rw : RowsIn lo L w ks
theorem AA.len {lo n : Nat} {L : List Rw} {w : World} {ks : List Nat} (h : AA lo n L w ks) : L.length ≤ 8 ∧ (n ≤ 8 → L.length = n) := by
  have h1 := congrArg List.length h.tm
  rw [List.length_map, List.length_take] at h1
  have h2 : aatom.length = 8 := by decide
  omega
theorem AA.nx {lo b1 k j : Nat} {L : List Rw} {w w1 : World} {ks ks1 : List Nat} (h : AA lo (4 * k + j) L w ks) (hk : k < 2) (hj : j < 4) (hr : RowsIn lo L w1 ks1) (hA : Acc lo [(b1, [.int .i64 2, .int .i64 1, .int .i64 6])] w1 ks1) : AA lo (4 * k + (j + 1)) (L ++ [aa1 (a2.getD ((k : Int)).toNat nz) (s4.getD ((j : Int)).toNat sz) b1]) w1 ks1 := by
  refine ⟨?_, fun r hr' => ?_⟩
  · rw [List.map_append, h.tm, Int.toNat_natCast, Int.toNat_natCast]
    have q1 : k = 0 ∨ k = 1 := by omega
    have q2 : j = 0 ∨ j = 1 ∨ j = 2 ∨ j = 3 := by omega
    rcases q1 with e | e <;> rcases q2 with e2 | e2 | e2 | e2 <;> rw [e, e2] <;> rfl
  · rcases List.mem_append.1 hr' with h1 | h1
    · exact hr r h1
    · simp only [List.mem_cons, List.mem_nil_iff, or_false] at h1
      subst h1
      exact lies_of (cs := []) [2, 1, 6] hA List.mem_cons_self
theorem aatom_ : FnR Tryz.prog 70 [] [] (fun x w w' => ∃ (L : List Rw) (b cp : Nat), x = .sla (some ⟨b, 0, none⟩) 8 cp ∧ (L.map tm = aatom ∧ RowsIn w.heap.size L w' [b]) ∧ w.heap.size ≤ b ∧ Given 128 20 8 (fun zz => rwc (L.getD zz Rw.z)) b cp w') :=
 enterR (n := 51) (by kernel_rfl) Tryz.func70 rfl rfl rfl fun G w a h0 A => N hX 10 A rfl rfl fun A => have A := A.asT nz nfc 2 tyN.1 tyN.2.1 tyN.2.2 a2 0 rfl; N hX 6 A rfl rfl fun A => have A := sy_sayD A 12 (.agg [.str [], .bool false, .bool false]) rfl (fun _ => rfl); N hX 1 A rfl rfl fun A => have A := sy_sayD A 13 (.agg [.str [65], .bool true, .bool false]) rfl (fun _ => rfl); N hX 1 A rfl rfl fun A => have A := sy_sayD A 14 (.agg [.str [76], .bool false, .bool true]) rfl (fun _ => rfl); N hX 1 A rfl rfl fun A => have A := sy_sayD A 15 (.agg [.str [65, 76], .bool true, .bool true]) rfl (fun _ => rfl); N hX 1 A rfl rfl fun A => have A := A.asT sz sfc 3 tyS.1 tyS.2.1 tyS.2.2 s4 1 rfl; N hX 17 A rfl rfl fun A => have A := A.nilRow 3 128 20 (fun zz => rwc (([] : List Rw).getD zz Rw.z)) rfl (fun z => ⟨_, rfl, rfl⟩); LOOPJ (fun (z : List Rw × Nat) => [(0, .sla none 0 0), (2, .sl 1 4 4), (3, .sl 2 z.1.length 0), (17, .sl 0 2 2), (18, .int .i64 ((2 : Nat) : Int)), (19, .int .i64 (z.2 : Int))]) (fun (z : List Rw × Nat) => [some (.lst 2 2 (fun zz => nfc (a2.getD zz nz))), some (.lst 3 4 (fun zz => sfc (s4.getD zz sz))), some (.row 128 20 z.1.length 0 (fun zz => rwc (z.1.getD zz Rw.z)))]) (fun z w1 ks1 => z.2 ≤ 2 ∧ AA w.heap.size (4 * z.2) z.1 w1 ks1) (fun z => 2 - z.2) ([], 0) (A.cut [0, 2, 3, 17, 18, 19] rfl) ⟨by decide, ⟨rfl, fun r hr => by cases hr⟩⟩ fun z G1 a1 w1 hJ hg A B => have hz2 := hJ.1; have hR := hJ.2.rw;
 N hX 6 A rfl rfl fun A => forkD 20 A rfl
   (fun h1 A => N hX 14 A rfl (ok_d (by omega) <| ok_d (by omega) <| okE_nil) fun A => N hX 7 A rfl rfl fun A => have hR := RowsIn.ok _ _ _ _ hR A.mix A.keys_own; LOOPJ (fun (y : List Rw × Nat) => [(0, .sla none 0 0), (2, .sl 1 4 4), (3, .sl 2 y.1.length 0), (5, .ptr 3 0), (17, .sl 0 2 2), (18, .int .i64 ((2 : Nat) : Int)), (19, .int .i64 (z.2 : Int)), (23, .sl 1 4 4), (24, .int .i64 ((4 : Nat) : Int)), (25, .int .i64 (y.2 : Int))]) (fun (y : List Rw × Nat) => [some (.lst 2 2 (fun zz => nfc (a2.getD zz nz))), some (.lst 3 4 (fun zz => sfc (s4.getD zz sz))), some (.row 128 20 y.1.length 0 (fun zz => rwc (y.1.getD zz Rw.z))), some (.blk [.str ((a2.getD (((z.2 : Int)).toNat) nz).1), .int .i64 ((a2.getD (((z.2 : Int)).toNat) nz).2)])]) (fun y w1 ks1 => y.2 ≤ 4 ∧ AA w.heap.size (4 * z.2 + y.2) y.1 w1 ks1) (fun y => 4 - y.2) (z.1, 0) ((B.trans A).cut [0, 2, 3, 5, 17, 18, 19, 23, 24, 25] rfl) ⟨Nat.zero_le 4, ⟨hJ.2.tm, hR⟩⟩ fun y G1 a1 w1 hJ hg A B => have hA : Acc w.heap.size [] w1 _ := Acc.nil; have hR := hJ.2.rw;
 N hX 6 A rfl rfl fun A => forkD 26 A rfl
     (fun h2 A => N hX 14 A rfl (ok_d (by omega) <| ok_d (by omega) <| okE_nil) fun A => N hX 8 A rfl rfl fun A => have A := sy_sayD A 35 (.agg [.int .i64 6, .int .i64 0, .int .i64 0, .int .i64 0, .int .i64 0, .int .i64 0, .int .i64 0, .int .i64 0, .int .i64 0, .int .i64 ((a2.getD (((z.2 : Int)).toNat) nz).2), .bool ((s4.getD (((y.2 : Int)).toNat) sz).2.1), .bool false, .bool ((s4.getD (((y.2 : Int)).toNat) sz).2.2), .int .i64 0, .int .i64 0, .int .i64 0, .bool false]) rfl (fun _ => rfl); N hX 13 A rfl (ok_d (by have q := a2_len ((z.2 : Int)).toNat; have q2 := s4_len ((y.2 : Int)).toNat; (try simp only [List.length_append, List.length_cons, List.length_nil]); omega) <| ok_d (by have q := a2_len ((z.2 : Int)).toNat; have q2 := s4_len ((y.2 : Int)).toNat; (try simp only [List.length_append, List.length_cons, List.length_nil]); omega) <| okE_nil) fun A => BSCI [.int .i64 2, .int .i64 1, .int .i64 6] (X := ⟨_, true⟩) hX RowsIn.ok B hA hR A rfl rfl rfl rfl fun b1 B hA hR A =>
 N hX 2 A rfl rfl fun A => have A := A.asT Rw.z rwc 20 tyR.1 tyR.2.1 tyR.2.2 [aa1 (a2.getD (((z.2 : Int)).toNat) nz) (s4.getD (((y.2 : Int)).toNat) sz) b1] 6 rfl; q_eff A rfl (aplE hX ((y.1 ++ [aa1 (a2.getD (((z.2 : Int)).toNat) nz) (s4.getD (((y.2 : Int)).toNat) sz) b1]).length) (fun zz => rwc ((y.1 ++ [aa1 (a2.getD (((z.2 : Int)).toNat) nz) (s4.getD (((y.2 : Int)).toNat) sz) b1]).getD zz Rw.z)) rfl rfl rfl rfl (Nat.le_refl _) (by have := hJ.2.len; have := hJ.1; omega) (by decide) List.length_append (fun k hk => by show rwc _ = rwc _; rw [getD_app_l hk]) (fun k hk => by show rwc _ = rwc _; rw [getD_app_r]) (fun z => ⟨_, rfl, rfl⟩) (fun k hk => ⟨_, rfl, okE_nil⟩)) fun A =>
 N hX 8 A rfl (ok_d (by omega) <| okE_nil) fun A => ⟨(y.1 ++ [aa1 (a2.getD (((z.2 : Int)).toNat) nz) (s4.getD (((y.2 : Int)).toNat) sz) b1], y.2 + 1), _, (by have := h2; show _ - _ < _ - _; omega), ⟨by have := h2; show y.2 + 1 ≤ 4; omega, hJ.2.nx (by omega) (by omega) (RowsIn.ok _ _ _ _ hR A.mix fun b hb => A.keys_own b ((keys_pick (H := [some (.lst 2 2 (fun zz => nfc (a2.getD zz nz))), some (.lst 3 4 (fun zz => sfc (s4.getD zz sz))), none, some (.blk [.str ((a2.getD (((z.2 : Int)).toNat) nz).1), .int .i64 ((a2.getD (((z.2 : Int)).toNat) nz).2)]), some (.blk [.str ((s4.getD (((y.2 : Int)).toNat) sz).1), .bool ((s4.getD (((y.2 : Int)).toNat) sz).2.1), .bool ((s4.getD (((y.2 : Int)).toNat) sz).2.2)]), some (.blk [.int .i64 6, .int .i64 0, .int .i64 0, .int .i64 0, .int .i64 0, .int .i64 0, .int .i64 0, .int .i64 0, .int .i64 0, .int .i64 ((a2.getD (((z.2 : Int)).toNat) nz).2), .bool ((s4.getD (((y.2 : Int)).toNat) sz).2.1), .bool false, .bool ((s4.getD (((y.2 : Int)).toNat) sz).2.2), .int .i64 0, .int .i64 0, .int .i64 0, .bool false]), some (.lst 20 ([aa1 (a2.getD (((z.2 : Int)).toNat) nz) (s4.getD (((y.2 : Int)).toNat) sz) b1].length) (fun zz => rwc ([aa1 (a2.getD (((z.2 : Int)).toNat) nz) (s4.getD (((y.2 : Int)).toNat) sz) b1].getD zz Rw.z))), some (.row 128 20 ((y.1 ++ [aa1 (a2.getD (((z.2 : Int)).toNat) nz) (s4.getD (((y.2 : Int)).toNat) sz) b1]).length) 0 (fun zz => rwc ((y.1 ++ [aa1 (a2.getD (((z.2 : Int)).toNat) nz) (s4.getD (((y.2 : Int)).toNat) sz) b1]).getD zz Rw.z)))]) (m := [0, 1, 7, 3]) A.mem.len rfl rfl) b hb)) (hA.go A.mix fun b hb => A.keys_own b ((keys_pick (H := [some (.lst 2 2 (fun zz => nfc (a2.getD zz nz))), some (.lst 3 4 (fun zz => sfc (s4.getD zz sz))), none, some (.blk [.str ((a2.getD (((z.2 : Int)).toNat) nz).1), .int .i64 ((a2.getD (((z.2 : Int)).toNat) nz).2)]), some (.blk [.str ((s4.getD (((y.2 : Int)).toNat) sz).1), .bool ((s4.getD (((y.2 : Int)).toNat) sz).2.1), .bool ((s4.getD (((y.2 : Int)).toNat) sz).2.2)]), some (.blk [.int .i64 6, .int .i64 0, .int .i64 0, .int .i64 0, .int .i64 0, .int .i64 0, .int .i64 0, .int .i64 0, .int .i64 0, .int .i64 ((a2.getD (((z.2 : Int)).toNat) nz).2), .bool ((s4.getD (((y.2 : Int)).toNat) sz).2.1), .bool false, .bool ((s4.getD (((y.2 : Int)).toNat) sz).2.2), .int .i64 0, .int .i64 0, .int .i64 0, .bool false]), some (.lst 20 ([aa1 (a2.getD (((z.2 : Int)).toNat) nz) (s4.getD (((y.2 : Int)).toNat) sz) b1].length) (fun zz => rwc ([aa1 (a2.getD (((z.2 : Int)).toNat) nz) (s4.getD (((y.2 : Int)).toNat) sz) b1].getD zz Rw.z))), some (.row 128 20 ((y.1 ++ [aa1 (a2.getD (((z.2 : Int)).toNat) nz) (s4.getD (((y.2 : Int)).toNat) sz) b1]).length) 0 (fun zz => rwc ((y.1 ++ [aa1 (a2.getD (((z.2 : Int)).toNat) nz) (s4.getD (((y.2 : Int)).toNat) sz) b1]).getD zz Rw.z)))]) (m := [0, 1, 7, 3]) A.mem.len rfl rfl) b hb))⟩, ((B.trans A).cut [0, 2, 3, 5, 17, 18, 19, 23, 24, 25] rfl).mv 0 [0, 1, 7, 3] rfl rfl rfl rfl (by simp only [List.length_nil] at h0; omega)⟩)
     (fun h2 A => N hX 8 A rfl (ok_d (by omega) <| okE_nil) fun A => ⟨(y.1, z.2 + 1), _, (by have := h1; show _ - _ < _ - _; omega), ⟨by have := h1; show z.2 + 1 ≤ 2; omega, ⟨(by have q := hJ.2.tm; have q1 := hJ.1; rw [show 4 * z.2 + y.2 = 4 * (z.2 + 1) by omega] at q; exact q), RowsIn.ok _ _ _ _ hJ.2.rw A.mix fun b hb => A.keys_own b ((keys_pick (H := [some (.lst 2 2 (fun zz => nfc (a2.getD zz nz))), some (.lst 3 4 (fun zz => sfc (s4.getD zz sz))), some (.row 128 20 y.1.length 0 (fun zz => rwc (y.1.getD zz Rw.z))), some (.blk [.str ((a2.getD (((z.2 : Int)).toNat) nz).1), .int .i64 ((a2.getD (((z.2 : Int)).toNat) nz).2)])]) (m := [0, 1, 2]) A.mem.len rfl rfl) b hb)⟩⟩, ((B.trans A).cut [0, 2, 3, 17, 18, 19] rfl).mv 0 [0, 1, 2] rfl rfl rfl rfl (by simp only [List.length_nil] at h0; omega)⟩))
   (fun h1 A => N hX 10 A rfl rfl fun A => (have e5 : z.2 = 2 := (by have := hJ.1; omega); have e : z.1.length = 8 := (by have := hJ.2.len; omega); match A.giveRow 2 0 (by omega) rfl rfl rfl with | ⟨b, cp, A2, hG, ho, hk⟩ => RETR (J := fun x w w' => ∃ (L : List Rw) (b cp : Nat), x = .sla (some ⟨b, 0, none⟩) 8 cp ∧ (L.map tm = aatom ∧ RowsIn w.heap.size L w' [b]) ∧ w.heap.size ≤ b ∧ Given 128 20 8 (fun zz => rwc (L.getD zz Rw.z)) b cp w') hX (B.trans A2) (fun i e he => nil_no he) rfl rfl rfl rfl ⟨z.1, b, cp, (by show SV.sla _ z.1.length cp = _; rw [e]), ⟨(by have h2 := hJ.2.tm; rw [e5] at h2; exact h2), (RowsIn.ok _ _ _ _ hJ.2.rw A.mix fun b2 hb => by have : b2 = b := (by simpa using hb); rw [this]; exact ho)⟩, lo_of B (fun i e he => nil_no he) ho, (by rw [← e]; exact hG)⟩))
abbrev fz : List UInt8 × Int × Int := ([], 0, 0)
def ffc (x : List UInt8 × Int × Int) : List SV := [.str x.1, .int .i64 x.2.1, .int .i64 x.2.2]
theorem tyF : (∀ x, (ffc x).length = 3) ∧ (∀ x, inL 0 (ffc x) = true) ∧ (∀ x, ∃ vs, denL [] (ffc x) = some vs) := ⟨fun _ => rfl, fun _ => rfl, fun _ => ⟨_, rfl⟩⟩
def f3 : List (List UInt8 × Int × Int) := [([83, 89], 3, 3), ([76, 68], 1, 3), ([83, 84], 2, 2)]
def insN (x : List UInt8 × Int × Int) : In := ⟨7, 0, 0, 0, 0, 0, 0, 0, 0, 0, false, false, false, x.2.1, x.2.2, 0, false⟩
abbrev fr1 (x : List UInt8 × Int × Int) (b1 : Nat) : Rw := ⟨[68, 77, 66], x.1, insN x, some ⟨b1, 0, none⟩, [10], 1⟩
def afen : List (List UInt8 × List UInt8 × In × List Int) := f3.map fun x => ([68, 77, 66], x.1, insN x, [10])
structure AF (lo : Nat) (z : List Rw × Nat) (w : World) (ks : List Nat) : Prop where
  le : z.2 ≤ 3
  tm : z.1.map tm = afen.take z.2
  rw : RowsIn lo z.1 w ks
theorem AF.len {lo : Nat} {z : List Rw × Nat} {w : World} {ks : List Nat} (h : AF lo z w ks) : z.1.length = z.2 := by
  have h1 := congrArg List.length h.tm
  rw [List.length_map, List.length_take] at h1
  have h2 : afen.length = 3 := by decide
  have := h.le
  omega
theorem AF.nx {lo b1 : Nat} {z : List Rw × Nat} {w w1 : World} {ks ks1 : List Nat} {l : List (Nat × List SV)} (h : AF lo z w ks) (hk : (z.2 : Int) < 3) (hr : RowsIn lo z.1 w1 ks1) (hA : Acc lo [(b1, [.int .i64 10])] w1 ks1) : AF lo (z.1 ++ [fr1 (f3.getD ((z.2 : Int)).toNat fz) b1], z.2 + 1) w1 ks1 := by
  refine ⟨by have := h.le; show z.2 + 1 ≤ 3; omega, ?_, fun r hr' => ?_⟩
  · show List.map _ (z.1 ++ _) = _
    rw [List.map_append, h.tm, Int.toNat_natCast]
    have : z.2 = 0 ∨ z.2 = 1 ∨ z.2 = 2 := by omega
    rcases this with e | e | e <;> rw [e] <;> rfl
  · rcases List.mem_append.1 hr' with h1 | h1
    · exact hr r h1
    · simp only [List.mem_cons, List.mem_nil_iff, or_false] at h1
      subst h1
      exact lies_of (cs := []) [10] hA List.mem_cons_self
theorem afen_ : FnR Tryz.prog 71 [] [] (fun x w w' => ∃ (L : List Rw) (b cp : Nat), x = .sla (some ⟨b, 0, none⟩) 3 cp ∧ (L.map tm = afen ∧ RowsIn w.heap.size L w' [b]) ∧ w.heap.size ≤ b ∧ Given 128 20 3 (fun zz => rwc (L.getD zz Rw.z)) b cp w') :=
 enterR (n := 31) (by kernel_rfl) Tryz.func71 rfl rfl rfl fun G w a h0 A => N hX 11 A rfl rfl fun A => have A := A.asT fz ffc 3 tyF.1 tyF.2.1 tyF.2.2 f3 0 rfl; N hX 17 A rfl rfl fun A => have A := A.nilRow 2 128 20 (fun zz => rwc (([] : List Rw).getD zz Rw.z)) rfl (fun z => ⟨_, rfl, rfl⟩); LOOPJ (fun (z : List Rw × Nat) => [(0, .sla none 0 0), (2, .sl 1 z.1.length 0), (10, .sl 0 3 3), (11, .int .i64 ((3 : Nat) : Int)), (12, .int .i64 (z.2 : Int))]) (fun (z : List Rw × Nat) => [some (.lst 3 3 (fun zz => ffc (f3.getD zz fz))), some (.row 128 20 z.1.length 0 (fun zz => rwc (z.1.getD zz Rw.z)))]) (fun z w1 ks1 => AF w.heap.size z w1 ks1) (fun z => 3 - z.2) ([], 0) (A.cut [0, 2, 10, 11, 12] rfl) ⟨by decide, rfl, fun r hr => by cases hr⟩ fun z G1 a1 w1 hJ hg A B => have hA : Acc w.heap.size [] w1 _ := Acc.nil; have hR := hJ.rw;
 N hX 6 A rfl rfl fun A => forkD 13 A rfl
   (fun h1 A => N hX 14 A rfl (ok_d (by omega) <| ok_d (by omega) <| okE_nil) fun A => N hX 6 A rfl rfl fun A => have A := sy_sayD A 20 (.agg [.int .i64 7, .int .i64 0, .int .i64 0, .int .i64 0, .int .i64 0, .int .i64 0, .int .i64 0, .int .i64 0, .int .i64 0, .int .i64 0, .bool false, .bool false, .bool false, .int .i64 ((f3.getD (((z.2 : Int)).toNat) fz).2.1), .int .i64 ((f3.getD (((z.2 : Int)).toNat) fz).2.2), .int .i64 0, .bool false]) rfl (fun _ => rfl); N hX 9 A rfl rfl fun A => BSCI [.int .i64 10] (X := ⟨_, true⟩) hX RowsIn.ok B hA hR A rfl rfl rfl rfl fun b1 B hA hR A =>
 N hX 2 A rfl rfl fun A => have A := A.asT Rw.z rwc 20 tyR.1 tyR.2.1 tyR.2.2 [fr1 (f3.getD (((z.2 : Int)).toNat) fz) b1] 4 rfl; q_eff A rfl (aplE hX ((z.1 ++ [fr1 (f3.getD (((z.2 : Int)).toNat) fz) b1]).length) (fun zz => rwc ((z.1 ++ [fr1 (f3.getD (((z.2 : Int)).toNat) fz) b1]).getD zz Rw.z)) rfl rfl rfl rfl (Nat.le_refl _) (by have := hJ.len; have := hJ.le; omega) (by decide) List.length_append (fun k hk => by show rwc _ = rwc _; rw [getD_app_l hk]) (fun k hk => by show rwc _ = rwc _; rw [getD_app_r]) (fun z => ⟨_, rfl, rfl⟩) (fun k hk => ⟨_, rfl, okE_nil⟩)) fun A =>
 N hX 8 A rfl (ok_d (by omega) <| okE_nil) fun A => ⟨(z.1 ++ [fr1 (f3.getD (((z.2 : Int)).toNat) fz) b1], z.2 + 1), _, (by have := h1; show _ - _ < _ - _; omega), (hJ.nx (l := []) h1 (RowsIn.ok _ _ _ _ hR A.mix fun b hb => A.keys_own b ((keys_pick (H := [some (.lst 3 3 (fun zz => ffc (f3.getD zz fz))), none, some (.blk [.str ((f3.getD (((z.2 : Int)).toNat) fz).1), .int .i64 ((f3.getD (((z.2 : Int)).toNat) fz).2.1), .int .i64 ((f3.getD (((z.2 : Int)).toNat) fz).2.2)]), some (.blk [.int .i64 7, .int .i64 0, .int .i64 0, .int .i64 0, .int .i64 0, .int .i64 0, .int .i64 0, .int .i64 0, .int .i64 0, .int .i64 0, .bool false, .bool false, .bool false, .int .i64 ((f3.getD (((z.2 : Int)).toNat) fz).2.1), .int .i64 ((f3.getD (((z.2 : Int)).toNat) fz).2.2), .int .i64 0, .bool false]), some (.lst 20 ([fr1 (f3.getD (((z.2 : Int)).toNat) fz) b1].length) (fun zz => rwc ([fr1 (f3.getD (((z.2 : Int)).toNat) fz) b1].getD zz Rw.z))), some (.row 128 20 ((z.1 ++ [fr1 (f3.getD (((z.2 : Int)).toNat) fz) b1]).length) 0 (fun zz => rwc ((z.1 ++ [fr1 (f3.getD (((z.2 : Int)).toNat) fz) b1]).getD zz Rw.z)))]) (m := [0, 5]) A.mem.len rfl rfl) b hb)) (hA.go A.mix fun b hb => A.keys_own b ((keys_pick (H := [some (.lst 3 3 (fun zz => ffc (f3.getD zz fz))), none, some (.blk [.str ((f3.getD (((z.2 : Int)).toNat) fz).1), .int .i64 ((f3.getD (((z.2 : Int)).toNat) fz).2.1), .int .i64 ((f3.getD (((z.2 : Int)).toNat) fz).2.2)]), some (.blk [.int .i64 7, .int .i64 0, .int .i64 0, .int .i64 0, .int .i64 0, .int .i64 0, .int .i64 0, .int .i64 0, .int .i64 0, .int .i64 0, .bool false, .bool false, .bool false, .int .i64 ((f3.getD (((z.2 : Int)).toNat) fz).2.1), .int .i64 ((f3.getD (((z.2 : Int)).toNat) fz).2.2), .int .i64 0, .bool false]), some (.lst 20 ([fr1 (f3.getD (((z.2 : Int)).toNat) fz) b1].length) (fun zz => rwc ([fr1 (f3.getD (((z.2 : Int)).toNat) fz) b1].getD zz Rw.z))), some (.row 128 20 ((z.1 ++ [fr1 (f3.getD (((z.2 : Int)).toNat) fz) b1]).length) 0 (fun zz => rwc ((z.1 ++ [fr1 (f3.getD (((z.2 : Int)).toNat) fz) b1]).getD zz Rw.z)))]) (m := [0, 5]) A.mem.len rfl rfl) b hb))), ((B.trans A).cut [0, 2, 10, 11, 12] rfl).mv 0 [0, 5] rfl rfl rfl rfl (by simp only [List.length_nil] at h0; omega)⟩)
   (fun h1 A => N hX 10 A rfl rfl fun A => (have e5 : z.2 = 3 := (by have := hJ.le; omega); have e : z.1.length = 3 := (by have := hJ.len; omega); match A.giveRow 1 0 (by omega) rfl rfl rfl with | ⟨b, cp, A2, hG, ho, hk⟩ => RETR (J := fun x w w' => ∃ (L : List Rw) (b cp : Nat), x = .sla (some ⟨b, 0, none⟩) 3 cp ∧ (L.map tm = afen ∧ RowsIn w.heap.size L w' [b]) ∧ w.heap.size ≤ b ∧ Given 128 20 3 (fun zz => rwc (L.getD zz Rw.z)) b cp w') hX (B.trans A2) (fun i e he => nil_no he) rfl rfl rfl rfl ⟨z.1, b, cp, (by show SV.sla _ z.1.length cp = _; rw [e]), ⟨(by have h2 := hJ.tm; rw [e5] at h2; exact h2), (RowsIn.ok _ _ _ _ hJ.rw A.mix fun b2 hb => by have : b2 = b := (by simpa using hb); rw [this]; exact ho)⟩, lo_of B (fun i e he => nil_no he) ho, (by rw [← e]; exact hG)⟩))
abbrev aaccL (b1 b2 b3 : Nat) : List (Nat × List SV) := [(b3, [.str [76, 68, 82, 42], .str [], .int .i64 4, .int .i64 0, .int .i64 0, .int .i64 0, .int .i64 0, .int .i64 0, .int .i64 0, .int .i64 0, .int .i64 0, .int .i64 0, .ff, .ff, .ff, .int .i64 0, .int .i64 0, .int .i64 0, .ff, .sla (some ⟨b1, 0, none⟩) 2 2, .str [76, 68, 65, 82, 42], .str [], .int .i64 4, .int .i64 0, .int .i64 0, .int .i64 0, .int .i64 0, .int .i64 0, .int .i64 0, .int .i64 0, .int .i64 0, .int .i64 0, .tt, .ff, .ff, .int .i64 0, .int .i64 0, .int .i64 0, .ff, .sla (some ⟨b1, 0, none⟩) 2 2, .str [76, 68, 65, 80, 82, 42], .str [], .int .i64 4, .int .i64 0, .int .i64 0, .int .i64 0, .int .i64 0, .int .i64 0, .int .i64 0, .int .i64 0, .int .i64 0, .int .i64 0, .ff, .tt, .ff, .int .i64 0, .int .i64 0, .int .i64 0, .ff, .sla (some ⟨b1, 0, none⟩) 2 2, .str [83, 84, 82, 42], .str [], .int .i64 5, .int .i64 0, .int .i64 0, .int .i64 0, .int .i64 0, .int .i64 0, .int .i64 0, .int .i64 0, .int .i64 0, .int .i64 0, .ff, .ff, .ff, .int .i64 0, .int .i64 0, .int .i64 0, .ff, .sla (some ⟨b2, 0, none⟩) 2 2, .str [83, 84, 76, 82, 42], .str [], .int .i64 5, .int .i64 0, .int .i64 0, .int .i64 0, .int .i64 0, .int .i64 0, .int .i64 0, .int .i64 0, .int .i64 0, .int .i64 0, .ff, .ff, .tt, .int .i64 0, .int .i64 0, .int .i64 0, .ff, .sla (some ⟨b2, 0, none⟩) 2 2]), (b2, [.int .i64 2, .int .i64 6]), (b1, [.int .i64 1, .int .i64 6])]
theorem aacc_ : FnR Tryz.prog 69 [] [] (fun x w w' => ∃ b1 b2 b3 : Nat, x = .sla (some ⟨b3, 0, none⟩) 5 5 ∧ Acc w.heap.size (aaccL b1 b2 b3) w' []) :=
 enterR (n := 21) (by kernel_rfl) Tryz.func69 rfl rfl rfl fun G w a h0 A => have B := A; have hA : Acc w.heap.size [] w _ := Acc.nil; N hX 7 A rfl rfl fun A => BSCA [.int .i64 1, .int .i64 6] (X := ⟨_, true⟩) hX B hA A rfl rfl rfl rfl fun b1 B hA A =>
 BSCA [.int .i64 2, .int .i64 6] (X := ⟨_, true⟩) hX B hA A rfl rfl rfl rfl fun b2 B hA A =>
 N hX 21 A rfl rfl fun A => BSCA [.str [76, 68, 82, 42], .str [], .int .i64 4, .int .i64 0, .int .i64 0, .int .i64 0, .int .i64 0, .int .i64 0, .int .i64 0, .int .i64 0, .int .i64 0, .int .i64 0, .ff, .ff, .ff, .int .i64 0, .int .i64 0, .int .i64 0, .ff, .sla (some ⟨b1, 0, none⟩) 2 2, .str [76, 68, 65, 82, 42], .str [], .int .i64 4, .int .i64 0, .int .i64 0, .int .i64 0, .int .i64 0, .int .i64 0, .int .i64 0, .int .i64 0, .int .i64 0, .int .i64 0, .tt, .ff, .ff, .int .i64 0, .int .i64 0, .int .i64 0, .ff, .sla (some ⟨b1, 0, none⟩) 2 2, .str [76, 68, 65, 80, 82, 42], .str [], .int .i64 4, .int .i64 0, .int .i64 0, .int .i64 0, .int .i64 0, .int .i64 0, .int .i64 0, .int .i64 0, .int .i64 0, .int .i64 0, .ff, .tt, .ff, .int .i64 0, .int .i64 0, .int .i64 0, .ff, .sla (some ⟨b1, 0, none⟩) 2 2, .str [83, 84, 82, 42], .str [], .int .i64 5, .int .i64 0, .int .i64 0, .int .i64 0, .int .i64 0, .int .i64 0, .int .i64 0, .int .i64 0, .int .i64 0, .int .i64 0, .ff, .ff, .ff, .int .i64 0, .int .i64 0, .int .i64 0, .ff, .sla (some ⟨b2, 0, none⟩) 2 2, .str [83, 84, 76, 82, 42], .str [], .int .i64 5, .int .i64 0, .int .i64 0, .int .i64 0, .int .i64 0, .int .i64 0, .int .i64 0, .int .i64 0, .int .i64 0, .int .i64 0, .ff, .ff, .tt, .int .i64 0, .int .i64 0, .int .i64 0, .ff, .sla (some ⟨b2, 0, none⟩) 2 2] (X := ⟨_, true⟩) hX B hA A rfl rfl rfl rfl fun b3 B hA A =>
 N hX 4 A rfl rfl fun A => RETR (J := fun x w w' => ∃ b1 b2 b3 : Nat, x = .sla (some ⟨b3, 0, none⟩) 5 5 ∧ Acc w.heap.size (aaccL b1 b2 b3) w' []) hX (B.trans A) (fun i e he => nil_no he) rfl rfl rfl rfl ⟨b1, b2, b3, rfl, (hA.now A).bare⟩
abbrev aothL (b1 b2 b3 b4 b5 : Nat) : List (Nat × List SV) := [(b5, [.str [77, 79, 86], .str [], .int .i64 1, .int .i64 0, .int .i64 0, .int .i64 0, .int .i64 0, .int .i64 0, .int .i64 0, .int .i64 0, .int .i64 0, .int .i64 0, .ff, .ff, .ff, .int .i64 0, .int .i64 0, .int .i64 0, .ff, .sla (some ⟨b1, 0, none⟩) 2 2, .str [77, 79, 86], .str [], .int .i64 2, .int .i64 0, .int .i64 0, .int .i64 0, .int .i64 0, .int .i64 0, .int .i64 0, .int .i64 0, .int .i64 0, .int .i64 0, .ff, .ff, .ff, .int .i64 0, .int .i64 0, .int .i64 0, .ff, .sla (some ⟨b2, 0, none⟩) 2 2, .str [73, 83, 66], .str [], .int .i64 8, .int .i64 0, .int .i64 0, .int .i64 0, .int .i64 0, .int .i64 0, .int .i64 0, .int .i64 0, .int .i64 0, .int .i64 0, .ff, .ff, .ff, .int .i64 0, .int .i64 0, .int .i64 0, .ff, .sla none 0 0, .str [67, 66, 90], .str [], .int .i64 9, .int .i64 0, .int .i64 0, .int .i64 0, .int .i64 0, .int .i64 0, .int .i64 0, .int .i64 0, .int .i64 0, .int .i64 0, .ff, .ff, .ff, .int .i64 0, .int .i64 0, .int .i64 0, .tt, .sla (some ⟨b3, 0, none⟩) 2 2, .str [67, 66, 78, 90], .str [], .int .i64 9, .int .i64 0, .int .i64 0, .int .i64 0, .int .i64 0, .int .i64 0, .int .i64 0, .int .i64 0, .int .i64 0, .int .i64 0, .ff, .ff, .ff, .int .i64 0, .int .i64 0, .int .i64 0, .ff, .sla (some ⟨b4, 0, none⟩) 2 2]), (b4, [.int .i64 2, .int .i64 7]), (b3, [.int .i64 2, .int .i64 7]), (b2, [.int .i64 1, .int .i64 2]), (b1, [.int .i64 1, .int .i64 5])]
theorem aoth_ : FnR Tryz.prog 72 [] [] (fun x w w' => ∃ b1 b2 b3 b4 b5 : Nat, x = .sla (some ⟨b5, 0, none⟩) 5 5 ∧ Acc w.heap.size (aothL b1 b2 b3 b4 b5) w' []) :=
 enterR (n := 16) (by kernel_rfl) Tryz.func72 rfl rfl rfl fun G w a h0 A => have B := A; have hA : Acc w.heap.size [] w _ := Acc.nil; N hX 8 A rfl rfl fun A => BSCA [.int .i64 1, .int .i64 5] (X := ⟨_, true⟩) hX B hA A rfl rfl rfl rfl fun b1 B hA A =>
 N hX 2 A rfl rfl fun A => BSCA [.int .i64 1, .int .i64 2] (X := ⟨_, true⟩) hX B hA A rfl rfl rfl rfl fun b2 B hA A =>
 N hX 4 A rfl rfl fun A => BSCA [.int .i64 2, .int .i64 7] (X := ⟨_, true⟩) hX B hA A rfl rfl rfl rfl fun b3 B hA A =>
 N hX 2 A rfl rfl fun A => BSCA [.int .i64 2, .int .i64 7] (X := ⟨_, true⟩) hX B hA A rfl rfl rfl rfl fun b4 B hA A =>
 N hX 1 A rfl rfl fun A => BSCA [.str [77, 79, 86], .str [], .int .i64 1, .int .i64 0, .int .i64 0, .int .i64 0, .int .i64 0, .int .i64 0, .int .i64 0, .int .i64 0, .int .i64 0, .int .i64 0, .ff, .ff, .ff, .int .i64 0, .int .i64 0, .int .i64 0, .ff, .sla (some ⟨b1, 0, none⟩) 2 2, .str [77, 79, 86], .str [], .int .i64 2, .int .i64 0, .int .i64 0, .int .i64 0, .int .i64 0, .int .i64 0, .int .i64 0, .int .i64 0, .int .i64 0, .int .i64 0, .ff, .ff, .ff, .int .i64 0, .int .i64 0, .int .i64 0, .ff, .sla (some ⟨b2, 0, none⟩) 2 2, .str [73, 83, 66], .str [], .int .i64 8, .int .i64 0, .int .i64 0, .int .i64 0, .int .i64 0, .int .i64 0, .int .i64 0, .int .i64 0, .int .i64 0, .int .i64 0, .ff, .ff, .ff, .int .i64 0, .int .i64 0, .int .i64 0, .ff, .sla none 0 0, .str [67, 66, 90], .str [], .int .i64 9, .int .i64 0, .int .i64 0, .int .i64 0, .int .i64 0, .int .i64 0, .int .i64 0, .int .i64 0, .int .i64 0, .int .i64 0, .ff, .ff, .ff, .int .i64 0, .int .i64 0, .int .i64 0, .tt, .sla (some ⟨b3, 0, none⟩) 2 2, .str [67, 66, 78, 90], .str [], .int .i64 9, .int .i64 0, .int .i64 0, .int .i64 0, .int .i64 0, .int .i64 0, .int .i64 0, .int .i64 0, .int .i64 0, .int .i64 0, .ff, .ff, .ff, .int .i64 0, .int .i64 0, .int .i64 0, .ff, .sla (some ⟨b4, 0, none⟩) 2 2] (X := ⟨_, true⟩) hX B hA A rfl rfl rfl rfl fun b5 B hA A =>
 N hX 4 A rfl rfl fun A => RETR (J := fun x w w' => ∃ b1 b2 b3 b4 b5 : Nat, x = .sla (some ⟨b5, 0, none⟩) 5 5 ∧ Acc w.heap.size (aothL b1 b2 b3 b4 b5) w' []) hX (B.trans A) (fun i e he => nil_no he) rfl rfl rfl rfl ⟨b1, b2, b3, b4, b5, rfl, (hA.now A).bare⟩
def aaccR (b1 b2 : Nat) : List Rw := [⟨[76, 68, 82, 42], [], ⟨4, 0, 0, 0, 0, 0, 0, 0, 0, 0, false, false, false, 0, 0, 0, false⟩, some ⟨b1, 0, none⟩, [1, 6], 2⟩, ⟨[76, 68, 65, 82, 42], [], ⟨4, 0, 0, 0, 0, 0, 0, 0, 0, 0, true, false, false, 0, 0, 0, false⟩, some ⟨b1, 0, none⟩, [1, 6], 2⟩, ⟨[76, 68, 65, 80, 82, 42], [], ⟨4, 0, 0, 0, 0, 0, 0, 0, 0, 0, false, true, false, 0, 0, 0, false⟩, some ⟨b1, 0, none⟩, [1, 6], 2⟩, ⟨[83, 84, 82, 42], [], ⟨5, 0, 0, 0, 0, 0, 0, 0, 0, 0, false, false, false, 0, 0, 0, false⟩, some ⟨b2, 0, none⟩, [2, 6], 2⟩, ⟨[83, 84, 76, 82, 42], [], ⟨5, 0, 0, 0, 0, 0, 0, 0, 0, 0, false, false, true, 0, 0, 0, false⟩, some ⟨b2, 0, none⟩, [2, 6], 2⟩]
def aaccT : List (List UInt8 × List UInt8 × In × List Int) := [([76, 68, 82, 42], [], ⟨4, 0, 0, 0, 0, 0, 0, 0, 0, 0, false, false, false, 0, 0, 0, false⟩, [1, 6]), ([76, 68, 65, 82, 42], [], ⟨4, 0, 0, 0, 0, 0, 0, 0, 0, 0, true, false, false, 0, 0, 0, false⟩, [1, 6]), ([76, 68, 65, 80, 82, 42], [], ⟨4, 0, 0, 0, 0, 0, 0, 0, 0, 0, false, true, false, 0, 0, 0, false⟩, [1, 6]), ([83, 84, 82, 42], [], ⟨5, 0, 0, 0, 0, 0, 0, 0, 0, 0, false, false, false, 0, 0, 0, false⟩, [2, 6]), ([83, 84, 76, 82, 42], [], ⟨5, 0, 0, 0, 0, 0, 0, 0, 0, 0, false, false, true, 0, 0, 0, false⟩, [2, 6])]
theorem aacc_rows {b1 b2 b3 lo lo2 : Nat} {w : World} {ks : List Nat} (h : Acc lo (aaccL b1 b2 b3) w ks) (hlo : lo2 ≤ lo) : RowsIn lo2 (aaccR b1 b2) w ks := by
  intro r hr
  unfold aaccR at hr
  simp only [List.mem_cons, List.mem_nil_iff, or_false] at hr
  rcases hr with rfl | rfl | rfl | rfl | rfl
  · have q := lies_of (b := b1) (cs := []) [1, 6] h (by show _ ∈ aaccL b1 b2 b3; unfold aaccL; simp); exact ⟨q.1, fun z hz => Nat.le_trans hlo (q.2 z hz)⟩
  · have q := lies_of (b := b1) (cs := []) [1, 6] h (by show _ ∈ aaccL b1 b2 b3; unfold aaccL; simp); exact ⟨q.1, fun z hz => Nat.le_trans hlo (q.2 z hz)⟩
  · have q := lies_of (b := b1) (cs := []) [1, 6] h (by show _ ∈ aaccL b1 b2 b3; unfold aaccL; simp); exact ⟨q.1, fun z hz => Nat.le_trans hlo (q.2 z hz)⟩
  · have q := lies_of (b := b2) (cs := []) [2, 6] h (by show _ ∈ aaccL b1 b2 b3; unfold aaccL; simp); exact ⟨q.1, fun z hz => Nat.le_trans hlo (q.2 z hz)⟩
  · have q := lies_of (b := b2) (cs := []) [2, 6] h (by show _ ∈ aaccL b1 b2 b3; unfold aaccL; simp); exact ⟨q.1, fun z hz => Nat.le_trans hlo (q.2 z hz)⟩
theorem aacc_den (b1 b2 b3 : Nat) : denL [] ((aaccR b1 b2).flatMap rwc) = denL [] [.str [76, 68, 82, 42], .str [], .int .i64 4, .int .i64 0, .int .i64 0, .int .i64 0, .int .i64 0, .int .i64 0, .int .i64 0, .int .i64 0, .int .i64 0, .int .i64 0, .ff, .ff, .ff, .int .i64 0, .int .i64 0, .int .i64 0, .ff, .sla (some ⟨b1, 0, none⟩) 2 2, .str [76, 68, 65, 82, 42], .str [], .int .i64 4, .int .i64 0, .int .i64 0, .int .i64 0, .int .i64 0, .int .i64 0, .int .i64 0, .int .i64 0, .int .i64 0, .int .i64 0, .tt, .ff, .ff, .int .i64 0, .int .i64 0, .int .i64 0, .ff, .sla (some ⟨b1, 0, none⟩) 2 2, .str [76, 68, 65, 80, 82, 42], .str [], .int .i64 4, .int .i64 0, .int .i64 0, .int .i64 0, .int .i64 0, .int .i64 0, .int .i64 0, .int .i64 0, .int .i64 0, .int .i64 0, .ff, .tt, .ff, .int .i64 0, .int .i64 0, .int .i64 0, .ff, .sla (some ⟨b1, 0, none⟩) 2 2, .str [83, 84, 82, 42], .str [], .int .i64 5, .int .i64 0, .int .i64 0, .int .i64 0, .int .i64 0, .int .i64 0, .int .i64 0, .int .i64 0, .int .i64 0, .int .i64 0, .ff, .ff, .ff, .int .i64 0, .int .i64 0, .int .i64 0, .ff, .sla (some ⟨b2, 0, none⟩) 2 2, .str [83, 84, 76, 82, 42], .str [], .int .i64 5, .int .i64 0, .int .i64 0, .int .i64 0, .int .i64 0, .int .i64 0, .int .i64 0, .int .i64 0, .int .i64 0, .int .i64 0, .ff, .ff, .tt, .int .i64 0, .int .i64 0, .int .i64 0, .ff, .sla (some ⟨b2, 0, none⟩) 2 2] := by rfl
section
variable {n : Nat} {ks : List Nat} {G0 : Gr} {w0 : World} {T : List (Nat × SV)} {H : Hp} {G : Gr} {a : Act} {w : World} {Q : Exit → Act → World → Prop} {K : List Fr} {ops : Array Oper} {o : Oper} {rest : List Oper}
theorem CALLACC (A : Sy n T H ks G0 w0 G a w) (h1 : callS n ops T o = some (69, []))
    (k : ∀ b1 b2 b3 vs a' w', denL [] ((aaccR b1 b2).flatMap rwc) = some vs → Lies b3 0 vs w' (keys H G) → RowsIn w.heap.size (aaccR b1 b2) w' (keys H G) → Sy n (extS T o.dst (.sla (some ⟨b3, 0, none⟩) 5 5)) H ks G0 w0 G a' w' → Goal Tryz.prog Q K (.ops ops rest) a' w') : Goal Tryz.prog Q K (.ops ops (o :: rest)) a w := by
  refine CALLR [] aacc_ A h1 rfl rfl rfl rfl fun x a' w' hJ hk A' => ?_
  obtain ⟨b1, b2, b3, rfl, hA⟩ := hJ
  have hA := acc_keys hA hk
  obtain ⟨_, vs, q1, q2⟩ := hA _ List.mem_cons_self
  exact k b1 b2 b3 vs a' w' ((aacc_den b1 b2 b3).trans q1) q2 (aacc_rows hA (Nat.le_refl _)) A'
end
def aothR (b1 b2 b3 b4 : Nat) : List Rw := [⟨[77, 79, 86], [], ⟨1, 0, 0, 0, 0, 0, 0, 0, 0, 0, false, false, false, 0, 0, 0, false⟩, some ⟨b1, 0, none⟩, [1, 5], 2⟩, ⟨[77, 79, 86], [], ⟨2, 0, 0, 0, 0, 0, 0, 0, 0, 0, false, false, false, 0, 0, 0, false⟩, some ⟨b2, 0, none⟩, [1, 2], 2⟩, ⟨[73, 83, 66], [], ⟨8, 0, 0, 0, 0, 0, 0, 0, 0, 0, false, false, false, 0, 0, 0, false⟩, none, [], 0⟩, ⟨[67, 66, 90], [], ⟨9, 0, 0, 0, 0, 0, 0, 0, 0, 0, false, false, false, 0, 0, 0, true⟩, some ⟨b3, 0, none⟩, [2, 7], 2⟩, ⟨[67, 66, 78, 90], [], ⟨9, 0, 0, 0, 0, 0, 0, 0, 0, 0, false, false, false, 0, 0, 0, false⟩, some ⟨b4, 0, none⟩, [2, 7], 2⟩]
def aothT : List (List UInt8 × List UInt8 × In × List Int) := [([77, 79, 86], [], ⟨1, 0, 0, 0, 0, 0, 0, 0, 0, 0, false, false, false, 0, 0, 0, false⟩, [1, 5]), ([77, 79, 86], [], ⟨2, 0, 0, 0, 0, 0, 0, 0, 0, 0, false, false, false, 0, 0, 0, false⟩, [1, 2]), ([73, 83, 66], [], ⟨8, 0, 0, 0, 0, 0, 0, 0, 0, 0, false, false, false, 0, 0, 0, false⟩, []), ([67, 66, 90], [], ⟨9, 0, 0, 0, 0, 0, 0, 0, 0, 0, false, false, false, 0, 0, 0, true⟩, [2, 7]), ([67, 66, 78, 90], [], ⟨9, 0, 0, 0, 0, 0, 0, 0, 0, 0, false, false, false, 0, 0, 0, false⟩, [2, 7])]
theorem aoth_rows {b1 b2 b3 b4 b5 lo lo2 : Nat} {w : World} {ks : List Nat} (h : Acc lo (aothL b1 b2 b3 b4 b5) w ks) (hlo : lo2 ≤ lo) : RowsIn lo2 (aothR b1 b2 b3 b4) w ks := by
  intro r hr
  unfold aothR at hr
  simp only [List.mem_cons, List.mem_nil_iff, or_false] at hr
  rcases hr with rfl | rfl | rfl | rfl | rfl
  · have q := lies_of (b := b1) (cs := []) [1, 5] h (by show _ ∈ aothL b1 b2 b3 b4 b5; unfold aothL; simp); exact ⟨q.1, fun z hz => Nat.le_trans hlo (q.2 z hz)⟩
  · have q := lies_of (b := b2) (cs := []) [1, 2] h (by show _ ∈ aothL b1 b2 b3 b4 b5; unfold aothL; simp); exact ⟨q.1, fun z hz => Nat.le_trans hlo (q.2 z hz)⟩
  · exact ⟨.inl ⟨rfl, rfl⟩, fun q hq => by cases hq⟩
  · have q := lies_of (b := b3) (cs := []) [2, 7] h (by show _ ∈ aothL b1 b2 b3 b4 b5; unfold aothL; simp); exact ⟨q.1, fun z hz => Nat.le_trans hlo (q.2 z hz)⟩
  · have q := lies_of (b := b4) (cs := []) [2, 7] h (by show _ ∈ aothL b1 b2 b3 b4 b5; unfold aothL; simp); exact ⟨q.1, fun z hz => Nat.le_trans hlo (q.2 z hz)⟩
theorem aoth_den (b1 b2 b3 b4 b5 : Nat) : denL [] ((aothR b1 b2 b3 b4).flatMap rwc) = denL [] [.str [77, 79, 86], .str [], .int .i64 1, .int .i64 0, .int .i64 0, .int .i64 0, .int .i64 0, .int .i64 0, .int .i64 0, .int .i64 0, .int .i64 0, .int .i64 0, .ff, .ff, .ff, .int .i64 0, .int .i64 0, .int .i64 0, .ff, .sla (some ⟨b1, 0, none⟩) 2 2, .str [77, 79, 86], .str [], .int .i64 2, .int .i64 0, .int .i64 0, .int .i64 0, .int .i64 0, .int .i64 0, .int .i64 0, .int .i64 0, .int .i64 0, .int .i64 0, .ff, .ff, .ff, .int .i64 0, .int .i64 0, .int .i64 0, .ff, .sla (some ⟨b2, 0, none⟩) 2 2, .str [73, 83, 66], .str [], .int .i64 8, .int .i64 0, .int .i64 0, .int .i64 0, .int .i64 0, .int .i64 0, .int .i64 0, .int .i64 0, .int .i64 0, .int .i64 0, .ff, .ff, .ff, .int .i64 0, .int .i64 0, .int .i64 0, .ff, .sla none 0 0, .str [67, 66, 90], .str [], .int .i64 9, .int .i64 0, .int .i64 0, .int .i64 0, .int .i64 0, .int .i64 0, .int .i64 0, .int .i64 0, .int .i64 0, .int .i64 0, .ff, .ff, .ff, .int .i64 0, .int .i64 0, .int .i64 0, .tt, .sla (some ⟨b3, 0, none⟩) 2 2, .str [67, 66, 78, 90], .str [], .int .i64 9, .int .i64 0, .int .i64 0, .int .i64 0, .int .i64 0, .int .i64 0, .int .i64 0, .int .i64 0, .int .i64 0, .int .i64 0, .ff, .ff, .ff, .int .i64 0, .int .i64 0, .int .i64 0, .ff, .sla (some ⟨b4, 0, none⟩) 2 2] := by rfl
section
variable {n : Nat} {ks : List Nat} {G0 : Gr} {w0 : World} {T : List (Nat × SV)} {H : Hp} {G : Gr} {a : Act} {w : World} {Q : Exit → Act → World → Prop} {K : List Fr} {ops : Array Oper} {o : Oper} {rest : List Oper}
theorem CALLAOT (A : Sy n T H ks G0 w0 G a w) (h1 : callS n ops T o = some (72, []))
    (k : ∀ b1 b2 b3 b4 b5 vs a' w', denL [] ((aothR b1 b2 b3 b4).flatMap rwc) = some vs → Lies b5 0 vs w' (keys H G) → RowsIn w.heap.size (aothR b1 b2 b3 b4) w' (keys H G) → Sy n (extS T o.dst (.sla (some ⟨b5, 0, none⟩) 5 5)) H ks G0 w0 G a' w' → Goal Tryz.prog Q K (.ops ops rest) a' w') : Goal Tryz.prog Q K (.ops ops (o :: rest)) a w := by
  refine CALLR [] aoth_ A h1 rfl rfl rfl rfl fun x a' w' hJ hk A' => ?_
  obtain ⟨b1, b2, b3, b4, b5, rfl, hA⟩ := hJ
  have hA := acc_keys hA hk
  obtain ⟨_, vs, q1, q2⟩ := hA _ List.mem_cons_self
  exact k b1 b2 b3 b4 b5 vs a' w' ((aoth_den b1 b2 b3 b4 b5).trans q1) q2 (aoth_rows hA (Nat.le_refl _)) A'
end
def armT : List (List UInt8 × List UInt8 × In × List Int) := (((acomp ++ aaccT) ++ aatom) ++ afen) ++ aothT
theorem alang_ : FnR Tryz.prog 26 [] [] (fun x w w' => ∃ (L : List Rw) (b cp : Nat), x = .agg [.str [88, 48], .str [88, 49], .str [88, 50], .str [88, 51], .str [88, 52], .str [88, 53], .str [88, 54], .str [88, 55], .str [66], .str [72], .str [87], .str [], .str [35], .str [], .str [], .str [], .sla (some ⟨b, 0, none⟩) 31 cp] ∧ (L.map tm = armT ∧ RowsIn w.heap.size L w' [b]) ∧ w.heap.size ≤ b ∧ Given 128 20 31 (fun zz => rwc (L.getD zz Rw.z)) b cp w') :=
 enterR (n := 11) (by kernel_rfl) Tryz.func26 rfl rfl rfl fun G w a h0 A => N hX 7 A rfl rfl fun A => CALL1 [] (aregs_ ) A rfl rfl rfl rfl rfl rfl rfl fun A => N hX 1 A rfl rfl fun A => have hz := A.mix.size; CALLROW (t := 3) (F := fun (L : List Rw) zz => rwc (L.getD zz Rw.z)) (R := fun L b w w' => L.map tm = acomp ∧ RowsIn w.heap.size L w' [b]) acomp_ A rfl rfl fun L1 e1 cp1 a1_ w1 G1 hR1 hlo hk A => have l1 : L1.length = 10 := (by have q := congrArg List.length hR1.1; rw [List.length_map] at q; exact q); have hI := (rows_keys hR1.2 hk).mono hz; have B := A; have A := B.base; 
 have hz := Nat.le_trans B.mix.size A.mix.size; CALLACC A rfl fun p1 p2 p3 vp a2_ w2 hv hL hO A => have hI := (RowsIn.ok _ _ _ _ hI A.mix A.keys_own).app (hO.mono hz); have lx2 : (aaccR p1 p2).length = 5 := rfl; have l12 : (L1 ++ (aaccR p1 p2)).length = 15 := (by rw [List.length_append, l1, lx2]); have B := B.trans A; have A := A.base; have A := A.adoptL Rw.z rwc 20 tyR.1 tyR.2.1 tyR.2.2 (aaccR p1 p2) hL hv 4 rfl;
 have hz := Nat.le_trans B.mix.size A.mix.size; CALLROW (t := 5) (F := fun (L : List Rw) zz => rwc (L.getD zz Rw.z)) (R := fun L b w w' => L.map tm = aatom ∧ RowsIn w.heap.size L w' [b]) aatom_ A rfl rfl fun L3 e3 cp3 a3_ w3 G3 hR3 hlo hk A => have lx3 : L3.length = 8 := (by have q := congrArg List.length hR3.1; rw [List.length_map] at q; exact q); have hI2 := (rows_keys hR3.2 hk).mono hz; have hI := (RowsIn.ok _ _ _ _ hI A.mix A.keys_own).app hI2; have l13 : ((L1 ++ (aaccR p1 p2)) ++ L3).length = 23 := (by rw [List.length_append, l12, lx3]); have B := B.trans A; have A := A.base; 
 have hz := Nat.le_trans B.mix.size A.mix.size; CALLROW (t := 6) (F := fun (L : List Rw) zz => rwc (L.getD zz Rw.z)) (R := fun L b w w' => L.map tm = afen ∧ RowsIn w.heap.size L w' [b]) afen_ A rfl rfl fun L4 e4 cp4 a4_ w4 G4 hR4 hlo hk A => have lx4 : L4.length = 3 := (by have q := congrArg List.length hR4.1; rw [List.length_map] at q; exact q); have hI2 := (rows_keys hR4.2 hk).mono hz; have hI := (RowsIn.ok _ _ _ _ hI A.mix A.keys_own).app hI2; have l14 : (((L1 ++ (aaccR p1 p2)) ++ L3) ++ L4).length = 26 := (by rw [List.length_append, l13, lx4]); have B := B.trans A; have A := A.base; 
 have hz := Nat.le_trans B.mix.size A.mix.size; CALLAOT A rfl fun q1 q2 q3 q4 q5 vq a5_ w5 hv hL hO A => have hI := (RowsIn.ok _ _ _ _ hI A.mix A.keys_own).app (hO.mono hz); have lx5 : (aothR q1 q2 q3 q4).length = 5 := rfl; have l15 : ((((L1 ++ (aaccR p1 p2)) ++ L3) ++ L4) ++ (aothR q1 q2 q3 q4)).length = 31 := (by rw [List.length_append, l14, lx5]); have B := B.trans A; have A := A.base; have A := A.adoptL Rw.z rwc 20 tyR.1 tyR.2.1 tyR.2.2 (aothR q1 q2 q3 q4) hL hv 7 rfl;
 N hX 1 A rfl rfl fun A => have A := A.freeze 1 rfl; have A := A.freeze 3 rfl; have A := A.freeze 4 rfl; CALL1 [6, 1, 2, 3, 4, 5] (concat5_ L1 (aaccR p1 p2) L3 L4 (aothR q1 q2 q3 q4) 0 5 0 0 5 l1 l12 l13 l14) A rfl rfl rfl rfl rfl rfl rfl fun A => match A.giveRow 7 9 (by decide) rfl rfl rfl with | ⟨b, cp, A2, hG, ho, hkb⟩ => (have h1 := RowsIn.ok _ _ _ _ hI A2.mix A2.keys_own; have h2 := RowsIn.ok _ _ _ [b] hI A2.mix (fun b2 hb => by have : b2 = b := (by simpa using hb); rw [this]; exact ho); have hbl := lo_of B (fun i e he => nil_no he) ho; have B := B.trans A2; have A := A2.base;
 N hX 5 A rfl rfl fun A => RETR (J := fun x w w' => ∃ (L : List Rw) (b cp : Nat), x = .agg [.str [88, 48], .str [88, 49], .str [88, 50], .str [88, 51], .str [88, 52], .str [88, 53], .str [88, 54], .str [88, 55], .str [66], .str [72], .str [87], .str [], .str [35], .str [], .str [], .str [], .sla (some ⟨b, 0, none⟩) 31 cp] ∧ (L.map tm = armT ∧ RowsIn w.heap.size L w' [b]) ∧ w.heap.size ≤ b ∧ Given 128 20 31 (fun zz => rwc (L.getD zz Rw.z)) b cp w') hX (B.trans A) (fun i e he => nil_no he) rfl rfl rfl rfl ⟨((((L1 ++ (aaccR p1 p2)) ++ L3) ++ L4) ++ (aothR q1 q2 q3 q4)), b, cp, rfl, ⟨by rw [List.map_append, List.map_append, List.map_append, List.map_append, hR1.1, hR3.1, hR4.1]; rfl, h1.one h2 A.mix⟩, hbl, hG.mix A.mix hkb⟩)
end Go.Proofs.YtedlaclfhgneeabGreatDoor
namespace Go.Proofs.YtedlaclfhgneeabGreatDoor
open Go.RowKit
set_option linter.unusedVariables false
set_option linter.unusedSimpArgs false
set_option maxRecDepth 100000
set_option maxHeartbeats 2000000
section
variable {g : Lg} {L : List Rw} {i : In} {lb : List UInt8}
theorem cn_find : ∀ (L : List Rw), (L.map cn).find? (rowP i) = (L.find? (rowP i)).map cn
  | [] => rfl
  | r :: L => by
    rw [List.map_cons, List.find?_cons, List.find?_cons]
    have e : rowP i (cn r) = rowP i r := rfl
    rw [e]
    split
    · rfl
    · exact cn_find L
theorem cn_rowR : rowR (L.map cn) i = cn (rowR L i) := by
  unfold rowR; rw [cn_find]; cases L.find? (rowP i) <;> rfl
theorem cn_rowQ : rowQ (L.map cn) i = rowQ L i := by
  unfold rowQ; rw [cn_find]; cases L.find? (rowP i) <;> rfl
theorem cn_prP : prP g (L.map cn) i lb = prP g L i lb := by
  unfold prP; rw [cn_rowR, cn_rowQ]; rfl
end
end Go.Proofs.YtedlaclfhgneeabGreatDoor
namespace Go.Proofs.YtedlaclfhgneeabGreatDoor
open Go.RowKit
set_option linter.unusedVariables false
set_option linter.unusedSimpArgs false
set_option linter.unusedSectionVars false
section
variable {P : Program} {n : Nat} {ks : List Nat} {G0 : Gr} {w0 : World} {T : List (Nat × SV)} {H : Hp} {G : Gr} {a : Act} {w w' : World} {Q : Exit → Act → World → Prop} {K : List Fr} {ops : Array Oper} {o : Oper} {rest : List Oper} {fuel i : Nat} {listed : Array Bool}
theorem any_in {id : Nat} (f : Nat) (hmo : P.follows .mixedOrders = true) (hf : ops.size = f) (A : Sy n T H ks G0 w0 G a w) (h : ∀ {w}, Sy n T H ks G0 w0 G a w → wpAny P .any ops (wpK P Q K) f (Array.replicate f false) a w) : Goal P Q K (.code (.region id ops true)) a w := by
  subst hf
  refine wp_region_any hmo ?_
  have hB1 : Ms H ks G0 w0 G w.drew := A.ms.grow (Grow.refl w).drew
  exact h (hB1.sy A.size A.defers A.get)
theorem any_at {rs : List Nat} (hr : Region.ready .any ops listed = rs) (hne : rs ≠ []) (h : ∀ i ∈ rs, wpOp P ops Q i (wpAny P .any ops Q fuel (listed.setIfInBounds i true)) a w) : wpAny P .any ops Q (fuel + 1) listed a w := by
  unfold wpAny
  rw [hr]
  exact ⟨fun e => absurd e hne, h⟩
theorem any_end (hr : Region.ready .any ops listed = []) (h : Goal P Q K .norm a w) : wpAny P .any ops (wpK P Q K) fuel listed a w := by
  cases fuel with
  | zero => exact ⟨hr, h⟩
  | succ f =>
    unfold wpAny
    rw [hr]
    exact ⟨fun _ => h, fun i hi => by cases hi⟩
theorem any_does (ho : ops[i]? = some o) (h : Does P ops o a w fun v w' => wpAny P .any ops Q fuel (listed.setIfInBounds i true) (a.put o.dst v) w') : wpOp P ops Q i (wpAny P .any ops Q fuel (listed.setIfInBounds i true)) a w := by
  unfold wpOp
  rcases h with ⟨hw, h⟩ | ⟨hw, h⟩
  · simp only [ho, hw, if_true]
    refine .inl (Oper.wp_mono (fun a2 w2 h => ?_) (h Q))
    obtain ⟨v, rfl, h1⟩ := h
    exact h1
  · simp only [ho, hw, Bool.false_eq_true, if_false]
    exact h
theorem any_eff {x : SV} {H' : Hp} (ho : ops[i]? = some o) (A : Sy n T H ks G0 w0 G a w) (hd : fitsD n o.dst = true) (h : EffOK P n ops ks G0 w0 T H o x H') (hk : ∀ {G a w}, Sy n (extS T o.dst x) H' ks G0 w0 G a w → wpAny P .any ops Q fuel (listed.setIfInBounds i true) a w) : wpOp P ops Q i (wpAny P .any ops Q fuel (listed.setIfInBounds i true)) a w := by
  refine any_does ho ?_
  rcases h G a w A with ⟨hw, h⟩ | ⟨hw, F, h1, h2⟩
  · refine .inl ⟨hw, fun Q' => ?_⟩
    refine Oper.wp_mono (fun a' w' hh => ?_) (h Q')
    obtain ⟨v, rfl, F, h1, h2⟩ := hh
    exact ⟨v, rfl, hk (Sy.put (h2.sy A.size A.defers fun t y hy => den_mono F y (A.get t y hy)) hd h1)⟩
  · exact .inr ⟨hw, hk (Sy.put (h2.sy A.size A.defers fun t y hy => den_mono F y (A.get t y hy)) hd h1)⟩
theorem does_R {f : Nat} {J : SV → World → World → Prop} {K : Value → World → Prop} (hf : FnR P f [] [] J) (A : Sy n T H ks G0 w0 G a w) (h1 : callS n ops T o = some (f, []))
    (hk : ∀ x v w', J x w w' → (∀ k, (keys H G).contains k = true → k < w.heap.size) → Sy n (extS T o.dst x) H ks G0 w0 G (a.put o.dst v) w' → K v w') : Does P ops o a w K := by
  obtain ⟨hd, us, hu, hdo⟩ := callS_do (P := P) (ops := ops) A h1 hf.1
  have hu' : us = [] := by cases hu; rfl
  subst hu'
  have hM : Mem [] [] w := ⟨rfl, fun i e h => by simp at h, fun i j e f L M _ h => by simp at h⟩
  refine hdo (hf.2 [] w [] hM rfl) fun e w' he => ?_
  obtain ⟨x, v, e1, rfl, hg, hJ⟩ := he
  refine ⟨v, rfl, hk x v _ hJ (fun k hz => ?_) (Sy.put ⟨A.size, A.defers, A.get, ⟨A.mem.len, fun i e hi => (A.mem.ent i e hi).mix hg.mix (fun _ _ _ => rfl), A.mem.sep⟩, A.pre, A.own, A.mix.grow hg⟩ hd (by simpa using den_mono G x e1))⟩
  obtain ⟨i, e, L, q1, q2, q3, q4⟩ := mem_keys.1 hz
  have := A.mem.ent i e q1
  rw [q3] at this
  rw [← q4]; exact EntOK.lt this (mut_full q2)
theorem any_agg {β : Type} {e s m t f : Nat} {l : List SV} {F : β → Nat → List SV} {R : β → Nat → World → World → Prop} (ho : ops[i]? = some o) (hf : FnR P f [] [] (fun x w w' => ∃ (L : β) (b cp : Nat), x = .agg (l ++ [.sla (some ⟨b, 0, none⟩) m cp]) ∧ R L b w w' ∧ w.heap.size ≤ b ∧ Given e s m (F L) b cp w')) (A : Sy n T H ks G0 w0 G a w) (hd : o.dst = some t) (h1 : callS n ops T o = some (f, []))
    (k : ∀ L b cp a' w' G', R L b w w' → w.heap.size ≤ b → (∀ k, (keys (H ++ [some (.row e s m 0 (F L))]) G').contains k = true → k < w.heap.size ∨ k = b) → Sy n ((t, .agg (l ++ [.sl H.length m 0])) :: extS T o.dst (.agg (l ++ [.sla (some ⟨b, 0, none⟩) m cp]))) (H ++ [some (.row e s m 0 (F L))]) ks G0 w0 G' a' w' → wpAny P .any ops Q fuel (listed.setIfInBounds i true) a' w') : wpOp P ops Q i (wpAny P .any ops Q fuel (listed.setIfInBounds i true)) a w := by
  refine any_does ho (does_R hf A h1 fun x v w' hJ hk A' => ?_)
  obtain ⟨L, b, cp, rfl, hR, hlo, hg⟩ := hJ
  have hl : look (extS T o.dst (.agg (l ++ [.sla (some ⟨b, 0, none⟩) m cp]))) t = some (.agg (l ++ [.sla (some ⟨b, 0, none⟩) m cp])) := by rw [hd]; simp [extS, look, Nat.beq_refl]
  have hlen := A'.mem.len
  have A2 := A'.takeRowG t (y := .agg (l ++ [.sl H.length m 0])) hg (fun i e L q1 q2 q3 => by
    have := A.mem.ent i e q1
    rw [q2] at this
    have := EntOK.lt this q3
    omega) (Nat.le_trans A.mix.size hlo) hl (by
      unfold den
      rw [denL_last (y := .sla (some ⟨b, 0, none⟩) m cp)]
      unfold den
      rw [List.getElem?_append_right (by omega), hlen]
      simp [rm])
  refine k L b cp _ w' _ hR hlo (fun q hq => ?_) A2
  obtain ⟨i, e', L', q1, q2, q3, q4⟩ := mem_keys.1 hq
  by_cases hi : i < H.length
  · rw [List.getElem?_append_left hi] at q1
    rw [List.getElem?_append_left (by omega)] at q3
    exact .inl (hk q (mem_keys.2 ⟨i, e', L', q1, q2, q3, q4⟩))
  · have hi2 : i = H.length := by
      have := (List.getElem?_eq_some_iff.1 q1).1
      simp at this; omega
    subst hi2
    rw [List.getElem?_append_right (by omega), hlen] at q3
    simp at q3
    subst q3
    exact .inr q4.symm
end
end Go.Proofs.YtedlaclfhgneeabGreatDoor
namespace Go.Proofs.YtedlaclfhgneeabGreatDoor
open Go.RowKit
set_option linter.unusedVariables false
set_option linter.unusedSimpArgs false
set_option maxRecDepth 100000
set_option maxHeartbeats 2000000
set_option simprocs false
def armG : Lg := ⟨[88, 48], [88, 49], [88, 50], [88, 51], [88, 52], [88, 53], [88, 54], [88, 55], [66], [72], [87], [], [35], [], [], []⟩
def armC : List Rw := armT.map rwOf
theorem arm_pa {L : List Rw} {ws : List Tk} (hm : L.map tm = armT) : PaOK armG ws L := pa_ok hm (by decide +kernel) (by decide +kernel) (by decide +kernel) (fun k => by
  by_cases h : k < 4
  · have : k = 0 ∨ k = 1 ∨ k = 2 ∨ k = 3 := by omega
    rcases this with rfl | rfl | rfl | rfl <;> decide
  · rw [List.getD_eq_getElem?_getD, List.getElem?_eq_none (by simpa using h)]; decide)
theorem arm_par {L : List Rw} (h : L.map tm = armT) (ws : List Tk) : parI armG ws L = parI armG ws armC ∧ parT armG ws L = parT armG ws armC ∧ parE armG ws L = parE armG ws armC ∧ parA armG ws L = parA armG ws armC := by
  have := cn_par (g := armG) (ws := ws) (L := L)
  rw [cn_tm h] at this
  exact ⟨this.1.symm, this.2.1.symm, this.2.2.1.symm, this.2.2.2.symm⟩
theorem arm_pr {L : List Rw} {i : In} {lb : List UInt8} (h : L.map tm = armT) : prP armG L i lb = prP armG armC i lb := by
  have := cn_prP (g := armG) (L := L) (i := i) (lb := lb)
  rw [cn_tm h] at this
  exact this.symm
theorem arm_lg : LgL armG := by
  refine ⟨⟨fun r => ?_, by decide⟩, fun k => ?_, by decide, by decide, by decide⟩
  · unfold regnm0
    split
    · exact Nat.zero_le _
    · next h =>
      have : (r).toNat = 0 ∨ (r).toNat = 1 ∨ (r).toNat = 2 ∨ (r).toNat = 3 ∨ (r).toNat = 4 ∨ (r).toNat = 5 ∨ (r).toNat = 6 ∨ (r).toNat = 7 := by
        simp only [Bool.or_eq_true, decide_eq_true_eq] at h; omega
      rcases this with e | e | e | e | e | e | e | e <;> rw [e] <;> decide
  · by_cases h : k < 4
    · have : k = 0 ∨ k = 1 ∨ k = 2 ∨ k = 3 := by omega
      rcases this with rfl | rfl | rfl | rfl <;> decide
    · rw [List.getD_eq_getElem?_getD, List.getElem?_eq_none (by simpa using h)]; decide
theorem arm_prok {L : List Rw} {i : In} {lb : List UInt8} (hi : InR i) (hl : lb.length ≤ 100000) (hm : L.map tm = armT) : PrOK armG L i lb := pr_ok hm arm_lg (by decide +kernel) (by decide +kernel) hi hl
theorem aparse_ (ws : List Tk) (d : Nat) (hn : ws.length ≤ 1000000) (hw : WsOK ws) (os : List (Nat × Obj)) (hM : ∀ w ks, Gl os w ks → ∃ m, w.cell? ⟨0, 0, none⟩ = some (.int .i64 m)) : FnI (Gl os) Tryz.prog 10 [.sl 0 ws.length d] [some (wQ9 ws)] (Rt (.tup [.agg (inQ9 (parI armG ws armC)), .str (parT armG ws armC), .int .i64 (parE armG ws armC), .int .i64 (parA armG ws armC)]) [some (wQ9 ws)]) :=
 enterI (n := 13) (by kernel_rfl) Tryz.func10 rfl rfl rfl fun G w a h0 hI A => N hX 10 A rfl rfl fun A => CALLAGG (t := 6) (l := [.str [88, 48], .str [88, 49], .str [88, 50], .str [88, 51], .str [88, 52], .str [88, 53], .str [88, 54], .str [88, 55], .str [66], .str [72], .str [87], .str [], .str [35], .str [], .str [], .str []]) (F := fun (L : List Rw) zz => rwc (L.getD zz Rw.z)) (R := fun L b w w' => L.map tm = armT ∧ RowsIn w.heap.size L w' [b]) alang_ A rfl rfl fun L b cp a1 w1 G1 hR hlo hkk A => have hl20 : L.length = 31 := (by have q := congrArg List.length hR.1; rw [List.length_map] at q; exact q.trans (by decide +kernel)); have hRI := rows_keys hR.2 hkk; have B0 := A; have A := A.base; have A := A.rowAs 2 L.length (fun zz => rwc (L.getD zz Rw.z)) rfl hl20 (fun _ _ => rfl) (fun z => ⟨_, rfl, rfl⟩); have A := A.say 6 (.agg [.str [88, 48], .str [88, 49], .str [88, 50], .str [88, 51], .str [88, 52], .str [88, 53], .str [88, 54], .str [88, 55], .str [66], .str [72], .str [87], .str [], .str [35], .str [], .str [], .str [], .sl 2 L.length 0]) rfl (by rw [hl20] <;> rfl); have A := A.freeze 2 rfl; have hTb := RowsIn.ok.now A hRI; have B := B0.trans A; have A := A.base; have hI2 : PrI os L _ _ := ⟨fun r hr => (hTb r hr).1, Gl.ok.now B hI⟩; N hX 1 A rfl rfl fun A => CALLI [2, 0] PrI.ok hI2 (lparse_ armG L 0 ws d hn hw os hM (arm_pa hR.1)) A rfl rfl rfl rfl rfl rfl rfl fun A => N hX 11 A rfl rfl fun A => have e := arm_par hR.1 ws; RETN hX (B.trans A) rfl rfl rfl h0 rfl rfl rfl rfl (by rw [← e.1, ← e.2.1, ← e.2.2.1, ← e.2.2.2] <;> rfl) rfl
theorem aprint_ (i : In) (lb : List UInt8) (os : List (Nat × Obj)) (hM : ∀ w ks, Gl os w ks → ∃ m, w.cell? ⟨0, 0, none⟩ = some (.int .i64 m)) (hT : ∀ w ks, Gl os w ks → Lib.TabIs Tryz.prog w "internal/strconv.uint64pow10" .u64 Lib.pow10Tab) (hE : ∀ w ks, Gl os w ks → ∃ ev, w.cell? ⟨1, 0, none⟩ = some ev ∧ (ev = .nilIface ∨ ∃ te pe, ev = .iface te pe)) (hp : ∀ L : List Rw, L.map tm = armT → PrOK armG L i lb) : FnI (Gl os) Tryz.prog 12 [.agg (inQ9 i), .str lb] [] (Rt (.tup [.str ((prP armG armC i lb).1), .int .i64 ((prP armG armC i lb).2)]) []) :=
 enterI (n := 12) (by kernel_rfl) Tryz.func12 rfl rfl rfl fun G w a h0 hI A => N hX 8 A rfl rfl fun A => any_in 8 hmo rfl A fun A => any_at (rs := [0, 1, 2]) (by kernel_rfl) (by decide) (List.forall_mem_cons.2 ⟨any_agg (t := 6) (l := [.str [88, 48], .str [88, 49], .str [88, 50], .str [88, 51], .str [88, 52], .str [88, 53], .str [88, 54], .str [88, 55], .str [66], .str [72], .str [87], .str [], .str [35], .str [], .str [], .str []]) (F := fun (L : List Rw) zz => rwc (L.getD zz Rw.z)) (R := fun L b w w' => L.map tm = armT ∧ RowsIn w.heap.size L w' [b]) rfl alang_ A rfl rfl fun L b cp a1 w1 G1 hR hlo hkk A => have hl20 : L.length = 31 := (by have q := congrArg List.length hR.1; rw [List.length_map] at q; exact q.trans (by decide +kernel)); have hRI := rows_keys hR.2 hkk; have B0 := A; have A := A.base; have A := A.rowAs 1 L.length (fun zz => rwc (L.getD zz Rw.z)) rfl hl20 (fun _ _ => rfl) (fun z => ⟨_, rfl, rfl⟩); have A := A.say 6 (.agg [.str [88, 48], .str [88, 49], .str [88, 50], .str [88, 51], .str [88, 52], .str [88, 53], .str [88, 54], .str [88, 55], .str [66], .str [72], .str [87], .str [], .str [35], .str [], .str [], .str [], .sl 1 L.length 0]) rfl (by rw [hl20] <;> rfl); have A := A.freeze 1 rfl; have hTb := RowsIn.ok.now A hRI; have B := B0.trans A; have A := A.base; have hI2 : PrI os L _ _ := ⟨fun r hr => (hTb r hr).1, Gl.ok.now B hI⟩; any_at (rs := [1, 2]) (by kernel_rfl) (by decide) (List.forall_mem_cons.2 ⟨any_eff (x := .agg (inQ9 i)) (H' := [some (.blk (inQ9 i)), some (lQ9 L)]) rfl A rfl (eff_auto (X := ⟨_, true⟩) (out := .val _ _) hX rfl rfl) fun A => any_at (rs := [2]) (by kernel_rfl) (by decide) (List.forall_mem_cons.2 ⟨any_eff (x := .str lb) (H' := [some (.blk (inQ9 i)), some (lQ9 L)]) rfl A rfl (eff_auto (X := ⟨_, true⟩) (out := .val _ _) hX rfl rfl) fun A => any_at (rs := [3]) (by kernel_rfl) (by decide) (List.forall_mem_cons.2 ⟨any_eff (x := .tup [.str ((prP armG L i lb).1), .int .i64 ((prP armG L i lb).2)]) (H' := [some (.blk (inQ9 i)), some (lQ9 L)]) rfl A rfl (callIE [1] PrI.ok hI2 (lprint_ armG L 0 i lb os hM hT hE (hp L hR.1)) rfl rfl rfl rfl rfl rfl rfl) fun A => any_at (rs := [4, 5]) (by kernel_rfl) (by decide) (List.forall_mem_cons.2 ⟨any_eff (x := .str ((prP armG L i lb).1)) (H' := [some (.blk (inQ9 i)), some (lQ9 L)]) rfl A rfl (eff_auto (X := ⟨_, true⟩) (out := .val _ _) hX rfl rfl) fun A => any_at (rs := [5]) (by kernel_rfl) (by decide) (List.forall_mem_cons.2 ⟨any_eff (x := .int .i64 ((prP armG L i lb).2)) (H' := [some (.blk (inQ9 i)), some (lQ9 L)]) rfl A rfl (eff_auto (X := ⟨_, true⟩) (out := .val _ _) hX rfl rfl) fun A => any_at (rs := [6]) (by kernel_rfl) (by decide) (List.forall_mem_cons.2 ⟨any_eff (x := .str ((prP armG L i lb).1)) (H' := [some (.blk (inQ9 i)), some (lQ9 L)]) rfl A rfl (eff_auto (X := ⟨_, true⟩) (out := .val _ _) hX rfl rfl) fun A => any_at (rs := [7]) (by kernel_rfl) (by decide) (List.forall_mem_cons.2 ⟨any_eff (x := .int .i64 ((prP armG L i lb).2)) (H' := [some (.blk (inQ9 i)), some (lQ9 L)]) rfl A rfl (eff_auto (X := ⟨_, true⟩) (out := .val _ _) hX rfl rfl) fun A => any_end (by kernel_rfl) (N hX 2 A rfl rfl fun A => RETN hX (B.trans A) rfl rfl rfl h0 rfl rfl rfl rfl (by rw [← arm_pr hR.1] <;> rfl) rfl),
         (List.forall_mem_nil _)⟩),
        (List.forall_mem_nil _)⟩),
       (List.forall_mem_nil _)⟩),
      (List.forall_mem_cons.2 ⟨any_eff (x := .int .i64 ((prP armG L i lb).2)) (H' := [some (.blk (inQ9 i)), some (lQ9 L)]) rfl A rfl (eff_auto (X := ⟨_, true⟩) (out := .val _ _) hX rfl rfl) fun A => any_at (rs := [4]) (by kernel_rfl) (by decide) (List.forall_mem_cons.2 ⟨any_eff (x := .str ((prP armG L i lb).1)) (H' := [some (.blk (inQ9 i)), some (lQ9 L)]) rfl A rfl (eff_auto (X := ⟨_, true⟩) (out := .val _ _) hX rfl rfl) fun A => any_at (rs := [6]) (by kernel_rfl) (by decide) (List.forall_mem_cons.2 ⟨any_eff (x := .str ((prP armG L i lb).1)) (H' := [some (.blk (inQ9 i)), some (lQ9 L)]) rfl A rfl (eff_auto (X := ⟨_, true⟩) (out := .val _ _) hX rfl rfl) fun A => any_at (rs := [7]) (by kernel_rfl) (by decide) (List.forall_mem_cons.2 ⟨any_eff (x := .int .i64 ((prP armG L i lb).2)) (H' := [some (.blk (inQ9 i)), some (lQ9 L)]) rfl A rfl (eff_auto (X := ⟨_, true⟩) (out := .val _ _) hX rfl rfl) fun A => any_end (by kernel_rfl) (N hX 2 A rfl rfl fun A => RETN hX (B.trans A) rfl rfl rfl h0 rfl rfl rfl rfl (by rw [← arm_pr hR.1] <;> rfl) rfl),
         (List.forall_mem_nil _)⟩),
        (List.forall_mem_nil _)⟩),
       (List.forall_mem_nil _)⟩),
      (List.forall_mem_nil _)⟩)⟩),
     (List.forall_mem_nil _)⟩),
    (List.forall_mem_nil _)⟩),
   (List.forall_mem_cons.2 ⟨any_eff (x := .str lb) (H' := [some (.blk (inQ9 i)), some (lQ9 L)]) rfl A rfl (eff_auto (X := ⟨_, true⟩) (out := .val _ _) hX rfl rfl) fun A => any_at (rs := [1]) (by kernel_rfl) (by decide) (List.forall_mem_cons.2 ⟨any_eff (x := .agg (inQ9 i)) (H' := [some (.blk (inQ9 i)), some (lQ9 L)]) rfl A rfl (eff_auto (X := ⟨_, true⟩) (out := .val _ _) hX rfl rfl) fun A => any_at (rs := [3]) (by kernel_rfl) (by decide) (List.forall_mem_cons.2 ⟨any_eff (x := .tup [.str ((prP armG L i lb).1), .int .i64 ((prP armG L i lb).2)]) (H' := [some (.blk (inQ9 i)), some (lQ9 L)]) rfl A rfl (callIE [1] PrI.ok hI2 (lprint_ armG L 0 i lb os hM hT hE (hp L hR.1)) rfl rfl rfl rfl rfl rfl rfl) fun A => any_at (rs := [4, 5]) (by kernel_rfl) (by decide) (List.forall_mem_cons.2 ⟨any_eff (x := .str ((prP armG L i lb).1)) (H' := [some (.blk (inQ9 i)), some (lQ9 L)]) rfl A rfl (eff_auto (X := ⟨_, true⟩) (out := .val _ _) hX rfl rfl) fun A => any_at (rs := [5]) (by kernel_rfl) (by decide) (List.forall_mem_cons.2 ⟨any_eff (x := .int .i64 ((prP armG L i lb).2)) (H' := [some (.blk (inQ9 i)), some (lQ9 L)]) rfl A rfl (eff_auto (X := ⟨_, true⟩) (out := .val _ _) hX rfl rfl) fun A => any_at (rs := [6]) (by kernel_rfl) (by decide) (List.forall_mem_cons.2 ⟨any_eff (x := .str ((prP armG L i lb).1)) (H' := [some (.blk (inQ9 i)), some (lQ9 L)]) rfl A rfl (eff_auto (X := ⟨_, true⟩) (out := .val _ _) hX rfl rfl) fun A => any_at (rs := [7]) (by kernel_rfl) (by decide) (List.forall_mem_cons.2 ⟨any_eff (x := .int .i64 ((prP armG L i lb).2)) (H' := [some (.blk (inQ9 i)), some (lQ9 L)]) rfl A rfl (eff_auto (X := ⟨_, true⟩) (out := .val _ _) hX rfl rfl) fun A => any_end (by kernel_rfl) (N hX 2 A rfl rfl fun A => RETN hX (B.trans A) rfl rfl rfl h0 rfl rfl rfl rfl (by rw [← arm_pr hR.1] <;> rfl) rfl),
         (List.forall_mem_nil _)⟩),
        (List.forall_mem_nil _)⟩),
       (List.forall_mem_nil _)⟩),
      (List.forall_mem_cons.2 ⟨any_eff (x := .int .i64 ((prP armG L i lb).2)) (H' := [some (.blk (inQ9 i)), some (lQ9 L)]) rfl A rfl (eff_auto (X := ⟨_, true⟩) (out := .val _ _) hX rfl rfl) fun A => any_at (rs := [4]) (by kernel_rfl) (by decide) (List.forall_mem_cons.2 ⟨any_eff (x := .str ((prP armG L i lb).1)) (H' := [some (.blk (inQ9 i)), some (lQ9 L)]) rfl A rfl (eff_auto (X := ⟨_, true⟩) (out := .val _ _) hX rfl rfl) fun A => any_at (rs := [6]) (by kernel_rfl) (by decide) (List.forall_mem_cons.2 ⟨any_eff (x := .str ((prP armG L i lb).1)) (H' := [some (.blk (inQ9 i)), some (lQ9 L)]) rfl A rfl (eff_auto (X := ⟨_, true⟩) (out := .val _ _) hX rfl rfl) fun A => any_at (rs := [7]) (by kernel_rfl) (by decide) (List.forall_mem_cons.2 ⟨any_eff (x := .int .i64 ((prP armG L i lb).2)) (H' := [some (.blk (inQ9 i)), some (lQ9 L)]) rfl A rfl (eff_auto (X := ⟨_, true⟩) (out := .val _ _) hX rfl rfl) fun A => any_end (by kernel_rfl) (N hX 2 A rfl rfl fun A => RETN hX (B.trans A) rfl rfl rfl h0 rfl rfl rfl rfl (by rw [← arm_pr hR.1] <;> rfl) rfl),
         (List.forall_mem_nil _)⟩),
        (List.forall_mem_nil _)⟩),
       (List.forall_mem_nil _)⟩),
      (List.forall_mem_nil _)⟩)⟩),
     (List.forall_mem_nil _)⟩),
    (List.forall_mem_nil _)⟩),
   (List.forall_mem_nil _)⟩)⟩),
  (List.forall_mem_cons.2 ⟨any_eff (x := .agg (inQ9 i)) (H' := [some (.blk (inQ9 i))]) rfl A rfl (eff_auto (X := ⟨_, true⟩) (out := .val _ _) hX rfl rfl) fun A => any_at (rs := [0, 2]) (by kernel_rfl) (by decide) (List.forall_mem_cons.2 ⟨any_agg (t := 6) (l := [.str [88, 48], .str [88, 49], .str [88, 50], .str [88, 51], .str [88, 52], .str [88, 53], .str [88, 54], .str [88, 55], .str [66], .str [72], .str [87], .str [], .str [35], .str [], .str [], .str []]) (F := fun (L : List Rw) zz => rwc (L.getD zz Rw.z)) (R := fun L b w w' => L.map tm = armT ∧ RowsIn w.heap.size L w' [b]) rfl alang_ A rfl rfl fun L b cp a1 w1 G1 hR hlo hkk A => have hl20 : L.length = 31 := (by have q := congrArg List.length hR.1; rw [List.length_map] at q; exact q.trans (by decide +kernel)); have hRI := rows_keys hR.2 hkk; have B0 := A; have A := A.base; have A := A.rowAs 1 L.length (fun zz => rwc (L.getD zz Rw.z)) rfl hl20 (fun _ _ => rfl) (fun z => ⟨_, rfl, rfl⟩); have A := A.say 6 (.agg [.str [88, 48], .str [88, 49], .str [88, 50], .str [88, 51], .str [88, 52], .str [88, 53], .str [88, 54], .str [88, 55], .str [66], .str [72], .str [87], .str [], .str [35], .str [], .str [], .str [], .sl 1 L.length 0]) rfl (by rw [hl20] <;> rfl); have A := A.freeze 1 rfl; have hTb := RowsIn.ok.now A hRI; have B := B0.trans A; have A := A.base; have hI2 : PrI os L _ _ := ⟨fun r hr => (hTb r hr).1, Gl.ok.now B hI⟩; any_at (rs := [2]) (by kernel_rfl) (by decide) (List.forall_mem_cons.2 ⟨any_eff (x := .str lb) (H' := [some (.blk (inQ9 i)), some (lQ9 L)]) rfl A rfl (eff_auto (X := ⟨_, true⟩) (out := .val _ _) hX rfl rfl) fun A => any_at (rs := [3]) (by kernel_rfl) (by decide) (List.forall_mem_cons.2 ⟨any_eff (x := .tup [.str ((prP armG L i lb).1), .int .i64 ((prP armG L i lb).2)]) (H' := [some (.blk (inQ9 i)), some (lQ9 L)]) rfl A rfl (callIE [1] PrI.ok hI2 (lprint_ armG L 0 i lb os hM hT hE (hp L hR.1)) rfl rfl rfl rfl rfl rfl rfl) fun A => any_at (rs := [4, 5]) (by kernel_rfl) (by decide) (List.forall_mem_cons.2 ⟨any_eff (x := .str ((prP armG L i lb).1)) (H' := [some (.blk (inQ9 i)), some (lQ9 L)]) rfl A rfl (eff_auto (X := ⟨_, true⟩) (out := .val _ _) hX rfl rfl) fun A => any_at (rs := [5]) (by kernel_rfl) (by decide) (List.forall_mem_cons.2 ⟨any_eff (x := .int .i64 ((prP armG L i lb).2)) (H' := [some (.blk (inQ9 i)), some (lQ9 L)]) rfl A rfl (eff_auto (X := ⟨_, true⟩) (out := .val _ _) hX rfl rfl) fun A => any_at (rs := [6]) (by kernel_rfl) (by decide) (List.forall_mem_cons.2 ⟨any_eff (x := .str ((prP armG L i lb).1)) (H' := [some (.blk (inQ9 i)), some (lQ9 L)]) rfl A rfl (eff_auto (X := ⟨_, true⟩) (out := .val _ _) hX rfl rfl) fun A => any_at (rs := [7]) (by kernel_rfl) (by decide) (List.forall_mem_cons.2 ⟨any_eff (x := .int .i64 ((prP armG L i lb).2)) (H' := [some (.blk (inQ9 i)), some (lQ9 L)]) rfl A rfl (eff_auto (X := ⟨_, true⟩) (out := .val _ _) hX rfl rfl) fun A => any_end (by kernel_rfl) (N hX 2 A rfl rfl fun A => RETN hX (B.trans A) rfl rfl rfl h0 rfl rfl rfl rfl (by rw [← arm_pr hR.1] <;> rfl) rfl),
         (List.forall_mem_nil _)⟩),
        (List.forall_mem_nil _)⟩),
       (List.forall_mem_nil _)⟩),
      (List.forall_mem_cons.2 ⟨any_eff (x := .int .i64 ((prP armG L i lb).2)) (H' := [some (.blk (inQ9 i)), some (lQ9 L)]) rfl A rfl (eff_auto (X := ⟨_, true⟩) (out := .val _ _) hX rfl rfl) fun A => any_at (rs := [4]) (by kernel_rfl) (by decide) (List.forall_mem_cons.2 ⟨any_eff (x := .str ((prP armG L i lb).1)) (H' := [some (.blk (inQ9 i)), some (lQ9 L)]) rfl A rfl (eff_auto (X := ⟨_, true⟩) (out := .val _ _) hX rfl rfl) fun A => any_at (rs := [6]) (by kernel_rfl) (by decide) (List.forall_mem_cons.2 ⟨any_eff (x := .str ((prP armG L i lb).1)) (H' := [some (.blk (inQ9 i)), some (lQ9 L)]) rfl A rfl (eff_auto (X := ⟨_, true⟩) (out := .val _ _) hX rfl rfl) fun A => any_at (rs := [7]) (by kernel_rfl) (by decide) (List.forall_mem_cons.2 ⟨any_eff (x := .int .i64 ((prP armG L i lb).2)) (H' := [some (.blk (inQ9 i)), some (lQ9 L)]) rfl A rfl (eff_auto (X := ⟨_, true⟩) (out := .val _ _) hX rfl rfl) fun A => any_end (by kernel_rfl) (N hX 2 A rfl rfl fun A => RETN hX (B.trans A) rfl rfl rfl h0 rfl rfl rfl rfl (by rw [← arm_pr hR.1] <;> rfl) rfl),
         (List.forall_mem_nil _)⟩),
        (List.forall_mem_nil _)⟩),
       (List.forall_mem_nil _)⟩),
      (List.forall_mem_nil _)⟩)⟩),
     (List.forall_mem_nil _)⟩),
    (List.forall_mem_nil _)⟩),
   (List.forall_mem_cons.2 ⟨any_eff (x := .str lb) (H' := [some (.blk (inQ9 i))]) rfl A rfl (eff_auto (X := ⟨_, true⟩) (out := .val _ _) hX rfl rfl) fun A => any_at (rs := [0]) (by kernel_rfl) (by decide) (List.forall_mem_cons.2 ⟨any_agg (t := 6) (l := [.str [88, 48], .str [88, 49], .str [88, 50], .str [88, 51], .str [88, 52], .str [88, 53], .str [88, 54], .str [88, 55], .str [66], .str [72], .str [87], .str [], .str [35], .str [], .str [], .str []]) (F := fun (L : List Rw) zz => rwc (L.getD zz Rw.z)) (R := fun L b w w' => L.map tm = armT ∧ RowsIn w.heap.size L w' [b]) rfl alang_ A rfl rfl fun L b cp a1 w1 G1 hR hlo hkk A => have hl20 : L.length = 31 := (by have q := congrArg List.length hR.1; rw [List.length_map] at q; exact q.trans (by decide +kernel)); have hRI := rows_keys hR.2 hkk; have B0 := A; have A := A.base; have A := A.rowAs 1 L.length (fun zz => rwc (L.getD zz Rw.z)) rfl hl20 (fun _ _ => rfl) (fun z => ⟨_, rfl, rfl⟩); have A := A.say 6 (.agg [.str [88, 48], .str [88, 49], .str [88, 50], .str [88, 51], .str [88, 52], .str [88, 53], .str [88, 54], .str [88, 55], .str [66], .str [72], .str [87], .str [], .str [35], .str [], .str [], .str [], .sl 1 L.length 0]) rfl (by rw [hl20] <;> rfl); have A := A.freeze 1 rfl; have hTb := RowsIn.ok.now A hRI; have B := B0.trans A; have A := A.base; have hI2 : PrI os L _ _ := ⟨fun r hr => (hTb r hr).1, Gl.ok.now B hI⟩; any_at (rs := [3]) (by kernel_rfl) (by decide) (List.forall_mem_cons.2 ⟨any_eff (x := .tup [.str ((prP armG L i lb).1), .int .i64 ((prP armG L i lb).2)]) (H' := [some (.blk (inQ9 i)), some (lQ9 L)]) rfl A rfl (callIE [1] PrI.ok hI2 (lprint_ armG L 0 i lb os hM hT hE (hp L hR.1)) rfl rfl rfl rfl rfl rfl rfl) fun A => any_at (rs := [4, 5]) (by kernel_rfl) (by decide) (List.forall_mem_cons.2 ⟨any_eff (x := .str ((prP armG L i lb).1)) (H' := [some (.blk (inQ9 i)), some (lQ9 L)]) rfl A rfl (eff_auto (X := ⟨_, true⟩) (out := .val _ _) hX rfl rfl) fun A => any_at (rs := [5]) (by kernel_rfl) (by decide) (List.forall_mem_cons.2 ⟨any_eff (x := .int .i64 ((prP armG L i lb).2)) (H' := [some (.blk (inQ9 i)), some (lQ9 L)]) rfl A rfl (eff_auto (X := ⟨_, true⟩) (out := .val _ _) hX rfl rfl) fun A => any_at (rs := [6]) (by kernel_rfl) (by decide) (List.forall_mem_cons.2 ⟨any_eff (x := .str ((prP armG L i lb).1)) (H' := [some (.blk (inQ9 i)), some (lQ9 L)]) rfl A rfl (eff_auto (X := ⟨_, true⟩) (out := .val _ _) hX rfl rfl) fun A => any_at (rs := [7]) (by kernel_rfl) (by decide) (List.forall_mem_cons.2 ⟨any_eff (x := .int .i64 ((prP armG L i lb).2)) (H' := [some (.blk (inQ9 i)), some (lQ9 L)]) rfl A rfl (eff_auto (X := ⟨_, true⟩) (out := .val _ _) hX rfl rfl) fun A => any_end (by kernel_rfl) (N hX 2 A rfl rfl fun A => RETN hX (B.trans A) rfl rfl rfl h0 rfl rfl rfl rfl (by rw [← arm_pr hR.1] <;> rfl) rfl),
         (List.forall_mem_nil _)⟩),
        (List.forall_mem_nil _)⟩),
       (List.forall_mem_nil _)⟩),
      (List.forall_mem_cons.2 ⟨any_eff (x := .int .i64 ((prP armG L i lb).2)) (H' := [some (.blk (inQ9 i)), some (lQ9 L)]) rfl A rfl (eff_auto (X := ⟨_, true⟩) (out := .val _ _) hX rfl rfl) fun A => any_at (rs := [4]) (by kernel_rfl) (by decide) (List.forall_mem_cons.2 ⟨any_eff (x := .str ((prP armG L i lb).1)) (H' := [some (.blk (inQ9 i)), some (lQ9 L)]) rfl A rfl (eff_auto (X := ⟨_, true⟩) (out := .val _ _) hX rfl rfl) fun A => any_at (rs := [6]) (by kernel_rfl) (by decide) (List.forall_mem_cons.2 ⟨any_eff (x := .str ((prP armG L i lb).1)) (H' := [some (.blk (inQ9 i)), some (lQ9 L)]) rfl A rfl (eff_auto (X := ⟨_, true⟩) (out := .val _ _) hX rfl rfl) fun A => any_at (rs := [7]) (by kernel_rfl) (by decide) (List.forall_mem_cons.2 ⟨any_eff (x := .int .i64 ((prP armG L i lb).2)) (H' := [some (.blk (inQ9 i)), some (lQ9 L)]) rfl A rfl (eff_auto (X := ⟨_, true⟩) (out := .val _ _) hX rfl rfl) fun A => any_end (by kernel_rfl) (N hX 2 A rfl rfl fun A => RETN hX (B.trans A) rfl rfl rfl h0 rfl rfl rfl rfl (by rw [← arm_pr hR.1] <;> rfl) rfl),
         (List.forall_mem_nil _)⟩),
        (List.forall_mem_nil _)⟩),
       (List.forall_mem_nil _)⟩),
      (List.forall_mem_nil _)⟩)⟩),
     (List.forall_mem_nil _)⟩),
    (List.forall_mem_nil _)⟩),
   (List.forall_mem_nil _)⟩)⟩),
  (List.forall_mem_cons.2 ⟨any_eff (x := .str lb) (H' := [some (.blk (inQ9 i))]) rfl A rfl (eff_auto (X := ⟨_, true⟩) (out := .val _ _) hX rfl rfl) fun A => any_at (rs := [0, 1]) (by kernel_rfl) (by decide) (List.forall_mem_cons.2 ⟨any_agg (t := 6) (l := [.str [88, 48], .str [88, 49], .str [88, 50], .str [88, 51], .str [88, 52], .str [88, 53], .str [88, 54], .str [88, 55], .str [66], .str [72], .str [87], .str [], .str [35], .str [], .str [], .str []]) (F := fun (L : List Rw) zz => rwc (L.getD zz Rw.z)) (R := fun L b w w' => L.map tm = armT ∧ RowsIn w.heap.size L w' [b]) rfl alang_ A rfl rfl fun L b cp a1 w1 G1 hR hlo hkk A => have hl20 : L.length = 31 := (by have q := congrArg List.length hR.1; rw [List.length_map] at q; exact q.trans (by decide +kernel)); have hRI := rows_keys hR.2 hkk; have B0 := A; have A := A.base; have A := A.rowAs 1 L.length (fun zz => rwc (L.getD zz Rw.z)) rfl hl20 (fun _ _ => rfl) (fun z => ⟨_, rfl, rfl⟩); have A := A.say 6 (.agg [.str [88, 48], .str [88, 49], .str [88, 50], .str [88, 51], .str [88, 52], .str [88, 53], .str [88, 54], .str [88, 55], .str [66], .str [72], .str [87], .str [], .str [35], .str [], .str [], .str [], .sl 1 L.length 0]) rfl (by rw [hl20] <;> rfl); have A := A.freeze 1 rfl; have hTb := RowsIn.ok.now A hRI; have B := B0.trans A; have A := A.base; have hI2 : PrI os L _ _ := ⟨fun r hr => (hTb r hr).1, Gl.ok.now B hI⟩; any_at (rs := [1]) (by kernel_rfl) (by decide) (List.forall_mem_cons.2 ⟨any_eff (x := .agg (inQ9 i)) (H' := [some (.blk (inQ9 i)), some (lQ9 L)]) rfl A rfl (eff_auto (X := ⟨_, true⟩) (out := .val _ _) hX rfl rfl) fun A => any_at (rs := [3]) (by kernel_rfl) (by decide) (List.forall_mem_cons.2 ⟨any_eff (x := .tup [.str ((prP armG L i lb).1), .int .i64 ((prP armG L i lb).2)]) (H' := [some (.blk (inQ9 i)), some (lQ9 L)]) rfl A rfl (callIE [1] PrI.ok hI2 (lprint_ armG L 0 i lb os hM hT hE (hp L hR.1)) rfl rfl rfl rfl rfl rfl rfl) fun A => any_at (rs := [4, 5]) (by kernel_rfl) (by decide) (List.forall_mem_cons.2 ⟨any_eff (x := .str ((prP armG L i lb).1)) (H' := [some (.blk (inQ9 i)), some (lQ9 L)]) rfl A rfl (eff_auto (X := ⟨_, true⟩) (out := .val _ _) hX rfl rfl) fun A => any_at (rs := [5]) (by kernel_rfl) (by decide) (List.forall_mem_cons.2 ⟨any_eff (x := .int .i64 ((prP armG L i lb).2)) (H' := [some (.blk (inQ9 i)), some (lQ9 L)]) rfl A rfl (eff_auto (X := ⟨_, true⟩) (out := .val _ _) hX rfl rfl) fun A => any_at (rs := [6]) (by kernel_rfl) (by decide) (List.forall_mem_cons.2 ⟨any_eff (x := .str ((prP armG L i lb).1)) (H' := [some (.blk (inQ9 i)), some (lQ9 L)]) rfl A rfl (eff_auto (X := ⟨_, true⟩) (out := .val _ _) hX rfl rfl) fun A => any_at (rs := [7]) (by kernel_rfl) (by decide) (List.forall_mem_cons.2 ⟨any_eff (x := .int .i64 ((prP armG L i lb).2)) (H' := [some (.blk (inQ9 i)), some (lQ9 L)]) rfl A rfl (eff_auto (X := ⟨_, true⟩) (out := .val _ _) hX rfl rfl) fun A => any_end (by kernel_rfl) (N hX 2 A rfl rfl fun A => RETN hX (B.trans A) rfl rfl rfl h0 rfl rfl rfl rfl (by rw [← arm_pr hR.1] <;> rfl) rfl),
         (List.forall_mem_nil _)⟩),
        (List.forall_mem_nil _)⟩),
       (List.forall_mem_nil _)⟩),
      (List.forall_mem_cons.2 ⟨any_eff (x := .int .i64 ((prP armG L i lb).2)) (H' := [some (.blk (inQ9 i)), some (lQ9 L)]) rfl A rfl (eff_auto (X := ⟨_, true⟩) (out := .val _ _) hX rfl rfl) fun A => any_at (rs := [4]) (by kernel_rfl) (by decide) (List.forall_mem_cons.2 ⟨any_eff (x := .str ((prP armG L i lb).1)) (H' := [some (.blk (inQ9 i)), some (lQ9 L)]) rfl A rfl (eff_auto (X := ⟨_, true⟩) (out := .val _ _) hX rfl rfl) fun A => any_at (rs := [6]) (by kernel_rfl) (by decide) (List.forall_mem_cons.2 ⟨any_eff (x := .str ((prP armG L i lb).1)) (H' := [some (.blk (inQ9 i)), some (lQ9 L)]) rfl A rfl (eff_auto (X := ⟨_, true⟩) (out := .val _ _) hX rfl rfl) fun A => any_at (rs := [7]) (by kernel_rfl) (by decide) (List.forall_mem_cons.2 ⟨any_eff (x := .int .i64 ((prP armG L i lb).2)) (H' := [some (.blk (inQ9 i)), some (lQ9 L)]) rfl A rfl (eff_auto (X := ⟨_, true⟩) (out := .val _ _) hX rfl rfl) fun A => any_end (by kernel_rfl) (N hX 2 A rfl rfl fun A => RETN hX (B.trans A) rfl rfl rfl h0 rfl rfl rfl rfl (by rw [← arm_pr hR.1] <;> rfl) rfl),
         (List.forall_mem_nil _)⟩),
        (List.forall_mem_nil _)⟩),
       (List.forall_mem_nil _)⟩),
      (List.forall_mem_nil _)⟩)⟩),
     (List.forall_mem_nil _)⟩),
    (List.forall_mem_nil _)⟩),
   (List.forall_mem_cons.2 ⟨any_eff (x := .agg (inQ9 i)) (H' := [some (.blk (inQ9 i))]) rfl A rfl (eff_auto (X := ⟨_, true⟩) (out := .val _ _) hX rfl rfl) fun A => any_at (rs := [0]) (by kernel_rfl) (by decide) (List.forall_mem_cons.2 ⟨any_agg (t := 6) (l := [.str [88, 48], .str [88, 49], .str [88, 50], .str [88, 51], .str [88, 52], .str [88, 53], .str [88, 54], .str [88, 55], .str [66], .str [72], .str [87], .str [], .str [35], .str [], .str [], .str []]) (F := fun (L : List Rw) zz => rwc (L.getD zz Rw.z)) (R := fun L b w w' => L.map tm = armT ∧ RowsIn w.heap.size L w' [b]) rfl alang_ A rfl rfl fun L b cp a1 w1 G1 hR hlo hkk A => have hl20 : L.length = 31 := (by have q := congrArg List.length hR.1; rw [List.length_map] at q; exact q.trans (by decide +kernel)); have hRI := rows_keys hR.2 hkk; have B0 := A; have A := A.base; have A := A.rowAs 1 L.length (fun zz => rwc (L.getD zz Rw.z)) rfl hl20 (fun _ _ => rfl) (fun z => ⟨_, rfl, rfl⟩); have A := A.say 6 (.agg [.str [88, 48], .str [88, 49], .str [88, 50], .str [88, 51], .str [88, 52], .str [88, 53], .str [88, 54], .str [88, 55], .str [66], .str [72], .str [87], .str [], .str [35], .str [], .str [], .str [], .sl 1 L.length 0]) rfl (by rw [hl20] <;> rfl); have A := A.freeze 1 rfl; have hTb := RowsIn.ok.now A hRI; have B := B0.trans A; have A := A.base; have hI2 : PrI os L _ _ := ⟨fun r hr => (hTb r hr).1, Gl.ok.now B hI⟩; any_at (rs := [3]) (by kernel_rfl) (by decide) (List.forall_mem_cons.2 ⟨any_eff (x := .tup [.str ((prP armG L i lb).1), .int .i64 ((prP armG L i lb).2)]) (H' := [some (.blk (inQ9 i)), some (lQ9 L)]) rfl A rfl (callIE [1] PrI.ok hI2 (lprint_ armG L 0 i lb os hM hT hE (hp L hR.1)) rfl rfl rfl rfl rfl rfl rfl) fun A => any_at (rs := [4, 5]) (by kernel_rfl) (by decide) (List.forall_mem_cons.2 ⟨any_eff (x := .str ((prP armG L i lb).1)) (H' := [some (.blk (inQ9 i)), some (lQ9 L)]) rfl A rfl (eff_auto (X := ⟨_, true⟩) (out := .val _ _) hX rfl rfl) fun A => any_at (rs := [5]) (by kernel_rfl) (by decide) (List.forall_mem_cons.2 ⟨any_eff (x := .int .i64 ((prP armG L i lb).2)) (H' := [some (.blk (inQ9 i)), some (lQ9 L)]) rfl A rfl (eff_auto (X := ⟨_, true⟩) (out := .val _ _) hX rfl rfl) fun A => any_at (rs := [6]) (by kernel_rfl) (by decide) (List.forall_mem_cons.2 ⟨any_eff (x := .str ((prP armG L i lb).1)) (H' := [some (.blk (inQ9 i)), some (lQ9 L)]) rfl A rfl (eff_auto (X := ⟨_, true⟩) (out := .val _ _) hX rfl rfl) fun A => any_at (rs := [7]) (by kernel_rfl) (by decide) (List.forall_mem_cons.2 ⟨any_eff (x := .int .i64 ((prP armG L i lb).2)) (H' := [some (.blk (inQ9 i)), some (lQ9 L)]) rfl A rfl (eff_auto (X := ⟨_, true⟩) (out := .val _ _) hX rfl rfl) fun A => any_end (by kernel_rfl) (N hX 2 A rfl rfl fun A => RETN hX (B.trans A) rfl rfl rfl h0 rfl rfl rfl rfl (by rw [← arm_pr hR.1] <;> rfl) rfl),
         (List.forall_mem_nil _)⟩),
        (List.forall_mem_nil _)⟩),
       (List.forall_mem_nil _)⟩),
      (List.forall_mem_cons.2 ⟨any_eff (x := .int .i64 ((prP armG L i lb).2)) (H' := [some (.blk (inQ9 i)), some (lQ9 L)]) rfl A rfl (eff_auto (X := ⟨_, true⟩) (out := .val _ _) hX rfl rfl) fun A => any_at (rs := [4]) (by kernel_rfl) (by decide) (List.forall_mem_cons.2 ⟨any_eff (x := .str ((prP armG L i lb).1)) (H' := [some (.blk (inQ9 i)), some (lQ9 L)]) rfl A rfl (eff_auto (X := ⟨_, true⟩) (out := .val _ _) hX rfl rfl) fun A => any_at (rs := [6]) (by kernel_rfl) (by decide) (List.forall_mem_cons.2 ⟨any_eff (x := .str ((prP armG L i lb).1)) (H' := [some (.blk (inQ9 i)), some (lQ9 L)]) rfl A rfl (eff_auto (X := ⟨_, true⟩) (out := .val _ _) hX rfl rfl) fun A => any_at (rs := [7]) (by kernel_rfl) (by decide) (List.forall_mem_cons.2 ⟨any_eff (x := .int .i64 ((prP armG L i lb).2)) (H' := [some (.blk (inQ9 i)), some (lQ9 L)]) rfl A rfl (eff_auto (X := ⟨_, true⟩) (out := .val _ _) hX rfl rfl) fun A => any_end (by kernel_rfl) (N hX 2 A rfl rfl fun A => RETN hX (B.trans A) rfl rfl rfl h0 rfl rfl rfl rfl (by rw [← arm_pr hR.1] <;> rfl) rfl),
         (List.forall_mem_nil _)⟩),
        (List.forall_mem_nil _)⟩),
       (List.forall_mem_nil _)⟩),
      (List.forall_mem_nil _)⟩)⟩),
     (List.forall_mem_nil _)⟩),
    (List.forall_mem_nil _)⟩),
   (List.forall_mem_nil _)⟩)⟩),
  (List.forall_mem_nil _)⟩)⟩)⟩)
end Go.Proofs.YtedlaclfhgneeabGreatDoor
namespace Go.Proofs.YtedlaclfhgneeabGreatDoor
open Go.RowKit
set_option linter.unusedVariables false
set_option linter.unusedSimpArgs false
def amO : Old.Lg := ⟨[88, 48], [88, 49], [88, 50], [88, 51], [88, 52], [88, 53], [88, 54], [88, 55], [66], [72], [87], [], [35], [], [], [], Old.nilV, armC.map toR⟩
end Go.Proofs.YtedlaclfhgneeabGreatDoor
namespace Go.Proofs.YtedlaclfhgneeabGreatDoor.Old
set_option linter.unusedSimpArgs false
open Go.RowKit
end Go.Proofs.YtedlaclfhgneeabGreatDoor.Old
namespace Go.Proofs.YtedlaclfhgneeabGreatDoor
set_option linter.unusedSimpArgs false
end Go.Proofs.YtedlaclfhgneeabGreatDoor
namespace Go.Proofs.YtedlaclfhgneeabGreatDoor
open Go.RowKit
set_option linter.unusedVariables false
set_option linter.unusedSimpArgs false
set_option maxRecDepth 100000
set_option maxHeartbeats 2000000
def toP (z : Ps) : Old.Ps := ⟨toO z.ins, z.lab, z.e, z.a, z.p⟩
def gO (g : Lg) (R : List Rw) : Old.Lg := ⟨g.r0, g.r1, g.r2, g.r3, g.r4, g.r5, g.r6, g.r7, g.l0, g.l1, g.l2, g.l3, g.im, g.f0, g.f1, g.f2, Old.nilV, R.map toR⟩
section
variable {ws : List Tk} {z : Ps} {g : Lg} {R L : List Rw} {m : List UInt8} {x : Int} {k : Nat}
theorem ref_o (hw : WsOK ws) : toP (z.wa (refA ws z.as x)) = Old.refP ws x (toP z) := by
  unfold refA refAt Old.refP
  have e1 : z.as.e = z.e := rfl
  have e2 : (toP z).e = z.e := rfl
  have e3 : (toP z).p = z.p := rfl
  have e4 : z.as.p = z.p := rfl
  rw [e1, e2, e3, e4, where_at hw]
  by_cases h : z.e = 0
  · rw [if_pos h, if_pos (beq_iff_eq.2 h)]
    by_cases hp : z.p < ws.length
    · rw [if_pos hp, decide_eq_true hp]; rfl
    · rw [if_neg hp, decide_eq_false hp]; rfl
  · rw [if_neg h, if_neg (fun e => h (eq_of_beq e))]; rfl
theorem go_p : goA z.as z.p = z.as := rfl
theorem mk_o (hw : WsOK ws) : toP (z.wa (mkA ws z.as m)) = Old.markP ws m (toP z) := by
  unfold mkA Old.markP
  have e4 : z.as.p = z.p := rfl
  have e3 : (toP z).p = z.p := rfl
  rw [e3, e4, reads_tk]
  cases hb : tkB ws z.p m with
  | true => rw [if_pos rfl, if_pos rfl, tkK_y hb]; rfl
  | false => rw [if_neg (by decide), if_neg (by decide), tkK_n hb, go_p]; exact ref_o hw
theorem kn_o (hw : WsOK ws) (ls : List (List UInt8)) : toP (z.wa (knA ws z.as ls)) = (Old.knownP ws ls (toP z)).1 ∧ knI ws z.as ls = (Old.knownP ws ls (toP z)).2 := by
  unfold knA knI Old.knownP
  have e4 : z.as.p = z.p := rfl
  have e3 : (toP z).p = z.p := rfl
  rw [e3, e4]
  by_cases hl : z.p < ws.length
  · rw [tk_get hl, idxS_L]
    simp only
    by_cases hk : (ws.getD z.p tok0).kind = 1
    · rw [if_pos hk, if_pos hk, if_pos (beq_iff_eq.2 hk)]
      by_cases hi : Old.idxL ls (ws.getD z.p tok0).text 0 < 0
      · rw [if_pos hi, if_pos hi, if_pos (decide_eq_true hi)]; exact ⟨ref_o hw, rfl⟩
      · rw [if_neg hi, if_neg hi, if_neg (by rw [decide_eq_false hi]; decide), nxK_y hl]; exact ⟨rfl, rfl⟩
    · rw [if_neg hk, if_neg hk, if_neg (fun e => hk (eq_of_beq e))]; exact ⟨ref_o hw, rfl⟩
  · rw [tk_non hl, tk_out (by omega)]
    exact ⟨ref_o hw, rfl⟩
theorem nb_o : Old.numP1 ws k = if nbB ws k = true then some (nbV ws k, nbK ws k) else none := by
  unfold Old.numP1 nbB nbV nbK
  by_cases hl : k < ws.length
  · have hm : mnB ws k = (((ws.getD k tok0).kind == 3) && ((ws.getD k tok0).text == [45])) := by unfold mnB; rw [decide_eq_true hl, Bool.true_and]
    have hn : nuB ws k = ((ws.getD k tok0).kind == 2) := by unfold nuB; rw [decide_eq_true hl, Bool.true_and]
    rw [tk_get hl]
    simp only
    by_cases h2 : ((ws.getD k tok0).kind == 2) = true
    · have h3 : mnB ws k = false := by rw [hm, eq_of_beq h2]; rfl
      rw [if_pos h2, h3, hn, h2]; rfl
    · rw [if_neg h2]
      have h2' : ((ws.getD k tok0).kind == 2) = false := by simpa using h2
      cases h3 : mnB ws k with
      | false =>
        rw [if_neg (by rw [show ((((ws.getD k tok0).kind == 3) && eqL (ws.getD k tok0).text [45])) = false from hm.symm.trans h3]; decide), hn, h2']; rfl
      | true =>
        rw [if_pos (show ((((ws.getD k tok0).kind == 3) && eqL (ws.getD k tok0).text [45])) = true from hm.symm.trans h3)]
        by_cases hl2 : k + 1 < ws.length
        · rw [tk_get hl2]
          simp only
          have hn2 : nuB ws (k + 1) = ((ws.getD (k + 1) tok0).kind == 2) := by unfold nuB; rw [decide_eq_true hl2, Bool.true_and]
          cases h4 : ((ws.getD (k + 1) tok0).kind == 2) with
          | true => rw [hn2, h4]; simp only [if_true]; rw [Int.zero_sub]
          | false => rw [hn2, h4]; rfl
        · rw [tk_non hl2]
          have hn2 : nuB ws (k + 1) = false := by unfold nuB; rw [decide_eq_false hl2]; rfl
          rw [hn2]; rfl
  · have hm : mnB ws k = false := by unfold mnB; rw [decide_eq_false hl]; rfl
    have hn : nuB ws k = false := by unfold nuB; rw [decide_eq_false hl]; rfl
    rw [tk_non hl, hm, hn]; rfl
theorem nbV_no (h : nbB ws k = false) : nbV ws k = 0 ∧ nbK ws k = k := by
  unfold nbB at h; unfold nbV nbK
  cases h3 : mnB ws k with
  | true =>
    simp only [h3, if_true] at h
    simp only [h, if_true, if_false, Bool.false_eq_true]
    exact ⟨by decide, trivial⟩
  | false =>
    simp only [h3, if_false, Bool.false_eq_true] at h
    simp [h]
theorem nbq_o : Old.nbO ws k = nbB ws k ∧ Old.nbV ws k = nbV ws k ∧ Old.nbQ ws k = nbK ws k := by
  unfold Old.nbO Old.nbV Old.nbQ
  rw [nb_o]
  cases h : nbB ws k with
  | true => exact ⟨rfl, rfl, rfl⟩
  | false => have := nbV_no h; exact ⟨rfl, this.1.symm, this.2.symm⟩
theorem num_o (hw : WsOK ws) : toP (z.wa (numA ws z.as)) = (Old.numP ws (toP z)).1 ∧ nbV ws z.p = (Old.numP ws (toP z)).2 := by
  unfold numA Old.numP
  have e4 : z.as.p = z.p := rfl
  have e3 : (toP z).p = z.p := rfl
  obtain ⟨n1, n2, n3⟩ := nbq_o (ws := ws) (k := z.p)
  rw [e3, e4, n1, n2, n3, reads_tk]
  cases h : nbB ws z.p with
  | true => rw [if_pos rfl, if_pos rfl]; exact ⟨rfl, rfl⟩
  | false =>
    have hv := nbV_no h
    rw [if_neg (by decide), if_neg (by decide), hv.1, hv.2]
    cases hb : tkB ws z.p [45] with
    | true =>
      rw [if_pos rfl, tkK_y hb]
      exact ⟨ref_o (z := ⟨z.ins, z.lab, z.e, z.a, z.p + 1⟩) hw, rfl⟩
    | false =>
      rw [if_neg (by decide), tkK_n hb, go_p]
      exact ⟨ref_o hw, rfl⟩
theorem imm_o2 (hw : WsOK ws) : toP (z.wa (immA g ws z.as)) = (Old.immP (gO g R) ws (toP z)).1 ∧ immV g ws z.as = (Old.immP (gO g R) ws (toP z)).2 := by
  unfold immA immV Old.immP
  have e1 : (gO g R).mrk = g.im := rfl
  rw [e1]
  by_cases h : g.im = []
  · rw [if_pos h, if_pos h, if_pos (Old.eqL_yes h)]; exact num_o hw
  · rw [if_neg h, if_neg h, if_neg (by rw [Old.eqL_no h]; decide), ← mk_o hw]
    exact num_o (z := z.wa (mkA ws z.as g.im)) hw
theorem ix_o (hw : WsOK ws) : toP (regI g ws z) = Old.idxP (gO g R) ws (toP z) := by
  obtain ⟨h1, h2⟩ := kn_o (z := z) hw (gO g R).regs
  unfold Old.idxP
  rw [← h1, ← h2]; rfl
theorem isn_o : Old.isNumP ws k = ((ws.getD k tok0).kind == 2) := by
  unfold Old.isNumP
  by_cases hl : k < ws.length
  · rw [tk_get hl]
  · rw [tk_non hl, tk_out (by omega)]; rfl
theorem m3_n (h : psB ws z = false) : m3 ws z = z := by unfold m3; unfold psB at h; rw [tkK_n h]
theorem off_o (hw : WsOK ws) : toP (if psB ws z = true then regI g ws (m3 ws z) else m3 ws z) = Old.offP (gO g R) ws (toP z) := by
  unfold Old.offP
  have e3 : (toP z).p = z.p := rfl
  rw [e3, reads_tk]
  cases h : psB ws z with
  | true =>
    have h' : tkB ws z.p [43] = true := h
    rw [if_pos rfl, if_pos h', ix_o (R := R) hw]
    unfold m3; rw [tkK_y h']; rfl
  | false =>
    have h' : tkB ws z.p [43] = false := h
    rw [if_neg (by decide), if_neg (by rw [h']; decide), m3_n h]
theorem numoff_o (hw : WsOK ws) : toP (if nuQ ws z = true then (if psB ws (offI ws z) = true then regI g ws (m3 ws (offI ws z)) else m3 ws (offI ws z)) else regI g ws z) = Old.numOff (gO g R) ws (toP z) := by
  unfold Old.numOff
  have e3 : (toP z).p = z.p := rfl
  rw [e3, isn_o]
  unfold nuQ
  cases h : ((ws.getD z.p tok0).kind == 2) with
  | true =>
    rw [if_pos rfl, if_pos rfl, off_o (R := R) hw]
    obtain ⟨n1, n2, n3⟩ := nbq_o (ws := ws) (k := z.p)
    rw [n2, n3]; rfl
  | false => rw [if_neg (by decide), if_neg (by decide)]; exact ix_o hw
theorem plus_o (hw : WsOK ws) : toP (if psB ws z = true then (if nuQ ws (m3 ws z) = true then (if psB ws (offI ws (m3 ws z)) = true then regI g ws (m3 ws (offI ws (m3 ws z))) else m3 ws (offI ws (m3 ws z))) else regI g ws (m3 ws z)) else m3 ws z) = Old.plusP (gO g R) ws (toP z) := by
  unfold Old.plusP
  have e3 : (toP z).p = z.p := rfl
  rw [e3, reads_tk]
  cases h : psB ws z with
  | true =>
    have h' : tkB ws z.p [43] = true := h
    rw [if_pos rfl, if_pos h', numoff_o (R := R) hw]
    have : toP (m3 ws z) = Old.atP (toP z) (z.p + 1) := by unfold m3; rw [tkK_y h']; rfl
    rw [this]
  | false =>
    have h' : tkB ws z.p [43] = false := h
    rw [if_neg (by decide), if_neg (by rw [h']; decide), m3_n h]
theorem mem0_o (hw : WsOK ws) : toP (m2 ws (m1 ws z)) = Old.mem0P ws (toP z) := by
  have h0 : toP (m1 ws z) = Old.markP ws [91] (toP z) := mk_o hw
  obtain ⟨h1, h2⟩ := kn_o (z := m1 ws z) hw Old.locsX
  unfold Old.mem0P
  rw [← h0, ← h1, ← h2]; rfl
theorem memo_o (hw : WsOK ws) : toP (memS g ws z) = Old.memP (gO g R) ws (toP z) := by
  unfold Old.memP
  rw [← mem0_o hw, ← plus_o hw]
  exact mk_o hw
theorem lab_o : toP ⟨z.ins, nmT ws z.p, z.e, z.a, nmK ws z.p⟩ = Old.labP ws (toP z) := by
  unfold Old.labP nmT nmK nmB
  have e3 : (toP z).p = z.p := rfl
  rw [e3]
  by_cases hl : z.p < ws.length
  · rw [tk_get hl, decide_eq_true hl, Bool.true_and]
    simp only
    cases h : ((ws.getD z.p tok0).kind == 1) <;> rfl
  · rw [tk_non hl, decide_eq_false hl]; rfl
theorem pt_o (hw : WsOK ws) (p : Int) (h10 : p ≠ 10) : toP (ptS g ws p z) = Old.partP (gO g R) ws p (toP z) := by
  have kr := kn_o (z := z) hw (gO g R).regs
  have kf := kn_o (z := z) hw (gO g R).fens
  have ki := imm_o2 (g := g) (R := R) (z := z) hw
  unfold ptS Old.partP Old.fenP
  simp only [beq_iff_eq]
  rw [← kr.1, ← kr.2, ← kf.1, ← kf.2, ← ki.1, ← ki.2]
  by_cases h1 : p = 1
  · rw [if_pos h1, if_pos h1]; rfl
  rw [if_neg h1, if_neg h1]
  by_cases h4 : p = 4
  · rw [if_pos h4, if_pos h4]; rfl
  rw [if_neg h4, if_neg h4]
  by_cases h2 : p = 2
  · rw [if_pos h2, if_pos h2]; rfl
  rw [if_neg h2, if_neg h2]
  by_cases h3 : p = 3
  · rw [if_pos h3, if_pos h3]; rfl
  rw [if_neg h3, if_neg h3]
  by_cases h5 : p = 5
  · rw [if_pos h5, if_pos h5]; rfl
  rw [if_neg h5, if_neg h5]
  by_cases h6 : p = 6
  · rw [if_pos h6, if_pos h6]; exact memo_o hw
  rw [if_neg h6, if_neg h6]
  by_cases h7 : p = 7
  · rw [if_pos h7, if_pos h7]; exact lab_o
  rw [if_neg h7, if_neg h7]
  by_cases h8 : p = 8
  · rw [if_pos h8, if_pos h8]; rfl
  rw [if_neg h8, if_neg h8]
  by_cases h9 : p = 9
  · rw [if_pos h9, if_pos h9]; rfl
  rw [if_neg h9, if_neg h9, if_neg h10]
theorem idxS_lt {ls : List (List UInt8)} {q : List UInt8} (h : ¬ idxS ls q < 0) : (idxS ls q).toNat < ls.length := by
  unfold idxS at h ⊢
  cases hf : (List.range ls.length).find? (fun j => q == ls.getD j []) with
  | none => rw [hf] at h; exact absurd (by decide) h
  | some j => exact List.mem_range.1 (List.mem_of_find?_eq_some hf)
theorem size_o (r : Rw) (q : List UInt8) : szP g r.nm q = Old.sizeP (gO g R) (toR r) q := by
  unfold szP Old.sizeP
  have e1 : (toR r).name = r.nm := rfl
  have e2 : Old.sizedN (gO g R) (toR r) = nms g r.nm := rfl
  rw [e1, e2, ← idxS_L]
  cases (Lib.cut r.nm [42]).2.2 with
  | false => rfl
  | true =>
    rw [if_pos rfl, if_pos rfl]
    by_cases h : idxS (nms g r.nm) q < 0
    · rw [if_pos h, if_pos (decide_eq_true h)]
    · rw [if_neg h, if_neg (by rw [decide_eq_false h]; decide)]
      have hl := idxS_lt h
      have e : idxS (nms g r.nm) q = (((idxS (nms g r.nm) q).toNat : Nat) : Int) := by omega
      rw [e, szI_k _ (show _ < 4 from hl)]
theorem fold_n (q : List UInt8) (S : Old.Ps) : ∀ (l : List Rw) (c : Int) (acc : List Rw), (l.map toR).foldl (Old.nStep (gO g R) q) (Old.setSize S c, acc.map toR) = (Old.setSize S (l.foldl (nSt g q) (c, acc)).1, (l.foldl (nSt g q) (c, acc)).2.map toR)
  | [], c, acc => rfl
  | r :: l, c, acc => by
    rw [List.map_cons, List.foldl_cons, List.foldl_cons]
    have : Old.nStep (gO g R) q (Old.setSize S c, acc.map toR) (toR r) = (Old.setSize S (nSt g q (c, acc) r).1, (nSt g q (c, acc) r).2.map toR) := by
      unfold Old.nStep nSt
      rw [← size_o]
      cases (szP g r.nm q).2 with
      | false => rfl
      | true => rw [if_pos rfl, if_pos rfl, List.map_append]; rfl
    rw [this]
    exact fold_n q S l _ _
theorem named_o (hw : WsOK ws) : toP (naS g ws R z) = (Old.namedP (gO g R) ws (toP z)).1 ∧ (naR g ws R z).map toR = (Old.namedP (gO g R) ws (toP z)).2 := by
  unfold naS naR Old.namedP
  have e3 : (toP z).p = z.p := rfl
  rw [e3]
  by_cases hl : z.p < ws.length
  · rw [tk_get hl]
    simp only
    by_cases hk : (ws.getD z.p tok0).kind = 1
    · rw [if_pos hk, if_pos hk, if_pos (beq_iff_eq.2 hk)]
      have hf := fold_n (g := g) (R := R) (ws.getD z.p tok0).text (toP z) R z.ins.sz []
      have e0 : ((Old.setSize (toP z) z.ins.sz, ([] : List Rw).map toR) : Old.Ps × List Old.Rw) = (toP z, []) := rfl
      rw [e0] at hf
      have e5 : (gO g R).rows = R.map toR := rfl
      rw [e5, hf]
      have e6 : R.foldl (nSt g (ws.getD z.p tok0).text) (z.ins.sz, []) = naZ g ws R z := by unfold naZ zK; rw [List.take_length]
      rw [e6]
      refine ⟨?_, rfl⟩
      unfold Old.noRow
      simp only [List.length_map]
      by_cases h0 : (naZ g ws R z).2.length = 0
      · rw [if_pos h0, if_pos (by rw [h0]; rfl)]
        have hr := ref_o (x := 21) (z := (⟨{ z.ins with sz := (naZ g ws R z).1 }, z.lab, z.e, z.a, z.p⟩ : Ps)) hw
        have e7 : Old.setSize (toP z) (naZ g ws R z).1 = toP ⟨{ z.ins with sz := (naZ g ws R z).1 }, z.lab, z.e, z.a, z.p⟩ := rfl
        rw [e7, ← hr]
        have hp : (refA ws z.as 21).p = z.p := refA_p
        rw [hp, nxK_y hl]
        have hp2 : (refA ws (⟨{ z.ins with sz := (naZ g ws R z).1 }, z.lab, z.e, z.a, z.p⟩ : Ps).as 21) = refA ws z.as 21 := rfl
        unfold Old.nextP Old.atP
        rw [hp2]
        unfold toP Ps.wa
        simp only [hp]
      · rw [if_neg h0, if_neg (by intro e; exact h0 (by have := eq_of_beq e; omega)), nxK_y hl]; rfl
    · rw [if_neg hk, if_neg hk, if_neg (fun e => hk (eq_of_beq e))]; exact ⟨ref_o hw, rfl⟩
  · rw [tk_non hl, tk_out (by omega)]; exact ⟨ref_o hw, rfl⟩
theorem word_o : Old.wordAt ws k = ws.getD k tok0 := by
  unfold Old.wordAt; rw [List.getD_eq_getElem?_getD]; rfl
theorem beg_o (r : Rw) (p : Int) (t : Tk) (h10 : p ≠ 10) : begQ g r p t = Old.beginsB (gO g R) p t := by
  unfold begQ Old.beginsB begI Old.beginsImmB Old.isMarkB
  have e1 : (gO g R).mrk = g.im := rfl
  rw [e1]
  simp only [beq_iff_eq]
  by_cases h5 : p = 5
  · rw [if_pos h5, if_pos h5]
    by_cases hi : g.im = []
    · rw [if_pos hi, if_pos (Old.eqL_yes hi)]; rfl
    · rw [if_neg hi, if_neg (by rw [Old.eqL_no hi]; decide)]; rfl
  · rw [if_neg h5, if_neg h5]
    by_cases h6 : p = 6
    · rw [if_pos h6, if_pos h6]; rfl
    · rw [if_neg h6, if_neg h6, if_neg h10]
theorem left_o (t : Tk) : ∀ (Q : List Rw), (∀ r ∈ Q, k < r.ps.length ∧ ∀ p ∈ r.ps, p ≠ 10) → (Q.map toR).filter (fun r => !Old.strikes (gO g R) k t r) = (lft g k t Q).map toR
  | [], _ => rfl
  | r :: Q, h => by
    obtain ⟨hk, h10⟩ := h r List.mem_cons_self
    have ih := left_o t Q (fun x hx => h x (List.mem_cons_of_mem _ hx))
    have e : Old.strikes (gO g R) k t (toR r) = stk g k t r := by
      unfold Old.strikes stk
      have e1 : (toR r).parts = r.ps := rfl
      have e2 : r.ps[k]? = some (r.ps.getD k 0) := by rw [List.getD_eq_getElem?_getD, List.getElem?_eq_getElem hk]; rfl
      rw [e1, e2]
      simp only
      rw [beg_o (R := R) r _ t (h10 _ (by rw [List.getD_eq_getElem?_getD, List.getElem?_eq_getElem hk]; exact List.getElem_mem hk))]
    unfold lft at ih ⊢
    rw [List.map_cons, List.filter_cons, List.filter_cons, e, ih]
    cases stk g k t r <;> rfl
theorem fst_no {f : Rw → Bool} {Q : List Rw} (h : ∀ r ∈ Q, f r = false) : fstX f Q = -1 := by
  unfold fstX
  have : (List.range Q.length).find? (fun j => f (Q.getD j Rw.z)) = none := by
    rw [List.find?_eq_none]
    intro j hj
    have hl := List.mem_range.1 hj
    rw [h _ (by rw [List.getD_eq_getElem?_getD, List.getElem?_eq_getElem hl]; exact List.getElem_mem hl)]
    decide
  rw [this]
theorem comma_o (hw : WsOK ws) : toP (n1 ws k z) = Old.commaP ws k (toP z) := by
  unfold n1 Old.commaP
  by_cases h : (k : Int) > 0
  · rw [if_pos h, if_pos (decide_eq_true h)]; exact mk_o hw
  · rw [if_neg h, if_neg (by rw [decide_eq_false h]; decide)]
theorem inst_o (hw : WsOK ws) {N0 : Nat} : ∀ (f F k : Nat) (Q : List Rw) (z : Ps), (∀ r ∈ Q, r.ps.length = N0 ∧ ∀ p ∈ r.ps, p ≠ 10) → N0 < f + k → f ≤ F → Old.instL (gO g R) ws F k (Q.map toR) (toP z) = (toP (inst g ws f k Q z).1, (inst g ws f k Q z).2.map toR)
  | f, F, k, [], z, h, hn, hF => by
    rw [List.map_nil, Old.inst_nil]
    have : inst g ws f k [] z = (z, []) := by cases f <;> rfl
    rw [this]; rfl
  | 0, F, k, r :: Q, z, h, hn, hF => by
    have hr := (h r List.mem_cons_self).1
    have e : inst g ws 0 k (r :: Q) z = (z, r :: Q) := rfl
    rw [e, List.map_cons]
    cases F with
    | zero => rfl
    | succ F =>
      unfold Old.instL
      simp only
      rw [if_neg]
      have : (toR r).parts.length = N0 := hr
      rw [this, decide_eq_false (by omega)]; decide
  | f + 1, F, k, r :: Q, z, h, hn, hF => by
    obtain ⟨F, rfl⟩ : ∃ F', F = F' + 1 := ⟨F - 1, by omega⟩
    have hr := (h r List.mem_cons_self).1
    have hp : (toR r).parts.length = N0 := hr
    rw [List.map_cons]
    unfold Old.instL inst
    simp only
    rw [hp]
    have hg : goB (r :: Q) k = decide ((k : Int) < (N0 : Int)) := by
      unfold goB
      have : (((r :: Q).getD (0 : Int).toNat Rw.z).ps.length) = N0 := hr
      rw [this, decide_eq_true (by simp only [List.length_cons]; omega), Bool.true_and]
    rw [hg]
    by_cases hk : (k : Int) < (N0 : Int)
    · rw [if_pos (decide_eq_true hk), if_pos (decide_eq_true hk)]
      have hall : ∀ x ∈ r :: Q, k < x.ps.length ∧ ∀ p ∈ x.ps, p ≠ 10 := fun x hx => ⟨by rw [(h x hx).1]; omega, (h x hx).2⟩
      have hL : Old.leftR (gO g R) ws k (toR r :: Q.map toR) (Old.commaP ws k (toP z)) = (nxR g ws k (r :: Q) z).map toR := by
        rw [← comma_o hw]
        unfold Old.leftR nxR
        rw [word_o]
        exact left_o _ (r :: Q) hall
      have hB : Old.begP (gO g R) ws k (toR r :: Q.map toR) (Old.commaP ws k (toP z)) = toP (beS g ws k (r :: Q) (n1 ws k z)) := by
        unfold Old.begP beS
        rw [hL, List.length_map, ← comma_o hw]
        have hm : mfV k (ws.getD (n1 ws k z).p tok0) (r :: Q) = 22 := by
          unfold mfV
          rw [fst_no (fun x hx => by
            unfold ask10
            obtain ⟨hx1, hx2⟩ := hall x hx
            exact beq_eq_false_iff_ne.2 (hx2 _ (by rw [List.getD_eq_getElem?_getD, List.getElem?_eq_getElem hx1]; exact List.getElem_mem hx1)))]
          rfl
        rw [hm]
        have hx : nxR g ws k (r :: Q) z = lft g k (ws.getD (n1 ws k z).p tok0) (r :: Q) := rfl
        rw [hx]
        by_cases h0 : (lft g k (ws.getD (n1 ws k z).p tok0) (r :: Q)).length = 0
        · rw [if_pos (by rw [h0]; rfl), if_pos h0, ref_o hw]
        · rw [if_neg (by intro e; exact h0 (by have := eq_of_beq e; omega)), if_neg h0]
      have hS : Old.part0 (gO g R) ws k ((nxR g ws k (r :: Q) z).map toR) (toP (beS g ws k (r :: Q) (n1 ws k z))) = toP (nxS g ws k (r :: Q) z) := by
        unfold nxS Old.part0
        cases hx : nxR g ws k (r :: Q) z with
        | nil => rfl
        | cons y l =>
          have hy : y ∈ r :: Q := by
            have : y ∈ nxR g ws k (r :: Q) z := by rw [hx]; exact List.mem_cons_self
            unfold nxR lft at this
            exact (List.mem_filter.1 this).1
          obtain ⟨hy1, hy2⟩ := hall y hy
          have e2 : (toR y).parts[k]? = some (y.ps.getD k 0) := by
            show y.ps[k]? = _
            rw [List.getD_eq_getElem?_getD, List.getElem?_eq_getElem hy1]; rfl
          rw [List.map_cons]
          simp only [e2]
          rw [if_pos (by simp only [List.length_cons]; omega)]
          exact (pt_o hw _ (hy2 _ (by rw [List.getD_eq_getElem?_getD, List.getElem?_eq_getElem hy1]; exact List.getElem_mem hy1))).symm
      rw [hL, hB, hS]
      exact inst_o hw f F (k + 1) _ _ (fun x hx => by
        unfold nxR lft at hx
        exact h x (List.mem_filter.1 hx).1) (by omega) (by omega)
    · rw [if_neg (by rw [decide_eq_false hk]; decide), if_neg (by rw [decide_eq_false hk]; decide)]; rfl
theorem more_o (hw : WsOK ws) : toP (z.wa (endA ws z.as)) = Old.moreP ws (toP z) := by
  unfold endA Old.moreP
  have e4 : z.as.p = z.p := rfl
  have e3 : (toP z).p = z.p := rfl
  rw [e3, e4]
  by_cases h : z.p < ws.length
  · rw [if_pos h, if_pos (decide_eq_true (by omega))]; exact ref_o hw
  · rw [if_neg h, if_neg (by rw [decide_eq_false (by omega)]; decide)]; rfl
end
end Go.Proofs.YtedlaclfhgneeabGreatDoor
namespace Go.Proofs.YtedlaclfhgneeabGreatDoor.Old
open Go.RowKit
set_option linter.unusedVariables false
set_option linter.unusedSimpArgs false
set_option linter.unusedSectionVars false
theorem regA_kn {L : List Tk} (t : Rs) : regG regA L t = knR L regsA t := rfl
section
variable {L : List Tk} {g : Lg} {s : Rs} {i : Ins} {y : Tk}
-- offe_no
theorem offe_noV (h : plusR L s = false) : offG regA L s i = (s, i) := by unfold offG; rw [if_neg (by simp [h])]
-- offe_yes
theorem offe_yesV (h : plusR L s = true) : offG regA L s i = idxG regA L ⟨s.e, s.a, s.p + 1⟩ i := by unfold offG; rw [if_pos h]
-- meme_no
theorem meme_noV (h : plusR L s = false) : memEG regA L s i = (s, i) := by unfold memEG; rw [if_neg (by simp [h])]
-- meme_none
theorem meme_noneV (h : plusR L s = true) (hn : L.length ≤ s.p + 1) : memEG regA L s i = idxG regA L ⟨s.e, s.a, s.p + 1⟩ i := by unfold memEG; rw [if_pos h, List.getElem?_eq_none hn]
-- meme_reg
theorem meme_regA (h : plusR L s = true) (hy : L[s.p + 1]? = some y) (hk : (y.kind == 2) = false) : memEG regA L s i = idxG regA L ⟨s.e, s.a, s.p + 1⟩ i := by unfold memEG; rw [if_pos h, hy]; simp [hk]
-- meme_num
theorem meme_numV (h : plusR L s = true) (hy : L[s.p + 1]? = some y) (hk : (y.kind == 2) = true) : memEG regA L s i = offG regA L ⟨s.e, s.a, s.p + 1 + 1⟩ { i with off := y.n } := by unfold memEG; rw [if_pos h, hy]; simp [hk]
-- mem_skip
theorem mem_skipV (h : (s.e == 0) = false) : memIG regA L s i = (s, i) := by unfold memIG; rw [if_neg (by simp [h])]
-- mem_none
theorem mem_noneV (h : (s.e == 0) = true) (hn : L.length ≤ s.p) : memIG regA L s i = (oddR L true s, i) := by unfold memIG; rw [if_pos h, List.getElem?_eq_none hn]
-- mem_kind
theorem mem_kindV (h : (s.e == 0) = true) (hy : L[s.p]? = some y) (hk : (y.kind == 1) = false) : memIG regA L s i = (oddR L true s, i) := by unfold memIG; rw [if_pos h, hy]; simp [hk]
-- mem_word
theorem mem_wordV (h : (s.e == 0) = true) (hy : L[s.p]? = some y) (hf : decide (locF y.text < 0) = true) : memIG regA L s i = (oddR L true s, i) := by unfold memIG; rw [if_pos h, hy]; simp only [hf, Bool.not_true, Bool.and_false, Bool.false_eq_true, if_false]
-- mem_yes
theorem mem_yesV (h : (s.e == 0) = true) (hy : L[s.p]? = some y) (hk : (y.kind == 1) = true) (hf : decide (locF y.text < 0) = false) : memIG regA L s i = closeR L (memEG regA L ⟨s.e, s.a, s.p + 1⟩ { i with loc := locF y.text }) := by unfold memIG; rw [if_pos h, hy]; simp only [hk, hf, Bool.not_false, Bool.and_true, if_true]
-- mem_idx
theorem mem_idxV (hr : g.regs = regsA) {s : Ps} {t : Rs} {i : Ins} (h : Mem s t i) : Mem (idxP g L s) (idxG regA L t i).1 (idxG regA L t i).2 := by
  obtain ⟨h1, h2⟩ := h
  have hk := sim_known (L := L) (ls := regsA) h1
  have hkp := (known_keeps (L := L) (ls := regsA) (s := s)).1
  unfold idxP idxG
  rw [hr, regA_kn]
  refine ⟨sim_set hk.1 rfl rfl rfl, fun he => ?_⟩
  have ht : t.e = 0 := by
    cases hte : decide (t.e = 0)
    · have : t.e ≠ 0 := of_decide_eq_false hte
      rw [kn_skip this] at he; exact absurd he this
    · exact of_decide_eq_true hte
  obtain ⟨a1, a2, a3⟩ := h2 ht
  exact ⟨by show (knownP L regsA s).1.ins.loc = i.loc; rw [hkp]; exact a1, by show (knownP L regsA s).1.ins.off = i.off; rw [hkp]; exact a2, hk.2 he⟩
-- mem_off
theorem mem_offV (hr : g.regs = regsA) {s : Ps} {t : Rs} {i : Ins} (h : Mem s t i) : Mem (offP g L s) (offG regA L t i).1 (offG regA L t i).2 := by
  have hp := plusR_is (L := L) h.1
  by_cases he : t.e = 0
  · obtain ⟨hs0, hsp⟩ := sim_p h.1 he
    rw [hs0] at hp
    cases hrd : reads L [43] s.p
    · rw [hrd] at hp
      rw [offe_noV hp]; unfold offP; rw [if_neg (by simp [hrd])]; exact h
    · rw [hrd] at hp
      rw [offe_yesV hp]; unfold offP; rw [if_pos hrd]
      exact mem_idxV hr ⟨.inl ⟨hs0, he, by show s.p + 1 = t.p + 1; omega⟩, fun _ => h.2 he⟩
  · have hs : s.e ≠ 0 := (sim_ne h.1).2 he
    have : plusR L t = false := by rw [hp]; simp [hs]
    rw [offe_noV this]
    exact ⟨(off_bad hs).sim hs h.1, fun e => absurd e he⟩
-- mem_plus
theorem mem_plusV (hr : g.regs = regsA) {s : Ps} {t : Rs} {i : Ins} (h : Mem s t i) : Mem (plusP g L s) (memEG regA L t i).1 (memEG regA L t i).2 := by
  have hp := plusR_is (L := L) h.1
  by_cases he : t.e = 0
  · obtain ⟨hs0, hsp⟩ := sim_p h.1 he
    rw [hs0] at hp
    cases hrd : reads L [43] s.p
    · rw [hrd] at hp
      rw [meme_noV hp]; unfold plusP; rw [if_neg (by simp [hrd])]; exact h
    · rw [hrd] at hp
      unfold plusP; rw [if_pos hrd]
      unfold numOff
      have hs1 : Mem (atP s (s.p + 1)) ⟨t.e, t.a, t.p + 1⟩ i := ⟨.inl ⟨hs0, he, by show s.p + 1 = t.p + 1; omega⟩, fun _ => h.2 he⟩
      cases hy : L[s.p + 1]? with
      | none =>
        have hn : L.length ≤ t.p + 1 := by have : L.length ≤ s.p + 1 := by simpa using hy
                                           omega
        rw [meme_noneV hp hn, if_neg (by show ¬ isNumP L (s.p + 1) = true; unfold isNumP; rw [hy]; simp)]
        exact mem_idxV hr hs1
      | some y =>
        have hyt : L[t.p + 1]? = some y := by rw [← hsp]; exact hy
        cases hk : (y.kind == 2)
        · rw [meme_regA hp hyt hk, if_neg (by show ¬ isNumP L (s.p + 1) = true; rw [isnum_is hy, hk]; simp)]
          exact mem_idxV hr hs1
        · rw [meme_numV hp hyt hk, if_pos (by show isNumP L (s.p + 1) = true; rw [isnum_is hy, hk])]
          have e1 : numP1 L (s.p + 1) = some (y.n, s.p + 1 + 1) := by unfold numP1; rw [hy]; simp only [hk, if_true]
          have e2 : nbQ L (atP s (s.p + 1)).p = s.p + 1 + 1 := by show nbQ L (s.p + 1) = _; unfold nbQ; rw [e1]; rfl
          have e3 : nbV L (atP s (s.p + 1)).p = y.n := by show nbV L (s.p + 1) = _; unfold nbV; rw [e1]; rfl
          rw [e2, e3]
          exact mem_offV hr ⟨.inl ⟨hs0, he, by show s.p + 1 + 1 = t.p + 1 + 1; omega⟩, fun _ => ⟨(h.2 he).1, rfl, (h.2 he).2.2⟩⟩
  · have hs : s.e ≠ 0 := (sim_ne h.1).2 he
    have : plusR L t = false := by rw [hp]; simp [hs]
    rw [meme_noV this]
    exact ⟨(plus_bad hs).sim hs h.1, fun e => absurd e he⟩
-- memI_kn
theorem memi_knV {t : Rs} {i : Ins} (he : (knR L locsX t).1.e = 0) : memIG regA L t i = closeR L (memEG regA L (knR L locsX t).1 { i with loc := (knR L locsX t).2 }) := by
  have ht : t.e = 0 := by
    cases hte : decide (t.e = 0)
    · have : t.e ≠ 0 := of_decide_eq_false hte
      rw [kn_skip this] at he; exact absurd he this
    · exact of_decide_eq_true hte
  have ht0 : (t.e == 0) = true := by simpa using ht
  cases hy : L[t.p]? with
  | none => rw [kn_none ht0 (by simpa using hy)] at he; exact absurd he (by have := odd_e (L := L) (u := true) ht0; simpa using this)
  | some y =>
    cases hk : (y.kind == 1)
    · rw [kn_kind ht0 hy hk] at he; exact absurd he (by have := odd_e (L := L) (u := true) ht0; simpa using this)
    · cases hd : decide (idxL locsX y.text 0 < 0)
      · rw [kn_yes ht0 hy hk hd]; exact mem_yesV ht0 hy hk hd
      · rw [kn_word ht0 hy hd] at he; exact absurd he (by have := odd_e (L := L) (u := true) ht0; simpa using this)
-- memI_no
theorem memi_noV {t : Rs} {i : Ins} (he : (knR L locsX t).1.e ≠ 0) : memIG regA L t i = ((knR L locsX t).1, i) := by
  by_cases ht : t.e = 0
  · have ht0 : (t.e == 0) = true := by simpa using ht
    cases hy : L[t.p]? with
    | none => rw [kn_none ht0 (by simpa using hy), mem_noneV ht0 (by simpa using hy)]
    | some y =>
      cases hk : (y.kind == 1)
      · rw [kn_kind ht0 hy hk, mem_kindV ht0 hy hk]
      · cases hd : decide (idxL locsX y.text 0 < 0)
        · rw [kn_yes ht0 hy hk hd] at he; exact absurd ht he
        · rw [kn_word ht0 hy hd, mem_wordV ht0 hy hd]
  · rw [kn_skip ht, mem_skipV (by simpa using ht)]
-- sim_mem
theorem sim_memV (hr : g.regs = regsA) {s : Ps} {t : Rs} {i : Ins} (h : Sim s t) (ho : s.ins.off = i.off) (hi : i.index = -1) : Mem (memP g L s) (memG regA L t i).1 (memG regA L t i).2 := by
  have h1 := sim_mark (L := L) (m := [91]) h
  have h2 := sim_known (L := L) (ls := locsX) h1
  have hk : (mem0P L s).ins.off = s.ins.off := by
    show (knownP L locsX (markP L [91] s)).1.ins.off = s.ins.off
    rw [(known_keeps (L := L) (ls := locsX)).1, (mark_keeps (L := L)).1]
  have h3 : Sim (mem0P L s) (knR L locsX (markR L [91] t)).1 := sim_set h2.1 rfl rfl rfl
  unfold memP memG
  by_cases he : (knR L locsX (markR L [91] t)).1.e = 0
  · rw [memi_knV he]
    have h4 : Mem (mem0P L s) (knR L locsX (markR L [91] t)).1 { i with loc := (knR L locsX (markR L [91] t)).2 } := ⟨h3, fun _ => ⟨h2.2 he, by rw [hk]; exact ho, hi.symm⟩⟩
    have h5 := mem_plusV (L := L) hr h4
    unfold closeR
    refine ⟨sim_mark h5.1, fun e => ?_⟩
    rw [(mark_keeps (L := L)).1]
    refine h5.2 ?_
    by_cases hz : (memEG regA L (knR L locsX (markR L [91] t)).1 { i with loc := (knR L locsX (markR L [91] t)).2 }).1.e = 0
    · exact hz
    · have e : (markR L [93] (memEG regA L (knR L locsX (markR L [91] t)).1 { i with loc := (knR L locsX (markR L [91] t)).2 }).1).e = 0 := e
      rw [mark_skip (by simpa using hz)] at e; exact e
  · rw [memi_noV he]
    have hs : (mem0P L s).e ≠ 0 := (sim_ne h3).2 he
    have hb := (plus_bad (g := g) (L := L) hs).trans (mark_bad (L := L) (m := [93]) ((plus_bad (g := g) (L := L) hs).ne hs))
    exact ⟨hb.sim hs h3, fun e => absurd e he⟩
-- lk_offE
theorem lk_offEV {t : Rs} {i : Ins} : Lk i (offG regA L t i).2 := by unfold offG; split <;> rfl
-- lk_memE
theorem lk_memeV {t : Rs} {i : Ins} : Lk i (memEG regA L t i).2 := by
  unfold memEG; split
  · split
    · split
      · exact Lk.trans (show Lk i { i with off := _ } from rfl) lk_offEV
      · rfl
    · rfl
  · rfl
-- lk_memR
theorem lk_memrV {t : Rs} {i : Ins} : Lk i (memG regA L t i).2 := by
  unfold memG
  by_cases he : (knR L locsX (markR L [91] t)).1.e = 0
  · rw [memi_knV he]; exact Lk.trans (show Lk i { i with loc := _ } from rfl) lk_memeV
  · rw [memi_noV he]; rfl
-- memR_no
theorem memr_noV {t : Rs} {i : Ins} (h : (markR L [91] t).e ≠ 0) : (memG regA L t i).1 = markR L [91] t := by
  unfold memG; rw [memi_noV (by rw [kn_skip h]; exact h), kn_skip h]
-- no_mem
theorem no_memV (hW : WF L) {s : Ps} {t : Rs} (h : Sim s t) {i : Ins} (hb : isMarkB (wordAt L s.p) [91] = false) : Sim (refP L 22 s) (memG regA L t i).1 ∧ (memG regA L t i).1.e ≠ 0 := by
  have h1 := sim_mark (L := L) (m := [91]) h
  have hr : reads L [91] s.p = false := by rw [word_reads hW (by decide)]; exact hb
  have e1 : markP L [91] s = refP L 22 s := by unfold markP; rw [if_neg (by rw [hr]; decide)]
  rw [e1] at h1
  have hne := (sim_ne h1).1 ref_ne
  rw [memr_noV hne]; exact ⟨h1, hne⟩
-- no_reg
end
section
variable {L : List Tk} {g : Lg} {r : Rw} {f k : Nat} {s : Ps} {t t' te : Rs} {p : Int} {i : Ins} {lab : List UInt8}
theorem one_go (hp : r.parts[k]? = some p) : instL g L (f + 1) k [r] s = if beginsB g p (wordAt L (commaP L k s).p) = true then instL g L f (k + 1) [r] (partP g L p (commaP L k s)) else (refP L 22 (commaP L k s), []) := by
  have hk : k < r.parts.length := (List.getElem?_eq_some_iff.1 hp).1
  have hst : (!strikes g k (wordAt L (commaP L k s).p) r) = beginsB g p (wordAt L (commaP L k s).p) := by unfold strikes; rw [hp]; simp only [Bool.not_not]
  have hl : leftR g L k [r] (commaP L k s) = if beginsB g p (wordAt L (commaP L k s).p) = true then [r] else [] := by
    unfold leftR; simp only [List.filter_cons, List.filter_nil, hst]
  have e : instL g L (f + 1) k [r] s = if decide (((k : Nat) : Int) < ((r.parts.length : Nat) : Int)) = true then instL g L f (k + 1) (leftR g L k [r] (commaP L k s)) (part0 g L k (leftR g L k [r] (commaP L k s)) (begP g L k [r] (commaP L k s))) else (s, [r]) := rfl
  rw [e, if_pos (decide_eq_true (by omega))]
  cases hb : beginsB g p (wordAt L (commaP L k s).p)
  · rw [hb, if_neg (by decide)] at hl
    rw [beg_none' hl, hl, inst_nil, if_neg (by decide)]; rfl
  · rw [hb, if_pos rfl] at hl
    rw [begP_some hl, hl, if_pos rfl]
    show instL g L f (k + 1) [r] (match r.parts[k]? with | some p => partP g L p (commaP L k s) | none => commaP L k s) = _
    rw [hp]
theorem one_end (hp : r.parts.length = k) : instL g L (f + 1) k [r] s = (s, [r]) := by
  have e : instL g L (f + 1) k [r] s = if decide (((k : Nat) : Int) < ((r.parts.length : Nat) : Int)) = true then instL g L f (k + 1) (leftR g L k [r] (commaP L k s)) (part0 g L k (leftR g L k [r] (commaP L k s)) (begP g L k [r] (commaP L k s))) else (s, [r]) := rfl
  rw [e, if_neg (by rw [decide_eq_false (by omega)]; decide)]
theorem one_step (hp : r.parts[k]? = some p) (no : beginsB g p (wordAt L (commaP L k s).p) = false → Sim (refP L 22 (commaP L k s)) t') (hte : t'.e ≠ 0 → te = t')
    (go : Alike (instL g L f (k + 1) [r] (partP g L p (commaP L k s))) te i lab) : Alike (instL g L (f + 1) k [r] s) te i lab := by
  rw [one_go hp]
  cases hb : beginsB g p (wordAt L (commaP L k s).p)
  · rw [if_neg (by decide)]
    have h := no hb
    have hne := (sim_ne h).1 ref_ne
    rw [hte hne]
    exact ⟨h, fun e => absurd e hne⟩
  · rw [if_pos rfl]; exact go
theorem no_known {ls : List (List UInt8)} (h : Sim s t) (hb : ((wordAt L s.p).kind == 1) = false) : Sim (refP L 22 s) (knR L ls t).1 := by
  have hkn := word_kn (L := L) (ls := ls) hb
  have h1 := (sim_known (L := L) (ls := ls) h).1
  rw [hkn] at h1; exact h1
end
end Go.Proofs.YtedlaclfhgneeabGreatDoor.Old
namespace Go.Proofs.YtedlaclfhgneeabGreatDoor.Old
open Go.RowKit
set_option linter.unusedVariables false
set_option linter.unusedSimpArgs false
set_option linter.unusedSectionVars false
section
variable {L : List Tk} {g : Lg} {r x r1 r2 : Rw} {l m : List Rw} {f k : Nat} {s : Ps} {t t' te : Rs} {p : Int} {i : Ins} {lab : List UInt8}
theorem rows_is (hk : k < r.parts.length) : instL g L (f + 1) k (r :: l) s = instL g L f (k + 1) (leftR g L k (r :: l) (commaP L k s)) (part0 g L k (leftR g L k (r :: l) (commaP L k s)) (begP g L k (r :: l) (commaP L k s))) := by
  have e : instL g L (f + 1) k (r :: l) s = if decide (((k : Nat) : Int) < ((r.parts.length : Nat) : Int)) = true then instL g L f (k + 1) (leftR g L k (r :: l) (commaP L k s)) (part0 g L k (leftR g L k (r :: l) (commaP L k s)) (begP g L k (r :: l) (commaP L k s))) else (s, r :: l) := rfl
  rw [e, if_pos (decide_eq_true (by omega))]
theorem rows_go (hk : k < r.parts.length) (hl : leftR g L k (r :: l) (commaP L k s) = x :: m) (hp : x.parts[k]? = some p) : instL g L (f + 1) k (r :: l) s = instL g L f (k + 1) (x :: m) (partP g L p (commaP L k s)) := by
  rw [rows_is hk, begP_some hl, hl]
  show instL g L f (k + 1) (x :: m) (match x.parts[k]? with | some p => partP g L p (commaP L k s) | none => commaP L k s) = _
  rw [hp]
theorem rows_no (hk : k < r.parts.length) (hl : leftR g L k (r :: l) (commaP L k s) = []) : instL g L (f + 1) k (r :: l) s = (refP L 22 (commaP L k s), []) := by
  rw [rows_is hk, beg_none' hl, hl, inst_nil]; rfl
theorem left_two (h1 : r1.parts[k]? = some p) (h2 : r2.parts[k]? = some p) {s : Ps} : leftR g L k [r1, r2] s = if beginsB g p (wordAt L s.p) = true then [r1, r2] else [] := by
  have e1 : (!strikes g k (wordAt L s.p) r1) = beginsB g p (wordAt L s.p) := by unfold strikes; rw [h1]; simp only [Bool.not_not]
  have e2 : (!strikes g k (wordAt L s.p) r2) = beginsB g p (wordAt L s.p) := by unfold strikes; rw [h2]; simp only [Bool.not_not]
  unfold leftR; simp only [List.filter_cons, List.filter_nil, e1, e2]
  cases beginsB g p (wordAt L s.p) <;> rfl
theorem two_step (h1 : r1.parts[k]? = some p) (h2 : r2.parts[k]? = some p) (no : beginsB g p (wordAt L (commaP L k s).p) = false → Sim (refP L 22 (commaP L k s)) t') (hte : t'.e ≠ 0 → te = t')
    (go : Alike (instL g L f (k + 1) [r1, r2] (partP g L p (commaP L k s))) te i lab) : Alike (instL g L (f + 1) k [r1, r2] s) te i lab := by
  have hk : k < r1.parts.length := (List.getElem?_eq_some_iff.1 h1).1
  have hl := left_two (g := g) (L := L) h1 h2 (s := commaP L k s)
  cases hb : beginsB g p (wordAt L (commaP L k s).p)
  · rw [hb, if_neg (by decide)] at hl
    rw [rows_no hk hl]
    have h := no hb
    have hne := (sim_ne h).1 ref_ne
    rw [hte hne]
    exact ⟨h, fun e => absurd e hne⟩
  · rw [hb, if_pos rfl] at hl
    rw [rows_go hk hl h1]; exact go
theorem left_one (h1 : r1.parts[k]? = some p) {s : Ps} : (!strikes g k (wordAt L s.p) r1) = beginsB g p (wordAt L s.p) := by unfold strikes; rw [h1]; simp only [Bool.not_not]
end
section
variable {L : List Tk} {rI rR : Rw} {Q : List Rw} {f k : Nat} {s : Ps} {t : Rs} {b : Int} {iI iR : Ins} {lab : List UInt8}
theorem imm_sk {t : Rs} (h : t.e ≠ 0) : (immAr L t).1 = t := by
  unfold immAr
  have e : markR L [35] t = t := mark_skip (by simpa using h)
  rw [e]; unfold numS; rw [if_neg (by simpa using h)]
theorem isR_e (h : isR L t [35] = true) : t.e = 0 := by
  unfold isR at h; rw [Bool.and_eq_true] at h; exact eq_of_beq h.1
theorem beg5 (y : Tk) : beginsB amO 5 y = isMarkB y [35] := rfl
theorem begb (hb : b = 2 ∨ b = 3) (y : Tk) : beginsB amO b y = (y.kind == 1) := by rcases hb with rfl | rfl <;> rfl
theorem kn_sk' {t : Rs} (h : t.e ≠ 0) : (regG regA L t).1 = t := by
  show (knR L regsA t).1 = t
  rw [kn_skip h]
theorem two_last (hW : WF L) (hQ : Q = [rI, rR] ∨ Q = [rR, rI]) (hi : rI.parts.length = k + 1 ∧ rI.parts[k]? = some 5) (hr : rR.parts.length = k + 1 ∧ rR.parts[k]? = some b) (hb : b = 2 ∨ b = 3) (hS : Sim (commaP L k s) t)
    (hI : (immAr L t).1.e = 0 → withR rI (partP amO L 5 (commaP L k s)).ins = iI ∧ (partP amO L 5 (commaP L k s)).lab = lab)
    (hR : (regG regA L t).1.e = 0 → withR rR (partP amO L b (commaP L k s)).ins = iR ∧ (partP amO L b (commaP L k s)).lab = lab) :
    (isR L t [35] = true → Alike (instL amO L (f + 1 + 1) k Q s) (immAr L t).1 iI lab) ∧ (isR L t [35] = false → Alike (instL amO L (f + 1 + 1) k Q s) (regG regA L t).1 iR lab) := by
  have eI := left_one (g := amO) (L := L) hi.2 (s := commaP L k s)
  have eR := left_one (g := amO) (L := L) hr.2 (s := commaP L k s)
  rw [beg5] at eI
  rw [begb hb] at eR
  have hlen : ∃ r l, Q = r :: l ∧ k < r.parts.length := by
    rcases hQ with h | h
    · exact ⟨rI, [rR], h, by omega⟩
    · exact ⟨rR, [rI], h, by omega⟩
  have hrd : t.e = 0 → isR L t [35] = isMarkB (wordAt L (commaP L k s).p) [35] := fun h => by
    obtain ⟨_, hp⟩ := sim_p hS h
    rw [hp, ← word_reads hW (by decide)]
    unfold isR; rw [beq_iff_eq.2 h]; rfl
  obtain ⟨q0, ql, hq, hk⟩ := hlen
  cases hm : isMarkB (wordAt L (commaP L k s).p) [35] with
  | true =>
    have hk1 : ((wordAt L (commaP L k s).p).kind == 1) = false := by
      unfold isMarkB at hm; rw [Bool.and_eq_true] at hm; rw [eq_of_beq hm.1]; rfl
    have hl : leftR amO L k Q (commaP L k s) = [rI] := by
      rw [hm] at eI; rw [hk1] at eR
      rcases hQ with h | h <;> rw [h] <;> unfold leftR <;> simp only [List.filter_cons, List.filter_nil, eI, eR] <;> rfl
    have hinst : instL amO L (f + 1 + 1) k Q s = (partP amO L 5 (commaP L k s), [rI]) := by
      rw [hq] at hl ⊢
      rw [rows_go hk hl hi.2, one_end (f := f) (by omega)]
    rw [hinst]
    refine ⟨fun _ => ⟨?_, hI⟩, fun hf => ?_⟩
    · exact sim_set (sim_num hW (sim_mark hS)).1 rfl rfl rfl
    · have hne : t.e ≠ 0 := fun h => by rw [hrd h, hm] at hf; cases hf
      have hs : (commaP L k s).e ≠ 0 := (sim_ne hS).2 hne
      have e : (regG regA L t).1 = t := kn_sk' hne
      rw [e]
      exact ⟨(part_bad hs).sim hs hS, fun h => absurd h hne⟩
  | false =>
    have noI : isR L t [35] = true → False := fun h => by
      rw [hrd (isR_e h), hm] at h; cases h
    cases hk1 : ((wordAt L (commaP L k s).p).kind == 1) with
    | true =>
      have hl : leftR amO L k Q (commaP L k s) = [rR] := by
        rw [hm] at eI; rw [hk1] at eR
        rcases hQ with h | h <;> rw [h] <;> unfold leftR <;> simp only [List.filter_cons, List.filter_nil, eI, eR] <;> rfl
      have hinst : instL amO L (f + 1 + 1) k Q s = (partP amO L b (commaP L k s), [rR]) := by
        rw [hq] at hl ⊢
        rw [rows_go hk hl hr.2, one_end (f := f) (by omega)]
      rw [hinst]
      refine ⟨fun h => absurd h noI, fun _ => ⟨?_, hR⟩⟩
      have h := (sim_known (L := L) (ls := regsA) hS).1
      rcases hb with rfl | rfl <;> exact sim_set h rfl rfl rfl
    | false =>
      have hl : leftR amO L k Q (commaP L k s) = [] := by
        rw [hm] at eI; rw [hk1] at eR
        rcases hQ with h | h <;> rw [h] <;> unfold leftR <;> simp only [List.filter_cons, List.filter_nil, eI, eR] <;> rfl
      have hinst : instL amO L (f + 1 + 1) k Q s = (refP L 22 (commaP L k s), []) := by
        rw [hq] at hl ⊢
        exact rows_no hk hl
      rw [hinst]
      refine ⟨fun h => absurd h noI, fun _ => ?_⟩
      have h : Sim (refP L 22 (commaP L k s)) (knR L regsA t).1 := no_known hS hk1
      exact ⟨h, fun e => absurd e ((sim_ne h).1 ref_ne)⟩
end
section
variable {L : List Tk} {r : Rw} {n p1 p2 p3 : Int} {t1 t2 t3 : Rs} {i : Ins} {lab : List UInt8}
theorem comma0 (s : Ps) : commaP L 0 s = s := rfl
theorem comma1 (s : Ps) : commaP L 1 s = markP L [44] s := rfl
theorem comma2 (s : Ps) : commaP L 2 s = markP L [44] s := rfl
abbrev sM (L : List Tk) (p1 n : Int) : Ps := markP L [44] (partP amO L p1 (sAt n))
theorem form2 (hp : r.parts = [p1, p2])
    (no1 : beginsB amO p1 (wordAt L 1) = false → Sim (refP L 22 (sAt n)) t1) (yes1 : Sim (partP amO L p1 (sAt n)) t1)
    (no2 : Sim (sM L p1 n) (markR L [44] t1) → beginsB amO p2 (wordAt L (sM L p1 n).p) = false → Sim (refP L 22 (sM L p1 n)) t2)
    (yes2 : Sim (sM L p1 n) (markR L [44] t1) → Sim (partP amO L p2 (sM L p1 n)) t2)
    (sk : (markR L [44] t1).e ≠ 0 → t2 = markR L [44] t1)
    (hf : t2.e = 0 → withR r (partP amO L p2 (sM L p1 n)).ins = i ∧ (partP amO L p2 (sM L p1 n)).lab = lab) : Alike (instL amO L 1001 0 [r] (sAt n)) t2 i lab := by
  have hM := sim_mark (L := L) (m := [44]) yes1
  refine one_step (k := 0) (f := 1000) (t' := t1) (p := p1) (by rw [hp]; rfl) (fun h => no1 h) (fun h => ?_) ?_
  · have e : markR L [44] t1 = t1 := mark_skip (by simpa using h)
    rw [e] at sk; exact sk h
  · rw [comma0]
    refine one_step (k := 1) (f := 999) (t' := t2) (p := p2) (by rw [hp]; rfl) (fun h => no2 hM h) (fun _ => rfl) ?_
    rw [comma1, one_end (f := 998) (by rw [hp]; rfl)]
    exact ⟨yes2 hM, fun e => hf e⟩
abbrev sN (L : List Tk) (p1 p2 n : Int) : Ps := markP L [44] (partP amO L p2 (sM L p1 n))
theorem form3 (hp : r.parts = [p1, p2, p3])
    (no1 : beginsB amO p1 (wordAt L 1) = false → Sim (refP L 22 (sAt n)) t1) (yes1 : Sim (partP amO L p1 (sAt n)) t1)
    (no2 : Sim (sM L p1 n) (markR L [44] t1) → beginsB amO p2 (wordAt L (sM L p1 n).p) = false → Sim (refP L 22 (sM L p1 n)) t2)
    (yes2 : Sim (sM L p1 n) (markR L [44] t1) → Sim (partP amO L p2 (sM L p1 n)) t2)
    (sk2 : (markR L [44] t1).e ≠ 0 → t2 = markR L [44] t1)
    (no3 : Sim (sN L p1 p2 n) (markR L [44] t2) → beginsB amO p3 (wordAt L (sN L p1 p2 n).p) = false → Sim (refP L 22 (sN L p1 p2 n)) t3)
    (yes3 : Sim (sN L p1 p2 n) (markR L [44] t2) → Sim (partP amO L p3 (sN L p1 p2 n)) t3)
    (sk3 : (markR L [44] t2).e ≠ 0 → t3 = markR L [44] t2)
    (hf : t3.e = 0 → withR r (partP amO L p3 (sN L p1 p2 n)).ins = i ∧ (partP amO L p3 (sN L p1 p2 n)).lab = lab) : Alike (instL amO L 1001 0 [r] (sAt n)) t3 i lab := by
  have hM := sim_mark (L := L) (m := [44]) yes1
  have hN := sim_mark (L := L) (m := [44]) (yes2 hM)
  have k2 : t2.e ≠ 0 → t3 = t2 := fun h => by
    have e : markR L [44] t2 = t2 := mark_skip (by simpa using h)
    rw [e] at sk3; exact sk3 h
  refine one_step (k := 0) (f := 1000) (t' := t1) (p := p1) (by rw [hp]; rfl) (fun h => no1 h) (fun h => ?_) ?_
  · have e : markR L [44] t1 = t1 := mark_skip (by simpa using h)
    rw [e] at sk2
    have e2 := sk2 h
    rw [k2 (by rw [e2]; exact h), e2]
  · rw [comma0]
    refine one_step (k := 1) (f := 999) (t' := t2) (p := p2) (by rw [hp]; rfl) (fun h => no2 hM h) k2 ?_
    rw [comma1]
    refine one_step (k := 2) (f := 998) (t' := t3) (p := p3) (by rw [hp]; rfl) (fun h => no3 hN h) (fun _ => rfl) ?_
    rw [comma2, one_end (f := 997) (by rw [hp]; rfl)]
    exact ⟨yes3 hN, fun e => hf e⟩
theorem reg1_no (h1 : p1 = 1 ∨ p1 = 2) (h : beginsB amO p1 (wordAt L 1) = false) : Sim (refP L 22 (sAt n)) (knR L regsA tA).1 := by
  refine no_known (sim0 n) ?_
  rcases h1 with rfl | rfl <;> exact h
theorem reg1_yes (h1 : p1 = 1 ∨ p1 = 2) : Sim (partP amO L p1 (sAt n)) (knR L regsA tA).1 := by
  have h := (sim_known (L := L) (ls := regsA) (sim0 n)).1
  rcases h1 with rfl | rfl <;> exact sim_set h rfl rfl rfl
theorem regk_no {s : Ps} {t : Rs} (hp : p2 = 1 ∨ p2 = 2 ∨ p2 = 3) (hs : Sim s t) (h : beginsB amO p2 (wordAt L s.p) = false) : Sim (refP L 22 s) (knR L regsA t).1 := by
  refine no_known hs ?_
  rcases hp with rfl | rfl | rfl <;> exact h
theorem regk_yes {s : Ps} {t : Rs} (hp : p2 = 1 ∨ p2 = 2 ∨ p2 = 3) (hs : Sim s t) : Sim (partP amO L p2 s) (knR L regsA t).1 := by
  have h := (sim_known (L := L) (ls := regsA) hs).1
  rcases hp with rfl | rfl | rfl <;> exact sim_set h rfl rfl rfl
theorem kn_sk {ls : List (List UInt8)} {t : Rs} (h : t.e ≠ 0) : (knR L ls t).1 = t := by rw [kn_skip h]
theorem memk_no (hW : WF L) {s : Ps} {t : Rs} (hs : Sim s t) (h : beginsB amO 6 (wordAt L s.p) = false) : Sim (refP L 22 s) (memG regA L t i).1 := (no_memV hW hs h).1
theorem memk_yes {s : Ps} {t : Rs} (hs : Sim s t) (ho : s.ins.off = i.off) (hi : i.index = -1) : Sim (partP amO L 6 s) (memG regA L t i).1 := (sim_memV (g := amO) rfl hs ho hi).1
theorem mem_sk {t : Rs} (h : t.e ≠ 0) : (memG regA L t i).1 = t := by
  have e : markR L [91] t = t := mark_skip (by simpa using h)
  have := memr_noV (L := L) (t := t) (i := i) (by rw [e]; exact h)
  rw [e] at this; exact this
theorem sm_ins (h1 : p1 = 1) : (sM L p1 n).ins = { zIns with size := n, dst := (knownP L regsA (sAt n)).2 } ∧ (sM L p1 n).lab = [] := by
  subst h1
  have e := known_keeps (L := L) (ls := regsA) (s := sAt n)
  refine ⟨(mark_keeps (L := L)).1.trans ?_, (mark_keeps (L := L)).2.trans ?_⟩
  · show ({ (knownP L regsA (sAt n)).1.ins with dst := (knownP L regsA (sAt n)).2 } : Ins) = _
    rw [e.1]
  · exact e.2
theorem sm_insA (h1 : p1 = 2) : (sM L p1 n).ins = { zIns with size := n, a := (knownP L regsA (sAt n)).2 } ∧ (sM L p1 n).lab = [] := by
  subst h1
  have e := known_keeps (L := L) (ls := regsA) (s := sAt n)
  refine ⟨(mark_keeps (L := L)).1.trans ?_, (mark_keeps (L := L)).2.trans ?_⟩
  · show ({ (knownP L regsA (sAt n)).1.ins with a := (knownP L regsA (sAt n)).2 } : Ins) = _
    rw [e.1]
  · exact e.2
end
def AlA (L : List Tk) (q : List UInt8) (n : Int) (rows : List Rw) : Prop := (armR L tA blank q).1.1 = true ∧ Alike (instL amO L 1001 0 rows (sAt n)) (armR L tA blank q).2.1 (armR L tA blank q).2.2 (armR L tA blank q).1.2
section
variable {L : List Tk} {n k : Int} {nm : List UInt8} {i : Ins}
theorem bk {t t2 : Rs} (sk : t.e ≠ 0 → t2 = t) (h : t2.e = 0) : t.e = 0 := by
  by_cases he : t.e = 0
  · exact he
  · rw [sk he] at h; exact absurd h he
abbrev t1V (L : List Tk) : Rs := (regG regA L tA).1
abbrev m1V (L : List Tk) : Rs := markR L [44] (t1V L)
theorem v1_is (h : (m1V L).e = 0) : (knownP L regsA (sAt n)).2 = (regG regA L tA).2 := (sim_known (L := L) (ls := regsA) (sim0 n)).2 (mark_stop h)
theorem simM (h1 : k = 1 ∨ k = 2) : Sim (sM L k n) (m1V L) := sim_mark (reg1_yes h1)
abbrev t2V (L : List Tk) : Rs := (regG regA L (m1V L)).1
abbrev m2V (L : List Tk) : Rs := markR L [44] (t2V L)
theorem sn_ins : (sN L 1 2 n).ins = { zIns with size := n, dst := (knownP L regsA (sAt n)).2, a := (knownP L regsA (sM L 1 n)).2 } ∧ (sN L 1 2 n).lab = [] := by
  have kp := known_keeps (L := L) (ls := regsA) (s := sM L 1 n)
  have si := sm_ins (L := L) (n := n) (p1 := 1) rfl
  refine ⟨(mark_keeps (L := L)).1.trans ?_, (mark_keeps (L := L)).2.trans ?_⟩
  · show ({ (knownP L regsA (sM L 1 n)).1.ins with a := (knownP L regsA (sM L 1 n)).2 } : Ins) = _
    rw [kp.1, si.1]
  · show (knownP L regsA (sM L 1 n)).1.lab = []
    rw [kp.2]; exact si.2
theorem simN : Sim (sN L 1 2 n) (m2V L) := sim_mark (regk_yes (.inr (.inl rfl)) (simM (.inl rfl)))
theorem v2_is (h : (m2V L).e = 0) : (knownP L regsA (sAt n)).2 = (regG regA L tA).2 ∧ (knownP L regsA (sM L 1 n)).2 = (regG regA L (m1V L)).2 := by
  have h2 : (t2V L).e = 0 := mark_stop h
  have h1 : (m1V L).e = 0 := bk (fun h => kn_sk (ls := regsA) h) h2
  exact ⟨v1_is h1, (sim_known (ls := regsA) (simM (L := L) (n := n) (.inl rfl))).2 h2⟩
theorem sn_ins2 : (sN L 2 1 n).ins = { zIns with size := n, a := (knownP L regsA (sAt n)).2, dst := (knownP L regsA (sM L 2 n)).2 } ∧ (sN L 2 1 n).lab = [] := by
  have kp := known_keeps (L := L) (ls := regsA) (s := sM L 2 n)
  have si := sm_insA (L := L) (n := n) (p1 := 2) rfl
  refine ⟨(mark_keeps (L := L)).1.trans ?_, (mark_keeps (L := L)).2.trans ?_⟩
  · show ({ (knownP L regsA (sM L 2 n)).1.ins with dst := (knownP L regsA (sM L 2 n)).2 } : Ins) = _
    rw [kp.1, si.1]
  · show (knownP L regsA (sM L 2 n)).1.lab = []
    rw [kp.2]; exact si.2
theorem simN2 : Sim (sN L 2 1 n) (m2V L) := sim_mark (regk_yes (.inl rfl) (simM (.inr rfl)))
theorem v2_is2 (h : (m2V L).e = 0) : (knownP L regsA (sAt n)).2 = (regG regA L tA).2 ∧ (knownP L regsA (sM L 2 n)).2 = (regG regA L (m1V L)).2 := by
  have h2 : (t2V L).e = 0 := mark_stop h
  have h1 : (m1V L).e = 0 := bk (fun h => kn_sk (ls := regsA) h) h2
  exact ⟨v1_is h1, (sim_known (ls := regsA) (simM (L := L) (n := n) (.inr rfl))).2 h2⟩
theorem im_is (hW : WF L) {S : Ps} {t : Rs} (hS : Sim S t) (h : (immAr L t).1.e = 0) : (partP amO L 5 S).ins = { S.ins with imm := (immAr L t).2 } ∧ (partP amO L 5 S).lab = S.lab := by
  have v := (sim_num hW (sim_mark (L := L) (m := [35]) hS)).2 h
  have kp := num_keeps (L := L) (s := markP L [35] S)
  constructor
  · show ({ (numP L (markP L [35] S)).1.ins with imm := (numP L (markP L [35] S)).2 } : Ins) = _
    rw [kp.1, (mark_keeps (L := L)).1, v]; rfl
  · show (numP L (markP L [35] S)).1.lab = _
    rw [kp.2, (mark_keeps (L := L)).2]
theorem ar_mov (hW : WF L) : AlA L [77, 79, 86] 0 [(⟨[77, 79, 86], ⟨1, 0, 0, 0, 0, 0, 0, 0, 0, 0, false, false, false, 0, 0, 0, false⟩, nilV, [1, 5]⟩ : Rw), (⟨[77, 79, 86], ⟨2, 0, 0, 0, 0, 0, 0, 0, 0, 0, false, false, false, 0, 0, 0, false⟩, nilV, [1, 2]⟩ : Rw)] := by
  have e : armR L tA blank [77, 79, 86] = if isR L (m1V L) [35] = true then ((true, []), (immAr L (m1V L)).1, Ins.mk 1 (regG regA L tA).2 (-1) (-1) (immAr L (m1V L)).2 0 0 (-1) 0 0 false false false 0 0 0 false) else ((true, []), (regG regA L (m1V L)).1, Ins.mk 2 (regG regA L tA).2 (regG regA L (m1V L)).2 (-1) 0 0 0 (-1) 0 0 false false false 0 0 0 false) := by
    unfold armR; rw [if_pos rfl]; rfl
  have si := sm_ins (L := L) (n := 0) (p1 := 1) rfl
  have H := two_last (f := 998) (k := 1) (b := 2) (s := partP amO L 1 (sAt 0)) (t := m1V L) hW (.inl rfl) (rI := (⟨[77, 79, 86], ⟨1, 0, 0, 0, 0, 0, 0, 0, 0, 0, false, false, false, 0, 0, 0, false⟩, nilV, [1, 5]⟩ : Rw)) (rR := (⟨[77, 79, 86], ⟨2, 0, 0, 0, 0, 0, 0, 0, 0, 0, false, false, false, 0, 0, 0, false⟩, nilV, [1, 2]⟩ : Rw)) ⟨rfl, rfl⟩ ⟨rfl, rfl⟩ (.inl rfl) (simM (.inl rfl))
    (iI := Ins.mk 1 (regG regA L tA).2 (-1) (-1) (immAr L (m1V L)).2 0 0 (-1) 0 0 false false false 0 0 0 false) (iR := Ins.mk 2 (regG regA L tA).2 (regG regA L (m1V L)).2 (-1) 0 0 0 (-1) 0 0 false false false 0 0 0 false) (lab := [])
    (fun h => by
      have hm : (m1V L).e = 0 := bk (fun h => imm_sk h) h
      have q := im_is hW (simM (L := L) (n := 0) (.inl rfl)) h
      exact ⟨(congrArg _ q.1).trans (by rw [si.1, v1_is hm]; rfl), q.2.trans si.2⟩)
    (fun h => by
      have hm : (m1V L).e = 0 := bk (fun h => kn_sk (ls := regsA) h) h
      have v2 := (sim_known (ls := regsA) (simM (L := L) (n := 0) (.inl rfl))).2 h
      have kp := known_keeps (L := L) (ls := regsA) (s := sM L 1 0)
      constructor
      · show withR _ ({ (knownP L regsA (sM L 1 0)).1.ins with a := (knownP L regsA (sM L 1 0)).2 } : Ins) = _
        rw [kp.1, si.1, v1_is hm, v2]; rfl
      · show (knownP L regsA (sM L 1 0)).1.lab = []
        rw [kp.2]; exact si.2)
  have sk : ∀ te : Rs, ((m1V L).e ≠ 0 → te = m1V L) → (t1V L).e ≠ 0 → te = t1V L := fun te h hne => by
    have e : m1V L = t1V L := mark_skip (by simpa using hne)
    rw [e] at h; exact h hne
  unfold AlA
  rw [e]
  cases hi : isR L (m1V L) [35]
  · rw [if_neg (by decide)]
    refine ⟨rfl, two_step (k := 0) (f := 1000) (p := 1) (t' := t1V L) rfl rfl (fun h => reg1_no (.inl rfl) h) (sk _ (fun h => kn_sk (ls := regsA) h)) ?_⟩
    rw [comma0]; exact H.2 hi
  · rw [if_pos rfl]
    refine ⟨rfl, two_step (k := 0) (f := 1000) (p := 1) (t' := t1V L) rfl rfl (fun h => reg1_no (.inl rfl) h) (sk _ (fun h => imm_sk h)) ?_⟩
    rw [comma0]; exact H.1 hi
theorem ar_alu (hW : WF L) {q : List UInt8} (e : armR L tA blank q = if isR L (m2V L) [35] = true then ((true, []), (immAr L (m2V L)).1, Ins.mk 3 (regG regA L tA).2 (regG regA L (m1V L)).2 (-1) (immAr L (m2V L)).2 0 0 (-1) 0 k false false false 0 0 0 false) else ((true, []), (regG regA L (m2V L)).1, Ins.mk 3 (regG regA L tA).2 (regG regA L (m1V L)).2 (regG regA L (m2V L)).2 0 0 0 (-1) 0 k false false false 0 0 0 false)) : AlA L q 0 [(⟨nm, ⟨3, 0, 0, 0, 0, 0, 0, 0, 0, k, false, false, false, 0, 0, 0, false⟩, nilV, [1, 2, 3]⟩ : Rw), (⟨nm, ⟨3, 0, 0, 0, 0, 0, 0, 0, 0, k, false, false, false, 0, 0, 0, false⟩, nilV, [1, 2, 5]⟩ : Rw)] := by
  have si := sn_ins (L := L) (n := 0)
  have H := two_last (f := 997) (k := 2) (b := 3) (s := partP amO L 2 (sM L 1 0)) (t := m2V L) hW (.inr rfl) (rI := (⟨nm, ⟨3, 0, 0, 0, 0, 0, 0, 0, 0, k, false, false, false, 0, 0, 0, false⟩, nilV, [1, 2, 5]⟩ : Rw)) (rR := (⟨nm, ⟨3, 0, 0, 0, 0, 0, 0, 0, 0, k, false, false, false, 0, 0, 0, false⟩, nilV, [1, 2, 3]⟩ : Rw)) ⟨rfl, rfl⟩ ⟨rfl, rfl⟩ (.inr rfl) simN
    (iI := Ins.mk 3 (regG regA L tA).2 (regG regA L (m1V L)).2 (-1) (immAr L (m2V L)).2 0 0 (-1) 0 k false false false 0 0 0 false) (iR := Ins.mk 3 (regG regA L tA).2 (regG regA L (m1V L)).2 (regG regA L (m2V L)).2 0 0 0 (-1) 0 k false false false 0 0 0 false) (lab := [])
    (fun h => by
      have hm : (m2V L).e = 0 := bk (fun h => imm_sk h) h
      have q := im_is hW (simN (L := L) (n := 0)) h
      exact ⟨(congrArg _ q.1).trans (by rw [si.1, (v2_is hm).1, (v2_is hm).2]; rfl), q.2.trans si.2⟩)
    (fun h => by
      have hm : (m2V L).e = 0 := bk (fun h => kn_sk (ls := regsA) h) h
      have v3 := (sim_known (ls := regsA) (simN (L := L) (n := 0))).2 h
      have kp := known_keeps (L := L) (ls := regsA) (s := sN L 1 2 0)
      constructor
      · show withR _ ({ (knownP L regsA (sN L 1 2 0)).1.ins with b := (knownP L regsA (sN L 1 2 0)).2 } : Ins) = _
        rw [kp.1, si.1, (v2_is hm).1, (v2_is hm).2, v3]; rfl
      · show (knownP L regsA (sN L 1 2 0)).1.lab = []
        rw [kp.2]; exact si.2)
  have sk2 : ∀ te : Rs, ((m2V L).e ≠ 0 → te = m2V L) → (t2V L).e ≠ 0 → te = t2V L := fun te h hne => by
    have e : m2V L = t2V L := mark_skip (by simpa using hne)
    rw [e] at h; exact h hne
  have sk1 : ∀ te : Rs, ((t2V L).e ≠ 0 → te = t2V L) → (t1V L).e ≠ 0 → te = t1V L := fun te h hne => by
    have e1 : m1V L = t1V L := mark_skip (by simpa using hne)
    have e2 : t2V L = t1V L := (kn_sk (ls := regsA) (L := L) (t := m1V L) (by rw [e1]; exact hne)).trans e1
    rw [e2] at h; exact h hne
  unfold AlA
  rw [e]
  cases hi : isR L (m2V L) [35]
  · rw [if_neg (by decide)]
    refine ⟨rfl, two_step (k := 0) (f := 1000) (p := 1) (t' := t1V L) rfl rfl (fun h => reg1_no (.inl rfl) h) (sk1 _ (sk2 _ (fun h => kn_sk (ls := regsA) h))) ?_⟩
    rw [comma0]
    refine two_step (k := 1) (f := 999) (p := 2) (t' := t2V L) rfl rfl (fun h => regk_no (.inr (.inl rfl)) (simM (.inl rfl)) h) (sk2 _ (fun h => kn_sk (ls := regsA) h)) ?_
    rw [comma1]; exact H.2 hi
  · rw [if_pos rfl]
    refine ⟨rfl, two_step (k := 0) (f := 1000) (p := 1) (t' := t1V L) rfl rfl (fun h => reg1_no (.inl rfl) h) (sk1 _ (sk2 _ (fun h => imm_sk h))) ?_⟩
    rw [comma0]
    refine two_step (k := 1) (f := 999) (p := 2) (t' := t2V L) rfl rfl (fun h => regk_no (.inr (.inl rfl)) (simM (.inl rfl)) h) (sk2 _ (fun h => imm_sk h)) ?_
    rw [comma1]; exact H.1 hi
theorem al_isb : AlA L [73, 83, 66] 0 [(⟨[73, 83, 66], ⟨8, 0, 0, 0, 0, 0, 0, 0, 0, 0, false, false, false, 0, 0, 0, false⟩, nilV, []⟩ : Rw)] := by
  have e : armR L tA blank [73, 83, 66] = ((true, []), tA, Ins.mk 8 (-1) (-1) (-1) 0 0 0 (-1) 0 0 false false false 0 0 0 false) := by kernel_rfl
  unfold AlA
  rw [e, one_end (f := 1000) (by rfl)]
  exact ⟨rfl, sim0 0, fun _ => ⟨rfl, rfl⟩⟩
end
section
variable {L : List Tk} {n k : Int} {nm : List UInt8} {i : Ins}
theorem al_ld (hW : WF L) {q : List UInt8} {ac wk : Bool} (e : armR L tA blank q = ((true, []), (memG regA L (m1V L) (Ins.mk 4 (regG regA L tA).2 (-1) (-1) 0 0 0 (-1) n 0 ac wk false 0 0 0 false)).1, (memG regA L (m1V L) (Ins.mk 4 (regG regA L tA).2 (-1) (-1) 0 0 0 (-1) n 0 ac wk false 0 0 0 false)).2)) : AlA L q n [(⟨nm, ⟨4, 0, 0, 0, 0, 0, 0, 0, 0, 0, ac, wk, false, 0, 0, 0, false⟩, nilV, [1, 6]⟩ : Rw)] := by
  have si := sm_ins (L := L) (n := n) (p1 := 1) rfl
  have ho : (sM L 1 n).ins.off = 0 := by rw [si.1]; rfl
  unfold AlA
  rw [e]
  refine ⟨rfl, form2 (t1 := t1V L) rfl (reg1_no (.inl rfl)) (reg1_yes (.inl rfl)) (fun h => memk_no hW h) (fun h => memk_yes h ho rfl) (fun h => mem_sk h) (fun h => ?_)⟩
  have hm : (m1V L).e = 0 := bk (fun h => mem_sk h) h
  have vals := (sim_memV (g := amO) rfl (simM (L := L) (n := n) (.inl rfl)) (i := Ins.mk 4 (regG regA L tA).2 (-1) (-1) 0 0 0 (-1) n 0 ac wk false 0 0 0 false) ho rfl).2 h
  exact ⟨lk_end (withR _) id (lk_mem (L := L) (g := amO)).1 lk_memrV vals (fun x y w => by rw [si.1, v1_is hm]; rfl), (lk_mem (L := L) (g := amO)).2.trans si.2⟩
theorem al_sd (hW : WF L) {q : List UInt8} {rl : Bool} (e : armR L tA blank q = ((true, []), (memG regA L (m1V L) (Ins.mk 5 (-1) (regG regA L tA).2 (-1) 0 0 0 (-1) n 0 false false rl 0 0 0 false)).1, (memG regA L (m1V L) (Ins.mk 5 (-1) (regG regA L tA).2 (-1) 0 0 0 (-1) n 0 false false rl 0 0 0 false)).2)) : AlA L q n [(⟨nm, ⟨5, 0, 0, 0, 0, 0, 0, 0, 0, 0, false, false, rl, 0, 0, 0, false⟩, nilV, [2, 6]⟩ : Rw)] := by
  have si := sm_insA (L := L) (n := n) (p1 := 2) rfl
  have ho : (sM L 2 n).ins.off = 0 := by rw [si.1]; rfl
  unfold AlA
  rw [e]
  refine ⟨rfl, form2 (t1 := t1V L) rfl (reg1_no (.inr rfl)) (reg1_yes (.inr rfl)) (fun h => memk_no hW h) (fun h => memk_yes h ho rfl) (fun h => mem_sk h) (fun h => ?_)⟩
  have hm : (m1V L).e = 0 := bk (fun h => mem_sk h) h
  have vals := (sim_memV (g := amO) rfl (simM (L := L) (n := n) (.inr rfl)) (i := Ins.mk 5 (-1) (regG regA L tA).2 (-1) 0 0 0 (-1) n 0 false false rl 0 0 0 false) ho rfl).2 h
  exact ⟨lk_end (withR _) id (lk_mem (L := L) (g := amO)).1 lk_memrV vals (fun x y w => by rw [si.1, v1_is hm]; rfl), (lk_mem (L := L) (g := amO)).2.trans si.2⟩
theorem al_amo (hW : WF L) {ac rl : Bool} {q : List UInt8} (e : armR L tA blank q = ((true, []), (memG regA L (m2V L) (Ins.mk 6 (regG regA L (m1V L)).2 (regG regA L tA).2 (-1) 0 0 0 (-1) n k ac false rl 0 0 0 false)).1, (memG regA L (m2V L) (Ins.mk 6 (regG regA L (m1V L)).2 (regG regA L tA).2 (-1) 0 0 0 (-1) n k ac false rl 0 0 0 false)).2)) : AlA L q n [(⟨nm, ⟨6, 0, 0, 0, 0, 0, 0, 0, 0, k, ac, false, rl, 0, 0, 0, false⟩, nilV, [2, 1, 6]⟩ : Rw)] := by
  have si := sn_ins2 (L := L) (n := n)
  have ho : (sN L 2 1 n).ins.off = 0 := by rw [si.1]; rfl
  unfold AlA
  rw [e]
  refine ⟨rfl, form3 (t1 := t1V L) (t2 := t2V L) rfl (reg1_no (.inr rfl)) (reg1_yes (.inr rfl)) (fun h => regk_no (.inl rfl) h) (fun h => regk_yes (.inl rfl) h) (fun h => kn_sk (ls := regsA) h) (fun h => memk_no hW h) (fun h => memk_yes h ho rfl) (fun h => mem_sk h) (fun h => ?_)⟩
  have hm : (m2V L).e = 0 := bk (fun h => mem_sk h) h
  have vals := (sim_memV (g := amO) rfl (simN2 (L := L) (n := n)) (i := Ins.mk 6 (regG regA L (m1V L)).2 (regG regA L tA).2 (-1) 0 0 0 (-1) n k ac false rl 0 0 0 false) ho rfl).2 h
  exact ⟨lk_end (withR _) id (lk_mem (L := L) (g := amO)).1 lk_memrV vals (fun x y w => by rw [si.1, (v2_is2 hm).1, (v2_is2 hm).2]; rfl), (lk_mem (L := L) (g := amO)).2.trans si.2⟩
theorem al_br {q : List UInt8} {z : Bool} (e : armR L tA blank q = ((true, (labR L (m1V L)).2), (labR L (m1V L)).1, Ins.mk 9 (-1) (regG regA L tA).2 (-1) 0 0 0 (-1) 0 0 false false false 0 0 0 z)) : AlA L q 0 [(⟨nm, ⟨9, 0, 0, 0, 0, 0, 0, 0, 0, 0, false, false, false, 0, 0, 0, z⟩, nilV, [2, 7]⟩ : Rw)] := by
  unfold AlA
  rw [e]
  refine ⟨rfl, ?_⟩
  have si := sm_insA (L := L) (n := 0) (p1 := 2) rfl
  have hM : Sim (sM L 2 0) (m1V L) := simM (.inr rfl)
  refine one_step (k := 0) (f := 1000) (t' := t1V L) (p := 2) rfl (fun h => reg1_no (.inr rfl) h) (fun h => ?_) ?_
  · have e : m1V L = t1V L := mark_skip (by simpa using h)
    show (labR L (m1V L)).1 = _
    rw [e, lab_skip (by simpa using h)]
  · rw [comma0]
    by_cases ht : (m1V L).e = 0
    · obtain ⟨hs0, hsp⟩ := sim_p hM ht
      rw [one_go (k := 1) (f := 999) (p := 7) rfl, comma1]
      cases hb : beginsB amO 7 (wordAt L (sM L 2 0).p)
      · rw [if_neg (by decide)]
        have hb' : ((wordAt L (sM L 2 0).p).kind == 1) = false := hb
        have e : labR L (m1V L) = (oddR L false (m1V L), []) := by
          rw [hsp] at hb'
          cases hy : L[(m1V L).p]? with
          | none => exact lab_none (by simpa using ht) (by simpa using hy)
          | some y => rw [word_some hy] at hb'; exact lab_kind (by simpa using ht) hy hb'
        rw [e]
        have h1 : Sim (refP L 22 (sM L 2 0)) (oddR L false (m1V L)) := sim_odd hs0 ht hsp (by
          rcases Nat.lt_or_ge (sM L 2 0).p L.length with hlt | hge
          · right; refine ⟨hlt, ?_⟩
            unfold oc; simp [hlt]
          · exact .inl hge)
        exact ⟨h1, fun e => absurd e ((sim_ne h1).1 ref_ne)⟩
      · rw [if_pos rfl, one_end (k := 1 + 1) (f := 998) (by rfl)]
        show Alike (labP L (sM L 2 0), _) _ _ _
        have hb' : ((wordAt L (sM L 2 0).p).kind == 1) = true := hb
        cases hy : L[(sM L 2 0).p]? with
        | none => rw [word_none (by simpa using hy)] at hb'; exact absurd hb' (by decide)
        | some y =>
          rw [word_some hy] at hb'
          have e : labR L (m1V L) = (⟨(m1V L).e, (m1V L).a, (m1V L).p + 1⟩, y.text) := lab_yes (by simpa using ht) (by rw [← hsp]; exact hy) hb'
          have e2 : labP L (sM L 2 0) = setLab (atP (sM L 2 0) ((sM L 2 0).p + 1)) y.text := by unfold labP; rw [hy]; simp only [hb', if_true]
          rw [e, e2]
          refine ⟨.inl ⟨hs0, ht, by show (sM L 2 0).p + 1 = (m1V L).p + 1; rw [hsp]⟩, fun e' => ⟨?_, rfl⟩⟩
          show withR _ (sM L 2 0).ins = _
          rw [si.1, v1_is ht]; rfl
    · have hs : (sM L 2 0).e ≠ 0 := (sim_ne hM).2 ht
      rw [lab_skip (by simpa using ht)]
      rw [one_go (k := 1) (f := 999) (p := 7) rfl, comma1]
      cases hb : beginsB amO 7 (wordAt L (sM L 2 0).p)
      · rw [if_neg (by decide), ref_bad hs]; exact ⟨hM, fun e => absurd e ht⟩
      · rw [if_pos rfl, one_end (k := 1 + 1) (f := 998) (by rfl)]
        exact ⟨(part_bad hs).sim hs hM, fun e => absurd e ht⟩
end
end Go.Proofs.YtedlaclfhgneeabGreatDoor.Old
namespace Go.Proofs.YtedlaclfhgneeabGreatDoor.Old
def parO (L : List Tk) (P : Ps × List Rw) : Ins × List UInt8 × Int × Int :=
  if ((moreP L P.1).e == 0) = true then (if wrongB (withL P.2 P.1.ins) = true then (zIns, [], 34, whereR L 0) else (withL P.2 P.1.ins, (moreP L P.1).lab, 0, 0))
  else (zIns, [], (moreP L P.1).e, (moreP L P.1).a)
theorem fin_alike {L : List Tk} {P : Ps × List Rw} {X : (Bool × List UInt8) × Rs × Ins} (hx1 : X.1.1 = true) (hX : Alike P X.2.1 X.2.2 X.1.2) : parO L P = finR L X := by
  obtain ⟨hS, hE⟩ := hX
  rw [fin_yes hx1]
  unfold parO
  obtain ⟨hM, hM0, hlab⟩ := sim_more (L := L) hS
  by_cases he : (moreR L X.2.1).e = 0
  · obtain ⟨h0, _⟩ := sim_p hM he
    obtain ⟨hw, hl⟩ := hE (hM0 he)
    rw [if_pos (by simpa using h0), hw, hlab, hl]
    have ha := wrong_asb X.2.2
    cases hb : wrongB X.2.2
    · rw [hb] at ha
      rw [if_neg (by decide), last_ok (by simpa using he) rfl ha, out_ok (by simpa using he)]
    · rw [hb] at ha
      have ef : failR (moreR L X.2.1) 34 (whereR L 0) = ⟨34, whereR L 0, (moreR L X.2.1).p⟩ := by unfold failR; rw [if_pos (by simpa using he)]
      rw [if_pos rfl, last_bad (by simpa using he) rfl ha, ef, out_no rfl]; rfl
  · have h0 : (moreP L P.1).e ≠ 0 := (sim_ne hM).2 he
    rw [if_neg (by simpa using h0), last_e (by simpa using he), out_no (by simpa using he)]
    rcases hM with ⟨h, _⟩ | ⟨_, h2, h3⟩
    · exact absurd h h0
    · rw [h2, h3]; rfl
end Go.Proofs.YtedlaclfhgneeabGreatDoor.Old
namespace Go.Proofs.YtedlaclfhgneeabGreatDoor
open Go.RowKit
set_option linter.unusedVariables false
set_option linter.unusedSimpArgs false
section
variable {ws : List Tk} {z : Ps} {g : Lg} {R L : List Rw} {m : List UInt8} {x : Int} {k : Nat}
theorem par_gen (hw : WsOK ws) : (toO (parI g ws R), parT g ws R, parE g ws R, parA g ws R) = Old.parO ws (toP (inF g ws R Ps.z0).1, (inF g ws R Ps.z0).2.map toR) := by
  unfold Old.parO
  simp only
  rw [← more_o hw]
  have e1 : (toP ((inF g ws R Ps.z0).1.wa (endA ws (inF g ws R Ps.z0).1.as))).e = (paE g ws R).e := rfl
  have e2 : (toP ((inF g ws R Ps.z0).1.wa (endA ws (inF g ws R Ps.z0).1.as))).a = (paE g ws R).a := rfl
  have e3 : (toP ((inF g ws R Ps.z0).1.wa (endA ws (inF g ws R Ps.z0).1.as))).lab = (inF g ws R Ps.z0).1.lab := rfl
  have e4 : Old.withL ((inF g ws R Ps.z0).2.map toR) (toP (inF g ws R Ps.z0).1).ins = toO (inI g ws R Ps.z0) := by
    unfold inI Old.withL
    cases hx : (inF g ws R Ps.z0).2 with
    | nil => rfl
    | cons y l => rw [if_neg (by simp only [List.length_cons]; omega), List.map_cons]; exact (lay_o y _).symm
  rw [e1, e2, e3, e4, ← wrong_o, where_at hw]
  unfold parI parT parE parA
  by_cases h : (paE g ws R).e = 0
  · rw [if_neg (not_not_intro h), if_neg (not_not_intro h), if_neg (not_not_intro h), if_neg (not_not_intro h), if_pos (beq_iff_eq.2 h)]
    cases wrongI (inI g ws R Ps.z0) <;> rfl
  · rw [if_pos h, if_pos h, if_pos h, if_pos h, if_neg (fun e => h (eq_of_beq e))]; rfl
theorem par_oN (hw : WsOK ws) (hp : PaOK g ws R) (h10 : ∀ r ∈ naR g ws R Ps.z0, ∀ p ∈ r.ps, p ≠ 10) : (toO (parI g ws R), parT g ws R, parE g ws R, parA g ws R) = Old.parP (gO g R) ws := by
  have hI : Old.instP (gO g R) ws Old.zPs = (toP (inF g ws R Ps.z0).1, (inF g ws R Ps.z0).2.map toR) := by
    unfold Old.instP inF
    have hn := named_o (g := g) (R := R) (z := Ps.z0) hw
    have e : toP Ps.z0 = Old.zPs := rfl
    rw [e] at hn
    rw [← hn.1, ← hn.2]
    refine inst_o (N0 := inN g ws R Ps.z0) hw _ _ _ _ _ (fun r hr => ⟨?_, h10 r hr⟩) (by omega) (by have := hp.k; omega)
    cases hx : naR g ws R Ps.z0 with
    | nil => rw [hx] at hr; cases hr
    | cons y l =>
      have hy : y ∈ naR g ws R Ps.z0 := by rw [hx]; exact List.mem_cons_self
      have : inN g ws R Ps.z0 = y.ps.length := by unfold inN; rw [hx]; rfl
      rw [this]; exact hp.s r hr y hy
  rw [par_gen hw, ← hI]; rfl
end
end Go.Proofs.YtedlaclfhgneeabGreatDoor
namespace Go.Proofs.YtedlaclfhgneeabGreatDoor.Old
open Go.RowKit
set_option linter.unusedVariables false
set_option linter.unusedSimpArgs false
set_option linter.unusedSectionVars false
set_option maxRecDepth 100000
section
variable {L : List Tk}
theorem par_nameV {y : Tk} (hy : L[0]? = some y) (h : (y.kind == 1) = true) : parM L = finR L (armR L tA blank y.text) := by unfold parM; rw [hy]; simp [h]
theorem par_alV {q : List UInt8} {n : Int} {r : Rw} {l : List Rw} {y : Tk} (hy : L[0]? = some y) (hk : (y.kind == 1) = true) (hq : y.text = q) (hf : amO.rows.foldl (nStep amO q) (zPs, []) = (⟨{ zIns with size := n }, [], 0, 0, 0⟩, r :: l)) (hX : AlA L q n (r :: l)) : parP amO L = parM L := by
  have hn : namedP amO L zPs = (sAt n, r :: l) := by
    unfold namedP
    rw [show L[zPs.p]? = some y from hy]
    simp only [hk, if_true, hq, hf]
    unfold noRow
    rw [if_neg (by simp; omega)]; rfl
  have hi : instP amO L zPs = instL amO L 1001 0 (r :: l) (sAt n) := by unfold instP; rw [hn]
  rw [par_nameV hy hk, hq, ← fin_alike hX.1 hX.2]
  show parO L (instP amO L zPs) = _
  rw [hi]
theorem par_errV {s : Ps} (h : namedP amO L zPs = (s, [])) (he : s.e ≠ 0) : parP amO L = (zIns, [], s.e, s.a) := by
  have hi : instP amO L zPs = (s, []) := by unfold instP; rw [h, inst_nil]
  have hm : moreP L s = s := by unfold moreP; split; exact ref_bad he; rfl
  unfold parP
  rw [hi, hm, if_neg (by simpa using he)]
theorem fold_noneV {q : List UInt8} : ∀ (l : List Rw), (∀ r ∈ l, (sizeP amO r q).2 = false) → l.foldl (nStep amO q) (zPs, []) = (zPs, [])
  | [], _ => rfl
  | r :: l, h => by
    rw [List.foldl_cons]
    have : nStep amO q (zPs, []) r = (zPs, []) := by unfold nStep; rw [if_neg (by rw [h r (List.mem_cons_self ..)]; decide)]
    rw [this]; exact fold_noneV l fun r hr => h r (List.mem_cons_of_mem _ hr)
theorem sz_noV {q h : List UInt8} (hn : ∀ y ∈ tailsA, q ≠ h ++ y) : szA q h = 0 := by
  unfold szA
  split
  · next hp =>
    unfold preB at hp
    rw [Bool.and_eq_true] at hp
    have ht := eq_of_beq hp.2
    rw [idx_no]
    · rfl
    · intro y hy e
      refine hn y hy ?_
      rw [← e]
      conv => lhs; rw [← List.take_append_drop h.length q]
      rw [ht]
  · rfl
def namesA : List (List UInt8) := [[77, 79, 86], [65, 68, 68], [83, 85, 66], [69, 79, 82], [65, 78, 68], [79, 82, 82], [76, 68, 82, 66], [76, 68, 82, 72], [76, 68, 82, 87], [76, 68, 82], [76, 68, 65, 82, 66], [76, 68, 65, 82, 72], [76, 68, 65, 82, 87], [76, 68, 65, 82], [76, 68, 65, 80, 82, 66], [76, 68, 65, 80, 82, 72], [76, 68, 65, 80, 82, 87], [76, 68, 65, 80, 82], [83, 84, 82, 66], [83, 84, 82, 72], [83, 84, 82, 87], [83, 84, 82], [83, 84, 76, 82, 66], [83, 84, 76, 82, 72], [83, 84, 76, 82, 87], [83, 84, 76, 82], [83, 87, 80, 66], [83, 87, 80, 72], [83, 87, 80, 87], [83, 87, 80], [83, 87, 80, 65, 66], [83, 87, 80, 65, 72], [83, 87, 80, 65, 87], [83, 87, 80, 65], [83, 87, 80, 76, 66], [83, 87, 80, 76, 72], [83, 87, 80, 76, 87], [83, 87, 80, 76], [83, 87, 80, 65, 76, 66], [83, 87, 80, 65, 76, 72], [83, 87, 80, 65, 76, 87], [83, 87, 80, 65, 76], [76, 68, 65, 68, 68, 66], [76, 68, 65, 68, 68, 72], [76, 68, 65, 68, 68, 87], [76, 68, 65, 68, 68], [76, 68, 65, 68, 68, 65, 66], [76, 68, 65, 68, 68, 65, 72], [76, 68, 65, 68, 68, 65, 87], [76, 68, 65, 68, 68, 65], [76, 68, 65, 68, 68, 76, 66], [76, 68, 65, 68, 68, 76, 72], [76, 68, 65, 68, 68, 76, 87], [76, 68, 65, 68, 68, 76], [76, 68, 65, 68, 68, 65, 76, 66], [76, 68, 65, 68, 68, 65, 76, 72], [76, 68, 65, 68, 68, 65, 76, 87], [76, 68, 65, 68, 68, 65, 76], [73, 83, 66], [67, 66, 90], [67, 66, 78, 90], [68, 77, 66]]
theorem ord_no {q h : List UInt8} (h0 : szA q (h ++ []) = 0) (h1 : szA q (h ++ [65]) = 0) (h2 : szA q (h ++ [76]) = 0) (h3 : szA q (h ++ [65, 76]) = 0) : (ordA q h).1 = 0 := by
  unfold ordA; rw [h0, h1, h2, h3]; rfl
theorem arm_no {q : List UInt8} (hN : ∀ z ∈ namesA, q ≠ z) : armR L tA blank q = ((false, []), tA, blank) := by
  have e : ∀ z, z ∈ namesA → (q == z) = false := fun z hz => beq_eq_false_iff_ne.2 (hN z hz)
  have hs : ∀ h : List UInt8, (∀ y ∈ tailsA, h ++ y ∈ namesA) → szA q h = 0 := fun h hh => sz_noV fun y hy => hN _ (hh y hy)
  have ha : ¬ aluA q > 0 := by unfold aluA; rw [idxS_L, idx_no alusA 0 fun y hy => hN y ((by decide : ∀ y ∈ alusA, y ∈ namesA) y hy)]; decide
  unfold armR
  rw [if_neg (hN _ (by decide)), if_neg ha, hs [76, 68, 82] (by decide), hs [76, 68, 65, 82] (by decide), hs [76, 68, 65, 80, 82] (by decide), if_neg (by decide), hs [83, 84, 82] (by decide), hs [83, 84, 76, 82] (by decide), if_neg (by decide), ord_no (h := [83, 87, 80]) (hs _ (by decide)) (hs _ (by decide)) (hs _ (by decide)) (hs _ (by decide)), ord_no (h := [76, 68, 65, 68, 68]) (hs _ (by decide)) (hs _ (by decide)) (hs _ (by decide)) (hs _ (by decide)), if_neg (by decide), if_neg (hN _ (by decide)), if_neg (hN _ (by decide)), if_neg (by rw [e _ (by decide : [67, 66, 90] ∈ namesA), e _ (by decide : [67, 66, 78, 90] ∈ namesA)]; decide)]
theorem rows_names : ∀ m ∈ amO.rows.map (·.name), (if (Lib.cut m [42]).2.2 = true then (amO.lets.map fun y => (Lib.cut m [42]).1 ++ y ++ (Lib.cut m [42]).2.1).all fun z => decide (z ∈ namesA) else decide (m ∈ namesA)) = true := by decide +kernel
theorem par_noV {q : List UInt8} {y : Tk} (hy : L[0]? = some y) (hk : (y.kind == 1) = true) (hq : y.text = q) (hN : ∀ z ∈ namesA, q ≠ z) : parP amO L = parM L := by
  have e : ∀ z, z ∈ namesA → eqL q z = false := fun z hz => eqL_no (hN z hz)
  have hx := arm_no (L := L) hN
  have hr : ∀ r ∈ amO.rows, (sizeP amO r q).2 = false := fun r hr => by
    have h := rows_names r.name (List.mem_map_of_mem hr)
    unfold sizeP
    split
    · next hc =>
      rw [if_pos hc] at h
      rw [if_pos ?_]
      have : idxL (sizedN amO r) q 0 = -1 := idx_no _ 0 fun y hy => hN y (of_decide_eq_true (List.all_eq_true.1 h y hy))
      rw [this]; rfl
    · next hc =>
      rw [if_neg hc] at h
      exact e _ (of_decide_eq_true h)
  have hn : namedP amO L zPs = (nextP (refP L 21 zPs), []) := by
    unfold namedP
    rw [show L[zPs.p]? = some y from hy]
    simp only [hk, if_true, hq, fold_noneV _ hr]
    unfold noRow; rfl
  have hlt : 0 < L.length := (List.getElem?_eq_some_iff.1 hy).1
  have hg : refP L 21 zPs = setAt (setE zPs 21) (whereR L 0) := by
    rw [ref_good rfl, if_pos (decide_eq_true (show zPs.p < L.length from hlt))]; rfl
  rw [par_errV hn (by rw [hg]; exact (by decide : (21 : Int) ≠ 0)), par_nameV hy hk, hq, fin_no (by rw [hx]), hg]; rfl
theorem par_badV (h : ∀ y, L[0]? = some y → (y.kind == 1) = false) : parP amO L = parM L := by
  have hn : namedP amO L zPs = (refP L 22 zPs, []) := by
    unfold namedP
    cases hy : L[zPs.p]? with
    | none => rfl
    | some y => simp only [h y hy, Bool.false_eq_true, if_false]
  have hb : parM L = badR L := by
    unfold parM
    cases hy : L[0]? with
    | none => rfl
    | some y => simp only [h y hy, Bool.false_eq_true, if_false]
  rw [par_errV hn ref_ne, hb]
  unfold badR oddR
  cases hy : L[0]? with
  | none =>
    have hl : L.length ≤ 0 := by simpa using hy
    rw [ref_good rfl, if_neg (by rw [decide_eq_false (show ¬ zPs.p < L.length from Nat.not_lt.2 hl)]; decide)]; rfl
  | some y =>
    have hlt : 0 < L.length := (List.getElem?_eq_some_iff.1 hy).1
    rw [ref_good rfl, if_pos (decide_eq_true (show zPs.p < L.length from hlt))]
    simp only [h y hy, Bool.and_false, Bool.false_eq_true, if_false]
    show (zIns, ([] : List UInt8), (22 : Int), whereR L 0) = (ins0, [], 22, y.at_)
    rw [where_some hy]; rfl
theorem pa_eqV (hW : WF L) (hD : ∀ y, L[0]? = some y → (y.kind == 1) = true → y.text ≠ [68, 77, 66]) : parP amO L = parM L := by
  cases hy : L[0]? with
  | none => exact par_badV fun y h => by rw [hy] at h; cases h
  | some y =>
    cases hk : (y.kind == 1)
    · exact par_badV fun z h => by rw [hy] at h; cases h; exact hk
    · by_cases hN : ∀ z ∈ namesA, y.text ≠ z
      · exact par_noV hy hk rfl hN
      · obtain ⟨z, hz, hq⟩ : ∃ z, z ∈ namesA ∧ y.text = z := by
          rcases Classical.em (∃ z, z ∈ namesA ∧ y.text = z) with h | h
          · exact h
          · exact absurd (fun z hz e => h ⟨z, hz, e⟩) hN
        simp only [namesA, List.mem_cons, List.not_mem_nil, or_false] at hz
        rcases hz with rfl | rfl | rfl | rfl | rfl | rfl | rfl | rfl | rfl | rfl | rfl | rfl | rfl | rfl | rfl | rfl | rfl | rfl | rfl | rfl | rfl | rfl | rfl | rfl | rfl | rfl | rfl | rfl | rfl | rfl | rfl | rfl | rfl | rfl | rfl | rfl | rfl | rfl | rfl | rfl | rfl | rfl | rfl | rfl | rfl | rfl | rfl | rfl | rfl | rfl | rfl | rfl | rfl | rfl | rfl | rfl | rfl | rfl | rfl | rfl | rfl | rfl
        · exact par_alV (n := 0) (r := (⟨[77, 79, 86], ⟨1, 0, 0, 0, 0, 0, 0, 0, 0, 0, false, false, false, 0, 0, 0, false⟩, nilV, [1, 5]⟩ : Rw)) (l := [(⟨[77, 79, 86], ⟨2, 0, 0, 0, 0, 0, 0, 0, 0, 0, false, false, false, 0, 0, 0, false⟩, nilV, [1, 2]⟩ : Rw)]) hy hk hq (by kernel_rfl) (ar_mov hW)
        · exact par_alV (n := 0) (r := (⟨[65, 68, 68], ⟨3, 0, 0, 0, 0, 0, 0, 0, 0, 1, false, false, false, 0, 0, 0, false⟩, nilV, [1, 2, 3]⟩ : Rw)) (l := [(⟨[65, 68, 68], ⟨3, 0, 0, 0, 0, 0, 0, 0, 0, 1, false, false, false, 0, 0, 0, false⟩, nilV, [1, 2, 5]⟩ : Rw)]) hy hk hq (by kernel_rfl) (ar_alu hW (by kernel_rfl))
        · exact par_alV (n := 0) (r := (⟨[83, 85, 66], ⟨3, 0, 0, 0, 0, 0, 0, 0, 0, 2, false, false, false, 0, 0, 0, false⟩, nilV, [1, 2, 3]⟩ : Rw)) (l := [(⟨[83, 85, 66], ⟨3, 0, 0, 0, 0, 0, 0, 0, 0, 2, false, false, false, 0, 0, 0, false⟩, nilV, [1, 2, 5]⟩ : Rw)]) hy hk hq (by kernel_rfl) (ar_alu hW (by kernel_rfl))
        · exact par_alV (n := 0) (r := (⟨[69, 79, 82], ⟨3, 0, 0, 0, 0, 0, 0, 0, 0, 3, false, false, false, 0, 0, 0, false⟩, nilV, [1, 2, 3]⟩ : Rw)) (l := [(⟨[69, 79, 82], ⟨3, 0, 0, 0, 0, 0, 0, 0, 0, 3, false, false, false, 0, 0, 0, false⟩, nilV, [1, 2, 5]⟩ : Rw)]) hy hk hq (by kernel_rfl) (ar_alu hW (by kernel_rfl))
        · exact par_alV (n := 0) (r := (⟨[65, 78, 68], ⟨3, 0, 0, 0, 0, 0, 0, 0, 0, 4, false, false, false, 0, 0, 0, false⟩, nilV, [1, 2, 3]⟩ : Rw)) (l := [(⟨[65, 78, 68], ⟨3, 0, 0, 0, 0, 0, 0, 0, 0, 4, false, false, false, 0, 0, 0, false⟩, nilV, [1, 2, 5]⟩ : Rw)]) hy hk hq (by kernel_rfl) (ar_alu hW (by kernel_rfl))
        · exact par_alV (n := 0) (r := (⟨[79, 82, 82], ⟨3, 0, 0, 0, 0, 0, 0, 0, 0, 5, false, false, false, 0, 0, 0, false⟩, nilV, [1, 2, 3]⟩ : Rw)) (l := [(⟨[79, 82, 82], ⟨3, 0, 0, 0, 0, 0, 0, 0, 0, 5, false, false, false, 0, 0, 0, false⟩, nilV, [1, 2, 5]⟩ : Rw)]) hy hk hq (by kernel_rfl) (ar_alu hW (by kernel_rfl))
        · exact par_alV (n := 1) (r := (⟨[76, 68, 82, 42], ⟨4, 0, 0, 0, 0, 0, 0, 0, 0, 0, false, false, false, 0, 0, 0, false⟩, nilV, [1, 6]⟩ : Rw)) (l := []) hy hk hq (by kernel_rfl) (al_ld hW (by kernel_rfl))
        · exact par_alV (n := 2) (r := (⟨[76, 68, 82, 42], ⟨4, 0, 0, 0, 0, 0, 0, 0, 0, 0, false, false, false, 0, 0, 0, false⟩, nilV, [1, 6]⟩ : Rw)) (l := []) hy hk hq (by kernel_rfl) (al_ld hW (by kernel_rfl))
        · exact par_alV (n := 4) (r := (⟨[76, 68, 82, 42], ⟨4, 0, 0, 0, 0, 0, 0, 0, 0, 0, false, false, false, 0, 0, 0, false⟩, nilV, [1, 6]⟩ : Rw)) (l := []) hy hk hq (by kernel_rfl) (al_ld hW (by kernel_rfl))
        · exact par_alV (n := 8) (r := (⟨[76, 68, 82, 42], ⟨4, 0, 0, 0, 0, 0, 0, 0, 0, 0, false, false, false, 0, 0, 0, false⟩, nilV, [1, 6]⟩ : Rw)) (l := []) hy hk hq (by kernel_rfl) (al_ld hW (by kernel_rfl))
        · exact par_alV (n := 1) (r := (⟨[76, 68, 65, 82, 42], ⟨4, 0, 0, 0, 0, 0, 0, 0, 0, 0, true, false, false, 0, 0, 0, false⟩, nilV, [1, 6]⟩ : Rw)) (l := []) hy hk hq (by kernel_rfl) (al_ld hW (by kernel_rfl))
        · exact par_alV (n := 2) (r := (⟨[76, 68, 65, 82, 42], ⟨4, 0, 0, 0, 0, 0, 0, 0, 0, 0, true, false, false, 0, 0, 0, false⟩, nilV, [1, 6]⟩ : Rw)) (l := []) hy hk hq (by kernel_rfl) (al_ld hW (by kernel_rfl))
        · exact par_alV (n := 4) (r := (⟨[76, 68, 65, 82, 42], ⟨4, 0, 0, 0, 0, 0, 0, 0, 0, 0, true, false, false, 0, 0, 0, false⟩, nilV, [1, 6]⟩ : Rw)) (l := []) hy hk hq (by kernel_rfl) (al_ld hW (by kernel_rfl))
        · exact par_alV (n := 8) (r := (⟨[76, 68, 65, 82, 42], ⟨4, 0, 0, 0, 0, 0, 0, 0, 0, 0, true, false, false, 0, 0, 0, false⟩, nilV, [1, 6]⟩ : Rw)) (l := []) hy hk hq (by kernel_rfl) (al_ld hW (by kernel_rfl))
        · exact par_alV (n := 1) (r := (⟨[76, 68, 65, 80, 82, 42], ⟨4, 0, 0, 0, 0, 0, 0, 0, 0, 0, false, true, false, 0, 0, 0, false⟩, nilV, [1, 6]⟩ : Rw)) (l := []) hy hk hq (by kernel_rfl) (al_ld hW (by kernel_rfl))
        · exact par_alV (n := 2) (r := (⟨[76, 68, 65, 80, 82, 42], ⟨4, 0, 0, 0, 0, 0, 0, 0, 0, 0, false, true, false, 0, 0, 0, false⟩, nilV, [1, 6]⟩ : Rw)) (l := []) hy hk hq (by kernel_rfl) (al_ld hW (by kernel_rfl))
        · exact par_alV (n := 4) (r := (⟨[76, 68, 65, 80, 82, 42], ⟨4, 0, 0, 0, 0, 0, 0, 0, 0, 0, false, true, false, 0, 0, 0, false⟩, nilV, [1, 6]⟩ : Rw)) (l := []) hy hk hq (by kernel_rfl) (al_ld hW (by kernel_rfl))
        · exact par_alV (n := 8) (r := (⟨[76, 68, 65, 80, 82, 42], ⟨4, 0, 0, 0, 0, 0, 0, 0, 0, 0, false, true, false, 0, 0, 0, false⟩, nilV, [1, 6]⟩ : Rw)) (l := []) hy hk hq (by kernel_rfl) (al_ld hW (by kernel_rfl))
        · exact par_alV (n := 1) (r := (⟨[83, 84, 82, 42], ⟨5, 0, 0, 0, 0, 0, 0, 0, 0, 0, false, false, false, 0, 0, 0, false⟩, nilV, [2, 6]⟩ : Rw)) (l := []) hy hk hq (by kernel_rfl) (al_sd hW (by kernel_rfl))
        · exact par_alV (n := 2) (r := (⟨[83, 84, 82, 42], ⟨5, 0, 0, 0, 0, 0, 0, 0, 0, 0, false, false, false, 0, 0, 0, false⟩, nilV, [2, 6]⟩ : Rw)) (l := []) hy hk hq (by kernel_rfl) (al_sd hW (by kernel_rfl))
        · exact par_alV (n := 4) (r := (⟨[83, 84, 82, 42], ⟨5, 0, 0, 0, 0, 0, 0, 0, 0, 0, false, false, false, 0, 0, 0, false⟩, nilV, [2, 6]⟩ : Rw)) (l := []) hy hk hq (by kernel_rfl) (al_sd hW (by kernel_rfl))
        · exact par_alV (n := 8) (r := (⟨[83, 84, 82, 42], ⟨5, 0, 0, 0, 0, 0, 0, 0, 0, 0, false, false, false, 0, 0, 0, false⟩, nilV, [2, 6]⟩ : Rw)) (l := []) hy hk hq (by kernel_rfl) (al_sd hW (by kernel_rfl))
        · exact par_alV (n := 1) (r := (⟨[83, 84, 76, 82, 42], ⟨5, 0, 0, 0, 0, 0, 0, 0, 0, 0, false, false, true, 0, 0, 0, false⟩, nilV, [2, 6]⟩ : Rw)) (l := []) hy hk hq (by kernel_rfl) (al_sd hW (by kernel_rfl))
        · exact par_alV (n := 2) (r := (⟨[83, 84, 76, 82, 42], ⟨5, 0, 0, 0, 0, 0, 0, 0, 0, 0, false, false, true, 0, 0, 0, false⟩, nilV, [2, 6]⟩ : Rw)) (l := []) hy hk hq (by kernel_rfl) (al_sd hW (by kernel_rfl))
        · exact par_alV (n := 4) (r := (⟨[83, 84, 76, 82, 42], ⟨5, 0, 0, 0, 0, 0, 0, 0, 0, 0, false, false, true, 0, 0, 0, false⟩, nilV, [2, 6]⟩ : Rw)) (l := []) hy hk hq (by kernel_rfl) (al_sd hW (by kernel_rfl))
        · exact par_alV (n := 8) (r := (⟨[83, 84, 76, 82, 42], ⟨5, 0, 0, 0, 0, 0, 0, 0, 0, 0, false, false, true, 0, 0, 0, false⟩, nilV, [2, 6]⟩ : Rw)) (l := []) hy hk hq (by kernel_rfl) (al_sd hW (by kernel_rfl))
        · exact par_alV (n := 1) (r := (⟨[83, 87, 80, 42], ⟨6, 0, 0, 0, 0, 0, 0, 0, 0, 6, false, false, false, 0, 0, 0, false⟩, nilV, [2, 1, 6]⟩ : Rw)) (l := []) hy hk hq (by kernel_rfl) (al_amo hW (by kernel_rfl))
        · exact par_alV (n := 2) (r := (⟨[83, 87, 80, 42], ⟨6, 0, 0, 0, 0, 0, 0, 0, 0, 6, false, false, false, 0, 0, 0, false⟩, nilV, [2, 1, 6]⟩ : Rw)) (l := []) hy hk hq (by kernel_rfl) (al_amo hW (by kernel_rfl))
        · exact par_alV (n := 4) (r := (⟨[83, 87, 80, 42], ⟨6, 0, 0, 0, 0, 0, 0, 0, 0, 6, false, false, false, 0, 0, 0, false⟩, nilV, [2, 1, 6]⟩ : Rw)) (l := []) hy hk hq (by kernel_rfl) (al_amo hW (by kernel_rfl))
        · exact par_alV (n := 8) (r := (⟨[83, 87, 80, 42], ⟨6, 0, 0, 0, 0, 0, 0, 0, 0, 6, false, false, false, 0, 0, 0, false⟩, nilV, [2, 1, 6]⟩ : Rw)) (l := []) hy hk hq (by kernel_rfl) (al_amo hW (by kernel_rfl))
        · exact par_alV (n := 1) (r := (⟨[83, 87, 80, 65, 42], ⟨6, 0, 0, 0, 0, 0, 0, 0, 0, 6, true, false, false, 0, 0, 0, false⟩, nilV, [2, 1, 6]⟩ : Rw)) (l := []) hy hk hq (by kernel_rfl) (al_amo hW (by kernel_rfl))
        · exact par_alV (n := 2) (r := (⟨[83, 87, 80, 65, 42], ⟨6, 0, 0, 0, 0, 0, 0, 0, 0, 6, true, false, false, 0, 0, 0, false⟩, nilV, [2, 1, 6]⟩ : Rw)) (l := []) hy hk hq (by kernel_rfl) (al_amo hW (by kernel_rfl))
        · exact par_alV (n := 4) (r := (⟨[83, 87, 80, 65, 42], ⟨6, 0, 0, 0, 0, 0, 0, 0, 0, 6, true, false, false, 0, 0, 0, false⟩, nilV, [2, 1, 6]⟩ : Rw)) (l := []) hy hk hq (by kernel_rfl) (al_amo hW (by kernel_rfl))
        · exact par_alV (n := 8) (r := (⟨[83, 87, 80, 65, 42], ⟨6, 0, 0, 0, 0, 0, 0, 0, 0, 6, true, false, false, 0, 0, 0, false⟩, nilV, [2, 1, 6]⟩ : Rw)) (l := []) hy hk hq (by kernel_rfl) (al_amo hW (by kernel_rfl))
        · exact par_alV (n := 1) (r := (⟨[83, 87, 80, 76, 42], ⟨6, 0, 0, 0, 0, 0, 0, 0, 0, 6, false, false, true, 0, 0, 0, false⟩, nilV, [2, 1, 6]⟩ : Rw)) (l := []) hy hk hq (by kernel_rfl) (al_amo hW (by kernel_rfl))
        · exact par_alV (n := 2) (r := (⟨[83, 87, 80, 76, 42], ⟨6, 0, 0, 0, 0, 0, 0, 0, 0, 6, false, false, true, 0, 0, 0, false⟩, nilV, [2, 1, 6]⟩ : Rw)) (l := []) hy hk hq (by kernel_rfl) (al_amo hW (by kernel_rfl))
        · exact par_alV (n := 4) (r := (⟨[83, 87, 80, 76, 42], ⟨6, 0, 0, 0, 0, 0, 0, 0, 0, 6, false, false, true, 0, 0, 0, false⟩, nilV, [2, 1, 6]⟩ : Rw)) (l := []) hy hk hq (by kernel_rfl) (al_amo hW (by kernel_rfl))
        · exact par_alV (n := 8) (r := (⟨[83, 87, 80, 76, 42], ⟨6, 0, 0, 0, 0, 0, 0, 0, 0, 6, false, false, true, 0, 0, 0, false⟩, nilV, [2, 1, 6]⟩ : Rw)) (l := []) hy hk hq (by kernel_rfl) (al_amo hW (by kernel_rfl))
        · exact par_alV (n := 1) (r := (⟨[83, 87, 80, 65, 76, 42], ⟨6, 0, 0, 0, 0, 0, 0, 0, 0, 6, true, false, true, 0, 0, 0, false⟩, nilV, [2, 1, 6]⟩ : Rw)) (l := []) hy hk hq (by kernel_rfl) (al_amo hW (by kernel_rfl))
        · exact par_alV (n := 2) (r := (⟨[83, 87, 80, 65, 76, 42], ⟨6, 0, 0, 0, 0, 0, 0, 0, 0, 6, true, false, true, 0, 0, 0, false⟩, nilV, [2, 1, 6]⟩ : Rw)) (l := []) hy hk hq (by kernel_rfl) (al_amo hW (by kernel_rfl))
        · exact par_alV (n := 4) (r := (⟨[83, 87, 80, 65, 76, 42], ⟨6, 0, 0, 0, 0, 0, 0, 0, 0, 6, true, false, true, 0, 0, 0, false⟩, nilV, [2, 1, 6]⟩ : Rw)) (l := []) hy hk hq (by kernel_rfl) (al_amo hW (by kernel_rfl))
        · exact par_alV (n := 8) (r := (⟨[83, 87, 80, 65, 76, 42], ⟨6, 0, 0, 0, 0, 0, 0, 0, 0, 6, true, false, true, 0, 0, 0, false⟩, nilV, [2, 1, 6]⟩ : Rw)) (l := []) hy hk hq (by kernel_rfl) (al_amo hW (by kernel_rfl))
        · exact par_alV (n := 1) (r := (⟨[76, 68, 65, 68, 68, 42], ⟨6, 0, 0, 0, 0, 0, 0, 0, 0, 1, false, false, false, 0, 0, 0, false⟩, nilV, [2, 1, 6]⟩ : Rw)) (l := []) hy hk hq (by kernel_rfl) (al_amo hW (by kernel_rfl))
        · exact par_alV (n := 2) (r := (⟨[76, 68, 65, 68, 68, 42], ⟨6, 0, 0, 0, 0, 0, 0, 0, 0, 1, false, false, false, 0, 0, 0, false⟩, nilV, [2, 1, 6]⟩ : Rw)) (l := []) hy hk hq (by kernel_rfl) (al_amo hW (by kernel_rfl))
        · exact par_alV (n := 4) (r := (⟨[76, 68, 65, 68, 68, 42], ⟨6, 0, 0, 0, 0, 0, 0, 0, 0, 1, false, false, false, 0, 0, 0, false⟩, nilV, [2, 1, 6]⟩ : Rw)) (l := []) hy hk hq (by kernel_rfl) (al_amo hW (by kernel_rfl))
        · exact par_alV (n := 8) (r := (⟨[76, 68, 65, 68, 68, 42], ⟨6, 0, 0, 0, 0, 0, 0, 0, 0, 1, false, false, false, 0, 0, 0, false⟩, nilV, [2, 1, 6]⟩ : Rw)) (l := []) hy hk hq (by kernel_rfl) (al_amo hW (by kernel_rfl))
        · exact par_alV (n := 1) (r := (⟨[76, 68, 65, 68, 68, 65, 42], ⟨6, 0, 0, 0, 0, 0, 0, 0, 0, 1, true, false, false, 0, 0, 0, false⟩, nilV, [2, 1, 6]⟩ : Rw)) (l := []) hy hk hq (by kernel_rfl) (al_amo hW (by kernel_rfl))
        · exact par_alV (n := 2) (r := (⟨[76, 68, 65, 68, 68, 65, 42], ⟨6, 0, 0, 0, 0, 0, 0, 0, 0, 1, true, false, false, 0, 0, 0, false⟩, nilV, [2, 1, 6]⟩ : Rw)) (l := []) hy hk hq (by kernel_rfl) (al_amo hW (by kernel_rfl))
        · exact par_alV (n := 4) (r := (⟨[76, 68, 65, 68, 68, 65, 42], ⟨6, 0, 0, 0, 0, 0, 0, 0, 0, 1, true, false, false, 0, 0, 0, false⟩, nilV, [2, 1, 6]⟩ : Rw)) (l := []) hy hk hq (by kernel_rfl) (al_amo hW (by kernel_rfl))
        · exact par_alV (n := 8) (r := (⟨[76, 68, 65, 68, 68, 65, 42], ⟨6, 0, 0, 0, 0, 0, 0, 0, 0, 1, true, false, false, 0, 0, 0, false⟩, nilV, [2, 1, 6]⟩ : Rw)) (l := []) hy hk hq (by kernel_rfl) (al_amo hW (by kernel_rfl))
        · exact par_alV (n := 1) (r := (⟨[76, 68, 65, 68, 68, 76, 42], ⟨6, 0, 0, 0, 0, 0, 0, 0, 0, 1, false, false, true, 0, 0, 0, false⟩, nilV, [2, 1, 6]⟩ : Rw)) (l := []) hy hk hq (by kernel_rfl) (al_amo hW (by kernel_rfl))
        · exact par_alV (n := 2) (r := (⟨[76, 68, 65, 68, 68, 76, 42], ⟨6, 0, 0, 0, 0, 0, 0, 0, 0, 1, false, false, true, 0, 0, 0, false⟩, nilV, [2, 1, 6]⟩ : Rw)) (l := []) hy hk hq (by kernel_rfl) (al_amo hW (by kernel_rfl))
        · exact par_alV (n := 4) (r := (⟨[76, 68, 65, 68, 68, 76, 42], ⟨6, 0, 0, 0, 0, 0, 0, 0, 0, 1, false, false, true, 0, 0, 0, false⟩, nilV, [2, 1, 6]⟩ : Rw)) (l := []) hy hk hq (by kernel_rfl) (al_amo hW (by kernel_rfl))
        · exact par_alV (n := 8) (r := (⟨[76, 68, 65, 68, 68, 76, 42], ⟨6, 0, 0, 0, 0, 0, 0, 0, 0, 1, false, false, true, 0, 0, 0, false⟩, nilV, [2, 1, 6]⟩ : Rw)) (l := []) hy hk hq (by kernel_rfl) (al_amo hW (by kernel_rfl))
        · exact par_alV (n := 1) (r := (⟨[76, 68, 65, 68, 68, 65, 76, 42], ⟨6, 0, 0, 0, 0, 0, 0, 0, 0, 1, true, false, true, 0, 0, 0, false⟩, nilV, [2, 1, 6]⟩ : Rw)) (l := []) hy hk hq (by kernel_rfl) (al_amo hW (by kernel_rfl))
        · exact par_alV (n := 2) (r := (⟨[76, 68, 65, 68, 68, 65, 76, 42], ⟨6, 0, 0, 0, 0, 0, 0, 0, 0, 1, true, false, true, 0, 0, 0, false⟩, nilV, [2, 1, 6]⟩ : Rw)) (l := []) hy hk hq (by kernel_rfl) (al_amo hW (by kernel_rfl))
        · exact par_alV (n := 4) (r := (⟨[76, 68, 65, 68, 68, 65, 76, 42], ⟨6, 0, 0, 0, 0, 0, 0, 0, 0, 1, true, false, true, 0, 0, 0, false⟩, nilV, [2, 1, 6]⟩ : Rw)) (l := []) hy hk hq (by kernel_rfl) (al_amo hW (by kernel_rfl))
        · exact par_alV (n := 8) (r := (⟨[76, 68, 65, 68, 68, 65, 76, 42], ⟨6, 0, 0, 0, 0, 0, 0, 0, 0, 1, true, false, true, 0, 0, 0, false⟩, nilV, [2, 1, 6]⟩ : Rw)) (l := []) hy hk hq (by kernel_rfl) (al_amo hW (by kernel_rfl))
        · exact par_alV (n := 0) (r := (⟨[73, 83, 66], ⟨8, 0, 0, 0, 0, 0, 0, 0, 0, 0, false, false, false, 0, 0, 0, false⟩, nilV, []⟩ : Rw)) (l := []) hy hk hq (by kernel_rfl) (al_isb)
        · exact par_alV (n := 0) (r := (⟨[67, 66, 90], ⟨9, 0, 0, 0, 0, 0, 0, 0, 0, 0, false, false, false, 0, 0, 0, true⟩, nilV, [2, 7]⟩ : Rw)) (l := []) hy hk hq (by kernel_rfl) (al_br (by kernel_rfl))
        · exact par_alV (n := 0) (r := (⟨[67, 66, 78, 90], ⟨9, 0, 0, 0, 0, 0, 0, 0, 0, 0, false, false, false, 0, 0, 0, false⟩, nilV, [2, 7]⟩ : Rw)) (l := []) hy hk hq (by kernel_rfl) (al_br (by kernel_rfl))
        · exact absurd hq (hD y hy hk)
end
end Go.Proofs.YtedlaclfhgneeabGreatDoor.Old
namespace Go.Proofs.YtedlaclfhgneeabGreatDoor
open Go.RowKit
set_option linter.unusedVariables false
set_option linter.unusedSimpArgs false
set_option maxRecDepth 100000
theorem gO_a : gO armG armC = amO := by kernel_rfl
theorem ten_dmb : ∀ r ∈ armC, 10 ∈ r.ps → r.nm = [68, 77, 66] := by decide +kernel
def dmbR : List Rw := [rwOf ([68, 77, 66], [83, 89], ⟨7, 0, 0, 0, 0, 0, 0, 0, 0, 0, false, false, false, 3, 3, 0, false⟩, [10]), rwOf ([68, 77, 66], [76, 68], ⟨7, 0, 0, 0, 0, 0, 0, 0, 0, 0, false, false, false, 1, 3, 0, false⟩, [10]), rwOf ([68, 77, 66], [83, 84], ⟨7, 0, 0, 0, 0, 0, 0, 0, 0, 0, false, false, false, 2, 2, 0, false⟩, [10])]
theorem dmb_fold : armC.foldl (nSt armG [68, 77, 66]) (0, []) = (0, dmbR) := by kernel_rfl
section
variable {ws : List Tk}
theorem not_dmb (hD : ∀ y, ws[0]? = some y → (y.kind == 1) = true → y.text ≠ [68, 77, 66]) : ∀ r ∈ naR armG ws armC Ps.z0, ∀ p ∈ r.ps, p ≠ 10 := by
  intro r hr p hp e
  subst e
  unfold naR at hr
  split at hr
  · next hk =>
    have hk' : (ws.getD 0 tok0).kind = 1 := hk
    unfold naZ zK at hr
    rw [List.take_length] at hr
    rcases nfl_sz _ _ _ hr with h | h
    · cases h
    · have hnm := ten_dmb r h.1 hp
      have h2 := h.2
      rw [hnm] at h2
      have h3 : ((ws.getD 0 tok0).text == [68, 77, 66]) = true := h2
      have hl : 0 < ws.length := by
        rcases Nat.lt_or_ge 0 ws.length with q | q
        · exact q
        · rw [tk_out (by omega)] at hk'; exact absurd hk' (by decide)
      exact hD _ (tk_get hl) (by rw [hk']; rfl) (eq_of_beq h3)
  · cases hr
end
theorem dmb_lft (t : Tk) : lft armG 0 t dmbR = if ((t.kind == 1) && (t.text == [83, 89])) = true then [dmbR.getD 0 Rw.z] else if ((t.kind == 1) && (t.text == [76, 68])) = true then [dmbR.getD 1 Rw.z] else if ((t.kind == 1) && (t.text == [83, 84])) = true then [dmbR.getD 2 Rw.z] else [] := by
  have e0 : stk armG 0 t (dmbR.getD 0 Rw.z) = !((t.kind == 1) && (t.text == [83, 89])) := rfl
  have e1 : stk armG 0 t (dmbR.getD 1 Rw.z) = !((t.kind == 1) && (t.text == [76, 68])) := rfl
  have e2 : stk armG 0 t (dmbR.getD 2 Rw.z) = !((t.kind == 1) && (t.text == [83, 84])) := rfl
  unfold lft
  show List.filter _ [dmbR.getD 0 Rw.z, dmbR.getD 1 Rw.z, dmbR.getD 2 Rw.z] = _
  simp only [List.filter_cons, List.filter_nil, e0, e1, e2, Bool.not_not]
  by_cases h0 : t.text = [83, 89]
  · rw [h0]; cases (t.kind == 1) <;> rfl
  · by_cases h1 : t.text = [76, 68]
    · rw [h1]; cases (t.kind == 1) <;> rfl
    · by_cases h2 : t.text = [83, 84]
      · rw [h2]; cases (t.kind == 1) <;> rfl
      · rw [beq_eq_false_iff_ne.2 h0, beq_eq_false_iff_ne.2 h1, beq_eq_false_iff_ne.2 h2]; cases (t.kind == 1) <;> rfl
section
variable {ws : List Tk}
theorem dmb_inst (hk : (ws.getD 0 tok0).kind = 1) (ht : (ws.getD 0 tok0).text = [68, 77, 66]) : inF armG ws armC Ps.z0 = inst armG ws 2 0 dmbR ⟨zIn, [], 0, 0, nxK ws 0⟩ := by
  have hz : naZ armG ws armC Ps.z0 = (0, dmbR) := by
    unfold naZ zK; rw [List.take_length]
    show armC.foldl (nSt armG (ws.getD 0 tok0).text) (0, []) = _
    rw [ht]; exact dmb_fold
  have hr : naR armG ws armC Ps.z0 = dmbR := by
    unfold naR; rw [if_pos (show (ws.getD Ps.z0.p tok0).kind = 1 from hk), hz]
  have hs : naS armG ws armC Ps.z0 = ⟨zIn, [], 0, 0, nxK ws 0⟩ := by
    unfold naS; rw [if_pos (show (ws.getD Ps.z0.p tok0).kind = 1 from hk), hz]; rfl
  unfold inF inN
  rw [hr, hs]; rfl
theorem inst_one {z : Ps} {r : Rw} (h : r.ps.length = 1) : inst armG ws 1 1 [r] z = (z, [r]) := by
  have e : goB [r] 1 = false := by unfold goB; show (_ && decide ((1 : Int) < ((r.ps.length : Nat) : Int))) = false; rw [h]; rfl
  show (if goB [r] 1 = true then _ else _) = _
  rw [e]; rfl
theorem inst_two (z : Ps) : inst armG ws 2 0 dmbR z = inst armG ws 1 1 (lft armG 0 (ws.getD z.p tok0) dmbR) (nxS armG ws 0 dmbR z) := rfl
theorem dmb_alike (hw : WsOK ws) (hf : Old.WF ws) (hl : 0 < ws.length) : Old.Alike (toP (inst armG ws 2 0 dmbR ⟨zIn, [], 0, 0, 1⟩).1, (inst armG ws 2 0 dmbR ⟨zIn, [], 0, 0, 1⟩).2.map toR) (barA ws Old.tA).1 (Old.Ins.mk 7 (-1) (-1) (-1) 0 0 0 (-1) 0 0 false false false (barA ws Old.tA).2.1 (barA ws Old.tA).2.2 0 false) [] := by
  rw [inst_two]
  have en : n1 ws 0 (⟨zIn, [], 0, 0, 1⟩ : Ps) = ⟨zIn, [], 0, 0, 1⟩ := rfl
  have hd := dmb_lft (ws.getD 1 tok0)
  have hlen : ∀ w : List UInt8, (((ws.getD 1 tok0).kind == 1) && ((ws.getD 1 tok0).text == w)) = true → 1 < ws.length := fun w h => by
    rcases Nat.lt_or_ge 1 ws.length with q | q
    · exact q
    · rw [tk_out (by omega)] at h; rw [Bool.and_eq_true] at h; exact absurd h.1 (by decide)
  have step : ∀ (r : Rw) (w : List UInt8), r.ps = [10] → lft armG 0 (ws.getD 1 tok0) dmbR = [r] → (((ws.getD 1 tok0).kind == 1) && ((ws.getD 1 tok0).text == w)) = true → inst armG ws 1 1 (lft armG 0 (ws.getD 1 tok0) dmbR) (nxS armG ws 0 dmbR ⟨zIn, [], 0, 0, 1⟩) = (⟨zIn, [], 0, 0, 1 + 1⟩, [r]) := fun r w hr hL hk => by
    have hx : nxR armG ws 0 dmbR (⟨zIn, [], 0, 0, 1⟩ : Ps) = [r] := hL
    have hb : beS armG ws 0 dmbR (⟨zIn, [], 0, 0, 1⟩ : Ps) = ⟨zIn, [], 0, 0, 1⟩ := by
      unfold beS; rw [if_neg]; rw [show (⟨zIn, [], 0, 0, 1⟩ : Ps).p = 1 from rfl, hL]; exact Nat.one_ne_zero
    have hS : nxS armG ws 0 dmbR ⟨zIn, [], 0, 0, 1⟩ = ⟨zIn, [], 0, 0, 1 + 1⟩ := by
      unfold nxS
      rw [hx, if_pos (show ((([r].length : Nat) : Int)) > 0 from Int.zero_lt_one), en, hb]
      show ptS armG ws (r.ps.getD 0 0) _ = _
      rw [hr]
      show (⟨zIn, [], 0, 0, nxK ws 1⟩ : Ps) = _
      rw [nxK_y (hlen w hk)]
    rw [hL, hS]; exact inst_one (by rw [hr]; rfl)
  have bar : barA ws Old.tA = match ws[1]? with
    | some y => if y.kind == 1 && y.text == [83, 89] then (⟨0, 0, 1 + 1⟩, 3, 3) else if y.kind == 1 && y.text == [76, 68] then (⟨0, 0, 1 + 1⟩, 1, 3) else if y.kind == 1 && y.text == [83, 84] then (⟨0, 0, 1 + 1⟩, 2, 2) else (Old.oddR ws true Old.tA, 3, 3)
    | none => (Old.oddR ws true Old.tA, 3, 3) := rfl
  have good : ∀ (r : Rw) (w : List UInt8) (a b : Int), r.ps = [10] → lft armG 0 (ws.getD 1 tok0) dmbR = [r] → (((ws.getD 1 tok0).kind == 1) && ((ws.getD 1 tok0).text == w)) = true → barA ws Old.tA = (⟨0, 0, 1 + 1⟩, a, b) → Old.withR (toR r) (toO zIn) = Old.Ins.mk 7 (-1) (-1) (-1) 0 0 0 (-1) 0 0 false false false a b 0 false → Old.Alike (toP (inst armG ws 1 1 (lft armG 0 (ws.getD 1 tok0) dmbR) (nxS armG ws 0 dmbR ⟨zIn, [], 0, 0, 1⟩)).1, (inst armG ws 1 1 (lft armG 0 (ws.getD 1 tok0) dmbR) (nxS armG ws 0 dmbR ⟨zIn, [], 0, 0, 1⟩)).2.map toR) (barA ws Old.tA).1 (Old.Ins.mk 7 (-1) (-1) (-1) 0 0 0 (-1) 0 0 false false false (barA ws Old.tA).2.1 (barA ws Old.tA).2.2 0 false) [] := fun r w a b hr hL hk hb hi => by
    rw [step r w hr hL hk, hb]
    exact ⟨.inl ⟨rfl, rfl, rfl⟩, fun _ => ⟨hi, rfl⟩⟩
  have get : ∀ w : List UInt8, (((ws.getD 1 tok0).kind == 1) && ((ws.getD 1 tok0).text == w)) = true → ws[1]? = some (ws.getD 1 tok0) := fun w h => tk_get (hlen w h)
  cases c0 : (((ws.getD 1 tok0).kind == 1) && ((ws.getD 1 tok0).text == [83, 89])) with
  | true =>
    rw [c0, if_pos rfl] at hd
    exact good _ _ 3 3 rfl hd c0 (by rw [bar, get _ c0]; simp only [c0, if_true]) rfl
  | false =>
    rw [c0, if_neg (by decide)] at hd
    cases c1 : (((ws.getD 1 tok0).kind == 1) && ((ws.getD 1 tok0).text == [76, 68])) with
    | true =>
      rw [c1, if_pos rfl] at hd
      exact good _ _ 1 3 rfl hd c1 (by rw [bar, get _ c1]; simp only [c0, c1, if_true, if_false, Bool.false_eq_true]) rfl
    | false =>
      rw [c1, if_neg (by decide)] at hd
      cases c2 : (((ws.getD 1 tok0).kind == 1) && ((ws.getD 1 tok0).text == [83, 84])) with
      | true =>
        rw [c2, if_pos rfl] at hd
        exact good _ _ 2 2 rfl hd c2 (by rw [bar, get _ c2]; simp only [c0, c1, c2, if_true, if_false, Bool.false_eq_true]) rfl
      | false =>
        rw [c2, if_neg (by decide)] at hd
        have hb : barA ws Old.tA = (Old.oddR ws true Old.tA, 3, 3) := by
          rw [bar]
          by_cases h1 : 1 < ws.length
          · rw [tk_get h1]; simp only [c0, c1, c2, if_false, Bool.false_eq_true]
          · rw [tk_non h1]
        have hx : nxR armG ws 0 dmbR (⟨zIn, [], 0, 0, 1⟩ : Ps) = [] := hd
        have hf0 : fstX (ask10 0) dmbR = 0 := by kernel_rfl
        have hS : toP (nxS armG ws 0 dmbR ⟨zIn, [], 0, 0, 1⟩) = Old.refP ws (if ((ws.getD 1 tok0).kind == 1) = true then 21 else 22) (toP ⟨zIn, [], 0, 0, 1⟩) := by
          unfold nxS
          rw [hx, if_neg (by decide), en]
          unfold beS
          rw [if_pos (show (lft armG 0 (ws.getD (⟨zIn, [], 0, 0, 1⟩ : Ps).p tok0) dmbR).length = 0 by rw [show (⟨zIn, [], 0, 0, 1⟩ : Ps).p = 1 from rfl, hd]; rfl), ref_o hw]
          unfold mfV
          rw [hf0]
          show Old.refP ws (if (_ && ((ws.getD 1 tok0).kind == 1)) = true then 21 else 22) _ = _
          cases ((ws.getD 1 tok0).kind == 1) <;> rfl
        have hinst : inst armG ws 1 1 (lft armG 0 (ws.getD 1 tok0) dmbR) (nxS armG ws 0 dmbR ⟨zIn, [], 0, 0, 1⟩) = (nxS armG ws 0 dmbR ⟨zIn, [], 0, 0, 1⟩, []) := by rw [hd]; rfl
        rw [show (⟨zIn, [], 0, 0, 1⟩ : Ps).p = 1 from rfl] at *
        rw [hinst, hb]
        show Old.Alike (toP (nxS armG ws 0 dmbR ⟨zIn, [], 0, 0, 1⟩), []) (Old.oddR ws true Old.tA) _ _
        rw [hS]
        have hsim : Old.Sim (Old.refP ws (if ((ws.getD 1 tok0).kind == 1) = true then 21 else 22) (toP ⟨zIn, [], 0, 0, 1⟩)) (Old.oddR ws true Old.tA) := Old.sim_odd rfl rfl rfl (by
          show ws.length ≤ 1 ∨ (1 < ws.length ∧ Old.oc ws true 1 = _)
          by_cases h1 : 1 < ws.length
          · refine .inr ⟨h1, ?_⟩
            unfold Old.oc; rw [tk_get h1]; simp only [Bool.true_and]
          · exact .inl (by omega))
        exact ⟨hsim, fun e => absurd e (odd_ne rfl)⟩
end
theorem parm_ref {ws : List Tk} (hw : WsOK ws) (hf : Old.WF ws) : (toO (parI armG ws armC), parT armG ws armC, parE armG ws armC, parA armG ws armC) = parM ws := by
  by_cases hD : ∀ y, ws[0]? = some y → (y.kind == 1) = true → y.text ≠ [68, 77, 66]
  · rw [par_oN hw (arm_pa (show armC.map tm = armT by kernel_rfl)) (not_dmb hD), gO_a]
    exact Old.pa_eqV hf hD
  · obtain ⟨y, hy, hk, ht⟩ : ∃ y, ws[0]? = some y ∧ (y.kind == 1) = true ∧ y.text = [68, 77, 66] := by
      rcases Classical.em (∃ y, ws[0]? = some y ∧ (y.kind == 1) = true ∧ y.text = [68, 77, 66]) with h | h
      · exact h
      · exact absurd (fun y h1 h2 h3 => h ⟨y, h1, h2, h3⟩) hD
    have hl : 0 < ws.length := (List.getElem?_eq_some_iff.1 hy).1
    have hg : ws.getD 0 tok0 = y := by rw [List.getD_eq_getElem?_getD, hy]; rfl
    rw [par_gen hw, dmb_inst (by rw [hg]; exact eq_of_beq hk) (by rw [hg]; exact ht), nxK_y hl, Old.par_nameV hy hk, ht]
    exact Old.fin_alike (X := armR ws Old.tA Old.blank [68, 77, 66]) (by kernel_rfl) (dmb_alike hw hf hl)
end Go.Proofs.YtedlaclfhgneeabGreatDoor
namespace Go.Proofs.YtedlaclfhgneeabGreatDoor
set_option linter.unusedVariables false
def skipC : Nat → List UInt8 → Nat × Bool
  | 0, _ => (0, false)
  | _ + 1, [] => (0, false)
  | n + 1, b :: r =>
    if blkB b then ((skipC n r).1 + 1, (skipC n r).2)
    else if preB (b :: r) [40, 42] then
      if endR ((b :: r).drop 2) < 0 then (0, true)
      else ((skipC n ((b :: r).drop (endR ((b :: r).drop 2)).toNat.succ.succ.succ.succ)).1 + ((endR ((b :: r).drop 2)).toNat + 4), (skipC n ((b :: r).drop (endR ((b :: r).drop 2)).toNat.succ.succ.succ.succ)).2)
    else (0, false)
theorem skip_C : ∀ (n : Nat) (l : List UInt8), l.length ≤ n → skipL l = skipC n l := by
  intro n
  induction n with
  | zero => intro l hl; obtain rfl : l = [] := List.eq_nil_of_length_eq_zero (Nat.le_zero.1 hl); rw [skip_nil]; rfl
  | succ n ih =>
    intro l hl
    match l, hl with
    | [], _ => rw [skip_nil]; rfl
    | b :: r, hl =>
      rw [skipL, skipC, ih r (by simpa using hl), ih ((b :: r).drop (endR ((b :: r).drop 2)).toNat.succ.succ.succ.succ) (by rw [List.length_drop]; omega)]
def toksC : Nat → List UInt8 → Nat → List Tk → List Tk × Int × Nat
  | 0, _, _, _ => ([], 0, 0)
  | f + 1, l, a, ws =>
    if (skipC l.length (l.drop a)).2 then ([], 24, a + (skipC l.length (l.drop a)).1)
    else if a + (skipC l.length (l.drop a)).1 = l.length then (ws, 0, 0)
    else if (firstR (l.drop (a + (skipC l.length (l.drop a)).1))).2 = 0 then
      toksC f l (a + (skipC l.length (l.drop a)).1 + (firstR (l.drop (a + (skipC l.length (l.drop a)).1))).1.text.length) (ws ++ [{ (firstR (l.drop (a + (skipC l.length (l.drop a)).1))).1 with at_ := ((a + (skipC l.length (l.drop a)).1 : Nat) : Int) }])
    else ([], (firstR (l.drop (a + (skipC l.length (l.drop a)).1))).2, a + (skipC l.length (l.drop a)).1)
theorem toks_C : ∀ (f : Nat) (l : List UInt8) (a : Nat) (ws : List Tk), toksF f l a ws = toksC f l a ws := by
  intro f
  induction f with
  | zero => intros; rfl
  | succ f ih =>
    intro l a ws
    rw [toksF, toksC, skip_C l.length (l.drop a) (by rw [List.length_drop]; omega), ih]
theorem tokens_C {l : List UInt8} (h : l.length ≤ 8192) : tokensR l = toksC (l.length + 1) l 0 [] := by rw [tokens_short h, toks_C]
end Go.Proofs.YtedlaclfhgneeabGreatDoor
namespace Go.Proofs.YtedlaclfhgneeabGreatDoor
open Go.RowKit
set_option linter.unusedVariables false
set_option linter.unusedSimpArgs false
set_option maxRecDepth 100000
set_option maxHeartbeats 2000000
theorem fnI_nil {I : Amb} {P : Program} {f s : Nat} {F : Nat → List SV} {x : SV} (h : FnI I P f [.sl 0 0 0] [some (.lst s 0 F)] (Rt x [some (.lst s 0 F)])) (hF : ∀ k, ∃ vs, denL [] (F k) = some vs) (hx : ∀ G, den G x = den [] x) : FnI I P f [.sla none 0 0] [] (Rt x []) := by
  refine ⟨h.1, fun G w vs hM hI hv => ?_⟩
  have hG : G = [] := List.length_eq_zero_iff.1 hM.len.symm
  subst hG
  have hM2 : Mem [some (.lst s 0 F)] [none] w := ⟨rfl, fun i e he => by
    match i, he with
    | 0, he => cases he; exact ⟨hF, .inl rfl⟩
    | i + 1, he => set_option simprocs true in simp at he, fun i j e g L M hij hi hj he hL => by
    match i, hi with
    | 0, hi => set_option simprocs true in simp at hL
    | i + 1, hi => set_option simprocs true in simp at hi⟩
  refine Calls.mono (h.2 [none] w vs hM2 hI hv) fun e w' ⟨x', H', F', v, ⟨q1, q2⟩, r1, r2, r3, r4, r5, r6, r7⟩ => ?_
  subst q1; subst q2
  exact ⟨_, _, [], v, ⟨rfl, rfl⟩, by rw [hx] at r1 ⊢; exact r1, r2, ⟨rfl, fun i e he => by set_option simprocs true in simp at he, fun i j e g L M hij hi => by set_option simprocs true in simp at hi⟩, r4, Nat.le_refl _, fun i e he => by set_option simprocs true in simp at he, fun i e he => by set_option simprocs true in simp at he⟩
theorem ws0_ok : WsOK [] := fun t h => by cases h
end Go.Proofs.YtedlaclfhgneeabGreatDoor
namespace Go.Proofs.YtedlaclfhgneeabGreatDoor
open Go.RowKit
set_option linter.unusedVariables false
set_option linter.unusedSimpArgs false
set_option maxRecDepth 100000
set_option maxHeartbeats 2000000
set_option simprocs false
theorem regnm_a (r : Int) : regnm0 [88, 48] [88, 49] [88, 50] [88, 51] [88, 52] [88, 53] [88, 54] [88, 55] r = nameA r := by
  unfold regnm0
  split
  · next h => rw [nameA_o (by revert h; simp only [Bool.or_eq_true, decide_eq_true_eq]; omega)]
  · next h =>
    have : r = 0 ∨ r = 1 ∨ r = 2 ∨ r = 3 ∨ r = 4 ∨ r = 5 ∨ r = 6 ∨ r = 7 := by
      revert h; simp only [Bool.or_eq_true, decide_eq_true_eq]; omega
    rcases this with e | e | e | e | e | e | e | e <;> subst e <;> rfl
theorem aname_ (r : Int)  : Fn Tryz.prog 14 [.int .i64 r] [] (Rt (.str (nameA r)) []) :=
 enterM (n := 6) (by kernel_rfl) Tryz.func14 rfl rfl rfl fun G w a h0 A => N hX 7 A rfl rfl fun A => CALL1 [] aregs_ A rfl rfl rfl rfl rfl rfl rfl fun A => N hX 1 A rfl rfl fun A => CALL1 [] (regnm_ [88, 48] [88, 49] [88, 50] [88, 51] [88, 52] [88, 53] [88, 54] [88, 55] r) A rfl rfl rfl rfl rfl rfl rfl fun A => N hX 4 A rfl rfl fun A => RETN hX A rfl rfl rfl h0 rfl rfl rfl rfl (by rw [← regnm_a] <;> rfl) rfl
theorem areg_ (q : List UInt8)  : Fn Tryz.prog 16 [.str q] [] (Rt (.int .i64 (regA q)) []) :=
 enterM (n := 6) (by kernel_rfl) Tryz.func16 rfl rfl rfl fun G w a h0 A => N hX 7 A rfl rfl fun A => CALL1 [] aregs_ A rfl rfl rfl rfl rfl rfl rfl fun A => N hX 1 A rfl rfl fun A => CALL1 [] (lreg_ [88, 48] [88, 49] [88, 50] [88, 51] [88, 52] [88, 53] [88, 54] [88, 55] q) A rfl rfl rfl rfl rfl rfl rfl fun A => N hX 4 A rfl rfl fun A => RETN hX A rfl rfl rfl h0 rfl rfl rfl rfl (by unfold regA; rw [← idxS_L] <;> rfl) rfl
def txt7 : List UInt8 := [76, 68, 65, 80, 82, 72, 32, 88, 48, 44, 91, 120, 43, 50, 93]
def ws7 : List Tk := [⟨1, [76, 68, 65, 80, 82, 72], 0, 0⟩, ⟨1, [88, 48], 0, 7⟩, ⟨3, [44], 0, 9⟩, ⟨3, [91], 0, 10⟩, ⟨1, [120], 0, 11⟩, ⟨3, [43], 0, 12⟩, ⟨2, [50], 2, 13⟩, ⟨3, [93], 0, 14⟩]
def ins7 : In := ⟨4, 0, -1, -1, 0, 0, 2, -1, 2, 0, false, true, false, 0, 0, 0, false⟩
theorem tok7 : tokensR txt7 = (ws7, 0, 0) := by rw [tokens_C (by decide)]; kernel_rfl
theorem ws7_ok : WsOK ws7 := by unfold WsOK; decide
theorem par7I : parI armG ws7 armC = ins7 := by kernel_rfl
theorem par7T : parT armG ws7 armC = [] := by kernel_rfl
theorem par7E : parE armG ws7 armC = 0 := by kernel_rfl
theorem paa0E : parE armG [] armC = 24 := by kernel_rfl
theorem paa0A : parA armG [] armC = 0 := by kernel_rfl
theorem prt7 : prP armG armC ins7 [] = (txt7, 0) := by kernel_rfl
theorem reg3a : regA (nameA 3) = 3 := by decide +kernel
theorem ins7R : InR ins7 := ⟨by decide, by decide⟩
theorem able7_  (os : List (Nat × Obj)) (hM : ∀ w ks, Gl os w ks → ∃ m, w.cell? ⟨0, 0, none⟩ = some (.int .i64 m)) (hT : ∀ w ks, Gl os w ks → Lib.TabIs Tryz.prog w "internal/strconv.uint64pow10" .u64 Lib.pow10Tab) (hE : ∀ w ks, Gl os w ks → ∃ ev, w.cell? ⟨1, 0, none⟩ = some ev ∧ (ev = .nilIface ∨ ∃ te pe, ev = .iface te pe)) : FnI (Gl os) Tryz.prog 8 [] [] (Rt (.tt) []) :=
 enterI (n := 66) (by kernel_rfl) Tryz.func8 rfl rfl rfl fun G w a h0 hI A => N hX 7 A rfl rfl fun A => CALLI [] Gl.ok hI (tokens_ok txt7 ws7 os hM hE tok7) A rfl rfl rfl rfl rfl rfl rfl fun A => N hX 12 A rfl rfl fun A => have A := A.freeze 0 rfl; CALLI [0] Gl.ok hI (aparse_ ws7 0 (by decide) ws7_ok os hM) A rfl rfl rfl rfl rfl rfl rfl fun A => N hX 16 A rfl rfl fun A => CALLI [] Gl.ok hI (aprint_ (parI armG ws7 armC) (parT armG ws7 armC) os hM hT hE (fun L hL => arm_prok (by rw [par7I]; exact ins7R) (by rw [par7T]; decide) hL)) A rfl rfl rfl rfl rfl rfl rfl fun A => N hX 9 A rfl rfl fun A => CALLI [] Gl.ok hI (fnI_nil (aparse_ [] 0 (by decide) ws0_ok os hM) (fun k => ⟨_, rfl⟩) (fun _ => rfl)) A rfl rfl rfl rfl rfl rfl rfl fun A => N hX 17 A rfl rfl fun A => forkE 40 A rfl
  (fun h1 A => N hX 4 A rfl rfl fun A => forkE 44 A rfl
   (fun h2 A => N hX 4 A rfl rfl fun A => forkE 48 A rfl
    (fun h3 A => N hX 5 A rfl rfl fun A => forkE 53 A rfl
     (fun h4 A => N hX 4 A rfl rfl fun A => forkE 57 A rfl
      (fun h5 A => N hX 4 A rfl rfl fun A => forkE 61 A rfl
       (fun h6 A => CALL1 [] (aname_ 3) A rfl rfl rfl rfl rfl rfl rfl fun A => CALL1 [] (areg_ (nameA 3)) A rfl rfl rfl rfl rfl rfl rfl fun A => N hX 6 A rfl rfl fun A => RETN hX A rfl rfl rfl h0 rfl rfl rfl rfl (by rw [reg3a]; rfl) rfl)
       (fun h6 A => N hX 8 A rfl rfl fun A => RETN hX A rfl rfl rfl h0 rfl rfl rfl rfl (absurd paa0A h6) rfl))
      (fun h5 A => N hX 12 A rfl rfl fun A => RETN hX A rfl rfl rfl h0 rfl rfl rfl rfl (absurd paa0E h5) rfl))
     (fun h4 A => N hX 16 A rfl rfl fun A => RETN hX A rfl rfl rfl h0 rfl rfl rfl rfl (absurd (by rw [par7I]; rfl) h4) rfl))
    (fun h3 A => N hX 21 A rfl rfl fun A => RETN hX A rfl rfl rfl h0 rfl rfl rfl rfl (absurd (by rw [par7I, par7T, prt7]; rfl) h3) rfl))
   (fun h2 A => N hX 25 A rfl rfl fun A => RETN hX A rfl rfl rfl h0 rfl rfl rfl rfl (absurd (by rw [par7I, par7T, prt7]) h2) rfl))
  (fun h1 A => N hX 29 A rfl rfl fun A => RETN hX A rfl rfl rfl h0 rfl rfl rfl rfl (absurd par7E h1) rfl)
end Go.Proofs.YtedlaclfhgneeabGreatDoor
namespace Go.Proofs.YtedlaclfhgneeabGreatDoor
open Go.RowKit
set_option linter.unusedVariables false
set_option linter.unusedSimpArgs false
set_option maxRecDepth 100000
theorem ws_toks : ∀ (f : Nat) (l : List UInt8) (a : Nat) (ws : List Tk), a ≤ l.length → ws.length ≤ a → (∀ t ∈ ws, 0 ≤ t.at_ ∧ t.at_ ≤ (l.length : Int) ∧ t.text.length ≤ l.length) → (toksF f l a ws).1.length ≤ l.length ∧ ∀ t ∈ (toksF f l a ws).1, 0 ≤ t.at_ ∧ t.at_ ≤ (l.length : Int) ∧ t.text.length ≤ l.length
  | 0, l, a, ws, ha, hl, h => ⟨Nat.zero_le _, fun y hy => by cases hy⟩
  | f + 1, l, a, ws, ha, hl, h => by
    rw [toksF]
    split
    · exact ⟨Nat.zero_le _, fun y hy => by cases hy⟩
    · split
      · exact ⟨show ws.length ≤ l.length by omega, h⟩
      · next hne =>
        split
        · next hf =>
          have hs := skip_le (l.drop a)
          rw [List.length_drop] at hs
          have hn := first_len hf
          rw [List.length_drop] at hn
          refine ws_toks f l _ _ (by omega) (by simp only [List.length_append, List.length_cons, List.length_nil]; omega) fun y hy => ?_
          rcases List.mem_append.1 hy with hy | hy
          · exact h y hy
          · rw [List.mem_singleton] at hy
            subst hy
            exact ⟨by show 0 ≤ ((_ : Nat) : Int); omega, by show ((_ : Nat) : Int) ≤ _; omega, by show (firstR _).1.text.length ≤ _; omega⟩
        · exact ⟨Nat.zero_le _, fun y hy => by cases hy⟩
theorem ws_tokens {l : List UInt8} {ws : List Tk} (h : tokensR l = (ws, 0, 0)) : ws.length ≤ 8192 ∧ WsOK ws ∧ Old.WF ws := by
  have hf := Old.wf_tokens l
  rw [h] at hf
  by_cases hl : l.length > 8192
  · rw [tokens_long hl] at h
    have := congrArg (fun z => z.2.1) h
    exact absurd (show (2 : Int) = 0 from this) (by decide)
  · have hw := ws_toks (l.length + 1) l 0 [] (Nat.zero_le _) (Nat.zero_le _) (fun t ht => by cases ht)
    rw [← tokens_short (by omega), h] at hw
    refine ⟨by have := hw.1; simp only at this; omega, fun t ht => ?_, hf⟩
    have := hw.2 t ht
    exact ⟨this.1, by omega, by omega⟩
theorem fnI_ro {I : Amb} {P : Program} {f : Nat} {az : List SV} {H H' : Hp} {x : SV} (h : FnI I P f az H (Rt x H)) (hro : ∀ (i : Nat) (e : Ent), H[i]? = some (some e) → e.mut = false) (hw : ∀ G w, Mem H' G w → Mem H G w) (hJ : ∀ w G, I w (keys H' G) → I w (keys H G)) (hx : inS 0 x = true) : FnI I P f az H' (Rt x H') := by
  refine ⟨h.1, fun G w vs hM hI hv => Calls.mono (h.2 G w vs (hw G w hM) (hJ w G hI) hv) fun e w' hp => ?_⟩
  obtain ⟨v, F, h1, h2, _, hg⟩ := post_ro hp hro
  refine ⟨x, H', [], v, ⟨rfl, rfl⟩, ?_, h2, ?_, (Mix.refl _ w).grow hg, by rw [hM.len]; exact Nat.le_refl _, fun i e he _ => he, fun i e he hm L hL => ?_⟩
  · rw [← den_take x hx] at h1 ⊢; simpa using h1
  · rw [List.append_nil]; exact ⟨hM.len, fun i e he => (hM.ent i e he).mix hg.mix (fun _ _ _ => rfl), hM.sep⟩
  · rw [List.append_nil] at hL; exact .inl (mem_keys.2 ⟨i, e, L, he, hm, hL, rfl⟩)
theorem ro1 {s m : Nat} {f : Nat → List SV} : ∀ (i : Nat) (e : Ent), ([some (.lst s m f)] : Hp)[i]? = some (some e) → e.mut = false
  | 0, e, h => by cases h; rfl
  | i + 1, e, h => by simp at h
theorem mem_pre {s m m' : Nat} {f f' : Nat → List SV} (hm : m ≤ m') (hf : ∀ k, k < m → f' k = f k) (ht : ∀ k, ∃ vs, denL [] (f k) = some vs) (G : Gr) (w : World) (h : Mem [some (.lst s m' f')] G w) : Mem [some (.lst s m f)] G w := by
  refine ⟨h.len, fun i e he => ?_, fun i j e g L M hij hi hj he => ?_⟩
  · match i, he with
    | 0, he =>
      cases he
      obtain ⟨_, q⟩ := h.ent 0 _ rfl
      refine ⟨ht, ?_⟩
      rcases q with q | ⟨L, q1, q2, q3⟩
      · exact .inl (by omega)
      · exact .inr ⟨L, q1, q2, fun k hk => by rw [← hf k hk]; exact q3 k (by omega)⟩
    | i + 1, he => simp at he
  · match i, hi with
    | 0, hi => cases hi; cases he
    | i + 1, hi => simp at hi
theorem keys1 {s m : Nat} {f : Nat → List SV} (G : Gr) : keys [some (.lst s m f)] G = [] := by
  cases G with
  | nil => rfl
  | cons p G => cases p <;> rfl
end Go.Proofs.YtedlaclfhgneeabGreatDoor
namespace Go.Proofs.YtedlaclfhgneeabGreatDoor
open Go.RowKit
set_option linter.unusedVariables false
set_option linter.unusedSimpArgs false
set_option maxRecDepth 100000
set_option maxHeartbeats 2000000
set_option simprocs false
theorem aparse7_ (ws : List Tk) (hn : ws.length ≤ 1000000) (hw : WsOK ws) (os : List (Nat × Obj)) (hM : ∀ w ks, Gl os w ks → ∃ m, w.cell? ⟨0, 0, none⟩ = some (.int .i64 m)) : FnI (Gl os) Tryz.prog 10 [.sl 0 ws.length 0] [some (.lst 4 ((ws ++ [(⟨0, [], -77, 0⟩ : Tk)]).length) (fun zz => tkc ((ws ++ [(⟨0, [], -77, 0⟩ : Tk)]).getD zz tok0)))] (Rt (.tup [.agg (inQ9 (parI armG ws armC)), .str (parT armG ws armC), .int .i64 (parE armG ws armC), .int .i64 (parA armG ws armC)]) [some (.lst 4 ((ws ++ [(⟨0, [], -77, 0⟩ : Tk)]).length) (fun zz => tkc ((ws ++ [(⟨0, [], -77, 0⟩ : Tk)]).getD zz tok0)))]) :=
  fnI_ro (aparse_ ws 0 hn hw os hM) ro1 (mem_pre (by rw [List.length_append]; omega) (fun k hk => by show tkc _ = tkc _; rw [tk_app hk]) (fun k => ⟨_, rfl⟩)) (fun w G h => by rw [keys1] at h ⊢; exact h) rfl
theorem aparses0_ (l : List UInt8) (os : List (Nat × Obj)) (hM : ∀ w ks, Gl os w ks → ∃ m, w.cell? ⟨0, 0, none⟩ = some (.int .i64 m)) (hT : ∀ w ks, Gl os w ks → Lib.TabIs Tryz.prog w "internal/strconv.uint64pow10" .u64 Lib.pow10Tab) (hE : ∀ w ks, Gl os w ks → ∃ ev, w.cell? ⟨1, 0, none⟩ = some ev ∧ (ev = .nilIface ∨ ∃ te pe, ev = .iface te pe)) : FnI (Gl os) Tryz.prog 3 [.str l] [] (Rt (.tt) []) :=
 enterI (n := 94) (by kernel_rfl) Tryz.func3 rfl rfl rfl fun G w a h0 hI A => N hX 8 A rfl rfl fun A => CALLI [] Gl.ok hI (able7_ os hM hT hE) A rfl rfl rfl rfl rfl rfl rfl fun A => N hX 9 A rfl rfl fun A => tokSp (l := l)
  (fun ws ht => have hq := ws_tokens ht; have hn := hq.1; have hw := hq.2.1; have hf := hq.2.2; CALLI [] Gl.ok hI (tokens_ok l ws os hM hE ht) A rfl rfl rfl rfl rfl rfl rfl fun A => N hX 14 A rfl rfl fun A => have A := sy_sayD A 25 (.ff) rfl (fun _ => congrArg (fun b => some (Value.bool b)) (show (!(0 == 0)) = false by decide)); N hX 9 A rfl rfl fun A => have A := A.freeze 0 rfl; APPL hX ws.length (fun zz => tkc (ws.getD zz tok0)) A rfl rfl rfl rfl (Nat.le_refl _) (by omega) (by omega) (by omega) (fun k hk => absurd hk (Nat.not_lt_zero k)) (fun k hk => by rw [Nat.zero_add]) (fun z => ⟨_, rfl, rfl⟩) (fun k hk => ⟨_, rfl, okE_nil⟩) fun A => N hX 2 A rfl rfl fun A => APP1 hX (ws.length + 1) (fun zz => tkc ((ws ++ [(⟨0, [], -77, 0⟩ : Tk)]).getD zz tok0)) A rfl rfl rfl rfl (by omega) rfl (fun k hk => by show tkc _ = tkc _; rw [tk_app hk]) (by show tkc _ = _; rw [tk_new]; rfl) (fun z => ⟨_, rfl, rfl⟩) fun A => have A := (A.rowAs 4 ((ws ++ [(⟨0, [], -77, 0⟩ : Tk)]).length) (fun zz => tkc ((ws ++ [(⟨0, [], -77, 0⟩ : Tk)]).getD zz tok0)) rfl (by rw [List.length_append]; rfl) (fun q hq => rfl) (fun z => ⟨_, rfl, rfl⟩)).say 34 (.sl 4 ((ws ++ [(⟨0, [], -77, 0⟩ : Tk)]).length) 0) rfl (by rw [List.length_append] <;> rfl); N hX 9 A rfl (ok_d (by show 0 ≤ ((ws.length : Nat) : Int) ∧ ((ws.length : Nat) : Int) ≤ (((ws ++ [(⟨0, [], -77, 0⟩ : Tk)]).length : Nat) : Int); exact (by (try simp only [List.length_append, List.length_cons, List.length_nil]); omega)) <| okE_nil) fun A => have A := A.freeze 4 rfl; CALLI [4] Gl.ok hI (aparse7_ ws (by omega) hw os hM) A rfl rfl rfl rfl rfl rfl rfl fun A => N hX 15 A rfl rfl fun A => CALL1 [0] (rparsea_ ws 0 (by omega) hw) A rfl rfl rfl rfl rfl rfl rfl fun A => N hX 19 A rfl rfl fun A => LOOP1 (fun (i7 : Nat) => [(2, .ff), (3, .sl 0 ws.length 0), (6, .sl 4 ((ws ++ [(⟨0, [], -77, 0⟩ : Tk)]).length) 0), (7, .ptr 5 0), (8, .str (parT armG ws armC)), (9, .int .i64 (parE armG ws armC)), (10, .int .i64 (parA armG ws armC)), (11, .ptr 6 0), (12, .str ((parM ws).2.1)), (13, .int .i64 ((parM ws).2.2.1)), (14, .int .i64 ((parM ws).2.2.2)), (15, .int .i64 (i7 : Int))]) (fun (i7 : Nat) => [some (wQ9 ws), none, none, some (.blk [.int .i64 0, .str [], .int .i64 (-77), .int .i64 0]), some (.lst 4 ((ws ++ [(⟨0, [], -77, 0⟩ : Tk)]).length) (fun zz => tkc ((ws ++ [(⟨0, [], -77, 0⟩ : Tk)]).getD zz tok0))), some (.blk (inQ9 (parI armG ws armC))), some (.blk (oiQ9 ((parM ws).1)))]) (fun (i7 : Nat) => i7 ≤ ws.length) (fun (i7 : Nat) => ws.length - i7) 0 (Nat.zero_le _) ((A.cut [2, 3, 6, 7, 8, 9, 10, 11, 12, 13, 14, 15] rfl).trunc 7 rfl rfl rfl (by simp only [List.length_cons, List.length_nil] at h0; omega)) fun i7 hI {G a w} A => N hX 9 A rfl rfl fun A => forkD 55 A rfl
    (fun h1 A => N hX 6 A rfl rfl fun A => DRAWN hX hmo [] [] A rfl (ok_d (by (try simp only [List.length_append, List.length_cons, List.length_nil]); omega) <| ok_d (by (try simp only [List.length_append, List.length_cons, List.length_nil]); omega) <| ok_d (by (try simp only [List.length_append, List.length_cons, List.length_nil]); omega) <| ok_d (by (try simp only [List.length_append, List.length_cons, List.length_nil]); omega) <| okE_nil) rfl rfl (by kernel_rfl) (effAll_nil _ _) trivial fun A => N hX 1 A rfl rfl fun A => fork 66 A rfl
     (fun h2 A => N hX 7 A rfl rfl fun A => RETN hX A rfl rfl rfl h0 rfl rfl rfl rfl (absurd h2 (by rw [tk_app (ws := ws) (x := (⟨0, [], -77, 0⟩ : Tk)) (k := ((i7 : Int)).toNat) (show ((i7 : Int)).toNat < ws.length by omega)]; simp)) rfl)
     (fun h2 A => N hX 9 A rfl (ok_d (by (try simp only [List.length_append, List.length_cons, List.length_nil]); omega) <| okE_nil) fun A => ⟨i7 + 1, _, (by omega), (by omega), ((A.cut [2, 3, 6, 7, 8, 9, 10, 11, 12, 13, 14, 15] rfl).trunc 7 rfl rfl rfl (by simp only [List.length_cons, List.length_nil] at h0; omega))⟩))
    (fun h1 A => N hX 36 A rfl (ok_r <| ok_r <| ok_r <| ok_r <| ok_r <| ok_r <| ok_r <| ok_r <| ok_r <| ok_r <| ok_r <| ok_r <| ok_g (fun hg => (by (try simp only [List.length_append, List.length_cons, List.length_nil]); omega)) <| ok_r <| ok_g (fun hg => (by (try simp only [List.length_append, List.length_cons, List.length_nil]); omega)) <| ok_r <| ok_g (fun hg => (by (try simp only [List.length_append, List.length_cons, List.length_nil]); omega)) <| ok_r <| ok_r <| okE_nil) fun A => RETN hX A rfl rfl rfl h0 rfl rfl rfl rfl (by have hb : ((((((((parI armG ws armC).op) == (((parM ws).1).op)) && ((((parI armG ws armC).dst) == (((parM ws).1).dst)) && ((((parI armG ws armC).ra) == (((parM ws).1).a)) && ((((parI armG ws armC).rb) == (((parM ws).1).b)) && ((((parI armG ws armC).imm) == (((parM ws).1).imm)) && ((((parI armG ws armC).loc) == (((parM ws).1).loc)) && ((((parI armG ws armC).off) == (((parM ws).1).off)) && ((((parI armG ws armC).ix) == (((parM ws).1).index)) && ((((parI armG ws armC).sz) == (((parM ws).1).size)) && ((((parI armG ws armC).fn) == (((parM ws).1).fn)) && ((((parI armG ws armC).acq) == (((parM ws).1).acq)) && ((((parI armG ws armC).weak) == (((parM ws).1).weak)) && ((((parI armG ws armC).rel) == (((parM ws).1).rel)) && ((((parI armG ws armC).pred) == (((parM ws).1).pred)) && ((((parI armG ws armC).succ) == (((parM ws).1).succ)) && ((((parI armG ws armC).to_) == (((parM ws).1).to)) && (((parI armG ws armC).zero) == (((parM ws).1).zero)))))))))))))))))) && ((parT armG ws armC) == ((parM ws).2.1))) && ((parE armG ws armC) == ((parM ws).2.2.1))) && ((parA armG ws armC) == ((parM ws).2.2.2))) && ((((ws ++ [(⟨0, [], -77, 0⟩ : Tk)]).getD ((((ws.length : Nat) : Int)).toNat) tok0).n) == (-77))) = true := (by rw [← parm_ref hw hf, show ((((ws.length : Nat) : Int)).toNat) = ws.length from rfl, tk_new]; set_option simprocs true in simp [toO]); rw [hb]; rfl) rfl))
  (fun e k he ht => CALLI [] Gl.ok hI (tokens_no l e k os hM hE ht he) A rfl rfl rfl rfl rfl rfl rfl fun A => N hX 14 A rfl rfl fun A => have A := sy_sayD A 25 (.tt) rfl (fun _ => congrArg (fun b => some (Value.bool b)) (show (!(e == 0)) = true by simpa using he)); N hX 12 A rfl rfl fun A => RETN hX A rfl rfl rfl h0 rfl rfl rfl rfl rfl rfl)
theorem aparses_ (l : List UInt8) (os : List (Nat × Obj)) (hM : ∀ w ks, Gl os w ks → ∃ m, w.cell? ⟨0, 0, none⟩ = some (.int .i64 m)) (hT : ∀ w ks, Gl os w ks → Lib.TabIs Tryz.prog w "internal/strconv.uint64pow10" .u64 Lib.pow10Tab) (hE : ∀ w ks, Gl os w ks → ∃ ev, w.cell? ⟨1, 0, none⟩ = some ev ∧ (ev = .nilIface ∨ ∃ te pe, ev = .iface te pe)) (h1 : l.length ≤ 140737488355328) : FnI (Gl os) Tryz.prog 3 [.str l] [] (Rt .tt []) := aparses0_ l os hM hT hE
end Go.Proofs.YtedlaclfhgneeabGreatDoor
