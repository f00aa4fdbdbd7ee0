/- ArmBack, part 4: the engine, contracts, theory. -/
import Derived.Test.YtedlaclfhgneeabGreatDoorArmBackP3
import Derived.Shelf.Strings.Cut
import Derived.Shelf.Spec.SlicesGrow
import Derived.LoopN
namespace Go.Proofs.YtedlaclfhgneeabGreatDoor
open Go.RowKit
set_option linter.unusedVariables false
set_option linter.unusedSimpArgs false
set_option maxRecDepth 100000
set_option maxHeartbeats 2000000
set_option simprocs false
structure As where (p : Nat) (e a : Int)
def WsOK (ws : List Tk) : Prop := ∀ t ∈ ws, 0 ≤ t.at_ ∧ t.at_ ≤ 1000000 ∧ t.text.length ≤ 1000000
def refAt (s : As) (x y : Int) : As := if s.e = 0 then ⟨s.p, x, y⟩ else s
def refA (ws : List Tk) (s : As) (x : Int) : As := refAt s (if s.p < ws.length then x else 24) (atW ws s.p)
def endA (ws : List Tk) (s : As) : As := if s.p < ws.length then refA ws s 25 else s
def goA (s : As) (k : Nat) : As := ⟨k, s.e, s.a⟩
def mkA (ws : List Tk) (s : As) (m : List UInt8) : As := if tkB ws s.p m = true then goA s (tkK ws s.p m) else refA ws (goA s (tkK ws s.p m)) 22
def numA (ws : List Tk) (s : As) : As := if nbB ws s.p = true then goA s (nbK ws s.p) else refA ws (goA s (tkK ws (nbK ws s.p) [45])) 22
section
variable {ws : List Tk} {s : As} {x y : Int} {m : List UInt8}
theorem refAt_p : (refAt s x y).p = s.p := by unfold refAt; split <;> rfl
theorem refA_p : (refA ws s x).p = s.p := refAt_p
theorem endA_le (h : s.p ≤ ws.length) : (endA ws s).p ≤ ws.length := by unfold endA; split <;> (try rw [refA_p]) <;> exact h
theorem mkA_le (h : s.p ≤ ws.length) : (mkA ws s m).p ≤ ws.length := by unfold mkA; split <;> (try rw [refA_p]) <;> exact tkK_le h
theorem numA_le (h : s.p ≤ ws.length) : (numA ws s).p ≤ ws.length := by
  unfold numA; split
  · exact nbK_le h
  · rw [refA_p]; exact tkK_le (nbK_le h)
end
theorem refAt_ (ws : List Tk) (cw : Nat) (s : As) (x : Int) (y : Int) (hk : s.p ≤ ws.length) (hn : ws.length ≤ 1000000) (hw : WsOK ws) : Fn Tryz.prog 174 [.ptr 0 0, .int .i64 x, .int .i64 y] [some (.blk [.ptr 1 0, .int .i64 s.e, .int .i64 s.a]), some (.blk [.sl 2 ws.length cw, .int .i64 ((s.p : Nat) : Int)]), some (wQ9 ws)] (Rt (.tup []) [some (.blk [.ptr 1 0, .int .i64 ((refAt s x y).e), .int .i64 ((refAt s x y).a)]), some (.blk [.sl 2 ws.length cw, .int .i64 (((refAt s x y).p : Nat) : Int)]), some (wQ9 ws)]) :=
 enterM (n := 19) (by kernel_rfl) Tryz.func174 rfl rfl rfl fun G w a h0 A => N hX 9 A rfl rfl fun A => forkE 10 A rfl
  (fun h1 A => N hX 13 A rfl rfl fun A => ENDN (RETN hX A rfl rfl rfl h0 rfl rfl rfl rfl rfl (by unfold refAt; rw [if_pos h1] <;> rfl)))
  (fun h1 A => N hX 2 A rfl rfl fun A => ENDN (RETN hX A rfl rfl rfl h0 rfl rfl rfl rfl rfl (by unfold refAt; rw [if_neg h1] <;> rfl)))
theorem refuse_ (ws : List Tk) (cw : Nat) (s : As) (x : Int) (hk : s.p ≤ ws.length) (hn : ws.length ≤ 1000000) (hw : WsOK ws) : Fn Tryz.prog 117 [.ptr 0 0, .int .i64 x] [some (.blk [.ptr 1 0, .int .i64 s.e, .int .i64 s.a]), some (.blk [.sl 2 ws.length cw, .int .i64 ((s.p : Nat) : Int)]), some (wQ9 ws)] (Rt (.tup []) [some (.blk [.ptr 1 0, .int .i64 ((refA ws s x).e), .int .i64 ((refA ws s x).a)]), some (.blk [.sl 2 ws.length cw, .int .i64 (((refA ws s x).p : Nat) : Int)]), some (wQ9 ws)]) :=
 enterM (n := 18) (by kernel_rfl) Tryz.func117 rfl rfl rfl fun G w a h0 A => N hX 7 A rfl rfl fun A => CALL1 [1, 2] (left_ ws cw s.p hk hn) A rfl rfl rfl rfl rfl rfl rfl fun A => N hX 3 A rfl rfl fun A => forkE 9 A rfl
  (fun h1 A => N hX 12 A rfl rfl fun A => CALL1 [1, 2] (at_W ws cw s.p hk hn hw) A rfl rfl rfl rfl rfl rfl rfl fun A => CALL1 [0, 1, 2] (refAt_ ws cw s 24 (atW ws s.p) hk hn hw) A rfl rfl rfl rfl rfl rfl rfl fun A => N hX 1 A rfl rfl fun A => ENDN (RETN hX A rfl rfl rfl h0 rfl rfl rfl rfl rfl (by unfold refA; rw [if_neg (show ¬ s.p < ws.length by omega)] <;> rfl)))
  (fun h1 A => N hX 10 A rfl rfl fun A => CALL1 [1, 2] (at_W ws cw s.p hk hn hw) A rfl rfl rfl rfl rfl rfl rfl fun A => CALL1 [0, 1, 2] (refAt_ ws cw s x (atW ws s.p) hk hn hw) A rfl rfl rfl rfl rfl rfl rfl fun A => N hX 1 A rfl rfl fun A => ENDN (RETN hX A rfl rfl rfl h0 rfl rfl rfl rfl rfl (by unfold refA; rw [if_pos (show s.p < ws.length by omega)] <;> rfl)))
theorem end_ (ws : List Tk) (cw : Nat) (s : As) (hk : s.p ≤ ws.length) (hn : ws.length ≤ 1000000) (hw : WsOK ws) : Fn Tryz.prog 49 [.ptr 0 0] [some (.blk [.ptr 1 0, .int .i64 s.e, .int .i64 s.a]), some (.blk [.sl 2 ws.length cw, .int .i64 ((s.p : Nat) : Int)]), some (wQ9 ws)] (Rt (.tup []) [some (.blk [.ptr 1 0, .int .i64 ((endA ws s).e), .int .i64 ((endA ws s).a)]), some (.blk [.sl 2 ws.length cw, .int .i64 (((endA ws s).p : Nat) : Int)]), some (wQ9 ws)]) :=
 enterM (n := 10) (by kernel_rfl) Tryz.func49 rfl rfl rfl fun G w a h0 A => N hX 6 A rfl rfl fun A => CALL1 [1, 2] (left_ ws cw s.p hk hn) A rfl rfl rfl rfl rfl rfl rfl fun A => N hX 3 A rfl rfl fun A => forkD 7 A rfl
  (fun h1 A => N hX 3 A rfl rfl fun A => CALL1 [0, 1, 2] (refuse_ ws cw s 25 hk hn hw) A rfl rfl rfl rfl rfl rfl rfl fun A => N hX 1 A rfl rfl fun A => ENDN (RETN hX A rfl rfl rfl h0 rfl rfl rfl rfl rfl (by unfold endA; rw [if_pos (show s.p < ws.length by omega)] <;> rfl)))
  (fun h1 A => N hX 2 A rfl rfl fun A => ENDN (RETN hX A rfl rfl rfl h0 rfl rfl rfl rfl rfl (by unfold endA; rw [if_neg (show ¬ s.p < ws.length by omega)] <;> rfl)))
theorem mark_ (ws : List Tk) (cw : Nat) (s : As) (m : List UInt8) (hk : s.p ≤ ws.length) (hn : ws.length ≤ 1000000) (hw : WsOK ws) : Fn Tryz.prog 135 [.ptr 0 0, .str m] [some (.blk [.ptr 1 0, .int .i64 s.e, .int .i64 s.a]), some (.blk [.sl 2 ws.length cw, .int .i64 ((s.p : Nat) : Int)]), some (wQ9 ws)] (Rt (.tup []) [some (.blk [.ptr 1 0, .int .i64 ((mkA ws s m).e), .int .i64 ((mkA ws s m).a)]), some (.blk [.sl 2 ws.length cw, .int .i64 (((mkA ws s m).p : Nat) : Int)]), some (wQ9 ws)]) :=
 enterM (n := 14) (by kernel_rfl) Tryz.func135 rfl rfl rfl fun G w a h0 A => N hX 8 A rfl rfl fun A => CALL1 [1, 2, 3] (take_ ws cw s.p m hk hn) A rfl rfl rfl rfl rfl rfl rfl fun A => N hX 3 A rfl rfl fun A => fork 11 A rfl
  (fun h1 A => N hX 3 A rfl rfl fun A => CALL1 [0, 1, 2] (refuse_ ws cw (⟨tkK ws s.p m, s.e, s.a⟩ : As) 22 (by first | exact tkK_le (nbK_le hk) | exact tkK_le hk | exact nbK_le hk | exact nxK_le hk | exact hk) hn hw) A rfl rfl rfl rfl rfl rfl rfl fun A => N hX 1 A rfl rfl fun A => ENDN (RETN hX A rfl rfl rfl h0 rfl rfl rfl rfl rfl (by unfold mkA; rw [if_neg (show ¬ tkB ws s.p m = true by intro z; rw [z] at h1; cases h1)] <;> rfl)))
  (fun h1 A => N hX 2 A rfl rfl fun A => ENDN (RETN hX A rfl rfl rfl h0 rfl rfl rfl rfl rfl (by unfold mkA; rw [if_pos (show tkB ws s.p m = true by cases q : tkB ws s.p m with | true => rfl | false => rw [q] at h1; cases h1)] <;> rfl)))
theorem num_ (ws : List Tk) (cw : Nat) (s : As) (hk : s.p ≤ ws.length) (hn : ws.length ≤ 1000000) (hw : WsOK ws) : Fn Tryz.prog 173 [.ptr 0 0] [some (.blk [.ptr 1 0, .int .i64 s.e, .int .i64 s.a]), some (.blk [.sl 2 ws.length cw, .int .i64 ((s.p : Nat) : Int)]), some (wQ9 ws)] (Rt (.int .i64 (nbV ws s.p)) [some (.blk [.ptr 1 0, .int .i64 ((numA ws s).e), .int .i64 ((numA ws s).a)]), some (.blk [.sl 2 ws.length cw, .int .i64 (((numA ws s).p : Nat) : Int)]), some (wQ9 ws)]) :=
 enterM (n := 24) (by kernel_rfl) Tryz.func173 rfl rfl rfl fun G w a h0 A => N hX 11 A rfl rfl fun A => CALL1 [1, 2] (number__ ws cw s.p hk hn) A rfl rfl rfl rfl rfl rfl rfl fun A => N hX 14 A rfl rfl fun A => fork 14 A rfl
  (fun h1 A => N hX 8 A rfl rfl fun A => CALL1 [1, 2, 3] (take_ ws cw (nbK ws s.p) [45] (by first | exact tkK_le (nbK_le hk) | exact tkK_le hk | exact nbK_le hk | exact nxK_le hk | exact hk) hn) A rfl rfl rfl rfl rfl rfl rfl fun A => N hX 4 A rfl rfl fun A => CALL1 [0, 1, 2] (refuse_ ws cw (⟨tkK ws (nbK ws s.p) [45], s.e, s.a⟩ : As) 22 (by first | exact tkK_le (nbK_le hk) | exact tkK_le hk | exact nbK_le hk | exact nxK_le hk | exact hk) hn hw) A rfl rfl rfl rfl rfl rfl rfl fun A => N hX 9 A rfl rfl fun A => RETN hX A rfl rfl rfl h0 rfl rfl rfl rfl rfl (by unfold numA; rw [if_neg (show ¬ nbB ws s.p = true by intro z; rw [z] at h1; cases h1)] <;> rfl))
  (fun h1 A => N hX 10 A rfl rfl fun A => RETN hX A rfl rfl rfl h0 rfl rfl rfl rfl rfl (by unfold numA; rw [if_pos (show nbB ws s.p = true by cases q : nbB ws s.p with | true => rfl | false => rw [q] at h1; cases h1)] <;> rfl))
theorem fault_ (ws : List Tk) (cw : Nat) (s : As) (hk : s.p ≤ ws.length) (hn : ws.length ≤ 1000000) (hw : WsOK ws) : Fn Tryz.prog 50 [.ptr 0 0] [some (.blk [.ptr 1 0, .int .i64 s.e, .int .i64 s.a]), some (.blk [.sl 2 ws.length cw, .int .i64 ((s.p : Nat) : Int)]), some (wQ9 ws)] (Rt (.tup [.int .i64 s.e, .int .i64 s.a]) [some (.blk [.ptr 1 0, .int .i64 s.e, .int .i64 s.a]), some (.blk [.sl 2 ws.length cw, .int .i64 ((s.p : Nat) : Int)]), some (wQ9 ws)]) :=
 enterM (n := 12) (by kernel_rfl) Tryz.func50 rfl rfl rfl fun G w a h0 A => N hX 7 A rfl rfl fun A => DRAWN hX hmo [] [] A rfl rfl rfl rfl (by kernel_rfl) (effAll_nil _ _) trivial fun A => N hX 2 A rfl rfl fun A => RETN hX A rfl rfl rfl h0 rfl rfl rfl rfl rfl rfl
abbrev rdS (g : Lg) (n c : Nat) (i : In) (lb : List UInt8) (ap rp : Nat) : List SV := .ptr ap 0 :: .str g.r0 :: .str g.r1 :: .str g.r2 :: .str g.r3 :: .str g.r4 :: .str g.r5 :: .str g.r6 :: .str g.r7 :: .str g.l0 :: .str g.l1 :: .str g.l2 :: .str g.l3 :: .str g.im :: .str g.f0 :: .str g.f1 :: .str g.f2 :: .sl rp n c :: .int .i64 i.op :: .int .i64 i.dst :: .int .i64 i.ra :: .int .i64 i.rb :: .int .i64 i.imm :: .int .i64 i.loc :: .int .i64 i.off :: .int .i64 i.ix :: .int .i64 i.sz :: .int .i64 i.fn :: .bool i.acq :: .bool i.weak :: .bool i.rel :: .int .i64 i.pred :: .int .i64 i.succ :: .int .i64 i.to_ :: .bool i.zero :: .str lb :: []
structure Ps where (ins : In) (lab : List UInt8) (e a : Int) (p : Nat)
def Ps.as (s : Ps) : As := ⟨s.p, s.e, s.a⟩
def Ps.wa (s : Ps) (t : As) : Ps := ⟨s.ins, s.lab, t.e, t.a, t.p⟩
def idxS (ls : List (List UInt8)) (q : List UInt8) : Int := match (List.range ls.length).find? (fun j => q == ls.getD j []) with | some j => (j : Int) | none => -1
structure IxI (ls : List (List UInt8)) (q : List UInt8) (k : Nat) : Prop where
  le : k ≤ ls.length
  no : ∀ j, j < k → (q == ls.getD j []) = false
section
variable {ls : List (List UInt8)} {q : List UInt8} {k : Nat}
theorem IxI.i0 : IxI ls q 0 := ⟨Nat.zero_le _, fun j h => by omega⟩
theorem IxI.nx (hI : IxI ls q k) (hk : k < ls.length) (h : (q == ls.getD k []) = false) : IxI ls q (k + 1) := ⟨hk, fun j hj => by
  by_cases e : j = k
  · subst e; exact h
  · exact hI.no j (by omega)⟩
theorem IxI.hit (hI : IxI ls q k) (hk : k < ls.length) (h : (q == ls.getD k []) = true) : idxS ls q = (k : Int) := by
  unfold idxS
  have : (List.range ls.length).find? (fun j => q == ls.getD j []) = some k := by
    rw [List.find?_range_eq_some]
    exact ⟨h, by simpa using hk, fun j hj => by have := hI.no j hj; rw [this]; rfl⟩
  rw [this]
theorem IxI.fi (hI : IxI ls q k) (hk : ls.length ≤ k) : idxS ls q = -1 := by
  unfold idxS
  have : (List.range ls.length).find? (fun j => q == ls.getD j []) = none := by
    rw [List.find?_eq_none]
    intro j hj
    have := hI.no j (by have := List.mem_range.1 hj; omega)
    rw [this]; decide
  rw [this]
theorem idxS_ge : -1 ≤ idxS ls q ∧ idxS ls q ≤ (ls.length : Int) := by
  unfold idxS
  split
  · next j h => have := List.mem_range.1 (List.mem_of_find?_eq_some h); omega
  · omega
end
def knI (ws : List Tk) (s : As) (ls : List (List UInt8)) : Int := if (ws.getD s.p tok0).kind = 1 then (if idxS ls (ws.getD s.p tok0).text < 0 then -1 else idxS ls (ws.getD s.p tok0).text) else -1
def knA (ws : List Tk) (s : As) (ls : List (List UInt8)) : As := if (ws.getD s.p tok0).kind = 1 then (if idxS ls (ws.getD s.p tok0).text < 0 then refA ws s 21 else goA s (nxK ws s.p)) else refA ws s 22
section
variable {ws : List Tk} {s : As} {ls : List (List UInt8)}
theorem knA_le (h : s.p ≤ ws.length) : (knA ws s ls).p ≤ ws.length := by
  unfold knA; split
  · split
    · rw [refA_p]; exact h
    · exact nxK_le h
  · rw [refA_p]; exact h
theorem knI_ge : -1 ≤ knI ws s ls ∧ knI ws s ls ≤ (ls.length : Int) := by
  have := idxS_ge (ls := ls) (q := (ws.getD s.p tok0).text)
  unfold knI; split
  · split <;> omega
  · omega
end
theorem sixR_ (g : Lg) (L : List Rw) (c : Nat) (ws : List Tk) (cw : Nat) (s : Ps) (q : List UInt8)  : Fn Tryz.prog 103 [.sp (.ptr 0 1) 8 8, .str q] [some (.blk (rdS g L.length c s.ins s.lab 1 4)), some (.blk [.ptr 2 0, .int .i64 s.e, .int .i64 s.a]), some (.blk [.sl 3 ws.length cw, .int .i64 ((s.p : Nat) : Int)]), some (wQ9 ws), some (lQ9 L)] (Rt (.int .i64 (idxS [g.r0, g.r1, g.r2, g.r3, g.r4, g.r5, g.r6, g.r7] q)) [some (.blk (rdS g L.length c s.ins s.lab 1 4)), some (.blk [.ptr 2 0, .int .i64 s.e, .int .i64 s.a]), some (.blk [.sl 3 ws.length cw, .int .i64 ((s.p : Nat) : Int)]), some (wQ9 ws), some (lQ9 L)]) :=
 enterM (n := 19) (by kernel_rfl) Tryz.func103 rfl rfl rfl fun G w a h0 A => N hX 14 A rfl rfl fun A => LOOP1 (fun (k : Nat) => [(0, .sp (.ptr 0 1) 8 8), (1, .str q), (4, .int .i64 0), (7, .int .i64 ((8 : Nat) : Int)), (8, .int .i64 (k : Int))]) (fun (k : Nat) => [some (.blk (rdS g L.length c s.ins s.lab 1 4)), some (.blk [.ptr 2 0, .int .i64 s.e, .int .i64 s.a]), some (.blk [.sl 3 ws.length cw, .int .i64 ((s.p : Nat) : Int)]), some (wQ9 ws), some (lQ9 L)]) (fun (k : Nat) => IxI [g.r0, g.r1, g.r2, g.r3, g.r4, g.r5, g.r6, g.r7] q k) (fun (k : Nat) => 8 - k) 0 IxI.i0 ((A.cut [0, 1, 4, 7, 8] rfl).trunc 5 rfl rfl rfl (by simp only [List.length_cons, List.length_nil] at h0; omega)) fun k hI {G a w} A => N hX 6 A rfl rfl fun A => forkD 9 A rfl
   (fun h1 A => N hX 21 A rfl (ok_d (by have := hI.le; simp only [List.length_cons, List.length_nil] at this; omega) <| ok_d (by have := hI.le; simp only [List.length_cons, List.length_nil] at this; omega) <| okE_nil) fun A => forkE 16 A rfl
    (fun h2 A => N hX 8 A rfl rfl fun A => RETN hX A rfl rfl rfl h0 rfl rfl rfl rfl (by rw [hI.hit (by show k < 8; omega) (by rw [show k = ((k : Int)).toNat from rfl]; simpa using h2)]; rfl) rfl)
    (fun h2 A => N hX 8 A rfl (ok_d (by have := hI.le; simp only [List.length_cons, List.length_nil] at this; omega) <| okE_nil) fun A => ⟨k + 1, _, (by omega), (hI.nx (by show k < 8; omega) (by rw [show k = ((k : Int)).toNat from rfl]; simpa using h2)), ((A.cut [0, 1, 4, 7, 8] rfl).trunc 5 rfl rfl rfl (by simp only [List.length_cons, List.length_nil] at h0; omega))⟩))
   (fun h1 A => N hX 9 A rfl rfl fun A => RETN hX A rfl rfl rfl h0 rfl rfl rfl rfl (by rw [hI.fi (by show 8 ≤ k; omega)]; rfl) rfl)
theorem sixF_ (g : Lg) (L : List Rw) (c : Nat) (ws : List Tk) (cw : Nat) (s : Ps) (q : List UInt8)  : Fn Tryz.prog 103 [.sp (.ptr 0 14) 3 3, .str q] [some (.blk (rdS g L.length c s.ins s.lab 1 4)), some (.blk [.ptr 2 0, .int .i64 s.e, .int .i64 s.a]), some (.blk [.sl 3 ws.length cw, .int .i64 ((s.p : Nat) : Int)]), some (wQ9 ws), some (lQ9 L)] (Rt (.int .i64 (idxS [g.f0, g.f1, g.f2] q)) [some (.blk (rdS g L.length c s.ins s.lab 1 4)), some (.blk [.ptr 2 0, .int .i64 s.e, .int .i64 s.a]), some (.blk [.sl 3 ws.length cw, .int .i64 ((s.p : Nat) : Int)]), some (wQ9 ws), some (lQ9 L)]) :=
 enterM (n := 19) (by kernel_rfl) Tryz.func103 rfl rfl rfl fun G w a h0 A => N hX 14 A rfl rfl fun A => LOOP1 (fun (k : Nat) => [(0, .sp (.ptr 0 14) 3 3), (1, .str q), (4, .int .i64 0), (7, .int .i64 ((3 : Nat) : Int)), (8, .int .i64 (k : Int))]) (fun (k : Nat) => [some (.blk (rdS g L.length c s.ins s.lab 1 4)), some (.blk [.ptr 2 0, .int .i64 s.e, .int .i64 s.a]), some (.blk [.sl 3 ws.length cw, .int .i64 ((s.p : Nat) : Int)]), some (wQ9 ws), some (lQ9 L)]) (fun (k : Nat) => IxI [g.f0, g.f1, g.f2] q k) (fun (k : Nat) => 3 - k) 0 IxI.i0 ((A.cut [0, 1, 4, 7, 8] rfl).trunc 5 rfl rfl rfl (by simp only [List.length_cons, List.length_nil] at h0; omega)) fun k hI {G a w} A => N hX 6 A rfl rfl fun A => forkD 9 A rfl
   (fun h1 A => N hX 21 A rfl (ok_d (by have := hI.le; simp only [List.length_cons, List.length_nil] at this; omega) <| ok_d (by have := hI.le; simp only [List.length_cons, List.length_nil] at this; omega) <| okE_nil) fun A => forkE 16 A rfl
    (fun h2 A => N hX 8 A rfl rfl fun A => RETN hX A rfl rfl rfl h0 rfl rfl rfl rfl (by rw [hI.hit (by show k < 3; omega) (by rw [show k = ((k : Int)).toNat from rfl]; simpa using h2)]; rfl) rfl)
    (fun h2 A => N hX 8 A rfl (ok_d (by have := hI.le; simp only [List.length_cons, List.length_nil] at this; omega) <| okE_nil) fun A => ⟨k + 1, _, (by omega), (hI.nx (by show k < 3; omega) (by rw [show k = ((k : Int)).toNat from rfl]; simpa using h2)), ((A.cut [0, 1, 4, 7, 8] rfl).trunc 5 rfl rfl rfl (by simp only [List.length_cons, List.length_nil] at h0; omega))⟩))
   (fun h1 A => N hX 9 A rfl rfl fun A => RETN hX A rfl rfl rfl h0 rfl rfl rfl rfl (by rw [hI.fi (by show 3 ≤ k; omega)]; rfl) rfl)
theorem sixL_ (q : List UInt8)  : Fn Tryz.prog 103 [.sl 0 3 3, .str q] [some (.blk [.str [120], .str [121], .str [122]])] (Rt (.int .i64 (idxS [[120], [121], [122]] q)) [some (.blk [.str [120], .str [121], .str [122]])]) :=
 enterM (n := 19) (by kernel_rfl) Tryz.func103 rfl rfl rfl fun G w a h0 A => N hX 14 A rfl rfl fun A => LOOP1 (fun (k : Nat) => [(0, .sl 0 3 3), (1, .str q), (4, .int .i64 0), (7, .int .i64 ((3 : Nat) : Int)), (8, .int .i64 (k : Int))]) (fun (k : Nat) => [some (.blk [.str [120], .str [121], .str [122]])]) (fun (k : Nat) => IxI [[120], [121], [122]] q k) (fun (k : Nat) => 3 - k) 0 IxI.i0 ((A.cut [0, 1, 4, 7, 8] rfl).trunc 1 rfl rfl rfl (by simp only [List.length_cons, List.length_nil] at h0; omega)) fun k hI {G a w} A => N hX 6 A rfl rfl fun A => forkD 9 A rfl
   (fun h1 A => N hX 21 A rfl (ok_d (by have := hI.le; simp only [List.length_cons, List.length_nil] at this; omega) <| ok_d (by have := hI.le; simp only [List.length_cons, List.length_nil] at this; omega) <| okE_nil) fun A => forkE 16 A rfl
    (fun h2 A => N hX 8 A rfl rfl fun A => RETN hX A rfl rfl rfl h0 rfl rfl rfl rfl (by rw [hI.hit (by show k < 3; omega) (by rw [show k = ((k : Int)).toNat from rfl]; simpa using h2)]; rfl) rfl)
    (fun h2 A => N hX 8 A rfl (ok_d (by have := hI.le; simp only [List.length_cons, List.length_nil] at this; omega) <| okE_nil) fun A => ⟨k + 1, _, (by omega), (hI.nx (by show k < 3; omega) (by rw [show k = ((k : Int)).toNat from rfl]; simpa using h2)), ((A.cut [0, 1, 4, 7, 8] rfl).trunc 1 rfl rfl rfl (by simp only [List.length_cons, List.length_nil] at h0; omega))⟩))
   (fun h1 A => N hX 9 A rfl rfl fun A => RETN hX A rfl rfl rfl h0 rfl rfl rfl rfl (by rw [hI.fi (by show 3 ≤ k; omega)]; rfl) rfl)
theorem knownR_ (g : Lg) (L : List Rw) (c : Nat) (ws : List Tk) (cw : Nat) (s : Ps) (hk : s.p ≤ ws.length) (hn : ws.length ≤ 1000000) (hw : WsOK ws) : Fn Tryz.prog 210 [.ptr 1 0, .sp (.ptr 0 1) 8 8] [some (.blk (rdS g L.length c s.ins s.lab 1 4)), some (.blk [.ptr 2 0, .int .i64 s.e, .int .i64 s.a]), some (.blk [.sl 3 ws.length cw, .int .i64 ((s.p : Nat) : Int)]), some (wQ9 ws), some (lQ9 L)] (Rt (.int .i64 (knI ws s.as [g.r0, g.r1, g.r2, g.r3, g.r4, g.r5, g.r6, g.r7])) [some (.blk (rdS g L.length c ((s.wa (knA ws s.as [g.r0, g.r1, g.r2, g.r3, g.r4, g.r5, g.r6, g.r7])).ins) ((s.wa (knA ws s.as [g.r0, g.r1, g.r2, g.r3, g.r4, g.r5, g.r6, g.r7])).lab) 1 4)), some (.blk [.ptr 2 0, .int .i64 ((s.wa (knA ws s.as [g.r0, g.r1, g.r2, g.r3, g.r4, g.r5, g.r6, g.r7])).e), .int .i64 ((s.wa (knA ws s.as [g.r0, g.r1, g.r2, g.r3, g.r4, g.r5, g.r6, g.r7])).a)]), some (.blk [.sl 3 ws.length cw, .int .i64 (((s.wa (knA ws s.as [g.r0, g.r1, g.r2, g.r3, g.r4, g.r5, g.r6, g.r7])).p : Nat) : Int)]), some (wQ9 ws), some (lQ9 L)]) :=
 enterM (n := 35) (by kernel_rfl) Tryz.func210 rfl rfl rfl fun G w a h0 A => N hX 11 A rfl rfl fun A => CALL1 [2, 3] (peek_ ws cw s.p (by first | exact hk | exact knA_le hk | exact mkA_le hk | exact numA_le hk | (show _ ≤ _; omega)) hn) A rfl rfl rfl rfl rfl rfl rfl fun A => N hX 16 A rfl rfl fun A => forkN 18 A rfl
  (fun h1 A => N hX 4 A rfl rfl fun A => CALL1 [1, 2, 3] (refuse_ ws cw s.as 22 (by first | exact hk | exact knA_le hk | exact mkA_le hk | exact numA_le hk | (show _ ≤ _; omega)) hn hw) A rfl rfl rfl rfl rfl rfl rfl fun A => N hX 8 A rfl rfl fun A => RETN hX A rfl rfl rfl h0 rfl rfl rfl rfl (by unfold knI; rw [if_neg (show ¬ (ws.getD s.as.p tok0).kind = 1 from h1)] <;> rfl) (by unfold knA; rw [if_neg (show ¬ (ws.getD s.as.p tok0).kind = 1 from h1)] <;> rfl))
  (fun h1 A => N hX 8 A rfl rfl fun A => CALL1 [0, 1, 2, 3, 4] (sixR_ g L c ws cw s ((ws.getD s.p tok0).text)) A rfl rfl rfl rfl rfl rfl rfl fun A => N hX 10 A rfl rfl fun A => forkD 26 A rfl
   (fun h2 A => N hX 4 A rfl rfl fun A => CALL1 [1, 2, 3] (refuse_ ws cw s.as 21 (by first | exact hk | exact knA_le hk | exact mkA_le hk | exact numA_le hk | (show _ ≤ _; omega)) hn hw) A rfl rfl rfl rfl rfl rfl rfl fun A => N hX 8 A rfl rfl fun A => RETN hX A rfl rfl rfl h0 rfl rfl rfl rfl (by unfold knI; rw [if_pos (show (ws.getD s.as.p tok0).kind = 1 from h1), if_pos (show idxS [g.r0, g.r1, g.r2, g.r3, g.r4, g.r5, g.r6, g.r7] (ws.getD s.as.p tok0).text < 0 from h2)] <;> rfl) (by unfold knA; rw [if_pos (show (ws.getD s.as.p tok0).kind = 1 from h1), if_pos (show idxS [g.r0, g.r1, g.r2, g.r3, g.r4, g.r5, g.r6, g.r7] (ws.getD s.as.p tok0).text < 0 from h2)] <;> rfl))
   (fun h2 A => N hX 9 A rfl rfl fun A => CALL1 [2, 3] (next_ ws cw s.p (by first | exact hk | exact knA_le hk | exact mkA_le hk | exact numA_le hk | (show _ ≤ _; omega)) hn) A rfl rfl rfl rfl rfl rfl rfl fun A => N hX 9 A rfl rfl fun A => RETN hX A rfl rfl rfl h0 rfl rfl rfl rfl (by unfold knI; rw [if_pos (show (ws.getD s.as.p tok0).kind = 1 from h1), if_neg (show ¬ idxS [g.r0, g.r1, g.r2, g.r3, g.r4, g.r5, g.r6, g.r7] (ws.getD s.as.p tok0).text < 0 from h2)] <;> rfl) (by unfold knA; rw [if_pos (show (ws.getD s.as.p tok0).kind = 1 from h1), if_neg (show ¬ idxS [g.r0, g.r1, g.r2, g.r3, g.r4, g.r5, g.r6, g.r7] (ws.getD s.as.p tok0).text < 0 from h2)] <;> rfl)))
theorem knownF_ (g : Lg) (L : List Rw) (c : Nat) (ws : List Tk) (cw : Nat) (s : Ps) (hk : s.p ≤ ws.length) (hn : ws.length ≤ 1000000) (hw : WsOK ws) : Fn Tryz.prog 210 [.ptr 1 0, .sp (.ptr 0 14) 3 3] [some (.blk (rdS g L.length c s.ins s.lab 1 4)), some (.blk [.ptr 2 0, .int .i64 s.e, .int .i64 s.a]), some (.blk [.sl 3 ws.length cw, .int .i64 ((s.p : Nat) : Int)]), some (wQ9 ws), some (lQ9 L)] (Rt (.int .i64 (knI ws s.as [g.f0, g.f1, g.f2])) [some (.blk (rdS g L.length c ((s.wa (knA ws s.as [g.f0, g.f1, g.f2])).ins) ((s.wa (knA ws s.as [g.f0, g.f1, g.f2])).lab) 1 4)), some (.blk [.ptr 2 0, .int .i64 ((s.wa (knA ws s.as [g.f0, g.f1, g.f2])).e), .int .i64 ((s.wa (knA ws s.as [g.f0, g.f1, g.f2])).a)]), some (.blk [.sl 3 ws.length cw, .int .i64 (((s.wa (knA ws s.as [g.f0, g.f1, g.f2])).p : Nat) : Int)]), some (wQ9 ws), some (lQ9 L)]) :=
 enterM (n := 35) (by kernel_rfl) Tryz.func210 rfl rfl rfl fun G w a h0 A => N hX 11 A rfl rfl fun A => CALL1 [2, 3] (peek_ ws cw s.p (by first | exact hk | exact knA_le hk | exact mkA_le hk | exact numA_le hk | (show _ ≤ _; omega)) hn) A rfl rfl rfl rfl rfl rfl rfl fun A => N hX 16 A rfl rfl fun A => forkN 18 A rfl
  (fun h1 A => N hX 4 A rfl rfl fun A => CALL1 [1, 2, 3] (refuse_ ws cw s.as 22 (by first | exact hk | exact knA_le hk | exact mkA_le hk | exact numA_le hk | (show _ ≤ _; omega)) hn hw) A rfl rfl rfl rfl rfl rfl rfl fun A => N hX 8 A rfl rfl fun A => RETN hX A rfl rfl rfl h0 rfl rfl rfl rfl (by unfold knI; rw [if_neg (show ¬ (ws.getD s.as.p tok0).kind = 1 from h1)] <;> rfl) (by unfold knA; rw [if_neg (show ¬ (ws.getD s.as.p tok0).kind = 1 from h1)] <;> rfl))
  (fun h1 A => N hX 8 A rfl rfl fun A => CALL1 [0, 1, 2, 3, 4] (sixF_ g L c ws cw s ((ws.getD s.p tok0).text)) A rfl rfl rfl rfl rfl rfl rfl fun A => N hX 10 A rfl rfl fun A => forkD 26 A rfl
   (fun h2 A => N hX 4 A rfl rfl fun A => CALL1 [1, 2, 3] (refuse_ ws cw s.as 21 (by first | exact hk | exact knA_le hk | exact mkA_le hk | exact numA_le hk | (show _ ≤ _; omega)) hn hw) A rfl rfl rfl rfl rfl rfl rfl fun A => N hX 8 A rfl rfl fun A => RETN hX A rfl rfl rfl h0 rfl rfl rfl rfl (by unfold knI; rw [if_pos (show (ws.getD s.as.p tok0).kind = 1 from h1), if_pos (show idxS [g.f0, g.f1, g.f2] (ws.getD s.as.p tok0).text < 0 from h2)] <;> rfl) (by unfold knA; rw [if_pos (show (ws.getD s.as.p tok0).kind = 1 from h1), if_pos (show idxS [g.f0, g.f1, g.f2] (ws.getD s.as.p tok0).text < 0 from h2)] <;> rfl))
   (fun h2 A => N hX 9 A rfl rfl fun A => CALL1 [2, 3] (next_ ws cw s.p (by first | exact hk | exact knA_le hk | exact mkA_le hk | exact numA_le hk | (show _ ≤ _; omega)) hn) A rfl rfl rfl rfl rfl rfl rfl fun A => N hX 9 A rfl rfl fun A => RETN hX A rfl rfl rfl h0 rfl rfl rfl rfl (by unfold knI; rw [if_pos (show (ws.getD s.as.p tok0).kind = 1 from h1), if_neg (show ¬ idxS [g.f0, g.f1, g.f2] (ws.getD s.as.p tok0).text < 0 from h2)] <;> rfl) (by unfold knA; rw [if_pos (show (ws.getD s.as.p tok0).kind = 1 from h1), if_neg (show ¬ idxS [g.f0, g.f1, g.f2] (ws.getD s.as.p tok0).text < 0 from h2)] <;> rfl)))
theorem knownL_ (ws : List Tk) (cw : Nat) (s : As) (hk : s.p ≤ ws.length) (hn : ws.length ≤ 1000000) (hw : WsOK ws) : Fn Tryz.prog 210 [.ptr 0 0, .sl 3 3 3] [some (.blk [.ptr 1 0, .int .i64 s.e, .int .i64 s.a]), some (.blk [.sl 2 ws.length cw, .int .i64 ((s.p : Nat) : Int)]), some (wQ9 ws), some (.blk [.str [120], .str [121], .str [122]])] (Rt (.int .i64 (knI ws s [[120], [121], [122]])) [some (.blk [.ptr 1 0, .int .i64 ((knA ws s [[120], [121], [122]]).e), .int .i64 ((knA ws s [[120], [121], [122]]).a)]), some (.blk [.sl 2 ws.length cw, .int .i64 (((knA ws s [[120], [121], [122]]).p : Nat) : Int)]), some (wQ9 ws), some (.blk [.str [120], .str [121], .str [122]])]) :=
 enterM (n := 35) (by kernel_rfl) Tryz.func210 rfl rfl rfl fun G w a h0 A => N hX 11 A rfl rfl fun A => CALL1 [1, 2] (peek_ ws cw s.p (by first | exact hk | exact knA_le hk | exact mkA_le hk | exact numA_le hk | (show _ ≤ _; omega)) hn) A rfl rfl rfl rfl rfl rfl rfl fun A => N hX 16 A rfl rfl fun A => forkN 18 A rfl
  (fun h1 A => N hX 4 A rfl rfl fun A => CALL1 [0, 1, 2] (refuse_ ws cw s 22 (by first | exact hk | exact knA_le hk | exact mkA_le hk | exact numA_le hk | (show _ ≤ _; omega)) hn hw) A rfl rfl rfl rfl rfl rfl rfl fun A => N hX 8 A rfl rfl fun A => RETN hX A rfl rfl rfl h0 rfl rfl rfl rfl (by unfold knI; rw [if_neg (show ¬ (ws.getD s.p tok0).kind = 1 from h1)] <;> rfl) (by unfold knA; rw [if_neg (show ¬ (ws.getD s.p tok0).kind = 1 from h1)] <;> rfl))
  (fun h1 A => N hX 8 A rfl rfl fun A => CALL1 [3] (sixL_ ((ws.getD s.p tok0).text)) A rfl rfl rfl rfl rfl rfl rfl fun A => N hX 10 A rfl rfl fun A => forkD 26 A rfl
   (fun h2 A => N hX 4 A rfl rfl fun A => CALL1 [0, 1, 2] (refuse_ ws cw s 21 (by first | exact hk | exact knA_le hk | exact mkA_le hk | exact numA_le hk | (show _ ≤ _; omega)) hn hw) A rfl rfl rfl rfl rfl rfl rfl fun A => N hX 8 A rfl rfl fun A => RETN hX A rfl rfl rfl h0 rfl rfl rfl rfl (by unfold knI; rw [if_pos (show (ws.getD s.p tok0).kind = 1 from h1), if_pos (show idxS [[120], [121], [122]] (ws.getD s.p tok0).text < 0 from h2)] <;> rfl) (by unfold knA; rw [if_pos (show (ws.getD s.p tok0).kind = 1 from h1), if_pos (show idxS [[120], [121], [122]] (ws.getD s.p tok0).text < 0 from h2)] <;> rfl))
   (fun h2 A => N hX 9 A rfl rfl fun A => CALL1 [1, 2] (next_ ws cw s.p (by first | exact hk | exact knA_le hk | exact mkA_le hk | exact numA_le hk | (show _ ≤ _; omega)) hn) A rfl rfl rfl rfl rfl rfl rfl fun A => N hX 9 A rfl rfl fun A => RETN hX A rfl rfl rfl h0 rfl rfl rfl rfl (by unfold knI; rw [if_pos (show (ws.getD s.p tok0).kind = 1 from h1), if_neg (show ¬ idxS [[120], [121], [122]] (ws.getD s.p tok0).text < 0 from h2)] <;> rfl) (by unfold knA; rw [if_pos (show (ws.getD s.p tok0).kind = 1 from h1), if_neg (show ¬ idxS [[120], [121], [122]] (ws.getD s.p tok0).text < 0 from h2)] <;> rfl)))
theorem reg_ (g : Lg) (L : List Rw) (c : Nat) (ws : List Tk) (cw : Nat) (s : Ps) (hk : s.p ≤ ws.length) (hn : ws.length ≤ 1000000) (hw : WsOK ws) : Fn Tryz.prog 192 [.ptr 0 0] [some (.blk (rdS g L.length c s.ins s.lab 1 4)), some (.blk [.ptr 2 0, .int .i64 s.e, .int .i64 s.a]), some (.blk [.sl 3 ws.length cw, .int .i64 ((s.p : Nat) : Int)]), some (wQ9 ws), some (lQ9 L)] (Rt (.int .i64 (knI ws s.as [g.r0, g.r1, g.r2, g.r3, g.r4, g.r5, g.r6, g.r7])) [some (.blk (rdS g L.length c ((s.wa (knA ws s.as [g.r0, g.r1, g.r2, g.r3, g.r4, g.r5, g.r6, g.r7])).ins) ((s.wa (knA ws s.as [g.r0, g.r1, g.r2, g.r3, g.r4, g.r5, g.r6, g.r7])).lab) 1 4)), some (.blk [.ptr 2 0, .int .i64 ((s.wa (knA ws s.as [g.r0, g.r1, g.r2, g.r3, g.r4, g.r5, g.r6, g.r7])).e), .int .i64 ((s.wa (knA ws s.as [g.r0, g.r1, g.r2, g.r3, g.r4, g.r5, g.r6, g.r7])).a)]), some (.blk [.sl 3 ws.length cw, .int .i64 (((s.wa (knA ws s.as [g.r0, g.r1, g.r2, g.r3, g.r4, g.r5, g.r6, g.r7])).p : Nat) : Int)]), some (wQ9 ws), some (lQ9 L)]) :=
 enterM (n := 13) (by kernel_rfl) Tryz.func192 rfl rfl rfl fun G w a h0 A => N hX 6 A rfl rfl fun A => DRAWN hX hmo [] [(9, .int .i64 (knI ws s.as [g.r0, g.r1, g.r2, g.r3, g.r4, g.r5, g.r6, g.r7]), [some (.blk (rdS g L.length c ((Ps.wa s (knA ws s.as [g.r0, g.r1, g.r2, g.r3, g.r4, g.r5, g.r6, g.r7])).ins) ((Ps.wa s (knA ws s.as [g.r0, g.r1, g.r2, g.r3, g.r4, g.r5, g.r6, g.r7])).lab) 1 4)), some (.blk [.ptr 2 0, .int .i64 ((Ps.wa s (knA ws s.as [g.r0, g.r1, g.r2, g.r3, g.r4, g.r5, g.r6, g.r7])).e), .int .i64 ((Ps.wa s (knA ws s.as [g.r0, g.r1, g.r2, g.r3, g.r4, g.r5, g.r6, g.r7])).a)]), some (.blk [.sl 3 ws.length cw, .int .i64 (((Ps.wa s (knA ws s.as [g.r0, g.r1, g.r2, g.r3, g.r4, g.r5, g.r6, g.r7])).p : Nat) : Int)]), some (wQ9 ws), some (lQ9 L)])] A rfl rfl rfl rfl (by kernel_rfl) ⟨callE [0, 1, 2, 3, 4] (knownR_ g L c ws cw s (by first | exact hk | exact knA_le hk | exact mkA_le hk | exact numA_le hk | (show _ ≤ _; omega)) hn hw) rfl rfl rfl rfl rfl rfl rfl, trivial⟩ trivial fun A => N hX 2 A rfl rfl fun A => RETN hX A rfl rfl rfl h0 rfl rfl rfl rfl rfl rfl
theorem fenced_ (g : Lg) (L : List Rw) (c : Nat) (ws : List Tk) (cw : Nat) (s : Ps) (hk : s.p ≤ ws.length) (hn : ws.length ≤ 1000000) (hw : WsOK ws) : Fn Tryz.prog 196 [.ptr 0 0] [some (.blk (rdS g L.length c s.ins s.lab 1 4)), some (.blk [.ptr 2 0, .int .i64 s.e, .int .i64 s.a]), some (.blk [.sl 3 ws.length cw, .int .i64 ((s.p : Nat) : Int)]), some (wQ9 ws), some (lQ9 L)] (Rt (.int .i64 (knI ws s.as [g.f0, g.f1, g.f2] + 1)) [some (.blk (rdS g L.length c ((s.wa (knA ws s.as [g.f0, g.f1, g.f2])).ins) ((s.wa (knA ws s.as [g.f0, g.f1, g.f2])).lab) 1 4)), some (.blk [.ptr 2 0, .int .i64 ((s.wa (knA ws s.as [g.f0, g.f1, g.f2])).e), .int .i64 ((s.wa (knA ws s.as [g.f0, g.f1, g.f2])).a)]), some (.blk [.sl 3 ws.length cw, .int .i64 (((s.wa (knA ws s.as [g.f0, g.f1, g.f2])).p : Nat) : Int)]), some (wQ9 ws), some (lQ9 L)]) :=
 enterM (n := 14) (by kernel_rfl) Tryz.func196 rfl rfl rfl fun G w a h0 A => N hX 6 A rfl rfl fun A => DRAWN hX hmo [] [(9, .int .i64 (knI ws s.as [g.f0, g.f1, g.f2]), [some (.blk (rdS g L.length c ((Ps.wa s (knA ws s.as [g.f0, g.f1, g.f2])).ins) ((Ps.wa s (knA ws s.as [g.f0, g.f1, g.f2])).lab) 1 4)), some (.blk [.ptr 2 0, .int .i64 ((Ps.wa s (knA ws s.as [g.f0, g.f1, g.f2])).e), .int .i64 ((Ps.wa s (knA ws s.as [g.f0, g.f1, g.f2])).a)]), some (.blk [.sl 3 ws.length cw, .int .i64 (((Ps.wa s (knA ws s.as [g.f0, g.f1, g.f2])).p : Nat) : Int)]), some (wQ9 ws), some (lQ9 L)])] A rfl (ok_d (by have q1 := knI_ge (ws := ws) (s := s.as) (ls := [g.f0, g.f1, g.f2]); simp only [List.length_cons, List.length_nil] at q1; omega) <| okE_nil) rfl rfl (by kernel_rfl) ⟨callE [0, 1, 2, 3, 4] (knownF_ g L c ws cw s (by first | exact hk | exact knA_le hk | exact mkA_le hk | exact numA_le hk | (show _ ≤ _; omega)) hn hw) rfl rfl rfl rfl rfl rfl rfl, trivial⟩ trivial fun A => N hX 2 A rfl rfl fun A => RETN hX A rfl rfl rfl h0 rfl rfl rfl rfl rfl rfl
theorem isNumber_ (g : Lg) (L : List Rw) (c : Nat) (ws : List Tk) (cw : Nat) (s : Ps) (hk : s.p ≤ ws.length) (hn : ws.length ≤ 1000000) (hw : WsOK ws) : Fn Tryz.prog 229 [.ptr 0 0] [some (.blk (rdS g L.length c s.ins s.lab 1 4)), some (.blk [.ptr 2 0, .int .i64 s.e, .int .i64 s.a]), some (.blk [.sl 3 ws.length cw, .int .i64 ((s.p : Nat) : Int)]), some (wQ9 ws), some (lQ9 L)] (Rt (.bool ((ws.getD s.p tok0).kind == 2)) [some (.blk (rdS g L.length c s.ins s.lab 1 4)), some (.blk [.ptr 2 0, .int .i64 s.e, .int .i64 s.a]), some (.blk [.sl 3 ws.length cw, .int .i64 ((s.p : Nat) : Int)]), some (wQ9 ws), some (lQ9 L)]) :=
 enterM (n := 19) (by kernel_rfl) Tryz.func229 rfl rfl rfl fun G w a h0 A => N hX 14 A rfl rfl fun A => CALL1 [2, 3] (peek_ ws cw s.p (by first | exact hk | exact knA_le hk | exact mkA_le hk | exact numA_le hk | (show _ ≤ _; omega)) hn) A rfl rfl rfl rfl rfl rfl rfl fun A => N hX 17 A rfl rfl fun A => RETN hX A rfl rfl rfl h0 rfl rfl rfl rfl rfl rfl
def immA (g : Lg) (ws : List Tk) (s : As) : As := if g.im = [] then numA ws s else numA ws (mkA ws s g.im)
def immV (g : Lg) (ws : List Tk) (s : As) : Int := if g.im = [] then nbV ws s.p else nbV ws (mkA ws s g.im).p
theorem immA_le {g : Lg} {ws : List Tk} {s : As} (h : s.p ≤ ws.length) : (immA g ws s).p ≤ ws.length := by
  unfold immA; split
  · exact numA_le h
  · exact numA_le (mkA_le h)
theorem imm_ (g : Lg) (L : List Rw) (c : Nat) (ws : List Tk) (cw : Nat) (s : Ps) (hk : s.p ≤ ws.length) (hn : ws.length ≤ 1000000) (hw : WsOK ws) : Fn Tryz.prog 193 [.ptr 0 0] [some (.blk (rdS g L.length c s.ins s.lab 1 4)), some (.blk [.ptr 2 0, .int .i64 s.e, .int .i64 s.a]), some (.blk [.sl 3 ws.length cw, .int .i64 ((s.p : Nat) : Int)]), some (wQ9 ws), some (lQ9 L)] (Rt (.int .i64 (immV g ws s.as)) [some (.blk (rdS g L.length c ((s.wa (immA g ws s.as)).ins) ((s.wa (immA g ws s.as)).lab) 1 4)), some (.blk [.ptr 2 0, .int .i64 ((s.wa (immA g ws s.as)).e), .int .i64 ((s.wa (immA g ws s.as)).a)]), some (.blk [.sl 3 ws.length cw, .int .i64 (((s.wa (immA g ws s.as)).p : Nat) : Int)]), some (wQ9 ws), some (lQ9 L)]) :=
 enterM (n := 24) (by kernel_rfl) Tryz.func193 rfl rfl rfl fun G w a h0 A => N hX 16 A rfl rfl fun A => forkN 8 A rfl
  (fun h1 A => N hX 1 A rfl rfl fun A => DRAWN hX hmo [] [(9, .tup [], [some (.blk (rdS g L.length c s.ins s.lab 1 4)), some (.blk [.ptr 2 0, .int .i64 ((mkA ws s.as g.im).e), .int .i64 ((mkA ws s.as g.im).a)]), some (.blk [.sl 3 ws.length cw, .int .i64 (((mkA ws s.as g.im).p : Nat) : Int)]), some (wQ9 ws), some (lQ9 L)])] A rfl rfl rfl rfl (by kernel_rfl) ⟨callE [1, 2, 3] (mark_ ws cw s.as g.im (by first | exact hk | exact knA_le hk | exact mkA_le hk | exact numA_le hk | (show _ ≤ _; omega)) hn hw) rfl rfl rfl rfl rfl rfl rfl, trivial⟩ trivial fun A => N hX 7 A rfl rfl fun A => CALL1 [1, 2, 3] (num_ ws cw (mkA ws s.as g.im) (by first | exact hk | exact knA_le hk | exact mkA_le hk | exact numA_le hk | (show _ ≤ _; omega)) hn hw) A rfl rfl rfl rfl rfl rfl rfl fun A => N hX 4 A rfl rfl fun A => RETN hX A rfl rfl rfl h0 rfl rfl rfl rfl (by unfold immV; rw [if_neg h1] <;> rfl) (by unfold immA; rw [if_neg h1] <;> rfl))
  (fun h1 A => N hX 9 A rfl rfl fun A => CALL1 [1, 2, 3] (num_ ws cw s.as (by first | exact hk | exact knA_le hk | exact mkA_le hk | exact numA_le hk | (show _ ≤ _; omega)) hn hw) A rfl rfl rfl rfl rfl rfl rfl fun A => N hX 4 A rfl rfl fun A => RETN hX A rfl rfl rfl h0 rfl rfl rfl rfl (by unfold immV; rw [if_pos h1] <;> rfl) (by unfold immA; rw [if_pos h1] <;> rfl))
def m1 (ws : List Tk) (s : Ps) : Ps := s.wa (mkA ws s.as [91])
def m2 (ws : List Tk) (s : Ps) : Ps := ⟨{ s.ins with loc := knI ws s.as [[120], [121], [122]], ix := -1 }, s.lab, (knA ws s.as [[120], [121], [122]]).e, (knA ws s.as [[120], [121], [122]]).a, (knA ws s.as [[120], [121], [122]]).p⟩
def psB (ws : List Tk) (s : Ps) : Bool := tkB ws s.p [43]
def m3 (ws : List Tk) (s : Ps) : Ps := ⟨s.ins, s.lab, s.e, s.a, tkK ws s.p [43]⟩
def nuQ (ws : List Tk) (s : Ps) : Bool := (ws.getD s.p tok0).kind == 2
def offI (ws : List Tk) (s : Ps) : Ps := ⟨{ s.ins with off := nbV ws s.p }, s.lab, s.e, s.a, nbK ws s.p⟩
def regI (g : Lg) (ws : List Tk) (s : Ps) : Ps := ⟨{ s.ins with ix := knI ws s.as [g.r0, g.r1, g.r2, g.r3, g.r4, g.r5, g.r6, g.r7] }, s.lab, (knA ws s.as [g.r0, g.r1, g.r2, g.r3, g.r4, g.r5, g.r6, g.r7]).e, (knA ws s.as [g.r0, g.r1, g.r2, g.r3, g.r4, g.r5, g.r6, g.r7]).a, (knA ws s.as [g.r0, g.r1, g.r2, g.r3, g.r4, g.r5, g.r6, g.r7]).p⟩
def m5 (ws : List Tk) (s : Ps) : Ps := s.wa (mkA ws s.as [93])
def mem3 (ws : List Tk) (s : Ps) : Ps := m3 ws (m2 ws (m1 ws s))
def memS (g : Lg) (ws : List Tk) (s : Ps) : Ps := m5 ws (if psB ws (m2 ws (m1 ws s)) = true then (if nuQ ws (mem3 ws s) = true then (if psB ws (offI ws (mem3 ws s)) = true then regI g ws (m3 ws (offI ws (mem3 ws s))) else m3 ws (offI ws (mem3 ws s))) else regI g ws (mem3 ws s)) else mem3 ws s)
section
variable {g : Lg} {ws : List Tk} {s : Ps}
theorem m1_le (h : s.p ≤ ws.length) : (m1 ws s).p ≤ ws.length := mkA_le (s := s.as) h
theorem m2_le (h : s.p ≤ ws.length) : (m2 ws s).p ≤ ws.length := knA_le (s := s.as) h
theorem m3_le (h : s.p ≤ ws.length) : (m3 ws s).p ≤ ws.length := tkK_le h
theorem m5_le (h : s.p ≤ ws.length) : (m5 ws s).p ≤ ws.length := mkA_le (s := s.as) h
theorem offI_le (h : s.p ≤ ws.length) : (offI ws s).p ≤ ws.length := nbK_le h
theorem regI_le (h : s.p ≤ ws.length) : (regI g ws s).p ≤ ws.length := knA_le (s := s.as) h
theorem mem3_le (h : s.p ≤ ws.length) : (mem3 ws s).p ≤ ws.length := m3_le (m2_le (m1_le h))
theorem memS_le (h : s.p ≤ ws.length) : (memS g ws s).p ≤ ws.length := by
  unfold memS
  apply m5_le
  split
  · split
    · split
      · exact regI_le (m3_le (offI_le (mem3_le h)))
      · exact m3_le (offI_le (mem3_le h))
    · exact regI_le (mem3_le h)
  · exact mem3_le h
end
abbrev mQ9 (ws : List Tk) (s : Ps) : Ps := (⟨(⟨s.ins.op, s.ins.dst, s.ins.ra, s.ins.rb, s.ins.imm, knI ws (mkA ws s.as [91]) [[120], [121], [122]], s.ins.off, (-1), s.ins.sz, s.ins.fn, s.ins.acq, s.ins.weak, s.ins.rel, s.ins.pred, s.ins.succ, s.ins.to_, s.ins.zero⟩ : In), s.lab, (knA ws (mkA ws s.as [91]) [[120], [121], [122]]).e, (knA ws (mkA ws s.as [91]) [[120], [121], [122]]).a, tkK ws ((knA ws (mkA ws s.as [91]) [[120], [121], [122]]).p) [43]⟩ : Ps)
theorem mem_ (g : Lg) (L : List Rw) (c : Nat) (ws : List Tk) (cw : Nat) (s : Ps) (hk : s.p ≤ ws.length) (hn : ws.length ≤ 1000000) (hw : WsOK ws) : Fn Tryz.prog 194 [.ptr 0 0] [some (.blk (rdS g L.length c s.ins s.lab 1 4)), some (.blk [.ptr 2 0, .int .i64 s.e, .int .i64 s.a]), some (.blk [.sl 3 ws.length cw, .int .i64 ((s.p : Nat) : Int)]), some (wQ9 ws), some (lQ9 L)] (Rt (.tup []) [some (.blk (rdS g L.length c ((memS g ws s).ins) ((memS g ws s).lab) 1 4)), some (.blk [.ptr 2 0, .int .i64 ((memS g ws s).e), .int .i64 ((memS g ws s).a)]), some (.blk [.sl 3 ws.length cw, .int .i64 (((memS g ws s).p : Nat) : Int)]), some (wQ9 ws), some (lQ9 L)]) :=
 enterM (n := 72) (by kernel_rfl) Tryz.func194 rfl rfl rfl fun G w a h0 A => N hX 6 A rfl rfl fun A => CALL1 [1, 2, 3] (mark_ ws cw s.as [91] (by first | exact hk | exact m1_le hk | exact m2_le (m1_le hk) | exact mem3_le hk | exact offI_le (mem3_le hk) | exact m3_le (offI_le (mem3_le hk)) | exact regI_le (mem3_le hk) | exact regI_le (m3_le (offI_le (mem3_le hk)))) hn hw) A rfl rfl rfl rfl rfl rfl rfl fun A => N hX 3 A rfl rfl fun A => DRAWN hX hmo [] [(5, .sl 5 3 3, [some (.blk (rdS g L.length c s.ins s.lab 1 4)), some (.blk [.ptr 2 0, .int .i64 ((mkA ws s.as [91]).e), .int .i64 ((mkA ws s.as [91]).a)]), some (.blk [.sl 3 ws.length cw, .int .i64 (((mkA ws s.as [91]).p : Nat) : Int)]), some (wQ9 ws), some (lQ9 L), some (.blk [.str [120], .str [121], .str [122]])]), (6, .int .i64 (knI ws (mkA ws s.as [91]) [[120], [121], [122]]), [some (.blk (rdS g L.length c s.ins s.lab 1 4)), some (.blk [.ptr 2 0, .int .i64 ((knA ws (mkA ws s.as [91]) [[120], [121], [122]]).e), .int .i64 ((knA ws (mkA ws s.as [91]) [[120], [121], [122]]).a)]), some (.blk [.sl 3 ws.length cw, .int .i64 (((knA ws (mkA ws s.as [91]) [[120], [121], [122]]).p : Nat) : Int)]), some (wQ9 ws), some (lQ9 L), some (.blk [.str [120], .str [121], .str [122]])])] A rfl rfl rfl rfl (by kernel_rfl) ⟨callE [] locs_ rfl rfl rfl rfl rfl rfl rfl, ⟨callE [1, 2, 3, 5] (knownL_ ws cw (mkA ws s.as [91]) (by first | exact hk | exact m1_le hk | exact m2_le (m1_le hk) | exact mem3_le hk | exact offI_le (mem3_le hk) | exact m3_le (offI_le (mem3_le hk)) | exact regI_le (mem3_le hk) | exact regI_le (m3_le (offI_le (mem3_le hk)))) hn hw) rfl rfl rfl rfl rfl rfl rfl, ⟨trivial, trivial⟩⟩⟩ trivial fun A => N hX 20 A rfl rfl fun A => CALL1 [2, 3, 6] (take_ ws cw ((knA ws (mkA ws s.as [91]) [[120], [121], [122]]).p) [43] (by first | exact hk | exact m1_le hk | exact m2_le (m1_le hk) | exact mem3_le hk | exact offI_le (mem3_le hk) | exact m3_le (offI_le (mem3_le hk)) | exact regI_le (mem3_le hk) | exact regI_le (m3_le (offI_le (mem3_le hk)))) hn) A rfl rfl rfl rfl rfl rfl rfl fun A => N hX 8 A rfl rfl fun A => fork 32 A rfl
  (fun h1 A => N hX 1 A rfl rfl fun A => CALL1 [0, 1, 2, 3, 4] (isNumber_ g L c ws cw (mQ9 ws s) (by first | exact hk | exact m1_le hk | exact m2_le (m1_le hk) | exact mem3_le hk | exact offI_le (mem3_le hk) | exact m3_le (offI_le (mem3_le hk)) | exact regI_le (mem3_le hk) | exact regI_le (m3_le (offI_le (mem3_le hk)))) hn hw) A rfl rfl rfl rfl rfl rfl rfl fun A => N hX 3 A rfl rfl fun A => forkE 35 A rfl
   (fun h2 A => N hX 11 A rfl rfl fun A => CALL1 [2, 3] (number__ ws cw ((mQ9 ws s).p) (by first | exact hk | exact m1_le hk | exact m2_le (m1_le hk) | exact mem3_le hk | exact offI_le (mem3_le hk) | exact m3_le (offI_le (mem3_le hk)) | exact regI_le (mem3_le hk) | exact regI_le (m3_le (offI_le (mem3_le hk)))) hn) A rfl rfl rfl rfl rfl rfl rfl fun A => N hX 18 A rfl rfl fun A => CALL1 [2, 3, 7] (take_ ws cw (nbK ws ((mQ9 ws s).p)) [43] (by first | exact hk | exact m1_le hk | exact m2_le (m1_le hk) | exact mem3_le hk | exact offI_le (mem3_le hk) | exact m3_le (offI_le (mem3_le hk)) | exact regI_le (mem3_le hk) | exact regI_le (m3_le (offI_le (mem3_le hk)))) hn) A rfl rfl rfl rfl rfl rfl rfl fun A => N hX 9 A rfl rfl fun A => fork 60 A rfl
    (fun h3 A => N hX 4 A rfl rfl fun A => CALL1 [0, 1, 2, 3, 4] (reg_ g L c ws cw (⟨(⟨(mQ9 ws s).ins.op, (mQ9 ws s).ins.dst, (mQ9 ws s).ins.ra, (mQ9 ws s).ins.rb, (mQ9 ws s).ins.imm, (mQ9 ws s).ins.loc, nbV ws ((mQ9 ws s).p), (mQ9 ws s).ins.ix, (mQ9 ws s).ins.sz, (mQ9 ws s).ins.fn, (mQ9 ws s).ins.acq, (mQ9 ws s).ins.weak, (mQ9 ws s).ins.rel, (mQ9 ws s).ins.pred, (mQ9 ws s).ins.succ, (mQ9 ws s).ins.to_, (mQ9 ws s).ins.zero⟩ : In), (mQ9 ws s).lab, (mQ9 ws s).e, (mQ9 ws s).a, tkK ws (nbK ws ((mQ9 ws s).p)) [43]⟩ : Ps) (by first | exact hk | exact m1_le hk | exact m2_le (m1_le hk) | exact mem3_le hk | exact offI_le (mem3_le hk) | exact m3_le (offI_le (mem3_le hk)) | exact regI_le (mem3_le hk) | exact regI_le (m3_le (offI_le (mem3_le hk)))) hn hw) A rfl rfl rfl rfl rfl rfl rfl fun A => N hX 11 A rfl rfl fun A => CALL1 [1, 2, 3] (mark_ ws cw (((⟨(⟨(mQ9 ws s).ins.op, (mQ9 ws s).ins.dst, (mQ9 ws s).ins.ra, (mQ9 ws s).ins.rb, (mQ9 ws s).ins.imm, (mQ9 ws s).ins.loc, nbV ws ((mQ9 ws s).p), (mQ9 ws s).ins.ix, (mQ9 ws s).ins.sz, (mQ9 ws s).ins.fn, (mQ9 ws s).ins.acq, (mQ9 ws s).ins.weak, (mQ9 ws s).ins.rel, (mQ9 ws s).ins.pred, (mQ9 ws s).ins.succ, (mQ9 ws s).ins.to_, (mQ9 ws s).ins.zero⟩ : In), (mQ9 ws s).lab, (mQ9 ws s).e, (mQ9 ws s).a, tkK ws (nbK ws ((mQ9 ws s).p)) [43]⟩ : Ps).wa (knA ws (⟨(⟨(mQ9 ws s).ins.op, (mQ9 ws s).ins.dst, (mQ9 ws s).ins.ra, (mQ9 ws s).ins.rb, (mQ9 ws s).ins.imm, (mQ9 ws s).ins.loc, nbV ws ((mQ9 ws s).p), (mQ9 ws s).ins.ix, (mQ9 ws s).ins.sz, (mQ9 ws s).ins.fn, (mQ9 ws s).ins.acq, (mQ9 ws s).ins.weak, (mQ9 ws s).ins.rel, (mQ9 ws s).ins.pred, (mQ9 ws s).ins.succ, (mQ9 ws s).ins.to_, (mQ9 ws s).ins.zero⟩ : In), (mQ9 ws s).lab, (mQ9 ws s).e, (mQ9 ws s).a, tkK ws (nbK ws ((mQ9 ws s).p)) [43]⟩ : Ps).as [g.r0, g.r1, g.r2, g.r3, g.r4, g.r5, g.r6, g.r7])).as) [93] (by first | exact hk | exact m1_le hk | exact m2_le (m1_le hk) | exact mem3_le hk | exact offI_le (mem3_le hk) | exact m3_le (offI_le (mem3_le hk)) | exact regI_le (mem3_le hk) | exact regI_le (m3_le (offI_le (mem3_le hk)))) hn hw) A rfl rfl rfl rfl rfl rfl rfl fun A => N hX 1 A rfl rfl fun A => ENDN (RETN hX A rfl rfl rfl h0 rfl rfl rfl rfl rfl (by unfold memS; rw [if_pos (show psB ws (m2 ws (m1 ws s)) = true from h1), if_pos (show nuQ ws (mem3 ws s) = true from (beq_iff_eq.2 h2)), if_pos (show psB ws (offI ws (mem3 ws s)) = true from h3)] <;> rfl)))
    (fun h3 A => N hX 8 A rfl rfl fun A => CALL1 [1, 2, 3] (mark_ ws cw (⟨tkK ws (nbK ws ((mQ9 ws s).p)) [43], (mQ9 ws s).e, (mQ9 ws s).a⟩ : As) [93] (by first | exact hk | exact m1_le hk | exact m2_le (m1_le hk) | exact mem3_le hk | exact offI_le (mem3_le hk) | exact m3_le (offI_le (mem3_le hk)) | exact regI_le (mem3_le hk) | exact regI_le (m3_le (offI_le (mem3_le hk)))) hn hw) A rfl rfl rfl rfl rfl rfl rfl fun A => N hX 1 A rfl rfl fun A => ENDN (RETN hX A rfl rfl rfl h0 rfl rfl rfl rfl rfl (by unfold memS; rw [if_pos (show psB ws (m2 ws (m1 ws s)) = true from h1), if_pos (show nuQ ws (mem3 ws s) = true from (beq_iff_eq.2 h2)), if_neg (show ¬ psB ws (offI ws (mem3 ws s)) = true from ne_true_of_eq_false h3)] <;> rfl))))
   (fun h2 A => N hX 9 A rfl rfl fun A => fork 60 A rfl
    (fun h4 A => N hX 4 A rfl rfl fun A => CALL1 [0, 1, 2, 3, 4] (reg_ g L c ws cw (mQ9 ws s) (by first | exact hk | exact m1_le hk | exact m2_le (m1_le hk) | exact mem3_le hk | exact offI_le (mem3_le hk) | exact m3_le (offI_le (mem3_le hk)) | exact regI_le (mem3_le hk) | exact regI_le (m3_le (offI_le (mem3_le hk)))) hn hw) A rfl rfl rfl rfl rfl rfl rfl fun A => N hX 11 A rfl rfl fun A => CALL1 [1, 2, 3] (mark_ ws cw (((mQ9 ws s).wa (knA ws (mQ9 ws s).as [g.r0, g.r1, g.r2, g.r3, g.r4, g.r5, g.r6, g.r7])).as) [93] (by first | exact hk | exact m1_le hk | exact m2_le (m1_le hk) | exact mem3_le hk | exact offI_le (mem3_le hk) | exact m3_le (offI_le (mem3_le hk)) | exact regI_le (mem3_le hk) | exact regI_le (m3_le (offI_le (mem3_le hk)))) hn hw) A rfl rfl rfl rfl rfl rfl rfl fun A => N hX 1 A rfl rfl fun A => ENDN (RETN hX A rfl rfl rfl h0 rfl rfl rfl rfl rfl (by unfold memS; rw [if_pos (show psB ws (m2 ws (m1 ws s)) = true from h1), if_neg (show ¬ nuQ ws (mem3 ws s) = true from ne_true_of_eq_false (beq_eq_false_iff_ne.2 h2))] <;> rfl)))
    (fun h4 A => absurd (h1.symm.trans h4) (by decide))))
  (fun h1 A => N hX 14 A rfl rfl fun A => fork 60 A rfl
   (fun h5 A => absurd (h1.symm.trans h5) (by decide))
   (fun h5 A => N hX 8 A rfl rfl fun A => CALL1 [1, 2, 3] (mark_ ws cw (⟨tkK ws ((knA ws (mkA ws s.as [91]) [[120], [121], [122]]).p) [43], (knA ws (mkA ws s.as [91]) [[120], [121], [122]]).e, (knA ws (mkA ws s.as [91]) [[120], [121], [122]]).a⟩ : As) [93] (by first | exact hk | exact m1_le hk | exact m2_le (m1_le hk) | exact mem3_le hk | exact offI_le (mem3_le hk) | exact m3_le (offI_le (mem3_le hk)) | exact regI_le (mem3_le hk) | exact regI_le (m3_le (offI_le (mem3_le hk)))) hn hw) A rfl rfl rfl rfl rfl rfl rfl fun A => N hX 1 A rfl rfl fun A => ENDN (RETN hX A rfl rfl rfl h0 rfl rfl rfl rfl rfl (by unfold memS; rw [if_neg (show ¬ psB ws (m2 ws (m1 ws s)) = true from ne_true_of_eq_false h1)] <;> rfl))))
theorem isMark_ (t : Tk) (m : List UInt8)  : Fn Tryz.prog 228 [.agg [.int .i64 t.kind, .str t.text, .int .i64 t.n, .int .i64 t.at_], .str m] [] (Rt (.bool ((t.kind == 3) && (t.text == m))) []) :=
 enterM (n := 14) (by kernel_rfl) Tryz.func228 rfl rfl rfl fun G w a h0 A => N hX 21 A rfl rfl fun A => RETN hX A rfl rfl rfl h0 rfl rfl rfl rfl rfl rfl
def begI (g : Lg) (t : Tk) : Bool := if g.im = [] then ((t.kind == 2) || ((t.kind == 3) && (t.text == [45]))) else ((t.kind == 3) && (t.text == g.im))
def begQ (g : Lg) (r : Rw) (p : Int) (t : Tk) : Bool := if p = 5 then begI g t else if p = 6 then ((t.kind == 3) && (t.text == [91])) else if p = 10 then ((t.kind == 1) && (t.text == r.wd)) else (t.kind == 1)
theorem beginsImm_ (g : Lg) (L : List Rw) (c : Nat) (ws : List Tk) (cw : Nat) (s : Ps) (t : Tk)  : Fn Tryz.prog 227 [.ptr 0 0, .agg [.int .i64 t.kind, .str t.text, .int .i64 t.n, .int .i64 t.at_]] [some (.blk (rdS g L.length c s.ins s.lab 1 4)), some (.blk [.ptr 2 0, .int .i64 s.e, .int .i64 s.a]), some (.blk [.sl 3 ws.length cw, .int .i64 ((s.p : Nat) : Int)]), some (wQ9 ws), some (lQ9 L)] (Rt (.bool (begI g t)) [some (.blk (rdS g L.length c s.ins s.lab 1 4)), some (.blk [.ptr 2 0, .int .i64 s.e, .int .i64 s.a]), some (.blk [.sl 3 ws.length cw, .int .i64 ((s.p : Nat) : Int)]), some (wQ9 ws), some (lQ9 L)]) :=
 enterM (n := 25) (by kernel_rfl) Tryz.func227 rfl rfl rfl fun G w a h0 A => N hX 17 A rfl rfl fun A => forkN 10 A rfl
  (fun h1 A => N hX 2 A rfl rfl fun A => DRAWN hX hmo [(6, .bool ((t.kind == 3) && (t.text == g.im)))] [] A rfl rfl rfl rfl (by kernel_rfl) (effAll_nil _ _) ⟨.inl ⟨_, _, rfl, rfl, isMark_ t g.im⟩, trivial⟩ fun A => N hX 2 A rfl rfl fun A => RETN hX A rfl rfl rfl h0 rfl rfl rfl rfl (by unfold begI; rw [if_neg h1] <;> rfl) rfl)
  (fun h1 A => N hX 9 A rfl rfl fun A => forkE 21 A rfl
   (fun h2 A => N hX 7 A rfl rfl fun A => RETN hX A rfl rfl rfl h0 rfl rfl rfl rfl (by unfold begI; rw [if_pos h1, show (t.kind == 2) = true from beq_iff_eq.2 h2] <;> rfl) rfl)
   (fun h2 A => N hX 1 A rfl rfl fun A => CALL1 [] (isMark_ t [45]) A rfl rfl rfl rfl rfl rfl rfl fun A => N hX 5 A rfl rfl fun A => RETN hX A rfl rfl rfl h0 rfl rfl rfl rfl (by unfold begI; rw [if_pos h1, show (t.kind == 2) = false from beq_eq_false_iff_ne.2 h2] <;> rfl) rfl))
def ptS (g : Lg) (ws : List Tk) (p : Int) (s : Ps) : Ps :=
  if p = 1 then ⟨{ s.ins with dst := knI ws s.as [g.r0, g.r1, g.r2, g.r3, g.r4, g.r5, g.r6, g.r7] }, s.lab, (knA ws s.as [g.r0, g.r1, g.r2, g.r3, g.r4, g.r5, g.r6, g.r7]).e, (knA ws s.as [g.r0, g.r1, g.r2, g.r3, g.r4, g.r5, g.r6, g.r7]).a, (knA ws s.as [g.r0, g.r1, g.r2, g.r3, g.r4, g.r5, g.r6, g.r7]).p⟩ else
  if p = 4 then ⟨{ s.ins with dst := knI ws s.as [g.r0, g.r1, g.r2, g.r3, g.r4, g.r5, g.r6, g.r7] }, s.lab, (knA ws s.as [g.r0, g.r1, g.r2, g.r3, g.r4, g.r5, g.r6, g.r7]).e, (knA ws s.as [g.r0, g.r1, g.r2, g.r3, g.r4, g.r5, g.r6, g.r7]).a, (knA ws s.as [g.r0, g.r1, g.r2, g.r3, g.r4, g.r5, g.r6, g.r7]).p⟩ else
  if p = 2 then ⟨{ s.ins with ra := knI ws s.as [g.r0, g.r1, g.r2, g.r3, g.r4, g.r5, g.r6, g.r7] }, s.lab, (knA ws s.as [g.r0, g.r1, g.r2, g.r3, g.r4, g.r5, g.r6, g.r7]).e, (knA ws s.as [g.r0, g.r1, g.r2, g.r3, g.r4, g.r5, g.r6, g.r7]).a, (knA ws s.as [g.r0, g.r1, g.r2, g.r3, g.r4, g.r5, g.r6, g.r7]).p⟩ else
  if p = 3 then ⟨{ s.ins with rb := knI ws s.as [g.r0, g.r1, g.r2, g.r3, g.r4, g.r5, g.r6, g.r7] }, s.lab, (knA ws s.as [g.r0, g.r1, g.r2, g.r3, g.r4, g.r5, g.r6, g.r7]).e, (knA ws s.as [g.r0, g.r1, g.r2, g.r3, g.r4, g.r5, g.r6, g.r7]).a, (knA ws s.as [g.r0, g.r1, g.r2, g.r3, g.r4, g.r5, g.r6, g.r7]).p⟩ else
  if p = 5 then ⟨{ s.ins with imm := immV g ws s.as }, s.lab, (immA g ws s.as).e, (immA g ws s.as).a, (immA g ws s.as).p⟩ else
  if p = 6 then memS g ws s else
  if p = 7 then ⟨s.ins, nmT ws s.p, s.e, s.a, nmK ws s.p⟩ else
  if p = 8 then ⟨{ s.ins with pred := knI ws s.as [g.f0, g.f1, g.f2] + 1 }, s.lab, (knA ws s.as [g.f0, g.f1, g.f2]).e, (knA ws s.as [g.f0, g.f1, g.f2]).a, (knA ws s.as [g.f0, g.f1, g.f2]).p⟩ else
  if p = 9 then ⟨{ s.ins with succ := knI ws s.as [g.f0, g.f1, g.f2] + 1 }, s.lab, (knA ws s.as [g.f0, g.f1, g.f2]).e, (knA ws s.as [g.f0, g.f1, g.f2]).a, (knA ws s.as [g.f0, g.f1, g.f2]).p⟩ else
  if p = 10 then ⟨s.ins, s.lab, s.e, s.a, nxK ws s.p⟩ else
  s
theorem ptS_le {g : Lg} {ws : List Tk} {p : Int} {s : Ps} (h : s.p ≤ ws.length) : (ptS g ws p s).p ≤ ws.length := by
  unfold ptS
  split
  · exact knA_le (s := s.as) h
  split
  · exact knA_le (s := s.as) h
  split
  · exact knA_le (s := s.as) h
  split
  · exact knA_le (s := s.as) h
  split
  · exact immA_le (s := s.as) h
  split
  · exact memS_le h
  split
  · exact nmK_le h
  split
  · exact knA_le (s := s.as) h
  split
  · exact knA_le (s := s.as) h
  split
  · exact nxK_le h
  · exact h
theorem part_ (g : Lg) (L : List Rw) (c : Nat) (ws : List Tk) (cw : Nat) (s : Ps) (p : Int) (hk : s.p ≤ ws.length) (hn : ws.length ≤ 1000000) (hw : WsOK ws) : Fn Tryz.prog 137 [.ptr 0 0, .int .i64 p] [some (.blk (rdS g L.length c s.ins s.lab 1 4)), some (.blk [.ptr 2 0, .int .i64 s.e, .int .i64 s.a]), some (.blk [.sl 3 ws.length cw, .int .i64 ((s.p : Nat) : Int)]), some (wQ9 ws), some (lQ9 L)] (Rt (.tup []) [some (.blk (rdS g L.length c ((ptS g ws p s).ins) ((ptS g ws p s).lab) 1 4)), some (.blk [.ptr 2 0, .int .i64 ((ptS g ws p s).e), .int .i64 ((ptS g ws p s).a)]), some (.blk [.sl 3 ws.length cw, .int .i64 (((ptS g ws p s).p : Nat) : Int)]), some (wQ9 ws), some (lQ9 L)]) :=
 enterM (n := 84) (by kernel_rfl) Tryz.func137 rfl rfl rfl fun G w a h0 A => N hX 13 A rfl rfl fun A => forkE 5 A rfl
  (fun h1 A => N hX 7 A rfl rfl fun A => CALL1 [0, 1, 2, 3, 4] (reg_ g L c ws cw s (by first | exact hk | exact m1_le hk | exact m2_le (m1_le hk) | exact mem3_le hk | exact offI_le (mem3_le hk) | exact m3_le (offI_le (mem3_le hk)) | exact regI_le (mem3_le hk) | exact regI_le (m3_le (offI_le (mem3_le hk)))) hn hw) A rfl rfl rfl rfl rfl rfl rfl fun A => N hX 6 A rfl rfl fun A => ENDN (RETN hX A rfl rfl rfl h0 rfl rfl rfl rfl rfl (by unfold ptS; rw [if_pos h1] <;> rfl)))
  (fun h1 A => N hX 6 A rfl rfl fun A => forkE 5 A rfl
   (fun h2 A => N hX 4 A rfl rfl fun A => CALL1 [0, 1, 2, 3, 4] (reg_ g L c ws cw s (by first | exact hk | exact m1_le hk | exact m2_le (m1_le hk) | exact mem3_le hk | exact offI_le (mem3_le hk) | exact m3_le (offI_le (mem3_le hk)) | exact regI_le (mem3_le hk) | exact regI_le (m3_le (offI_le (mem3_le hk)))) hn hw) A rfl rfl rfl rfl rfl rfl rfl fun A => N hX 6 A rfl rfl fun A => ENDN (RETN hX A rfl rfl rfl h0 rfl rfl rfl rfl rfl (by unfold ptS; rw [if_neg h1, if_pos h2] <;> rfl)))
   (fun h2 A => N hX 7 A rfl rfl fun A => forkE 14 A rfl
    (fun h3 A => N hX 4 A rfl rfl fun A => CALL1 [0, 1, 2, 3, 4] (reg_ g L c ws cw s (by first | exact hk | exact m1_le hk | exact m2_le (m1_le hk) | exact mem3_le hk | exact offI_le (mem3_le hk) | exact m3_le (offI_le (mem3_le hk)) | exact regI_le (mem3_le hk) | exact regI_le (m3_le (offI_le (mem3_le hk)))) hn hw) A rfl rfl rfl rfl rfl rfl rfl fun A => N hX 6 A rfl rfl fun A => ENDN (RETN hX A rfl rfl rfl h0 rfl rfl rfl rfl rfl (by unfold ptS; rw [if_neg h1, if_neg h2, if_pos h3] <;> rfl)))
    (fun h3 A => N hX 7 A rfl rfl fun A => forkE 22 A rfl
     (fun h4 A => N hX 4 A rfl rfl fun A => CALL1 [0, 1, 2, 3, 4] (reg_ g L c ws cw s (by first | exact hk | exact m1_le hk | exact m2_le (m1_le hk) | exact mem3_le hk | exact offI_le (mem3_le hk) | exact m3_le (offI_le (mem3_le hk)) | exact regI_le (mem3_le hk) | exact regI_le (m3_le (offI_le (mem3_le hk)))) hn hw) A rfl rfl rfl rfl rfl rfl rfl fun A => N hX 6 A rfl rfl fun A => ENDN (RETN hX A rfl rfl rfl h0 rfl rfl rfl rfl rfl (by unfold ptS; rw [if_neg h1, if_neg h2, if_neg h3, if_pos h4] <;> rfl)))
     (fun h4 A => N hX 7 A rfl rfl fun A => forkE 30 A rfl
      (fun h5 A => N hX 4 A rfl rfl fun A => CALL1 [0, 1, 2, 3, 4] (imm_ g L c ws cw s (by first | exact hk | exact m1_le hk | exact m2_le (m1_le hk) | exact mem3_le hk | exact offI_le (mem3_le hk) | exact m3_le (offI_le (mem3_le hk)) | exact regI_le (mem3_le hk) | exact regI_le (m3_le (offI_le (mem3_le hk)))) hn hw) A rfl rfl rfl rfl rfl rfl rfl fun A => N hX 6 A rfl rfl fun A => ENDN (RETN hX A rfl rfl rfl h0 rfl rfl rfl rfl rfl (by unfold ptS; rw [if_neg h1, if_neg h2, if_neg h3, if_neg h4, if_pos h5] <;> rfl)))
      (fun h5 A => N hX 7 A rfl rfl fun A => forkE 38 A rfl
       (fun h6 A => N hX 3 A rfl rfl fun A => CALL1 [0, 1, 2, 3, 4] (mem_ g L c ws cw s (by first | exact hk | exact m1_le hk | exact m2_le (m1_le hk) | exact mem3_le hk | exact offI_le (mem3_le hk) | exact m3_le (offI_le (mem3_le hk)) | exact regI_le (mem3_le hk) | exact regI_le (m3_le (offI_le (mem3_le hk)))) hn hw) A rfl rfl rfl rfl rfl rfl rfl fun A => N hX 2 A rfl rfl fun A => ENDN (RETN hX A rfl rfl rfl h0 rfl rfl rfl rfl rfl (by unfold ptS; rw [if_neg h1, if_neg h2, if_neg h3, if_neg h4, if_neg h5, if_pos h6] <;> rfl)))
       (fun h6 A => N hX 7 A rfl rfl fun A => forkE 42 A rfl
        (fun h7 A => N hX 10 A rfl rfl fun A => CALL1 [2, 3] (name_ ws cw s.p (by first | exact hk | exact m1_le hk | exact m2_le (m1_le hk) | exact mem3_le hk | exact offI_le (mem3_le hk) | exact m3_le (offI_le (mem3_le hk)) | exact regI_le (mem3_le hk) | exact regI_le (m3_le (offI_le (mem3_le hk)))) hn) A rfl rfl rfl rfl rfl rfl rfl fun A => N hX 8 A rfl rfl fun A => ENDN (RETN hX A rfl rfl rfl h0 rfl rfl rfl rfl rfl (by unfold ptS; rw [if_neg h1, if_neg h2, if_neg h3, if_neg h4, if_neg h5, if_neg h6, if_pos h7] <;> rfl)))
        (fun h7 A => N hX 7 A rfl rfl fun A => forkE 58 A rfl
         (fun h8 A => N hX 4 A rfl rfl fun A => CALL1 [0, 1, 2, 3, 4] (fenced_ g L c ws cw s (by first | exact hk | exact m1_le hk | exact m2_le (m1_le hk) | exact mem3_le hk | exact offI_le (mem3_le hk) | exact m3_le (offI_le (mem3_le hk)) | exact regI_le (mem3_le hk) | exact regI_le (m3_le (offI_le (mem3_le hk)))) hn hw) A rfl rfl rfl rfl rfl rfl rfl fun A => N hX 6 A rfl rfl fun A => ENDN (RETN hX A rfl rfl rfl h0 rfl rfl rfl rfl rfl (by unfold ptS; rw [if_neg h1, if_neg h2, if_neg h3, if_neg h4, if_neg h5, if_neg h6, if_neg h7, if_pos h8] <;> rfl)))
         (fun h8 A => N hX 7 A rfl rfl fun A => forkE 66 A rfl
          (fun h9 A => N hX 4 A rfl rfl fun A => CALL1 [0, 1, 2, 3, 4] (fenced_ g L c ws cw s (by first | exact hk | exact m1_le hk | exact m2_le (m1_le hk) | exact mem3_le hk | exact offI_le (mem3_le hk) | exact m3_le (offI_le (mem3_le hk)) | exact regI_le (mem3_le hk) | exact regI_le (m3_le (offI_le (mem3_le hk)))) hn hw) A rfl rfl rfl rfl rfl rfl rfl fun A => N hX 6 A rfl rfl fun A => ENDN (RETN hX A rfl rfl rfl h0 rfl rfl rfl rfl rfl (by unfold ptS; rw [if_neg h1, if_neg h2, if_neg h3, if_neg h4, if_neg h5, if_neg h6, if_neg h7, if_neg h8, if_pos h9] <;> rfl)))
          (fun h9 A => N hX 7 A rfl rfl fun A => forkE 74 A rfl
           (fun h10 A => N hX 9 A rfl rfl fun A => CALL1 [2, 3] (next_ ws cw s.p (by first | exact hk | exact m1_le hk | exact m2_le (m1_le hk) | exact mem3_le hk | exact offI_le (mem3_le hk) | exact m3_le (offI_le (mem3_le hk)) | exact regI_le (mem3_le hk) | exact regI_le (m3_le (offI_le (mem3_le hk)))) hn) A rfl rfl rfl rfl rfl rfl rfl fun A => N hX 2 A rfl rfl fun A => ENDN (RETN hX A rfl rfl rfl h0 rfl rfl rfl rfl rfl (by unfold ptS; rw [if_neg h1, if_neg h2, if_neg h3, if_neg h4, if_neg h5, if_neg h6, if_neg h7, if_neg h8, if_neg h9, if_pos h10] <;> rfl)))
           (fun h10 A => N hX 3 A rfl rfl fun A => ENDN (RETN hX A rfl rfl rfl h0 rfl rfl rfl rfl rfl (by unfold ptS; rw [if_neg h1, if_neg h2, if_neg h3, if_neg h4, if_neg h5, if_neg h6, if_neg h7, if_neg h8, if_neg h9, if_neg h10] <;> rfl))))))))))))
theorem begins_ (g : Lg) (L : List Rw) (c : Nat) (ws : List Tk) (cw : Nat) (s : Ps) (r : Rw) (k : Nat) (t : Tk) (hq : k < r.ps.length) : FnI (LiesAt r.pa r.ps) Tryz.prog 191 [.ptr 0 0, .agg (rwQ9 r), .int .i64 (k : Int), .agg [.int .i64 t.kind, .str t.text, .int .i64 t.n, .int .i64 t.at_]] [some (.blk (rdS g L.length c s.ins s.lab 1 4)), some (.blk [.ptr 2 0, .int .i64 s.e, .int .i64 s.a]), some (.blk [.sl 3 ws.length cw, .int .i64 ((s.p : Nat) : Int)]), some (wQ9 ws), some (lQ9 L)] (Rt (.bool (begQ g r (r.ps.getD k 0) t)) [some (.blk (rdS g L.length c s.ins s.lab 1 4)), some (.blk [.ptr 2 0, .int .i64 s.e, .int .i64 s.a]), some (.blk [.sl 3 ws.length cw, .int .i64 ((s.p : Nat) : Int)]), some (wQ9 ws), some (lQ9 L)]) :=
 enterI (n := 38) (by kernel_rfl) Tryz.func191 rfl rfl rfl fun G w a h0 hI A => N hX 12 A rfl rfl fun A => ADOPT (y := .sl 7 r.ps.length r.cp) (H' := [some (.blk (rdS g L.length c s.ins s.lab 1 4)), some (.blk [.ptr 2 0, .int .i64 s.e, .int .i64 s.a]), some (.blk [.sl 3 ws.length cw, .int .i64 ((s.p : Nat) : Int)]), some (wQ9 ws), some (lQ9 L), some (.blk (rwQ9 r)), some (.blk [.int .i64 t.kind, .str t.text, .int .i64 t.n, .int .i64 t.at_]), some (.lst 1 r.ps.length (fun j => [.int .i64 (r.ps.getD j 0)]))]) 10 hI A rfl rfl rfl rfl fun A => N hX 7 A rfl (ok_d (by omega) <| ok_d (by omega) <| okE_nil) fun A => N hX 5 A rfl rfl fun A => forkE 14 A rfl
  (fun h1 A => N hX 5 A rfl rfl fun A => CALL1 [0, 1, 2, 3, 4] (beginsImm_ g L c ws cw s t) A rfl rfl rfl rfl rfl rfl rfl fun A => N hX 4 A rfl rfl fun A => RETN hX A rfl rfl rfl h0 rfl rfl rfl rfl (by unfold begQ; rw [if_pos (show r.ps.getD k 0 = 5 from h1)] <;> rfl) rfl)
  (fun h1 A => N hX 7 A rfl rfl fun A => forkE 19 A rfl
   (fun h2 A => N hX 4 A rfl rfl fun A => CALL1 [] (isMark_ t [91]) A rfl rfl rfl rfl rfl rfl rfl fun A => N hX 4 A rfl rfl fun A => RETN hX A rfl rfl rfl h0 rfl rfl rfl rfl (by unfold begQ; rw [if_neg (show ¬ r.ps.getD k 0 = 5 from h1), if_pos (show r.ps.getD k 0 = 6 from h2)] <;> rfl) rfl)
   (fun h2 A => N hX 7 A rfl rfl fun A => forkE 23 A rfl
    (fun h3 A => N hX 17 A rfl rfl fun A => RETN hX A rfl rfl rfl h0 rfl rfl rfl rfl (by unfold begQ; rw [if_neg (show ¬ r.ps.getD k 0 = 5 from h1), if_neg (show ¬ r.ps.getD k 0 = 6 from h2), if_pos (show r.ps.getD k 0 = 10 from h3)] <;> rfl) rfl)
    (fun h3 A => N hX 13 A rfl rfl fun A => RETN hX A rfl rfl rfl h0 rfl rfl rfl rfl (by unfold begQ; rw [if_neg (show ¬ r.ps.getD k 0 = 5 from h1), if_neg (show ¬ r.ps.getD k 0 = 6 from h2), if_neg (show ¬ r.ps.getD k 0 = 10 from h3)] <;> rfl) rfl)))
end Go.Proofs.YtedlaclfhgneeabGreatDoor
namespace Go.Proofs.YtedlaclfhgneeabGreatDoor
open Go.Shelf Go.RowKit
set_option linter.unusedVariables false
def laysCut_ren : Go.Shelf.Ren := ⟨fun | 145 => 223 | 217 => 179 | 219 => 128 | 220 => 260 | 224 => 181 | 225 => 180 | 266 => 215 | 267 => 182 | 314 => 216 | n => n, fun | 3 => 3 | 4 => 4 | 5 => 5 | 9 => 9 | 46 => 224 | 51 => 244 | 59 => 252 | 146 => 245 | n => n, fun | 1 => 0 | n => n⟩
theorem laysCut : Go.Proofs.Lays.n145 Tryz.prog laysCut_ren := {
  mixed := by kernel_rfl
  f145 := Tryz.func223.trans (congrArg some (by kernel_rfl))
  f217 := Tryz.func179.trans (congrArg some (by kernel_rfl))
  f219 := Tryz.func128.trans (congrArg some (by kernel_rfl))
  f220 := Tryz.func260.trans (congrArg some (by kernel_rfl))
  f224 := Tryz.func181.trans (congrArg some (by kernel_rfl))
  f225 := Tryz.func180.trans (congrArg some (by kernel_rfl))
  f266 := Tryz.func215.trans (congrArg some (by kernel_rfl))
  f267 := Tryz.func182.trans (congrArg some (by kernel_rfl))
  f314 := Tryz.func216.trans (congrArg some (by kernel_rfl))
  t3 := Tryz.underlying3
  a3 := Tryz.isAgg3
  z3 := Tryz.sizeOf3
  v3 := Tryz.zeroValue3
  t4 := Tryz.underlying4
  a4 := Tryz.isAgg4
  z4 := Tryz.sizeOf4
  v4 := Tryz.zeroValue4
  t5 := Tryz.underlying5
  a5 := Tryz.isAgg5
  z5 := Tryz.sizeOf5
  v5 := Tryz.zeroValue5
  t9 := Tryz.underlying9
  a9 := Tryz.isAgg9
  z9 := Tryz.sizeOf9
  v9 := Tryz.zeroValue9
  t46 := Tryz.underlying224
  a46 := Tryz.isAgg224
  z46 := Tryz.sizeOf224
  v46 := Tryz.zeroValue224
  t51 := Tryz.underlying244
  a51 := Tryz.isAgg244
  z51 := Tryz.sizeOf244
  v51 := Tryz.zeroValue244
  t59 := Tryz.underlying252
  a59 := Tryz.isAgg252
  z59 := Tryz.sizeOf252
  v59 := Tryz.zeroValue252
  t146 := Tryz.underlying245
  a146 := Tryz.isAgg245
  z146 := Tryz.sizeOf245
  v146 := Tryz.zeroValue245
  g1 := by kernel_rfl }
theorem cut_any (l q : List UInt8) (m : Int) (w : World) (hl : l.length ≤ 1000000) (hm : w.cell? ⟨0, 0, none⟩ = some (.int .i64 m)) : Calls Tryz.prog 223 #[.string (S l), .string (S q)] w fun e w' => e = .returned (.tuple #[.string (S (Lib.cut l q).1), .string (S (Lib.cut l q).2.1), .bool (Lib.cut l q).2.2]) ∧ Grow w w' := by
  refine (Any.strings_Cut laysCut (S l) (S q) m w (by rw [S_size]; omega) hm).mono ?_
  rintro e w' ⟨rfl, k, rfl⟩
  exact ⟨by rw [S_data, S_data]; rfl, (Grow.refl w).drewN k⟩
end Go.Proofs.YtedlaclfhgneeabGreatDoor
namespace Go.Proofs.YtedlaclfhgneeabGreatDoor
open Go.RowKit
set_option linter.unusedVariables false
set_option linter.unusedSimpArgs false
set_option maxRecDepth 100000
set_option maxHeartbeats 2000000
set_option simprocs false
theorem cutI_ (l q : List UInt8) (os : List (Nat × Obj)) (hM : ∀ w ks, Gl os w ks → ∃ m, w.cell? ⟨0, 0, none⟩ = some (.int .i64 m)) (hl : l.length ≤ 1000000) : FnI (Gl os) Tryz.prog 223 [.str l, .str q] [] (Rt (.tup [.str (Lib.cut l q).1, .str (Lib.cut l q).2.1, .bool (Lib.cut l q).2.2]) []) := fnI_grow (by kernel_rfl) rfl rfl fun w ks h => by
  obtain ⟨m, hm⟩ := hM w ks h
  exact cut_any l q m w hl hm
def nms (g : Lg) (nm : List UInt8) : List (List UInt8) := [(Lib.cut nm [42]).1 ++ g.l0 ++ (Lib.cut nm [42]).2.1, (Lib.cut nm [42]).1 ++ g.l1 ++ (Lib.cut nm [42]).2.1, (Lib.cut nm [42]).1 ++ g.l2 ++ (Lib.cut nm [42]).2.1, (Lib.cut nm [42]).1 ++ g.l3 ++ (Lib.cut nm [42]).2.1]
theorem nms_at {g : Lg} {nm : List UInt8} {k : Nat} (h : k < 4) : (nms g nm).getD k [] = (Lib.cut nm [42]).1 ++ [g.l0, g.l1, g.l2, g.l3].getD ((k : Int)).toNat [] ++ (Lib.cut nm [42]).2.1 := by
  have : k = 0 ∨ k = 1 ∨ k = 2 ∨ k = 3 := by omega
  rcases this with rfl | rfl | rfl | rfl <;> rfl
def szP (g : Lg) (nm q : List UInt8) : Int × Bool := if (Lib.cut nm [42]).2.2 = true then (if idxS (nms g nm) q < 0 then (0, false) else (IntKind.wrap .i64 (1 * 2 ^ min (idxS (nms g nm) q).toNat (IntKind.bits .i64)), true)) else (0, q == nm)
structure NmOK (g : Lg) (nm : List UInt8) : Prop where
  n : nm.length ≤ 1000
  c1 : (Lib.cut nm [42]).1.length ≤ 1000
  c2 : (Lib.cut nm [42]).2.1.length ≤ 1000
  l : ∀ k, ([g.l0, g.l1, g.l2, g.l3].getD k []).length ≤ 1000
theorem sz_hit {g : Lg} {nm q : List UInt8} {k : Nat} (hc : (!((Lib.cut nm [42]).2.2)) = false) (hI : IxI (nms g nm) q k) (hk : (k : Int) < 4) (h : q = (Lib.cut nm [42]).1 ++ [g.l0, g.l1, g.l2, g.l3].getD ((k : Int)).toNat [] ++ (Lib.cut nm [42]).2.1) : szP g nm q = (IntKind.wrap .i64 (1 * 2 ^ min ((k : Int)).toNat (IntKind.bits .i64)), true) := by
  have e := hI.hit (show k < 4 by omega) (by rw [nms_at (by omega), ← h]; exact beq_self_eq_true q)
  unfold szP
  rw [if_pos (by cases z : (Lib.cut nm [42]).2.2 with | true => rfl | false => rw [z] at hc; cases hc), e, if_neg (by omega)]
theorem sz_fi {g : Lg} {nm q : List UInt8} {k : Nat} (hc : (!((Lib.cut nm [42]).2.2)) = false) (hI : IxI (nms g nm) q k) (hk : ¬ (k : Int) < 4) : szP g nm q = (0, false) := by
  have e := hI.fi (show 4 ≤ k by omega)
  unfold szP
  rw [if_pos (by cases z : (Lib.cut nm [42]).2.2 with | true => rfl | false => rw [z] at hc; cases hc), e, if_pos (by decide)]
theorem sz_no {g : Lg} {nm q : List UInt8} (hc : (!((Lib.cut nm [42]).2.2)) = true) : szP g nm q = (0, q == nm) := by
  unfold szP
  rw [if_neg (by intro z; rw [z] at hc; cases hc)]
theorem sz_nx {g : Lg} {nm q : List UInt8} {k : Nat} (hI : IxI (nms g nm) q k) (hk : (k : Int) < 4) (h : q ≠ (Lib.cut nm [42]).1 ++ [g.l0, g.l1, g.l2, g.l3].getD ((k : Int)).toNat [] ++ (Lib.cut nm [42]).2.1) : IxI (nms g nm) q (k + 1) :=
  hI.nx (show k < 4 by omega) (by rw [nms_at (by omega)]; exact beq_eq_false_iff_ne.2 h)
theorem sizeOf_ (g : Lg) (L : List Rw) (c : Nat) (r : Rw) (q : List UInt8) (os : List (Nat × Obj)) (hM : ∀ w ks, Gl os w ks → ∃ m, w.cell? ⟨0, 0, none⟩ = some (.int .i64 m)) (hm : NmOK g r.nm) : FnI (Gl os) Tryz.prog 186 [.agg [.str g.r0, .str g.r1, .str g.r2, .str g.r3, .str g.r4, .str g.r5, .str g.r6, .str g.r7, .str g.l0, .str g.l1, .str g.l2, .str g.l3, .str g.im, .str g.f0, .str g.f1, .str g.f2, .sl 0 L.length c], .agg (rwQ9 r), .str q] [some (lQ9 L)] (Rt (.tup [.int .i64 ((szP g r.nm q).1), .bool ((szP g r.nm q).2)]) [some (lQ9 L)]) :=
 enterI (n := 42) (by kernel_rfl) Tryz.func186 rfl rfl rfl fun G w a h0 hI A => N hX 12 A rfl rfl fun A => CALLI [] Gl.ok hI (cutI_ r.nm [42] os hM (by have := hm.n; omega)) A rfl rfl rfl rfl rfl rfl rfl fun A => N hX 16 A rfl rfl fun A => fork 21 A rfl
  (fun h1 A => N hX 2 A rfl rfl fun A => DRAWN hX hmo [] [] A rfl rfl rfl rfl (by kernel_rfl) (effAll_nil _ _) trivial fun A => N hX 2 A rfl rfl fun A => RETN hX A rfl rfl rfl h0 rfl rfl rfl rfl (by rw [sz_no h1] <;> rfl) rfl)
  (fun h1 A => N hX 12 A rfl rfl fun A => LOOP1 (fun (k : Nat) => [(2, .str q), (6, .int .i64 0), (7, .ff), (8, .str ((Lib.cut r.nm [42]).1)), (9, .str ((Lib.cut r.nm [42]).2.1)), (27, .agg [.str g.l0, .str g.l1, .str g.l2, .str g.l3]), (28, .int .i64 (k : Int))]) (fun (k : Nat) => [some (lQ9 L), some (.blk [.str g.r0, .str g.r1, .str g.r2, .str g.r3, .str g.r4, .str g.r5, .str g.r6, .str g.r7, .str g.l0, .str g.l1, .str g.l2, .str g.l3, .str g.im, .str g.f0, .str g.f1, .str g.f2, .sl 0 L.length c]), some (.blk (rwQ9 r))]) (fun (k : Nat) => IxI (nms g r.nm) q k) (fun (k : Nat) => 4 - k) 0 IxI.i0 ((A.cut [2, 6, 7, 8, 9, 27, 28] rfl).trunc 3 rfl rfl rfl (by simp only [List.length_cons, List.length_nil] at h0; omega)) fun k hI2 {G a w} A => N hX 6 A rfl rfl fun A => forkD 29 A rfl
    (fun h2 A => N hX 14 A rfl (ok_d (by have q4 := hI2.le; simp only [nms, List.length_cons, List.length_nil] at q4; omega) <| okE_nil) fun A => N hX 10 A rfl (ok_d (by have q1 := hm.c1; have q2 := hm.c2; have q3 := hm.l ((k : Int)).toNat; (try simp only [List.length_append]); omega) <| ok_d (by have q1 := hm.c1; have q2 := hm.c2; have q3 := hm.l ((k : Int)).toNat; (try simp only [List.length_append]); omega) <| okE_nil) fun A => forkE 38 A rfl
     (fun h3 A => N hX 10 A rfl (ok_d (by have q4 := hI2.le; simp only [nms, List.length_cons, List.length_nil] at q4; omega) <| okE_nil) fun A => RETN hX A rfl rfl rfl h0 rfl rfl rfl rfl (by rw [sz_hit h1 hI2 h2 h3] <;> rfl) rfl)
     (fun h3 A => N hX 8 A rfl (ok_d (by have q4 := hI2.le; simp only [nms, List.length_cons, List.length_nil] at q4; omega) <| okE_nil) fun A => ⟨k + 1, _, (by omega), (sz_nx hI2 h2 h3), ((A.cut [2, 6, 7, 8, 9, 27, 28] rfl).trunc 3 rfl rfl rfl (by simp only [List.length_cons, List.length_nil] at h0; omega))⟩))
    (fun h2 A => N hX 10 A rfl rfl fun A => RETN hX A rfl rfl rfl h0 rfl rfl rfl rfl (by rw [sz_fi h1 hI2 h2] <;> rfl) rfl))
def nSt (g : Lg) (q : List UInt8) (z : Int × List Rw) (r : Rw) : Int × List Rw := if (szP g r.nm q).2 = true then ((szP g r.nm q).1, z.2 ++ [r]) else z
def zK (g : Lg) (q : List UInt8) (L : List Rw) (z : Int) (k : Nat) : Int × List Rw := (L.take k).foldl (nSt g q) (z, [])
section
variable {g : Lg} {q : List UInt8} {L : List Rw} {z : Int} {k : Nat}
theorem zK_s (hk : k < L.length) : zK g q L z (k + 1) = nSt g q (zK g q L z k) (L.getD ((k : Int)).toNat Rw.z) := by
  unfold zK
  rw [List.take_add_one, List.getElem?_eq_getElem hk, List.foldl_append, Int.toNat_natCast, List.getD_eq_getElem?_getD, List.getElem?_eq_getElem hk]
  rfl
theorem zK_y (hk : (k : Int) < ((L.length : Nat) : Int)) (h : (szP g (L.getD ((k : Int)).toNat Rw.z).nm q).2 = true) : zK g q L z (k + 1) = ((szP g (L.getD ((k : Int)).toNat Rw.z).nm q).1, (zK g q L z k).2 ++ [L.getD ((k : Int)).toNat Rw.z]) := by
  rw [zK_s (by omega)]; unfold nSt; rw [if_pos h]
theorem zK_n (hk : (k : Int) < ((L.length : Nat) : Int)) (h : (szP g (L.getD ((k : Int)).toNat Rw.z).nm q).2 = false) : zK g q L z (k + 1) = zK g q L z k := by
  rw [zK_s (by omega)]; unfold nSt; rw [h]; rfl
theorem nfl : ∀ (l : List Rw) (z : Int × List Rw), (l.foldl (nSt g q) z).2.length ≤ z.2.length + l.length
  | [], z => by simp
  | r :: l, z => by
    rw [List.foldl_cons]
    have := nfl l (nSt g q z r)
    have h2 : (nSt g q z r).2.length ≤ z.2.length + 1 := by unfold nSt; split <;> simp
    rw [List.length_cons]; omega
theorem zK_len : (zK g q L z k).2.length ≤ k := by
  have := nfl (g := g) (q := q) (L.take k) (z, [])
  unfold zK
  have h2 : (L.take k).length ≤ k := by rw [List.length_take]; omega
  simp at this ⊢; omega
theorem zK_in : ∀ (l : List Rw) (z : Int × List Rw) (r : Rw), r ∈ (l.foldl (nSt g q) z).2 → r ∈ z.2 ∨ r ∈ l
  | [], z, r, h => .inl h
  | x :: l, z, r, h => by
    rw [List.foldl_cons] at h
    rcases zK_in l _ r h with h1 | h1
    · unfold nSt at h1
      split at h1
      · rcases List.mem_append.1 h1 with h2 | h2
        · exact .inl h2
        · rw [List.mem_singleton] at h2; subst h2; exact .inr List.mem_cons_self
      · exact .inl h1
    · exact .inr (List.mem_cons_of_mem _ h1)
theorem rw_app {ws : List Rw} {x : Rw} {k : Nat} (hk : k < ws.length) : (ws ++ [x]).getD k Rw.z = ws.getD k Rw.z := by
  rw [List.getD_eq_getElem?_getD, List.getD_eq_getElem?_getD, List.getElem?_append_left hk]
theorem rw_new {ws : List Rw} {x : Rw} : (ws ++ [x]).getD ws.length Rw.z = x := by
  rw [List.getD_eq_getElem?_getD, List.getElem?_append_right (Nat.le_refl _)]; simp
end
def naZ (g : Lg) (ws : List Tk) (L : List Rw) (s : Ps) : Int × List Rw := zK g (ws.getD s.p tok0).text L s.ins.sz L.length
def naR (g : Lg) (ws : List Tk) (L : List Rw) (s : Ps) : List Rw := if (ws.getD s.p tok0).kind = 1 then (naZ g ws L s).2 else []
def naS (g : Lg) (ws : List Tk) (L : List Rw) (s : Ps) : Ps := if (ws.getD s.p tok0).kind = 1 then
    (if (naZ g ws L s).2.length = 0 then ⟨{ s.ins with sz := (naZ g ws L s).1 }, s.lab, (refA ws s.as 21).e, (refA ws s.as 21).a, nxK ws (refA ws s.as 21).p⟩ else ⟨{ s.ins with sz := (naZ g ws L s).1 }, s.lab, s.e, s.a, nxK ws s.p⟩)
  else s.wa (refA ws s.as 22)
theorem naS_le {g : Lg} {ws : List Tk} {L : List Rw} {s : Ps} (h : s.p ≤ ws.length) : (naS g ws L s).p ≤ ws.length := by
  unfold naS
  split
  · split
    · exact nxK_le (k := (refA ws s.as 21).p) (by rw [refA_p]; exact h)
    · exact nxK_le h
  · show (refA ws s.as 22).p ≤ _
    rw [refA_p]; exact h
theorem rk_mem {L : List Rw} {k : Nat} (h : (k : Int) < ((L.length : Nat) : Int)) : L.getD ((k : Int)).toNat Rw.z ∈ L := by
  rw [Int.toNat_natCast, List.getD_eq_getElem?_getD, List.getElem?_eq_getElem (show k < L.length by omega)]; exact List.getElem_mem _
theorem named_ (g : Lg) (L : List Rw) (c : Nat) (ws : List Tk) (cw : Nat) (s : Ps) (hk : s.p ≤ ws.length) (hn : ws.length ≤ 1000000) (hw : WsOK ws) (os : List (Nat × Obj)) (hM : ∀ w ks, Gl os w ks → ∃ m, w.cell? ⟨0, 0, none⟩ = some (.int .i64 m)) (hm : ∀ r ∈ L, NmOK g r.nm) (hL : L.length ≤ 100000) : FnI (Gl os) Tryz.prog 134 [.ptr 0 0] [some (.blk (rdS g L.length c s.ins s.lab 1 4)), some (.blk [.ptr 2 0, .int .i64 s.e, .int .i64 s.a]), some (.blk [.sl 3 ws.length cw, .int .i64 ((s.p : Nat) : Int)]), some (wQ9 ws), some (lQ9 L)] (Rt (.sl 5 ((naR g ws L s).length) 0) [some (.blk (rdS g L.length c ((naS g ws L s).ins) ((naS g ws L s).lab) 1 4)), some (.blk [.ptr 2 0, .int .i64 ((naS g ws L s).e), .int .i64 ((naS g ws L s).a)]), some (.blk [.sl 3 ws.length cw, .int .i64 (((naS g ws L s).p : Nat) : Int)]), some (wQ9 ws), some (lQ9 L), some (.row 128 20 ((naR g ws L s).length) 0 (fun zz => rwc ((naR g ws L s).getD zz Rw.z)))]) :=
 enterI (n := 78) (by kernel_rfl) Tryz.func134 rfl rfl rfl fun G w a h0 hI A => N hX 14 A rfl rfl fun A => CALL1 [2, 3] (peek_ ws cw s.p (by first | exact hk | (show (refA ws s.as 21).p ≤ _; rw [refA_p]; exact hk)) hn) A rfl rfl rfl rfl rfl rfl rfl fun A => N hX 16 A rfl rfl fun A => forkN 23 A rfl
  (fun h1 A => N hX 7 A rfl rfl fun A => CALL1 [1, 2, 3] (refuse_ ws cw s.as 22 (by first | exact hk | (show (refA ws s.as 21).p ≤ _; rw [refA_p]; exact hk)) hn hw) A rfl rfl rfl rfl rfl rfl rfl fun A => N hX 8 A rfl rfl fun A => have A := A.nilRow 2 128 20 (fun zz => rwc (([] : List Rw).getD zz Rw.z)) rfl (fun z => ⟨_, rfl, rfl⟩); RET hX [6] (x := .sl 5 0 0) (H' := [some (.blk (rdS g L.length c s.ins s.lab 1 4)), some (.blk [.ptr 2 0, .int .i64 ((refA ws s.as 22).e), .int .i64 ((refA ws s.as 22).a)]), some (.blk [.sl 3 ws.length cw, .int .i64 (((refA ws s.as 22).p : Nat) : Int)]), some (wQ9 ws), some (lQ9 L), some (.row 128 20 0 0 (fun zz => rwc (([] : List Rw).getD zz Rw.z)))]) A ⟨by unfold naR; rw [if_neg (show ¬ (ws.getD s.p tok0).kind = 1 from h1)] <;> rfl, by unfold naR naS; rw [if_neg (show ¬ (ws.getD s.p tok0).kind = 1 from h1), if_neg (show ¬ (ws.getD s.p tok0).kind = 1 from h1)] <;> rfl⟩ rfl rfl rfl rfl rfl rfl rfl rfl h0)
  (fun h1 A => N hX 21 A rfl rfl fun A => have A := A.nilRow 5 128 20 (fun zz => rwc (([] : List Rw).getD zz Rw.z)) rfl (fun z => ⟨_, rfl, rfl⟩); LOOP1 (fun (k : Nat) => [(0, .ptr 0 0), (2, .sla none 0 0), (3, .ptr 5 0), (5, .sl 6 ((zK g (ws.getD s.p tok0).text L s.ins.sz k).2.length) 0), (33, .sl 4 L.length c), (34, .int .i64 ((L.length : Nat) : Int)), (35, .int .i64 (k : Int))]) (fun (k : Nat) => [some (.blk (rdS g L.length c (⟨s.ins.op, s.ins.dst, s.ins.ra, s.ins.rb, s.ins.imm, s.ins.loc, s.ins.off, s.ins.ix, (zK g (ws.getD s.p tok0).text L s.ins.sz k).1, s.ins.fn, s.ins.acq, s.ins.weak, s.ins.rel, s.ins.pred, s.ins.succ, s.ins.to_, s.ins.zero⟩ : In) s.lab 1 4)), some (.blk [.ptr 2 0, .int .i64 s.e, .int .i64 s.a]), some (.blk [.sl 3 ws.length cw, .int .i64 ((s.p : Nat) : Int)]), some (wQ9 ws), some (lQ9 L), some (.blk [.int .i64 ((ws.getD s.p tok0).kind), .str ((ws.getD s.p tok0).text), .int .i64 ((ws.getD s.p tok0).n), .int .i64 ((ws.getD s.p tok0).at_)]), some (.row 128 20 (((zK g (ws.getD s.p tok0).text L s.ins.sz k).2).length) 0 (fun zz => rwc (((zK g (ws.getD s.p tok0).text L s.ins.sz k).2).getD zz Rw.z)))]) (fun (k : Nat) => k ≤ L.length) (fun (k : Nat) => L.length - k) 0 (Nat.zero_le _) ((A.cut [0, 2, 3, 5, 33, 34, 35] rfl).trunc 7 rfl rfl rfl (by simp only [List.length_cons, List.length_nil] at h0; omega)) fun k hI2 {G a w} A => N hX 6 A rfl rfl fun A => forkD 36 A rfl
    (fun h2 A => N hX 14 A rfl (ok_d (by omega) <| ok_d (by omega) <| okE_nil) fun A => DRAWN hX hmo [] [(7, .tup [.int .i64 ((szP g (L.getD (((k : Int)).toNat) Rw.z).nm ((ws.getD s.p tok0).text)).1), .bool ((szP g (L.getD (((k : Int)).toNat) Rw.z).nm ((ws.getD s.p tok0).text)).2)], [some (.blk (rdS g L.length c (⟨s.ins.op, s.ins.dst, s.ins.ra, s.ins.rb, s.ins.imm, s.ins.loc, s.ins.off, s.ins.ix, (zK g (ws.getD s.p tok0).text L s.ins.sz k).1, s.ins.fn, s.ins.acq, s.ins.weak, s.ins.rel, s.ins.pred, s.ins.succ, s.ins.to_, s.ins.zero⟩ : In) s.lab 1 4)), some (.blk [.ptr 2 0, .int .i64 s.e, .int .i64 s.a]), some (.blk [.sl 3 ws.length cw, .int .i64 ((s.p : Nat) : Int)]), some (wQ9 ws), some (lQ9 L), some (.blk [.int .i64 ((ws.getD s.p tok0).kind), .str ((ws.getD s.p tok0).text), .int .i64 ((ws.getD s.p tok0).n), .int .i64 ((ws.getD s.p tok0).at_)]), some (.row 128 20 (((zK g (ws.getD s.p tok0).text L s.ins.sz k).2).length) 0 (fun zz => rwc (((zK g (ws.getD s.p tok0).text L s.ins.sz k).2).getD zz Rw.z))), some (.blk (rwQ9 (L.getD (((k : Int)).toNat) Rw.z)))])] A rfl rfl rfl rfl (by kernel_rfl) ⟨callIE [4] Gl.ok hI (sizeOf_ g L c (L.getD (((k : Int)).toNat) Rw.z) ((ws.getD s.p tok0).text) os hM (hm _ (rk_mem h2))) rfl rfl rfl rfl rfl rfl rfl, trivial⟩ trivial fun A => N hX 6 A rfl rfl fun A => fork 50 A rfl
     (fun h3 A => N hX 15 A rfl rfl fun A => APP1 hX (((zK g (ws.getD s.p tok0).text L s.ins.sz k).2).length + 1) (fun zz => rwc ((((zK g (ws.getD s.p tok0).text L s.ins.sz k).2) ++ [(L.getD (((k : Int)).toNat) Rw.z)]).getD zz Rw.z)) A rfl rfl rfl rfl (by have := zK_len (g := g) (q := (ws.getD s.p tok0).text) (L := L) (z := s.ins.sz) (k := k); omega) rfl (fun k hk => by show rwc _ = rwc _; rw [rw_app hk]) (by show rwc _ = _; rw [rw_new]; rfl) (fun z => ⟨_, rfl, rfl⟩) fun A => have A := (A.rowAs 9 ((((zK g (ws.getD s.p tok0).text L s.ins.sz k).2) ++ [(L.getD (((k : Int)).toNat) Rw.z)]).length) (fun zz => rwc ((((zK g (ws.getD s.p tok0).text L s.ins.sz k).2) ++ [(L.getD (((k : Int)).toNat) Rw.z)]).getD zz Rw.z)) rfl (by rw [List.length_append]; rfl) (fun q hq => rfl) (fun z => ⟨_, rfl, rfl⟩)).say 59 (.sl 9 ((((zK g (ws.getD s.p tok0).text L s.ins.sz k).2) ++ [(L.getD (((k : Int)).toNat) Rw.z)]).length) 0) rfl (by rw [List.length_append] <;> rfl); N hX 8 A rfl (ok_d (by omega) <| okE_nil) fun A => ⟨k + 1, _, (by omega), (by omega), ((((A.sayH (H' := [some (.blk (rdS g L.length c (⟨s.ins.op, s.ins.dst, s.ins.ra, s.ins.rb, s.ins.imm, s.ins.loc, s.ins.off, s.ins.ix, (zK g (ws.getD s.p tok0).text L s.ins.sz (k + 1)).1, s.ins.fn, s.ins.acq, s.ins.weak, s.ins.rel, s.ins.pred, s.ins.succ, s.ins.to_, s.ins.zero⟩ : In) s.lab 1 4)), some (.blk [.ptr 2 0, .int .i64 s.e, .int .i64 s.a]), some (.blk [.sl 3 ws.length cw, .int .i64 ((s.p : Nat) : Int)]), some (wQ9 ws), some (lQ9 L), some (.blk [.int .i64 ((ws.getD s.p tok0).kind), .str ((ws.getD s.p tok0).text), .int .i64 ((ws.getD s.p tok0).n), .int .i64 ((ws.getD s.p tok0).at_)]), none, some (.blk (rwQ9 (L.getD (((k : Int)).toNat) Rw.z))), some (.blk (rwQ9 (L.getD (((k : Int)).toNat) Rw.z))), some (.row 128 20 (((zK g (ws.getD s.p tok0).text L s.ins.sz (k + 1)).2).length) 0 (fun zz => rwc (((zK g (ws.getD s.p tok0).text L s.ins.sz (k + 1)).2).getD zz Rw.z)))]) (by rw [zK_y h2 h3] <;> rfl)).say 5 (.sl 9 ((zK g (ws.getD s.p tok0).text L s.ins.sz (k + 1)).2.length) 0) rfl (by rw [zK_y h2 h3] <;> rfl)).cut [0, 2, 3, 5, 33, 34, 35] rfl).mv 5 [5, 9] rfl rfl rfl rfl (by simp only [List.length_cons, List.length_nil] at h0; omega))⟩)
     (fun h3 A => N hX 8 A rfl (ok_d (by omega) <| okE_nil) fun A => ⟨k + 1, _, (by omega), (by omega), ((((A.sayH (H' := [some (.blk (rdS g L.length c (⟨s.ins.op, s.ins.dst, s.ins.ra, s.ins.rb, s.ins.imm, s.ins.loc, s.ins.off, s.ins.ix, (zK g (ws.getD s.p tok0).text L s.ins.sz (k + 1)).1, s.ins.fn, s.ins.acq, s.ins.weak, s.ins.rel, s.ins.pred, s.ins.succ, s.ins.to_, s.ins.zero⟩ : In) s.lab 1 4)), some (.blk [.ptr 2 0, .int .i64 s.e, .int .i64 s.a]), some (.blk [.sl 3 ws.length cw, .int .i64 ((s.p : Nat) : Int)]), some (wQ9 ws), some (lQ9 L), some (.blk [.int .i64 ((ws.getD s.p tok0).kind), .str ((ws.getD s.p tok0).text), .int .i64 ((ws.getD s.p tok0).n), .int .i64 ((ws.getD s.p tok0).at_)]), some (.row 128 20 (((zK g (ws.getD s.p tok0).text L s.ins.sz (k + 1)).2).length) 0 (fun zz => rwc (((zK g (ws.getD s.p tok0).text L s.ins.sz (k + 1)).2).getD zz Rw.z))), some (.blk (rwQ9 (L.getD (((k : Int)).toNat) Rw.z)))]) (by rw [zK_n h2 h3] <;> rfl)).say 5 (.sl 6 ((zK g (ws.getD s.p tok0).text L s.ins.sz (k + 1)).2.length) 0) rfl (by rw [zK_n h2 h3] <;> rfl)).cut [0, 2, 3, 5, 33, 34, 35] rfl).trunc 7 rfl rfl rfl (by simp only [List.length_cons, List.length_nil] at h0; omega))⟩))
    (fun h2 A => N hX 11 A rfl rfl fun A => forkE 63 A rfl
     (fun h4 A => N hX 6 A rfl rfl fun A => CALL1 [1, 2, 3] (refuse_ ws cw s.as 21 (by first | exact hk | (show (refA ws s.as 21).p ≤ _; rw [refA_p]; exact hk)) hn hw) A rfl rfl rfl rfl rfl rfl rfl fun A => N hX 11 A rfl rfl fun A => CALL1 [2, 3] (next_ ws cw ((refA ws s.as 21).p) (by first | exact hk | (show (refA ws s.as 21).p ≤ _; rw [refA_p]; exact hk)) hn) A rfl rfl rfl rfl rfl rfl rfl fun A => N hX 9 A rfl rfl fun A => have hkL : L.length = k := (by omega); RET hX [6] (x := .sl 5 ((zK g (ws.getD s.p tok0).text L s.ins.sz k).2.length) 0) (H' := [some (.blk (rdS g L.length c (⟨s.ins.op, s.ins.dst, s.ins.ra, s.ins.rb, s.ins.imm, s.ins.loc, s.ins.off, s.ins.ix, (zK g (ws.getD s.p tok0).text L s.ins.sz k).1, s.ins.fn, s.ins.acq, s.ins.weak, s.ins.rel, s.ins.pred, s.ins.succ, s.ins.to_, s.ins.zero⟩ : In) s.lab 1 4)), some (.blk [.ptr 2 0, .int .i64 ((refA ws s.as 21).e), .int .i64 ((refA ws s.as 21).a)]), some (.blk [.sl 3 ws.length cw, .int .i64 ((nxK ws ((refA ws s.as 21).p) : Nat) : Int)]), some (wQ9 ws), some (lQ9 L), some (.row 128 20 (((zK g (ws.getD s.p tok0).text L s.ins.sz k).2).length) 0 (fun zz => rwc (((zK g (ws.getD s.p tok0).text L s.ins.sz k).2).getD zz Rw.z)))]) A ⟨by unfold naR; rw [if_pos (show (ws.getD s.p tok0).kind = 1 from h1)]; unfold naZ; rw [hkL] <;> rfl, by unfold naR naS; rw [if_pos (show (ws.getD s.p tok0).kind = 1 from h1), if_pos (show (ws.getD s.p tok0).kind = 1 from h1), if_pos (show (naZ g ws L s).2.length = 0 by unfold naZ; rw [hkL]; omega)]; unfold naZ; rw [hkL] <;> rfl⟩ rfl rfl rfl rfl rfl rfl rfl rfl h0)
     (fun h4 A => N hX 12 A rfl rfl fun A => CALL1 [2, 3] (next_ ws cw s.p (by first | exact hk | (show (refA ws s.as 21).p ≤ _; rw [refA_p]; exact hk)) hn) A rfl rfl rfl rfl rfl rfl rfl fun A => N hX 9 A rfl rfl fun A => have hkL : L.length = k := (by omega); RET hX [6] (x := .sl 5 ((zK g (ws.getD s.p tok0).text L s.ins.sz k).2.length) 0) (H' := [some (.blk (rdS g L.length c (⟨s.ins.op, s.ins.dst, s.ins.ra, s.ins.rb, s.ins.imm, s.ins.loc, s.ins.off, s.ins.ix, (zK g (ws.getD s.p tok0).text L s.ins.sz k).1, s.ins.fn, s.ins.acq, s.ins.weak, s.ins.rel, s.ins.pred, s.ins.succ, s.ins.to_, s.ins.zero⟩ : In) s.lab 1 4)), some (.blk [.ptr 2 0, .int .i64 s.e, .int .i64 s.a]), some (.blk [.sl 3 ws.length cw, .int .i64 ((nxK ws s.p : Nat) : Int)]), some (wQ9 ws), some (lQ9 L), some (.row 128 20 (((zK g (ws.getD s.p tok0).text L s.ins.sz k).2).length) 0 (fun zz => rwc (((zK g (ws.getD s.p tok0).text L s.ins.sz k).2).getD zz Rw.z)))]) A ⟨by unfold naR; rw [if_pos (show (ws.getD s.p tok0).kind = 1 from h1)]; unfold naZ; rw [hkL] <;> rfl, by unfold naR naS; rw [if_pos (show (ws.getD s.p tok0).kind = 1 from h1), if_pos (show (ws.getD s.p tok0).kind = 1 from h1), if_neg (show ¬ (naZ g ws L s).2.length = 0 by unfold naZ; rw [hkL]; omega)]; unfold naZ; rw [hkL] <;> rfl⟩ rfl rfl rfl rfl rfl rfl rfl rfl h0)))
def stk (g : Lg) (k : Nat) (t : Tk) (r : Rw) : Bool := !(begQ g r (r.ps.getD k 0) t)
def ask10 (k : Nat) (r : Rw) : Bool := r.ps.getD k 0 == 10
def fstX (f : Rw → Bool) (R : List Rw) : Int := match (List.range R.length).find? (fun j => f (R.getD j Rw.z)) with | some j => (j : Int) | none => -1
structure FxI (f : Rw → Bool) (R : List Rw) (k : Nat) : Prop where
  le : k ≤ R.length
  no : ∀ j, j < k → f (R.getD j Rw.z) = false
section
variable {f : Rw → Bool} {R cur : List Rw} {k i j : Nat}
theorem FxI.i0 : FxI f R 0 := ⟨Nat.zero_le _, fun j h => by omega⟩
theorem FxI.nx (hI : FxI f R k) (hk : (k : Int) < ((R.length : Nat) : Int)) (h : f (R.getD ((k : Int)).toNat Rw.z) = false) : FxI f R (k + 1) := ⟨by omega, fun j hj => by
  by_cases e : j = k
  · subst e; rwa [Int.toNat_natCast] at h
  · exact hI.no j (by omega)⟩
theorem FxI.hit (hI : FxI f R k) (hk : (k : Int) < ((R.length : Nat) : Int)) (h : f (R.getD ((k : Int)).toNat Rw.z) = true) : fstX f R = (k : Int) := by
  rw [Int.toNat_natCast] at h
  unfold fstX
  have : (List.range R.length).find? (fun j => f (R.getD j Rw.z)) = some k := by
    rw [List.find?_range_eq_some]
    exact ⟨h, by rw [List.mem_range]; omega, fun j hj => by have := hI.no j hj; rw [this]; rfl⟩
  rw [this]
theorem FxI.fi (hI : FxI f R k) (hk : ¬ (k : Int) < ((R.length : Nat) : Int)) : fstX f R = -1 := by
  unfold fstX
  have : (List.range R.length).find? (fun j => f (R.getD j Rw.z)) = none := by
    rw [List.find?_eq_none]
    intro j hj
    have := hI.no j (by have := List.mem_range.1 hj; omega)
    rw [this]; decide
  rw [this]
theorem fstX_none (h : fstX f R = -1) : R.filter (fun r => !f r) = R := by
  unfold fstX at h
  split at h
  · omega
  · next e =>
    rw [List.find?_eq_none] at e
    rw [List.filter_eq_self]
    intro r hr
    obtain ⟨j, hj, hg⟩ := List.getElem_of_mem hr
    have := e j (List.mem_range.2 hj)
    rw [List.getD_eq_getElem?_getD, List.getElem?_eq_getElem hj] at this
    simp only [Option.getD_some, hg] at this
    cases z : f r with
    | false => rfl
    | true => exact absurd z this
theorem fstX_some (h : fstX f R ≠ -1) : ∃ k : Nat, fstX f R = (k : Int) ∧ k < R.length ∧ f (R.getD k Rw.z) = true ∧ ∀ j : Nat, j < k → f (R.getD j Rw.z) = false := by
  unfold fstX at h ⊢
  split at h
  · next k e =>
    rw [List.find?_range_eq_some] at e
    refine ⟨k, rfl, List.mem_range.1 e.2.1, e.1, fun j hj => ?_⟩
    have := e.2.2 j hj
    cases z : f (R.getD j Rw.z) with
    | false => rfl
    | true => rw [z] at this; cases this
  · exact absurd rfl h
structure Hlf (f : Rw → Bool) (R cur : List Rw) (i j : Nat) : Prop where
  len : cur.length = R.length
  ij : i < j
  jl : j ≤ R.length
  pre : cur.take i = (R.take j).filter (fun r => !f r)
  post : ∀ m, j ≤ m → cur[m]? = R[m]?
theorem take1 {l : List Rw} (h : j < l.length) : l.take (j + 1) = l.take j ++ [l.getD j Rw.z] := by
  rw [List.take_add_one, List.getD_eq_getElem?_getD, List.getElem?_eq_getElem h]; rfl
theorem Hlf.i0 {k : Nat} (h1 : k < R.length) (h2 : f (R.getD k Rw.z) = true) (h3 : ∀ j, j < k → f (R.getD j Rw.z) = false) : Hlf f R R k (k + 1) := by
  refine ⟨rfl, by omega, h1, ?_, fun m _ => rfl⟩
  rw [take1 h1, List.filter_append]
  have e1 : (R.take k).filter (fun r => !f r) = R.take k := by
    rw [List.filter_eq_self]
    intro r hr
    obtain ⟨j, hj, hg⟩ := List.getElem_of_mem hr
    rw [List.length_take] at hj
    have := h3 j (by omega)
    rw [List.getD_eq_getElem?_getD, List.getElem?_eq_getElem (by omega)] at this
    rw [List.getElem_take] at hg
    simp only [Option.getD_some, hg] at this
    rw [this]; rfl
  rw [e1, List.filter_cons, h2]; simp
theorem Hlf.at (h : Hlf f R cur i j) : cur.getD j Rw.z = R.getD j Rw.z := by
  rw [List.getD_eq_getElem?_getD, List.getD_eq_getElem?_getD, h.post j (Nat.le_refl _)]
theorem Hlf.skip (h : Hlf f R cur i j) (hj : (j : Int) < ((cur.length : Nat) : Int)) (hf : f (cur.getD ((j : Int)).toNat Rw.z) = true) : Hlf f R cur i (j + 1) := by
  have hl := h.len
  rw [Int.toNat_natCast, h.at] at hf
  refine ⟨h.len, by have := h.ij; omega, by omega, ?_, fun m hm => h.post m (by omega)⟩
  rw [take1 (by omega), List.filter_append, List.filter_cons, hf, h.pre]; simp
theorem Hlf.keep (h : Hlf f R cur i j) (hj : (j : Int) < ((cur.length : Nat) : Int)) (hf : f (cur.getD ((j : Int)).toNat Rw.z) = false) : Hlf f R (cur.set i (cur.getD ((j : Int)).toNat Rw.z)) (i + 1) (j + 1) := by
  have hl := h.len
  have hij := h.ij
  rw [Int.toNat_natCast] at hf ⊢
  have hf' := hf
  rw [h.at] at hf'
  refine ⟨by rw [List.length_set]; exact h.len, by omega, by omega, ?_, fun m hm => by rw [List.getElem?_set_ne (by omega)]; exact h.post m (by omega)⟩
  rw [take1 (j := i) (by rw [List.length_set]; omega), take1 (j := j) (by omega), List.filter_append, List.filter_cons, hf', ← h.pre]
  congr 1
  · rw [List.take_set, List.set_eq_of_length_le (by rw [List.length_take]; omega)]
  · rw [List.getD_eq_getElem?_getD, List.getElem?_set_self (by omega), h.at]; rfl
theorem Hlf.done (h : Hlf f R cur i j) (hj : ¬ (j : Int) < ((cur.length : Nat) : Int)) : R.filter (fun r => !f r) = cur.take i ∧ (R.filter (fun r => !f r)).length = i ∧ ∀ p, p < i → (R.filter (fun r => !f r)).getD p Rw.z = cur.getD p Rw.z := by
  have hl := h.len
  have hij := h.ij
  have hjl := h.jl
  have e : cur.take i = R.filter (fun r => !f r) := by rw [h.pre, List.take_of_length_le (by omega)]
  refine ⟨e.symm, by rw [← e, List.length_take]; omega, fun p hp => ?_⟩
  rw [← e, List.getD_eq_getElem?_getD, List.getD_eq_getElem?_getD, List.getElem?_take_of_lt hp]
end
theorem begc_ (g : Lg) (L : List Rw) (c : Nat) (ws : List Tk) (cw : Nat) (s : Ps) (r : Rw) (kk : Nat) (t : Tk) (hq : kk < r.ps.length) : FnI (LiesAt r.pa r.ps) Tryz.prog 190 [.agg (rwQ9 r), .ptr 5 0, .ptr 6 0, .ptr 7 0] [some (.blk (rdS g L.length c s.ins s.lab 1 4)), some (.blk [.ptr 2 0, .int .i64 s.e, .int .i64 s.a]), some (.blk [.sl 3 ws.length cw, .int .i64 ((s.p : Nat) : Int)]), some (wQ9 ws), some (lQ9 L), some (.blk [.ptr 0 0]), some (.blk [.int .i64 (kk : Int)]), some (.blk [.int .i64 t.kind, .str t.text, .int .i64 t.n, .int .i64 t.at_])] (Rt (.bool (stk g kk t r)) [some (.blk (rdS g L.length c s.ins s.lab 1 4)), some (.blk [.ptr 2 0, .int .i64 s.e, .int .i64 s.a]), some (.blk [.sl 3 ws.length cw, .int .i64 ((s.p : Nat) : Int)]), some (wQ9 ws), some (lQ9 L), some (.blk [.ptr 0 0]), some (.blk [.int .i64 (kk : Int)]), some (.blk [.int .i64 t.kind, .str t.text, .int .i64 t.n, .int .i64 t.at_])]) :=
 enterI (n := 12) (by kernel_rfl) Tryz.func190 rfl rfl rfl fun G w a h0 hI A => N hX 12 A rfl rfl fun A => CALLI [0, 1, 2, 3, 4] LiesAt.ok hI (begins_ g L c ws cw s r kk t hq) A rfl rfl rfl rfl rfl rfl rfl fun A => N hX 5 A rfl rfl fun A => RETN hX A rfl rfl rfl h0 rfl rfl rfl rfl rfl rfl
theorem misc_ (r : Rw) (kk : Nat) (hq : kk < r.ps.length) : FnI (LiesAt r.pa r.ps) Tryz.prog 225 [.agg (rwQ9 r), .ptr 0 0] [some (.blk [.int .i64 (kk : Int)])] (Rt (.bool (ask10 kk r)) [some (.blk [.int .i64 (kk : Int)])]) :=
 enterI (n := 10) (by kernel_rfl) Tryz.func225 rfl rfl rfl fun G w a h0 hI A => N hX 10 A rfl rfl fun A => ADOPT (y := .sl 2 r.ps.length r.cp) (H' := [some (.blk [.int .i64 (kk : Int)]), some (.blk (rwQ9 r)), some (.lst 1 r.ps.length (fun j => [.int .i64 (r.ps.getD j 0)]))]) 5 hI A rfl rfl rfl rfl fun A => N hX 8 A rfl (ok_d (by omega) <| ok_d (by omega) <| okE_nil) fun A => RETN hX A rfl rfl rfl h0 rfl rfl rfl rfl rfl rfl
theorem rk_in {R : List Rw} {k : Nat} (h : (k : Int) < ((R.length : Nat) : Int)) : R.getD ((k : Int)).toNat Rw.z ∈ R := rk_mem h
theorem ixfB_ (g : Lg) (L : List Rw) (c : Nat) (ws : List Tk) (cw : Nat) (s : Ps) (R : List Rw) (kk : Nat) (t : Tk) (hq : ∀ r ∈ R, kk < r.ps.length) (hR : R.length ≤ 100000) : FnI (Tbl R) Tryz.prog 226 [.sl 5 R.length 0, .fn 190 [.ptr 6 0, .ptr 7 0, .ptr 8 0]] [some (.blk (rdS g L.length c s.ins s.lab 1 4)), some (.blk [.ptr 2 0, .int .i64 s.e, .int .i64 s.a]), some (.blk [.sl 3 ws.length cw, .int .i64 ((s.p : Nat) : Int)]), some (wQ9 ws), some (lQ9 L), some (.row 128 20 R.length 0 (fun zz => rwc (R.getD zz Rw.z))), some (.blk [.ptr 0 0]), some (.blk [.int .i64 (kk : Int)]), some (.blk [.int .i64 t.kind, .str t.text, .int .i64 t.n, .int .i64 t.at_])] (Rt (.int .i64 (fstX (stk g kk t) R)) [some (.blk (rdS g L.length c s.ins s.lab 1 4)), some (.blk [.ptr 2 0, .int .i64 s.e, .int .i64 s.a]), some (.blk [.sl 3 ws.length cw, .int .i64 ((s.p : Nat) : Int)]), some (wQ9 ws), some (lQ9 L), some (.row 128 20 R.length 0 (fun zz => rwc (R.getD zz Rw.z))), some (.blk [.ptr 0 0]), some (.blk [.int .i64 (kk : Int)]), some (.blk [.int .i64 t.kind, .str t.text, .int .i64 t.n, .int .i64 t.at_])]) :=
 enterI (n := 19) (by kernel_rfl) Tryz.func226 rfl rfl rfl fun G w a h0 hI A => N hX 14 A rfl rfl fun A => LOOP1 (fun (k : Nat) => [(0, .sl 5 R.length 0), (1, .fn 190 [.ptr 6 0, .ptr 7 0, .ptr 8 0]), (4, .int .i64 0), (7, .int .i64 ((R.length : Nat) : Int)), (8, .int .i64 (k : Int))]) (fun (k : Nat) => [some (.blk (rdS g L.length c s.ins s.lab 1 4)), some (.blk [.ptr 2 0, .int .i64 s.e, .int .i64 s.a]), some (.blk [.sl 3 ws.length cw, .int .i64 ((s.p : Nat) : Int)]), some (wQ9 ws), some (lQ9 L), some (.row 128 20 R.length 0 (fun zz => rwc (R.getD zz Rw.z))), some (.blk [.ptr 0 0]), some (.blk [.int .i64 (kk : Int)]), some (.blk [.int .i64 t.kind, .str t.text, .int .i64 t.n, .int .i64 t.at_])]) (fun (k : Nat) => FxI (stk g kk t) R k) (fun (k : Nat) => R.length - k) 0 FxI.i0 ((A.cut [0, 1, 4, 7, 8] rfl).trunc 9 rfl rfl rfl (by simp only [List.length_cons, List.length_nil] at h0; omega)) fun k hI2 {G a w} A => N hX 6 A rfl rfl fun A => forkD 9 A rfl
   (fun h1 A => N hX 18 A rfl (ok_d (by have := hI2.le; omega) <| ok_d (by have := hI2.le; omega) <| okE_nil) fun A => CALLI [0, 1, 2, 3, 4, 6, 7, 8] LiesAt.ok (hI.at (k := ((k : Int)).toNat) (by omega)) (begc_ g L c ws cw s (R.getD (((k : Int)).toNat) Rw.z) kk t (hq _ (rk_in h1))) A rfl rfl rfl rfl rfl rfl rfl fun A => N hX 2 A rfl rfl fun A => fork 16 A rfl
    (fun h2 A => N hX 8 A rfl rfl fun A => RETN hX A rfl rfl rfl h0 rfl rfl rfl rfl (by rw [hI2.hit h1 h2]; rfl) rfl)
    (fun h2 A => N hX 8 A rfl (ok_d (by have := hI2.le; omega) <| okE_nil) fun A => ⟨k + 1, _, (by omega), (hI2.nx h1 h2), ((A.cut [0, 1, 4, 7, 8] rfl).trunc 9 rfl rfl rfl (by simp only [List.length_cons, List.length_nil] at h0; omega))⟩))
   (fun h1 A => N hX 9 A rfl rfl fun A => RETN hX A rfl rfl rfl h0 rfl rfl rfl rfl (by rw [hI2.fi h1]; rfl) rfl)
theorem ixfM_ (R : List Rw) (kk : Nat) (hq : ∀ r ∈ R, kk < r.ps.length) (hR : R.length ≤ 100000) : FnI (Tbl R) Tryz.prog 226 [.sl 0 R.length 0, .fn 225 [.ptr 1 0]] [some (.row 128 20 R.length 0 (fun zz => rwc (R.getD zz Rw.z))), some (.blk [.int .i64 (kk : Int)])] (Rt (.int .i64 (fstX (ask10 kk) R)) [some (.row 128 20 R.length 0 (fun zz => rwc (R.getD zz Rw.z))), some (.blk [.int .i64 (kk : Int)])]) :=
 enterI (n := 19) (by kernel_rfl) Tryz.func226 rfl rfl rfl fun G w a h0 hI A => N hX 14 A rfl rfl fun A => LOOP1 (fun (k : Nat) => [(0, .sl 0 R.length 0), (1, .fn 225 [.ptr 1 0]), (4, .int .i64 0), (7, .int .i64 ((R.length : Nat) : Int)), (8, .int .i64 (k : Int))]) (fun (k : Nat) => [some (.row 128 20 R.length 0 (fun zz => rwc (R.getD zz Rw.z))), some (.blk [.int .i64 (kk : Int)])]) (fun (k : Nat) => FxI (ask10 kk) R k) (fun (k : Nat) => R.length - k) 0 FxI.i0 ((A.cut [0, 1, 4, 7, 8] rfl).trunc 2 rfl rfl rfl (by simp only [List.length_cons, List.length_nil] at h0; omega)) fun k hI2 {G a w} A => N hX 6 A rfl rfl fun A => forkD 9 A rfl
   (fun h1 A => N hX 18 A rfl (ok_d (by have := hI2.le; omega) <| ok_d (by have := hI2.le; omega) <| okE_nil) fun A => CALLI [1] LiesAt.ok (hI.at (k := ((k : Int)).toNat) (by omega)) (misc_ (R.getD (((k : Int)).toNat) Rw.z) kk (hq _ (rk_in h1))) A rfl rfl rfl rfl rfl rfl rfl fun A => N hX 2 A rfl rfl fun A => fork 16 A rfl
    (fun h2 A => N hX 8 A rfl rfl fun A => RETN hX A rfl rfl rfl h0 rfl rfl rfl rfl (by rw [hI2.hit h1 h2]; rfl) rfl)
    (fun h2 A => N hX 8 A rfl (ok_d (by have := hI2.le; omega) <| okE_nil) fun A => ⟨k + 1, _, (by omega), (hI2.nx h1 h2), ((A.cut [0, 1, 4, 7, 8] rfl).trunc 2 rfl rfl rfl (by simp only [List.length_cons, List.length_nil] at h0; omega))⟩))
   (fun h1 A => N hX 9 A rfl rfl fun A => RETN hX A rfl rfl rfl h0 rfl rfl rfl rfl (by rw [hI2.fi h1]; rfl) rfl)
theorem conM_ (R : List Rw) (kk : Nat) (hq : ∀ r ∈ R, kk < r.ps.length) (hR : R.length ≤ 100000) : FnI (Tbl R) Tryz.prog 224 [.sl 0 R.length 0, .fn 225 [.ptr 1 0]] [some (.row 128 20 R.length 0 (fun zz => rwc (R.getD zz Rw.z))), some (.blk [.int .i64 (kk : Int)])] (Rt (.bool (decide (fstX (ask10 kk) R ≥ 0))) [some (.row 128 20 R.length 0 (fun zz => rwc (R.getD zz Rw.z))), some (.blk [.int .i64 (kk : Int)])]) :=
 enterI (n := 9) (by kernel_rfl) Tryz.func224 rfl rfl rfl fun G w a h0 hI A => N hX 9 A rfl rfl fun A => CALLI [0, 1] Tbl.ok hI (ixfM_ R kk hq hR) A rfl rfl rfl rfl rfl rfl rfl fun A => N hX 5 A rfl rfl fun A => RETN hX A rfl rfl rfl h0 rfl rfl rfl rfl rfl rfl
def mfV (kk : Nat) (t : Tk) (R : List Rw) : Int := if ((decide (fstX (ask10 kk) R ≥ 0)) && (t.kind == 1)) = true then 21 else 22
def lft (g : Lg) (kk : Nat) (t : Tk) (R : List Rw) : List Rw := R.filter (fun r => !stk g kk t r)
def beS (g : Lg) (ws : List Tk) (kk : Nat) (R : List Rw) (s : Ps) : Ps := if (lft g kk (ws.getD s.p tok0) R).length = 0 then s.wa (refA ws s.as (mfV kk (ws.getD s.p tok0) R)) else s
theorem beS_le {g : Lg} {ws : List Tk} {kk : Nat} {R : List Rw} {s : Ps} (h : s.p ≤ ws.length) : (beS g ws kk R s).p ≤ ws.length := by
  unfold beS; split
  · show (refA ws s.as _).p ≤ _
    rw [refA_p]; exact h
  · exact h
section
variable {f : Rw → Bool} {R cur : List Rw} {i j kk : Nat} {w : World} {ks : List Nat} {x : Rw}
theorem tbl_cur (hI : Tbl R w ks) (h : Hlf f R cur i j) (hj : (j : Int) < ((cur.length : Nat) : Int)) : LiesAt (cur.getD ((j : Int)).toNat Rw.z).pa (cur.getD ((j : Int)).toNat Rw.z).ps w ks := by
  rw [Int.toNat_natCast, h.at]; exact hI.at (by have := h.len; omega)
theorem mem_cur (hq : ∀ r ∈ R, kk < r.ps.length) (h : Hlf f R cur i j) (hj : (j : Int) < ((cur.length : Nat) : Int)) : kk < (cur.getD ((j : Int)).toNat Rw.z).ps.length := by
  rw [Int.toNat_natCast, h.at]
  have hl := h.len
  refine hq _ ?_
  rw [List.getD_eq_getElem?_getD, List.getElem?_eq_getElem (show j < R.length by omega)]; exact List.getElem_mem _
theorem rset_ne {k : Nat} (h : k ≠ i) : (cur.set i x).getD k Rw.z = cur.getD k Rw.z := by
  rw [List.getD_eq_getElem?_getD, List.getD_eq_getElem?_getD, List.getElem?_set_ne (Ne.symm h)]
theorem rset_eq (h : i < cur.length) : (cur.set i x).getD i Rw.z = x := by
  rw [List.getD_eq_getElem?_getD, List.getElem?_set_self h]; rfl
end
theorem misfit_ (R : List Rw) (kk : Nat) (t : Tk) (hq : ∀ r ∈ R, kk < r.ps.length) (hR : R.length ≤ 100000) : FnI (Tbl R) Tryz.prog 188 [.sl 0 R.length 0, .int .i64 (kk : Int), .agg [.int .i64 t.kind, .str t.text, .int .i64 t.n, .int .i64 t.at_]] [some (.row 128 20 R.length 0 (fun zz => rwc (R.getD zz Rw.z)))] (Rt (.int .i64 (mfV kk t R)) [some (.row 128 20 R.length 0 (fun zz => rwc (R.getD zz Rw.z)))]) :=
 enterI (n := 17) (by kernel_rfl) Tryz.func188 rfl rfl rfl fun G w a h0 hI A => N hX 11 A rfl rfl fun A => CALLI [0, 1] Tbl.ok hI (conM_ R kk hq hR) A rfl rfl rfl rfl rfl rfl rfl fun A => N hX 14 A rfl rfl fun A => fork 16 A rfl
  (fun h1 A => N hX 7 A rfl rfl fun A => RETN hX A rfl rfl rfl h0 rfl rfl rfl rfl (by unfold mfV; rw [if_pos h1] <;> rfl) rfl)
  (fun h1 A => N hX 9 A rfl rfl fun A => RETN hX A rfl rfl rfl h0 rfl rfl rfl rfl (by unfold mfV; rw [if_neg (ne_true_of_eq_false h1)] <;> rfl) rfl)
theorem fstSp {f : Rw → Bool} {R : List Rw} {Q : Prop} (h : fstX f R ≠ -1) (k : ∀ k0 : Nat, fstX f R = (k0 : Int) → k0 < R.length → f (R.getD k0 Rw.z) = true → (∀ j : Nat, j < k0 → f (R.getD j Rw.z) = false) → Q) : Q := by
  obtain ⟨k0, h1, h2, h3, h4⟩ := fstX_some h
  exact k k0 h1 h2 h3 h4
theorem ntf {b : Bool} (h : (!b) = true) : b = false := by cases b <;> first | rfl | cases h
theorem ntt {b : Bool} (h : (!b) = false) : b = true := by cases b <;> first | rfl | cases h
theorem fstX_lt {f : Rw → Bool} {R : List Rw} : (-1 ≤ fstX f R ∧ fstX f R < ((R.length : Nat) : Int)) ∨ fstX f R = -1 := by
  by_cases h : fstX f R = -1
  · exact .inr h
  · obtain ⟨k, h1, h2, _⟩ := fstX_some h
    left; rw [h1]; omega
theorem delB_ (g : Lg) (L : List Rw) (c : Nat) (ws : List Tk) (cw : Nat) (s : Ps) (R : List Rw) (kk : Nat) (t : Tk) (hq : ∀ r ∈ R, kk < r.ps.length) (hR : R.length ≤ 100000) : FnI (Tbl R) Tryz.prog 189 [.sl 5 R.length 0, .fn 190 [.ptr 6 0, .ptr 7 0, .ptr 8 0]] [some (.blk (rdS g L.length c s.ins s.lab 1 4)), some (.blk [.ptr 2 0, .int .i64 s.e, .int .i64 s.a]), some (.blk [.sl 3 ws.length cw, .int .i64 ((s.p : Nat) : Int)]), some (wQ9 ws), some (lQ9 L), some (.row 128 20 R.length 0 (fun zz => rwc (R.getD zz Rw.z))), some (.blk [.ptr 0 0]), some (.blk [.int .i64 (kk : Int)]), some (.blk [.int .i64 t.kind, .str t.text, .int .i64 t.n, .int .i64 t.at_])] (Rt (.sl 5 (lft g kk t R).length 0) [some (.blk (rdS g L.length c s.ins s.lab 1 4)), some (.blk [.ptr 2 0, .int .i64 s.e, .int .i64 s.a]), some (.blk [.sl 3 ws.length cw, .int .i64 ((s.p : Nat) : Int)]), some (wQ9 ws), some (lQ9 L), some (.row 128 20 ((lft g kk t R).length) 0 (fun zz => rwc ((lft g kk t R).getD zz Rw.z))), some (.blk [.ptr 0 0]), some (.blk [.int .i64 (kk : Int)]), some (.blk [.int .i64 t.kind, .str t.text, .int .i64 t.n, .int .i64 t.at_])]) :=
 enterI (n := 42) (by kernel_rfl) Tryz.func189 rfl rfl rfl fun G w a h0 hI A => N hX 9 A rfl rfl fun A => CALLI [0, 1, 2, 3, 4, 5, 6, 7, 8] Tbl.ok hI (ixfB_ g L c ws cw s R kk t hq hR) A rfl rfl rfl rfl rfl rfl rfl fun A => N hX 10 A rfl rfl fun A => forkE 12 A rfl
  (fun h1 A => N hX 8 A rfl rfl fun A => have hf : lft g kk t R = R := fstX_none h1; RETN hX A rfl rfl rfl h0 rfl rfl rfl rfl (by rw [hf] <;> rfl) (by rw [hf] <;> rfl))
  (fun h1 A => N hX 12 A rfl (ok_d (by have := fstX_lt (f := stk g kk t) (R := R); omega) <| okE_nil) fun A => fstSp h1 fun k0 hk0 hk1 hk2 hk3 => have A := A.say 5 (.int .i64 (k0 : Int)) rfl (by rw [hk0]); have A := A.say 6 (.int .i64 ((k0 + 1 : Nat) : Int)) rfl (by rw [hk0] <;> rfl); LOOP3 (fun (i : Nat) (j : Nat) (cur : List Rw) => [(0, .sl 5 cur.length 0), (1, .fn 190 [.ptr 6 0, .ptr 7 0, .ptr 8 0]), (4, .sla none 0 0), (5, .int .i64 (i : Int)), (6, .int .i64 (j : Int))]) (fun (i : Nat) (j : Nat) (cur : List Rw) => [some (.blk (rdS g L.length c s.ins s.lab 1 4)), some (.blk [.ptr 2 0, .int .i64 s.e, .int .i64 s.a]), some (.blk [.sl 3 ws.length cw, .int .i64 ((s.p : Nat) : Int)]), some (wQ9 ws), some (lQ9 L), some (.row 128 20 cur.length 0 (fun zz => rwc (cur.getD zz Rw.z))), some (.blk [.ptr 0 0]), some (.blk [.int .i64 (kk : Int)]), some (.blk [.int .i64 t.kind, .str t.text, .int .i64 t.n, .int .i64 t.at_])]) (fun (i : Nat) (j : Nat) (cur : List Rw) => Hlf (stk g kk t) R cur i j) (fun (i : Nat) (j : Nat) (cur : List Rw) => R.length - j) k0 (k0 + 1) R (Hlf.i0 hk1 hk2 hk3) ((A.cut [0, 1, 4, 5, 6] rfl).trunc 9 rfl rfl rfl (by simp only [List.length_cons, List.length_nil] at h0; omega)) fun i j cur hH {G a w} A => N hX 9 A rfl rfl fun A => forkD 19 A rfl
    (fun h2 A => N hX 16 A rfl (ok_d (by have := hH.ij; have := hH.jl; have := hH.len; omega) <| ok_d (by have := hH.ij; have := hH.jl; have := hH.len; omega) <| okE_nil) fun A => N hX 3 A rfl rfl fun A => CALLI [0, 1, 2, 3, 4, 6, 7, 8] LiesAt.ok (tbl_cur hI hH h2) (begc_ g L c ws cw s (cur.getD (((j : Int)).toNat) Rw.z) kk t (mem_cur hq hH h2)) A rfl rfl rfl rfl rfl rfl rfl fun A => N hX 3 A rfl rfl fun A => fork 29 A rfl
     (fun h3 A => N hX 7 A rfl (ok_d (by have := hH.ij; have := hH.jl; have := hH.len; omega) <| okE_nil) fun A => STR (i := 5) (e := 128) (s := 20) (m := cur.length) (c := 0) hX (((i : Int)).toNat) (fun zz => rwc ((cur.set ((i : Int)).toNat (cur.getD (((j : Int)).toNat) Rw.z)).getD zz Rw.z)) A rfl rfl rfl (by have := hH.ij; have := hH.jl; have := hH.len; omega) (fun z hz => by show rwc ((cur.set ((i : Int)).toNat (cur.getD (((j : Int)).toNat) Rw.z)).getD z Rw.z) = rwc (cur.getD z Rw.z); rw [rset_ne hz]) (by show _ = some (rwc ((cur.set ((i : Int)).toNat (cur.getD (((j : Int)).toNat) Rw.z)).getD (((i : Int)).toNat) Rw.z)); rw [rset_eq (by have := hH.ij; have := hH.jl; have := hH.len; omega)]; rfl) fun A => have A := A.rowAs 5 ((cur.set ((i : Int)).toNat (cur.getD (((j : Int)).toNat) Rw.z)).length) (fun zz => rwc ((cur.set ((i : Int)).toNat (cur.getD (((j : Int)).toNat) Rw.z)).getD zz Rw.z)) rfl (by rw [List.length_set]) (fun q hq => rfl) (fun z => ⟨_, rfl, rfl⟩); have A := A.say 0 (.sl 5 ((cur.set ((i : Int)).toNat (cur.getD (((j : Int)).toNat) Rw.z)).length) 0) rfl (by rw [List.length_set]); have A := A.say 17 (.sl 5 ((cur.set ((i : Int)).toNat (cur.getD (((j : Int)).toNat) Rw.z)).length) 0) rfl (by rw [List.length_set]); have A := A.say 22 (.sl 5 ((cur.set ((i : Int)).toNat (cur.getD (((j : Int)).toNat) Rw.z)).length) 0) rfl (by rw [List.length_set]); have A := A.say 30 (.sl 5 ((cur.set ((i : Int)).toNat (cur.getD (((j : Int)).toNat) Rw.z)).length) 0) rfl (by rw [List.length_set]); N hX 9 A rfl (ok_d (by have := hH.ij; have := hH.jl; have := hH.len; omega) <| okE_nil) fun A => N hX 5 A rfl (ok_d (by have := hH.ij; have := hH.jl; have := hH.len; omega) <| okE_nil) fun A => ⟨i + 1, j + 1, (cur.set i (cur.getD ((j : Int)).toNat Rw.z)), _, (by have := hH.jl; have := hH.len; omega), (hH.keep h2 (ntf h3)), ((A.cut [0, 1, 4, 5, 6] rfl).trunc 9 rfl rfl rfl (by simp only [List.length_cons, List.length_nil] at h0; omega))⟩)
     (fun h3 A => N hX 9 A rfl (ok_d (by have := hH.ij; have := hH.jl; have := hH.len; omega) <| okE_nil) fun A => ⟨i, j + 1, cur, _, (by have := hH.jl; have := hH.len; omega), (hH.skip h2 (ntt h3)), ((A.cut [0, 1, 4, 5, 6] rfl).trunc 9 rfl rfl rfl (by simp only [List.length_cons, List.length_nil] at h0; omega))⟩))
    (fun h2 A => N hX 8 A rfl (ok_d (by have := hH.ij; have := hH.jl; have := hH.len; omega) <| okE_nil) fun A => CLR hX A rfl (by have := hH.ij; have := hH.jl; have := hH.len; omega) fun A => N hX 11 A rfl (ok_d (by show 0 ≤ (i : Int) ∧ (i : Int) ≤ ((((i : Int)).toNat : Nat) : Int); exact (by have := hH.ij; have := hH.jl; have := hH.len; omega)) <| okE_nil) fun A => have hf := hH.done h2; have A := A.rowAs 5 (lft g kk t R).length (fun zz => rwc ((lft g kk t R).getD zz Rw.z)) rfl (by have z := hf.2.1; show (R.filter _).length = _; rw [z]; omega) (fun q hq => by show rwc _ = rwc _; rw [show (lft g kk t R).getD q Rw.z = cur.getD q Rw.z from hf.2.2 q (by omega)]) (fun z => ⟨_, rfl, rfl⟩); have A := A.say 4 (.sl 5 (lft g kk t R).length 0) rfl (by have z : (lft g kk t R).length = i := hf.2.1; rw [z]; (try rfl); (try simp)); RETN hX A rfl rfl rfl h0 rfl rfl rfl rfl rfl rfl))
theorem beginning_ (g : Lg) (L : List Rw) (c : Nat) (ws : List Tk) (cw : Nat) (s : Ps) (R : List Rw) (kk : Nat) (hk : s.p ≤ ws.length) (hn : ws.length ≤ 1000000) (hw : WsOK ws) (hq : ∀ r ∈ R, kk < r.ps.length) (hR : R.length ≤ 100000) : FnI (Tbl R) Tryz.prog 136 [.ptr 0 0, .sl 5 R.length 0, .int .i64 (kk : Int)] [some (.blk (rdS g L.length c s.ins s.lab 1 4)), some (.blk [.ptr 2 0, .int .i64 s.e, .int .i64 s.a]), some (.blk [.sl 3 ws.length cw, .int .i64 ((s.p : Nat) : Int)]), some (wQ9 ws), some (lQ9 L), some (.row 128 20 R.length 0 (fun zz => rwc (R.getD zz Rw.z)))] (Rt (.sl 5 ((lft g kk (ws.getD s.p tok0) R).length) 0) [some (.blk (rdS g L.length c ((beS g ws kk R s).ins) ((beS g ws kk R s).lab) 1 4)), some (.blk [.ptr 2 0, .int .i64 ((beS g ws kk R s).e), .int .i64 ((beS g ws kk R s).a)]), some (.blk [.sl 3 ws.length cw, .int .i64 (((beS g ws kk R s).p : Nat) : Int)]), some (wQ9 ws), some (lQ9 L), some (.row 128 20 ((lft g kk (ws.getD s.p tok0) R).length) 0 (fun zz => rwc ((lft g kk (ws.getD s.p tok0) R).getD zz Rw.z)))]) :=
 enterI (n := 39) (by kernel_rfl) Tryz.func136 rfl rfl rfl fun G w a h0 hI A => N hX 16 A rfl rfl fun A => CALL1 [2, 3] (peek_ ws cw s.p (by first | exact hk | (show (refA ws s.as 21).p ≤ _; rw [refA_p]; exact hk)) hn) A rfl rfl rfl rfl rfl rfl rfl fun A => N hX 13 A rfl rfl fun A => CALLI [5] Tbl.ok hI (misfit_ R kk (ws.getD s.p tok0) hq hR) A rfl rfl rfl rfl rfl rfl rfl fun A => N hX 7 A rfl rfl fun A => CALLI [0, 1, 2, 3, 4, 5, 6, 7, 8] Tbl.ok hI (delB_ g L c ws cw s R kk (ws.getD s.p tok0) hq hR) A rfl rfl rfl rfl rfl rfl rfl fun A => N hX 11 A rfl rfl fun A => forkE 31 A rfl
  (fun h1 A => N hX 7 A rfl rfl fun A => CALL1 [1, 2, 3] (refuse_ ws cw s.as (mfV kk (ws.getD s.p tok0) R) (by first | exact hk | (show (refA ws s.as 21).p ≤ _; rw [refA_p]; exact hk)) hn hw) A rfl rfl rfl rfl rfl rfl rfl fun A => N hX 9 A rfl rfl fun A => RETN hX A rfl rfl rfl h0 rfl rfl rfl rfl rfl (by unfold beS; rw [if_pos (show (lft g kk (ws.getD s.p tok0) R).length = 0 by omega)] <;> rfl))
  (fun h1 A => N hX 10 A rfl rfl fun A => RETN hX A rfl rfl rfl h0 rfl rfl rfl rfl rfl (by unfold beS; rw [if_neg (show ¬ (lft g kk (ws.getD s.p tok0) R).length = 0 by omega)] <;> rfl))
def n1 (ws : List Tk) (k : Nat) (z : Ps) : Ps := if (k : Int) > 0 then z.wa (mkA ws z.as [44]) else z
def nxR (g : Lg) (ws : List Tk) (k : Nat) (R : List Rw) (z : Ps) : List Rw := lft g k (ws.getD (n1 ws k z).p tok0) R
def nxS (g : Lg) (ws : List Tk) (k : Nat) (R : List Rw) (z : Ps) : Ps := if (((nxR g ws k R z).length : Nat) : Int) > 0 then ptS g ws (((nxR g ws k R z).getD (0 : Int).toNat Rw.z).ps.getD k 0) (beS g ws k R (n1 ws k z)) else beS g ws k R (n1 ws k z)
def goB (R : List Rw) (k : Nat) : Bool := (decide (((R.length : Nat) : Int) > 0)) && (decide ((k : Int) < (((R.getD (0 : Int).toNat Rw.z).ps.length : Nat) : Int)))
def inst (g : Lg) (ws : List Tk) : Nat → Nat → List Rw → Ps → Ps × List Rw
  | 0, k, R, z => (z, R)
  | f + 1, k, R, z => if goB R k = true then inst g ws f (k + 1) (nxR g ws k R z) (nxS g ws k R z) else (z, R)
def inN (g : Lg) (ws : List Tk) (L : List Rw) (s : Ps) : Nat := ((naR g ws L s).getD 0 Rw.z).ps.length
def inF (g : Lg) (ws : List Tk) (L : List Rw) (s : Ps) : Ps × List Rw := inst g ws (inN g ws L s + 1) 0 (naR g ws L s) (naS g ws L s)
def zIn : In := ⟨0, 0, 0, 0, 0, 0, 0, 0, 0, 0, false, false, false, 0, 0, 0, false⟩
def inI (g : Lg) (ws : List Tk) (L : List Rw) (s : Ps) : In := if (((inF g ws L s).2.length : Nat) : Int) = 0 then zIn else ((inF g ws L s).2.getD (0 : Int).toNat Rw.z).lay (inF g ws L s).1.ins
structure InI (g : Lg) (ws : List Tk) (L : List Rw) (N0 : Nat) (res : Ps × List Rw) (k : Nat) (z : Ps) (R : List Rw) : Prop where
  le : z.p ≤ ws.length
  sub : ∀ r ∈ R, r ∈ L
  n : ∀ r ∈ R, r.ps.length = N0
  ln : R.length ≤ 100000
  rn : ∃ f, inst g ws f k R z = res ∧ N0 < f + k
section
variable {g : Lg} {ws : List Tk} {L R : List Rw} {N0 k : Nat} {res : Ps × List Rw} {z : Ps} {w : World} {ks : List Nat}
theorem n1_le (h : z.p ≤ ws.length) : (n1 ws k z).p ≤ ws.length := by
  unfold n1; split
  · exact mkA_le (s := z.as) h
  · exact h
theorem nx_le (h : z.p ≤ ws.length) : (nxS g ws k R z).p ≤ ws.length := by
  unfold nxS; split
  · exact ptS_le (beS_le (n1_le h))
  · exact beS_le (n1_le h)
theorem goB_and (h : goB R k = true) : 0 < R.length ∧ k < (R.getD 0 Rw.z).ps.length := by
  unfold goB at h; rw [Bool.and_eq_true, decide_eq_true_eq, decide_eq_true_eq] at h
  have e : (0 : Int).toNat = 0 := rfl
  rw [e] at h; omega
theorem r0_mem (h : 0 < R.length) : R.getD 0 Rw.z ∈ R := by rw [List.getD_eq_getElem?_getD, List.getElem?_eq_getElem h]; exact List.getElem_mem h
theorem lft_in {t : Tk} {r : Rw} (h : r ∈ lft g k t R) : r ∈ R := (List.mem_filter.1 h).1
theorem nxR_in {r : Rw} (h : r ∈ nxR g ws k R z) : r ∈ R := (List.mem_filter.1 h).1
theorem InI.lt (hN : InI g ws L N0 res k z R) (h : goB R k = true) : k < N0 := by
  have h2 := goB_and h
  rw [hN.n _ (r0_mem h2.1)] at h2; exact h2.2
theorem InI.q (hN : InI g ws L N0 res k z R) (h : goB R k = true) : ∀ r ∈ R, k < r.ps.length := fun r hr => by rw [hN.n r hr]; exact hN.lt h
theorem InI.nx (hN : InI g ws L N0 res k z R) (h : goB R k = true) : InI g ws L N0 res (k + 1) (nxS g ws k R z) (nxR g ws k R z) := by
  obtain ⟨f, h1, h2⟩ := hN.rn
  refine ⟨nx_le hN.le, fun r hr => hN.sub r (nxR_in hr), fun r hr => hN.n r (nxR_in hr), Nat.le_trans (List.length_filter_le _ _) hN.ln, ?_⟩
  cases f with
  | zero => have := hN.lt h; omega
  | succ f => unfold inst at h1; rw [if_pos h] at h1; exact ⟨f, h1, by omega⟩
theorem InI.fi (hN : InI g ws L N0 res k z R) (h : goB R k = false) : res = (z, R) := by
  obtain ⟨f, h1, h2⟩ := hN.rn
  cases f with
  | zero => exact h1.symm
  | succ f => unfold inst at h1; rw [h] at h1; exact h1.symm
theorem InI.i0 {s : Ps} (hk : s.p ≤ ws.length) (hs : ∀ r ∈ naR g ws L s, ∀ q ∈ naR g ws L s, r.ps.length = q.ps.length) (hL : L.length ≤ 100000) : InI g ws L (inN g ws L s) (inF g ws L s) 0 (naS g ws L s) (naR g ws L s) := by
  have hsub : ∀ r ∈ naR g ws L s, r ∈ L := fun r hr => by
    unfold naR at hr
    split at hr
    · unfold naZ zK at hr
      rcases zK_in _ _ _ hr with h | h
      · cases h
      · exact List.mem_of_mem_take h
    · cases hr
  refine ⟨naS_le hk, hsub, fun r hr => hs r hr _ (r0_mem (List.length_pos_of_mem hr)), ?_, _, rfl, by omega⟩
  unfold naR
  split
  · have := zK_len (g := g) (q := (ws.getD s.p tok0).text) (L := L) (z := s.ins.sz) (k := L.length)
    unfold naZ; omega
  · exact Nat.zero_le _
theorem Tbl.sub (h : Tbl L w ks) (hs : ∀ r ∈ R, r ∈ L) : Tbl R w ks := fun r hr => h r (hs r hr)
end
theorem PrI.t {os : List (Nat × Obj)} {L : List Rw} {w : World} {ks : List Nat} (h : PrI os L w ks) : Tbl L w ks := h.1
theorem PrI.g {os : List (Nat × Obj)} {L : List Rw} {w : World} {ks : List Nat} (h : PrI os L w ks) : Gl os w ks := h.2
theorem instruction_ (g : Lg) (L : List Rw) (c : Nat) (ws : List Tk) (cw : Nat) (s : Ps) (hk : s.p ≤ ws.length) (hn : ws.length ≤ 1000000) (hw : WsOK ws) (os : List (Nat × Obj)) (hM : ∀ w ks, Gl os w ks → ∃ m, w.cell? ⟨0, 0, none⟩ = some (.int .i64 m)) (hm : ∀ r ∈ L, NmOK g r.nm) (hL : L.length ≤ 100000) (hs : ∀ r ∈ naR g ws L s, ∀ q ∈ naR g ws L s, r.ps.length = q.ps.length) (hN0 : inN g ws L s ≤ 1000) : FnI (PrI os L) Tryz.prog 73 [.ptr 0 0] [some (.blk (rdS g L.length c s.ins s.lab 1 4)), some (.blk [.ptr 2 0, .int .i64 s.e, .int .i64 s.a]), some (.blk [.sl 3 ws.length cw, .int .i64 ((s.p : Nat) : Int)]), some (wQ9 ws), some (lQ9 L)] (Rt (.agg (inQ9 (inI g ws L s))) [some (.blk (rdS g L.length c (((inF g ws L s).1).ins) (((inF g ws L s).1).lab) 1 4)), some (.blk [.ptr 2 0, .int .i64 (((inF g ws L s).1).e), .int .i64 (((inF g ws L s).1).a)]), some (.blk [.sl 3 ws.length cw, .int .i64 ((((inF g ws L s).1).p : Nat) : Int)]), some (wQ9 ws), some (lQ9 L)]) :=
 enterI (n := 56) (by kernel_rfl) Tryz.func73 rfl rfl rfl fun G w a h0 hI A => N hX 8 A rfl rfl fun A => CALLI [0, 1, 2, 3, 4] Gl.ok hI.g (named_ g L c ws cw s hk hn hw os hM hm hL) A rfl rfl rfl rfl rfl rfl rfl fun A => N hX 10 A rfl rfl fun A => LOOP3 (fun (k : Nat) (z : Ps) (R : List Rw) => [(0, .ptr 0 0), (2, .ptr 5 0), (3, .sl 6 R.length 0), (4, .int .i64 (k : Int))]) (fun (k : Nat) (z : Ps) (R : List Rw) => [some (.blk (rdS g L.length c z.ins z.lab 1 4)), some (.blk [.ptr 2 0, .int .i64 z.e, .int .i64 z.a]), some (.blk [.sl 3 ws.length cw, .int .i64 ((z.p : Nat) : Int)]), some (wQ9 ws), some (lQ9 L), some (.blk [.int .i64 0, .int .i64 0, .int .i64 0, .int .i64 0, .int .i64 0, .int .i64 0, .int .i64 0, .int .i64 0, .int .i64 0, .int .i64 0, .ff, .ff, .ff, .int .i64 0, .int .i64 0, .int .i64 0, .ff]), some (.row 128 20 R.length 0 (fun zz => rwc (R.getD zz Rw.z)))]) (fun (k : Nat) (z : Ps) (R : List Rw) => InI g ws L (inN g ws L s) (inF g ws L s) k z R) (fun (k : Nat) (z : Ps) (R : List Rw) => inN g ws L s - k) 0 (naS g ws L s) (naR g ws L s) (InI.i0 hk hs hL) ((A.cut [0, 2, 3, 4] rfl).trunc 7 rfl rfl rfl (by simp only [List.length_cons, List.length_nil] at h0; omega)) fun k z R hN {G a w} A => N hX 17 A rfl (ok_r <| ok_g (fun hg => (by have z2 := of_decide_eq_true hg; omega)) <| ok_r <| ok_g (fun hg => (by have z2 := of_decide_eq_true hg; omega)) <| ok_r <| ok_g (fun hg => (by have z2 := of_decide_eq_true hg; omega)) <| ok_r <| ok_r <| ok_r <| ok_r <| okE_nil) fun A => fork 18 A rfl
   (fun h1 A => N hX 12 A rfl rfl fun A => forkD 22 A rfl
    (fun h2 A => N hX 6 A rfl rfl fun A => CALL1 [1, 2, 3] (mark_ ws cw z.as [44] (by first | exact hN.le | exact mkA_le (s := z.as) hN.le | exact beS_le hN.le | exact beS_le (mkA_le (s := z.as) hN.le)) hn hw) A rfl rfl rfl rfl rfl rfl rfl fun A => N hX 7 A rfl rfl fun A => CALLI [0, 1, 2, 3, 4, 6] Tbl.ok (hI.t.sub hN.sub) (beginning_ g L c ws cw (Ps.wa z (mkA ws z.as [44])) R k (by first | exact hN.le | exact mkA_le (s := z.as) hN.le | exact beS_le hN.le | exact beS_le (mkA_le (s := z.as) hN.le)) hn hw (hN.q h1) hN.ln) A rfl rfl rfl rfl rfl rfl rfl fun A => N hX 10 A rfl rfl fun A => forkD 34 A rfl
     (fun h3 A => N hX 7 A rfl (ok_d (by have q1 := hN.lt h1; have q2 := goB_and (R := R) (k := k) h1; have q3 := hN.ln; have q4 : inN g ws L s ≤ 1000 := hN0; have q5 := hN.q h1 _ (lft_in (r0_mem (R := (lft g k (ws.getD (Ps.wa z (mkA ws z.as [44])).p tok0) R)) (by omega))); have e0 : (0 : Int).toNat = 0 := rfl; rw [← e0] at q5; omega) <| ok_d (by have q1 := hN.lt h1; have q2 := goB_and (R := R) (k := k) h1; have q3 := hN.ln; have q4 : inN g ws L s ≤ 1000 := hN0; have q5 := hN.q h1 _ (lft_in (r0_mem (R := (lft g k (ws.getD (Ps.wa z (mkA ws z.as [44])).p tok0) R)) (by omega))); have e0 : (0 : Int).toNat = 0 := rfl; rw [← e0] at q5; omega) <| ok_d (by have q1 := hN.lt h1; have q2 := goB_and (R := R) (k := k) h1; have q3 := hN.ln; have q4 : inN g ws L s ≤ 1000 := hN0; have q5 := hN.q h1 _ (lft_in (r0_mem (R := (lft g k (ws.getD (Ps.wa z (mkA ws z.as [44])).p tok0) R)) (by omega))); have e0 : (0 : Int).toNat = 0 := rfl; rw [← e0] at q5; omega) <| okE_nil) fun A => ADOPT (y := .sl 7 (((lft g k (ws.getD (Ps.wa z (mkA ws z.as [44])).p tok0) R).getD ((0 : Int).toNat) Rw.z).ps.length) (((lft g k (ws.getD (Ps.wa z (mkA ws z.as [44])).p tok0) R).getD ((0 : Int).toNat) Rw.z).cp)) (H' := [some (.blk (rdS g L.length c ((beS g ws k R (Ps.wa z (mkA ws z.as [44]))).ins) ((beS g ws k R (Ps.wa z (mkA ws z.as [44]))).lab) 1 4)), some (.blk [.ptr 2 0, .int .i64 ((beS g ws k R (Ps.wa z (mkA ws z.as [44]))).e), .int .i64 ((beS g ws k R (Ps.wa z (mkA ws z.as [44]))).a)]), some (.blk [.sl 3 ws.length cw, .int .i64 (((beS g ws k R (Ps.wa z (mkA ws z.as [44]))).p : Nat) : Int)]), some (wQ9 ws), some (lQ9 L), some (.blk [.int .i64 0, .int .i64 0, .int .i64 0, .int .i64 0, .int .i64 0, .int .i64 0, .int .i64 0, .int .i64 0, .int .i64 0, .int .i64 0, .ff, .ff, .ff, .int .i64 0, .int .i64 0, .int .i64 0, .ff]), some (.row 128 20 ((lft g k (ws.getD (Ps.wa z (mkA ws z.as [44])).p tok0) R).length) 0 (fun zz => rwc ((lft g k (ws.getD (Ps.wa z (mkA ws z.as [44])).p tok0) R).getD zz Rw.z))), some (.lst 1 ((((lft g k (ws.getD (Ps.wa z (mkA ws z.as [44])).p tok0) R).getD ((0 : Int).toNat) Rw.z).ps).length) (fun j => [.int .i64 ((((lft g k (ws.getD (Ps.wa z (mkA ws z.as [44])).p tok0) R).getD ((0 : Int).toNat) Rw.z).ps).getD j 0)]))]) 39 (hI.t _ (hN.sub _ (lft_in (r0_mem (R := (lft g k (ws.getD (Ps.wa z (mkA ws z.as [44])).p tok0) R)) (by omega))))) A rfl rfl rfl rfl fun A => N hX 3 A rfl (ok_d (by have q1 := hN.lt h1; have q2 := goB_and (R := R) (k := k) h1; have q3 := hN.ln; have q4 : inN g ws L s ≤ 1000 := hN0; have q5 := hN.q h1 _ (lft_in (r0_mem (R := (lft g k (ws.getD (Ps.wa z (mkA ws z.as [44])).p tok0) R)) (by omega))); have e0 : (0 : Int).toNat = 0 := rfl; rw [← e0] at q5; omega) <| ok_d (by have q1 := hN.lt h1; have q2 := goB_and (R := R) (k := k) h1; have q3 := hN.ln; have q4 : inN g ws L s ≤ 1000 := hN0; have q5 := hN.q h1 _ (lft_in (r0_mem (R := (lft g k (ws.getD (Ps.wa z (mkA ws z.as [44])).p tok0) R)) (by omega))); have e0 : (0 : Int).toNat = 0 := rfl; rw [← e0] at q5; omega) <| okE_nil) fun A => CALL1 [0, 1, 2, 3, 4] (part_ g L c ws cw (beS g ws k R (Ps.wa z (mkA ws z.as [44]))) ((((lft g k (ws.getD (Ps.wa z (mkA ws z.as [44])).p tok0) R).getD ((0 : Int).toNat) Rw.z).ps).getD (((k : Int)).toNat) 0) (by first | exact hN.le | exact mkA_le (s := z.as) hN.le | exact beS_le hN.le | exact beS_le (mkA_le (s := z.as) hN.le)) hn hw) A rfl rfl rfl rfl rfl rfl rfl fun A => N hX 8 A rfl (ok_d (by have q1 := hN.lt h1; have q2 := goB_and (R := R) (k := k) h1; have q3 := hN.ln; have q4 : inN g ws L s ≤ 1000 := hN0; have q5 := hN.q h1 _ (lft_in (r0_mem (R := (lft g k (ws.getD (Ps.wa z (mkA ws z.as [44])).p tok0) R)) (by omega))); have e0 : (0 : Int).toNat = 0 := rfl; rw [← e0] at q5; omega) <| okE_nil) fun A => ⟨k + 1, (nxS g ws k R z), (nxR g ws k R z), _, (by have := hN.lt h1; omega), (hN.nx h1), ((((A.sayH (H' := [some (.blk (rdS g L.length c ((nxS g ws k R z).ins) ((nxS g ws k R z).lab) 1 4)), some (.blk [.ptr 2 0, .int .i64 ((nxS g ws k R z).e), .int .i64 ((nxS g ws k R z).a)]), some (.blk [.sl 3 ws.length cw, .int .i64 (((nxS g ws k R z).p : Nat) : Int)]), some (wQ9 ws), some (lQ9 L), some (.blk [.int .i64 0, .int .i64 0, .int .i64 0, .int .i64 0, .int .i64 0, .int .i64 0, .int .i64 0, .int .i64 0, .int .i64 0, .int .i64 0, .ff, .ff, .ff, .int .i64 0, .int .i64 0, .int .i64 0, .ff]), some (.row 128 20 ((nxR g ws k R z).length) 0 (fun zz => rwc ((nxR g ws k R z).getD zz Rw.z))), some (.lst 1 ((((lft g k (ws.getD (Ps.wa z (mkA ws z.as [44])).p tok0) R).getD ((0 : Int).toNat) Rw.z).ps).length) (fun j => [.int .i64 ((((lft g k (ws.getD (Ps.wa z (mkA ws z.as [44])).p tok0) R).getD ((0 : Int).toNat) Rw.z).ps).getD j 0)]))]) (by unfold nxS; rw [if_pos (show (((nxR g ws k R z).length : Nat) : Int) > 0 from (by unfold nxR n1; rw [if_pos h2]; exact h3))]; unfold nxR n1; rw [if_pos h2] <;> rfl)).say 3 (.sl 6 ((nxR g ws k R z).length) 0) rfl (by unfold nxR n1; rw [if_pos h2] <;> rfl)).cut [0, 2, 3, 4] rfl).trunc 7 rfl rfl rfl (by simp only [List.length_cons, List.length_nil] at h0; omega))⟩)
     (fun h3 A => N hX 9 A rfl (ok_d (by have q1 := hN.lt h1; have q2 := goB_and (R := R) (k := k) h1; have q3 := hN.ln; have q4 : inN g ws L s ≤ 1000 := hN0; omega) <| okE_nil) fun A => ⟨k + 1, (nxS g ws k R z), (nxR g ws k R z), _, (by have := hN.lt h1; omega), (hN.nx h1), ((((A.sayH (H' := [some (.blk (rdS g L.length c ((nxS g ws k R z).ins) ((nxS g ws k R z).lab) 1 4)), some (.blk [.ptr 2 0, .int .i64 ((nxS g ws k R z).e), .int .i64 ((nxS g ws k R z).a)]), some (.blk [.sl 3 ws.length cw, .int .i64 (((nxS g ws k R z).p : Nat) : Int)]), some (wQ9 ws), some (lQ9 L), some (.blk [.int .i64 0, .int .i64 0, .int .i64 0, .int .i64 0, .int .i64 0, .int .i64 0, .int .i64 0, .int .i64 0, .int .i64 0, .int .i64 0, .ff, .ff, .ff, .int .i64 0, .int .i64 0, .int .i64 0, .ff]), some (.row 128 20 ((nxR g ws k R z).length) 0 (fun zz => rwc ((nxR g ws k R z).getD zz Rw.z)))]) (by unfold nxS; rw [if_neg (show ¬ (((nxR g ws k R z).length : Nat) : Int) > 0 from (by unfold nxR n1; rw [if_pos h2]; exact h3))]; unfold nxR n1; rw [if_pos h2] <;> rfl)).say 3 (.sl 6 ((nxR g ws k R z).length) 0) rfl (by unfold nxR n1; rw [if_pos h2] <;> rfl)).cut [0, 2, 3, 4] rfl).trunc 7 rfl rfl rfl (by simp only [List.length_cons, List.length_nil] at h0; omega))⟩))
    (fun h2 A => N hX 8 A rfl rfl fun A => CALLI [0, 1, 2, 3, 4, 6] Tbl.ok (hI.t.sub hN.sub) (beginning_ g L c ws cw z R k (by first | exact hN.le | exact mkA_le (s := z.as) hN.le | exact beS_le hN.le | exact beS_le (mkA_le (s := z.as) hN.le)) hn hw (hN.q h1) hN.ln) A rfl rfl rfl rfl rfl rfl rfl fun A => N hX 10 A rfl rfl fun A => forkD 34 A rfl
     (fun h4 A => N hX 7 A rfl (ok_d (by have q1 := hN.lt h1; have q2 := goB_and (R := R) (k := k) h1; have q3 := hN.ln; have q4 : inN g ws L s ≤ 1000 := hN0; have q5 := hN.q h1 _ (lft_in (r0_mem (R := (lft g k (ws.getD z.p tok0) R)) (by omega))); have e0 : (0 : Int).toNat = 0 := rfl; rw [← e0] at q5; omega) <| ok_d (by have q1 := hN.lt h1; have q2 := goB_and (R := R) (k := k) h1; have q3 := hN.ln; have q4 : inN g ws L s ≤ 1000 := hN0; have q5 := hN.q h1 _ (lft_in (r0_mem (R := (lft g k (ws.getD z.p tok0) R)) (by omega))); have e0 : (0 : Int).toNat = 0 := rfl; rw [← e0] at q5; omega) <| ok_d (by have q1 := hN.lt h1; have q2 := goB_and (R := R) (k := k) h1; have q3 := hN.ln; have q4 : inN g ws L s ≤ 1000 := hN0; have q5 := hN.q h1 _ (lft_in (r0_mem (R := (lft g k (ws.getD z.p tok0) R)) (by omega))); have e0 : (0 : Int).toNat = 0 := rfl; rw [← e0] at q5; omega) <| okE_nil) fun A => ADOPT (y := .sl 7 (((lft g k (ws.getD z.p tok0) R).getD ((0 : Int).toNat) Rw.z).ps.length) (((lft g k (ws.getD z.p tok0) R).getD ((0 : Int).toNat) Rw.z).cp)) (H' := [some (.blk (rdS g L.length c ((beS g ws k R z).ins) ((beS g ws k R z).lab) 1 4)), some (.blk [.ptr 2 0, .int .i64 ((beS g ws k R z).e), .int .i64 ((beS g ws k R z).a)]), some (.blk [.sl 3 ws.length cw, .int .i64 (((beS g ws k R z).p : Nat) : Int)]), some (wQ9 ws), some (lQ9 L), some (.blk [.int .i64 0, .int .i64 0, .int .i64 0, .int .i64 0, .int .i64 0, .int .i64 0, .int .i64 0, .int .i64 0, .int .i64 0, .int .i64 0, .ff, .ff, .ff, .int .i64 0, .int .i64 0, .int .i64 0, .ff]), some (.row 128 20 ((lft g k (ws.getD z.p tok0) R).length) 0 (fun zz => rwc ((lft g k (ws.getD z.p tok0) R).getD zz Rw.z))), some (.lst 1 ((((lft g k (ws.getD z.p tok0) R).getD ((0 : Int).toNat) Rw.z).ps).length) (fun j => [.int .i64 ((((lft g k (ws.getD z.p tok0) R).getD ((0 : Int).toNat) Rw.z).ps).getD j 0)]))]) 39 (hI.t _ (hN.sub _ (lft_in (r0_mem (R := (lft g k (ws.getD z.p tok0) R)) (by omega))))) A rfl rfl rfl rfl fun A => N hX 3 A rfl (ok_d (by have q1 := hN.lt h1; have q2 := goB_and (R := R) (k := k) h1; have q3 := hN.ln; have q4 : inN g ws L s ≤ 1000 := hN0; have q5 := hN.q h1 _ (lft_in (r0_mem (R := (lft g k (ws.getD z.p tok0) R)) (by omega))); have e0 : (0 : Int).toNat = 0 := rfl; rw [← e0] at q5; omega) <| ok_d (by have q1 := hN.lt h1; have q2 := goB_and (R := R) (k := k) h1; have q3 := hN.ln; have q4 : inN g ws L s ≤ 1000 := hN0; have q5 := hN.q h1 _ (lft_in (r0_mem (R := (lft g k (ws.getD z.p tok0) R)) (by omega))); have e0 : (0 : Int).toNat = 0 := rfl; rw [← e0] at q5; omega) <| okE_nil) fun A => CALL1 [0, 1, 2, 3, 4] (part_ g L c ws cw (beS g ws k R z) ((((lft g k (ws.getD z.p tok0) R).getD ((0 : Int).toNat) Rw.z).ps).getD (((k : Int)).toNat) 0) (by first | exact hN.le | exact mkA_le (s := z.as) hN.le | exact beS_le hN.le | exact beS_le (mkA_le (s := z.as) hN.le)) hn hw) A rfl rfl rfl rfl rfl rfl rfl fun A => N hX 8 A rfl (ok_d (by have q1 := hN.lt h1; have q2 := goB_and (R := R) (k := k) h1; have q3 := hN.ln; have q4 : inN g ws L s ≤ 1000 := hN0; have q5 := hN.q h1 _ (lft_in (r0_mem (R := (lft g k (ws.getD z.p tok0) R)) (by omega))); have e0 : (0 : Int).toNat = 0 := rfl; rw [← e0] at q5; omega) <| okE_nil) fun A => ⟨k + 1, (nxS g ws k R z), (nxR g ws k R z), _, (by have := hN.lt h1; omega), (hN.nx h1), ((((A.sayH (H' := [some (.blk (rdS g L.length c ((nxS g ws k R z).ins) ((nxS g ws k R z).lab) 1 4)), some (.blk [.ptr 2 0, .int .i64 ((nxS g ws k R z).e), .int .i64 ((nxS g ws k R z).a)]), some (.blk [.sl 3 ws.length cw, .int .i64 (((nxS g ws k R z).p : Nat) : Int)]), some (wQ9 ws), some (lQ9 L), some (.blk [.int .i64 0, .int .i64 0, .int .i64 0, .int .i64 0, .int .i64 0, .int .i64 0, .int .i64 0, .int .i64 0, .int .i64 0, .int .i64 0, .ff, .ff, .ff, .int .i64 0, .int .i64 0, .int .i64 0, .ff]), some (.row 128 20 ((nxR g ws k R z).length) 0 (fun zz => rwc ((nxR g ws k R z).getD zz Rw.z))), some (.lst 1 ((((lft g k (ws.getD z.p tok0) R).getD ((0 : Int).toNat) Rw.z).ps).length) (fun j => [.int .i64 ((((lft g k (ws.getD z.p tok0) R).getD ((0 : Int).toNat) Rw.z).ps).getD j 0)]))]) (by unfold nxS; rw [if_pos (show (((nxR g ws k R z).length : Nat) : Int) > 0 from (by unfold nxR n1; rw [if_neg h2]; exact h4))]; unfold nxR n1; rw [if_neg h2] <;> rfl)).say 3 (.sl 6 ((nxR g ws k R z).length) 0) rfl (by unfold nxR n1; rw [if_neg h2] <;> rfl)).cut [0, 2, 3, 4] rfl).trunc 7 rfl rfl rfl (by simp only [List.length_cons, List.length_nil] at h0; omega))⟩)
     (fun h4 A => N hX 9 A rfl (ok_d (by have q1 := hN.lt h1; have q2 := goB_and (R := R) (k := k) h1; have q3 := hN.ln; have q4 : inN g ws L s ≤ 1000 := hN0; omega) <| okE_nil) fun A => ⟨k + 1, (nxS g ws k R z), (nxR g ws k R z), _, (by have := hN.lt h1; omega), (hN.nx h1), ((((A.sayH (H' := [some (.blk (rdS g L.length c ((nxS g ws k R z).ins) ((nxS g ws k R z).lab) 1 4)), some (.blk [.ptr 2 0, .int .i64 ((nxS g ws k R z).e), .int .i64 ((nxS g ws k R z).a)]), some (.blk [.sl 3 ws.length cw, .int .i64 (((nxS g ws k R z).p : Nat) : Int)]), some (wQ9 ws), some (lQ9 L), some (.blk [.int .i64 0, .int .i64 0, .int .i64 0, .int .i64 0, .int .i64 0, .int .i64 0, .int .i64 0, .int .i64 0, .int .i64 0, .int .i64 0, .ff, .ff, .ff, .int .i64 0, .int .i64 0, .int .i64 0, .ff]), some (.row 128 20 ((nxR g ws k R z).length) 0 (fun zz => rwc ((nxR g ws k R z).getD zz Rw.z)))]) (by unfold nxS; rw [if_neg (show ¬ (((nxR g ws k R z).length : Nat) : Int) > 0 from (by unfold nxR n1; rw [if_neg h2]; exact h4))]; unfold nxR n1; rw [if_neg h2] <;> rfl)).say 3 (.sl 6 ((nxR g ws k R z).length) 0) rfl (by unfold nxR n1; rw [if_neg h2] <;> rfl)).cut [0, 2, 3, 4] rfl).trunc 7 rfl rfl rfl (by simp only [List.length_cons, List.length_nil] at h0; omega))⟩)))
   (fun h1 A => N hX 11 A rfl rfl fun A => forkE 46 A rfl
    (fun h5 A => N hX 8 A rfl rfl fun A => have hres := hN.fi h1; RETN hX A rfl rfl rfl h0 rfl rfl rfl rfl (by unfold inI; rw [hres, if_pos h5] <;> rfl) (by rw [hres] <;> rfl))
    (fun h5 A => N hX 4 A rfl rfl fun A => ANY hmo [.sl 6 R.length 0, .el 6 20 0 0, .agg (rwQ9 (R.getD ((0 : Int).toNat) Rw.z)), .ptr 0 0, .ptr 0 0, .ptr 0 18, .agg (inQ9 z.ins), .agg (inQ9 ((R.getD ((0 : Int).toNat) Rw.z).lay z.ins)), .tup []] [8] [] 0 [([], [], [some (.blk (rdS g L.length c z.ins z.lab 1 4)), some (.blk [.ptr 2 0, .int .i64 z.e, .int .i64 z.a]), some (.blk [.sl 3 ws.length cw, .int .i64 ((z.p : Nat) : Int)]), some (wQ9 ws), some (lQ9 L), some (.blk [.int .i64 0, .int .i64 0, .int .i64 0, .int .i64 0, .int .i64 0, .int .i64 0, .int .i64 0, .int .i64 0, .int .i64 0, .int .i64 0, .ff, .ff, .ff, .int .i64 0, .int .i64 0, .int .i64 0, .ff]), some (.row 128 20 R.length 0 (fun zz => rwc (R.getD zz Rw.z)))]), ([8], [], [some (.blk (rdS g L.length c z.ins z.lab 1 4)), some (.blk [.ptr 2 0, .int .i64 z.e, .int .i64 z.a]), some (.blk [.sl 3 ws.length cw, .int .i64 ((z.p : Nat) : Int)]), some (wQ9 ws), some (lQ9 L), some (.blk (inQ9 ((R.getD ((0 : Int).toNat) Rw.z).lay z.ins))), some (.row 128 20 R.length 0 (fun zz => rwc (R.getD zz Rw.z)))])] [[true, true, true, true, true, true, true, true, true], [false, false, false, false, false, false, false, false, false]] A rfl rfl rfl rfl (by kernel_rfl) rfl (by kernel_rfl) ⟨⟨⟨_, _, _, _, 0, rfl, rfl, rfl, rfl, eff_at (eff_auto (X := ⟨_, true⟩) (out := .val _ _) hX rfl rfl) rfl⟩, ⟨⟨_, _, _, _, 0, rfl, rfl, rfl, rfl, eff_at (eff_auto (X := ⟨_, true⟩) (out := .val _ _) hX rfl (ok_d (by omega) <| okE_nil)) rfl⟩, ⟨⟨_, _, _, _, 0, rfl, rfl, rfl, rfl, eff_at (eff_auto (X := ⟨_, true⟩) (out := .val _ _) hX rfl (ok_d (by omega) <| okE_nil)) rfl⟩, ⟨⟨_, _, _, _, 0, rfl, rfl, rfl, rfl, eff_at (eff_auto (X := ⟨_, true⟩) (out := .val _ _) hX rfl rfl) rfl⟩, ⟨⟨_, _, _, _, 0, rfl, rfl, rfl, rfl, eff_at (eff_auto (X := ⟨_, true⟩) (out := .val _ _) hX rfl rfl) rfl⟩, ⟨⟨_, _, _, _, 0, rfl, rfl, rfl, rfl, eff_at (eff_auto (X := ⟨_, true⟩) (out := .val _ _) hX rfl rfl) rfl⟩, ⟨⟨_, _, _, _, 0, rfl, rfl, rfl, rfl, eff_at (eff_auto (X := ⟨_, true⟩) (out := .val _ _) hX rfl rfl) rfl⟩, ⟨⟨_, _, _, _, 0, rfl, rfl, rfl, rfl, eff_at (callIE [] LiesAt.ok (hI.t _ (hN.sub _ (r0_mem (R := R) (by omega)))) (withI_ (R.getD ((0 : Int).toNat) Rw.z) z.ins (by have := hN.n _ (r0_mem (R := R) (by omega)); have e : (0 : Int).toNat = 0 := rfl; rw [e, this]; omega)) rfl rfl rfl rfl rfl rfl rfl) rfl⟩, ⟨⟨_, _, _, _, 1, rfl, rfl, rfl, rfl, eff_at (eff_auto (X := ⟨_, true⟩) (out := .upd 5 (inQ9 ((R.getD ((0 : Int).toNat) Rw.z).lay z.ins)) _) hX rfl rfl) rfl⟩, trivial⟩⟩⟩⟩⟩⟩⟩⟩⟩, ⟨trivial, trivial⟩⟩ fun A => N hX 2 A rfl rfl fun A => have hres := hN.fi h1; RETN hX A rfl rfl rfl h0 rfl rfl rfl rfl (by unfold inI; rw [hres, if_neg h5] <;> rfl) (by rw [hres] <;> rfl)))
theorem clone_ (ws : List Tk) (c : Nat) (hn : ws.length ≤ 1000000) : Fn Tryz.prog 169 [.sl 0 ws.length c] [some (wQ9 ws)] (Rt (.sl 1 ws.length 0) [some (wQ9 ws), some (.row 28 4 ws.length 0 (fun zz => tkc (ws.getD zz tok0)))]) :=
 enterM (n := 8) (by kernel_rfl) Tryz.func169 rfl rfl rfl fun G w a h0 A => N hX 9 A rfl rfl fun A => NILL hX A rfl rfl (fun h1 {G a w} A => N hX 9 A rfl rfl fun A => have A := A.nilRow 2 28 4 (fun zz => tkc (ws.getD zz tok0)) rfl (fun z => ⟨_, rfl, rfl⟩); have A := A.rowAs 1 ws.length (fun zz => tkc (ws.getD zz tok0)) rfl h1 (fun _ _ => rfl) (fun z => ⟨_, rfl, rfl⟩); have A := A.say 2 (.sl 1 ws.length 0) rfl (by rw [h1] <;> rfl); RET hX [1] A ⟨rfl, rfl⟩ rfl rfl rfl rfl rfl rfl rfl rfl h0) (fun {G a w} A => N hX 9 A rfl rfl fun A => APPL hX ws.length (fun zz => tkc (ws.getD zz tok0)) A rfl rfl rfl rfl (Nat.le_refl _) (by omega) hn (by omega) (fun k hk => by omega) (fun k hk => by show tkc _ = tkc _; rw [Nat.zero_add]) (fun z => ⟨_, rfl, rfl⟩) (fun k hk => ⟨_, rfl, okE_nil⟩) fun A => N hX 4 A rfl rfl fun A => RET hX [2] A ⟨rfl, rfl⟩ rfl rfl rfl rfl rfl rfl rfl rfl h0)
theorem scanNew_ (ws : List Tk) (c : Nat) (hn : ws.length ≤ 1000000) : Fn Tryz.prog 111 [.sl 0 ws.length c] [some (wQ9 ws)] (Rt (.ptr 1 0) [some (wQ9 ws), some (.blk [.sl 2 ws.length 0, .int .i64 0]), some (.row 28 4 ws.length 0 (fun zz => tkc (ws.getD zz tok0)))]) :=
 enterM (n := 7) (by kernel_rfl) Tryz.func111 rfl rfl rfl fun G w a h0 A => N hX 8 A rfl rfl fun A => CALL1 [0] (clone_ ws c hn) A rfl rfl rfl rfl rfl rfl rfl fun A => N hX 6 A rfl rfl fun A => RET hX [2, 1] (x := .ptr 1 0) (H' := [some (wQ9 ws), some (.blk [.sl 2 ws.length 0, .int .i64 0]), some (.row 28 4 ws.length 0 (fun zz => tkc (ws.getD zz tok0)))]) A ⟨rfl, rfl⟩ rfl rfl rfl rfl rfl rfl rfl rfl h0
theorem askNew_ (ws : List Tk) (c : Nat) (hn : ws.length ≤ 1000000) : Fn Tryz.prog 46 [.sl 0 ws.length c] [some (wQ9 ws)] (Rt (.ptr 1 0) [some (wQ9 ws), some (.blk [.ptr 2 0, .int .i64 0, .int .i64 0]), some (.blk [.sl 3 ws.length 0, .int .i64 0]), some (.row 28 4 ws.length 0 (fun zz => tkc (ws.getD zz tok0)))]) :=
 enterM (n := 7) (by kernel_rfl) Tryz.func46 rfl rfl rfl fun G w a h0 A => N hX 8 A rfl rfl fun A => CALL1 [0] (scanNew_ ws c hn) A rfl rfl rfl rfl rfl rfl rfl fun A => N hX 6 A rfl rfl fun A => RET hX [3, 1, 2] (x := .ptr 1 0) (H' := [some (wQ9 ws), some (.blk [.ptr 2 0, .int .i64 0, .int .i64 0]), some (.blk [.sl 3 ws.length 0, .int .i64 0]), some (.row 28 4 ws.length 0 (fun zz => tkc (ws.getD zz tok0)))]) A ⟨rfl, rfl⟩ rfl rfl rfl rfl rfl rfl rfl rfl h0
def Ps.z0 : Ps := ⟨zIn, [], 0, 0, 0⟩
def paE (g : Lg) (ws : List Tk) (L : List Rw) : As := endA ws (inF g ws L Ps.z0).1.as
def parI (g : Lg) (ws : List Tk) (L : List Rw) : In := if (paE g ws L).e ≠ 0 then zIn else if wrongI (inI g ws L Ps.z0) = true then zIn else inI g ws L Ps.z0
def parT (g : Lg) (ws : List Tk) (L : List Rw) : List UInt8 := if (paE g ws L).e ≠ 0 then [] else if wrongI (inI g ws L Ps.z0) = true then [] else (inF g ws L Ps.z0).1.lab
def parE (g : Lg) (ws : List Tk) (L : List Rw) : Int := if (paE g ws L).e ≠ 0 then (paE g ws L).e else if wrongI (inI g ws L Ps.z0) = true then 34 else 0
def parA (g : Lg) (ws : List Tk) (L : List Rw) : Int := if (paE g ws L).e ≠ 0 then (paE g ws L).a else if wrongI (inI g ws L Ps.z0) = true then atW ws 0 else 0
structure PaOK (g : Lg) (ws : List Tk) (L : List Rw) : Prop where
  m : ∀ r ∈ L, NmOK g r.nm
  n : L.length ≤ 100000
  s : ∀ r ∈ naR g ws L Ps.z0, ∀ q ∈ naR g ws L Ps.z0, r.ps.length = q.ps.length
  k : inN g ws L Ps.z0 ≤ 1000
theorem inF_le {g : Lg} {ws : List Tk} {L : List Rw} {s : Ps} (hk : s.p ≤ ws.length) : (inF g ws L s).1.p ≤ ws.length := by
  have : ∀ (f k : Nat) (R : List Rw) (z : Ps), z.p ≤ ws.length → (inst g ws f k R z).1.p ≤ ws.length := by
    intro f
    induction f with
    | zero => intro k R z h; exact h
    | succ f ih =>
      intro k R z h
      unfold inst
      split
      · exact ih _ _ _ (nx_le h)
      · exact h
  exact this _ _ _ _ (naS_le hk)
theorem lparse_ (g : Lg) (L : List Rw) (c : Nat) (ws : List Tk) (d : Nat) (hn : ws.length ≤ 1000000) (hw : WsOK ws) (os : List (Nat × Obj)) (hM : ∀ w ks, Gl os w ks → ∃ m, w.cell? ⟨0, 0, none⟩ = some (.int .i64 m)) (hp : PaOK g ws L) : FnI (PrI os L) Tryz.prog 27 [.agg [.str g.r0, .str g.r1, .str g.r2, .str g.r3, .str g.r4, .str g.r5, .str g.r6, .str g.r7, .str g.l0, .str g.l1, .str g.l2, .str g.l3, .str g.im, .str g.f0, .str g.f1, .str g.f2, .sl 0 L.length c], .sl 1 ws.length d] [some (lQ9 L), some (wQ9 ws)] (Rt (.tup [.agg (inQ9 (parI g ws L)), .str (parT g ws L), .int .i64 (parE g ws L), .int .i64 (parA g ws L)]) [some (lQ9 L), some (wQ9 ws)]) :=
 enterI (n := 52) (by kernel_rfl) Tryz.func27 rfl rfl rfl fun G w a h0 hI A => N hX 10 A rfl rfl fun A => DRAWN hX hmo [] [(1, .ptr 4 0, [some (lQ9 L), some (wQ9 ws), some (.blk [.str g.r0, .str g.r1, .str g.r2, .str g.r3, .str g.r4, .str g.r5, .str g.r6, .str g.r7, .str g.l0, .str g.l1, .str g.l2, .str g.l3, .str g.im, .str g.f0, .str g.f1, .str g.f2, .sl 0 L.length c]), some (.blk [.int .i64 0, .int .i64 0, .int .i64 0, .int .i64 0, .int .i64 0, .int .i64 0, .int .i64 0, .int .i64 0, .int .i64 0, .int .i64 0, .ff, .ff, .ff, .int .i64 0, .int .i64 0, .int .i64 0, .ff]), some (.blk [.ptr 5 0, .int .i64 0, .int .i64 0]), some (.blk [.sl 6 ws.length 0, .int .i64 0]), some (.row 28 4 ws.length 0 (fun zz => tkc (ws.getD zz tok0)))])] A rfl rfl rfl rfl (by kernel_rfl) ⟨callE [1] (askNew_ ws d hn) rfl rfl rfl rfl rfl rfl rfl, ⟨trivial, trivial⟩⟩ trivial fun A => N hX 2 A rfl rfl fun A => have A := A.freeze 6 rfl; have A := A.asH (H' := [some (lQ9 L), some (wQ9 ws), some (.blk [.str g.r0, .str g.r1, .str g.r2, .str g.r3, .str g.r4, .str g.r5, .str g.r6, .str g.r7, .str g.l0, .str g.l1, .str g.l2, .str g.l3, .str g.im, .str g.f0, .str g.f1, .str g.f2, .sl 0 L.length c]), some (.blk [.int .i64 0, .int .i64 0, .int .i64 0, .int .i64 0, .int .i64 0, .int .i64 0, .int .i64 0, .int .i64 0, .int .i64 0, .int .i64 0, .ff, .ff, .ff, .int .i64 0, .int .i64 0, .int .i64 0, .ff]), some (.blk [.ptr 5 0, .int .i64 Ps.z0.e, .int .i64 Ps.z0.a]), some (.blk [.sl 6 ws.length 0, .int .i64 ((Ps.z0.p : Nat) : Int)]), some (wQ9 ws), some (.blk (rdS g L.length c Ps.z0.ins Ps.z0.lab 4 0))]) rfl; N hX 8 A rfl rfl fun A => CALL1 [5, 6] (at_W ws 0 Ps.z0.p (by first | exact Nat.zero_le _ | exact inF_le (s := Ps.z0) (Nat.zero_le _) | exact endA_le (s := (inF g ws L Ps.z0).1.as) (inF_le (s := Ps.z0) (Nat.zero_le _))) hn hw) A rfl rfl rfl rfl rfl rfl rfl fun A => N hX 6 A rfl rfl fun A => CALLI [7, 4, 5, 6, 0] PrI.ok hI (instruction_ g L c ws 0 Ps.z0 (Nat.zero_le _) hn hw os hM hp.m hp.n hp.s hp.k) A rfl rfl rfl rfl rfl rfl rfl fun A => N hX 9 A rfl rfl fun A => CALL1 [4, 5, 6] (end_ ws 0 (((inF g ws L Ps.z0).1).as) (by first | exact Nat.zero_le _ | exact inF_le (s := Ps.z0) (Nat.zero_le _) | exact endA_le (s := (inF g ws L Ps.z0).1.as) (inF_le (s := Ps.z0) (Nat.zero_le _))) hn hw) A rfl rfl rfl rfl rfl rfl rfl fun A => N hX 9 A rfl rfl fun A => CALL1 [4, 5, 6] (fault_ ws 0 (endA ws (((inF g ws L Ps.z0).1).as)) (by first | exact Nat.zero_le _ | exact inF_le (s := Ps.z0) (Nat.zero_le _) | exact endA_le (s := (inF g ws L Ps.z0).1.as) (inF_le (s := Ps.z0) (Nat.zero_le _))) hn hw) A rfl rfl rfl rfl rfl rfl rfl fun A => N hX 13 A rfl rfl fun A => forkN 39 A rfl
  (fun h1 A => N hX 13 A rfl rfl fun A => RETN hX A rfl rfl rfl h0 rfl rfl rfl rfl (by unfold parI parT parE parA; rw [if_pos (show (paE g ws L).e ≠ 0 from h1), if_pos (show (paE g ws L).e ≠ 0 from h1), if_pos (show (paE g ws L).e ≠ 0 from h1), if_pos (show (paE g ws L).e ≠ 0 from h1)] <;> rfl) rfl)
  (fun h1 A => N hX 7 A rfl rfl fun A => CALL1 [] (isWrong_ (inI g ws L Ps.z0).op (inI g ws L Ps.z0).dst (inI g ws L Ps.z0).ra (inI g ws L Ps.z0).rb (inI g ws L Ps.z0).imm (inI g ws L Ps.z0).loc (inI g ws L Ps.z0).off (inI g ws L Ps.z0).ix (inI g ws L Ps.z0).sz (inI g ws L Ps.z0).fn (inI g ws L Ps.z0).acq (inI g ws L Ps.z0).weak (inI g ws L Ps.z0).rel (inI g ws L Ps.z0).pred (inI g ws L Ps.z0).succ (inI g ws L Ps.z0).to_ (inI g ws L Ps.z0).zero) A rfl rfl rfl rfl rfl rfl rfl fun A => N hX 2 A rfl rfl fun A => fork 44 A rfl
   (fun h2 A => N hX 12 A rfl rfl fun A => RETN hX A rfl rfl rfl h0 rfl rfl rfl rfl (by unfold parI parT parE parA; rw [if_neg (show ¬ (paE g ws L).e ≠ 0 from not_not_intro h1), if_pos (show wrongI (inI g ws L Ps.z0) = true from h2), if_neg (show ¬ (paE g ws L).e ≠ 0 from not_not_intro h1), if_pos (show wrongI (inI g ws L Ps.z0) = true from h2), if_neg (show ¬ (paE g ws L).e ≠ 0 from not_not_intro h1), if_pos (show wrongI (inI g ws L Ps.z0) = true from h2), if_neg (show ¬ (paE g ws L).e ≠ 0 from not_not_intro h1), if_pos (show wrongI (inI g ws L Ps.z0) = true from h2)] <;> rfl) rfl)
   (fun h2 A => N hX 4 A rfl rfl fun A => DRAWN hX hmo [] [] A rfl rfl rfl rfl (by kernel_rfl) (effAll_nil _ _) trivial fun A => N hX 2 A rfl rfl fun A => RETN hX A rfl rfl rfl h0 rfl rfl rfl rfl (by unfold parI parT parE parA; rw [if_neg (show ¬ (paE g ws L).e ≠ 0 from not_not_intro h1), if_neg (show ¬ wrongI (inI g ws L Ps.z0) = true from ne_true_of_eq_false h2), if_neg (show ¬ (paE g ws L).e ≠ 0 from not_not_intro h1), if_neg (show ¬ wrongI (inI g ws L Ps.z0) = true from ne_true_of_eq_false h2), if_neg (show ¬ (paE g ws L).e ≠ 0 from not_not_intro h1), if_neg (show ¬ wrongI (inI g ws L Ps.z0) = true from ne_true_of_eq_false h2), if_neg (show ¬ (paE g ws L).e ≠ 0 from not_not_intro h1), if_neg (show ¬ wrongI (inI g ws L Ps.z0) = true from ne_true_of_eq_false h2)] <;> rfl) rfl))
end Go.Proofs.YtedlaclfhgneeabGreatDoor
namespace Go.Proofs.YtedlaclfhgneeabGreatDoor
open Go.RowKit
set_option linter.unusedVariables false
set_option linter.unusedSimpArgs false
set_option maxRecDepth 100000
set_option maxHeartbeats 2000000
abbrev nz : List UInt8 × Int := ([], 0)
def nfc (x : List UInt8 × Int) : List SV := [.str x.1, .int .i64 x.2]
theorem tyN : (∀ x, (nfc x).length = 2) ∧ (∀ x, inL 0 (nfc x) = true) ∧ (∀ x, ∃ vs, denL [] (nfc x) = some vs) := ⟨fun _ => rfl, fun _ => rfl, fun _ => ⟨_, rfl⟩⟩
theorem tyR : (∀ x, (rwc x).length = 20) ∧ (∀ x, inL 0 (rwc x) = true) ∧ (∀ x, ∃ vs, denL [] (rwc x) = some vs) := ⟨fun _ => rfl, fun _ => rfl, fun _ => ⟨_, rfl⟩⟩
def tm (r : Rw) : List UInt8 × List UInt8 × In × List Int := (r.nm, r.wd, r.ins, r.ps)
def RowsIn (lo : Nat) (L : List Rw) : Amb := fun w ks => ∀ r ∈ L, LiesAt r.pa r.ps w ks ∧ ∀ q, r.pa = some q → lo ≤ q.block
theorem RowsIn.ok {lo : Nat} {L : List Rw} : Amb.OK (RowsIn lo L) := fun w ks w' ks' h m hk r hr => ⟨(h r hr).1.go m hk, (h r hr).2⟩
def insF (op fn : Int) : In := ⟨op, 0, 0, 0, 0, 0, 0, 0, 0, fn, false, false, false, 0, 0, 0, false⟩
theorem lies_of {lo b : Nat} {cs : List SV} {l : List (Nat × List SV)} {w : World} {ks : List Nat} (ps : List Int) (h : Acc lo l w ks) (hm : (b, ps.map (SV.int .i64 ·)) ∈ l) : LiesAt (some ⟨b, 0, none⟩) ps w ks ∧ ∀ q, (some (⟨b, 0, none⟩ : Addr)) = some q → lo ≤ q.block := by
  obtain ⟨h1, vs, h2, h3, h4, h5⟩ := h _ hm
  have : ∀ ps : List Int, denL [] (ps.map (SV.int .i64 ·)) = some (ps.map (Value.int .i64)) := by
    intro ps
    induction ps with
    | nil => rfl
    | cons p ps ih => rw [List.map_cons]; unfold denL; rw [ih]; rfl
  rw [this] at h2
  cases h2
  exact ⟨.inr ⟨b, rfl, h3, h4, h5⟩, fun q hq => by cases hq; exact h1⟩
theorem rows_keys {lo b1 : Nat} {L : List Rw} {w : World} {ks : List Nat} (h : RowsIn lo L w [b1]) (hk : ∀ b, ks.contains b = true → b < lo ∨ b = b1) : RowsIn lo L w ks := fun r hr => by
  obtain ⟨h1, h2⟩ := h r hr
  refine ⟨?_, h2⟩
  rcases h1 with h1 | ⟨b, e, q1, q2, q3⟩
  · exact .inl h1
  · refine .inr ⟨b, e, q1, ?_, q3⟩
    cases hc : ks.contains b with
    | false => rfl
    | true =>
      have h3 := h2 _ e
      simp only at h3
      rcases hk b hc with h4 | h4
      · omega
      · rw [h4] at q2; simp at q2
theorem acc_keys {lo : Nat} {l : List (Nat × List SV)} {w : World} {ks : List Nat} (h : Acc lo l w []) (hk : ∀ b, ks.contains b = true → b < lo) : Acc lo l w ks := fun p hp => by
  obtain ⟨h1, vs, h2, h3, h4, h5⟩ := h p hp
  refine ⟨h1, vs, h2, h3, ?_, h5⟩
  cases hc : ks.contains p.1 with
  | false => rfl
  | true => have := hk _ hc; omega
theorem RowsIn.mono {lo lo2 : Nat} {L : List Rw} {w : World} {ks : List Nat} (h : RowsIn lo L w ks) (hl : lo2 ≤ lo) : RowsIn lo2 L w ks := fun r hr => ⟨(h r hr).1, fun q hq => Nat.le_trans hl ((h r hr).2 q hq)⟩
theorem RowsIn.app {lo : Nat} {L R : List Rw} {w : World} {ks : List Nat} (h : RowsIn lo L w ks) (h2 : RowsIn lo R w ks) : RowsIn lo (L ++ R) w ks := fun r hr => by
  rcases List.mem_append.1 hr with h3 | h3
  · exact h r h3
  · exact h2 r h3
theorem RowsIn.one {lo b : Nat} {L : List Rw} {w w' : World} {ks : List Nat} (h : RowsIn lo L w ks) (h2 : RowsIn lo L w [b]) (m : Mix ks w w') : RowsIn lo L w' [b] := fun r hr => by
  refine ⟨?_, (h r hr).2⟩
  rcases (h r hr).1.go m (ks' := []) (fun b hb => by cases hb) with h1 | ⟨q, e, q1, _, q3⟩
  · exact .inl h1
  · rcases (h2 r hr).1 with h3 | ⟨q', e', _, q2', _⟩
    · rw [h3.1] at e; cases e
    · rw [e] at e'; cases e'; exact .inr ⟨q, e, q1, q2', q3⟩
theorem Given.mix {e s m b cp : Nat} {f : Nat → List SV} {w w' : World} {ks : List Nat} (h : Given e s m f b cp w) (mx : Mix ks w w') (hk : ks.contains b = false) : Given e s m f b cp w' := by
  obtain ⟨h1, xs, h2, h3⟩ := h
  exact ⟨h1, xs, h2, own_mix h3 mx (fun k hk2 => by cases hk2; exact hk)⟩
end Go.Proofs.YtedlaclfhgneeabGreatDoor
namespace Go.Proofs.YtedlaclfhgneeabGreatDoor
open Go.RowKit
set_option linter.unusedVariables false
set_option linter.unusedSimpArgs false
set_option linter.unusedSectionVars false
theorem denL_last {G : Gr} {x y : SV} (h : den G x = den G y) : ∀ {l : List SV}, denL G (l ++ [x]) = denL G (l ++ [y])
  | [] => by
    show denL G [x] = denL G [y]
    unfold denL
    rw [h]
  | z :: l => by
    show denL G (z :: (l ++ [x])) = denL G (z :: (l ++ [y]))
    unfold denL
    rw [denL_last h]
section
variable {P : Program} {n : Nat} {ks : List Nat} {G0 : Gr} {w0 : World} {T : List (Nat × SV)} {H : Hp} {G : Gr} {a : Act} {w w' : World} {Q : Exit → Act → World → Prop} {K : List Fr} {ops : Array Oper} {o : Oper} {rest : List Oper}
theorem Sy.takeRowG (A : Sy n T H ks G0 w0 G a w) (t : Nat) {e s m b cp : Nat} {f : Nat → List SV} {x y : SV} (hg : Given e s m f b cp w) (hn : ∀ (i : Nat) (e : Ent) (L : Loc), H[i]? = some (some e) → G[i]? = some (some L) → ¬ e.empty → L.b ≠ b) (ho : w0.heap.size ≤ b) (ht : look T t = some x) (hy : den (G ++ [some ⟨b, [], List.replicate cp undef, e⟩]) y = den (G ++ [some ⟨b, [], List.replicate cp undef, e⟩]) x) :
    Sy n ((t, y) :: T) (H ++ [some (.row e s m 0 f)]) ks G0 w0 (G ++ [some ⟨b, [], List.replicate cp undef, e⟩]) a w := by
  have hlen := A.mem.len
  obtain ⟨p1, xs, p2, p3⟩ := hg
  have hen : EntOK G w (some ⟨b, [], List.replicate cp undef, e⟩) (.row e s m 0 f) := ⟨p1, fun L hL => by cases hL; rfl, xs, p2, by simpa [rm] using p3⟩
  have hold : ∀ (i : Nat) (x : Ent), (H ++ [some (Ent.row e s m 0 f)])[i]? = some (some x) → (H[i]? = some (some x) ∧ i < H.length) ∨ (i = H.length ∧ x = .row e s m 0 f) := by
    intro i x h
    by_cases hi : i < H.length
    · rw [List.getElem?_append_left hi] at h; exact .inl ⟨h, hi⟩
    · rw [List.getElem?_append_right (by omega)] at h
      have : i - H.length = 0 := by
        cases hq : i - H.length with
        | zero => rfl
        | succ k => rw [hq] at h; simp at h
      rw [this] at h
      simp at h
      exact .inr ⟨by omega, h.symm⟩
  have hG : ∀ i, i < H.length → (G ++ [some (⟨b, [], List.replicate cp undef, e⟩ : Loc)])[i]? = G[i]? := fun i hi => List.getElem?_append_left (by omega)
  have hGn : (G ++ [some (⟨b, [], List.replicate cp undef, e⟩ : Loc)])[H.length]? = some (some ⟨b, [], List.replicate cp undef, e⟩) := by rw [List.getElem?_append_right (by omega), hlen]; simp
  refine ⟨A.size, A.defers, fun q x hx => ?_, ⟨by simp [hlen], ?_, ?_⟩, ?_, ?_, A.mix⟩
  · unfold look at hx
    cases hb : Nat.beq t q with
    | true =>
      rw [hb] at hx; cases hx
      have := Nat.eq_of_beq_eq_true hb
      subst this
      rw [hy]; exact den_mono _ _ (A.get t _ ht)
    | false => rw [hb] at hx; exact den_mono _ x (A.get q x hx)
  · intro i x h
    rcases hold i x h with ⟨h1, h2⟩ | ⟨rfl, rfl⟩
    · rw [hG i h2]; exact (A.mem.ent i x h1).more _
    · rw [hGn]; exact hen.more _
  · intro i j x y L M hij h1 h2 h3 h4 h5 h6
    rcases hold i x h1 with ⟨k1, k2⟩ | ⟨rfl, rfl⟩
    · rw [hG i k2] at h4
      rcases hold j y h2 with ⟨k3, k4⟩ | ⟨rfl, rfl⟩
      · rw [hG j k4] at h5; exact A.mem.sep i j x y L M hij k1 k3 h3 h4 h5 h6
      · rw [hGn] at h5; cases h5; exact hn i x L k1 h4 (mut_full h3)
    · rw [hGn] at h4; cases h4
      rcases hold j y h2 with ⟨k3, k4⟩ | ⟨rfl, rfl⟩
      · rw [hG j k4] at h5; exact fun z => hn j y M k3 h5 h6 z.symm
      · exact absurd rfl hij
  · obtain ⟨F, hF⟩ := A.pre; exact ⟨F ++ [some ⟨b, [], List.replicate cp undef, e⟩], by rw [hF, List.append_assoc]⟩
  · intro i x L h1 h2 h3
    rcases hold i x h1 with ⟨k1, k2⟩ | ⟨rfl, rfl⟩
    · rw [hG i k2] at h3; exact A.own i x L k1 h2 h3
    · rw [hGn] at h3; cases h3; exact .inr ho
theorem CALLAGG {β : Type} {e s m t f : Nat} {l : List SV} {F : β → Nat → List SV} {R : β → Nat → World → World → Prop} (hf : FnR P f [] [] (fun x w w' => ∃ (L : β) (b cp : Nat), x = .agg (l ++ [.sla (some ⟨b, 0, none⟩) m cp]) ∧ R L b w w' ∧ w.heap.size ≤ b ∧ Given e s m (F L) b cp w')) (A : Sy n T H ks G0 w0 G a w) (hd : o.dst = some t) (h1 : callS n ops T o = some (f, []))
    (k : ∀ L b cp a' w' G', R L b w w' → w.heap.size ≤ b → (∀ k, (keys (H ++ [some (.row e s m 0 (F L))]) G').contains k = true → k < w.heap.size ∨ k = b) → Sy n ((t, .agg (l ++ [.sl H.length m 0])) :: extS T o.dst (.agg (l ++ [.sla (some ⟨b, 0, none⟩) m cp]))) (H ++ [some (.row e s m 0 (F L))]) ks G0 w0 G' a' w' → Goal P Q K (.ops ops rest) a' w') : Goal P Q K (.ops ops (o :: rest)) a w := by
  refine CALLR [] hf A h1 rfl rfl rfl rfl fun x a' w' hJ hk A' => ?_
  obtain ⟨L, b, cp, rfl, hR, hlo, hg⟩ := hJ
  have hl : look (extS T o.dst (.agg (l ++ [.sla (some ⟨b, 0, none⟩) m cp]))) t = some (.agg (l ++ [.sla (some ⟨b, 0, none⟩) m cp])) := by rw [hd]; simp [extS, look, Nat.beq_refl]
  have hlen := A'.mem.len
  have A2 := A'.takeRowG t (y := .agg (l ++ [.sl H.length m 0])) hg (fun i e L q1 q2 q3 => by
    have := A.mem.ent i e q1
    rw [q2] at this
    have := EntOK.lt this q3
    omega) (Nat.le_trans A.mix.size hlo) hl (by
      unfold den
      rw [denL_last (y := .sla (some ⟨b, 0, none⟩) m cp)]
      unfold den
      rw [List.getElem?_append_right (by omega), hlen]
      simp [rm])
  refine k L b cp a' w' _ hR hlo (fun q hq => ?_) A2
  obtain ⟨i, e', L', q1, q2, q3, q4⟩ := mem_keys.1 hq
  by_cases hi : i < H.length
  · rw [List.getElem?_append_left hi] at q1
    rw [List.getElem?_append_left (by omega)] at q3
    exact .inl (hk q (mem_keys.2 ⟨i, e', L', q1, q2, q3, q4⟩))
  · have hi2 : i = H.length := by
      have := (List.getElem?_eq_some_iff.1 q1).1
      simp at this; omega
    subst hi2
    rw [List.getElem?_append_right (by omega), hlen] at q3
    simp at q3
    subst q3
    exact .inr q4.symm
end
end Go.Proofs.YtedlaclfhgneeabGreatDoor
namespace Go.Proofs.YtedlaclfhgneeabGreatDoor
open Go.RowKit
set_option linter.unusedVariables false
set_option linter.unusedSimpArgs false
set_option maxRecDepth 100000
set_option maxHeartbeats 2000000
section
variable {g : Lg} {q : List UInt8} {L : List Rw} {ws : List Tk} {s : Ps}
theorem nfl_sz : ∀ (l : List Rw) (z : Int × List Rw) (r : Rw), r ∈ (l.foldl (nSt g q) z).2 → r ∈ z.2 ∨ (r ∈ l ∧ (szP g r.nm q).2 = true)
  | [], z, r, h => .inl h
  | x :: l, z, r, h => by
    rw [List.foldl_cons] at h
    rcases nfl_sz l _ r h with h1 | ⟨h1, h2⟩
    · unfold nSt at h1
      split at h1
      · next hx =>
        rcases List.mem_append.1 h1 with h2 | h2
        · exact .inl h2
        · rw [List.mem_singleton] at h2; subst h2; exact .inr ⟨List.mem_cons_self, hx⟩
      · exact .inl h1
    · exact .inr ⟨List.mem_cons_of_mem _ h1, h2⟩
theorem naR_sz {r : Rw} (h : r ∈ naR g ws L s) : r ∈ L ∧ (szP g r.nm (ws.getD s.p tok0).text).2 = true := by
  unfold naR at h
  split at h
  · unfold naZ zK at h
    rcases nfl_sz _ _ _ h with h1 | ⟨h1, h2⟩
    · cases h1
    · exact ⟨List.mem_of_mem_take h1, h2⟩
  · cases h
theorem tm_mem {r : Rw} {T : List (List UInt8 × List UInt8 × In × List Int)} (h : L.map tm = T) (hr : r ∈ L) : tm r ∈ T := by rw [← h]; exact List.mem_map_of_mem hr
end
def tabB (g : Lg) (T : List (List UInt8 × List UInt8 × In × List Int)) : Bool := T.all fun x => decide (x.1.length ≤ 1000) && decide ((Lib.cut x.1 [42]).1.length ≤ 1000) && decide ((Lib.cut x.1 [42]).2.1.length ≤ 1000) && decide (x.2.2.2.length ≤ 1000)
def rnm (g : Lg) (nm : List UInt8) : List (List UInt8) := if (Lib.cut nm [42]).2.2 = true then nms g nm else [nm]
theorem rnm_of {g : Lg} {nm q : List UInt8} (h : (szP g nm q).2 = true) : q ∈ rnm g nm := by
  unfold szP at h
  unfold rnm
  split at h
  · next hc =>
    rw [if_pos hc]
    split at h
    · cases h
    · next hi =>
      unfold idxS at hi
      split at hi
      · next j hj =>
        have h1 := List.find?_some hj
        have h2 := List.mem_range.1 (List.mem_of_find?_eq_some hj)
        have e : q = (nms g nm).getD j [] := by simpa using h1
        rw [e, List.getD_eq_getElem?_getD, List.getElem?_eq_getElem h2]
        exact List.getElem_mem h2
      · exact absurd (show (-1 : Int) < 0 by decide) hi
  · next hc =>
    rw [if_neg hc]
    simp at h; simp [h]
def sameB (g : Lg) (T : List (List UInt8 × List UInt8 × In × List Int)) : Bool := T.all fun x => T.all fun y => (x.2.2.2.length == y.2.2.2.length) || (rnm g x.1).all fun q => !((rnm g y.1).contains q)
theorem pa_ok {g : Lg} {T : List (List UInt8 × List UInt8 × In × List Int)} {L : List Rw} {ws : List Tk} (hm : L.map tm = T) (h1 : tabB g T = true) (h2 : sameB g T = true) (hn : T.length ≤ 1000) (hl : ∀ k, ([g.l0, g.l1, g.l2, g.l3].getD k []).length ≤ 1000) : PaOK g ws L := by
  have hlen : L.length ≤ 1000 := by have := congrArg List.length hm; rw [List.length_map] at this; omega
  have htab : ∀ r ∈ L, r.nm.length ≤ 1000 ∧ (Lib.cut r.nm [42]).1.length ≤ 1000 ∧ (Lib.cut r.nm [42]).2.1.length ≤ 1000 ∧ r.ps.length ≤ 1000 := fun r hr => by
    have := (List.all_eq_true.1 h1) _ (tm_mem hm hr)
    simp only [Bool.and_eq_true, decide_eq_true_eq] at this
    exact ⟨this.1.1.1, this.1.1.2, this.1.2, this.2⟩
  refine ⟨fun r hr => ⟨(htab r hr).1, (htab r hr).2.1, (htab r hr).2.2.1, hl⟩, by omega, fun r hr q hq => ?_, ?_⟩
  · obtain ⟨a1, a2⟩ := naR_sz hr
    obtain ⟨b1, b2⟩ := naR_sz hq
    have := (List.all_eq_true.1 ((List.all_eq_true.1 h2) _ (tm_mem hm a1))) _ (tm_mem hm b1)
    rw [Bool.or_eq_true] at this
    rcases this with h | h
    · simpa [tm] using h
    · have := (List.all_eq_true.1 h) _ (rnm_of a2)
      have hc : (rnm g (tm q).1).contains (ws.getD Ps.z0.p tok0).text = true := by rw [List.contains_iff_mem]; exact rnm_of b2
      rw [hc] at this; cases this
  · unfold inN
    by_cases h : 0 < (naR g ws L Ps.z0).length
    · exact (htab _ (naR_sz (r0_mem h)).1).2.2.2
    · rw [List.getD_eq_getElem?_getD, List.getElem?_eq_none (by omega)]; exact Nat.zero_le _
end Go.Proofs.YtedlaclfhgneeabGreatDoor
namespace Go.Proofs.YtedlaclfhgneeabGreatDoor
open Go.RowKit
set_option linter.unusedVariables false
set_option linter.unusedSimpArgs false
set_option linter.unusedSectionVars false
def cn (r : Rw) : Rw := ⟨r.nm, r.wd, r.ins, none, r.ps, 0⟩
def rwOf (x : List UInt8 × List UInt8 × In × List Int) : Rw := ⟨x.1, x.2.1, x.2.2.1, none, x.2.2.2, 0⟩
theorem cn_tm {L : List Rw} {T : List (List UInt8 × List UInt8 × In × List Int)} (h : L.map tm = T) : L.map cn = T.map rwOf := by rw [← h, List.map_map]; rfl
section
variable {g : Lg} {q : List UInt8} {L R : List Rw} {ws : List Tk} {s z : Ps} {k : Nat} {t : Tk} {x : Int}
theorem cn_at (j : Nat) : (R.map cn).getD j Rw.z = cn (R.getD j Rw.z) := by
  rw [List.getD_eq_getElem?_getD, List.getD_eq_getElem?_getD, List.getElem?_map]
  cases R[j]? <;> rfl
theorem cn_st (z : Int × List Rw) (r : Rw) : nSt g q (z.1, z.2.map cn) (cn r) = ((nSt g q z r).1, (nSt g q z r).2.map cn) := by
  show (if (szP g r.nm q).2 = true then _ else _) = _
  unfold nSt
  split
  · show (_, z.2.map cn ++ [cn r]) = (_, (z.2 ++ [r]).map cn)
    rw [List.map_append]; rfl
  · rfl
theorem cn_fl : ∀ (l : List Rw) (z : Int × List Rw), (l.map cn).foldl (nSt g q) (z.1, z.2.map cn) = ((l.foldl (nSt g q) z).1, (l.foldl (nSt g q) z).2.map cn)
  | [], z => rfl
  | r :: l, z => by
    rw [List.map_cons, List.foldl_cons, List.foldl_cons, cn_st, cn_fl l]
theorem cn_zK : zK g q (L.map cn) x k = ((zK g q L x k).1, (zK g q L x k).2.map cn) := by
  unfold zK
  rw [← List.map_take]
  exact cn_fl (L.take k) (x, [])
theorem cn_naZ : naZ g ws (L.map cn) s = ((naZ g ws L s).1, (naZ g ws L s).2.map cn) := by
  unfold naZ; rw [List.length_map]; exact cn_zK
theorem cn_naR : naR g ws (L.map cn) s = (naR g ws L s).map cn := by
  unfold naR; rw [cn_naZ]; split <;> rfl
theorem cn_naS : naS g ws (L.map cn) s = naS g ws L s := by
  unfold naS; rw [cn_naZ]; simp only [List.length_map]
theorem cn_lft : lft g k t (R.map cn) = (lft g k t R).map cn := by
  unfold lft; rw [List.filter_map]; rfl
theorem cn_fst : fstX (ask10 k) (R.map cn) = fstX (ask10 k) R := by
  unfold fstX
  rw [List.length_map]
  have : (fun j => ask10 k ((R.map cn).getD j Rw.z)) = fun j => ask10 k (R.getD j Rw.z) := by
    funext j; rw [cn_at]; rfl
  rw [this]
theorem cn_beS : beS g ws k (R.map cn) s = beS g ws k R s := by
  unfold beS mfV; rw [cn_lft, List.length_map, cn_fst]
theorem cn_nxR : nxR g ws k (R.map cn) z = (nxR g ws k R z).map cn := cn_lft
theorem cn_nxS : nxS g ws k (R.map cn) z = nxS g ws k R z := by
  unfold nxS; rw [cn_nxR, List.length_map, cn_beS, cn_at]; rfl
theorem cn_goB : goB (R.map cn) k = goB R k := by
  unfold goB; rw [List.length_map, cn_at]; rfl
theorem cn_inst : ∀ (f k : Nat) (R : List Rw) (z : Ps), inst g ws f k (R.map cn) z = ((inst g ws f k R z).1, (inst g ws f k R z).2.map cn)
  | 0, k, R, z => rfl
  | f + 1, k, R, z => by
    unfold inst
    rw [cn_goB]
    split
    · rw [cn_nxR, cn_nxS]; exact cn_inst f _ _ _
    · rfl
theorem cn_inN : inN g ws (L.map cn) s = inN g ws L s := by
  unfold inN; rw [cn_naR, cn_at]; rfl
theorem cn_inF : inF g ws (L.map cn) s = ((inF g ws L s).1, (inF g ws L s).2.map cn) := by
  unfold inF; rw [cn_inN, cn_naR, cn_naS]; exact cn_inst _ _ _ _
theorem cn_inI : inI g ws (L.map cn) s = inI g ws L s := by
  unfold inI; rw [cn_inF]; simp only [List.length_map, cn_at]; rfl
theorem cn_paE : paE g ws (L.map cn) = paE g ws L := by unfold paE; rw [cn_inF]
theorem cn_par : parI g ws (L.map cn) = parI g ws L ∧ parT g ws (L.map cn) = parT g ws L ∧ parE g ws (L.map cn) = parE g ws L ∧ parA g ws (L.map cn) = parA g ws L := by
  unfold parI parT parE parA
  rw [cn_paE, cn_inI, cn_inF]
  exact ⟨rfl, rfl, rfl, rfl⟩
end
end Go.Proofs.YtedlaclfhgneeabGreatDoor
namespace Go.Proofs.YtedlaclfhgneeabGreatDoor
open Go.RowKit
set_option linter.unusedVariables false
set_option linter.unusedSimpArgs false
def toO (i : In) : Old.Ins := ⟨i.op, i.dst, i.ra, i.rb, i.imm, i.loc, i.off, i.ix, i.sz, i.fn, i.acq, i.weak, i.rel, i.pred, i.succ, i.to_, i.zero⟩
theorem fits_o (a s : Int) : (((((((s == 1) || (s == 2)) || (s == 4)) || (s == 8)) && (decide (a ≥ 0))) && (decide (a ≤ (IntKind.wrap .i64 (8 - s))))) && ((Int.tmod a s) == 0)) = Old.fitsB a s := by
  unfold Old.fitsB
  have w1 : IntKind.wrap .i64 (8 - 1) = 7 := by decide
  have w2 : IntKind.wrap .i64 (8 - 2) = 6 := by decide
  have w4 : IntKind.wrap .i64 (8 - 4) = 4 := by decide
  have w8 : IntKind.wrap .i64 (8 - 8) = 0 := by decide
  by_cases ha : a ≥ 0
  · by_cases h1 : s = 1
    · subst h1; rw [w1, Int.tmod_eq_emod_of_nonneg ha]; rw [Bool.eq_iff_iff]; simp [ha]
    · by_cases h2 : s = 2
      · subst h2; rw [w2, Int.tmod_eq_emod_of_nonneg ha]; rw [Bool.eq_iff_iff]; simp [ha]
      · by_cases h4 : s = 4
        · subst h4; rw [w4, Int.tmod_eq_emod_of_nonneg ha]; rw [Bool.eq_iff_iff]; simp [ha]
        · by_cases h8 : s = 8
          · subst h8; rw [w8, Int.tmod_eq_emod_of_nonneg ha]; rw [Bool.eq_iff_iff]; simp [ha]
          · simp [h1, h2, h4, h8]
  · have : ¬ 0 ≤ a := ha
    simp [this]
theorem mask_o (a s : Int) : (bMask0 a s == 0) = (Old.maskR a s == 0) := by
  unfold bMask0 Old.maskR
  rw [fits_o]
  cases h : Old.fitsB a s
  · simp
  · have hf := h
    unfold Old.fitsB at hf
    have hf := of_decide_eq_true hf
    obtain ⟨hs, h0, h1, h2⟩ := hf
    simp only [Bool.not_true, Bool.false_eq_true, if_false, if_true]
    rcases hs with e | e | e | e <;> subst e
    · have : a = 0 ∨ a = 1 ∨ a = 2 ∨ a = 3 ∨ a = 4 ∨ a = 5 ∨ a = 6 ∨ a = 7 := by omega
      rcases this with e | e | e | e | e | e | e | e <;> subst e <;> decide +kernel
    · have : a = 0 ∨ a = 2 ∨ a = 4 ∨ a = 6 := by omega
      rcases this with e | e | e | e <;> subst e <;> decide +kernel
    · have : a = 0 ∨ a = 4 := by omega
      rcases this with e | e <;> subst e <;> decide +kernel
    · have : a = 0 := by omega
      subst this; decide +kernel
theorem ron_o (r : Int) : isRegOrNone0 r = Old.ronB r := by
  unfold isRegOrNone0 Old.ronB Old.regB
  by_cases h : r = -1
  · simp [h]
  · simp [h]
theorem acc_o (i : In) : isAccess0 i.op i.dst i.ra i.rb i.imm i.loc i.off i.ix i.sz i.fn i.acq i.weak i.rel i.pred i.succ i.to_ i.zero = Old.accB (toO i) := by
  unfold isAccess0 Old.accB toO
  rw [ron_o, mask_o]
  by_cases h1 : i.loc ≥ 0
  · by_cases h2 : i.loc < 3
    · cases h3 : Old.ronB i.ix <;> simp [h1, h2, h3]
    · simp [h1, h2]
  · simp [h1]
theorem sound_o (i : In) : sound0 i.op i.dst i.ra i.rb i.imm i.loc i.off i.ix i.sz i.fn i.acq i.weak i.rel i.pred i.succ i.to_ i.zero = Old.soundB (toO i) := by
  have ha := acc_o i
  unfold sound0 Old.soundB
  rw [ha, ron_o, ron_o]
  generalize Old.accB (toO i) = ab
  unfold toO Old.regB Old.fenB
  by_cases h1 : i.op = 1
  · simp [h1]
  by_cases h2 : i.op = 2
  · simp [h2]
  by_cases h3 : i.op = 3
  · simp [h3, Bool.and_assoc]
  by_cases h4 : i.op = 4
  · simp [h4, Bool.and_assoc]
  by_cases h5 : i.op = 5
  · simp [h5]
  by_cases h6 : i.op = 6
  · simp [h6, Bool.and_assoc]
  by_cases h7 : i.op = 7
  · simp [h7, Bool.beq_eq_decide_eq]
  by_cases h8 : i.op = 8
  · simp [h8]
  by_cases h9 : i.op = 9
  · simp [h9]
  simp [h1, h2, h3, h4, h5, h6, h7, h8, h9]
theorem eq_o (a b : In) : eqIn a b = Old.insEq (toO a) (toO b) := by
  unfold eqIn Old.insEq toO
  rw [Bool.eq_iff_iff]
  simp only [Bool.and_eq_true, beq_iff_eq, decide_eq_true_eq, Old.Ins.mk.injEq]
def plI (i : In) : In := ⟨i.op, plain0 i.op i.dst i.ra i.rb i.imm i.loc i.off i.ix i.sz i.fn i.acq i.weak i.rel i.pred i.succ i.to_ i.zero, plain1 i.op i.dst i.ra i.rb i.imm i.loc i.off i.ix i.sz i.fn i.acq i.weak i.rel i.pred i.succ i.to_ i.zero, plain2 i.op i.dst i.ra i.rb i.imm i.loc i.off i.ix i.sz i.fn i.acq i.weak i.rel i.pred i.succ i.to_ i.zero, plain3 i.op i.dst i.ra i.rb i.imm i.loc i.off i.ix i.sz i.fn i.acq i.weak i.rel i.pred i.succ i.to_ i.zero, plain4 i.op i.dst i.ra i.rb i.imm i.loc i.off i.ix i.sz i.fn i.acq i.weak i.rel i.pred i.succ i.to_ i.zero, plain5 i.op i.dst i.ra i.rb i.imm i.loc i.off i.ix i.sz i.fn i.acq i.weak i.rel i.pred i.succ i.to_ i.zero, plain6 i.op i.dst i.ra i.rb i.imm i.loc i.off i.ix i.sz i.fn i.acq i.weak i.rel i.pred i.succ i.to_ i.zero, plain7 i.op i.dst i.ra i.rb i.imm i.loc i.off i.ix i.sz i.fn i.acq i.weak i.rel i.pred i.succ i.to_ i.zero, plain8 i.op i.dst i.ra i.rb i.imm i.loc i.off i.ix i.sz i.fn i.acq i.weak i.rel i.pred i.succ i.to_ i.zero, plain9 i.op i.dst i.ra i.rb i.imm i.loc i.off i.ix i.sz i.fn i.acq i.weak i.rel i.pred i.succ i.to_ i.zero, plain10 i.op i.dst i.ra i.rb i.imm i.loc i.off i.ix i.sz i.fn i.acq i.weak i.rel i.pred i.succ i.to_ i.zero, plain11 i.op i.dst i.ra i.rb i.imm i.loc i.off i.ix i.sz i.fn i.acq i.weak i.rel i.pred i.succ i.to_ i.zero, plain12 i.op i.dst i.ra i.rb i.imm i.loc i.off i.ix i.sz i.fn i.acq i.weak i.rel i.pred i.succ i.to_ i.zero, plain13 i.op i.dst i.ra i.rb i.imm i.loc i.off i.ix i.sz i.fn i.acq i.weak i.rel i.pred i.succ i.to_ i.zero, plain14 i.op i.dst i.ra i.rb i.imm i.loc i.off i.ix i.sz i.fn i.acq i.weak i.rel i.pred i.succ i.to_ i.zero, plain15 i.op i.dst i.ra i.rb i.imm i.loc i.off i.ix i.sz i.fn i.acq i.weak i.rel i.pred i.succ i.to_ i.zero⟩
theorem imm_o (i : In) (r : Int) : immFor0 i.op i.dst i.ra i.rb i.imm i.loc i.off i.ix i.sz i.fn i.acq i.weak i.rel i.pred i.succ i.to_ i.zero r = Old.immF (toO i) r := by
  unfold immFor0 Old.immF toO
  by_cases h : r = -1 <;> simp [h]
theorem isop_o (i : In) : isOp0 i.op i.dst i.ra i.rb i.imm i.loc i.off i.ix i.sz i.fn i.acq i.weak i.rel i.pred i.succ i.to_ i.zero = Old.opB (toO i) := by
  unfold isOp0 Old.opB Old.rdB Old.wrB toO
  cases ((i.op == 4) || (i.op == 6)) <;> simp
theorem plain_o (i : In) : toO (plI i) = Old.plainF (toO i) := by
  have h1 := imm_o i i.rb
  have h2 := imm_o i i.ra
  have h3 := isop_o i
  unfold toO plI Old.plainF
  unfold plain0 plain1 plain2 plain3 plain4 plain5 plain6 plain7 plain8 plain9 plain10 plain11 plain12 plain13 plain14 plain15
  rw [h1, h2, h3]
  unfold Old.opB Old.rdB Old.wrB
  generalize e1 : Old.immF (toO i) i.rb = m1
  generalize e2 : Old.immF (toO i) i.ra = m2
  unfold toO at e1 e2 ⊢
  simp only [Old.Ins.mk.injEq]
  rw [e1, e2]
  by_cases h1 : i.op = 1
  · simp [h1]
  by_cases h2 : i.op = 2
  · simp [h2]
  by_cases h3 : i.op = 3
  · simp [h3]
  by_cases h4 : i.op = 4
  · simp [h4]
  by_cases h5 : i.op = 5
  · simp [h5]
  by_cases h6 : i.op = 6
  · simp [h6]
  by_cases h7 : i.op = 7
  · simp [h7]
  by_cases h8 : i.op = 8
  · simp [h8]
  by_cases h9 : i.op = 9
  · simp [h9]
  simp [h1, h2, h3, h4, h5, h6, h7, h8, h9]
theorem right_o (i : In) (at_ n : Int) : Right0 i.op i.dst i.ra i.rb i.imm i.loc i.off i.ix i.sz i.fn i.acq i.weak i.rel i.pred i.succ i.to_ i.zero at_ n = Old.rightR (toO i) at_ n := by
  have e1 := sound_o i
  have e2 := eq_o i (plI i)
  rw [plain_o] at e2
  unfold Right0 Old.rightR
  unfold eqIn plI at e2
  rw [e1, e2]
  clear e1 e2
  cases Old.insEq (toO i) (Old.plainF (toO i)) <;> cases Old.soundB (toO i) <;> simp only [Bool.not_true, Bool.not_false, Bool.or_self, Bool.or_true, Bool.true_or, Bool.and_self, Bool.and_true, Bool.and_false, if_true, Bool.false_eq_true, if_false] <;> rfl
theorem wrong_o (i : In) : wrongI i = Old.wrongB (toO i) := by
  unfold wrongI Old.wrongB; rw [right_o]
def toR (r : Rw) : Old.Rw := ⟨r.nm, toO r.ins, Old.nilV, r.ps⟩
theorem step_o (i j : In) (p : Int) : toO (wStep i j p) = Old.wStep (toO i) (toO j) p := by
  unfold wStep Old.wStep
  by_cases h1 : p = 1
  · simp [h1, toO]
  by_cases h2 : p = 2
  · simp [h2, toO]
  by_cases h3 : p = 3
  · simp [h3, toO]
  by_cases h4 : p = 4
  · simp [h4, toO]
  by_cases h5 : p = 5
  · simp [h5, toO]
  by_cases h6 : p = 6
  · simp [h6, toO]
  by_cases h7 : p = 7
  · simp [h7, toO]
  by_cases h8 : p = 8
  · simp [h8, toO]
  by_cases h9 : p = 9
  · simp [h9, toO]
  simp [h1, h2, h3, h4, h5, h6, h7, h8, h9]
theorem fold_o (i : In) : ∀ (ps : List Int) (j : In), toO (ps.foldl (wStep i) j) = ps.foldl (Old.wStep (toO i)) (toO j)
  | [], j => rfl
  | p :: ps, j => by rw [List.foldl_cons, List.foldl_cons, fold_o i ps, step_o]
theorem lay_o (r : Rw) (i : In) : toO (r.lay i) = Old.withR (toR r) (toO i) := fold_o i r.ps (bare r.ins)
theorem regp_o (p : Int) (i : In) : regP p i = Old.regP p (toO i) := by
  unfold regP Old.regP toO
  simp only [beq_iff_eq]
theorem rowp_o (i : In) (r : Rw) : rowP i r = Old.fitsR (toO i) (toR r) := by
  unfold rowP Old.fitsR
  rw [eq_o, lay_o]
  congr 1
  unfold showP Old.showsR Old.lacks
  simp only [regp_o]
  rfl
theorem find_o (i : In) : ∀ L : List Rw, (L.map toR).find? (Old.fitsR (toO i)) = (L.find? (rowP i)).map toR
  | [] => rfl
  | r :: L => by
    rw [List.map_cons, List.find?_cons, List.find?_cons, ← rowp_o, find_o i L]
    cases rowP i r <;> rfl
theorem loc_o (k : Nat) : [[120], [121], [122]].getD k ([] : List UInt8) = Old.locN k := by
  match k with
  | 0 => rfl
  | 1 => rfl
  | 2 => rfl
  | k + 3 => unfold Old.locN; simp
theorem one_o (l : List UInt8) : oneN l = Old.isNm l := by
  unfold oneN Old.isNm
  cases h : (tokensR l).1 with
  | nil => simp
  | cons t ts =>
    simp only [List.getD_cons_zero, List.length_cons, List.getElem?_cons_zero]
    have e : (t.text == l) = eqL t.text l := by
      cases hq : eqL t.text l
      · rw [beq_eq_false_iff_ne]; intro hh; rw [hh, eqL_same] at hq; cases hq
      · rw [eqL_eq hq]; exact beq_self_eq_true _
    rw [e]
    have e2 : (ts.length + 1 == 1) = ((((ts.length + 1 : Nat) : Int)) == 1) := by
      rw [Bool.eq_iff_iff]; simp only [beq_iff_eq]; omega
    rw [e2, ← Bool.and_assoc]
end Go.Proofs.YtedlaclfhgneeabGreatDoor
namespace Go.Proofs.YtedlaclfhgneeabGreatDoor
open Go.RowKit
set_option linter.unusedVariables false
set_option linter.unusedSimpArgs false
set_option maxRecDepth 100000
set_option maxHeartbeats 2000000
set_option simprocs false
theorem locN_le (k : Nat) : (Old.locN k).length ≤ 1 := by
  unfold Old.locN; rw [List.length_drop, List.length_take]; omega
theorem itoa_le (n : Int) (h : -9223372036854775808 ≤ n ∧ n ≤ 9223372036854775807) : (Lib.itoa n).length ≤ 21 := Lib.itoa_length_le n h.1 h.2

end Go.Proofs.YtedlaclfhgneeabGreatDoor
namespace Go.Proofs.YtedlaclfhgneeabGreatDoor
open Go.RowKit
set_option linter.unusedVariables false
set_option linter.unusedSimpArgs false

end Go.Proofs.YtedlaclfhgneeabGreatDoor
namespace Go.Proofs.YtedlaclfhgneeabGreatDoor
open Go.RowKit
set_option linter.unusedVariables false
set_option linter.unusedSimpArgs false
set_option maxRecDepth 100000
set_option maxHeartbeats 2000000
set_option simprocs false
section
variable {p : UInt8 → Bool} {l : List UInt8} {s0 k : Nat}
end
section
variable {b : UInt8}
end
section
variable {b : UInt8} {k : Nat}
end
end Go.Proofs.YtedlaclfhgneeabGreatDoor
namespace Go.Proofs.YtedlaclfhgneeabGreatDoor
set_option linter.unusedVariables false


section
variable {l : List UInt8} {a b : UInt8}
end
end Go.Proofs.YtedlaclfhgneeabGreatDoor
namespace Go.Proofs.YtedlaclfhgneeabGreatDoor
open Go.RowKit
set_option linter.unusedVariables false
set_option linter.unusedSimpArgs false
set_option maxRecDepth 100000
set_option maxHeartbeats 2000000
set_option simprocs false
theorem w8 (x : Int) (h : 0 ≤ x ∧ x ≤ 255) : IntKind.wrap .i64 (IntKind.wrap .u8 x) = x := by
  have : ∀ n : Fin 256, IntKind.wrap .i64 (IntKind.wrap .u8 ((n.val : Nat) : Int)) = ((n.val : Nat) : Int) := by decide +kernel
  obtain ⟨n, e⟩ := Int.eq_ofNat_of_zero_le h.1
  subst e
  exact this ⟨n, by omega⟩
section
variable {l : List UInt8} {k e : Nat}
end
section
variable {bs : Nat} {D : List UInt8} {j : Nat} {B : Int}
end
section
variable {l : List UInt8}
end
section
variable {l : List UInt8} {e0 ss : Nat} {ws : List Tk}
end

section
variable {i : In} {lb : List UInt8}
end
theorem aregs_   : Fn Tryz.prog 41 [] [] (Rt (.agg [.str [88, 48], .str [88, 49], .str [88, 50], .str [88, 51], .str [88, 52], .str [88, 53], .str [88, 54], .str [88, 55]]) []) :=
 enterM (n := 2) (by kernel_rfl) Tryz.func41 rfl rfl rfl fun G w a h0 A => N hX 12 A rfl rfl fun A => RETN hX A rfl rfl rfl h0 rfl rfl rfl rfl rfl rfl
end Go.Proofs.YtedlaclfhgneeabGreatDoor
namespace Go.Proofs.YtedlaclfhgneeabGreatDoor
open Go.RowKit
set_option linter.unusedVariables false
set_option linter.unusedSimpArgs false
set_option linter.unusedSectionVars false
set_option maxRecDepth 100000
set_option maxHeartbeats 2000000
section
variable {g : Lg} {L : List Rw} {i : In} {lb : List UInt8} {r : Rw}
theorem sound_of (h : wrongI i = false) : sound0 i.op i.dst i.ra i.rb i.imm i.loc i.off i.ix i.sz i.fn i.acq i.weak i.rel i.pred i.succ i.to_ i.zero = true := by
  cases hs : sound0 i.op i.dst i.ra i.rb i.imm i.loc i.off i.ix i.sz i.fn i.acq i.weak i.rel i.pred i.succ i.to_ i.zero with
  | true => rfl
  | false =>
    exfalso
    unfold wrongI Right0 at h
    rw [hs, Bool.not_false, Bool.or_true, if_pos rfl] at h
    exact absurd h (by decide)
theorem acc_loc (h : isAccess0 i.op i.dst i.ra i.rb i.imm i.loc i.off i.ix i.sz i.fn i.acq i.weak i.rel i.pred i.succ i.to_ i.zero = true) : 0 ≤ i.loc ∧ i.loc < 3 := by
  unfold isAccess0 at h
  split at h
  · split at h
    · omega
    · cases h
  · cases h
theorem snd_loc (h : wrongI i = false) (ho : i.op = 4 ∨ i.op = 5 ∨ i.op = 6) : 0 ≤ i.loc ∧ i.loc < 3 := by
  have hs := sound_of h
  unfold sound0 at hs
  rw [if_neg (by omega), if_neg (by omega), if_neg (by omega)] at hs
  rcases ho with ho | ho | ho
  · rw [if_pos ho] at hs
    split at hs
    · rw [Bool.and_eq_true] at hs; exact acc_loc hs.1
    · cases hs
  · rw [if_neg (by omega), if_pos ho] at hs
    split at hs
    · exact acc_loc hs
    · cases hs
  · rw [if_neg (by omega), if_neg (by omega), if_pos ho] at hs
    split at hs
    · split at hs
      · rw [Bool.and_eq_true] at hs; exact acc_loc hs.1
      · cases hs
    · cases hs
theorem snd_fen (h : wrongI i = false) (ho : i.op = 7) : (1 ≤ i.pred ∧ i.pred ≤ 3) ∧ (1 ≤ i.succ ∧ i.succ ≤ 3) := by
  have hs := sound_of h
  unfold sound0 at hs
  rw [if_neg (by omega), if_neg (by omega), if_neg (by omega), if_neg (by omega), if_neg (by omega), if_neg (by omega), if_pos ho] at hs
  split at hs
  · next hp =>
    simp only [Bool.or_eq_true, beq_iff_eq] at hp hs
    omega
  · cases hs
theorem wstep_op (i J : In) (p : Int) : (wStep i J p).op = J.op := by
  unfold wStep
  repeat' split
  all_goals rfl
theorem lay_op (r : Rw) (i : In) : (r.lay i).op = r.ins.op := by
  have : ∀ (l : List Int) (J : In), (l.foldl (wStep i) J).op = J.op := by
    intro l
    induction l with
    | nil => intro J; rfl
    | cons p l ih => intro J; rw [List.foldl_cons, ih, wstep_op]
  exact this r.ps (bare r.ins)
theorem row_op (h : rowQ L i = true) : i.op = (rowR L i).ins.op := by
  unfold rowQ at h
  unfold rowR
  cases hf : L.find? (rowP i) with
  | none => rw [hf] at h; cases h
  | some r =>
    have := List.find?_some hf
    unfold rowP at this
    rw [Bool.and_eq_true] at this
    have h2 := this.1
    unfold eqIn at h2
    rw [Bool.and_eq_true, beq_iff_eq, lay_op] at h2
    exact h2.1.symm
end
def prB (g : Lg) (T : List (List UInt8 × List UInt8 × In × List Int)) : Bool := T.all fun x =>
  decide (x.1.length ≤ 1000) && decide (Lib.countB (S x.1) (S [42]) ≤ 1000) && decide (x.2.2.2.length ≤ 4) && decide (x.2.1.length ≤ 1000) &&
  ((List.range 4).all fun k => decide ((Lib.replace x.1 [42] (g.let.getD k []) 1).length ≤ 1000)) &&
  (x.2.2.2.all fun p => (!(p == 6) || (x.2.2.1.op == 4 || (x.2.2.1.op == 5 || x.2.2.1.op == 6))) && (!(p == 8 || p == 9) || x.2.2.1.op == 7))
theorem lens_le {B : Nat} : ∀ (l : List (List UInt8)), (∀ x ∈ l, x.length ≤ B) → Lib.lens l ≤ l.length * B
  | [], _ => by simp [Lib.lens]
  | x :: l, h => by
    have h1 := lens_le l (fun y hy => h y (List.mem_cons_of_mem _ hy))
    have h2 := h x List.mem_cons_self
    have e : Lib.lens (x :: l) = x.length + Lib.lens l := by simp [Lib.lens]
    rw [e, List.length_cons, Nat.add_mul]; omega
theorem join_le {B : Nat} (l : List (List UInt8)) (h : ∀ x ∈ l, x.length ≤ B) : (Lib.join l [44]).length ≤ l.length * (B + 1) := by
  cases l with
  | nil => exact Nat.zero_le _
  | cons x l =>
    rw [Lib.join_length]
    have := lens_le (x :: l) h
    rw [Nat.mul_add, List.length_cons] at *
    simp only [List.length_cons, List.length_nil]
    omega
theorem get3_le {a b c : List UInt8} {B : Nat} (ha : a.length ≤ B) (hb : b.length ≤ B) (hc : c.length ≤ B) (k : Nat) : ([a, b, c].getD k []).length ≤ B := by
  by_cases h : k < 3
  · have : k = 0 ∨ k = 1 ∨ k = 2 := by omega
    rcases this with rfl | rfl | rfl
    · exact ha
    · exact hb
    · exact hc
  · rw [List.getD_eq_getElem?_getD, List.getElem?_eq_none (by simpa using h)]; exact Nat.zero_le _
structure LgL (g : Lg) : Prop where
  lg : LgOK g
  lt : ∀ k, ([g.l0, g.l1, g.l2, g.l3].getD k []).length ≤ 1000
  f0 : g.f0.length ≤ 1000
  f1 : g.f1.length ≤ 1000
  f2 : g.f2.length ≤ 1000
structure InR (i : In) : Prop where
  im : -9223372036854775808 ≤ i.imm ∧ i.imm ≤ 9223372036854775807
  of_ : -9223372036854775808 ≤ i.off ∧ i.off ≤ 9223372036854775807
section
variable {g : Lg} {L : List Rw} {i : In} {lb : List UInt8} {r : Rw}
theorem mem_le (hg : LgL g) (hi : InR i) : (memT g i).length ≤ 1100 := by
  have q1 := hg.lg.rg i.ix
  have q2 := Lib.itoa_length_le i.off hi.of_.1 hi.of_.2
  have q3 := get3_le (a := [120]) (b := [121]) (c := [122]) (B := 1) (by decide) (by decide) (by decide) (i.loc).toNat
  unfold memT memB memA
  split <;> split <;> (simp only [List.length_append, List.length_cons, List.length_nil]; omega)
theorem opd_le (hg : LgL g) (hi : InR i) (hw : r.wd.length ≤ 1000) (p : Int) : (opdT g r p i lb).length ≤ 2000 + lb.length := by
  have q1 := hg.lg.rg (regP p i).1
  have q2 := Lib.itoa_length_le i.imm hi.im.1 hi.im.2
  have q3 := hg.lg.im
  have q4 := mem_le hg hi
  have q5 := get3_le hg.f0 hg.f1 hg.f2 (i.pred - 1).toNat
  have q6 := get3_le hg.f0 hg.f1 hg.f2 (i.succ - 1).toNat
  unfold opdT
  split
  · omega
  split
  · rw [List.length_append]; omega
  split
  · omega
  split
  · omega
  split
  · omega
  split
  · omega
  · omega
theorem pr_ok {T : List (List UInt8 × List UInt8 × In × List Int)} (hm : L.map tm = T) (hg : LgL g) (hB : prB g T = true) (hn : T.length ≤ 1000) (hi : InR i) (hl : lb.length ≤ 100000) : PrOK g L i lb := by
  have hlen : L.length ≤ 1000 := by have := congrArg List.length hm; rw [List.length_map] at this; omega
  have htab : ∀ r ∈ L, r.nm.length ≤ 1000 ∧ Lib.countB (S r.nm) (S [42]) ≤ 1000 ∧ r.ps.length ≤ 4 ∧ r.wd.length ≤ 1000 ∧ (∀ k, k < 4 → (Lib.replace r.nm [42] (g.let.getD k []) 1).length ≤ 1000) ∧ ∀ p ∈ r.ps, (p = 6 → r.ins.op = 4 ∨ r.ins.op = 5 ∨ r.ins.op = 6) ∧ (p = 8 ∨ p = 9 → r.ins.op = 7) := fun r hr => by
    have := (List.all_eq_true.1 hB) _ (tm_mem hm hr)
    simp only [Bool.and_eq_true, decide_eq_true_eq] at this
    obtain ⟨⟨⟨⟨⟨h1, h2⟩, h3⟩, h4⟩, h5⟩, h6⟩ := this
    refine ⟨h1, h2, h3, h4, fun k hk => ?_, fun p hp => ?_⟩
    · have := (List.all_eq_true.1 h5) k (List.mem_range.2 hk)
      exact of_decide_eq_true this
    · have := (List.all_eq_true.1 h6) p hp
      simp only [Bool.and_eq_true, Bool.or_eq_true, Bool.not_eq_true', beq_iff_eq, beq_eq_false_iff_ne, Bool.or_eq_false_iff] at this
      obtain ⟨a1, a2⟩ := this
      refine ⟨fun e => ?_, fun e => ?_⟩
      · rcases a1 with a1 | a1
        · exact absurd e a1
        · exact a1
      · rcases a2 with a2 | a2
        · rcases e with e | e
          · exact absurd e a2.1
          · exact absurd e a2.2
        · exact a2
  have hz : ∀ k, (L.getD k Rw.z) ∈ L ∨ L.getD k Rw.z = Rw.z := fun k => by
    by_cases h : k < L.length
    · left; rw [List.getD_eq_getElem?_getD, List.getElem?_eq_getElem h]; exact List.getElem_mem h
    · right; rw [List.getD_eq_getElem?_getD, List.getElem?_eq_none (by omega)]; rfl
  have hr : rowR L i ∈ L ∨ rowR L i = Rw.z := by
    unfold rowR
    cases hf : L.find? (rowP i) with
    | none => exact .inr rfl
    | some r => exact .inl (List.mem_of_find?_eq_some hf)
  have hz0 : Rw.z.nm = [] ∧ Rw.z.ps = [] ∧ Rw.z.wd = [] := ⟨rfl, rfl, rfl⟩
  have hnl : (nameR g (rowR L i).nm i.sz).length ≤ 1000 := by
    unfold nameR
    split
    · next hk =>
      rcases hr with hr | hr
      · exact (htab _ hr).2.2.2.2.1 _ hk
      · rw [hr, hz0.1]
        have : szK i.sz = 0 ∨ szK i.sz = 1 ∨ szK i.sz = 2 ∨ szK i.sz = 3 := by omega
        have e : ∀ y : List UInt8, (Lib.replace [] [42] y 1) = [] := fun y => by
          unfold Lib.replace
          split
          · rfl
          · have hc : Lib.index [] [42] = -1 := by decide
            cases Lib.replaceNum [] [42] 1 with
            | zero => rfl
            | succ k => unfold Lib.replaceK; rw [hc]; rfl
        rw [e]; exact Nat.zero_le _
    · rcases hr with hr | hr
      · exact (htab _ hr).1
      · rw [hr, hz0.1]; exact Nat.zero_le _
  refine ⟨hg.lg, hg.lt, fun k => ?_, by omega, hi.im, ?_, fun hw hq k hk => ?_, by omega, ?_⟩
  · rcases hz k with h | h
    · have := (htab _ h).2.2.1; omega
    · rw [h, hz0.2.1]; exact Nat.zero_le _
  · rcases hr with hr | hr
    · exact ⟨(htab _ hr).1, (htab _ hr).2.1⟩
    · rw [hr, hz0.1]; exact ⟨Nat.zero_le _, by decide⟩
  · have hmem := row_mem hq
    have hop := row_op hq
    have hp : (rowR L i).ps.getD k 0 ∈ (rowR L i).ps := by rw [List.getD_eq_getElem?_getD, List.getElem?_eq_getElem hk]; exact List.getElem_mem hk
    obtain ⟨h6, h89⟩ := (htab _ hmem).2.2.2.2.2 _ hp
    refine ⟨fun e => ⟨snd_loc hw (by rw [hop]; exact h6 e), hi.of_⟩, fun e => (snd_fen hw (by rw [hop]; exact h89 (.inl e))).1, fun e => (snd_fen hw (by rw [hop]; exact h89 (.inr e))).2⟩
  · have hps : (rowR L i).ps.length ≤ 4 ∧ (rowR L i).wd.length ≤ 1000 := by
      rcases hr with hr | hr
      · exact ⟨(htab _ hr).2.2.1, (htab _ hr).2.2.2.1⟩
      · rw [hr]; exact ⟨Nat.zero_le _, Nat.zero_le _⟩
    have h1 := join_le (B := 2000 + lb.length) (opsT g (rowR L i) i lb) (fun x hx => by
      unfold opsT at hx
      obtain ⟨p, _, rfl⟩ := List.mem_map.1 hx
      exact opd_le hg hi hps.2 p)
    have h2 : (opsT g (rowR L i) i lb).length ≤ 4 := by unfold opsT; rw [List.length_map]; exact hps.1
    have h3 : (opsT g (rowR L i) i lb).length * (2000 + lb.length + 1) ≤ 4 * (2000 + lb.length + 1) := Nat.mul_le_mul_right _ h2
    omega
end
end Go.Proofs.YtedlaclfhgneeabGreatDoor
namespace Go.Proofs.YtedlaclfhgneeabGreatDoor
open Go.RowKit
set_option linter.unusedVariables false
set_option linter.unusedSimpArgs false
set_option maxRecDepth 100000
set_option maxHeartbeats 2000000
set_option simprocs false
theorem idxL_at (q : List UInt8) : ∀ (ls : List (List UInt8)) (n : Nat), Old.idxL ls q n = if idxS ls q < 0 then -1 else idxS ls q + n := by
  intro ls
  induction ls with
  | nil => intro n; rfl
  | cons y l ih =>
    intro n
    unfold Old.idxL
    have hr : List.range (y :: l).length = 0 :: (List.range l.length).map Nat.succ := by rw [List.length_cons, List.range_succ_eq_map]
    cases hy : eqL y q
    · rw [if_neg (by decide), ih (n + 1)]
      have hne : (q == y) = false := by
        cases hh : (q == y) with
        | false => rfl
        | true => rw [eq_of_beq hh, eqL_same] at hy; cases hy
      have e : idxS (y :: l) q = if idxS l q < 0 then -1 else idxS l q + 1 := by
        unfold idxS
        rw [hr, List.find?_cons]
        simp only [List.getD_cons_zero, hne]
        rw [List.find?_map]
        have : ((fun j => q == (y :: l).getD j []) ∘ Nat.succ) = fun j => q == l.getD j [] := by funext j; simp
        rw [this]
        cases (List.range l.length).find? (fun j => q == l.getD j []) with
        | none => rfl
        | some j => simp; omega
      rw [e]
      have := (idxS_ge (ls := l) (q := q)).1
      split <;> split <;> omega
    · rw [if_pos rfl]
      have hq : (q == y) = true := by rw [eqL_eq hy]; exact beq_self_eq_true q
      have e : idxS (y :: l) q = 0 := by
        unfold idxS
        rw [hr, List.find?_cons]
        simp only [List.getD_cons_zero, hq]
        rfl
      rw [e]; simp
theorem idxS_L (ls : List (List UInt8)) (q : List UInt8) : idxS ls q = Old.idxL ls q 0 := by
  rw [idxL_at]
  have := (idxS_ge (ls := ls) (q := q)).1
  split <;> omega
theorem sixA_ (s0 : List UInt8) (s1 : List UInt8) (s2 : List UInt8) (s3 : List UInt8) (s4 : List UInt8) (s5 : List UInt8) (s6 : List UInt8) (s7 : List UInt8) (q : List UInt8)  : Fn Tryz.prog 103 [.sp (.ptr 0 0) 8 8, .str q] [some (.blk [.str s0, .str s1, .str s2, .str s3, .str s4, .str s5, .str s6, .str s7])] (Rt (.int .i64 (idxS [s0, s1, s2, s3, s4, s5, s6, s7] q)) [some (.blk [.str s0, .str s1, .str s2, .str s3, .str s4, .str s5, .str s6, .str s7])]) :=
 enterM (n := 19) (by kernel_rfl) Tryz.func103 rfl rfl rfl fun G w a h0 A => N hX 14 A rfl rfl fun A => LOOP1 (fun (k : Nat) => [(0, .sp (.ptr 0 0) 8 8), (1, .str q), (4, .int .i64 0), (7, .int .i64 ((8 : Nat) : Int)), (8, .int .i64 (k : Int))]) (fun (k : Nat) => [some (.blk [.str s0, .str s1, .str s2, .str s3, .str s4, .str s5, .str s6, .str s7])]) (fun (k : Nat) => IxI [s0, s1, s2, s3, s4, s5, s6, s7] q k) (fun (k : Nat) => 8 - k) 0 IxI.i0 ((A.cut [0, 1, 4, 7, 8] rfl).trunc 1 rfl rfl rfl (by simp only [List.length_cons, List.length_nil] at h0; omega)) fun k hI {G a w} A => N hX 6 A rfl rfl fun A => forkD 9 A rfl
   (fun h1 A => N hX 21 A rfl (ok_d (by have := hI.le; simp only [List.length_cons, List.length_nil] at this; omega) <| ok_d (by have := hI.le; simp only [List.length_cons, List.length_nil] at this; omega) <| okE_nil) fun A => forkE 16 A rfl
    (fun h2 A => N hX 8 A rfl rfl fun A => RETN hX A rfl rfl rfl h0 rfl rfl rfl rfl (by rw [hI.hit (by show k < 8; omega) (by rw [show k = ((k : Int)).toNat from rfl]; simpa using h2)]; rfl) rfl)
    (fun h2 A => N hX 8 A rfl (ok_d (by have := hI.le; simp only [List.length_cons, List.length_nil] at this; omega) <| okE_nil) fun A => ⟨k + 1, _, (by omega), (hI.nx (by show k < 8; omega) (by rw [show k = ((k : Int)).toNat from rfl]; simpa using h2)), ((A.cut [0, 1, 4, 7, 8] rfl).trunc 1 rfl rfl rfl (by simp only [List.length_cons, List.length_nil] at h0; omega))⟩))
   (fun h1 A => N hX 9 A rfl rfl fun A => RETN hX A rfl rfl rfl h0 rfl rfl rfl rfl (by rw [hI.fi (by show 8 ≤ k; omega)]; rfl) rfl)
theorem lreg_ (s0 : List UInt8) (s1 : List UInt8) (s2 : List UInt8) (s3 : List UInt8) (s4 : List UInt8) (s5 : List UInt8) (s6 : List UInt8) (s7 : List UInt8) (q : List UInt8)  : Fn Tryz.prog 43 [.agg [.str s0, .str s1, .str s2, .str s3, .str s4, .str s5, .str s6, .str s7], .str q] [] (Rt (.int .i64 (idxS [s0, s1, s2, s3, s4, s5, s6, s7] q)) []) :=
 enterM (n := 8) (by kernel_rfl) Tryz.func43 rfl rfl rfl fun G w a h0 A => N hX 10 A rfl rfl fun A => CALL1 [0] (sixA_ s0 s1 s2 s3 s4 s5 s6 s7 q) A rfl rfl rfl rfl rfl rfl rfl fun A => N hX 4 A rfl rfl fun A => RETN hX A rfl rfl rfl h0 rfl rfl rfl rfl rfl rfl
section
variable {ws : List Tk} {k : Nat} {m : List UInt8}
end
def regG (rf : List UInt8 → Int) (L : List Tk) (s : Old.Rs) : Old.Rs × Int := if s.e == 0 then (match L[s.p]? with
    | some y => if (y.kind == 1) && !decide (rf y.text < 0) then (⟨s.e, s.a, s.p + 1⟩, rf y.text) else (Old.oddR L true s, -1)
    | none => (Old.oddR L true s, -1)) else (s, -1)
def isR (L : List Tk) (s : Old.Rs) (m : List UInt8) : Bool := (s.e == 0) && Old.reads L m s.p
section
variable {ws : List Tk} {k : Nat} {m : List UInt8} {s : Old.Rs} {x y : Int} {u : Bool} {rf : List UInt8 → Int}
theorem tk_get (h : k < ws.length) : ws[k]? = some (ws.getD k tok0) := by rw [List.getD_eq_getElem?_getD, List.getElem?_eq_getElem h]; rfl
theorem tk_non (h : ¬ k < ws.length) : ws[k]? = none := List.getElem?_eq_none (by omega)
theorem reads_tk : Old.reads ws m k = tkB ws k m := by
  unfold Old.reads tkB
  by_cases h : k < ws.length
  · rw [tk_get h, decide_eq_true h]; rfl
  · rw [tk_non h, decide_eq_false h]; rfl
theorem where_at (hw : WsOK ws) : Old.whereR ws k = atW ws k := by
  unfold Old.whereR atW
  by_cases h : k < ws.length
  · rw [tk_get h, if_pos h]
  · rw [tk_non h, if_neg h]
    by_cases h0 : ws.length = 0
    · rw [if_pos h0, tk_non (by omega)]
    · rw [if_neg h0, tk_get (by omega)]
      have := hw _ (tk_mem (ws := ws) (k := ws.length - 1) (by omega))
      exact wrap_in ⟨by omega, by omega⟩
theorem nxK_y (h : k < ws.length) : nxK ws k = k + 1 := by unfold nxK; rw [if_pos h]
theorem fail_y (h : s.e = 0) : Old.failR s x y = ⟨x, y, s.p⟩ := by unfold Old.failR; rw [if_pos (beq_iff_eq.2 h)]
theorem fail_n (h : s.e ≠ 0) : Old.failR s x y = s := by unfold Old.failR; rw [if_neg (fun e => h (eq_of_beq e))]
theorem odd_e (hw : WsOK ws) (h : ¬ s.p < ws.length) : Old.oddR ws u s = Old.failR s 24 (atW ws s.p) := by unfold Old.oddR; rw [tk_non h]; simp only [where_at hw]
theorem odd_ne (h : s.e = 0) : (Old.oddR ws u s).e ≠ 0 := by
  unfold Old.oddR; split
  · rw [fail_y h]; exact (by decide : (24 : Int) ≠ 0)
  · split
    · rw [fail_y h]; exact (by decide : (21 : Int) ≠ 0)
    · rw [fail_y h]; exact (by decide : (22 : Int) ≠ 0)
theorem tkK_n (h : tkB ws k m = false) : tkK ws k m = k := by unfold tkK; rw [h]; rfl
theorem tkK_y (h : tkB ws k m = true) : tkK ws k m = k + 1 := by unfold tkK; rw [h]; rfl
end
abbrev oiQ9 (i : Old.Ins) : List SV := [.int .i64 i.op, .int .i64 i.dst, .int .i64 i.a, .int .i64 i.b, .int .i64 i.imm, .int .i64 i.loc, .int .i64 i.off, .int .i64 i.index, .int .i64 i.size, .int .i64 i.fn, .bool i.acq, .bool i.weak, .bool i.rel, .int .i64 i.pred, .int .i64 i.succ, .int .i64 i.to, .bool i.zero]
def idxG (rf : List UInt8 → Int) (L : List Tk) (s : Old.Rs) (i : Old.Ins) : Old.Rs × Old.Ins := ((regG rf L s).1, { i with index := (regG rf L s).2 })
def offG (rf : List UInt8 → Int) (L : List Tk) (s : Old.Rs) (i : Old.Ins) : Old.Rs × Old.Ins := if Old.plusR L s then idxG rf L ⟨s.e, s.a, s.p + 1⟩ i else (s, i)
def memEG (rf : List UInt8 → Int) (L : List Tk) (s : Old.Rs) (i : Old.Ins) : Old.Rs × Old.Ins := if Old.plusR L s then (match L[s.p + 1]? with
    | some y => if y.kind == 2 then offG rf L ⟨s.e, s.a, s.p + 1 + 1⟩ { i with off := y.n } else idxG rf L ⟨s.e, s.a, s.p + 1⟩ i
    | none => idxG rf L ⟨s.e, s.a, s.p + 1⟩ i) else (s, i)
def memIG (rf : List UInt8 → Int) (L : List Tk) (s : Old.Rs) (i : Old.Ins) : Old.Rs × Old.Ins := if s.e == 0 then (match L[s.p]? with
    | some y => if (y.kind == 1) && !decide (Old.locF y.text < 0) then Old.closeR L (memEG rf L ⟨s.e, s.a, s.p + 1⟩ { i with loc := Old.locF y.text }) else (Old.oddR L true s, i)
    | none => (Old.oddR L true s, i)) else (s, i)
def memG (rf : List UInt8 → Int) (L : List Tk) (s : Old.Rs) (i : Old.Ins) : Old.Rs × Old.Ins := memIG rf L (Old.markR L [91] s) i
def branG (rf : List UInt8 → Int) (L : List Tk) (s : Old.Rs) (i : Old.Ins) (z : Bool) : List UInt8 × Old.Rs × Old.Ins := ((Old.labR L (Old.markR L [44] (regG rf L s).1)).2, (Old.labR L (Old.markR L [44] (regG rf L s).1)).1, (Old.Ins.mk 9 i.dst ((regG rf L s).2) i.b i.imm i.loc i.off i.index i.size i.fn i.acq i.weak i.rel i.pred i.succ i.to z))
section
variable {ws : List Tk} {k : Nat} {m : List UInt8} {s : Old.Rs} {i : Old.Ins} {rf : List UInt8 → Int}
end
theorem szI_k (k : Nat) (h : k < 4) : (IntKind.wrap .i64 (1 * 2 ^ min ((k : Int)).toNat (IntKind.bits .i64))) = Old.szI (k : Int) := by
  have : k = 0 ∨ k = 1 ∨ k = 2 ∨ k = 3 := by omega
  rcases this with e | e | e | e <;> subst e <;> decide +kernel
section
variable {ws : List Tk} {s : Old.Rs} {i : Old.Ins} {z : Bool}
theorem or_n {p r : Prop} [Decidable p] [Decidable r] (h : (decide p || decide r) = false) : ¬ p ∧ ¬ r := by
  rw [Bool.or_eq_false_iff] at h; exact ⟨of_decide_eq_false h.1, of_decide_eq_false h.2⟩
end
def frO (i : Old.Ins) : In := ⟨i.op, i.dst, i.a, i.b, i.imm, i.loc, i.off, i.index, i.size, i.fn, i.acq, i.weak, i.rel, i.pred, i.succ, i.to, i.zero⟩
section
variable {ws : List Tk} {s : Old.Rs} {i : Old.Ins}
theorem last_n (h : s.e ≠ 0) : Old.lastR ws s i = s := by unfold Old.lastR; rw [beq_eq_false_iff_ne.2 h]; rfl
theorem out_y {l : List UInt8} (h : s.e = 0) : Old.outR s i l = (i, l, 0, 0) := by unfold Old.outR; rw [beq_iff_eq.2 h]; rfl
theorem out_n {l : List UInt8} (h : s.e ≠ 0) : Old.outR s i l = (Old.ins0, [], s.e, s.a) := by unfold Old.outR; rw [beq_eq_false_iff_ne.2 h]; rfl
theorem fin_y {r : (Bool × List UInt8) × Old.Rs × Old.Ins} (h : r.1.1 = true) : Old.finR ws r = Old.outR (Old.lastR ws (Old.moreR ws r.2.1) r.2.2) r.2.2 r.1.2 := by unfold Old.finR; rw [h]; rfl
end
end Go.Proofs.YtedlaclfhgneeabGreatDoor
namespace Go.Proofs.YtedlaclfhgneeabGreatDoor
open Go.RowKit
set_option linter.unusedVariables false
set_option linter.unusedSimpArgs false
set_option maxRecDepth 100000
set_option maxHeartbeats 2000000
def toP (z : Ps) : Old.Ps := ⟨toO z.ins, z.lab, z.e, z.a, z.p⟩
def gO (g : Lg) (R : List Rw) : Old.Lg := ⟨g.r0, g.r1, g.r2, g.r3, g.r4, g.r5, g.r6, g.r7, g.l0, g.l1, g.l2, g.l3, g.im, g.f0, g.f1, g.f2, Old.nilV, R.map toR⟩
section
variable {ws : List Tk} {z : Ps} {g : Lg} {R L : List Rw} {m : List UInt8} {x : Int} {k : Nat}
theorem ref_o (hw : WsOK ws) : toP (z.wa (refA ws z.as x)) = Old.refP ws x (toP z) := by
  unfold refA refAt Old.refP
  have e1 : z.as.e = z.e := rfl
  have e2 : (toP z).e = z.e := rfl
  have e3 : (toP z).p = z.p := rfl
  have e4 : z.as.p = z.p := rfl
  rw [e1, e2, e3, e4, where_at hw]
  by_cases h : z.e = 0
  · rw [if_pos h, if_pos (beq_iff_eq.2 h)]
    by_cases hp : z.p < ws.length
    · rw [if_pos hp, decide_eq_true hp]; rfl
    · rw [if_neg hp, decide_eq_false hp]; rfl
  · rw [if_neg h, if_neg (fun e => h (eq_of_beq e))]; rfl
theorem go_p : goA z.as z.p = z.as := rfl
theorem mk_o (hw : WsOK ws) : toP (z.wa (mkA ws z.as m)) = Old.markP ws m (toP z) := by
  unfold mkA Old.markP
  have e4 : z.as.p = z.p := rfl
  have e3 : (toP z).p = z.p := rfl
  rw [e3, e4, reads_tk]
  cases hb : tkB ws z.p m with
  | true => rw [if_pos rfl, if_pos rfl, tkK_y hb]; rfl
  | false => rw [if_neg (by decide), if_neg (by decide), tkK_n hb, go_p]; exact ref_o hw
theorem kn_o (hw : WsOK ws) (ls : List (List UInt8)) : toP (z.wa (knA ws z.as ls)) = (Old.knownP ws ls (toP z)).1 ∧ knI ws z.as ls = (Old.knownP ws ls (toP z)).2 := by
  unfold knA knI Old.knownP
  have e4 : z.as.p = z.p := rfl
  have e3 : (toP z).p = z.p := rfl
  rw [e3, e4]
  by_cases hl : z.p < ws.length
  · rw [tk_get hl, idxS_L]
    simp only
    by_cases hk : (ws.getD z.p tok0).kind = 1
    · rw [if_pos hk, if_pos hk, if_pos (beq_iff_eq.2 hk)]
      by_cases hi : Old.idxL ls (ws.getD z.p tok0).text 0 < 0
      · rw [if_pos hi, if_pos hi, if_pos (decide_eq_true hi)]; exact ⟨ref_o hw, rfl⟩
      · rw [if_neg hi, if_neg hi, if_neg (by rw [decide_eq_false hi]; decide), nxK_y hl]; exact ⟨rfl, rfl⟩
    · rw [if_neg hk, if_neg hk, if_neg (fun e => hk (eq_of_beq e))]; exact ⟨ref_o hw, rfl⟩
  · rw [tk_non hl, tk_out (by omega)]
    exact ⟨ref_o hw, rfl⟩
theorem nb_o : Old.numP1 ws k = if nbB ws k = true then some (nbV ws k, nbK ws k) else none := by
  unfold Old.numP1 nbB nbV nbK
  by_cases hl : k < ws.length
  · have hm : mnB ws k = (((ws.getD k tok0).kind == 3) && ((ws.getD k tok0).text == [45])) := by unfold mnB; rw [decide_eq_true hl, Bool.true_and]
    have hn : nuB ws k = ((ws.getD k tok0).kind == 2) := by unfold nuB; rw [decide_eq_true hl, Bool.true_and]
    rw [tk_get hl]
    simp only
    by_cases h2 : ((ws.getD k tok0).kind == 2) = true
    · have h3 : mnB ws k = false := by rw [hm, eq_of_beq h2]; rfl
      rw [if_pos h2, h3, hn, h2]; rfl
    · rw [if_neg h2]
      have h2' : ((ws.getD k tok0).kind == 2) = false := by simpa using h2
      cases h3 : mnB ws k with
      | false =>
        rw [if_neg (by rw [show ((((ws.getD k tok0).kind == 3) && eqL (ws.getD k tok0).text [45])) = false from hm.symm.trans h3]; decide), hn, h2']; rfl
      | true =>
        rw [if_pos (show ((((ws.getD k tok0).kind == 3) && eqL (ws.getD k tok0).text [45])) = true from hm.symm.trans h3)]
        by_cases hl2 : k + 1 < ws.length
        · rw [tk_get hl2]
          simp only
          have hn2 : nuB ws (k + 1) = ((ws.getD (k + 1) tok0).kind == 2) := by unfold nuB; rw [decide_eq_true hl2, Bool.true_and]
          cases h4 : ((ws.getD (k + 1) tok0).kind == 2) with
          | true => rw [hn2, h4]; simp only [if_true]; rw [Int.zero_sub]
          | false => rw [hn2, h4]; rfl
        · rw [tk_non hl2]
          have hn2 : nuB ws (k + 1) = false := by unfold nuB; rw [decide_eq_false hl2]; rfl
          rw [hn2]; rfl
  · have hm : mnB ws k = false := by unfold mnB; rw [decide_eq_false hl]; rfl
    have hn : nuB ws k = false := by unfold nuB; rw [decide_eq_false hl]; rfl
    rw [tk_non hl, hm, hn]; rfl
theorem nbV_no (h : nbB ws k = false) : nbV ws k = 0 ∧ nbK ws k = k := by
  unfold nbB at h; unfold nbV nbK
  cases h3 : mnB ws k with
  | true =>
    simp only [h3, if_true] at h
    simp only [h, if_true, if_false, Bool.false_eq_true]
    exact ⟨by decide, trivial⟩
  | false =>
    simp only [h3, if_false, Bool.false_eq_true] at h
    simp [h]
theorem nbq_o : Old.nbO ws k = nbB ws k ∧ Old.nbV ws k = nbV ws k ∧ Old.nbQ ws k = nbK ws k := by
  unfold Old.nbO Old.nbV Old.nbQ
  rw [nb_o]
  cases h : nbB ws k with
  | true => exact ⟨rfl, rfl, rfl⟩
  | false => have := nbV_no h; exact ⟨rfl, this.1.symm, this.2.symm⟩
theorem num_o (hw : WsOK ws) : toP (z.wa (numA ws z.as)) = (Old.numP ws (toP z)).1 ∧ nbV ws z.p = (Old.numP ws (toP z)).2 := by
  unfold numA Old.numP
  have e4 : z.as.p = z.p := rfl
  have e3 : (toP z).p = z.p := rfl
  obtain ⟨n1, n2, n3⟩ := nbq_o (ws := ws) (k := z.p)
  rw [e3, e4, n1, n2, n3, reads_tk]
  cases h : nbB ws z.p with
  | true => rw [if_pos rfl, if_pos rfl]; exact ⟨rfl, rfl⟩
  | false =>
    have hv := nbV_no h
    rw [if_neg (by decide), if_neg (by decide), hv.1, hv.2]
    cases hb : tkB ws z.p [45] with
    | true =>
      rw [if_pos rfl, tkK_y hb]
      exact ⟨ref_o (z := ⟨z.ins, z.lab, z.e, z.a, z.p + 1⟩) hw, rfl⟩
    | false =>
      rw [if_neg (by decide), tkK_n hb, go_p]
      exact ⟨ref_o hw, rfl⟩
theorem imm_o2 (hw : WsOK ws) : toP (z.wa (immA g ws z.as)) = (Old.immP (gO g R) ws (toP z)).1 ∧ immV g ws z.as = (Old.immP (gO g R) ws (toP z)).2 := by
  unfold immA immV Old.immP
  have e1 : (gO g R).mrk = g.im := rfl
  rw [e1]
  by_cases h : g.im = []
  · rw [if_pos h, if_pos h, if_pos (Old.eqL_yes h)]; exact num_o hw
  · rw [if_neg h, if_neg h, if_neg (by rw [Old.eqL_no h]; decide), ← mk_o hw]
    exact num_o (z := z.wa (mkA ws z.as g.im)) hw
theorem ix_o (hw : WsOK ws) : toP (regI g ws z) = Old.idxP (gO g R) ws (toP z) := by
  obtain ⟨h1, h2⟩ := kn_o (z := z) hw (gO g R).regs
  unfold Old.idxP
  rw [← h1, ← h2]; rfl
theorem isn_o : Old.isNumP ws k = ((ws.getD k tok0).kind == 2) := by
  unfold Old.isNumP
  by_cases hl : k < ws.length
  · rw [tk_get hl]
  · rw [tk_non hl, tk_out (by omega)]; rfl
theorem m3_n (h : psB ws z = false) : m3 ws z = z := by unfold m3; unfold psB at h; rw [tkK_n h]
theorem off_o (hw : WsOK ws) : toP (if psB ws z = true then regI g ws (m3 ws z) else m3 ws z) = Old.offP (gO g R) ws (toP z) := by
  unfold Old.offP
  have e3 : (toP z).p = z.p := rfl
  rw [e3, reads_tk]
  cases h : psB ws z with
  | true =>
    have h' : tkB ws z.p [43] = true := h
    rw [if_pos rfl, if_pos h', ix_o (R := R) hw]
    unfold m3; rw [tkK_y h']; rfl
  | false =>
    have h' : tkB ws z.p [43] = false := h
    rw [if_neg (by decide), if_neg (by rw [h']; decide), m3_n h]
theorem numoff_o (hw : WsOK ws) : toP (if nuQ ws z = true then (if psB ws (offI ws z) = true then regI g ws (m3 ws (offI ws z)) else m3 ws (offI ws z)) else regI g ws z) = Old.numOff (gO g R) ws (toP z) := by
  unfold Old.numOff
  have e3 : (toP z).p = z.p := rfl
  rw [e3, isn_o]
  unfold nuQ
  cases h : ((ws.getD z.p tok0).kind == 2) with
  | true =>
    rw [if_pos rfl, if_pos rfl, off_o (R := R) hw]
    obtain ⟨n1, n2, n3⟩ := nbq_o (ws := ws) (k := z.p)
    rw [n2, n3]; rfl
  | false => rw [if_neg (by decide), if_neg (by decide)]; exact ix_o hw
theorem plus_o (hw : WsOK ws) : toP (if psB ws z = true then (if nuQ ws (m3 ws z) = true then (if psB ws (offI ws (m3 ws z)) = true then regI g ws (m3 ws (offI ws (m3 ws z))) else m3 ws (offI ws (m3 ws z))) else regI g ws (m3 ws z)) else m3 ws z) = Old.plusP (gO g R) ws (toP z) := by
  unfold Old.plusP
  have e3 : (toP z).p = z.p := rfl
  rw [e3, reads_tk]
  cases h : psB ws z with
  | true =>
    have h' : tkB ws z.p [43] = true := h
    rw [if_pos rfl, if_pos h', numoff_o (R := R) hw]
    have : toP (m3 ws z) = Old.atP (toP z) (z.p + 1) := by unfold m3; rw [tkK_y h']; rfl
    rw [this]
  | false =>
    have h' : tkB ws z.p [43] = false := h
    rw [if_neg (by decide), if_neg (by rw [h']; decide), m3_n h]
theorem mem0_o (hw : WsOK ws) : toP (m2 ws (m1 ws z)) = Old.mem0P ws (toP z) := by
  have h0 : toP (m1 ws z) = Old.markP ws [91] (toP z) := mk_o hw
  obtain ⟨h1, h2⟩ := kn_o (z := m1 ws z) hw Old.locsX
  unfold Old.mem0P
  rw [← h0, ← h1, ← h2]; rfl
theorem memo_o (hw : WsOK ws) : toP (memS g ws z) = Old.memP (gO g R) ws (toP z) := by
  unfold Old.memP
  rw [← mem0_o hw, ← plus_o hw]
  exact mk_o hw
theorem lab_o : toP ⟨z.ins, nmT ws z.p, z.e, z.a, nmK ws z.p⟩ = Old.labP ws (toP z) := by
  unfold Old.labP nmT nmK nmB
  have e3 : (toP z).p = z.p := rfl
  rw [e3]
  by_cases hl : z.p < ws.length
  · rw [tk_get hl, decide_eq_true hl, Bool.true_and]
    simp only
    cases h : ((ws.getD z.p tok0).kind == 1) <;> rfl
  · rw [tk_non hl, decide_eq_false hl]; rfl
theorem pt_o (hw : WsOK ws) (p : Int) (h10 : p ≠ 10) : toP (ptS g ws p z) = Old.partP (gO g R) ws p (toP z) := by
  have kr := kn_o (z := z) hw (gO g R).regs
  have kf := kn_o (z := z) hw (gO g R).fens
  have ki := imm_o2 (g := g) (R := R) (z := z) hw
  unfold ptS Old.partP Old.fenP
  simp only [beq_iff_eq]
  rw [← kr.1, ← kr.2, ← kf.1, ← kf.2, ← ki.1, ← ki.2]
  by_cases h1 : p = 1
  · rw [if_pos h1, if_pos h1]; rfl
  rw [if_neg h1, if_neg h1]
  by_cases h4 : p = 4
  · rw [if_pos h4, if_pos h4]; rfl
  rw [if_neg h4, if_neg h4]
  by_cases h2 : p = 2
  · rw [if_pos h2, if_pos h2]; rfl
  rw [if_neg h2, if_neg h2]
  by_cases h3 : p = 3
  · rw [if_pos h3, if_pos h3]; rfl
  rw [if_neg h3, if_neg h3]
  by_cases h5 : p = 5
  · rw [if_pos h5, if_pos h5]; rfl
  rw [if_neg h5, if_neg h5]
  by_cases h6 : p = 6
  · rw [if_pos h6, if_pos h6]; exact memo_o hw
  rw [if_neg h6, if_neg h6]
  by_cases h7 : p = 7
  · rw [if_pos h7, if_pos h7]; exact lab_o
  rw [if_neg h7, if_neg h7]
  by_cases h8 : p = 8
  · rw [if_pos h8, if_pos h8]; rfl
  rw [if_neg h8, if_neg h8]
  by_cases h9 : p = 9
  · rw [if_pos h9, if_pos h9]; rfl
  rw [if_neg h9, if_neg h9, if_neg h10]
theorem idxS_lt {ls : List (List UInt8)} {q : List UInt8} (h : ¬ idxS ls q < 0) : (idxS ls q).toNat < ls.length := by
  unfold idxS at h ⊢
  cases hf : (List.range ls.length).find? (fun j => q == ls.getD j []) with
  | none => rw [hf] at h; exact absurd (by decide) h
  | some j => exact List.mem_range.1 (List.mem_of_find?_eq_some hf)
theorem size_o (r : Rw) (q : List UInt8) : szP g r.nm q = Old.sizeP (gO g R) (toR r) q := by
  unfold szP Old.sizeP
  have e1 : (toR r).name = r.nm := rfl
  have e2 : Old.sizedN (gO g R) (toR r) = nms g r.nm := rfl
  rw [e1, e2, ← idxS_L]
  cases (Lib.cut r.nm [42]).2.2 with
  | false => rfl
  | true =>
    rw [if_pos rfl, if_pos rfl]
    by_cases h : idxS (nms g r.nm) q < 0
    · rw [if_pos h, if_pos (decide_eq_true h)]
    · rw [if_neg h, if_neg (by rw [decide_eq_false h]; decide)]
      have hl := idxS_lt h
      have e : idxS (nms g r.nm) q = (((idxS (nms g r.nm) q).toNat : Nat) : Int) := by omega
      rw [e, szI_k _ (show _ < 4 from hl)]
theorem fold_n (q : List UInt8) (S : Old.Ps) : ∀ (l : List Rw) (c : Int) (acc : List Rw), (l.map toR).foldl (Old.nStep (gO g R) q) (Old.setSize S c, acc.map toR) = (Old.setSize S (l.foldl (nSt g q) (c, acc)).1, (l.foldl (nSt g q) (c, acc)).2.map toR)
  | [], c, acc => rfl
  | r :: l, c, acc => by
    rw [List.map_cons, List.foldl_cons, List.foldl_cons]
    have : Old.nStep (gO g R) q (Old.setSize S c, acc.map toR) (toR r) = (Old.setSize S (nSt g q (c, acc) r).1, (nSt g q (c, acc) r).2.map toR) := by
      unfold Old.nStep nSt
      rw [← size_o]
      cases (szP g r.nm q).2 with
      | false => rfl
      | true => rw [if_pos rfl, if_pos rfl, List.map_append]; rfl
    rw [this]
    exact fold_n q S l _ _
theorem named_o (hw : WsOK ws) : toP (naS g ws R z) = (Old.namedP (gO g R) ws (toP z)).1 ∧ (naR g ws R z).map toR = (Old.namedP (gO g R) ws (toP z)).2 := by
  unfold naS naR Old.namedP
  have e3 : (toP z).p = z.p := rfl
  rw [e3]
  by_cases hl : z.p < ws.length
  · rw [tk_get hl]
    simp only
    by_cases hk : (ws.getD z.p tok0).kind = 1
    · rw [if_pos hk, if_pos hk, if_pos (beq_iff_eq.2 hk)]
      have hf := fold_n (g := g) (R := R) (ws.getD z.p tok0).text (toP z) R z.ins.sz []
      have e0 : ((Old.setSize (toP z) z.ins.sz, ([] : List Rw).map toR) : Old.Ps × List Old.Rw) = (toP z, []) := rfl
      rw [e0] at hf
      have e5 : (gO g R).rows = R.map toR := rfl
      rw [e5, hf]
      have e6 : R.foldl (nSt g (ws.getD z.p tok0).text) (z.ins.sz, []) = naZ g ws R z := by unfold naZ zK; rw [List.take_length]
      rw [e6]
      refine ⟨?_, rfl⟩
      unfold Old.noRow
      simp only [List.length_map]
      by_cases h0 : (naZ g ws R z).2.length = 0
      · rw [if_pos h0, if_pos (by rw [h0]; rfl)]
        have hr := ref_o (x := 21) (z := (⟨{ z.ins with sz := (naZ g ws R z).1 }, z.lab, z.e, z.a, z.p⟩ : Ps)) hw
        have e7 : Old.setSize (toP z) (naZ g ws R z).1 = toP ⟨{ z.ins with sz := (naZ g ws R z).1 }, z.lab, z.e, z.a, z.p⟩ := rfl
        rw [e7, ← hr]
        have hp : (refA ws z.as 21).p = z.p := refA_p
        rw [hp, nxK_y hl]
        have hp2 : (refA ws (⟨{ z.ins with sz := (naZ g ws R z).1 }, z.lab, z.e, z.a, z.p⟩ : Ps).as 21) = refA ws z.as 21 := rfl
        unfold Old.nextP Old.atP
        rw [hp2]
        unfold toP Ps.wa
        simp only [hp]
      · rw [if_neg h0, if_neg (by intro e; exact h0 (by have := eq_of_beq e; omega)), nxK_y hl]; rfl
    · rw [if_neg hk, if_neg hk, if_neg (fun e => hk (eq_of_beq e))]; exact ⟨ref_o hw, rfl⟩
  · rw [tk_non hl, tk_out (by omega)]; exact ⟨ref_o hw, rfl⟩
theorem word_o : Old.wordAt ws k = ws.getD k tok0 := by
  unfold Old.wordAt; rw [List.getD_eq_getElem?_getD]; rfl
theorem beg_o (r : Rw) (p : Int) (t : Tk) (h10 : p ≠ 10) : begQ g r p t = Old.beginsB (gO g R) p t := by
  unfold begQ Old.beginsB begI Old.beginsImmB Old.isMarkB
  have e1 : (gO g R).mrk = g.im := rfl
  rw [e1]
  simp only [beq_iff_eq]
  by_cases h5 : p = 5
  · rw [if_pos h5, if_pos h5]
    by_cases hi : g.im = []
    · rw [if_pos hi, if_pos (Old.eqL_yes hi)]; rfl
    · rw [if_neg hi, if_neg (by rw [Old.eqL_no hi]; decide)]; rfl
  · rw [if_neg h5, if_neg h5]
    by_cases h6 : p = 6
    · rw [if_pos h6, if_pos h6]; rfl
    · rw [if_neg h6, if_neg h6, if_neg h10]
theorem left_o (t : Tk) : ∀ (Q : List Rw), (∀ r ∈ Q, k < r.ps.length ∧ ∀ p ∈ r.ps, p ≠ 10) → (Q.map toR).filter (fun r => !Old.strikes (gO g R) k t r) = (lft g k t Q).map toR
  | [], _ => rfl
  | r :: Q, h => by
    obtain ⟨hk, h10⟩ := h r List.mem_cons_self
    have ih := left_o t Q (fun x hx => h x (List.mem_cons_of_mem _ hx))
    have e : Old.strikes (gO g R) k t (toR r) = stk g k t r := by
      unfold Old.strikes stk
      have e1 : (toR r).parts = r.ps := rfl
      have e2 : r.ps[k]? = some (r.ps.getD k 0) := by rw [List.getD_eq_getElem?_getD, List.getElem?_eq_getElem hk]; rfl
      rw [e1, e2]
      simp only
      rw [beg_o (R := R) r _ t (h10 _ (by rw [List.getD_eq_getElem?_getD, List.getElem?_eq_getElem hk]; exact List.getElem_mem hk))]
    unfold lft at ih ⊢
    rw [List.map_cons, List.filter_cons, List.filter_cons, e, ih]
    cases stk g k t r <;> rfl
theorem fst_no {f : Rw → Bool} {Q : List Rw} (h : ∀ r ∈ Q, f r = false) : fstX f Q = -1 := by
  unfold fstX
  have : (List.range Q.length).find? (fun j => f (Q.getD j Rw.z)) = none := by
    rw [List.find?_eq_none]
    intro j hj
    have hl := List.mem_range.1 hj
    rw [h _ (by rw [List.getD_eq_getElem?_getD, List.getElem?_eq_getElem hl]; exact List.getElem_mem hl)]
    decide
  rw [this]
theorem comma_o (hw : WsOK ws) : toP (n1 ws k z) = Old.commaP ws k (toP z) := by
  unfold n1 Old.commaP
  by_cases h : (k : Int) > 0
  · rw [if_pos h, if_pos (decide_eq_true h)]; exact mk_o hw
  · rw [if_neg h, if_neg (by rw [decide_eq_false h]; decide)]
theorem inst_o (hw : WsOK ws) {N0 : Nat} : ∀ (f F k : Nat) (Q : List Rw) (z : Ps), (∀ r ∈ Q, r.ps.length = N0 ∧ ∀ p ∈ r.ps, p ≠ 10) → N0 < f + k → f ≤ F → Old.instL (gO g R) ws F k (Q.map toR) (toP z) = (toP (inst g ws f k Q z).1, (inst g ws f k Q z).2.map toR)
  | f, F, k, [], z, h, hn, hF => by
    rw [List.map_nil, Old.inst_nil]
    have : inst g ws f k [] z = (z, []) := by cases f <;> rfl
    rw [this]; rfl
  | 0, F, k, r :: Q, z, h, hn, hF => by
    have hr := (h r List.mem_cons_self).1
    have e : inst g ws 0 k (r :: Q) z = (z, r :: Q) := rfl
    rw [e, List.map_cons]
    cases F with
    | zero => rfl
    | succ F =>
      unfold Old.instL
      simp only
      rw [if_neg]
      have : (toR r).parts.length = N0 := hr
      rw [this, decide_eq_false (by omega)]; decide
  | f + 1, F, k, r :: Q, z, h, hn, hF => by
    obtain ⟨F, rfl⟩ : ∃ F', F = F' + 1 := ⟨F - 1, by omega⟩
    have hr := (h r List.mem_cons_self).1
    have hp : (toR r).parts.length = N0 := hr
    rw [List.map_cons]
    unfold Old.instL inst
    simp only
    rw [hp]
    have hg : goB (r :: Q) k = decide ((k : Int) < (N0 : Int)) := by
      unfold goB
      have : (((r :: Q).getD (0 : Int).toNat Rw.z).ps.length) = N0 := hr
      rw [this, decide_eq_true (by simp only [List.length_cons]; omega), Bool.true_and]
    rw [hg]
    by_cases hk : (k : Int) < (N0 : Int)
    · rw [if_pos (decide_eq_true hk), if_pos (decide_eq_true hk)]
      have hall : ∀ x ∈ r :: Q, k < x.ps.length ∧ ∀ p ∈ x.ps, p ≠ 10 := fun x hx => ⟨by rw [(h x hx).1]; omega, (h x hx).2⟩
      have hL : Old.leftR (gO g R) ws k (toR r :: Q.map toR) (Old.commaP ws k (toP z)) = (nxR g ws k (r :: Q) z).map toR := by
        rw [← comma_o hw]
        unfold Old.leftR nxR
        rw [word_o]
        exact left_o _ (r :: Q) hall
      have hB : Old.begP (gO g R) ws k (toR r :: Q.map toR) (Old.commaP ws k (toP z)) = toP (beS g ws k (r :: Q) (n1 ws k z)) := by
        unfold Old.begP beS
        rw [hL, List.length_map, ← comma_o hw]
        have hm : mfV k (ws.getD (n1 ws k z).p tok0) (r :: Q) = 22 := by
          unfold mfV
          rw [fst_no (fun x hx => by
            unfold ask10
            obtain ⟨hx1, hx2⟩ := hall x hx
            exact beq_eq_false_iff_ne.2 (hx2 _ (by rw [List.getD_eq_getElem?_getD, List.getElem?_eq_getElem hx1]; exact List.getElem_mem hx1)))]
          rfl
        rw [hm]
        have hx : nxR g ws k (r :: Q) z = lft g k (ws.getD (n1 ws k z).p tok0) (r :: Q) := rfl
        rw [hx]
        by_cases h0 : (lft g k (ws.getD (n1 ws k z).p tok0) (r :: Q)).length = 0
        · rw [if_pos (by rw [h0]; rfl), if_pos h0, ref_o hw]
        · rw [if_neg (by intro e; exact h0 (by have := eq_of_beq e; omega)), if_neg h0]
      have hS : Old.part0 (gO g R) ws k ((nxR g ws k (r :: Q) z).map toR) (toP (beS g ws k (r :: Q) (n1 ws k z))) = toP (nxS g ws k (r :: Q) z) := by
        unfold nxS Old.part0
        cases hx : nxR g ws k (r :: Q) z with
        | nil => rfl
        | cons y l =>
          have hy : y ∈ r :: Q := by
            have : y ∈ nxR g ws k (r :: Q) z := by rw [hx]; exact List.mem_cons_self
            unfold nxR lft at this
            exact (List.mem_filter.1 this).1
          obtain ⟨hy1, hy2⟩ := hall y hy
          have e2 : (toR y).parts[k]? = some (y.ps.getD k 0) := by
            show y.ps[k]? = _
            rw [List.getD_eq_getElem?_getD, List.getElem?_eq_getElem hy1]; rfl
          rw [List.map_cons]
          simp only [e2]
          rw [if_pos (by simp only [List.length_cons]; omega)]
          exact (pt_o hw _ (hy2 _ (by rw [List.getD_eq_getElem?_getD, List.getElem?_eq_getElem hy1]; exact List.getElem_mem hy1))).symm
      rw [hL, hB, hS]
      exact inst_o hw f F (k + 1) _ _ (fun x hx => by
        unfold nxR lft at hx
        exact h x (List.mem_filter.1 hx).1) (by omega) (by omega)
    · rw [if_neg (by rw [decide_eq_false hk]; decide), if_neg (by rw [decide_eq_false hk]; decide)]; rfl
theorem more_o (hw : WsOK ws) : toP (z.wa (endA ws z.as)) = Old.moreP ws (toP z) := by
  unfold endA Old.moreP
  have e4 : z.as.p = z.p := rfl
  have e3 : (toP z).p = z.p := rfl
  rw [e3, e4]
  by_cases h : z.p < ws.length
  · rw [if_pos h, if_pos (decide_eq_true (by omega))]; exact ref_o hw
  · rw [if_neg h, if_neg (by rw [decide_eq_false (by omega)]; decide)]; rfl
end
end Go.Proofs.YtedlaclfhgneeabGreatDoor
namespace Go.Proofs.YtedlaclfhgneeabGreatDoor
set_option linter.unusedVariables false
def skipC : Nat → List UInt8 → Nat × Bool
  | 0, _ => (0, false)
  | _ + 1, [] => (0, false)
  | n + 1, b :: r =>
    if blkB b then ((skipC n r).1 + 1, (skipC n r).2)
    else if preB (b :: r) [40, 42] then
      if endR ((b :: r).drop 2) < 0 then (0, true)
      else ((skipC n ((b :: r).drop (endR ((b :: r).drop 2)).toNat.succ.succ.succ.succ)).1 + ((endR ((b :: r).drop 2)).toNat + 4), (skipC n ((b :: r).drop (endR ((b :: r).drop 2)).toNat.succ.succ.succ.succ)).2)
    else (0, false)
theorem skip_C : ∀ (n : Nat) (l : List UInt8), l.length ≤ n → skipL l = skipC n l := by
  intro n
  induction n with
  | zero => intro l hl; obtain rfl : l = [] := List.eq_nil_of_length_eq_zero (Nat.le_zero.1 hl); rw [skip_nil]; rfl
  | succ n ih =>
    intro l hl
    match l, hl with
    | [], _ => rw [skip_nil]; rfl
    | b :: r, hl =>
      rw [skipL, skipC, ih r (by simpa using hl), ih ((b :: r).drop (endR ((b :: r).drop 2)).toNat.succ.succ.succ.succ) (by rw [List.length_drop]; omega)]
def toksC : Nat → List UInt8 → Nat → List Tk → List Tk × Int × Nat
  | 0, _, _, _ => ([], 0, 0)
  | f + 1, l, a, ws =>
    if (skipC l.length (l.drop a)).2 then ([], 24, a + (skipC l.length (l.drop a)).1)
    else if a + (skipC l.length (l.drop a)).1 = l.length then (ws, 0, 0)
    else if (firstR (l.drop (a + (skipC l.length (l.drop a)).1))).2 = 0 then
      toksC f l (a + (skipC l.length (l.drop a)).1 + (firstR (l.drop (a + (skipC l.length (l.drop a)).1))).1.text.length) (ws ++ [{ (firstR (l.drop (a + (skipC l.length (l.drop a)).1))).1 with at_ := ((a + (skipC l.length (l.drop a)).1 : Nat) : Int) }])
    else ([], (firstR (l.drop (a + (skipC l.length (l.drop a)).1))).2, a + (skipC l.length (l.drop a)).1)
theorem toks_C : ∀ (f : Nat) (l : List UInt8) (a : Nat) (ws : List Tk), toksF f l a ws = toksC f l a ws := by
  intro f
  induction f with
  | zero => intros; rfl
  | succ f ih =>
    intro l a ws
    rw [toksF, toksC, skip_C l.length (l.drop a) (by rw [List.length_drop]; omega), ih]
theorem tokens_C {l : List UInt8} (h : l.length ≤ 8192) : tokensR l = toksC (l.length + 1) l 0 [] := by rw [tokens_short h, toks_C]
end Go.Proofs.YtedlaclfhgneeabGreatDoor
namespace Go.Proofs.YtedlaclfhgneeabGreatDoor
open Go.RowKit
set_option linter.unusedVariables false
set_option linter.unusedSimpArgs false
set_option maxRecDepth 100000
set_option maxHeartbeats 2000000
theorem fnI_nil {I : Amb} {P : Program} {f s : Nat} {F : Nat → List SV} {x : SV} (h : FnI I P f [.sl 0 0 0] [some (.lst s 0 F)] (Rt x [some (.lst s 0 F)])) (hF : ∀ k, ∃ vs, denL [] (F k) = some vs) (hx : ∀ G, den G x = den [] x) : FnI I P f [.sla none 0 0] [] (Rt x []) := by
  refine ⟨h.1, fun G w vs hM hI hv => ?_⟩
  have hG : G = [] := List.length_eq_zero_iff.1 hM.len.symm
  subst hG
  have hM2 : Mem [some (.lst s 0 F)] [none] w := ⟨rfl, fun i e he => by
    match i, he with
    | 0, he => cases he; exact ⟨hF, .inl rfl⟩
    | i + 1, he => set_option simprocs true in simp at he, fun i j e g L M hij hi hj he hL => by
    match i, hi with
    | 0, hi => set_option simprocs true in simp at hL
    | i + 1, hi => set_option simprocs true in simp at hi⟩
  refine Calls.mono (h.2 [none] w vs hM2 hI hv) fun e w' ⟨x', H', F', v, ⟨q1, q2⟩, r1, r2, r3, r4, r5, r6, r7⟩ => ?_
  subst q1; subst q2
  exact ⟨_, _, [], v, ⟨rfl, rfl⟩, by rw [hx] at r1 ⊢; exact r1, r2, ⟨rfl, fun i e he => by set_option simprocs true in simp at he, fun i j e g L M hij hi => by set_option simprocs true in simp at hi⟩, r4, Nat.le_refl _, fun i e he => by set_option simprocs true in simp at he, fun i e he => by set_option simprocs true in simp at he⟩
theorem ws0_ok : WsOK [] := fun t h => by cases h
end Go.Proofs.YtedlaclfhgneeabGreatDoor
namespace Go.Proofs.YtedlaclfhgneeabGreatDoor
open Go.RowKit
set_option linter.unusedVariables false
set_option linter.unusedSimpArgs false
set_option maxRecDepth 100000
theorem ws_toks : ∀ (f : Nat) (l : List UInt8) (a : Nat) (ws : List Tk), a ≤ l.length → ws.length ≤ a → (∀ t ∈ ws, 0 ≤ t.at_ ∧ t.at_ ≤ (l.length : Int) ∧ t.text.length ≤ l.length) → (toksF f l a ws).1.length ≤ l.length ∧ ∀ t ∈ (toksF f l a ws).1, 0 ≤ t.at_ ∧ t.at_ ≤ (l.length : Int) ∧ t.text.length ≤ l.length
  | 0, l, a, ws, ha, hl, h => ⟨Nat.zero_le _, fun y hy => by cases hy⟩
  | f + 1, l, a, ws, ha, hl, h => by
    rw [toksF]
    split
    · exact ⟨Nat.zero_le _, fun y hy => by cases hy⟩
    · split
      · exact ⟨show ws.length ≤ l.length by omega, h⟩
      · next hne =>
        split
        · next hf =>
          have hs := skip_le (l.drop a)
          rw [List.length_drop] at hs
          have hn := first_len hf
          rw [List.length_drop] at hn
          refine ws_toks f l _ _ (by omega) (by simp only [List.length_append, List.length_cons, List.length_nil]; omega) fun y hy => ?_
          rcases List.mem_append.1 hy with hy | hy
          · exact h y hy
          · rw [List.mem_singleton] at hy
            subst hy
            exact ⟨by show 0 ≤ ((_ : Nat) : Int); omega, by show ((_ : Nat) : Int) ≤ _; omega, by show (firstR _).1.text.length ≤ _; omega⟩
        · exact ⟨Nat.zero_le _, fun y hy => by cases hy⟩
theorem ws_tokens {l : List UInt8} {ws : List Tk} (h : tokensR l = (ws, 0, 0)) : ws.length ≤ 8192 ∧ WsOK ws ∧ Old.WF ws := by
  have hf := Old.wf_tokens l
  rw [h] at hf
  by_cases hl : l.length > 8192
  · rw [tokens_long hl] at h
    have := congrArg (fun z => z.2.1) h
    exact absurd (show (2 : Int) = 0 from this) (by decide)
  · have hw := ws_toks (l.length + 1) l 0 [] (Nat.zero_le _) (Nat.zero_le _) (fun t ht => by cases ht)
    rw [← tokens_short (by omega), h] at hw
    refine ⟨by have := hw.1; simp only at this; omega, fun t ht => ?_, hf⟩
    have := hw.2 t ht
    exact ⟨this.1, by omega, by omega⟩
end Go.Proofs.YtedlaclfhgneeabGreatDoor
namespace Go.Proofs.YtedlaclfhgneeabGreatDoor
set_option linter.unusedVariables false
set_option linter.unusedSimpArgs false
set_option maxRecDepth 100000
def Lex (r : List UInt8) (a : Nat) (ts : List Tk) : Prop := ∀ (l : List UInt8) (f : Nat) (ws : List Tk), l.drop a = r → a ≤ l.length → l.length < f + a → toksF f l a ws = (ws ++ ts, 0, 0)
theorem lex_tokens {l : List UInt8} {ts : List Tk} (h : Lex l 0 ts) (hl : l.length ≤ 8192) : tokensR l = (ts, 0, 0) := by
  rw [tokens_short hl, h l (l.length + 1) [] rfl (Nat.zero_le _) (by omega)]; rfl
theorem lex_nil {a : Nat} : Lex [] a [] := by
  intro l f ws hd ha hf
  have hl : l.length ≤ a := by rw [List.drop_eq_nil_iff] at hd; exact hd
  obtain ⟨f, rfl⟩ : ∃ g, f = g + 1 := ⟨f - 1, by omega⟩
  rw [tf_end (by rw [hd, skip_nil]) (by rw [hd, skip_nil]; show a + 0 = _; omega), List.append_nil]
theorem at_drop {l r : List UInt8} {a : Nat} {b : UInt8} (h : l.drop a = b :: r) : l[a]? = some b ∧ l.drop (a + 1) = r ∧ a + 1 ≤ l.length := by
  have h1 : (l.drop a)[0]? = some b := by rw [h]; rfl
  rw [List.getElem?_drop] at h1
  have h2 : (l.drop a).drop 1 = r := by rw [h]; rfl
  rw [List.drop_drop] at h2
  have h3 := congrArg List.length h
  rw [List.length_drop, List.length_cons] at h3
  exact ⟨h1, h2, by omega⟩
theorem lex_blank {b : UInt8} {r : List UInt8} {a : Nat} {ts : List Tk} (hb : blkB b = true) (h : Lex r (a + 1) ts) : Lex (b :: r) a ts := by
  intro l f ws hd ha hf
  obtain ⟨h1, h2, h3⟩ := at_drop hd
  obtain ⟨f, rfl⟩ : ∃ g, f = g + 1 := ⟨f - 1, by omega⟩
  rw [← h l (f + 1) ws h2 h3 (by omega)]
  have e : a + ((skipL (l.drop (a + 1))).1 + 1) = a + 1 + (skipL (l.drop (a + 1))).1 := by omega
  rw [toksF, toksF, skip_blank h1 hb]
  simp only [e]
theorem lex_word {w r : List UInt8} {a : Nat} {ts : List Tk} {b : UInt8} {k n : Int} (hb : w[0]? = some b) (h1 : blkB b = false) (h2 : b ≠ 40) (hf : firstR (w ++ r) = (⟨k, w, n, 0⟩, 0)) (h : Lex r (a + w.length) ts) : Lex (w ++ r) a (⟨k, w, n, (a : Int)⟩ :: ts) := by
  intro l f ws hd ha hf2
  have hw : 0 < w.length := by
    cases w with
    | nil => cases hb
    | cons c w => exact Nat.succ_pos _
  have hb2 : (w ++ r)[0]? = some b := by rw [List.getElem?_append_left hw]; exact hb
  have hb3 : l[a]? = some b := by rw [← hd, List.getElem?_drop] at hb2; exact hb2
  have hlen := congrArg List.length hd
  rw [List.length_drop, List.length_append] at hlen
  have hs : skipL (l.drop a) = (0, false) := skip_word hb3 h1 (by
    rw [hd]
    cases w with
    | nil => cases hb
    | cons c w =>
      have : c = b := by simpa using hb
      subst this
      unfold preB
      rw [Bool.and_eq_false_iff]
      right
      rw [List.cons_append, List.length_cons, List.take_succ_cons]
      refine beq_eq_false_iff_ne.2 fun e => h2 ?_
      injection e)
  obtain ⟨f, rfl⟩ : ∃ g, f = g + 1 := ⟨f - 1, by omega⟩
  have hz : a + (skipL (l.drop a)).1 = a := by rw [hs]; rfl
  have hfr : firstR (l.drop (a + (skipL (l.drop a)).1)) = (⟨k, w, n, 0⟩, 0) := by rw [hz, hd]; exact hf
  rw [tf_go (by rw [hs]) (by rw [hz]; omega) (by rw [hfr]), hfr, hz]
  have hd2 : l.drop (a + w.length) = r := by rw [← List.drop_drop, hd, List.drop_left]
  rw [h l f _ hd2 (by omega) (by omega)]
  simp
theorem rn_pre {p : UInt8 → Bool} {w r : List UInt8} (hw : w.all p = true) (hr : ∀ b, r[0]? = some b → p b = false) : rn p (w ++ r) = w.length := by
  unfold rn
  rw [List.takeWhile_append_of_pos (fun x hx => List.all_eq_true.1 hw x hx)]
  have : r.takeWhile p = [] := by
    cases r with
    | nil => rfl
    | cons b r => rw [List.takeWhile_cons, hr b rfl]; rfl
  rw [this, List.append_nil]
theorem take_pre {w r : List UInt8} : (w ++ r).take w.length = w := List.take_left
theorem lex_mark {b : UInt8} {r : List UInt8} {a : Nat} {ts : List Tk} (hb : (blkB b == false && digB b == false && nbgB b == false && mrkB b && (b != 40) && (b != 47) && (b != 92)) = true) (h : Lex r (a + 1) ts) : Lex (b :: r) a (⟨3, [b], 0, (a : Int)⟩ :: ts) := by
  simp only [Bool.and_eq_true, beq_iff_eq, bne_iff_ne] at hb
  obtain ⟨⟨⟨⟨⟨⟨b1, b2⟩, b3⟩, b4⟩, b5⟩, b6⟩, b7⟩ := hb
  refine lex_word (w := [b]) rfl b1 b5 ?_ h
  have hm : mkN ([b] ++ r) = 1 := by
    unfold mkN preB
    have e1 : (([b] ++ r).take [(47 : UInt8), 92].length == [47, 92]) = false := by
      rw [List.singleton_append, List.length_cons, List.take_succ_cons]
      exact beq_eq_false_iff_ne.2 fun e => b6 (by injection e)
    have e2 : (([b] ++ r).take [(92 : UInt8), 47].length == [92, 47]) = false := by
      rw [List.singleton_append, List.length_cons, List.take_succ_cons]
      exact beq_eq_false_iff_ne.2 fun e => b7 (by injection e)
    rw [e1, e2, Bool.and_false, Bool.and_false]
    simp [b4]
  rw [first_mark (b := b) rfl b2 b3 (by rw [hm]; decide), hm]; rfl
theorem nb_not {b : UInt8} (h : nbgB b = true) : blkB b = false ∧ digB b = false ∧ b ≠ 40 := by
  unfold nbgB letB at h
  unfold blkB digB
  simp only [Bool.or_eq_true, decide_eq_true_eq, beq_iff_eq] at h
  refine ⟨decide_eq_false (by omega), decide_eq_false (by omega), fun e => ?_⟩
  subst e
  revert h
  decide
structure Nam (w : List UInt8) : Prop where
  b : ∃ c, w[0]? = some c ∧ nbgB c = true
  p : w.all namB = true
theorem lex_name {w r : List UInt8} {a : Nat} {ts : List Tk} (hw : Nam w) (hr : ∀ b, r[0]? = some b → namB b = false) (h : Lex r (a + w.length) ts) : Lex (w ++ r) a (⟨1, w, 0, (a : Int)⟩ :: ts) := by
  obtain ⟨c, hc, hn⟩ := hw.b
  obtain ⟨q1, q2, q3⟩ := nb_not hn
  refine lex_word hc q1 q3 ?_ h
  have hl : 0 < w.length := by
    cases w with
    | nil => cases hc
    | cons c w => exact Nat.succ_pos _
  rw [first_name (b := c) (by rw [List.getElem?_append_left hl]; exact hc) q2 hn, rn_pre hw.p hr, take_pre]
theorem lex_num {w r : List UInt8} {a : Nat} {ts : List Tk} {n : Int} {c : UInt8} (hc : w[0]? = some c) (hd : digB c = true) (hw : w.all numB = true) (hn : numR w = some n) (hr : ∀ b, r[0]? = some b → numB b = false) (h : Lex r (a + w.length) ts) : Lex (w ++ r) a (⟨2, w, n, (a : Int)⟩ :: ts) := by
  have q1 : blkB c = false := by unfold digB at hd; unfold blkB; simp only [decide_eq_true_eq] at hd; exact decide_eq_false (by omega)
  have q3 : c ≠ 40 := fun e => by subst e; revert hd; decide
  refine lex_word hc q1 q3 ?_ h
  have hl : 0 < w.length := by
    cases w with
    | nil => cases hc
    | cons c w => exact Nat.succ_pos _
  have ht : (w ++ r).take (rn numB (w ++ r)) = w := by rw [rn_pre hw hr, take_pre]
  rw [first_num (b := c) (n := n) (by rw [List.getElem?_append_left hl]; exact hc) hd (by rw [ht]; exact hn), ht]
theorem dec_all (u : Nat) : (Lib.decDigits u).all digB = true ∧ Lib.decDigits u ≠ [] := by
  rw [Lib.decDigits_eq]
  refine ⟨List.all_eq_true.2 fun x hx => ?_, ?_⟩
  · obtain ⟨t, _, rfl⟩ := List.mem_map.1 hx
    unfold Lib.dg digB
    have h10 := Nat.mod_lt (u / 10 ^ (Lib.nDigits u - 1 - t)) (by decide : 0 < 10)
    generalize u / 10 ^ (Lib.nDigits u - 1 - t) % 10 = d at h10 ⊢
    have : d = 0 ∨ d = 1 ∨ d = 2 ∨ d = 3 ∨ d = 4 ∨ d = 5 ∨ d = 6 ∨ d = 7 ∨ d = 8 ∨ d = 9 := by omega
    rcases this with e | e | e | e | e | e | e | e | e | e <;> subst e <;> decide
  · intro e
    have := congrArg List.length e
    simp at this
    have := Lib.nDigits_pos u
    omega
theorem nv_app (w : List UInt8) (b : UInt8) : nv 10 (w ++ [b]) = nv 10 w * 10 + dv b := by unfold nv; rw [List.foldl_append]; rfl
theorem dv_of (d : Nat) (h : d < 10) : dv (UInt8.ofNat (48 + d)) = d := by
  have : d = 0 ∨ d = 1 ∨ d = 2 ∨ d = 3 ∨ d = 4 ∨ d = 5 ∨ d = 6 ∨ d = 7 ∨ d = 8 ∨ d = 9 := by omega
  rcases this with e | e | e | e | e | e | e | e | e | e <;> subst e <;> decide
theorem nv_dec : ∀ (k u : Nat), u < 10 ^ k → nv 10 (Lib.decDigits u) = u
  | 0, u, h => by
    have : u = 0 := by simpa using h
    subst this
    rw [Lib.decDigits_one (by decide)]; decide
  | k + 1, u, h => by
    by_cases h1 : u < 10
    · rw [Lib.decDigits_one h1]
      show nv 10 ([] ++ [UInt8.ofNat (48 + u)]) = u
      rw [nv_app, dv_of u h1]; show 0 * 10 + u = u; omega
    · rw [Lib.decDigits, dif_neg h1, nv_app, nv_dec k (u / 10) (by rw [Nat.pow_succ] at h; omega), dv_of _ (Nat.mod_lt _ (by decide))]
      omega
theorem dec_allD (u : Nat) : allD 10 (Lib.decDigits u) = true := by
  unfold allD
  refine List.all_eq_true.2 fun x hx => ?_
  have := List.all_eq_true.1 (dec_all u).1 x hx
  unfold digB at this
  simp only [decide_eq_true_eq] at this
  rw [dv_dig this.1 this.2]
  exact decide_eq_true (by omega)
theorem nv_lt (u : Nat) : nv 10 (Lib.decDigits u) = u := nv_dec (Lib.nDigits u) u (Lib.lt_pow_nDigits u)
theorem num_dec {u : Nat} (h : u ≤ 9223372036854775808) : numR (Lib.decDigits u) = some (IntKind.wrap .i64 (u : Int)) := by
  obtain ⟨ha, hne⟩ := dec_all u
  have hv : valL 10 (Lib.decDigits u) = some u := by
    unfold valL
    rw [if_neg (by rintro (e | e); exact hne e; rw [dec_allD] at e; cases e), nv_lt]
  have hp : preB (Lib.decDigits u) [48, 120] = false := by
    cases hq : preB (Lib.decDigits u) [48, 120] with
    | false => rfl
    | true =>
      unfold preB at hq
      rw [Bool.and_eq_true] at hq
      have he := eq_of_beq hq.2
      have hm : (120 : UInt8) ∈ (Lib.decDigits u).take 2 := by
        have he' : (Lib.decDigits u).take 2 = [48, 120] := he
        rw [he']; decide
      have := List.all_eq_true.1 ha _ (List.mem_of_mem_take hm)
      revert this; decide
  have hl : (Lib.decDigits u).length ≤ 19 := by
    rw [Lib.decDigits_length]
    have h1 : Lib.nDigits u ≤ 20 := Lib.nDigits_le20 u (by omega)
    rcases Nat.lt_or_ge 19 (Lib.nDigits u) with h2 | h2
    · exfalso
      have h20 : Lib.nDigits u = 20 := by omega
      have hge : ∀ (k v : Nat), Lib.nDigits v = k + 1 → 0 < k → 10 ^ k ≤ v := by
        intro k
        induction k with
        | zero => intro v _ h; omega
        | succ k ih =>
          intro v hv _
          by_cases h10 : v < 10
          · rw [Lib.nDigits_small h10] at hv; omega
          · rw [Lib.nDigits_big h10] at hv
            by_cases hk : 0 < k
            · have := ih (v / 10) (by omega) hk
              rw [Nat.pow_succ]; omega
            · have : k = 0 := by omega
              subst this
              omega
      have := hge 19 u (by omega) (by decide)
      have e : (10 : Nat) ^ 19 = 10000000000000000000 := by decide
      omega
    · exact h2
  exact num_okd hp hl hv h
theorem dig_num {w : List UInt8} (h : w.all digB = true) : w.all numB = true := List.all_eq_true.2 fun x hx => by unfold numB; rw [List.all_eq_true.1 h x hx, Bool.or_true]
theorem lex_dec {r : List UInt8} {a u : Nat} {ts : List Tk} (hu : u ≤ 9223372036854775808) (hr : ∀ b, r[0]? = some b → numB b = false) (h : Lex r (a + (Lib.decDigits u).length) ts) : Lex (Lib.decDigits u ++ r) a (⟨2, Lib.decDigits u, IntKind.wrap .i64 (u : Int), (a : Int)⟩ :: ts) := by
  obtain ⟨ha, hne⟩ := dec_all u
  cases hw : Lib.decDigits u with
  | nil => exact absurd hw hne
  | cons c w =>
    rw [hw] at ha h
    have hc := List.all_eq_true.1 ha c List.mem_cons_self
    exact lex_num (c := c) rfl hc (dig_num ha) (by rw [← hw]; exact num_dec hu) hr h
abbrev Ky := Int × List UInt8 × Int
def key (t : Tk) : Ky := (t.kind, t.text, t.n)
def LexK (r : List UInt8) (ks : List Ky) : Prop := ∀ a, ∃ ts, Lex r a ts ∧ ts.map key = ks
def sep (r : List UInt8) : Prop := ∀ b, r[0]? = some b → namB b = false
theorem sep_nil : sep [] := fun b h => by cases h
theorem sep_cons {c : UInt8} {r : List UInt8} (h : namB c = false) : sep (c :: r) := fun b hb => by
  have : c = b := by simpa using hb
  subst this; exact h
theorem num_nam {b : UInt8} (h : namB b = false) : numB b = false := by
  unfold namB nbgB at h; unfold numB
  simp only [Bool.or_eq_false_iff] at h ⊢
  exact ⟨h.1.1, h.2.1⟩
theorem lk_nil : LexK [] [] := fun a => ⟨[], lex_nil, rfl⟩
theorem lk_blank {r : List UInt8} {ks : List Ky} (h : LexK r ks) : LexK (32 :: r) ks := fun a => by
  obtain ⟨ts, h1, h2⟩ := h (a + 1)
  exact ⟨ts, lex_blank (by decide) h1, h2⟩
theorem lk_mark {b : UInt8} {r : List UInt8} {ks : List Ky} (hb : (blkB b == false && digB b == false && nbgB b == false && mrkB b && (b != 40) && (b != 47) && (b != 92)) = true) (h : LexK r ks) : LexK (b :: r) ((3, [b], 0) :: ks) := fun a => by
  obtain ⟨ts, h1, h2⟩ := h (a + 1)
  exact ⟨_, lex_mark hb h1, by rw [List.map_cons, h2]; rfl⟩
theorem lk_name {w r : List UInt8} {ks : List Ky} (hw : Nam w) (hr : sep r) (h : LexK r ks) : LexK (w ++ r) ((1, w, 0) :: ks) := fun a => by
  obtain ⟨ts, h1, h2⟩ := h (a + w.length)
  exact ⟨_, lex_name hw hr h1, by rw [List.map_cons, h2]; rfl⟩
def numK (n : Int) : List Ky := if n < 0 then [(3, [45], 0), (2, Lib.decDigits n.natAbs, IntKind.wrap .i64 (n.natAbs : Int))] else [(2, Lib.decDigits n.toNat, IntKind.wrap .i64 (n.toNat : Int))]
theorem lk_dec {r : List UInt8} {u : Nat} {ks : List Ky} (hu : u ≤ 9223372036854775808) (hr : sep r) (h : LexK r ks) : LexK (Lib.decDigits u ++ r) ((2, Lib.decDigits u, IntKind.wrap .i64 (u : Int)) :: ks) := fun a => by
  obtain ⟨ts, h1, h2⟩ := h (a + (Lib.decDigits u).length)
  exact ⟨_, lex_dec hu (fun b hb => num_nam (hr b hb)) h1, by rw [List.map_cons, h2]; rfl⟩
theorem lk_num {r : List UInt8} {n : Int} {ks : List Ky} (hn : -9223372036854775808 ≤ n ∧ n ≤ 9223372036854775807) (hr : sep r) (h : LexK r ks) : LexK (Lib.itoa n ++ r) (numK n ++ ks) := by
  unfold Lib.itoa numK
  by_cases h0 : n < 0
  · rw [if_pos h0, if_pos h0]
    exact lk_mark (by decide) (lk_dec (by omega) hr h)
  · rw [if_neg h0, if_neg h0]
    exact lk_dec (by omega) hr h
theorem lexK_tokens {l : List UInt8} {ks : List Ky} (h : LexK l ks) (hl : l.length ≤ 8192) : ∃ ws, tokensR l = (ws, 0, 0) ∧ ws.map key = ks := by
  obtain ⟨ts, h1, h2⟩ := h 0
  exact ⟨ts, lex_tokens h1 hl, h2⟩
def At (ws : List Tk) (p : Nat) (ks : List Ky) : Prop := (ws.drop p).map key = ks
section
variable {ws : List Tk} {p : Nat} {k : Ky} {ks : List Ky} {a : Int} {rf : List UInt8 → Int} {q m : List UInt8} {n : Int}
theorem At.hd (h : At ws p (k :: ks)) : ∃ y, ws[p]? = some y ∧ y.kind = k.1 ∧ y.text = k.2.1 ∧ y.n = k.2.2 ∧ At ws (p + 1) ks := by
  unfold At at h ⊢
  cases hd : ws.drop p with
  | nil => rw [hd] at h; cases h
  | cons y l =>
    rw [hd, List.map_cons] at h
    injection h with h1 h2
    have h3 : (ws.drop p)[0]? = some y := by rw [hd]; rfl
    rw [List.getElem?_drop] at h3
    have h4 : (ws.drop p).drop 1 = l := by rw [hd]; rfl
    rw [List.drop_drop] at h4
    exact ⟨y, h3, by rw [← h1]; rfl, by rw [← h1]; rfl, by rw [← h1]; rfl, by rw [h4]; exact h2⟩
theorem At.tl (h : At ws p (k :: ks)) : At ws (p + 1) ks := by
  obtain ⟨_, _, _, _, _, h⟩ := h.hd; exact h
theorem At.no (h : At ws p []) : ws[p]? = none := by
  unfold At at h
  rw [List.map_eq_nil_iff, List.drop_eq_nil_iff] at h
  exact List.getElem?_eq_none h
theorem g_reg (h : At ws p ((1, q, n) :: ks)) (hq : 0 ≤ rf q) : regG rf ws ⟨0, a, p⟩ = (⟨0, a, p + 1⟩, rf q) := by
  obtain ⟨y, h1, h2, h3, _, _⟩ := h.hd
  unfold regG
  simp only [beq_self_eq_true, if_true, h1]
  rw [if_pos (by rw [h2, h3, decide_eq_false (show ¬ rf q < 0 by omega)]; rfl), h3]
theorem g_reads (h : At ws p ((3, m, n) :: ks)) : Old.reads ws m p = true := by
  obtain ⟨y, h1, h2, h3, _, _⟩ := h.hd
  unfold Old.reads
  simp only [h1]
  rw [h2, h3, eqL_same]; rfl
theorem g_reads_no (h : At ws p (k :: ks)) (hm : k.2.1 ≠ m ∨ k.1 = 2) : Old.reads ws m p = false := by
  obtain ⟨y, h1, h2, h3, _, _⟩ := h.hd
  unfold Old.reads
  simp only [h1]
  rw [h2, h3]
  rcases hm with hm | hm
  · rw [Old.eqL_no hm, Bool.and_false]
  · rw [hm]; rfl
theorem g_mark (h : At ws p ((3, m, n) :: ks)) : Old.markR ws m ⟨0, a, p⟩ = ⟨0, a, p + 1⟩ := by
  unfold Old.markR
  simp only [beq_self_eq_true, if_true]
  rw [if_pos (g_reads h)]
theorem g_lab (h : At ws p ((1, q, n) :: ks)) : Old.labR ws ⟨0, a, p⟩ = (⟨0, a, p + 1⟩, q) := by
  obtain ⟨y, h1, h2, h3, _, _⟩ := h.hd
  unfold Old.labR
  simp only [beq_self_eq_true, if_true, h1]
  rw [if_pos (by rw [h2]; rfl), h3]
theorem wrap_small {x : Int} (h : -9223372036854775808 ≤ x ∧ x ≤ 9223372036854775807) : IntKind.wrap .i64 x = x := wrap_in h
theorem g_num (hn : -9223372036854775808 ≤ n ∧ n ≤ 9223372036854775807) (h : At ws p (numK n ++ ks)) : Old.numS ws ⟨0, a, p⟩ = (⟨0, a, p + (numK n).length⟩, n) ∧ At ws (p + (numK n).length) ks := by
  unfold numK at h ⊢
  by_cases h0 : n < 0
  · rw [if_pos h0] at h ⊢
    have hr := g_reads (m := [45]) h
    have h2 := h.tl
    obtain ⟨y, y1, y2, y3, y4, y5⟩ := h2.hd
    refine ⟨?_, y5⟩
    unfold Old.numS
    simp only [beq_self_eq_true, if_true, hr]
    unfold Old.numE
    simp only [y1]
    rw [if_pos (by rw [y2]; rfl)]
    simp only [if_true]
    rw [y4]
    have : IntKind.wrap .i64 (-IntKind.wrap .i64 ((n.natAbs : Nat) : Int)) = n := by
      by_cases hb : n = -9223372036854775808
      · subst hb; decide
      · have e1 : IntKind.wrap .i64 ((n.natAbs : Nat) : Int) = ((n.natAbs : Nat) : Int) := wrap_small (by omega)
        rw [e1, wrap_small (by omega)]; omega
    rw [this]; rfl
  · rw [if_neg h0] at h ⊢
    have hr := g_reads_no (m := [45]) h (.inr rfl)
    obtain ⟨y, y1, y2, y3, y4, y5⟩ := h.hd
    refine ⟨?_, y5⟩
    unfold Old.numS
    simp only [beq_self_eq_true, if_true, hr, Bool.false_eq_true, if_false]
    unfold Old.numE
    simp only [y1]
    rw [if_pos (by rw [y2]; rfl)]
    simp only [Bool.false_eq_true, if_false]
    rw [y4, wrap_small (by omega)]
    have : ((n.toNat : Nat) : Int) = n := by omega
    rw [this]; rfl
end
theorem loc_cases {k : Int} (h : 0 ≤ k ∧ k ≤ 2) : Nam (Old.locN k.toNat) ∧ Old.locF (Old.locN k.toNat) = k := by
  have : k = 0 ∨ k = 1 ∨ k = 2 := by omega
  rcases this with e | e | e <;> subst e <;> exact ⟨⟨⟨_, rfl, by decide⟩, by decide⟩, by decide⟩
def ixK (nf : Int → List UInt8) (x : Int) : List Ky := if x ≥ 0 then [(3, [43], 0), (1, nf x, 0)] else []
def memK (nf : Int → List UInt8) (loc off ix : Int) : List Ky := (3, [91], 0) :: (1, Old.locN loc.toNat, 0) :: ((if off = 0 then [] else (3, [43], 0) :: numK off) ++ (ixK nf ix ++ [(3, [93], 0)]))
def memW (nf : Int → List UInt8) (loc off ix : Int) : List UInt8 := [91] ++ Old.locN loc.toNat ++ (if off = 0 then [] else [43] ++ Lib.itoa off) ++ (if ix ≥ 0 then [43] ++ nf ix else []) ++ [93]
section
variable {nf : Int → List UInt8} {loc off ix : Int} {r : List UInt8} {ks : List Ky}
theorem lk_ix (hn : ∀ x, 0 ≤ x → x < 8 → Nam (nf x)) (hx : ix = -1 ∨ (0 ≤ ix ∧ ix < 8)) (hr : sep r) (h : LexK r ks) : LexK ((if ix ≥ 0 then [43] ++ nf ix else []) ++ r) (ixK nf ix ++ ks) := by
  unfold ixK
  rcases hx with hx | hx
  · rw [if_neg (by omega), if_neg (by omega)]; exact h
  · rw [if_pos (by omega), if_pos (by omega)]
    exact lk_mark (by decide) (lk_name (hn ix hx.1 hx.2) hr h)
theorem sep_ix (hr : sep r) : sep ((if ix ≥ 0 then [43] ++ nf ix else []) ++ r) := by
  split
  · exact sep_cons (by decide)
  · exact hr
theorem lk_mem (hn : ∀ x, 0 ≤ x → x < 8 → Nam (nf x)) (hl : 0 ≤ loc ∧ loc ≤ 2) (ho : 0 ≤ off ∧ off < 8) (hx : ix = -1 ∨ (0 ≤ ix ∧ ix < 8)) (h : LexK r ks) : LexK (memW nf loc off ix ++ r) (memK nf loc off ix ++ ks) := by
  unfold memW memK
  have h1 : LexK (93 :: r) ((3, [93], 0) :: ks) := lk_mark (by decide) h
  have h2 := lk_ix (nf := nf) hn hx (r := 93 :: r) (sep_cons (by decide)) h1
  have h3 : LexK ((if off = 0 then [] else [43] ++ Lib.itoa off) ++ ((if ix ≥ 0 then [43] ++ nf ix else []) ++ (93 :: r))) ((if off = 0 then [] else (3, [43], 0) :: numK off) ++ (ixK nf ix ++ (3, [93], 0) :: ks)) ∧ sep ((if off = 0 then [] else [43] ++ Lib.itoa off) ++ ((if ix ≥ 0 then [43] ++ nf ix else []) ++ (93 :: r))) := by
    by_cases h0 : off = 0
    · rw [if_pos h0, if_pos h0]; exact ⟨h2, sep_ix (sep_cons (by decide))⟩
    · rw [if_neg h0, if_neg h0]
      exact ⟨lk_mark (by decide) (lk_num (by omega) (sep_ix (sep_cons (by decide))) h2), sep_cons (by decide)⟩
  have h4 := lk_mark (b := 91) (by decide) (lk_name (loc_cases hl).1 h3.2 h3.1)
  simpa using h4
end
section
variable {ws : List Tk} {p : Nat} {ks : List Ky} {a : Int} {rf : List UInt8 → Int} {nf : Int → List UInt8} {loc off ix : Int} {i : Old.Ins}
theorem g_plus (h : At ws p ((3, [43], 0) :: ks)) : Old.plusR ws ⟨0, a, p⟩ = true := by
  unfold Old.plusR; rw [g_reads h]; rfl
theorem g_plus_no (h : At ws p ((3, [93], 0) :: ks)) : Old.plusR ws ⟨0, a, p⟩ = false := by
  unfold Old.plusR; rw [g_reads_no h (.inl (by decide))]; rfl
theorem g_off (hrf : ∀ x, 0 ≤ x → x < 8 → rf (nf x) = x) (hx : ix = -1 ∨ (0 ≤ ix ∧ ix < 8)) (hi : i.index = -1) (h : At ws p (ixK nf ix ++ (3, [93], 0) :: ks)) : Old.closeR ws (offG rf ws ⟨0, a, p⟩ i) = (⟨0, a, p + (ixK nf ix).length + 1⟩, { i with index := ix }) ∧ At ws (p + (ixK nf ix).length + 1) ks := by
  unfold ixK at h ⊢
  rcases hx with hx | hx
  · rw [if_neg (by omega)] at h ⊢
    have h' : At ws p ((3, [93], 0) :: ks) := h
    refine ⟨?_, h'.tl⟩
    unfold offG
    rw [g_plus_no h', if_neg (by decide)]
    unfold Old.closeR
    simp only
    rw [g_mark h']
    have : ({ i with index := ix } : Old.Ins) = i := by rw [hx, ← hi]
    rw [this]; rfl
  · rw [if_pos (by omega)] at h ⊢
    have h' : At ws p ((3, [43], 0) :: (1, nf ix, 0) :: (3, [93], 0) :: ks) := h
    refine ⟨?_, h'.tl.tl.tl⟩
    unfold offG
    rw [g_plus h', if_pos rfl]
    unfold idxG
    have e := g_reg (rf := rf) (a := a) h'.tl (by rw [hrf ix hx.1 hx.2]; exact hx.1)
    simp only [e]
    unfold Old.closeR
    simp only
    rw [g_mark h'.tl.tl, hrf ix hx.1 hx.2]; rfl
theorem g_mem (hrf : ∀ x, 0 ≤ x → x < 8 → rf (nf x) = x) (hl : 0 ≤ loc ∧ loc ≤ 2) (ho : 0 ≤ off ∧ off < 8) (hx : ix = -1 ∨ (0 ≤ ix ∧ ix < 8)) (hi : i.index = -1) (hi2 : i.off = 0) (h : At ws p (memK nf loc off ix ++ ks)) : memG rf ws ⟨0, a, p⟩ i = (⟨0, a, p + (memK nf loc off ix).length⟩, { i with loc := loc, off := off, index := ix }) ∧ At ws (p + (memK nf loc off ix).length) ks := by
  unfold memK at h ⊢
  have h1 : At ws p ((3, [91], 0) :: (1, Old.locN loc.toNat, 0) :: ((if off = 0 then [] else (3, [43], 0) :: numK off) ++ (ixK nf ix ++ (3, [93], 0) :: ks))) := by simpa using h
  have h2 := h1.tl
  obtain ⟨y, y1, y2, y3, y4, y5⟩ := h2.hd
  unfold memG
  rw [g_mark h1]
  unfold memIG
  simp only [beq_self_eq_true, if_true, y1]
  rw [if_pos (by rw [y2, y3, (loc_cases hl).2, decide_eq_false (by omega)]; rfl), y3, (loc_cases hl).2]
  by_cases h0 : off = 0
  · rw [if_pos h0] at y5 ⊢
    have hk : At ws (p + 1 + 1) (ixK nf ix ++ (3, [93], 0) :: ks) := by simpa using y5
    have ho2 := g_off (rf := rf) (a := a) (i := { i with loc := loc }) hrf hx hi hk
    have e : memEG rf ws ⟨0, a, p + 1 + 1⟩ { i with loc := loc } = offG rf ws ⟨0, a, p + 1 + 1⟩ { i with loc := loc } := by
      unfold memEG offG
      rcases hx with hx | hx
      · have hk' : At ws (p + 1 + 1) ((3, [93], 0) :: ks) := by unfold ixK at hk; rw [if_neg (by omega)] at hk; exact hk
        rw [g_plus_no hk', if_neg (by decide), if_neg (by decide)]
      · have hk' : At ws (p + 1 + 1) ((3, [43], 0) :: (1, nf ix, 0) :: (3, [93], 0) :: ks) := by unfold ixK at hk; rw [if_pos (by omega)] at hk; exact hk
        rw [g_plus hk', if_pos rfl, if_pos rfl]
        obtain ⟨z, z1, z2, _⟩ := hk'.tl.hd
        simp only [z1]
        rw [if_neg (by rw [z2]; exact (by decide : ¬ ((1 : Int) == 2) = true))]
    rw [e, ho2.1]
    have e3 : p + 1 + 1 + (ixK nf ix).length + 1 = p + ((3, [91], 0) :: (1, Old.locN loc.toNat, 0) :: (([] : List Ky) ++ (ixK nf ix ++ [((3 : Int), ([93] : List UInt8), (0 : Int))]))).length := by
      simp only [List.length_cons, List.length_append, List.length_nil]; omega
    refine ⟨?_, by rw [← e3]; exact ho2.2⟩
    rw [e3]
    have e4 : ({ ({ i with loc := loc } : Old.Ins) with index := ix } : Old.Ins) = { i with loc := loc, off := off, index := ix } := by rw [h0, ← hi2]
    rw [e4]
  · rw [if_neg h0] at y5 ⊢
    have hk : At ws (p + 1 + 1) ((3, [43], 0) :: (numK off ++ (ixK nf ix ++ (3, [93], 0) :: ks))) := by simpa using y5
    have en : numK off = [(2, Lib.decDigits off.toNat, off)] := by
      unfold numK
      rw [if_neg (by omega), wrap_small (by omega)]
      have : ((off.toNat : Nat) : Int) = off := by omega
      rw [this]
    rw [en] at hk ⊢
    have hk' : At ws (p + 1 + 1) ((3, [43], 0) :: (2, Lib.decDigits off.toNat, off) :: (ixK nf ix ++ (3, [93], 0) :: ks)) := hk
    obtain ⟨z, z1, z2, _, z4, z5⟩ := hk'.tl.hd
    have ho2 := g_off (rf := rf) (a := a) (i := { i with loc := loc, off := off }) hrf hx hi z5
    have e : memEG rf ws ⟨0, a, p + 1 + 1⟩ { i with loc := loc } = offG rf ws ⟨0, a, p + 1 + 1 + 1 + 1⟩ { i with loc := loc, off := off } := by
      unfold memEG
      rw [g_plus hk', if_pos rfl]
      simp only [z1]
      rw [if_pos (by rw [z2]; rfl), z4]
    rw [e, ho2.1]
    have e3 : p + 1 + 1 + 1 + 1 + (ixK nf ix).length + 1 = p + ((3, [91], 0) :: (1, Old.locN loc.toNat, 0) :: (((3, [43], 0) :: [((2 : Int), Lib.decDigits off.toNat, off)]) ++ (ixK nf ix ++ [((3 : Int), ([93] : List UInt8), (0 : Int))]))).length := by
      simp only [List.length_cons, List.length_append, List.length_nil]; omega
    exact ⟨by rw [e3], by rw [← e3]; exact ho2.2⟩
end
theorem nam_first {l : List UInt8} (h : (firstR l).2 = 0) (hk : (firstR l).1.kind = 1) : Nam (firstR l).1.text := by
  cases hb : l[0]? with
  | none => unfold firstR at h; simp [hb] at h
  | some b =>
    cases h1 : digB b
    · cases h2 : nbgB b
      · by_cases h3 : mkN l > 0
        · rw [first_mark hb h1 h2 h3] at hk; cases hk
        · rw [first_byte hb h1 h2 h3] at h; cases h
      · rw [first_name hb h1 h2]
        have h0 := Old.head_tw (p := namB) hb (by unfold namB; rw [h2, Bool.true_or])
        refine ⟨⟨b, ?_, h2⟩, ?_⟩
        · show (l.take (rn namB l))[0]? = some b
          rw [Old.tw_take]; exact h0
        · show (l.take (rn namB l)).all namB = true
          rw [Old.tw_take, List.all_takeWhile]
    · cases hn : numR (l.take (rn numB l)) with
      | none => rw [first_bad hb h1 hn] at h; cases h
      | some n => rw [first_num hb h1 hn] at hk; cases hk
theorem wrap_rng (n : Int) : -9223372036854775808 ≤ IntKind.wrap .i64 n ∧ IntKind.wrap .i64 n ≤ 9223372036854775807 := by
  simp only [IntKind.wrap, IntKind.signed, IntKind.bits]; simp; omega
theorem num_rng {l : List UInt8} {n : Int} (h : numR l = some n) : -9223372036854775808 ≤ n ∧ n ≤ 9223372036854775807 := by
  have : ∀ o : Option Nat, fits o = some n → -9223372036854775808 ≤ n ∧ n ≤ 9223372036854775807 := by
    intro o ho
    unfold fits at ho
    split at ho
    · split at ho
      · cases ho
      · cases ho; exact wrap_rng _
    · cases ho
  unfold numR at h
  split at h
  · split at h
    · cases h
    · exact this _ h
  · split at h
    · cases h
    · exact this _ h
theorem rng_first {l : List UInt8} (h : (firstR l).2 = 0) : -9223372036854775808 ≤ (firstR l).1.n ∧ (firstR l).1.n ≤ 9223372036854775807 := by
  cases hb : l[0]? with
  | none => unfold firstR at h; simp [hb] at h
  | some b =>
    cases h1 : digB b
    · cases h2 : nbgB b
      · by_cases h3 : mkN l > 0
        · rw [first_mark hb h1 h2 h3]; exact ⟨(by decide : (-9223372036854775808 : Int) ≤ 0), (by decide : (0 : Int) ≤ 9223372036854775807)⟩
        · rw [first_byte hb h1 h2 h3] at h; cases h
      · rw [first_name hb h1 h2]; exact ⟨(by decide : (-9223372036854775808 : Int) ≤ 0), (by decide : (0 : Int) ≤ 9223372036854775807)⟩
    · cases hn : numR (l.take (rn numB l)) with
      | none => rw [first_bad hb h1 hn] at h; cases h
      | some n => rw [first_num hb h1 hn]; exact num_rng hn
structure TkW (t : Tk) : Prop where
  nm : t.kind = 1 → Nam t.text
  rg : -9223372036854775808 ≤ t.n ∧ t.n ≤ 9223372036854775807
theorem tkw_toks : ∀ (f : Nat) (l : List UInt8) (a : Nat) (ws : List Tk), (∀ t ∈ ws, TkW t) → ∀ t ∈ (toksF f l a ws).1, TkW t
  | 0, l, a, ws, h => fun y hy => by cases hy
  | f + 1, l, a, ws, h => by
    rw [toksF]
    split
    · exact fun y hy => by cases hy
    · split
      · exact h
      · split
        · next hf =>
          refine tkw_toks f l _ _ fun y hy => ?_
          rcases List.mem_append.1 hy with hy | hy
          · exact h y hy
          · rw [List.mem_singleton] at hy
            subst hy
            exact ⟨fun hk => nam_first hf hk, rng_first hf⟩
        · exact fun y hy => by cases hy
theorem tkw_tokens {l : List UInt8} {ws : List Tk} {k : Nat} {e : Int} (h : tokensR l = (ws, e, k)) : ∀ t ∈ ws, TkW t := by
  have : ∀ t ∈ (tokensR l).1, TkW t := by
    unfold tokensR
    split
    · exact fun y hy => by cases hy
    · exact tkw_toks _ _ _ _ fun y hy => by cases hy
  rw [h] at this; exact this
theorem isNm_nam {l : List UInt8} (h : Old.isNm l = true) : Nam l := by
  unfold Old.isNm at h
  simp only [Bool.and_eq_true] at h
  have h3 := h.2
  cases hy : (tokensR l).1[0]? with
  | none => rw [hy] at h3; cases h3
  | some y =>
    rw [hy] at h3
    simp only [Bool.and_eq_true, beq_iff_eq] at h3
    have := tkw_tokens (l := l) (ws := (tokensR l).1) (e := (tokensR l).2.1) (k := (tokensR l).2.2) rfl y (List.mem_of_getElem? hy)
    have e := eqL_eq h3.2
    rw [← e]; exact this.nm h3.1
theorem nam_isNm {l : List UInt8} (h : Nam l) (hl : l.length ≤ 8192) : Old.isNm l = true := by
  have h1 : Lex (l ++ []) 0 [⟨1, l, 0, ((0 : Nat) : Int)⟩] := lex_name h (fun b hb => by cases hb) lex_nil
  rw [List.append_nil] at h1
  have := lex_tokens h1 hl
  unfold Old.isNm
  rw [this]
  show ((((0 : Int) == 0) && ((((1 : Nat) : Int)) == 1)) && (((1 : Int) == 1) && eqL l l)) = true
  rw [eqL_same]; rfl
end Go.Proofs.YtedlaclfhgneeabGreatDoor
namespace Go.Proofs.YtedlaclfhgneeabGreatDoor
open Go.RowKit
set_option linter.unusedVariables false
set_option linter.unusedSimpArgs false
set_option maxRecDepth 100000
set_option maxHeartbeats 2000000
theorem right_of {i : Old.Ins} (h : Old.rightR i 0 1 = 0) : i = Old.plainF i ∧ Old.soundB i = true := by
  unfold Old.rightR at h
  cases hs : (Old.insEq i (Old.plainF i) && Old.soundB i) with
  | false => rw [hs] at h; exact absurd (show (34 : Int) = 0 from h) (by decide)
  | true => rw [Bool.and_eq_true] at hs; exact ⟨of_decide_eq_true hs.1, hs.2⟩
theorem acc_off {i : Old.Ins} (h : Old.accB i = true) : 0 ≤ i.off ∧ i.off < 8 := by
  unfold Old.accB at h
  simp only [Bool.and_eq_true, Bool.not_eq_true'] at h
  have hm := h.2
  cases hf : Old.fitsB i.off i.size with
  | false => unfold Old.maskR at hm; rw [hf] at hm; exact absurd (show ((0 : Int) == 0) = false from hm) (by decide)
  | true =>
    obtain ⟨o, k, e1, e2, e3, e4, _⟩ := Old.fits_yes hf
    omega
section
variable {ws : List Tk} {s : Old.Rs} {i : Old.Ins} {q lb : List UInt8}
theorem num_rng2 (hW : ∀ t ∈ ws, TkW t) : -9223372036854775808 ≤ (Old.numS ws s).2 ∧ (Old.numS ws s).2 ≤ 9223372036854775807 := by
  have z : (-9223372036854775808 : Int) ≤ 0 ∧ (0 : Int) ≤ 9223372036854775807 := ⟨by decide, by decide⟩
  unfold Old.numS
  split
  · unfold Old.numE
    split
    · next y hy =>
      split
      · show -9223372036854775808 ≤ (if _ then _ else _) ∧ (if _ then _ else _) ≤ (9223372036854775807 : Int)
        split
        · exact wrap_rng _
        · exact (hW y (List.mem_of_getElem? hy)).rg
      · exact z
    · exact z
  · exact z
theorem lab_tok (h : (Old.labR ws s).1.e = 0) : ∃ t ∈ ws, t.kind = 1 ∧ t.text = (Old.labR ws s).2 := by
  unfold Old.labR at h ⊢
  split at h
  · next he =>
    rw [if_pos he]
    split at h
    · next y hy =>
      split at h
      · next hk => simp only [hy, hk, if_true]; exact ⟨y, List.mem_of_getElem? hy, eq_of_beq hk, rfl⟩
      · exact absurd h (odd_ne (eq_of_beq he))
    · exact absurd h (odd_ne (eq_of_beq he))
  · next he => exact absurd (beq_iff_eq.2 h) he
end
theorem sound_acc {j : Old.Ins} (h : Old.soundB j = true) (ho : j.op = 4 ∨ j.op = 5 ∨ j.op = 6) : Old.accB j = true := by
  unfold Old.soundB at h
  generalize Old.accB j = ab at h ⊢
  rcases ho with e | e | e
  · simp [e] at h; exact h.1.2
  · simp [e] at h; exact h.2
  · simp [e] at h; exact h.1.2
theorem ws_len {l : List UInt8} {ws : List Tk} (h : tokensR l = (ws, 0, 0)) : ∀ t ∈ ws, t.text.length ≤ l.length := by
  by_cases hl : l.length > 8192
  · rw [tokens_long hl] at h
    have := congrArg (fun z => z.2.1) h
    exact absurd (show (2 : Int) = 0 from this) (by decide)
  · have hw := ws_toks (l.length + 1) l 0 [] (Nat.zero_le _) (Nat.zero_le _) (fun t ht => by cases ht)
    rw [← tokens_short (by omega), h] at hw
    exact fun t ht => (hw.2 t ht).2.2
theorem toO_inj {x y : In} (h : toO x = toO y) : x = y := by
  have := congrArg frO h
  exact this
theorem bool_no {x y : Bool} (h : x = true → y = false) : (x && y) = false := by cases x; rfl; exact h rfl
end Go.Proofs.YtedlaclfhgneeabGreatDoor
namespace Go.Proofs.YtedlaclfhgneeabGreatDoor
open Go.RowKit
set_option linter.unusedVariables false
set_option linter.unusedSimpArgs false
set_option maxRecDepth 100000
set_option maxHeartbeats 2000000
set_option simprocs false
def regsA : List (List UInt8) := [[88, 48], [88, 49], [88, 50], [88, 51], [88, 52], [88, 53], [88, 54], [88, 55]]
def nameA (r : Int) : List UInt8 := if r < 0 then [] else (regsA[r.toNat]?).getD []
def regA (q : List UInt8) : Int := Old.idxL regsA q 0
def tlA (n : Int) : List UInt8 := if n == 1 then [66] else if n == 2 then [72] else if n == 4 then [87] else []
def alusA : List (List UInt8) := [[65, 68, 68], [83, 85, 66], [69, 79, 82], [65, 78, 68], [79, 82, 82]]
def aluA (q : List UInt8) : Int := idxS alusA q + 1
def tailsA : List (List UInt8) := [[66], [72], [87], []]
def szA (q h : List UInt8) : Int := if preB q h then Old.szI (Old.idxL tailsA (q.drop h.length) 0) else 0
def ordA (q h : List UInt8) : Int × Bool × Bool := if szA q (h ++ []) > 0 then (szA q (h ++ []), false, false) else if szA q (h ++ [65]) > 0 then (szA q (h ++ [65]), true, false) else if szA q (h ++ [76]) > 0 then (szA q (h ++ [76]), false, true) else if szA q (h ++ [65, 76]) > 0 then (szA q (h ++ [65, 76]), true, true) else (0, false, false)
theorem nameA_o {g : Int} (h : ((decide (g < 0)) || (decide (g > 7))) = true) : nameA g = [] := by
  unfold nameA
  simp only [Bool.or_eq_true, decide_eq_true_eq] at h
  rcases h with h | h
  · rw [if_pos h]
  · rw [if_neg (by omega), List.getElem?_eq_none (by show regsA.length ≤ _; have : regsA.length = 8 := rfl; omega)]; rfl
def immAr (L : List Tk) (s : Old.Rs) : Old.Rs × Int := Old.numS L (Old.markR L [35] s)
def barA (L : List Tk) (s : Old.Rs) : Old.Rs × Int × Int := match L[s.p]? with
    | some y => if y.kind == 1 && y.text == [83, 89] then (⟨s.e, s.a, s.p + 1⟩, 3, 3) else if y.kind == 1 && y.text == [76, 68] then (⟨s.e, s.a, s.p + 1⟩, 1, 3) else if y.kind == 1 && y.text == [83, 84] then (⟨s.e, s.a, s.p + 1⟩, 2, 2) else (Old.oddR L true s, 3, 3)
    | none => (Old.oddR L true s, 3, 3)
def threeA (rf : List UInt8 → Int) (L : List Tk) (s : Old.Rs) (i : Old.Ins) : Old.Rs × Old.Ins := memG rf L (Old.markR L [44] (regG rf L (Old.markR L [44] (regG rf L s).1)).1) { i with a := (regG rf L s).2, dst := (regG rf L (Old.markR L [44] (regG rf L s).1)).2 }
section
variable {ws : List Tk} {s : Old.Rs} {i : Old.Ins}
end
abbrev kQ9 (i : Old.Ins) (q : List UInt8) (f : Int) : Old.Ins := Old.Ins.mk 6 i.dst i.a i.b i.imm i.loc i.off i.index (((ordA q [83, 87, 80]).1) + ((ordA q [76, 68, 65, 68, 68]).1)) f (((ordA q [83, 87, 80]).2.1) || ((ordA q [76, 68, 65, 68, 68]).2.1)) i.weak (((ordA q [83, 87, 80]).2.2) || ((ordA q [76, 68, 65, 68, 68]).2.2)) i.pred i.succ i.to i.zero
def armR (ws : List Tk) (s : Old.Rs) (i : Old.Ins) (q : List UInt8) : (Bool × List UInt8) × Old.Rs × Old.Ins := if q = [77, 79, 86] then if (isR ws (Old.markR ws [44] ((regG regA ws s).1)) [35]) = true then ((true, []), ((immAr ws (Old.markR ws [44] ((regG regA ws s).1))).1), (Old.Ins.mk 1 ((regG regA ws s).2) i.a i.b ((immAr ws (Old.markR ws [44] ((regG regA ws s).1))).2) i.loc i.off i.index i.size i.fn i.acq i.weak i.rel i.pred i.succ i.to i.zero)) else ((true, []), ((regG regA ws (Old.markR ws [44] ((regG regA ws s).1))).1), (Old.Ins.mk 2 ((regG regA ws s).2) ((regG regA ws (Old.markR ws [44] ((regG regA ws s).1))).2) i.b i.imm i.loc i.off i.index i.size i.fn i.acq i.weak i.rel i.pred i.succ i.to i.zero)) else if (aluA q) > 0 then if (isR ws (Old.markR ws [44] ((regG regA ws (Old.markR ws [44] ((regG regA ws s).1))).1)) [35]) = true then ((true, []), ((immAr ws (Old.markR ws [44] ((regG regA ws (Old.markR ws [44] ((regG regA ws s).1))).1))).1), (Old.Ins.mk 3 ((regG regA ws s).2) ((regG regA ws (Old.markR ws [44] ((regG regA ws s).1))).2) i.b ((immAr ws (Old.markR ws [44] ((regG regA ws (Old.markR ws [44] ((regG regA ws s).1))).1))).2) i.loc i.off i.index i.size (aluA q) i.acq i.weak i.rel i.pred i.succ i.to i.zero)) else ((true, []), ((regG regA ws (Old.markR ws [44] ((regG regA ws (Old.markR ws [44] ((regG regA ws s).1))).1))).1), (Old.Ins.mk 3 ((regG regA ws s).2) ((regG regA ws (Old.markR ws [44] ((regG regA ws s).1))).2) ((regG regA ws (Old.markR ws [44] ((regG regA ws (Old.markR ws [44] ((regG regA ws s).1))).1))).2) i.imm i.loc i.off i.index i.size (aluA q) i.acq i.weak i.rel i.pred i.succ i.to i.zero)) else if (((szA q [76, 68, 82]) + (szA q [76, 68, 65, 82])) + (szA q [76, 68, 65, 80, 82])) > 0 then ((true, []), ((memG regA ws (Old.markR ws [44] ((regG regA ws s).1)) (Old.Ins.mk 4 ((regG regA ws s).2) i.a i.b i.imm i.loc i.off i.index (((szA q [76, 68, 82]) + (szA q [76, 68, 65, 82])) + (szA q [76, 68, 65, 80, 82])) i.fn (decide ((szA q [76, 68, 65, 82]) > 0)) (decide ((szA q [76, 68, 65, 80, 82]) > 0)) i.rel i.pred i.succ i.to i.zero)).1), ((memG regA ws (Old.markR ws [44] ((regG regA ws s).1)) (Old.Ins.mk 4 ((regG regA ws s).2) i.a i.b i.imm i.loc i.off i.index (((szA q [76, 68, 82]) + (szA q [76, 68, 65, 82])) + (szA q [76, 68, 65, 80, 82])) i.fn (decide ((szA q [76, 68, 65, 82]) > 0)) (decide ((szA q [76, 68, 65, 80, 82]) > 0)) i.rel i.pred i.succ i.to i.zero)).2)) else if ((szA q [83, 84, 82]) + (szA q [83, 84, 76, 82])) > 0 then ((true, []), ((memG regA ws (Old.markR ws [44] ((regG regA ws s).1)) (Old.Ins.mk 5 i.dst ((regG regA ws s).2) i.b i.imm i.loc i.off i.index ((szA q [83, 84, 82]) + (szA q [83, 84, 76, 82])) i.fn i.acq i.weak (decide ((szA q [83, 84, 76, 82]) > 0)) i.pred i.succ i.to i.zero)).1), ((memG regA ws (Old.markR ws [44] ((regG regA ws s).1)) (Old.Ins.mk 5 i.dst ((regG regA ws s).2) i.b i.imm i.loc i.off i.index ((szA q [83, 84, 82]) + (szA q [83, 84, 76, 82])) i.fn i.acq i.weak (decide ((szA q [83, 84, 76, 82]) > 0)) i.pred i.succ i.to i.zero)).2)) else if (((ordA q [83, 87, 80]).1) + ((ordA q [76, 68, 65, 68, 68]).1)) > 0 then if ((ordA q [76, 68, 65, 68, 68]).1) > 0 then ((true, []), ((threeA regA ws s (kQ9 i q 1)).1), ((threeA regA ws s (kQ9 i q 1)).2)) else ((true, []), ((threeA regA ws s (kQ9 i q 6)).1), ((threeA regA ws s (kQ9 i q 6)).2)) else if q = [68, 77, 66] then ((true, []), ((barA ws s).1), (Old.Ins.mk (Old.Ins.mk 7 i.dst i.a i.b i.imm i.loc i.off i.index i.size i.fn i.acq i.weak i.rel i.pred i.succ i.to i.zero).op (Old.Ins.mk 7 i.dst i.a i.b i.imm i.loc i.off i.index i.size i.fn i.acq i.weak i.rel i.pred i.succ i.to i.zero).dst (Old.Ins.mk 7 i.dst i.a i.b i.imm i.loc i.off i.index i.size i.fn i.acq i.weak i.rel i.pred i.succ i.to i.zero).a (Old.Ins.mk 7 i.dst i.a i.b i.imm i.loc i.off i.index i.size i.fn i.acq i.weak i.rel i.pred i.succ i.to i.zero).b (Old.Ins.mk 7 i.dst i.a i.b i.imm i.loc i.off i.index i.size i.fn i.acq i.weak i.rel i.pred i.succ i.to i.zero).imm (Old.Ins.mk 7 i.dst i.a i.b i.imm i.loc i.off i.index i.size i.fn i.acq i.weak i.rel i.pred i.succ i.to i.zero).loc (Old.Ins.mk 7 i.dst i.a i.b i.imm i.loc i.off i.index i.size i.fn i.acq i.weak i.rel i.pred i.succ i.to i.zero).off (Old.Ins.mk 7 i.dst i.a i.b i.imm i.loc i.off i.index i.size i.fn i.acq i.weak i.rel i.pred i.succ i.to i.zero).index (Old.Ins.mk 7 i.dst i.a i.b i.imm i.loc i.off i.index i.size i.fn i.acq i.weak i.rel i.pred i.succ i.to i.zero).size (Old.Ins.mk 7 i.dst i.a i.b i.imm i.loc i.off i.index i.size i.fn i.acq i.weak i.rel i.pred i.succ i.to i.zero).fn (Old.Ins.mk 7 i.dst i.a i.b i.imm i.loc i.off i.index i.size i.fn i.acq i.weak i.rel i.pred i.succ i.to i.zero).acq (Old.Ins.mk 7 i.dst i.a i.b i.imm i.loc i.off i.index i.size i.fn i.acq i.weak i.rel i.pred i.succ i.to i.zero).weak (Old.Ins.mk 7 i.dst i.a i.b i.imm i.loc i.off i.index i.size i.fn i.acq i.weak i.rel i.pred i.succ i.to i.zero).rel (barA ws s).2.1 (barA ws s).2.2 (Old.Ins.mk 7 i.dst i.a i.b i.imm i.loc i.off i.index i.size i.fn i.acq i.weak i.rel i.pred i.succ i.to i.zero).to (Old.Ins.mk 7 i.dst i.a i.b i.imm i.loc i.off i.index i.size i.fn i.acq i.weak i.rel i.pred i.succ i.to i.zero).zero)) else if q = [73, 83, 66] then ((true, []), s, (Old.Ins.mk 8 i.dst i.a i.b i.imm i.loc i.off i.index i.size i.fn i.acq i.weak i.rel i.pred i.succ i.to i.zero)) else if ((q == [67, 66, 90]) || (q == [67, 66, 78, 90])) = true then ((true, (branG regA ws s i (q == [67, 66, 90])).1), ((branG regA ws s i (q == [67, 66, 90])).2.1), ((branG regA ws s i (q == [67, 66, 90])).2.2)) else ((false, []), s, i)
def parM (L : List Tk) : Old.Ins × List UInt8 × Int × Int := match L[0]? with
  | none => Old.badR L
  | some y => if y.kind == 1 then Old.finR L (armR L ⟨0, 0, 0 + 1⟩ Old.blank y.text) else Old.badR L
section
variable {ws : List Tk} {s : Old.Rs} {i : Old.Ins}
theorem pm_bad (h : ((!(decide (0 < ws.length))) || (!((ws.getD 0 tok0).kind == 1))) = true) : parM ws = (Old.ins0, [], (Old.oddR ws true ⟨0, 0, 0⟩).e, (Old.oddR ws true ⟨0, 0, 0⟩).a) := by
  unfold parM
  by_cases hl : 0 < ws.length
  · rw [tk_get hl]
    rw [decide_eq_true hl] at h
    simp only
    rw [if_neg]
    · rfl
    · revert h
      cases ((ws.getD 0 tok0).kind == 1) <;> decide
  · rw [tk_non hl]; rfl
theorem pm_go (h : ((!(decide (0 < ws.length))) || (!((ws.getD 0 tok0).kind == 1))) = false) : parM ws = Old.finR ws (armR ws ⟨0, 0, nxK ws 0⟩ Old.blank (ws.getD 0 tok0).text) := by
  unfold parM
  by_cases hl : 0 < ws.length
  · rw [tk_get hl, nxK_y hl]
    rw [decide_eq_true hl] at h
    simp only
    rw [if_pos]
    revert h
    cases ((ws.getD 0 tok0).kind == 1) <;> decide
  · rw [decide_eq_false hl] at h; cases h
end
theorem nameA_le (r : Int) : (nameA r).length ≤ 2 := by
  unfold nameA
  split
  · exact Nat.zero_le _
  · cases h : regsA[r.toNat]? with
    | none => exact Nat.zero_le _
    | some x =>
      have hm := List.mem_of_getElem? h
      have : ∀ x ∈ regsA, x.length ≤ 2 := by decide
      exact this x hm
theorem tlA_le (n : Int) : (tlA n).length ≤ 1 := by
  unfold tlA; (repeat' split) <;> decide
def kror0 (r : Int) (v : Int) : List UInt8 := if r < 0 then [35] ++ Lib.itoa v else nameA r
theorem kror_le (r v : Int) (hv : -9223372036854775808 ≤ v ∧ v ≤ 9223372036854775807) : (kror0 r v).length ≤ 22 := by
  have := itoa_le v hv; have := nameA_le r; unfold kror0; split <;> (try simp only [List.length_append, List.length_cons, List.length_nil]) <;> omega
def kmem0 (i : In) : List UInt8 := if i.off ≠ 0 then if i.ix ≥ 0 then ((((([91] ++ (Old.locN (i.loc).toNat)) ++ [43]) ++ (Lib.itoa i.off)) ++ [43]) ++ (nameA i.ix)) ++ [93] else ((([91] ++ (Old.locN (i.loc).toNat)) ++ [43]) ++ (Lib.itoa i.off)) ++ [93] else if i.ix ≥ 0 then ((([91] ++ (Old.locN (i.loc).toNat)) ++ [43]) ++ (nameA i.ix)) ++ [93] else ([91] ++ (Old.locN (i.loc).toNat)) ++ [93]
theorem kmem_le (i : In) (h : -9223372036854775808 ≤ i.off ∧ i.off ≤ 9223372036854775807) : (kmem0 i).length ≤ 40 := by
  have := itoa_le i.off h; have := nameA_le i.ix; have := locN_le i.loc.toNat
  unfold kmem0; (repeat' split) <;> simp only [List.length_append, List.length_cons, List.length_nil] <;> omega
def kbr0 (z : Bool) : List UInt8 := if z = true then [67, 66, 90] else [67, 66, 78, 90]
def kfnT (v : Int) : List UInt8 := [[], [65, 68, 68], [83, 85, 66], [69, 79, 82], [65, 78, 68], [79, 82, 82]].getD (v).toNat []
def kfen0 (i : In) : List UInt8 := if ((i.op == 8) && ((3 : Int) == 3)) = true then [73, 83, 66] else if i.op = 8 then [] else if ((((3 : Int) == 1) && (i.pred == 3)) && (i.succ == 3)) = true then [77, 70, 69, 78, 67, 69] else if ((((3 : Int) == 3) && (i.pred == 3)) && (i.succ == 3)) = true then [68, 77, 66, 32, 83, 89] else if ((((3 : Int) == 3) && (i.pred == 1)) && (i.succ == 3)) = true then [68, 77, 66, 32, 76, 68] else if ((((3 : Int) == 3) && (i.pred == 2)) && (i.succ == 2)) = true then [68, 77, 66, 32, 83, 84] else []
def krmw0 (i : In) (ds : List UInt8) (az : List UInt8) (ts : List UInt8) (ms : List UInt8) : List UInt8 := if i.fn = 1 then if i.acq = true then if i.rel = true then (((((((([76, 68, 65, 68, 68] ++ [65]) ++ [76]) ++ ts) ++ [32]) ++ az) ++ [44]) ++ ds) ++ [44]) ++ ms else ((((((([76, 68, 65, 68, 68] ++ [65]) ++ ts) ++ [32]) ++ az) ++ [44]) ++ ds) ++ [44]) ++ ms else if i.rel = true then ((((((([76, 68, 65, 68, 68] ++ [76]) ++ ts) ++ [32]) ++ az) ++ [44]) ++ ds) ++ [44]) ++ ms else (((((([76, 68, 65, 68, 68] ++ ts) ++ [32]) ++ az) ++ [44]) ++ ds) ++ [44]) ++ ms else if i.acq = true then if i.rel = true then (((((((([83, 87, 80] ++ [65]) ++ [76]) ++ ts) ++ [32]) ++ az) ++ [44]) ++ ds) ++ [44]) ++ ms else ((((((([83, 87, 80] ++ [65]) ++ ts) ++ [32]) ++ az) ++ [44]) ++ ds) ++ [44]) ++ ms else if i.rel = true then ((((((([83, 87, 80] ++ [76]) ++ ts) ++ [32]) ++ az) ++ [44]) ++ ds) ++ [44]) ++ ms else (((((([83, 87, 80] ++ ts) ++ [32]) ++ az) ++ [44]) ++ ds) ++ [44]) ++ ms
def kacc0 (i : In) (ds : List UInt8) (az : List UInt8) : List UInt8 := if ((i.op == 4) && ((3 : Int) == 3)) = true then if i.acq = true then if i.weak = true then (((([76, 68, 65, 80, 82] ++ (tlA i.sz)) ++ [32]) ++ ds) ++ [44]) ++ (kmem0 i) else (((([76, 68, 65, 82] ++ (tlA i.sz)) ++ [32]) ++ ds) ++ [44]) ++ (kmem0 i) else if i.weak = true then (((([76, 68, 65, 80, 82] ++ (tlA i.sz)) ++ [32]) ++ ds) ++ [44]) ++ (kmem0 i) else (((([76, 68, 82] ++ (tlA i.sz)) ++ [32]) ++ ds) ++ [44]) ++ (kmem0 i) else if ((i.op == 4) && (i.acq || i.weak)) = true then [] else if ((i.op == 4) && ((3 : Int) == 2)) = true then (((([108] ++ (tlA i.sz)) ++ [32]) ++ ds) ++ [44]) ++ (kmem0 i) else if i.op = 4 then (((([77, 79, 86] ++ (tlA i.sz)) ++ [32]) ++ ds) ++ [44]) ++ (kmem0 i) else if ((i.op == 5) && ((3 : Int) == 1)) = true then if i.rel = true then [] else (((([77, 79, 86] ++ (tlA i.sz)) ++ [32]) ++ (kmem0 i)) ++ [44]) ++ (kror0 i.ra i.imm) else if ((i.op == 5) && (decide (i.ra < 0))) = true then [] else if ((i.op == 5) && ((3 : Int) == 2)) = true then if i.rel = true then [] else (((([115] ++ (tlA i.sz)) ++ [32]) ++ az) ++ [44]) ++ (kmem0 i) else if i.op = 5 then if i.rel = true then (((([83, 84, 76, 82] ++ (tlA i.sz)) ++ [32]) ++ az) ++ [44]) ++ (kmem0 i) else (((([83, 84, 82] ++ (tlA i.sz)) ++ [32]) ++ az) ++ [44]) ++ (kmem0 i) else krmw0 i ds az (tlA i.sz) (kmem0 i)
def ktxt0 (i : In) (lb : List UInt8) : List UInt8 := if i.op = 1 then (([77, 79, 86, 32] ++ (nameA i.dst)) ++ [44]) ++ ([35] ++ Lib.itoa i.imm) else if i.op = 2 then (([77, 79, 86, 32] ++ (nameA i.dst)) ++ [44]) ++ (nameA i.ra) else if i.op = 3 then if (((3 : Int) == 2) && (decide (i.rb < 0))) = true then (((((((kfnT i.fn) ++ [105]) ++ [32]) ++ (nameA i.dst)) ++ [44]) ++ (nameA i.ra)) ++ [44]) ++ (kror0 i.rb i.imm) else ((((((kfnT i.fn) ++ [32]) ++ (nameA i.dst)) ++ [44]) ++ (nameA i.ra)) ++ [44]) ++ (kror0 i.rb i.imm) else if i.op = 9 then ((((kbr0 i.zero) ++ [32]) ++ (nameA i.ra)) ++ [44]) ++ lb else if i.op = 7 then kfen0 i else if i.op = 8 then kfen0 i else kacc0 i (nameA i.dst) (nameA i.ra)
def prA (i : In) (lb : List UInt8) : List UInt8 × Int := if i.op = 9 then (if Old.rightR (toO ({ i with to_ := 1 } : In)) 0 1 = 0 then (if ktxt0 i lb = [] then ([], 36) else if oneN lb = true then (ktxt0 i lb, 0) else ([], 37)) else ([], 34)) else (if Old.rightR (toO i) 0 1 = 0 then (if ktxt0 i lb = [] then ([], 36) else (ktxt0 i lb, 0)) else ([], 34))
end Go.Proofs.YtedlaclfhgneeabGreatDoor
namespace Go.Proofs.YtedlaclfhgneeabGreatDoor
open Go.Shelf Go.RowKit
set_option linter.unusedVariables false
def laysGrow_ren : Go.Shelf.Ren := ⟨fun | 4 => 133 | n => n, fun | 22 => 64 | 25 => 128 | n => n, fun | n => n⟩
theorem laysGrow : Go.Proofs.Lays8.n4 Tryz.prog laysGrow_ren := {
  mixed := by kernel_rfl
  f4 := ⟨"slices.Grow[[]belated/lang.Row,belated/lang.Row]", by decide, Tryz.func133.trans (congrArg some (by kernel_rfl))⟩
  t0 := Tryz.underlying0
  a0 := Tryz.isAgg0
  z0 := Tryz.sizeOf0
  v0 := Tryz.zeroValue0
  t3 := Tryz.underlying3
  a3 := Tryz.isAgg3
  z3 := Tryz.sizeOf3
  v3 := Tryz.zeroValue3
  t4 := Tryz.underlying4
  a4 := Tryz.isAgg4
  z4 := Tryz.sizeOf4
  v4 := Tryz.zeroValue4
  t9 := Tryz.underlying9
  a9 := Tryz.isAgg9
  z9 := Tryz.sizeOf9
  v9 := Tryz.zeroValue9
  t20 := Tryz.underlying20
  a20 := Tryz.isAgg20
  z20 := Tryz.sizeOf20
  v20 := Tryz.zeroValue20
  t22 := Tryz.underlying64
  a22 := Tryz.isAgg64
  z22 := Tryz.sizeOf64
  v22 := Tryz.zeroValue64 }
theorem rowInfo : ∃ ti z, Tryz.prog.info? 128 = some ti ∧ ti.zero = some z ∧ z.cells.size = 20 ∧ ti.size = 20 ∧ ti.bytes ≤ 100000 := by
  have h : (Tryz.prog.info? 128).map (fun ti => (ti.zero.map (fun z => z.cells.size), ti.size, Nat.ble ti.bytes 100000)) = some (some 20, 20, true) := by kernel_rfl
  cases e : Tryz.prog.info? 128 with
  | none => rw [e] at h; cases h
  | some ti =>
    rw [e] at h
    simp only [Option.map_some, Option.some.injEq, Prod.mk.injEq] at h
    obtain ⟨h1, h2, h3⟩ := h
    cases ez : ti.zero with
    | none => rw [ez] at h1; cases h1
    | some z =>
      rw [ez] at h1
      simp only [Option.map_some, Option.some.injEq] at h1
      exact ⟨ti, z, rfl, ez, h1, h2, Nat.le_of_ble_eq_true h3⟩
theorem grow_ (k : Nat) (h0 : 0 < k) (hk : k ≤ 1000000) : FnR Tryz.prog 133 [.sla none 0 0, .int .i64 k] [] (fun x w w' => ∃ (L : List Rw) (b cp : Nat), x = .sla (some ⟨b, 0, none⟩) 0 cp ∧ L = [] ∧ w.heap.size ≤ b ∧ Given 128 20 0 (fun zz => rwc (L.getD zz Rw.z)) b cp w') := by
  refine ⟨by kernel_rfl, fun G w vs hM hv => ?_⟩
  have hv' : some [Value.slice none 0 0, .int .i64 k] = some vs := hv
  cases hv'
  obtain ⟨ti, z, e1, e2, e3, e4, e5⟩ := rowInfo
  have hc := Any8.slices_Grow_grow laysGrow ti z e1 e2 (by omega) none 0 0 k [] w (Nat.le_refl _) (by omega) (by
    have : (0 + k) * ti.bytes ≤ 1000000 * 100000 := Nat.mul_le_mul (by omega) e5
    omega) (by omega) (by simp) (fun _ => rfl) (fun a ha => by cases ha)
  refine hc.mono ?_
  rintro e w' ⟨rfl, rfl⟩
  have hge := grownCap_ge w (0 + k) 0 128
  refine ⟨.sla (some ⟨w.heap.size, 0, none⟩) 0 (grownCap w (0 + k) 0 128), _, rfl, rfl, ((Grow.refl w).drew).alloc _, [], w.heap.size, _, rfl, rfl, Nat.le_refl _, fun k => ⟨_, rfl, rfl⟩, [], rfl, ?_⟩
  refine World.ownsRow_made w.drew _ _ (Nat.zero_le _) (grownCap_le_maxLen w (0 + k) 0 128 (by unfold maxLen; omega)) ?_
  show (([] : List Value).toArray ++ Builtin.zeroCells z.cells (0 + k - 0) ++ Builtin.zeroCells z.cells (grownCap w (0 + k) 0 128 - (0 + k))).size = _
  simp only [Array.size_append, List.size_toArray, List.length_nil, size_zeroCells, e3]
  omega
end Go.Proofs.YtedlaclfhgneeabGreatDoor
namespace Go.Proofs.YtedlaclfhgneeabGreatDoor
open Go.RowKit
set_option linter.unusedVariables false
set_option linter.unusedSimpArgs false
set_option maxRecDepth 100000
set_option maxHeartbeats 2000000
set_option simprocs false
section
variable {P : Program} {n : Nat} {ks : List Nat} {G0 : Gr} {w0 : World} {T : List (Nat × SV)} {H : Hp} {G : Gr} {a : Act} {w w' : World} {Q : Exit → Act → World → Prop} {K : List Fr} {ops : Array Oper} {o : Oper} {rest : List Oper} {c : Code}
theorem RND {q : Nat} (h : Goal P Q (.lp (Code.rounds P c (wpK P Q K) q) :: K) (.code c) a w) : Code.rounds P c (wpK P Q K) (q + 1) a w := h
theorem UNR (q : Nat) (h : Code.rounds P c (wpK P Q K) q a w) : Goal P Q K (.code (.loop c)) a w := wp_loop_rounds q h
theorem CALLROWA {β : Type} {e s m t f : Nat} {az : List SV} {F : β → Nat → List SV} {R : β → Nat → World → World → Prop} (hf : FnR P f az [] (fun x w w' => ∃ (L : β) (b cp : Nat), x = .sla (some ⟨b, 0, none⟩) m cp ∧ R L b w w' ∧ w.heap.size ≤ b ∧ Given e s m (F L) b cp w')) (A : Sy n T H ks G0 w0 G a w) (hd : o.dst = some t) (h1 : callS n ops T o = some (f, az)) (h2 : renL [] az = some az)
    (k : ∀ L b cp a' w' G', R L b w w' → w.heap.size ≤ b → (∀ k, (keys (H ++ [some (.row e s m 0 (F L))]) G').contains k = true → k < w.heap.size ∨ k = b) → Sy n ((t, .sl H.length m 0) :: extS T o.dst (.sla (some ⟨b, 0, none⟩) m cp)) (H ++ [some (.row e s m 0 (F L))]) ks G0 w0 G' a' w' → Goal P Q K (.ops ops rest) a' w') : Goal P Q K (.ops ops (o :: rest)) a w := by
  refine CALLR [] hf A h1 h2 rfl rfl rfl fun x a' w' hJ hk A' => ?_
  obtain ⟨L, b, cp, rfl, hR, hlo, hg⟩ := hJ
  have hl : look (extS T o.dst (.sla (some ⟨b, 0, none⟩) m cp)) t = some (.sla (some ⟨b, 0, none⟩) m cp) := by rw [hd]; simp [extS, look, Nat.beq_refl]
  have A2 := A'.takeRow t hg (fun i e L q1 q2 q3 => by
    have := A.mem.ent i e q1
    rw [q2] at this
    have := EntOK.lt this q3
    omega) (Nat.le_trans A.mix.size hlo) hl
  refine k L b cp a' w' _ hR hlo (fun k hk' => ?_) A2
  obtain ⟨i, e', M, q1, q2, q3, q4⟩ := mem_keys.1 hk'
  have hlen := A.mem.len
  by_cases hi : i < H.length
  · rw [List.getElem?_append_left hi] at q1
    rw [List.getElem?_append_left (by omega)] at q3
    exact .inl (hk k (mem_keys.2 ⟨i, e', M, q1, q2, q3, q4⟩))
  · right
    have hi2 : i = G.length := by
      have := (List.getElem?_eq_some_iff.1 q3).1
      simp at this
      omega
    subst hi2
    rw [List.getElem?_append_right (Nat.le_refl _)] at q3
    simp at q3
    rw [← q4, ← q3]
end
theorem ix_p {i o s m k : Nat} (j : Nat) {q : Nat} (hq : o + j * s + k = q) : ∀ G, den G (.ix (.ptr i o) s m (j : Int) k) = den G (.ptr i q) := fun G => by
  subst hq
  unfold den
  cases hG : G[i]? with
  | none => unfold den; rw [hG]
  | some p => cases p with
    | none => unfold den; rw [hG]
    | some L => unfold den; rw [hG]; simp [Nat.add_assoc]
theorem concat5_ (L1 L2 L3 L4 L5 : List Rw) (c1 c2 c3 c4 c5 : Nat) (l1 : L1.length = 10) (l12 : (L1 ++ L2).length = 15) (l13 : ((L1 ++ L2) ++ L3).length = 23) (l14 : (((L1 ++ L2) ++ L3) ++ L4).length = 26) : Fn Tryz.prog 67 [.sl 0 5 5] [some (.blk [.sl 1 10 c1, .sl 2 5 c2, .sl 3 8 c3, .sl 4 3 c4, .sl 5 5 c5]), some (.lst 20 10 (fun zz => rwc (L1.getD zz Rw.z))), some (.lst 20 5 (fun zz => rwc (L2.getD zz Rw.z))), some (.lst 20 8 (fun zz => rwc (L3.getD zz Rw.z))), some (.lst 20 3 (fun zz => rwc (L4.getD zz Rw.z))), some (.lst 20 5 (fun zz => rwc (L5.getD zz Rw.z)))] (Rt (.sl 6 31 0) [some (.blk [.sl 1 10 c1, .sl 2 5 c2, .sl 3 8 c3, .sl 4 3 c4, .sl 5 5 c5]), some (.lst 20 10 (fun zz => rwc (L1.getD zz Rw.z))), some (.lst 20 5 (fun zz => rwc (L2.getD zz Rw.z))), some (.lst 20 8 (fun zz => rwc (L3.getD zz Rw.z))), some (.lst 20 3 (fun zz => rwc (L4.getD zz Rw.z))), some (.lst 20 5 (fun zz => rwc (L5.getD zz Rw.z))), some (.row 128 20 31 0 (fun zz => rwc (((((L1 ++ L2) ++ L3) ++ L4) ++ L5).getD zz Rw.z)))]) :=
 enterM (n := 36) (by kernel_rfl) Tryz.func67 rfl rfl rfl fun G w a h0 A => N hX 15 A rfl rfl fun A => have A := sy_sayD A 10 (.int .i64 5) rfl (fun _ => rfl); N hX 1 A rfl rfl fun A => N hX 3 A rfl rfl fun A => UNR 6 (RND (have A := A.cut [0, 2, 3, 9, 10, 11] rfl;
 N hX 6 A rfl rfl fun A => forkD 12 A rfl
   (fun h1 A => N hX 8 A rfl (ok_d (by omega) <| okE_nil) fun A => have A := sy_sayD A 13 (.ptr 0 0) rfl (ix_p 0 rfl); N hX 7 A rfl rfl fun A => N hX 2 A rfl rfl fun A => have A := sy_sayD A 17 (.int .i64 10) rfl (fun _ => rfl); N hX 1 A rfl (ok_d (by omega) <| okE_nil) fun A => have A := sy_sayD A 18 (.int .i64 10) rfl (fun _ => rfl); N hX 6 A rfl rfl fun A => N hX 3 A rfl rfl fun A => forkD 20 A rfl
    (fun h2 A => absurd h2 (by decide))
    (fun h2 A => N hX 6 A rfl (ok_d (by omega) <| okE_nil) fun A => have A := sy_sayD A 22 (.int .i64 1) rfl (fun _ => rfl); N hX 1 A rfl rfl fun A => N hX 1 A rfl rfl fun A => RND (have A := A.cut [0, 2, 3, 9, 10, 11] rfl;
 N hX 6 A rfl rfl fun A => forkD 12 A rfl
     (fun h3 A => N hX 8 A rfl (ok_d (by omega) <| okE_nil) fun A => have A := sy_sayD A 13 (.ptr 0 1) rfl (ix_p 1 rfl); N hX 7 A rfl rfl fun A => N hX 2 A rfl rfl fun A => have A := sy_sayD A 17 (.int .i64 5) rfl (fun _ => rfl); N hX 1 A rfl (ok_d (by omega) <| okE_nil) fun A => have A := sy_sayD A 18 (.int .i64 15) rfl (fun _ => rfl); N hX 6 A rfl rfl fun A => N hX 3 A rfl rfl fun A => forkD 20 A rfl
      (fun h4 A => absurd h4 (by decide))
      (fun h4 A => N hX 6 A rfl (ok_d (by omega) <| okE_nil) fun A => have A := sy_sayD A 22 (.int .i64 2) rfl (fun _ => rfl); N hX 1 A rfl rfl fun A => N hX 1 A rfl rfl fun A => RND (have A := A.cut [0, 2, 3, 9, 10, 11] rfl;
 N hX 6 A rfl rfl fun A => forkD 12 A rfl
       (fun h5 A => N hX 8 A rfl (ok_d (by omega) <| okE_nil) fun A => have A := sy_sayD A 13 (.ptr 0 2) rfl (ix_p 2 rfl); N hX 7 A rfl rfl fun A => N hX 2 A rfl rfl fun A => have A := sy_sayD A 17 (.int .i64 8) rfl (fun _ => rfl); N hX 1 A rfl (ok_d (by omega) <| okE_nil) fun A => have A := sy_sayD A 18 (.int .i64 23) rfl (fun _ => rfl); N hX 6 A rfl rfl fun A => N hX 3 A rfl rfl fun A => forkD 20 A rfl
        (fun h6 A => absurd h6 (by decide))
        (fun h6 A => N hX 6 A rfl (ok_d (by omega) <| okE_nil) fun A => have A := sy_sayD A 22 (.int .i64 3) rfl (fun _ => rfl); N hX 1 A rfl rfl fun A => N hX 1 A rfl rfl fun A => RND (have A := A.cut [0, 2, 3, 9, 10, 11] rfl;
 N hX 6 A rfl rfl fun A => forkD 12 A rfl
         (fun h7 A => N hX 8 A rfl (ok_d (by omega) <| okE_nil) fun A => have A := sy_sayD A 13 (.ptr 0 3) rfl (ix_p 3 rfl); N hX 7 A rfl rfl fun A => N hX 2 A rfl rfl fun A => have A := sy_sayD A 17 (.int .i64 3) rfl (fun _ => rfl); N hX 1 A rfl (ok_d (by omega) <| okE_nil) fun A => have A := sy_sayD A 18 (.int .i64 26) rfl (fun _ => rfl); N hX 6 A rfl rfl fun A => N hX 3 A rfl rfl fun A => forkD 20 A rfl
          (fun h8 A => absurd h8 (by decide))
          (fun h8 A => N hX 6 A rfl (ok_d (by omega) <| okE_nil) fun A => have A := sy_sayD A 22 (.int .i64 4) rfl (fun _ => rfl); N hX 1 A rfl rfl fun A => N hX 1 A rfl rfl fun A => RND (have A := A.cut [0, 2, 3, 9, 10, 11] rfl;
 N hX 6 A rfl rfl fun A => forkD 12 A rfl
           (fun h9 A => N hX 8 A rfl (ok_d (by omega) <| okE_nil) fun A => have A := sy_sayD A 13 (.ptr 0 4) rfl (ix_p 4 rfl); N hX 7 A rfl rfl fun A => N hX 2 A rfl rfl fun A => have A := sy_sayD A 17 (.int .i64 5) rfl (fun _ => rfl); N hX 1 A rfl (ok_d (by omega) <| okE_nil) fun A => have A := sy_sayD A 18 (.int .i64 31) rfl (fun _ => rfl); N hX 6 A rfl rfl fun A => N hX 3 A rfl rfl fun A => forkD 20 A rfl
            (fun h10 A => absurd h10 (by decide))
            (fun h10 A => N hX 6 A rfl (ok_d (by omega) <| okE_nil) fun A => have A := sy_sayD A 22 (.int .i64 5) rfl (fun _ => rfl); N hX 1 A rfl rfl fun A => N hX 1 A rfl rfl fun A => RND (have A := A.cut [0, 2, 3, 9, 10, 11] rfl;
 N hX 6 A rfl rfl fun A => forkD 12 A rfl
             (fun h11 A => absurd h11 (by decide))
             (fun h11 A => N hX 6 A rfl rfl fun A => CALLROWA (t := 24) (F := fun (L : List Rw) zz => rwc (L.getD zz Rw.z)) (R := fun L b w w' => L = []) (grow_ 31 (by decide) (by decide)) A rfl rfl rfl fun L b1 cp1 a1 w1 G1 hR hlo hk A =>
 N hX 8 A rfl rfl fun A => have A := sy_sayD A 26 (.int .i64 5) rfl (fun _ => rfl); N hX 1 A rfl rfl fun A => N hX 3 A rfl rfl fun A => UNR 6 (RND (have A := A.cut [2, 6, 25, 26, 27] rfl;
 N hX 6 A rfl rfl fun A => forkD 28 A rfl
               (fun h12 A => N hX 8 A rfl (ok_d (by omega) <| okE_nil) fun A => have A := sy_sayD A 29 (.ptr 0 0) rfl (ix_p 0 rfl); N hX 7 A rfl rfl fun A => q_eff A rfl (aplE hX 10 (fun zz => rwc (L1.getD zz Rw.z)) rfl rfl rfl rfl (Nat.le_refl _) (by decide) (show 10 ≤ 1000000 by decide) rfl (fun k hk => absurd hk (Nat.not_lt_zero k)) (fun k hk => by show rwc (L1.getD (0 + k) Rw.z) = rwc _; rw [Nat.zero_add]) (fun z => ⟨_, rfl, rfl⟩) (fun k hk => ⟨_, rfl, okE_nil⟩)) fun A =>
 N hX 6 A rfl (ok_d (by omega) <| okE_nil) fun A => have A := sy_sayD A 34 (.int .i64 1) rfl (fun _ => rfl); N hX 1 A rfl rfl fun A => N hX 1 A rfl rfl fun A => RND (have A := A.cut [2, 6, 25, 26, 27] rfl;
 N hX 6 A rfl rfl fun A => forkD 28 A rfl
                (fun h13 A => N hX 8 A rfl (ok_d (by omega) <| okE_nil) fun A => have A := sy_sayD A 29 (.ptr 0 1) rfl (ix_p 1 rfl); N hX 7 A rfl rfl fun A => q_eff A rfl (aplE hX 15 (fun zz => rwc ((L1 ++ L2).getD zz Rw.z)) rfl rfl rfl rfl (Nat.le_refl _) (by decide) (show 5 ≤ 1000000 by decide) rfl (fun k hk => by show rwc _ = rwc _; rw [getD_app_l (by rw [l1]; exact hk)]) (fun k hk => by show rwc ((L1 ++ L2).getD (10 + k) Rw.z) = rwc _; rw [show 10 + k = L1.length + k by rw [l1], getD_app_r]) (fun z => ⟨_, rfl, rfl⟩) (fun k hk => ⟨_, rfl, okE_nil⟩)) fun A =>
 N hX 6 A rfl (ok_d (by omega) <| okE_nil) fun A => have A := sy_sayD A 34 (.int .i64 2) rfl (fun _ => rfl); N hX 1 A rfl rfl fun A => N hX 1 A rfl rfl fun A => RND (have A := A.cut [2, 6, 25, 26, 27] rfl;
 N hX 6 A rfl rfl fun A => forkD 28 A rfl
                 (fun h14 A => N hX 8 A rfl (ok_d (by omega) <| okE_nil) fun A => have A := sy_sayD A 29 (.ptr 0 2) rfl (ix_p 2 rfl); N hX 7 A rfl rfl fun A => q_eff A rfl (aplE hX 23 (fun zz => rwc (((L1 ++ L2) ++ L3).getD zz Rw.z)) rfl rfl rfl rfl (Nat.le_refl _) (by decide) (show 8 ≤ 1000000 by decide) rfl (fun k hk => by show rwc _ = rwc _; rw [getD_app_l (by rw [l12]; exact hk)]) (fun k hk => by show rwc (((L1 ++ L2) ++ L3).getD (15 + k) Rw.z) = rwc _; rw [show 15 + k = (L1 ++ L2).length + k by rw [l12], getD_app_r]) (fun z => ⟨_, rfl, rfl⟩) (fun k hk => ⟨_, rfl, okE_nil⟩)) fun A =>
 N hX 6 A rfl (ok_d (by omega) <| okE_nil) fun A => have A := sy_sayD A 34 (.int .i64 3) rfl (fun _ => rfl); N hX 1 A rfl rfl fun A => N hX 1 A rfl rfl fun A => RND (have A := A.cut [2, 6, 25, 26, 27] rfl;
 N hX 6 A rfl rfl fun A => forkD 28 A rfl
                  (fun h15 A => N hX 8 A rfl (ok_d (by omega) <| okE_nil) fun A => have A := sy_sayD A 29 (.ptr 0 3) rfl (ix_p 3 rfl); N hX 7 A rfl rfl fun A => q_eff A rfl (aplE hX 26 (fun zz => rwc ((((L1 ++ L2) ++ L3) ++ L4).getD zz Rw.z)) rfl rfl rfl rfl (Nat.le_refl _) (by decide) (show 3 ≤ 1000000 by decide) rfl (fun k hk => by show rwc _ = rwc _; rw [getD_app_l (by rw [l13]; exact hk)]) (fun k hk => by show rwc ((((L1 ++ L2) ++ L3) ++ L4).getD (23 + k) Rw.z) = rwc _; rw [show 23 + k = ((L1 ++ L2) ++ L3).length + k by rw [l13], getD_app_r]) (fun z => ⟨_, rfl, rfl⟩) (fun k hk => ⟨_, rfl, okE_nil⟩)) fun A =>
 N hX 6 A rfl (ok_d (by omega) <| okE_nil) fun A => have A := sy_sayD A 34 (.int .i64 4) rfl (fun _ => rfl); N hX 1 A rfl rfl fun A => N hX 1 A rfl rfl fun A => RND (have A := A.cut [2, 6, 25, 26, 27] rfl;
 N hX 6 A rfl rfl fun A => forkD 28 A rfl
                   (fun h16 A => N hX 8 A rfl (ok_d (by omega) <| okE_nil) fun A => have A := sy_sayD A 29 (.ptr 0 4) rfl (ix_p 4 rfl); N hX 7 A rfl rfl fun A => q_eff A rfl (aplE hX 31 (fun zz => rwc (((((L1 ++ L2) ++ L3) ++ L4) ++ L5).getD zz Rw.z)) rfl rfl rfl rfl (Nat.le_refl _) (by decide) (show 5 ≤ 1000000 by decide) rfl (fun k hk => by show rwc _ = rwc _; rw [getD_app_l (by rw [l14]; exact hk)]) (fun k hk => by show rwc (((((L1 ++ L2) ++ L3) ++ L4) ++ L5).getD (26 + k) Rw.z) = rwc _; rw [show 26 + k = (((L1 ++ L2) ++ L3) ++ L4).length + k by rw [l14], getD_app_r]) (fun z => ⟨_, rfl, rfl⟩) (fun k hk => ⟨_, rfl, okE_nil⟩)) fun A =>
 N hX 6 A rfl (ok_d (by omega) <| okE_nil) fun A => have A := sy_sayD A 34 (.int .i64 5) rfl (fun _ => rfl); N hX 1 A rfl rfl fun A => N hX 1 A rfl rfl fun A => RND (have A := A.cut [2, 6, 25, 26, 27] rfl;
 N hX 6 A rfl rfl fun A => forkD 28 A rfl
                    (fun h17 A => absurd h17 (by decide))
                    (fun h17 A => N hX 10 A rfl rfl fun A => RET hX [11] A ⟨rfl, rfl⟩ rfl rfl rfl rfl rfl rfl rfl rfl h0)))
                   (fun h16 A => absurd (by decide) h16)))
                  (fun h15 A => absurd (by decide) h15)))
                 (fun h14 A => absurd (by decide) h14)))
                (fun h13 A => absurd (by decide) h13)))
               (fun h12 A => absurd (by decide) h12)))))))
           (fun h9 A => absurd (by decide) h9))))
         (fun h7 A => absurd (by decide) h7))))
       (fun h5 A => absurd (by decide) h5))))
     (fun h3 A => absurd (by decide) h3))))
   (fun h1 A => absurd (by decide) h1)))
end Go.Proofs.YtedlaclfhgneeabGreatDoor
