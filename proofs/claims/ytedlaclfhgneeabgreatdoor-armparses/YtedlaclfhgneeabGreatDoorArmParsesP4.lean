/- ArmParses, part 4: the engine, contracts, theory. -/
import Derived.Test.YtedlaclfhgneeabGreatDoorArmParsesP3
import Derived.Shelf.Strings.Cut
namespace Go.Proofs.YtedlaclfhgneeabGreatDoor
open Go.RowKit
set_option linter.unusedVariables false
set_option linter.unusedSimpArgs false
set_option maxRecDepth 100000
set_option maxHeartbeats 2000000
set_option simprocs false
abbrev rdS (g : Lg) (n c : Nat) (i : In) (lb : List UInt8) (ap rp : Nat) : List SV := .ptr ap 0 :: .str g.r0 :: .str g.r1 :: .str g.r2 :: .str g.r3 :: .str g.r4 :: .str g.r5 :: .str g.r6 :: .str g.r7 :: .str g.l0 :: .str g.l1 :: .str g.l2 :: .str g.l3 :: .str g.im :: .str g.f0 :: .str g.f1 :: .str g.f2 :: .sl rp n c :: .int .i64 i.op :: .int .i64 i.dst :: .int .i64 i.ra :: .int .i64 i.rb :: .int .i64 i.imm :: .int .i64 i.loc :: .int .i64 i.off :: .int .i64 i.ix :: .int .i64 i.sz :: .int .i64 i.fn :: .bool i.acq :: .bool i.weak :: .bool i.rel :: .int .i64 i.pred :: .int .i64 i.succ :: .int .i64 i.to_ :: .bool i.zero :: .str lb :: []
structure Ps where (ins : In) (lab : List UInt8) (e a : Int) (p : Nat)
def Ps.as (s : Ps) : As := ⟨s.p, s.e, s.a⟩
def Ps.wa (s : Ps) (t : As) : Ps := ⟨s.ins, s.lab, t.e, t.a, t.p⟩
def idxS (ls : List (List UInt8)) (q : List UInt8) : Int := match (List.range ls.length).find? (fun j => q == ls.getD j []) with | some j => (j : Int) | none => -1
structure IxI (ls : List (List UInt8)) (q : List UInt8) (k : Nat) : Prop where
  le : k ≤ ls.length
  no : ∀ j, j < k → (q == ls.getD j []) = false
section
variable {ls : List (List UInt8)} {q : List UInt8} {k : Nat}
theorem IxI.i0 : IxI ls q 0 := ⟨Nat.zero_le _, fun j h => by omega⟩
theorem IxI.nx (hI : IxI ls q k) (hk : k < ls.length) (h : (q == ls.getD k []) = false) : IxI ls q (k + 1) := ⟨hk, fun j hj => by
  by_cases e : j = k
  · subst e; exact h
  · exact hI.no j (by omega)⟩
theorem IxI.hit (hI : IxI ls q k) (hk : k < ls.length) (h : (q == ls.getD k []) = true) : idxS ls q = (k : Int) := by
  unfold idxS
  have : (List.range ls.length).find? (fun j => q == ls.getD j []) = some k := by
    rw [List.find?_range_eq_some]
    exact ⟨h, by simpa using hk, fun j hj => by have := hI.no j hj; rw [this]; rfl⟩
  rw [this]
theorem IxI.fi (hI : IxI ls q k) (hk : ls.length ≤ k) : idxS ls q = -1 := by
  unfold idxS
  have : (List.range ls.length).find? (fun j => q == ls.getD j []) = none := by
    rw [List.find?_eq_none]
    intro j hj
    have := hI.no j (by have := List.mem_range.1 hj; omega)
    rw [this]; decide
  rw [this]
theorem idxS_ge : -1 ≤ idxS ls q ∧ idxS ls q ≤ (ls.length : Int) := by
  unfold idxS
  split
  · next j h => have := List.mem_range.1 (List.mem_of_find?_eq_some h); omega
  · omega
end
def knI (ws : List Tk) (s : As) (ls : List (List UInt8)) : Int := if (ws.getD s.p tok0).kind = 1 then (if idxS ls (ws.getD s.p tok0).text < 0 then -1 else idxS ls (ws.getD s.p tok0).text) else -1
def knA (ws : List Tk) (s : As) (ls : List (List UInt8)) : As := if (ws.getD s.p tok0).kind = 1 then (if idxS ls (ws.getD s.p tok0).text < 0 then refA ws s 21 else goA s (nxK ws s.p)) else refA ws s 22
section
variable {ws : List Tk} {s : As} {ls : List (List UInt8)}
theorem knA_le (h : s.p ≤ ws.length) : (knA ws s ls).p ≤ ws.length := by
  unfold knA; split
  · split
    · rw [refA_p]; exact h
    · exact nxK_le h
  · rw [refA_p]; exact h
theorem knI_ge : -1 ≤ knI ws s ls ∧ knI ws s ls ≤ (ls.length : Int) := by
  have := idxS_ge (ls := ls) (q := (ws.getD s.p tok0).text)
  unfold knI; split
  · split <;> omega
  · omega
end
theorem sixR_ (g : Lg) (L : List Rw) (c : Nat) (ws : List Tk) (cw : Nat) (s : Ps) (q : List UInt8)  : Fn Tryz.prog 103 [.sp (.ptr 0 1) 8 8, .str q] [some (.blk (rdS g L.length c s.ins s.lab 1 4)), some (.blk [.ptr 2 0, .int .i64 s.e, .int .i64 s.a]), some (.blk [.sl 3 ws.length cw, .int .i64 ((s.p : Nat) : Int)]), some (wQ9 ws), some (lQ9 L)] (Rt (.int .i64 (idxS [g.r0, g.r1, g.r2, g.r3, g.r4, g.r5, g.r6, g.r7] q)) [some (.blk (rdS g L.length c s.ins s.lab 1 4)), some (.blk [.ptr 2 0, .int .i64 s.e, .int .i64 s.a]), some (.blk [.sl 3 ws.length cw, .int .i64 ((s.p : Nat) : Int)]), some (wQ9 ws), some (lQ9 L)]) :=
 enterM (n := 19) (by kernel_rfl) Tryz.func103 rfl rfl rfl fun G w a h0 A => N hX 14 A rfl rfl fun A => LOOP1 (fun (k : Nat) => [(0, .sp (.ptr 0 1) 8 8), (1, .str q), (4, .int .i64 0), (7, .int .i64 ((8 : Nat) : Int)), (8, .int .i64 (k : Int))]) (fun (k : Nat) => [some (.blk (rdS g L.length c s.ins s.lab 1 4)), some (.blk [.ptr 2 0, .int .i64 s.e, .int .i64 s.a]), some (.blk [.sl 3 ws.length cw, .int .i64 ((s.p : Nat) : Int)]), some (wQ9 ws), some (lQ9 L)]) (fun (k : Nat) => IxI [g.r0, g.r1, g.r2, g.r3, g.r4, g.r5, g.r6, g.r7] q k) (fun (k : Nat) => 8 - k) 0 IxI.i0 ((A.cut [0, 1, 4, 7, 8] rfl).trunc 5 rfl rfl rfl (by simp only [List.length_cons, List.length_nil] at h0; omega)) fun k hI {G a w} A => N hX 6 A rfl rfl fun A => forkD 9 A rfl
   (fun h1 A => N hX 21 A rfl (ok_d (by have := hI.le; simp only [List.length_cons, List.length_nil] at this; omega) <| ok_d (by have := hI.le; simp only [List.length_cons, List.length_nil] at this; omega) <| okE_nil) fun A => forkE 16 A rfl
    (fun h2 A => N hX 8 A rfl rfl fun A => RETN hX A rfl rfl rfl h0 rfl rfl rfl rfl (by rw [hI.hit (by show k < 8; omega) (by rw [show k = ((k : Int)).toNat from rfl]; simpa using h2)]; rfl) rfl)
    (fun h2 A => N hX 8 A rfl (ok_d (by have := hI.le; simp only [List.length_cons, List.length_nil] at this; omega) <| okE_nil) fun A => ⟨k + 1, _, (by omega), (hI.nx (by show k < 8; omega) (by rw [show k = ((k : Int)).toNat from rfl]; simpa using h2)), ((A.cut [0, 1, 4, 7, 8] rfl).trunc 5 rfl rfl rfl (by simp only [List.length_cons, List.length_nil] at h0; omega))⟩))
   (fun h1 A => N hX 9 A rfl rfl fun A => RETN hX A rfl rfl rfl h0 rfl rfl rfl rfl (by rw [hI.fi (by show 8 ≤ k; omega)]; rfl) rfl)
theorem sixF_ (g : Lg) (L : List Rw) (c : Nat) (ws : List Tk) (cw : Nat) (s : Ps) (q : List UInt8)  : Fn Tryz.prog 103 [.sp (.ptr 0 14) 3 3, .str q] [some (.blk (rdS g L.length c s.ins s.lab 1 4)), some (.blk [.ptr 2 0, .int .i64 s.e, .int .i64 s.a]), some (.blk [.sl 3 ws.length cw, .int .i64 ((s.p : Nat) : Int)]), some (wQ9 ws), some (lQ9 L)] (Rt (.int .i64 (idxS [g.f0, g.f1, g.f2] q)) [some (.blk (rdS g L.length c s.ins s.lab 1 4)), some (.blk [.ptr 2 0, .int .i64 s.e, .int .i64 s.a]), some (.blk [.sl 3 ws.length cw, .int .i64 ((s.p : Nat) : Int)]), some (wQ9 ws), some (lQ9 L)]) :=
 enterM (n := 19) (by kernel_rfl) Tryz.func103 rfl rfl rfl fun G w a h0 A => N hX 14 A rfl rfl fun A => LOOP1 (fun (k : Nat) => [(0, .sp (.ptr 0 14) 3 3), (1, .str q), (4, .int .i64 0), (7, .int .i64 ((3 : Nat) : Int)), (8, .int .i64 (k : Int))]) (fun (k : Nat) => [some (.blk (rdS g L.length c s.ins s.lab 1 4)), some (.blk [.ptr 2 0, .int .i64 s.e, .int .i64 s.a]), some (.blk [.sl 3 ws.length cw, .int .i64 ((s.p : Nat) : Int)]), some (wQ9 ws), some (lQ9 L)]) (fun (k : Nat) => IxI [g.f0, g.f1, g.f2] q k) (fun (k : Nat) => 3 - k) 0 IxI.i0 ((A.cut [0, 1, 4, 7, 8] rfl).trunc 5 rfl rfl rfl (by simp only [List.length_cons, List.length_nil] at h0; omega)) fun k hI {G a w} A => N hX 6 A rfl rfl fun A => forkD 9 A rfl
   (fun h1 A => N hX 21 A rfl (ok_d (by have := hI.le; simp only [List.length_cons, List.length_nil] at this; omega) <| ok_d (by have := hI.le; simp only [List.length_cons, List.length_nil] at this; omega) <| okE_nil) fun A => forkE 16 A rfl
    (fun h2 A => N hX 8 A rfl rfl fun A => RETN hX A rfl rfl rfl h0 rfl rfl rfl rfl (by rw [hI.hit (by show k < 3; omega) (by rw [show k = ((k : Int)).toNat from rfl]; simpa using h2)]; rfl) rfl)
    (fun h2 A => N hX 8 A rfl (ok_d (by have := hI.le; simp only [List.length_cons, List.length_nil] at this; omega) <| okE_nil) fun A => ⟨k + 1, _, (by omega), (hI.nx (by show k < 3; omega) (by rw [show k = ((k : Int)).toNat from rfl]; simpa using h2)), ((A.cut [0, 1, 4, 7, 8] rfl).trunc 5 rfl rfl rfl (by simp only [List.length_cons, List.length_nil] at h0; omega))⟩))
   (fun h1 A => N hX 9 A rfl rfl fun A => RETN hX A rfl rfl rfl h0 rfl rfl rfl rfl (by rw [hI.fi (by show 3 ≤ k; omega)]; rfl) rfl)
theorem sixL_ (q : List UInt8)  : Fn Tryz.prog 103 [.sl 0 3 3, .str q] [some (.blk [.str [120], .str [121], .str [122]])] (Rt (.int .i64 (idxS [[120], [121], [122]] q)) [some (.blk [.str [120], .str [121], .str [122]])]) :=
 enterM (n := 19) (by kernel_rfl) Tryz.func103 rfl rfl rfl fun G w a h0 A => N hX 14 A rfl rfl fun A => LOOP1 (fun (k : Nat) => [(0, .sl 0 3 3), (1, .str q), (4, .int .i64 0), (7, .int .i64 ((3 : Nat) : Int)), (8, .int .i64 (k : Int))]) (fun (k : Nat) => [some (.blk [.str [120], .str [121], .str [122]])]) (fun (k : Nat) => IxI [[120], [121], [122]] q k) (fun (k : Nat) => 3 - k) 0 IxI.i0 ((A.cut [0, 1, 4, 7, 8] rfl).trunc 1 rfl rfl rfl (by simp only [List.length_cons, List.length_nil] at h0; omega)) fun k hI {G a w} A => N hX 6 A rfl rfl fun A => forkD 9 A rfl
   (fun h1 A => N hX 21 A rfl (ok_d (by have := hI.le; simp only [List.length_cons, List.length_nil] at this; omega) <| ok_d (by have := hI.le; simp only [List.length_cons, List.length_nil] at this; omega) <| okE_nil) fun A => forkE 16 A rfl
    (fun h2 A => N hX 8 A rfl rfl fun A => RETN hX A rfl rfl rfl h0 rfl rfl rfl rfl (by rw [hI.hit (by show k < 3; omega) (by rw [show k = ((k : Int)).toNat from rfl]; simpa using h2)]; rfl) rfl)
    (fun h2 A => N hX 8 A rfl (ok_d (by have := hI.le; simp only [List.length_cons, List.length_nil] at this; omega) <| okE_nil) fun A => ⟨k + 1, _, (by omega), (hI.nx (by show k < 3; omega) (by rw [show k = ((k : Int)).toNat from rfl]; simpa using h2)), ((A.cut [0, 1, 4, 7, 8] rfl).trunc 1 rfl rfl rfl (by simp only [List.length_cons, List.length_nil] at h0; omega))⟩))
   (fun h1 A => N hX 9 A rfl rfl fun A => RETN hX A rfl rfl rfl h0 rfl rfl rfl rfl (by rw [hI.fi (by show 3 ≤ k; omega)]; rfl) rfl)
theorem knownR_ (g : Lg) (L : List Rw) (c : Nat) (ws : List Tk) (cw : Nat) (s : Ps) (hk : s.p ≤ ws.length) (hn : ws.length ≤ 1000000) (hw : WsOK ws) : Fn Tryz.prog 210 [.ptr 1 0, .sp (.ptr 0 1) 8 8] [some (.blk (rdS g L.length c s.ins s.lab 1 4)), some (.blk [.ptr 2 0, .int .i64 s.e, .int .i64 s.a]), some (.blk [.sl 3 ws.length cw, .int .i64 ((s.p : Nat) : Int)]), some (wQ9 ws), some (lQ9 L)] (Rt (.int .i64 (knI ws s.as [g.r0, g.r1, g.r2, g.r3, g.r4, g.r5, g.r6, g.r7])) [some (.blk (rdS g L.length c ((s.wa (knA ws s.as [g.r0, g.r1, g.r2, g.r3, g.r4, g.r5, g.r6, g.r7])).ins) ((s.wa (knA ws s.as [g.r0, g.r1, g.r2, g.r3, g.r4, g.r5, g.r6, g.r7])).lab) 1 4)), some (.blk [.ptr 2 0, .int .i64 ((s.wa (knA ws s.as [g.r0, g.r1, g.r2, g.r3, g.r4, g.r5, g.r6, g.r7])).e), .int .i64 ((s.wa (knA ws s.as [g.r0, g.r1, g.r2, g.r3, g.r4, g.r5, g.r6, g.r7])).a)]), some (.blk [.sl 3 ws.length cw, .int .i64 (((s.wa (knA ws s.as [g.r0, g.r1, g.r2, g.r3, g.r4, g.r5, g.r6, g.r7])).p : Nat) : Int)]), some (wQ9 ws), some (lQ9 L)]) :=
 enterM (n := 35) (by kernel_rfl) Tryz.func210 rfl rfl rfl fun G w a h0 A => N hX 11 A rfl rfl fun A => CALL1 [2, 3] (peek_ ws cw s.p (by first | exact hk | exact knA_le hk | exact mkA_le hk | exact numA_le hk | (show _ ≤ _; omega)) hn) A rfl rfl rfl rfl rfl rfl rfl fun A => N hX 16 A rfl rfl fun A => forkN 18 A rfl
  (fun h1 A => N hX 4 A rfl rfl fun A => CALL1 [1, 2, 3] (refuse_ ws cw s.as 22 (by first | exact hk | exact knA_le hk | exact mkA_le hk | exact numA_le hk | (show _ ≤ _; omega)) hn hw) A rfl rfl rfl rfl rfl rfl rfl fun A => N hX 8 A rfl rfl fun A => RETN hX A rfl rfl rfl h0 rfl rfl rfl rfl (by unfold knI; rw [if_neg (show ¬ (ws.getD s.as.p tok0).kind = 1 from h1)] <;> rfl) (by unfold knA; rw [if_neg (show ¬ (ws.getD s.as.p tok0).kind = 1 from h1)] <;> rfl))
  (fun h1 A => N hX 8 A rfl rfl fun A => CALL1 [0, 1, 2, 3, 4] (sixR_ g L c ws cw s ((ws.getD s.p tok0).text)) A rfl rfl rfl rfl rfl rfl rfl fun A => N hX 10 A rfl rfl fun A => forkD 26 A rfl
   (fun h2 A => N hX 4 A rfl rfl fun A => CALL1 [1, 2, 3] (refuse_ ws cw s.as 21 (by first | exact hk | exact knA_le hk | exact mkA_le hk | exact numA_le hk | (show _ ≤ _; omega)) hn hw) A rfl rfl rfl rfl rfl rfl rfl fun A => N hX 8 A rfl rfl fun A => RETN hX A rfl rfl rfl h0 rfl rfl rfl rfl (by unfold knI; rw [if_pos (show (ws.getD s.as.p tok0).kind = 1 from h1), if_pos (show idxS [g.r0, g.r1, g.r2, g.r3, g.r4, g.r5, g.r6, g.r7] (ws.getD s.as.p tok0).text < 0 from h2)] <;> rfl) (by unfold knA; rw [if_pos (show (ws.getD s.as.p tok0).kind = 1 from h1), if_pos (show idxS [g.r0, g.r1, g.r2, g.r3, g.r4, g.r5, g.r6, g.r7] (ws.getD s.as.p tok0).text < 0 from h2)] <;> rfl))
   (fun h2 A => N hX 9 A rfl rfl fun A => CALL1 [2, 3] (next_ ws cw s.p (by first | exact hk | exact knA_le hk | exact mkA_le hk | exact numA_le hk | (show _ ≤ _; omega)) hn) A rfl rfl rfl rfl rfl rfl rfl fun A => N hX 9 A rfl rfl fun A => RETN hX A rfl rfl rfl h0 rfl rfl rfl rfl (by unfold knI; rw [if_pos (show (ws.getD s.as.p tok0).kind = 1 from h1), if_neg (show ¬ idxS [g.r0, g.r1, g.r2, g.r3, g.r4, g.r5, g.r6, g.r7] (ws.getD s.as.p tok0).text < 0 from h2)] <;> rfl) (by unfold knA; rw [if_pos (show (ws.getD s.as.p tok0).kind = 1 from h1), if_neg (show ¬ idxS [g.r0, g.r1, g.r2, g.r3, g.r4, g.r5, g.r6, g.r7] (ws.getD s.as.p tok0).text < 0 from h2)] <;> rfl)))
theorem knownF_ (g : Lg) (L : List Rw) (c : Nat) (ws : List Tk) (cw : Nat) (s : Ps) (hk : s.p ≤ ws.length) (hn : ws.length ≤ 1000000) (hw : WsOK ws) : Fn Tryz.prog 210 [.ptr 1 0, .sp (.ptr 0 14) 3 3] [some (.blk (rdS g L.length c s.ins s.lab 1 4)), some (.blk [.ptr 2 0, .int .i64 s.e, .int .i64 s.a]), some (.blk [.sl 3 ws.length cw, .int .i64 ((s.p : Nat) : Int)]), some (wQ9 ws), some (lQ9 L)] (Rt (.int .i64 (knI ws s.as [g.f0, g.f1, g.f2])) [some (.blk (rdS g L.length c ((s.wa (knA ws s.as [g.f0, g.f1, g.f2])).ins) ((s.wa (knA ws s.as [g.f0, g.f1, g.f2])).lab) 1 4)), some (.blk [.ptr 2 0, .int .i64 ((s.wa (knA ws s.as [g.f0, g.f1, g.f2])).e), .int .i64 ((s.wa (knA ws s.as [g.f0, g.f1, g.f2])).a)]), some (.blk [.sl 3 ws.length cw, .int .i64 (((s.wa (knA ws s.as [g.f0, g.f1, g.f2])).p : Nat) : Int)]), some (wQ9 ws), some (lQ9 L)]) :=
 enterM (n := 35) (by kernel_rfl) Tryz.func210 rfl rfl rfl fun G w a h0 A => N hX 11 A rfl rfl fun A => CALL1 [2, 3] (peek_ ws cw s.p (by first | exact hk | exact knA_le hk | exact mkA_le hk | exact numA_le hk | (show _ ≤ _; omega)) hn) A rfl rfl rfl rfl rfl rfl rfl fun A => N hX 16 A rfl rfl fun A => forkN 18 A rfl
  (fun h1 A => N hX 4 A rfl rfl fun A => CALL1 [1, 2, 3] (refuse_ ws cw s.as 22 (by first | exact hk | exact knA_le hk | exact mkA_le hk | exact numA_le hk | (show _ ≤ _; omega)) hn hw) A rfl rfl rfl rfl rfl rfl rfl fun A => N hX 8 A rfl rfl fun A => RETN hX A rfl rfl rfl h0 rfl rfl rfl rfl (by unfold knI; rw [if_neg (show ¬ (ws.getD s.as.p tok0).kind = 1 from h1)] <;> rfl) (by unfold knA; rw [if_neg (show ¬ (ws.getD s.as.p tok0).kind = 1 from h1)] <;> rfl))
  (fun h1 A => N hX 8 A rfl rfl fun A => CALL1 [0, 1, 2, 3, 4] (sixF_ g L c ws cw s ((ws.getD s.p tok0).text)) A rfl rfl rfl rfl rfl rfl rfl fun A => N hX 10 A rfl rfl fun A => forkD 26 A rfl
   (fun h2 A => N hX 4 A rfl rfl fun A => CALL1 [1, 2, 3] (refuse_ ws cw s.as 21 (by first | exact hk | exact knA_le hk | exact mkA_le hk | exact numA_le hk | (show _ ≤ _; omega)) hn hw) A rfl rfl rfl rfl rfl rfl rfl fun A => N hX 8 A rfl rfl fun A => RETN hX A rfl rfl rfl h0 rfl rfl rfl rfl (by unfold knI; rw [if_pos (show (ws.getD s.as.p tok0).kind = 1 from h1), if_pos (show idxS [g.f0, g.f1, g.f2] (ws.getD s.as.p tok0).text < 0 from h2)] <;> rfl) (by unfold knA; rw [if_pos (show (ws.getD s.as.p tok0).kind = 1 from h1), if_pos (show idxS [g.f0, g.f1, g.f2] (ws.getD s.as.p tok0).text < 0 from h2)] <;> rfl))
   (fun h2 A => N hX 9 A rfl rfl fun A => CALL1 [2, 3] (next_ ws cw s.p (by first | exact hk | exact knA_le hk | exact mkA_le hk | exact numA_le hk | (show _ ≤ _; omega)) hn) A rfl rfl rfl rfl rfl rfl rfl fun A => N hX 9 A rfl rfl fun A => RETN hX A rfl rfl rfl h0 rfl rfl rfl rfl (by unfold knI; rw [if_pos (show (ws.getD s.as.p tok0).kind = 1 from h1), if_neg (show ¬ idxS [g.f0, g.f1, g.f2] (ws.getD s.as.p tok0).text < 0 from h2)] <;> rfl) (by unfold knA; rw [if_pos (show (ws.getD s.as.p tok0).kind = 1 from h1), if_neg (show ¬ idxS [g.f0, g.f1, g.f2] (ws.getD s.as.p tok0).text < 0 from h2)] <;> rfl)))
theorem knownL_ (ws : List Tk) (cw : Nat) (s : As) (hk : s.p ≤ ws.length) (hn : ws.length ≤ 1000000) (hw : WsOK ws) : Fn Tryz.prog 210 [.ptr 0 0, .sl 3 3 3] [some (.blk [.ptr 1 0, .int .i64 s.e, .int .i64 s.a]), some (.blk [.sl 2 ws.length cw, .int .i64 ((s.p : Nat) : Int)]), some (wQ9 ws), some (.blk [.str [120], .str [121], .str [122]])] (Rt (.int .i64 (knI ws s [[120], [121], [122]])) [some (.blk [.ptr 1 0, .int .i64 ((knA ws s [[120], [121], [122]]).e), .int .i64 ((knA ws s [[120], [121], [122]]).a)]), some (.blk [.sl 2 ws.length cw, .int .i64 (((knA ws s [[120], [121], [122]]).p : Nat) : Int)]), some (wQ9 ws), some (.blk [.str [120], .str [121], .str [122]])]) :=
 enterM (n := 35) (by kernel_rfl) Tryz.func210 rfl rfl rfl fun G w a h0 A => N hX 11 A rfl rfl fun A => CALL1 [1, 2] (peek_ ws cw s.p (by first | exact hk | exact knA_le hk | exact mkA_le hk | exact numA_le hk | (show _ ≤ _; omega)) hn) A rfl rfl rfl rfl rfl rfl rfl fun A => N hX 16 A rfl rfl fun A => forkN 18 A rfl
  (fun h1 A => N hX 4 A rfl rfl fun A => CALL1 [0, 1, 2] (refuse_ ws cw s 22 (by first | exact hk | exact knA_le hk | exact mkA_le hk | exact numA_le hk | (show _ ≤ _; omega)) hn hw) A rfl rfl rfl rfl rfl rfl rfl fun A => N hX 8 A rfl rfl fun A => RETN hX A rfl rfl rfl h0 rfl rfl rfl rfl (by unfold knI; rw [if_neg (show ¬ (ws.getD s.p tok0).kind = 1 from h1)] <;> rfl) (by unfold knA; rw [if_neg (show ¬ (ws.getD s.p tok0).kind = 1 from h1)] <;> rfl))
  (fun h1 A => N hX 8 A rfl rfl fun A => CALL1 [3] (sixL_ ((ws.getD s.p tok0).text)) A rfl rfl rfl rfl rfl rfl rfl fun A => N hX 10 A rfl rfl fun A => forkD 26 A rfl
   (fun h2 A => N hX 4 A rfl rfl fun A => CALL1 [0, 1, 2] (refuse_ ws cw s 21 (by first | exact hk | exact knA_le hk | exact mkA_le hk | exact numA_le hk | (show _ ≤ _; omega)) hn hw) A rfl rfl rfl rfl rfl rfl rfl fun A => N hX 8 A rfl rfl fun A => RETN hX A rfl rfl rfl h0 rfl rfl rfl rfl (by unfold knI; rw [if_pos (show (ws.getD s.p tok0).kind = 1 from h1), if_pos (show idxS [[120], [121], [122]] (ws.getD s.p tok0).text < 0 from h2)] <;> rfl) (by unfold knA; rw [if_pos (show (ws.getD s.p tok0).kind = 1 from h1), if_pos (show idxS [[120], [121], [122]] (ws.getD s.p tok0).text < 0 from h2)] <;> rfl))
   (fun h2 A => N hX 9 A rfl rfl fun A => CALL1 [1, 2] (next_ ws cw s.p (by first | exact hk | exact knA_le hk | exact mkA_le hk | exact numA_le hk | (show _ ≤ _; omega)) hn) A rfl rfl rfl rfl rfl rfl rfl fun A => N hX 9 A rfl rfl fun A => RETN hX A rfl rfl rfl h0 rfl rfl rfl rfl (by unfold knI; rw [if_pos (show (ws.getD s.p tok0).kind = 1 from h1), if_neg (show ¬ idxS [[120], [121], [122]] (ws.getD s.p tok0).text < 0 from h2)] <;> rfl) (by unfold knA; rw [if_pos (show (ws.getD s.p tok0).kind = 1 from h1), if_neg (show ¬ idxS [[120], [121], [122]] (ws.getD s.p tok0).text < 0 from h2)] <;> rfl)))
theorem reg_ (g : Lg) (L : List Rw) (c : Nat) (ws : List Tk) (cw : Nat) (s : Ps) (hk : s.p ≤ ws.length) (hn : ws.length ≤ 1000000) (hw : WsOK ws) : Fn Tryz.prog 192 [.ptr 0 0] [some (.blk (rdS g L.length c s.ins s.lab 1 4)), some (.blk [.ptr 2 0, .int .i64 s.e, .int .i64 s.a]), some (.blk [.sl 3 ws.length cw, .int .i64 ((s.p : Nat) : Int)]), some (wQ9 ws), some (lQ9 L)] (Rt (.int .i64 (knI ws s.as [g.r0, g.r1, g.r2, g.r3, g.r4, g.r5, g.r6, g.r7])) [some (.blk (rdS g L.length c ((s.wa (knA ws s.as [g.r0, g.r1, g.r2, g.r3, g.r4, g.r5, g.r6, g.r7])).ins) ((s.wa (knA ws s.as [g.r0, g.r1, g.r2, g.r3, g.r4, g.r5, g.r6, g.r7])).lab) 1 4)), some (.blk [.ptr 2 0, .int .i64 ((s.wa (knA ws s.as [g.r0, g.r1, g.r2, g.r3, g.r4, g.r5, g.r6, g.r7])).e), .int .i64 ((s.wa (knA ws s.as [g.r0, g.r1, g.r2, g.r3, g.r4, g.r5, g.r6, g.r7])).a)]), some (.blk [.sl 3 ws.length cw, .int .i64 (((s.wa (knA ws s.as [g.r0, g.r1, g.r2, g.r3, g.r4, g.r5, g.r6, g.r7])).p : Nat) : Int)]), some (wQ9 ws), some (lQ9 L)]) :=
 enterM (n := 13) (by kernel_rfl) Tryz.func192 rfl rfl rfl fun G w a h0 A => N hX 6 A rfl rfl fun A => DRAWN hX hmo [] [(9, .int .i64 (knI ws s.as [g.r0, g.r1, g.r2, g.r3, g.r4, g.r5, g.r6, g.r7]), [some (.blk (rdS g L.length c ((Ps.wa s (knA ws s.as [g.r0, g.r1, g.r2, g.r3, g.r4, g.r5, g.r6, g.r7])).ins) ((Ps.wa s (knA ws s.as [g.r0, g.r1, g.r2, g.r3, g.r4, g.r5, g.r6, g.r7])).lab) 1 4)), some (.blk [.ptr 2 0, .int .i64 ((Ps.wa s (knA ws s.as [g.r0, g.r1, g.r2, g.r3, g.r4, g.r5, g.r6, g.r7])).e), .int .i64 ((Ps.wa s (knA ws s.as [g.r0, g.r1, g.r2, g.r3, g.r4, g.r5, g.r6, g.r7])).a)]), some (.blk [.sl 3 ws.length cw, .int .i64 (((Ps.wa s (knA ws s.as [g.r0, g.r1, g.r2, g.r3, g.r4, g.r5, g.r6, g.r7])).p : Nat) : Int)]), some (wQ9 ws), some (lQ9 L)])] A rfl rfl rfl rfl (by kernel_rfl) ⟨callE [0, 1, 2, 3, 4] (knownR_ g L c ws cw s (by first | exact hk | exact knA_le hk | exact mkA_le hk | exact numA_le hk | (show _ ≤ _; omega)) hn hw) rfl rfl rfl rfl rfl rfl rfl, trivial⟩ trivial fun A => N hX 2 A rfl rfl fun A => RETN hX A rfl rfl rfl h0 rfl rfl rfl rfl rfl rfl
theorem fenced_ (g : Lg) (L : List Rw) (c : Nat) (ws : List Tk) (cw : Nat) (s : Ps) (hk : s.p ≤ ws.length) (hn : ws.length ≤ 1000000) (hw : WsOK ws) : Fn Tryz.prog 196 [.ptr 0 0] [some (.blk (rdS g L.length c s.ins s.lab 1 4)), some (.blk [.ptr 2 0, .int .i64 s.e, .int .i64 s.a]), some (.blk [.sl 3 ws.length cw, .int .i64 ((s.p : Nat) : Int)]), some (wQ9 ws), some (lQ9 L)] (Rt (.int .i64 (knI ws s.as [g.f0, g.f1, g.f2] + 1)) [some (.blk (rdS g L.length c ((s.wa (knA ws s.as [g.f0, g.f1, g.f2])).ins) ((s.wa (knA ws s.as [g.f0, g.f1, g.f2])).lab) 1 4)), some (.blk [.ptr 2 0, .int .i64 ((s.wa (knA ws s.as [g.f0, g.f1, g.f2])).e), .int .i64 ((s.wa (knA ws s.as [g.f0, g.f1, g.f2])).a)]), some (.blk [.sl 3 ws.length cw, .int .i64 (((s.wa (knA ws s.as [g.f0, g.f1, g.f2])).p : Nat) : Int)]), some (wQ9 ws), some (lQ9 L)]) :=
 enterM (n := 14) (by kernel_rfl) Tryz.func196 rfl rfl rfl fun G w a h0 A => N hX 6 A rfl rfl fun A => DRAWN hX hmo [] [(9, .int .i64 (knI ws s.as [g.f0, g.f1, g.f2]), [some (.blk (rdS g L.length c ((Ps.wa s (knA ws s.as [g.f0, g.f1, g.f2])).ins) ((Ps.wa s (knA ws s.as [g.f0, g.f1, g.f2])).lab) 1 4)), some (.blk [.ptr 2 0, .int .i64 ((Ps.wa s (knA ws s.as [g.f0, g.f1, g.f2])).e), .int .i64 ((Ps.wa s (knA ws s.as [g.f0, g.f1, g.f2])).a)]), some (.blk [.sl 3 ws.length cw, .int .i64 (((Ps.wa s (knA ws s.as [g.f0, g.f1, g.f2])).p : Nat) : Int)]), some (wQ9 ws), some (lQ9 L)])] A rfl (ok_d (by have q1 := knI_ge (ws := ws) (s := s.as) (ls := [g.f0, g.f1, g.f2]); simp only [List.length_cons, List.length_nil] at q1; omega) <| okE_nil) rfl rfl (by kernel_rfl) ⟨callE [0, 1, 2, 3, 4] (knownF_ g L c ws cw s (by first | exact hk | exact knA_le hk | exact mkA_le hk | exact numA_le hk | (show _ ≤ _; omega)) hn hw) rfl rfl rfl rfl rfl rfl rfl, trivial⟩ trivial fun A => N hX 2 A rfl rfl fun A => RETN hX A rfl rfl rfl h0 rfl rfl rfl rfl rfl rfl
theorem isNumber_ (g : Lg) (L : List Rw) (c : Nat) (ws : List Tk) (cw : Nat) (s : Ps) (hk : s.p ≤ ws.length) (hn : ws.length ≤ 1000000) (hw : WsOK ws) : Fn Tryz.prog 229 [.ptr 0 0] [some (.blk (rdS g L.length c s.ins s.lab 1 4)), some (.blk [.ptr 2 0, .int .i64 s.e, .int .i64 s.a]), some (.blk [.sl 3 ws.length cw, .int .i64 ((s.p : Nat) : Int)]), some (wQ9 ws), some (lQ9 L)] (Rt (.bool ((ws.getD s.p tok0).kind == 2)) [some (.blk (rdS g L.length c s.ins s.lab 1 4)), some (.blk [.ptr 2 0, .int .i64 s.e, .int .i64 s.a]), some (.blk [.sl 3 ws.length cw, .int .i64 ((s.p : Nat) : Int)]), some (wQ9 ws), some (lQ9 L)]) :=
 enterM (n := 19) (by kernel_rfl) Tryz.func229 rfl rfl rfl fun G w a h0 A => N hX 14 A rfl rfl fun A => CALL1 [2, 3] (peek_ ws cw s.p (by first | exact hk | exact knA_le hk | exact mkA_le hk | exact numA_le hk | (show _ ≤ _; omega)) hn) A rfl rfl rfl rfl rfl rfl rfl fun A => N hX 17 A rfl rfl fun A => RETN hX A rfl rfl rfl h0 rfl rfl rfl rfl rfl rfl
def immA (g : Lg) (ws : List Tk) (s : As) : As := if g.im = [] then numA ws s else numA ws (mkA ws s g.im)
def immV (g : Lg) (ws : List Tk) (s : As) : Int := if g.im = [] then nbV ws s.p else nbV ws (mkA ws s g.im).p
theorem immA_le {g : Lg} {ws : List Tk} {s : As} (h : s.p ≤ ws.length) : (immA g ws s).p ≤ ws.length := by
  unfold immA; split
  · exact numA_le h
  · exact numA_le (mkA_le h)
theorem imm_ (g : Lg) (L : List Rw) (c : Nat) (ws : List Tk) (cw : Nat) (s : Ps) (hk : s.p ≤ ws.length) (hn : ws.length ≤ 1000000) (hw : WsOK ws) : Fn Tryz.prog 193 [.ptr 0 0] [some (.blk (rdS g L.length c s.ins s.lab 1 4)), some (.blk [.ptr 2 0, .int .i64 s.e, .int .i64 s.a]), some (.blk [.sl 3 ws.length cw, .int .i64 ((s.p : Nat) : Int)]), some (wQ9 ws), some (lQ9 L)] (Rt (.int .i64 (immV g ws s.as)) [some (.blk (rdS g L.length c ((s.wa (immA g ws s.as)).ins) ((s.wa (immA g ws s.as)).lab) 1 4)), some (.blk [.ptr 2 0, .int .i64 ((s.wa (immA g ws s.as)).e), .int .i64 ((s.wa (immA g ws s.as)).a)]), some (.blk [.sl 3 ws.length cw, .int .i64 (((s.wa (immA g ws s.as)).p : Nat) : Int)]), some (wQ9 ws), some (lQ9 L)]) :=
 enterM (n := 24) (by kernel_rfl) Tryz.func193 rfl rfl rfl fun G w a h0 A => N hX 16 A rfl rfl fun A => forkN 8 A rfl
  (fun h1 A => N hX 1 A rfl rfl fun A => DRAWN hX hmo [] [(9, .tup [], [some (.blk (rdS g L.length c s.ins s.lab 1 4)), some (.blk [.ptr 2 0, .int .i64 ((mkA ws s.as g.im).e), .int .i64 ((mkA ws s.as g.im).a)]), some (.blk [.sl 3 ws.length cw, .int .i64 (((mkA ws s.as g.im).p : Nat) : Int)]), some (wQ9 ws), some (lQ9 L)])] A rfl rfl rfl rfl (by kernel_rfl) ⟨callE [1, 2, 3] (mark_ ws cw s.as g.im (by first | exact hk | exact knA_le hk | exact mkA_le hk | exact numA_le hk | (show _ ≤ _; omega)) hn hw) rfl rfl rfl rfl rfl rfl rfl, trivial⟩ trivial fun A => N hX 7 A rfl rfl fun A => CALL1 [1, 2, 3] (num_ ws cw (mkA ws s.as g.im) (by first | exact hk | exact knA_le hk | exact mkA_le hk | exact numA_le hk | (show _ ≤ _; omega)) hn hw) A rfl rfl rfl rfl rfl rfl rfl fun A => N hX 4 A rfl rfl fun A => RETN hX A rfl rfl rfl h0 rfl rfl rfl rfl (by unfold immV; rw [if_neg h1] <;> rfl) (by unfold immA; rw [if_neg h1] <;> rfl))
  (fun h1 A => N hX 9 A rfl rfl fun A => CALL1 [1, 2, 3] (num_ ws cw s.as (by first | exact hk | exact knA_le hk | exact mkA_le hk | exact numA_le hk | (show _ ≤ _; omega)) hn hw) A rfl rfl rfl rfl rfl rfl rfl fun A => N hX 4 A rfl rfl fun A => RETN hX A rfl rfl rfl h0 rfl rfl rfl rfl (by unfold immV; rw [if_pos h1] <;> rfl) (by unfold immA; rw [if_pos h1] <;> rfl))
def m1 (ws : List Tk) (s : Ps) : Ps := s.wa (mkA ws s.as [91])
def m2 (ws : List Tk) (s : Ps) : Ps := ⟨{ s.ins with loc := knI ws s.as [[120], [121], [122]], ix := -1 }, s.lab, (knA ws s.as [[120], [121], [122]]).e, (knA ws s.as [[120], [121], [122]]).a, (knA ws s.as [[120], [121], [122]]).p⟩
def psB (ws : List Tk) (s : Ps) : Bool := tkB ws s.p [43]
def m3 (ws : List Tk) (s : Ps) : Ps := ⟨s.ins, s.lab, s.e, s.a, tkK ws s.p [43]⟩
def nuQ (ws : List Tk) (s : Ps) : Bool := (ws.getD s.p tok0).kind == 2
def offI (ws : List Tk) (s : Ps) : Ps := ⟨{ s.ins with off := nbV ws s.p }, s.lab, s.e, s.a, nbK ws s.p⟩
def regI (g : Lg) (ws : List Tk) (s : Ps) : Ps := ⟨{ s.ins with ix := knI ws s.as [g.r0, g.r1, g.r2, g.r3, g.r4, g.r5, g.r6, g.r7] }, s.lab, (knA ws s.as [g.r0, g.r1, g.r2, g.r3, g.r4, g.r5, g.r6, g.r7]).e, (knA ws s.as [g.r0, g.r1, g.r2, g.r3, g.r4, g.r5, g.r6, g.r7]).a, (knA ws s.as [g.r0, g.r1, g.r2, g.r3, g.r4, g.r5, g.r6, g.r7]).p⟩
def m5 (ws : List Tk) (s : Ps) : Ps := s.wa (mkA ws s.as [93])
def mem3 (ws : List Tk) (s : Ps) : Ps := m3 ws (m2 ws (m1 ws s))
def memS (g : Lg) (ws : List Tk) (s : Ps) : Ps := m5 ws (if psB ws (m2 ws (m1 ws s)) = true then (if nuQ ws (mem3 ws s) = true then (if psB ws (offI ws (mem3 ws s)) = true then regI g ws (m3 ws (offI ws (mem3 ws s))) else m3 ws (offI ws (mem3 ws s))) else regI g ws (mem3 ws s)) else mem3 ws s)
section
variable {g : Lg} {ws : List Tk} {s : Ps}
theorem m1_le (h : s.p ≤ ws.length) : (m1 ws s).p ≤ ws.length := mkA_le (s := s.as) h
theorem m2_le (h : s.p ≤ ws.length) : (m2 ws s).p ≤ ws.length := knA_le (s := s.as) h
theorem m3_le (h : s.p ≤ ws.length) : (m3 ws s).p ≤ ws.length := tkK_le h
theorem m5_le (h : s.p ≤ ws.length) : (m5 ws s).p ≤ ws.length := mkA_le (s := s.as) h
theorem offI_le (h : s.p ≤ ws.length) : (offI ws s).p ≤ ws.length := nbK_le h
theorem regI_le (h : s.p ≤ ws.length) : (regI g ws s).p ≤ ws.length := knA_le (s := s.as) h
theorem mem3_le (h : s.p ≤ ws.length) : (mem3 ws s).p ≤ ws.length := m3_le (m2_le (m1_le h))
theorem memS_le (h : s.p ≤ ws.length) : (memS g ws s).p ≤ ws.length := by
  unfold memS
  apply m5_le
  split
  · split
    · split
      · exact regI_le (m3_le (offI_le (mem3_le h)))
      · exact m3_le (offI_le (mem3_le h))
    · exact regI_le (mem3_le h)
  · exact mem3_le h
end
abbrev mQ9 (ws : List Tk) (s : Ps) : Ps := (⟨(⟨s.ins.op, s.ins.dst, s.ins.ra, s.ins.rb, s.ins.imm, knI ws (mkA ws s.as [91]) [[120], [121], [122]], s.ins.off, (-1), s.ins.sz, s.ins.fn, s.ins.acq, s.ins.weak, s.ins.rel, s.ins.pred, s.ins.succ, s.ins.to_, s.ins.zero⟩ : In), s.lab, (knA ws (mkA ws s.as [91]) [[120], [121], [122]]).e, (knA ws (mkA ws s.as [91]) [[120], [121], [122]]).a, tkK ws ((knA ws (mkA ws s.as [91]) [[120], [121], [122]]).p) [43]⟩ : Ps)
theorem mem_ (g : Lg) (L : List Rw) (c : Nat) (ws : List Tk) (cw : Nat) (s : Ps) (hk : s.p ≤ ws.length) (hn : ws.length ≤ 1000000) (hw : WsOK ws) : Fn Tryz.prog 194 [.ptr 0 0] [some (.blk (rdS g L.length c s.ins s.lab 1 4)), some (.blk [.ptr 2 0, .int .i64 s.e, .int .i64 s.a]), some (.blk [.sl 3 ws.length cw, .int .i64 ((s.p : Nat) : Int)]), some (wQ9 ws), some (lQ9 L)] (Rt (.tup []) [some (.blk (rdS g L.length c ((memS g ws s).ins) ((memS g ws s).lab) 1 4)), some (.blk [.ptr 2 0, .int .i64 ((memS g ws s).e), .int .i64 ((memS g ws s).a)]), some (.blk [.sl 3 ws.length cw, .int .i64 (((memS g ws s).p : Nat) : Int)]), some (wQ9 ws), some (lQ9 L)]) :=
 enterM (n := 72) (by kernel_rfl) Tryz.func194 rfl rfl rfl fun G w a h0 A => N hX 6 A rfl rfl fun A => CALL1 [1, 2, 3] (mark_ ws cw s.as [91] (by first | exact hk | exact m1_le hk | exact m2_le (m1_le hk) | exact mem3_le hk | exact offI_le (mem3_le hk) | exact m3_le (offI_le (mem3_le hk)) | exact regI_le (mem3_le hk) | exact regI_le (m3_le (offI_le (mem3_le hk)))) hn hw) A rfl rfl rfl rfl rfl rfl rfl fun A => N hX 3 A rfl rfl fun A => DRAWN hX hmo [] [(5, .sl 5 3 3, [some (.blk (rdS g L.length c s.ins s.lab 1 4)), some (.blk [.ptr 2 0, .int .i64 ((mkA ws s.as [91]).e), .int .i64 ((mkA ws s.as [91]).a)]), some (.blk [.sl 3 ws.length cw, .int .i64 (((mkA ws s.as [91]).p : Nat) : Int)]), some (wQ9 ws), some (lQ9 L), some (.blk [.str [120], .str [121], .str [122]])]), (6, .int .i64 (knI ws (mkA ws s.as [91]) [[120], [121], [122]]), [some (.blk (rdS g L.length c s.ins s.lab 1 4)), some (.blk [.ptr 2 0, .int .i64 ((knA ws (mkA ws s.as [91]) [[120], [121], [122]]).e), .int .i64 ((knA ws (mkA ws s.as [91]) [[120], [121], [122]]).a)]), some (.blk [.sl 3 ws.length cw, .int .i64 (((knA ws (mkA ws s.as [91]) [[120], [121], [122]]).p : Nat) : Int)]), some (wQ9 ws), some (lQ9 L), some (.blk [.str [120], .str [121], .str [122]])])] A rfl rfl rfl rfl (by kernel_rfl) ⟨callE [] locs_ rfl rfl rfl rfl rfl rfl rfl, ⟨callE [1, 2, 3, 5] (knownL_ ws cw (mkA ws s.as [91]) (by first | exact hk | exact m1_le hk | exact m2_le (m1_le hk) | exact mem3_le hk | exact offI_le (mem3_le hk) | exact m3_le (offI_le (mem3_le hk)) | exact regI_le (mem3_le hk) | exact regI_le (m3_le (offI_le (mem3_le hk)))) hn hw) rfl rfl rfl rfl rfl rfl rfl, ⟨trivial, trivial⟩⟩⟩ trivial fun A => N hX 20 A rfl rfl fun A => CALL1 [2, 3, 6] (take_ ws cw ((knA ws (mkA ws s.as [91]) [[120], [121], [122]]).p) [43] (by first | exact hk | exact m1_le hk | exact m2_le (m1_le hk) | exact mem3_le hk | exact offI_le (mem3_le hk) | exact m3_le (offI_le (mem3_le hk)) | exact regI_le (mem3_le hk) | exact regI_le (m3_le (offI_le (mem3_le hk)))) hn) A rfl rfl rfl rfl rfl rfl rfl fun A => N hX 8 A rfl rfl fun A => fork 32 A rfl
  (fun h1 A => N hX 1 A rfl rfl fun A => CALL1 [0, 1, 2, 3, 4] (isNumber_ g L c ws cw (mQ9 ws s) (by first | exact hk | exact m1_le hk | exact m2_le (m1_le hk) | exact mem3_le hk | exact offI_le (mem3_le hk) | exact m3_le (offI_le (mem3_le hk)) | exact regI_le (mem3_le hk) | exact regI_le (m3_le (offI_le (mem3_le hk)))) hn hw) A rfl rfl rfl rfl rfl rfl rfl fun A => N hX 3 A rfl rfl fun A => forkE 35 A rfl
   (fun h2 A => N hX 11 A rfl rfl fun A => CALL1 [2, 3] (number__ ws cw ((mQ9 ws s).p) (by first | exact hk | exact m1_le hk | exact m2_le (m1_le hk) | exact mem3_le hk | exact offI_le (mem3_le hk) | exact m3_le (offI_le (mem3_le hk)) | exact regI_le (mem3_le hk) | exact regI_le (m3_le (offI_le (mem3_le hk)))) hn) A rfl rfl rfl rfl rfl rfl rfl fun A => N hX 18 A rfl rfl fun A => CALL1 [2, 3, 7] (take_ ws cw (nbK ws ((mQ9 ws s).p)) [43] (by first | exact hk | exact m1_le hk | exact m2_le (m1_le hk) | exact mem3_le hk | exact offI_le (mem3_le hk) | exact m3_le (offI_le (mem3_le hk)) | exact regI_le (mem3_le hk) | exact regI_le (m3_le (offI_le (mem3_le hk)))) hn) A rfl rfl rfl rfl rfl rfl rfl fun A => N hX 9 A rfl rfl fun A => fork 60 A rfl
    (fun h3 A => N hX 4 A rfl rfl fun A => CALL1 [0, 1, 2, 3, 4] (reg_ g L c ws cw (⟨(⟨(mQ9 ws s).ins.op, (mQ9 ws s).ins.dst, (mQ9 ws s).ins.ra, (mQ9 ws s).ins.rb, (mQ9 ws s).ins.imm, (mQ9 ws s).ins.loc, nbV ws ((mQ9 ws s).p), (mQ9 ws s).ins.ix, (mQ9 ws s).ins.sz, (mQ9 ws s).ins.fn, (mQ9 ws s).ins.acq, (mQ9 ws s).ins.weak, (mQ9 ws s).ins.rel, (mQ9 ws s).ins.pred, (mQ9 ws s).ins.succ, (mQ9 ws s).ins.to_, (mQ9 ws s).ins.zero⟩ : In), (mQ9 ws s).lab, (mQ9 ws s).e, (mQ9 ws s).a, tkK ws (nbK ws ((mQ9 ws s).p)) [43]⟩ : Ps) (by first | exact hk | exact m1_le hk | exact m2_le (m1_le hk) | exact mem3_le hk | exact offI_le (mem3_le hk) | exact m3_le (offI_le (mem3_le hk)) | exact regI_le (mem3_le hk) | exact regI_le (m3_le (offI_le (mem3_le hk)))) hn hw) A rfl rfl rfl rfl rfl rfl rfl fun A => N hX 11 A rfl rfl fun A => CALL1 [1, 2, 3] (mark_ ws cw (((⟨(⟨(mQ9 ws s).ins.op, (mQ9 ws s).ins.dst, (mQ9 ws s).ins.ra, (mQ9 ws s).ins.rb, (mQ9 ws s).ins.imm, (mQ9 ws s).ins.loc, nbV ws ((mQ9 ws s).p), (mQ9 ws s).ins.ix, (mQ9 ws s).ins.sz, (mQ9 ws s).ins.fn, (mQ9 ws s).ins.acq, (mQ9 ws s).ins.weak, (mQ9 ws s).ins.rel, (mQ9 ws s).ins.pred, (mQ9 ws s).ins.succ, (mQ9 ws s).ins.to_, (mQ9 ws s).ins.zero⟩ : In), (mQ9 ws s).lab, (mQ9 ws s).e, (mQ9 ws s).a, tkK ws (nbK ws ((mQ9 ws s).p)) [43]⟩ : Ps).wa (knA ws (⟨(⟨(mQ9 ws s).ins.op, (mQ9 ws s).ins.dst, (mQ9 ws s).ins.ra, (mQ9 ws s).ins.rb, (mQ9 ws s).ins.imm, (mQ9 ws s).ins.loc, nbV ws ((mQ9 ws s).p), (mQ9 ws s).ins.ix, (mQ9 ws s).ins.sz, (mQ9 ws s).ins.fn, (mQ9 ws s).ins.acq, (mQ9 ws s).ins.weak, (mQ9 ws s).ins.rel, (mQ9 ws s).ins.pred, (mQ9 ws s).ins.succ, (mQ9 ws s).ins.to_, (mQ9 ws s).ins.zero⟩ : In), (mQ9 ws s).lab, (mQ9 ws s).e, (mQ9 ws s).a, tkK ws (nbK ws ((mQ9 ws s).p)) [43]⟩ : Ps).as [g.r0, g.r1, g.r2, g.r3, g.r4, g.r5, g.r6, g.r7])).as) [93] (by first | exact hk | exact m1_le hk | exact m2_le (m1_le hk) | exact mem3_le hk | exact offI_le (mem3_le hk) | exact m3_le (offI_le (mem3_le hk)) | exact regI_le (mem3_le hk) | exact regI_le (m3_le (offI_le (mem3_le hk)))) hn hw) A rfl rfl rfl rfl rfl rfl rfl fun A => N hX 1 A rfl rfl fun A => ENDN (RETN hX A rfl rfl rfl h0 rfl rfl rfl rfl rfl (by unfold memS; rw [if_pos (show psB ws (m2 ws (m1 ws s)) = true from h1), if_pos (show nuQ ws (mem3 ws s) = true from (beq_iff_eq.2 h2)), if_pos (show psB ws (offI ws (mem3 ws s)) = true from h3)] <;> rfl)))
    (fun h3 A => N hX 8 A rfl rfl fun A => CALL1 [1, 2, 3] (mark_ ws cw (⟨tkK ws (nbK ws ((mQ9 ws s).p)) [43], (mQ9 ws s).e, (mQ9 ws s).a⟩ : As) [93] (by first | exact hk | exact m1_le hk | exact m2_le (m1_le hk) | exact mem3_le hk | exact offI_le (mem3_le hk) | exact m3_le (offI_le (mem3_le hk)) | exact regI_le (mem3_le hk) | exact regI_le (m3_le (offI_le (mem3_le hk)))) hn hw) A rfl rfl rfl rfl rfl rfl rfl fun A => N hX 1 A rfl rfl fun A => ENDN (RETN hX A rfl rfl rfl h0 rfl rfl rfl rfl rfl (by unfold memS; rw [if_pos (show psB ws (m2 ws (m1 ws s)) = true from h1), if_pos (show nuQ ws (mem3 ws s) = true from (beq_iff_eq.2 h2)), if_neg (show ¬ psB ws (offI ws (mem3 ws s)) = true from ne_true_of_eq_false h3)] <;> rfl))))
   (fun h2 A => N hX 9 A rfl rfl fun A => fork 60 A rfl
    (fun h4 A => N hX 4 A rfl rfl fun A => CALL1 [0, 1, 2, 3, 4] (reg_ g L c ws cw (mQ9 ws s) (by first | exact hk | exact m1_le hk | exact m2_le (m1_le hk) | exact mem3_le hk | exact offI_le (mem3_le hk) | exact m3_le (offI_le (mem3_le hk)) | exact regI_le (mem3_le hk) | exact regI_le (m3_le (offI_le (mem3_le hk)))) hn hw) A rfl rfl rfl rfl rfl rfl rfl fun A => N hX 11 A rfl rfl fun A => CALL1 [1, 2, 3] (mark_ ws cw (((mQ9 ws s).wa (knA ws (mQ9 ws s).as [g.r0, g.r1, g.r2, g.r3, g.r4, g.r5, g.r6, g.r7])).as) [93] (by first | exact hk | exact m1_le hk | exact m2_le (m1_le hk) | exact mem3_le hk | exact offI_le (mem3_le hk) | exact m3_le (offI_le (mem3_le hk)) | exact regI_le (mem3_le hk) | exact regI_le (m3_le (offI_le (mem3_le hk)))) hn hw) A rfl rfl rfl rfl rfl rfl rfl fun A => N hX 1 A rfl rfl fun A => ENDN (RETN hX A rfl rfl rfl h0 rfl rfl rfl rfl rfl (by unfold memS; rw [if_pos (show psB ws (m2 ws (m1 ws s)) = true from h1), if_neg (show ¬ nuQ ws (mem3 ws s) = true from ne_true_of_eq_false (beq_eq_false_iff_ne.2 h2))] <;> rfl)))
    (fun h4 A => absurd (h1.symm.trans h4) (by decide))))
  (fun h1 A => N hX 14 A rfl rfl fun A => fork 60 A rfl
   (fun h5 A => absurd (h1.symm.trans h5) (by decide))
   (fun h5 A => N hX 8 A rfl rfl fun A => CALL1 [1, 2, 3] (mark_ ws cw (⟨tkK ws ((knA ws (mkA ws s.as [91]) [[120], [121], [122]]).p) [43], (knA ws (mkA ws s.as [91]) [[120], [121], [122]]).e, (knA ws (mkA ws s.as [91]) [[120], [121], [122]]).a⟩ : As) [93] (by first | exact hk | exact m1_le hk | exact m2_le (m1_le hk) | exact mem3_le hk | exact offI_le (mem3_le hk) | exact m3_le (offI_le (mem3_le hk)) | exact regI_le (mem3_le hk) | exact regI_le (m3_le (offI_le (mem3_le hk)))) hn hw) A rfl rfl rfl rfl rfl rfl rfl fun A => N hX 1 A rfl rfl fun A => ENDN (RETN hX A rfl rfl rfl h0 rfl rfl rfl rfl rfl (by unfold memS; rw [if_neg (show ¬ psB ws (m2 ws (m1 ws s)) = true from ne_true_of_eq_false h1)] <;> rfl))))
theorem isMark_ (t : Tk) (m : List UInt8)  : Fn Tryz.prog 228 [.agg [.int .i64 t.kind, .str t.text, .int .i64 t.n, .int .i64 t.at_], .str m] [] (Rt (.bool ((t.kind == 3) && (t.text == m))) []) :=
 enterM (n := 14) (by kernel_rfl) Tryz.func228 rfl rfl rfl fun G w a h0 A => N hX 21 A rfl rfl fun A => RETN hX A rfl rfl rfl h0 rfl rfl rfl rfl rfl rfl
def begI (g : Lg) (t : Tk) : Bool := if g.im = [] then ((t.kind == 2) || ((t.kind == 3) && (t.text == [45]))) else ((t.kind == 3) && (t.text == g.im))
def begQ (g : Lg) (r : Rw) (p : Int) (t : Tk) : Bool := if p = 5 then begI g t else if p = 6 then ((t.kind == 3) && (t.text == [91])) else if p = 10 then ((t.kind == 1) && (t.text == r.wd)) else (t.kind == 1)
theorem beginsImm_ (g : Lg) (L : List Rw) (c : Nat) (ws : List Tk) (cw : Nat) (s : Ps) (t : Tk)  : Fn Tryz.prog 227 [.ptr 0 0, .agg [.int .i64 t.kind, .str t.text, .int .i64 t.n, .int .i64 t.at_]] [some (.blk (rdS g L.length c s.ins s.lab 1 4)), some (.blk [.ptr 2 0, .int .i64 s.e, .int .i64 s.a]), some (.blk [.sl 3 ws.length cw, .int .i64 ((s.p : Nat) : Int)]), some (wQ9 ws), some (lQ9 L)] (Rt (.bool (begI g t)) [some (.blk (rdS g L.length c s.ins s.lab 1 4)), some (.blk [.ptr 2 0, .int .i64 s.e, .int .i64 s.a]), some (.blk [.sl 3 ws.length cw, .int .i64 ((s.p : Nat) : Int)]), some (wQ9 ws), some (lQ9 L)]) :=
 enterM (n := 25) (by kernel_rfl) Tryz.func227 rfl rfl rfl fun G w a h0 A => N hX 17 A rfl rfl fun A => forkN 10 A rfl
  (fun h1 A => N hX 2 A rfl rfl fun A => DRAWN hX hmo [(6, .bool ((t.kind == 3) && (t.text == g.im)))] [] A rfl rfl rfl rfl (by kernel_rfl) (effAll_nil _ _) ⟨.inl ⟨_, _, rfl, rfl, isMark_ t g.im⟩, trivial⟩ fun A => N hX 2 A rfl rfl fun A => RETN hX A rfl rfl rfl h0 rfl rfl rfl rfl (by unfold begI; rw [if_neg h1] <;> rfl) rfl)
  (fun h1 A => N hX 9 A rfl rfl fun A => forkE 21 A rfl
   (fun h2 A => N hX 7 A rfl rfl fun A => RETN hX A rfl rfl rfl h0 rfl rfl rfl rfl (by unfold begI; rw [if_pos h1, show (t.kind == 2) = true from beq_iff_eq.2 h2] <;> rfl) rfl)
   (fun h2 A => N hX 1 A rfl rfl fun A => CALL1 [] (isMark_ t [45]) A rfl rfl rfl rfl rfl rfl rfl fun A => N hX 5 A rfl rfl fun A => RETN hX A rfl rfl rfl h0 rfl rfl rfl rfl (by unfold begI; rw [if_pos h1, show (t.kind == 2) = false from beq_eq_false_iff_ne.2 h2] <;> rfl) rfl))
def ptS (g : Lg) (ws : List Tk) (p : Int) (s : Ps) : Ps :=
  if p = 1 then ⟨{ s.ins with dst := knI ws s.as [g.r0, g.r1, g.r2, g.r3, g.r4, g.r5, g.r6, g.r7] }, s.lab, (knA ws s.as [g.r0, g.r1, g.r2, g.r3, g.r4, g.r5, g.r6, g.r7]).e, (knA ws s.as [g.r0, g.r1, g.r2, g.r3, g.r4, g.r5, g.r6, g.r7]).a, (knA ws s.as [g.r0, g.r1, g.r2, g.r3, g.r4, g.r5, g.r6, g.r7]).p⟩ else
  if p = 4 then ⟨{ s.ins with dst := knI ws s.as [g.r0, g.r1, g.r2, g.r3, g.r4, g.r5, g.r6, g.r7] }, s.lab, (knA ws s.as [g.r0, g.r1, g.r2, g.r3, g.r4, g.r5, g.r6, g.r7]).e, (knA ws s.as [g.r0, g.r1, g.r2, g.r3, g.r4, g.r5, g.r6, g.r7]).a, (knA ws s.as [g.r0, g.r1, g.r2, g.r3, g.r4, g.r5, g.r6, g.r7]).p⟩ else
  if p = 2 then ⟨{ s.ins with ra := knI ws s.as [g.r0, g.r1, g.r2, g.r3, g.r4, g.r5, g.r6, g.r7] }, s.lab, (knA ws s.as [g.r0, g.r1, g.r2, g.r3, g.r4, g.r5, g.r6, g.r7]).e, (knA ws s.as [g.r0, g.r1, g.r2, g.r3, g.r4, g.r5, g.r6, g.r7]).a, (knA ws s.as [g.r0, g.r1, g.r2, g.r3, g.r4, g.r5, g.r6, g.r7]).p⟩ else
  if p = 3 then ⟨{ s.ins with rb := knI ws s.as [g.r0, g.r1, g.r2, g.r3, g.r4, g.r5, g.r6, g.r7] }, s.lab, (knA ws s.as [g.r0, g.r1, g.r2, g.r3, g.r4, g.r5, g.r6, g.r7]).e, (knA ws s.as [g.r0, g.r1, g.r2, g.r3, g.r4, g.r5, g.r6, g.r7]).a, (knA ws s.as [g.r0, g.r1, g.r2, g.r3, g.r4, g.r5, g.r6, g.r7]).p⟩ else
  if p = 5 then ⟨{ s.ins with imm := immV g ws s.as }, s.lab, (immA g ws s.as).e, (immA g ws s.as).a, (immA g ws s.as).p⟩ else
  if p = 6 then memS g ws s else
  if p = 7 then ⟨s.ins, nmT ws s.p, s.e, s.a, nmK ws s.p⟩ else
  if p = 8 then ⟨{ s.ins with pred := knI ws s.as [g.f0, g.f1, g.f2] + 1 }, s.lab, (knA ws s.as [g.f0, g.f1, g.f2]).e, (knA ws s.as [g.f0, g.f1, g.f2]).a, (knA ws s.as [g.f0, g.f1, g.f2]).p⟩ else
  if p = 9 then ⟨{ s.ins with succ := knI ws s.as [g.f0, g.f1, g.f2] + 1 }, s.lab, (knA ws s.as [g.f0, g.f1, g.f2]).e, (knA ws s.as [g.f0, g.f1, g.f2]).a, (knA ws s.as [g.f0, g.f1, g.f2]).p⟩ else
  if p = 10 then ⟨s.ins, s.lab, s.e, s.a, nxK ws s.p⟩ else
  s
theorem ptS_le {g : Lg} {ws : List Tk} {p : Int} {s : Ps} (h : s.p ≤ ws.length) : (ptS g ws p s).p ≤ ws.length := by
  unfold ptS
  split
  · exact knA_le (s := s.as) h
  split
  · exact knA_le (s := s.as) h
  split
  · exact knA_le (s := s.as) h
  split
  · exact knA_le (s := s.as) h
  split
  · exact immA_le (s := s.as) h
  split
  · exact memS_le h
  split
  · exact nmK_le h
  split
  · exact knA_le (s := s.as) h
  split
  · exact knA_le (s := s.as) h
  split
  · exact nxK_le h
  · exact h
theorem part_ (g : Lg) (L : List Rw) (c : Nat) (ws : List Tk) (cw : Nat) (s : Ps) (p : Int) (hk : s.p ≤ ws.length) (hn : ws.length ≤ 1000000) (hw : WsOK ws) : Fn Tryz.prog 137 [.ptr 0 0, .int .i64 p] [some (.blk (rdS g L.length c s.ins s.lab 1 4)), some (.blk [.ptr 2 0, .int .i64 s.e, .int .i64 s.a]), some (.blk [.sl 3 ws.length cw, .int .i64 ((s.p : Nat) : Int)]), some (wQ9 ws), some (lQ9 L)] (Rt (.tup []) [some (.blk (rdS g L.length c ((ptS g ws p s).ins) ((ptS g ws p s).lab) 1 4)), some (.blk [.ptr 2 0, .int .i64 ((ptS g ws p s).e), .int .i64 ((ptS g ws p s).a)]), some (.blk [.sl 3 ws.length cw, .int .i64 (((ptS g ws p s).p : Nat) : Int)]), some (wQ9 ws), some (lQ9 L)]) :=
 enterM (n := 84) (by kernel_rfl) Tryz.func137 rfl rfl rfl fun G w a h0 A => N hX 13 A rfl rfl fun A => forkE 5 A rfl
  (fun h1 A => N hX 7 A rfl rfl fun A => CALL1 [0, 1, 2, 3, 4] (reg_ g L c ws cw s (by first | exact hk | exact m1_le hk | exact m2_le (m1_le hk) | exact mem3_le hk | exact offI_le (mem3_le hk) | exact m3_le (offI_le (mem3_le hk)) | exact regI_le (mem3_le hk) | exact regI_le (m3_le (offI_le (mem3_le hk)))) hn hw) A rfl rfl rfl rfl rfl rfl rfl fun A => N hX 6 A rfl rfl fun A => ENDN (RETN hX A rfl rfl rfl h0 rfl rfl rfl rfl rfl (by unfold ptS; rw [if_pos h1] <;> rfl)))
  (fun h1 A => N hX 6 A rfl rfl fun A => forkE 5 A rfl
   (fun h2 A => N hX 4 A rfl rfl fun A => CALL1 [0, 1, 2, 3, 4] (reg_ g L c ws cw s (by first | exact hk | exact m1_le hk | exact m2_le (m1_le hk) | exact mem3_le hk | exact offI_le (mem3_le hk) | exact m3_le (offI_le (mem3_le hk)) | exact regI_le (mem3_le hk) | exact regI_le (m3_le (offI_le (mem3_le hk)))) hn hw) A rfl rfl rfl rfl rfl rfl rfl fun A => N hX 6 A rfl rfl fun A => ENDN (RETN hX A rfl rfl rfl h0 rfl rfl rfl rfl rfl (by unfold ptS; rw [if_neg h1, if_pos h2] <;> rfl)))
   (fun h2 A => N hX 7 A rfl rfl fun A => forkE 14 A rfl
    (fun h3 A => N hX 4 A rfl rfl fun A => CALL1 [0, 1, 2, 3, 4] (reg_ g L c ws cw s (by first | exact hk | exact m1_le hk | exact m2_le (m1_le hk) | exact mem3_le hk | exact offI_le (mem3_le hk) | exact m3_le (offI_le (mem3_le hk)) | exact regI_le (mem3_le hk) | exact regI_le (m3_le (offI_le (mem3_le hk)))) hn hw) A rfl rfl rfl rfl rfl rfl rfl fun A => N hX 6 A rfl rfl fun A => ENDN (RETN hX A rfl rfl rfl h0 rfl rfl rfl rfl rfl (by unfold ptS; rw [if_neg h1, if_neg h2, if_pos h3] <;> rfl)))
    (fun h3 A => N hX 7 A rfl rfl fun A => forkE 22 A rfl
     (fun h4 A => N hX 4 A rfl rfl fun A => CALL1 [0, 1, 2, 3, 4] (reg_ g L c ws cw s (by first | exact hk | exact m1_le hk | exact m2_le (m1_le hk) | exact mem3_le hk | exact offI_le (mem3_le hk) | exact m3_le (offI_le (mem3_le hk)) | exact regI_le (mem3_le hk) | exact regI_le (m3_le (offI_le (mem3_le hk)))) hn hw) A rfl rfl rfl rfl rfl rfl rfl fun A => N hX 6 A rfl rfl fun A => ENDN (RETN hX A rfl rfl rfl h0 rfl rfl rfl rfl rfl (by unfold ptS; rw [if_neg h1, if_neg h2, if_neg h3, if_pos h4] <;> rfl)))
     (fun h4 A => N hX 7 A rfl rfl fun A => forkE 30 A rfl
      (fun h5 A => N hX 4 A rfl rfl fun A => CALL1 [0, 1, 2, 3, 4] (imm_ g L c ws cw s (by first | exact hk | exact m1_le hk | exact m2_le (m1_le hk) | exact mem3_le hk | exact offI_le (mem3_le hk) | exact m3_le (offI_le (mem3_le hk)) | exact regI_le (mem3_le hk) | exact regI_le (m3_le (offI_le (mem3_le hk)))) hn hw) A rfl rfl rfl rfl rfl rfl rfl fun A => N hX 6 A rfl rfl fun A => ENDN (RETN hX A rfl rfl rfl h0 rfl rfl rfl rfl rfl (by unfold ptS; rw [if_neg h1, if_neg h2, if_neg h3, if_neg h4, if_pos h5] <;> rfl)))
      (fun h5 A => N hX 7 A rfl rfl fun A => forkE 38 A rfl
       (fun h6 A => N hX 3 A rfl rfl fun A => CALL1 [0, 1, 2, 3, 4] (mem_ g L c ws cw s (by first | exact hk | exact m1_le hk | exact m2_le (m1_le hk) | exact mem3_le hk | exact offI_le (mem3_le hk) | exact m3_le (offI_le (mem3_le hk)) | exact regI_le (mem3_le hk) | exact regI_le (m3_le (offI_le (mem3_le hk)))) hn hw) A rfl rfl rfl rfl rfl rfl rfl fun A => N hX 2 A rfl rfl fun A => ENDN (RETN hX A rfl rfl rfl h0 rfl rfl rfl rfl rfl (by unfold ptS; rw [if_neg h1, if_neg h2, if_neg h3, if_neg h4, if_neg h5, if_pos h6] <;> rfl)))
       (fun h6 A => N hX 7 A rfl rfl fun A => forkE 42 A rfl
        (fun h7 A => N hX 10 A rfl rfl fun A => CALL1 [2, 3] (name_ ws cw s.p (by first | exact hk | exact m1_le hk | exact m2_le (m1_le hk) | exact mem3_le hk | exact offI_le (mem3_le hk) | exact m3_le (offI_le (mem3_le hk)) | exact regI_le (mem3_le hk) | exact regI_le (m3_le (offI_le (mem3_le hk)))) hn) A rfl rfl rfl rfl rfl rfl rfl fun A => N hX 8 A rfl rfl fun A => ENDN (RETN hX A rfl rfl rfl h0 rfl rfl rfl rfl rfl (by unfold ptS; rw [if_neg h1, if_neg h2, if_neg h3, if_neg h4, if_neg h5, if_neg h6, if_pos h7] <;> rfl)))
        (fun h7 A => N hX 7 A rfl rfl fun A => forkE 58 A rfl
         (fun h8 A => N hX 4 A rfl rfl fun A => CALL1 [0, 1, 2, 3, 4] (fenced_ g L c ws cw s (by first | exact hk | exact m1_le hk | exact m2_le (m1_le hk) | exact mem3_le hk | exact offI_le (mem3_le hk) | exact m3_le (offI_le (mem3_le hk)) | exact regI_le (mem3_le hk) | exact regI_le (m3_le (offI_le (mem3_le hk)))) hn hw) A rfl rfl rfl rfl rfl rfl rfl fun A => N hX 6 A rfl rfl fun A => ENDN (RETN hX A rfl rfl rfl h0 rfl rfl rfl rfl rfl (by unfold ptS; rw [if_neg h1, if_neg h2, if_neg h3, if_neg h4, if_neg h5, if_neg h6, if_neg h7, if_pos h8] <;> rfl)))
         (fun h8 A => N hX 7 A rfl rfl fun A => forkE 66 A rfl
          (fun h9 A => N hX 4 A rfl rfl fun A => CALL1 [0, 1, 2, 3, 4] (fenced_ g L c ws cw s (by first | exact hk | exact m1_le hk | exact m2_le (m1_le hk) | exact mem3_le hk | exact offI_le (mem3_le hk) | exact m3_le (offI_le (mem3_le hk)) | exact regI_le (mem3_le hk) | exact regI_le (m3_le (offI_le (mem3_le hk)))) hn hw) A rfl rfl rfl rfl rfl rfl rfl fun A => N hX 6 A rfl rfl fun A => ENDN (RETN hX A rfl rfl rfl h0 rfl rfl rfl rfl rfl (by unfold ptS; rw [if_neg h1, if_neg h2, if_neg h3, if_neg h4, if_neg h5, if_neg h6, if_neg h7, if_neg h8, if_pos h9] <;> rfl)))
          (fun h9 A => N hX 7 A rfl rfl fun A => forkE 74 A rfl
           (fun h10 A => N hX 9 A rfl rfl fun A => CALL1 [2, 3] (next_ ws cw s.p (by first | exact hk | exact m1_le hk | exact m2_le (m1_le hk) | exact mem3_le hk | exact offI_le (mem3_le hk) | exact m3_le (offI_le (mem3_le hk)) | exact regI_le (mem3_le hk) | exact regI_le (m3_le (offI_le (mem3_le hk)))) hn) A rfl rfl rfl rfl rfl rfl rfl fun A => N hX 2 A rfl rfl fun A => ENDN (RETN hX A rfl rfl rfl h0 rfl rfl rfl rfl rfl (by unfold ptS; rw [if_neg h1, if_neg h2, if_neg h3, if_neg h4, if_neg h5, if_neg h6, if_neg h7, if_neg h8, if_neg h9, if_pos h10] <;> rfl)))
           (fun h10 A => N hX 3 A rfl rfl fun A => ENDN (RETN hX A rfl rfl rfl h0 rfl rfl rfl rfl rfl (by unfold ptS; rw [if_neg h1, if_neg h2, if_neg h3, if_neg h4, if_neg h5, if_neg h6, if_neg h7, if_neg h8, if_neg h9, if_neg h10] <;> rfl))))))))))))
theorem begins_ (g : Lg) (L : List Rw) (c : Nat) (ws : List Tk) (cw : Nat) (s : Ps) (r : Rw) (k : Nat) (t : Tk) (hq : k < r.ps.length) : FnI (LiesAt r.pa r.ps) Tryz.prog 191 [.ptr 0 0, .agg (rwQ9 r), .int .i64 (k : Int), .agg [.int .i64 t.kind, .str t.text, .int .i64 t.n, .int .i64 t.at_]] [some (.blk (rdS g L.length c s.ins s.lab 1 4)), some (.blk [.ptr 2 0, .int .i64 s.e, .int .i64 s.a]), some (.blk [.sl 3 ws.length cw, .int .i64 ((s.p : Nat) : Int)]), some (wQ9 ws), some (lQ9 L)] (Rt (.bool (begQ g r (r.ps.getD k 0) t)) [some (.blk (rdS g L.length c s.ins s.lab 1 4)), some (.blk [.ptr 2 0, .int .i64 s.e, .int .i64 s.a]), some (.blk [.sl 3 ws.length cw, .int .i64 ((s.p : Nat) : Int)]), some (wQ9 ws), some (lQ9 L)]) :=
 enterI (n := 38) (by kernel_rfl) Tryz.func191 rfl rfl rfl fun G w a h0 hI A => N hX 12 A rfl rfl fun A => ADOPT (y := .sl 7 r.ps.length r.cp) (H' := [some (.blk (rdS g L.length c s.ins s.lab 1 4)), some (.blk [.ptr 2 0, .int .i64 s.e, .int .i64 s.a]), some (.blk [.sl 3 ws.length cw, .int .i64 ((s.p : Nat) : Int)]), some (wQ9 ws), some (lQ9 L), some (.blk (rwQ9 r)), some (.blk [.int .i64 t.kind, .str t.text, .int .i64 t.n, .int .i64 t.at_]), some (.lst 1 r.ps.length (fun j => [.int .i64 (r.ps.getD j 0)]))]) 10 hI A rfl rfl rfl rfl fun A => N hX 7 A rfl (ok_d (by omega) <| ok_d (by omega) <| okE_nil) fun A => N hX 5 A rfl rfl fun A => forkE 14 A rfl
  (fun h1 A => N hX 5 A rfl rfl fun A => CALL1 [0, 1, 2, 3, 4] (beginsImm_ g L c ws cw s t) A rfl rfl rfl rfl rfl rfl rfl fun A => N hX 4 A rfl rfl fun A => RETN hX A rfl rfl rfl h0 rfl rfl rfl rfl (by unfold begQ; rw [if_pos (show r.ps.getD k 0 = 5 from h1)] <;> rfl) rfl)
  (fun h1 A => N hX 7 A rfl rfl fun A => forkE 19 A rfl
   (fun h2 A => N hX 4 A rfl rfl fun A => CALL1 [] (isMark_ t [91]) A rfl rfl rfl rfl rfl rfl rfl fun A => N hX 4 A rfl rfl fun A => RETN hX A rfl rfl rfl h0 rfl rfl rfl rfl (by unfold begQ; rw [if_neg (show ¬ r.ps.getD k 0 = 5 from h1), if_pos (show r.ps.getD k 0 = 6 from h2)] <;> rfl) rfl)
   (fun h2 A => N hX 7 A rfl rfl fun A => forkE 23 A rfl
    (fun h3 A => N hX 17 A rfl rfl fun A => RETN hX A rfl rfl rfl h0 rfl rfl rfl rfl (by unfold begQ; rw [if_neg (show ¬ r.ps.getD k 0 = 5 from h1), if_neg (show ¬ r.ps.getD k 0 = 6 from h2), if_pos (show r.ps.getD k 0 = 10 from h3)] <;> rfl) rfl)
    (fun h3 A => N hX 13 A rfl rfl fun A => RETN hX A rfl rfl rfl h0 rfl rfl rfl rfl (by unfold begQ; rw [if_neg (show ¬ r.ps.getD k 0 = 5 from h1), if_neg (show ¬ r.ps.getD k 0 = 6 from h2), if_neg (show ¬ r.ps.getD k 0 = 10 from h3)] <;> rfl) rfl)))
end Go.Proofs.YtedlaclfhgneeabGreatDoor
namespace Go.Proofs.YtedlaclfhgneeabGreatDoor
open Go.Shelf Go.RowKit
set_option linter.unusedVariables false
def laysCut_ren : Go.Shelf.Ren := ⟨fun | 145 => 223 | 217 => 179 | 219 => 128 | 220 => 260 | 224 => 181 | 225 => 180 | 266 => 215 | 267 => 182 | 314 => 216 | n => n, fun | 3 => 3 | 4 => 4 | 5 => 5 | 9 => 9 | 46 => 224 | 51 => 244 | 59 => 252 | 146 => 245 | n => n, fun | 1 => 0 | n => n⟩
theorem laysCut : Go.Proofs.Lays.n145 Tryz.prog laysCut_ren := {
  mixed := by kernel_rfl
  f145 := Tryz.func223.trans (congrArg some (by kernel_rfl))
  f217 := Tryz.func179.trans (congrArg some (by kernel_rfl))
  f219 := Tryz.func128.trans (congrArg some (by kernel_rfl))
  f220 := Tryz.func260.trans (congrArg some (by kernel_rfl))
  f224 := Tryz.func181.trans (congrArg some (by kernel_rfl))
  f225 := Tryz.func180.trans (congrArg some (by kernel_rfl))
  f266 := Tryz.func215.trans (congrArg some (by kernel_rfl))
  f267 := Tryz.func182.trans (congrArg some (by kernel_rfl))
  f314 := Tryz.func216.trans (congrArg some (by kernel_rfl))
  t3 := Tryz.underlying3
  a3 := Tryz.isAgg3
  z3 := Tryz.sizeOf3
  v3 := Tryz.zeroValue3
  t4 := Tryz.underlying4
  a4 := Tryz.isAgg4
  z4 := Tryz.sizeOf4
  v4 := Tryz.zeroValue4
  t5 := Tryz.underlying5
  a5 := Tryz.isAgg5
  z5 := Tryz.sizeOf5
  v5 := Tryz.zeroValue5
  t9 := Tryz.underlying9
  a9 := Tryz.isAgg9
  z9 := Tryz.sizeOf9
  v9 := Tryz.zeroValue9
  t46 := Tryz.underlying224
  a46 := Tryz.isAgg224
  z46 := Tryz.sizeOf224
  v46 := Tryz.zeroValue224
  t51 := Tryz.underlying244
  a51 := Tryz.isAgg244
  z51 := Tryz.sizeOf244
  v51 := Tryz.zeroValue244
  t59 := Tryz.underlying252
  a59 := Tryz.isAgg252
  z59 := Tryz.sizeOf252
  v59 := Tryz.zeroValue252
  t146 := Tryz.underlying245
  a146 := Tryz.isAgg245
  z146 := Tryz.sizeOf245
  v146 := Tryz.zeroValue245
  g1 := by kernel_rfl }
theorem cut_any (l q : List UInt8) (m : Int) (w : World) (hl : l.length ≤ 1000000) (hm : w.cell? ⟨0, 0, none⟩ = some (.int .i64 m)) : Calls Tryz.prog 223 #[.string (S l), .string (S q)] w fun e w' => e = .returned (.tuple #[.string (S (Lib.cut l q).1), .string (S (Lib.cut l q).2.1), .bool (Lib.cut l q).2.2]) ∧ Grow w w' := by
  refine (Any.strings_Cut laysCut (S l) (S q) m w (by rw [S_size]; omega) hm).mono ?_
  rintro e w' ⟨rfl, k, rfl⟩
  exact ⟨by rw [S_data, S_data]; rfl, (Grow.refl w).drewN k⟩
end Go.Proofs.YtedlaclfhgneeabGreatDoor
namespace Go.Proofs.YtedlaclfhgneeabGreatDoor
open Go.RowKit
set_option linter.unusedVariables false
set_option linter.unusedSimpArgs false
set_option maxRecDepth 100000
set_option maxHeartbeats 2000000
set_option simprocs false
theorem cutI_ (l q : List UInt8) (os : List (Nat × Obj)) (hM : ∀ w ks, Gl os w ks → ∃ m, w.cell? ⟨0, 0, none⟩ = some (.int .i64 m)) (hl : l.length ≤ 1000000) : FnI (Gl os) Tryz.prog 223 [.str l, .str q] [] (Rt (.tup [.str (Lib.cut l q).1, .str (Lib.cut l q).2.1, .bool (Lib.cut l q).2.2]) []) := fnI_grow (by kernel_rfl) rfl rfl fun w ks h => by
  obtain ⟨m, hm⟩ := hM w ks h
  exact cut_any l q m w hl hm
def nms (g : Lg) (nm : List UInt8) : List (List UInt8) := [(Lib.cut nm [42]).1 ++ g.l0 ++ (Lib.cut nm [42]).2.1, (Lib.cut nm [42]).1 ++ g.l1 ++ (Lib.cut nm [42]).2.1, (Lib.cut nm [42]).1 ++ g.l2 ++ (Lib.cut nm [42]).2.1, (Lib.cut nm [42]).1 ++ g.l3 ++ (Lib.cut nm [42]).2.1]
theorem nms_at {g : Lg} {nm : List UInt8} {k : Nat} (h : k < 4) : (nms g nm).getD k [] = (Lib.cut nm [42]).1 ++ [g.l0, g.l1, g.l2, g.l3].getD ((k : Int)).toNat [] ++ (Lib.cut nm [42]).2.1 := by
  have : k = 0 ∨ k = 1 ∨ k = 2 ∨ k = 3 := by omega
  rcases this with rfl | rfl | rfl | rfl <;> rfl
def szP (g : Lg) (nm q : List UInt8) : Int × Bool := if (Lib.cut nm [42]).2.2 = true then (if idxS (nms g nm) q < 0 then (0, false) else (IntKind.wrap .i64 (1 * 2 ^ min (idxS (nms g nm) q).toNat (IntKind.bits .i64)), true)) else (0, q == nm)
structure NmOK (g : Lg) (nm : List UInt8) : Prop where
  n : nm.length ≤ 1000
  c1 : (Lib.cut nm [42]).1.length ≤ 1000
  c2 : (Lib.cut nm [42]).2.1.length ≤ 1000
  l : ∀ k, ([g.l0, g.l1, g.l2, g.l3].getD k []).length ≤ 1000
theorem sz_hit {g : Lg} {nm q : List UInt8} {k : Nat} (hc : (!((Lib.cut nm [42]).2.2)) = false) (hI : IxI (nms g nm) q k) (hk : (k : Int) < 4) (h : q = (Lib.cut nm [42]).1 ++ [g.l0, g.l1, g.l2, g.l3].getD ((k : Int)).toNat [] ++ (Lib.cut nm [42]).2.1) : szP g nm q = (IntKind.wrap .i64 (1 * 2 ^ min ((k : Int)).toNat (IntKind.bits .i64)), true) := by
  have e := hI.hit (show k < 4 by omega) (by rw [nms_at (by omega), ← h]; exact beq_self_eq_true q)
  unfold szP
  rw [if_pos (by cases z : (Lib.cut nm [42]).2.2 with | true => rfl | false => rw [z] at hc; cases hc), e, if_neg (by omega)]
theorem sz_fi {g : Lg} {nm q : List UInt8} {k : Nat} (hc : (!((Lib.cut nm [42]).2.2)) = false) (hI : IxI (nms g nm) q k) (hk : ¬ (k : Int) < 4) : szP g nm q = (0, false) := by
  have e := hI.fi (show 4 ≤ k by omega)
  unfold szP
  rw [if_pos (by cases z : (Lib.cut nm [42]).2.2 with | true => rfl | false => rw [z] at hc; cases hc), e, if_pos (by decide)]
theorem sz_no {g : Lg} {nm q : List UInt8} (hc : (!((Lib.cut nm [42]).2.2)) = true) : szP g nm q = (0, q == nm) := by
  unfold szP
  rw [if_neg (by intro z; rw [z] at hc; cases hc)]
theorem sz_nx {g : Lg} {nm q : List UInt8} {k : Nat} (hI : IxI (nms g nm) q k) (hk : (k : Int) < 4) (h : q ≠ (Lib.cut nm [42]).1 ++ [g.l0, g.l1, g.l2, g.l3].getD ((k : Int)).toNat [] ++ (Lib.cut nm [42]).2.1) : IxI (nms g nm) q (k + 1) :=
  hI.nx (show k < 4 by omega) (by rw [nms_at (by omega)]; exact beq_eq_false_iff_ne.2 h)
theorem sizeOf_ (g : Lg) (L : List Rw) (c : Nat) (r : Rw) (q : List UInt8) (os : List (Nat × Obj)) (hM : ∀ w ks, Gl os w ks → ∃ m, w.cell? ⟨0, 0, none⟩ = some (.int .i64 m)) (hm : NmOK g r.nm) : FnI (Gl os) Tryz.prog 186 [.agg [.str g.r0, .str g.r1, .str g.r2, .str g.r3, .str g.r4, .str g.r5, .str g.r6, .str g.r7, .str g.l0, .str g.l1, .str g.l2, .str g.l3, .str g.im, .str g.f0, .str g.f1, .str g.f2, .sl 0 L.length c], .agg (rwQ9 r), .str q] [some (lQ9 L)] (Rt (.tup [.int .i64 ((szP g r.nm q).1), .bool ((szP g r.nm q).2)]) [some (lQ9 L)]) :=
 enterI (n := 42) (by kernel_rfl) Tryz.func186 rfl rfl rfl fun G w a h0 hI A => N hX 12 A rfl rfl fun A => CALLI [] Gl.ok hI (cutI_ r.nm [42] os hM (by have := hm.n; omega)) A rfl rfl rfl rfl rfl rfl rfl fun A => N hX 16 A rfl rfl fun A => fork 21 A rfl
  (fun h1 A => N hX 2 A rfl rfl fun A => DRAWN hX hmo [] [] A rfl rfl rfl rfl (by kernel_rfl) (effAll_nil _ _) trivial fun A => N hX 2 A rfl rfl fun A => RETN hX A rfl rfl rfl h0 rfl rfl rfl rfl (by rw [sz_no h1] <;> rfl) rfl)
  (fun h1 A => N hX 12 A rfl rfl fun A => LOOP1 (fun (k : Nat) => [(2, .str q), (6, .int .i64 0), (7, .ff), (8, .str ((Lib.cut r.nm [42]).1)), (9, .str ((Lib.cut r.nm [42]).2.1)), (27, .agg [.str g.l0, .str g.l1, .str g.l2, .str g.l3]), (28, .int .i64 (k : Int))]) (fun (k : Nat) => [some (lQ9 L), some (.blk [.str g.r0, .str g.r1, .str g.r2, .str g.r3, .str g.r4, .str g.r5, .str g.r6, .str g.r7, .str g.l0, .str g.l1, .str g.l2, .str g.l3, .str g.im, .str g.f0, .str g.f1, .str g.f2, .sl 0 L.length c]), some (.blk (rwQ9 r))]) (fun (k : Nat) => IxI (nms g r.nm) q k) (fun (k : Nat) => 4 - k) 0 IxI.i0 ((A.cut [2, 6, 7, 8, 9, 27, 28] rfl).trunc 3 rfl rfl rfl (by simp only [List.length_cons, List.length_nil] at h0; omega)) fun k hI2 {G a w} A => N hX 6 A rfl rfl fun A => forkD 29 A rfl
    (fun h2 A => N hX 14 A rfl (ok_d (by have q4 := hI2.le; simp only [nms, List.length_cons, List.length_nil] at q4; omega) <| okE_nil) fun A => N hX 10 A rfl (ok_d (by have q1 := hm.c1; have q2 := hm.c2; have q3 := hm.l ((k : Int)).toNat; (try simp only [List.length_append]); omega) <| ok_d (by have q1 := hm.c1; have q2 := hm.c2; have q3 := hm.l ((k : Int)).toNat; (try simp only [List.length_append]); omega) <| okE_nil) fun A => forkE 38 A rfl
     (fun h3 A => N hX 10 A rfl (ok_d (by have q4 := hI2.le; simp only [nms, List.length_cons, List.length_nil] at q4; omega) <| okE_nil) fun A => RETN hX A rfl rfl rfl h0 rfl rfl rfl rfl (by rw [sz_hit h1 hI2 h2 h3] <;> rfl) rfl)
     (fun h3 A => N hX 8 A rfl (ok_d (by have q4 := hI2.le; simp only [nms, List.length_cons, List.length_nil] at q4; omega) <| okE_nil) fun A => ⟨k + 1, _, (by omega), (sz_nx hI2 h2 h3), ((A.cut [2, 6, 7, 8, 9, 27, 28] rfl).trunc 3 rfl rfl rfl (by simp only [List.length_cons, List.length_nil] at h0; omega))⟩))
    (fun h2 A => N hX 10 A rfl rfl fun A => RETN hX A rfl rfl rfl h0 rfl rfl rfl rfl (by rw [sz_fi h1 hI2 h2] <;> rfl) rfl))
def nSt (g : Lg) (q : List UInt8) (z : Int × List Rw) (r : Rw) : Int × List Rw := if (szP g r.nm q).2 = true then ((szP g r.nm q).1, z.2 ++ [r]) else z
def zK (g : Lg) (q : List UInt8) (L : List Rw) (z : Int) (k : Nat) : Int × List Rw := (L.take k).foldl (nSt g q) (z, [])
section
variable {g : Lg} {q : List UInt8} {L : List Rw} {z : Int} {k : Nat}
theorem zK_s (hk : k < L.length) : zK g q L z (k + 1) = nSt g q (zK g q L z k) (L.getD ((k : Int)).toNat Rw.z) := by
  unfold zK
  rw [List.take_add_one, List.getElem?_eq_getElem hk, List.foldl_append, Int.toNat_natCast, List.getD_eq_getElem?_getD, List.getElem?_eq_getElem hk]
  rfl
theorem zK_y (hk : (k : Int) < ((L.length : Nat) : Int)) (h : (szP g (L.getD ((k : Int)).toNat Rw.z).nm q).2 = true) : zK g q L z (k + 1) = ((szP g (L.getD ((k : Int)).toNat Rw.z).nm q).1, (zK g q L z k).2 ++ [L.getD ((k : Int)).toNat Rw.z]) := by
  rw [zK_s (by omega)]; unfold nSt; rw [if_pos h]
theorem zK_n (hk : (k : Int) < ((L.length : Nat) : Int)) (h : (szP g (L.getD ((k : Int)).toNat Rw.z).nm q).2 = false) : zK g q L z (k + 1) = zK g q L z k := by
  rw [zK_s (by omega)]; unfold nSt; rw [h]; rfl
theorem nfl : ∀ (l : List Rw) (z : Int × List Rw), (l.foldl (nSt g q) z).2.length ≤ z.2.length + l.length
  | [], z => by simp
  | r :: l, z => by
    rw [List.foldl_cons]
    have := nfl l (nSt g q z r)
    have h2 : (nSt g q z r).2.length ≤ z.2.length + 1 := by unfold nSt; split <;> simp
    rw [List.length_cons]; omega
theorem zK_len : (zK g q L z k).2.length ≤ k := by
  have := nfl (g := g) (q := q) (L.take k) (z, [])
  unfold zK
  have h2 : (L.take k).length ≤ k := by rw [List.length_take]; omega
  simp at this ⊢; omega
theorem zK_in : ∀ (l : List Rw) (z : Int × List Rw) (r : Rw), r ∈ (l.foldl (nSt g q) z).2 → r ∈ z.2 ∨ r ∈ l
  | [], z, r, h => .inl h
  | x :: l, z, r, h => by
    rw [List.foldl_cons] at h
    rcases zK_in l _ r h with h1 | h1
    · unfold nSt at h1
      split at h1
      · rcases List.mem_append.1 h1 with h2 | h2
        · exact .inl h2
        · rw [List.mem_singleton] at h2; subst h2; exact .inr List.mem_cons_self
      · exact .inl h1
    · exact .inr (List.mem_cons_of_mem _ h1)
theorem rw_app {ws : List Rw} {x : Rw} {k : Nat} (hk : k < ws.length) : (ws ++ [x]).getD k Rw.z = ws.getD k Rw.z := by
  rw [List.getD_eq_getElem?_getD, List.getD_eq_getElem?_getD, List.getElem?_append_left hk]
theorem rw_new {ws : List Rw} {x : Rw} : (ws ++ [x]).getD ws.length Rw.z = x := by
  rw [List.getD_eq_getElem?_getD, List.getElem?_append_right (Nat.le_refl _)]; simp
end
def naZ (g : Lg) (ws : List Tk) (L : List Rw) (s : Ps) : Int × List Rw := zK g (ws.getD s.p tok0).text L s.ins.sz L.length
def naR (g : Lg) (ws : List Tk) (L : List Rw) (s : Ps) : List Rw := if (ws.getD s.p tok0).kind = 1 then (naZ g ws L s).2 else []
def naS (g : Lg) (ws : List Tk) (L : List Rw) (s : Ps) : Ps := if (ws.getD s.p tok0).kind = 1 then
    (if (naZ g ws L s).2.length = 0 then ⟨{ s.ins with sz := (naZ g ws L s).1 }, s.lab, (refA ws s.as 21).e, (refA ws s.as 21).a, nxK ws (refA ws s.as 21).p⟩ else ⟨{ s.ins with sz := (naZ g ws L s).1 }, s.lab, s.e, s.a, nxK ws s.p⟩)
  else s.wa (refA ws s.as 22)
theorem naS_le {g : Lg} {ws : List Tk} {L : List Rw} {s : Ps} (h : s.p ≤ ws.length) : (naS g ws L s).p ≤ ws.length := by
  unfold naS
  split
  · split
    · exact nxK_le (k := (refA ws s.as 21).p) (by rw [refA_p]; exact h)
    · exact nxK_le h
  · show (refA ws s.as 22).p ≤ _
    rw [refA_p]; exact h
theorem rk_mem {L : List Rw} {k : Nat} (h : (k : Int) < ((L.length : Nat) : Int)) : L.getD ((k : Int)).toNat Rw.z ∈ L := by
  rw [Int.toNat_natCast, List.getD_eq_getElem?_getD, List.getElem?_eq_getElem (show k < L.length by omega)]; exact List.getElem_mem _
theorem named_ (g : Lg) (L : List Rw) (c : Nat) (ws : List Tk) (cw : Nat) (s : Ps) (hk : s.p ≤ ws.length) (hn : ws.length ≤ 1000000) (hw : WsOK ws) (os : List (Nat × Obj)) (hM : ∀ w ks, Gl os w ks → ∃ m, w.cell? ⟨0, 0, none⟩ = some (.int .i64 m)) (hm : ∀ r ∈ L, NmOK g r.nm) (hL : L.length ≤ 100000) : FnI (Gl os) Tryz.prog 134 [.ptr 0 0] [some (.blk (rdS g L.length c s.ins s.lab 1 4)), some (.blk [.ptr 2 0, .int .i64 s.e, .int .i64 s.a]), some (.blk [.sl 3 ws.length cw, .int .i64 ((s.p : Nat) : Int)]), some (wQ9 ws), some (lQ9 L)] (Rt (.sl 5 ((naR g ws L s).length) 0) [some (.blk (rdS g L.length c ((naS g ws L s).ins) ((naS g ws L s).lab) 1 4)), some (.blk [.ptr 2 0, .int .i64 ((naS g ws L s).e), .int .i64 ((naS g ws L s).a)]), some (.blk [.sl 3 ws.length cw, .int .i64 (((naS g ws L s).p : Nat) : Int)]), some (wQ9 ws), some (lQ9 L), some (.row 128 20 ((naR g ws L s).length) 0 (fun zz => rwc ((naR g ws L s).getD zz Rw.z)))]) :=
 enterI (n := 78) (by kernel_rfl) Tryz.func134 rfl rfl rfl fun G w a h0 hI A => N hX 14 A rfl rfl fun A => CALL1 [2, 3] (peek_ ws cw s.p (by first | exact hk | (show (refA ws s.as 21).p ≤ _; rw [refA_p]; exact hk)) hn) A rfl rfl rfl rfl rfl rfl rfl fun A => N hX 16 A rfl rfl fun A => forkN 23 A rfl
  (fun h1 A => N hX 7 A rfl rfl fun A => CALL1 [1, 2, 3] (refuse_ ws cw s.as 22 (by first | exact hk | (show (refA ws s.as 21).p ≤ _; rw [refA_p]; exact hk)) hn hw) A rfl rfl rfl rfl rfl rfl rfl fun A => N hX 8 A rfl rfl fun A => have A := A.nilRow 2 128 20 (fun zz => rwc (([] : List Rw).getD zz Rw.z)) rfl (fun z => ⟨_, rfl, rfl⟩); RET hX [6] (x := .sl 5 0 0) (H' := [some (.blk (rdS g L.length c s.ins s.lab 1 4)), some (.blk [.ptr 2 0, .int .i64 ((refA ws s.as 22).e), .int .i64 ((refA ws s.as 22).a)]), some (.blk [.sl 3 ws.length cw, .int .i64 (((refA ws s.as 22).p : Nat) : Int)]), some (wQ9 ws), some (lQ9 L), some (.row 128 20 0 0 (fun zz => rwc (([] : List Rw).getD zz Rw.z)))]) A ⟨by unfold naR; rw [if_neg (show ¬ (ws.getD s.p tok0).kind = 1 from h1)] <;> rfl, by unfold naR naS; rw [if_neg (show ¬ (ws.getD s.p tok0).kind = 1 from h1), if_neg (show ¬ (ws.getD s.p tok0).kind = 1 from h1)] <;> rfl⟩ rfl rfl rfl rfl rfl rfl rfl rfl h0)
  (fun h1 A => N hX 21 A rfl rfl fun A => have A := A.nilRow 5 128 20 (fun zz => rwc (([] : List Rw).getD zz Rw.z)) rfl (fun z => ⟨_, rfl, rfl⟩); LOOP1 (fun (k : Nat) => [(0, .ptr 0 0), (2, .sla none 0 0), (3, .ptr 5 0), (5, .sl 6 ((zK g (ws.getD s.p tok0).text L s.ins.sz k).2.length) 0), (33, .sl 4 L.length c), (34, .int .i64 ((L.length : Nat) : Int)), (35, .int .i64 (k : Int))]) (fun (k : Nat) => [some (.blk (rdS g L.length c (⟨s.ins.op, s.ins.dst, s.ins.ra, s.ins.rb, s.ins.imm, s.ins.loc, s.ins.off, s.ins.ix, (zK g (ws.getD s.p tok0).text L s.ins.sz k).1, s.ins.fn, s.ins.acq, s.ins.weak, s.ins.rel, s.ins.pred, s.ins.succ, s.ins.to_, s.ins.zero⟩ : In) s.lab 1 4)), some (.blk [.ptr 2 0, .int .i64 s.e, .int .i64 s.a]), some (.blk [.sl 3 ws.length cw, .int .i64 ((s.p : Nat) : Int)]), some (wQ9 ws), some (lQ9 L), some (.blk [.int .i64 ((ws.getD s.p tok0).kind), .str ((ws.getD s.p tok0).text), .int .i64 ((ws.getD s.p tok0).n), .int .i64 ((ws.getD s.p tok0).at_)]), some (.row 128 20 (((zK g (ws.getD s.p tok0).text L s.ins.sz k).2).length) 0 (fun zz => rwc (((zK g (ws.getD s.p tok0).text L s.ins.sz k).2).getD zz Rw.z)))]) (fun (k : Nat) => k ≤ L.length) (fun (k : Nat) => L.length - k) 0 (Nat.zero_le _) ((A.cut [0, 2, 3, 5, 33, 34, 35] rfl).trunc 7 rfl rfl rfl (by simp only [List.length_cons, List.length_nil] at h0; omega)) fun k hI2 {G a w} A => N hX 6 A rfl rfl fun A => forkD 36 A rfl
    (fun h2 A => N hX 14 A rfl (ok_d (by omega) <| ok_d (by omega) <| okE_nil) fun A => DRAWN hX hmo [] [(7, .tup [.int .i64 ((szP g (L.getD (((k : Int)).toNat) Rw.z).nm ((ws.getD s.p tok0).text)).1), .bool ((szP g (L.getD (((k : Int)).toNat) Rw.z).nm ((ws.getD s.p tok0).text)).2)], [some (.blk (rdS g L.length c (⟨s.ins.op, s.ins.dst, s.ins.ra, s.ins.rb, s.ins.imm, s.ins.loc, s.ins.off, s.ins.ix, (zK g (ws.getD s.p tok0).text L s.ins.sz k).1, s.ins.fn, s.ins.acq, s.ins.weak, s.ins.rel, s.ins.pred, s.ins.succ, s.ins.to_, s.ins.zero⟩ : In) s.lab 1 4)), some (.blk [.ptr 2 0, .int .i64 s.e, .int .i64 s.a]), some (.blk [.sl 3 ws.length cw, .int .i64 ((s.p : Nat) : Int)]), some (wQ9 ws), some (lQ9 L), some (.blk [.int .i64 ((ws.getD s.p tok0).kind), .str ((ws.getD s.p tok0).text), .int .i64 ((ws.getD s.p tok0).n), .int .i64 ((ws.getD s.p tok0).at_)]), some (.row 128 20 (((zK g (ws.getD s.p tok0).text L s.ins.sz k).2).length) 0 (fun zz => rwc (((zK g (ws.getD s.p tok0).text L s.ins.sz k).2).getD zz Rw.z))), some (.blk (rwQ9 (L.getD (((k : Int)).toNat) Rw.z)))])] A rfl rfl rfl rfl (by kernel_rfl) ⟨callIE [4] Gl.ok hI (sizeOf_ g L c (L.getD (((k : Int)).toNat) Rw.z) ((ws.getD s.p tok0).text) os hM (hm _ (rk_mem h2))) rfl rfl rfl rfl rfl rfl rfl, trivial⟩ trivial fun A => N hX 6 A rfl rfl fun A => fork 50 A rfl
     (fun h3 A => N hX 15 A rfl rfl fun A => APP1 hX (((zK g (ws.getD s.p tok0).text L s.ins.sz k).2).length + 1) (fun zz => rwc ((((zK g (ws.getD s.p tok0).text L s.ins.sz k).2) ++ [(L.getD (((k : Int)).toNat) Rw.z)]).getD zz Rw.z)) A rfl rfl rfl rfl (by have := zK_len (g := g) (q := (ws.getD s.p tok0).text) (L := L) (z := s.ins.sz) (k := k); omega) rfl (fun k hk => by show rwc _ = rwc _; rw [rw_app hk]) (by show rwc _ = _; rw [rw_new]; rfl) (fun z => ⟨_, rfl, rfl⟩) fun A => have A := (A.rowAs 9 ((((zK g (ws.getD s.p tok0).text L s.ins.sz k).2) ++ [(L.getD (((k : Int)).toNat) Rw.z)]).length) (fun zz => rwc ((((zK g (ws.getD s.p tok0).text L s.ins.sz k).2) ++ [(L.getD (((k : Int)).toNat) Rw.z)]).getD zz Rw.z)) rfl (by rw [List.length_append]; rfl) (fun q hq => rfl) (fun z => ⟨_, rfl, rfl⟩)).say 59 (.sl 9 ((((zK g (ws.getD s.p tok0).text L s.ins.sz k).2) ++ [(L.getD (((k : Int)).toNat) Rw.z)]).length) 0) rfl (by rw [List.length_append] <;> rfl); N hX 8 A rfl (ok_d (by omega) <| okE_nil) fun A => ⟨k + 1, _, (by omega), (by omega), ((((A.sayH (H' := [some (.blk (rdS g L.length c (⟨s.ins.op, s.ins.dst, s.ins.ra, s.ins.rb, s.ins.imm, s.ins.loc, s.ins.off, s.ins.ix, (zK g (ws.getD s.p tok0).text L s.ins.sz (k + 1)).1, s.ins.fn, s.ins.acq, s.ins.weak, s.ins.rel, s.ins.pred, s.ins.succ, s.ins.to_, s.ins.zero⟩ : In) s.lab 1 4)), some (.blk [.ptr 2 0, .int .i64 s.e, .int .i64 s.a]), some (.blk [.sl 3 ws.length cw, .int .i64 ((s.p : Nat) : Int)]), some (wQ9 ws), some (lQ9 L), some (.blk [.int .i64 ((ws.getD s.p tok0).kind), .str ((ws.getD s.p tok0).text), .int .i64 ((ws.getD s.p tok0).n), .int .i64 ((ws.getD s.p tok0).at_)]), none, some (.blk (rwQ9 (L.getD (((k : Int)).toNat) Rw.z))), some (.blk (rwQ9 (L.getD (((k : Int)).toNat) Rw.z))), some (.row 128 20 (((zK g (ws.getD s.p tok0).text L s.ins.sz (k + 1)).2).length) 0 (fun zz => rwc (((zK g (ws.getD s.p tok0).text L s.ins.sz (k + 1)).2).getD zz Rw.z)))]) (by rw [zK_y h2 h3] <;> rfl)).say 5 (.sl 9 ((zK g (ws.getD s.p tok0).text L s.ins.sz (k + 1)).2.length) 0) rfl (by rw [zK_y h2 h3] <;> rfl)).cut [0, 2, 3, 5, 33, 34, 35] rfl).mv 5 [5, 9] rfl rfl rfl rfl (by simp only [List.length_cons, List.length_nil] at h0; omega))⟩)
     (fun h3 A => N hX 8 A rfl (ok_d (by omega) <| okE_nil) fun A => ⟨k + 1, _, (by omega), (by omega), ((((A.sayH (H' := [some (.blk (rdS g L.length c (⟨s.ins.op, s.ins.dst, s.ins.ra, s.ins.rb, s.ins.imm, s.ins.loc, s.ins.off, s.ins.ix, (zK g (ws.getD s.p tok0).text L s.ins.sz (k + 1)).1, s.ins.fn, s.ins.acq, s.ins.weak, s.ins.rel, s.ins.pred, s.ins.succ, s.ins.to_, s.ins.zero⟩ : In) s.lab 1 4)), some (.blk [.ptr 2 0, .int .i64 s.e, .int .i64 s.a]), some (.blk [.sl 3 ws.length cw, .int .i64 ((s.p : Nat) : Int)]), some (wQ9 ws), some (lQ9 L), some (.blk [.int .i64 ((ws.getD s.p tok0).kind), .str ((ws.getD s.p tok0).text), .int .i64 ((ws.getD s.p tok0).n), .int .i64 ((ws.getD s.p tok0).at_)]), some (.row 128 20 (((zK g (ws.getD s.p tok0).text L s.ins.sz (k + 1)).2).length) 0 (fun zz => rwc (((zK g (ws.getD s.p tok0).text L s.ins.sz (k + 1)).2).getD zz Rw.z))), some (.blk (rwQ9 (L.getD (((k : Int)).toNat) Rw.z)))]) (by rw [zK_n h2 h3] <;> rfl)).say 5 (.sl 6 ((zK g (ws.getD s.p tok0).text L s.ins.sz (k + 1)).2.length) 0) rfl (by rw [zK_n h2 h3] <;> rfl)).cut [0, 2, 3, 5, 33, 34, 35] rfl).trunc 7 rfl rfl rfl (by simp only [List.length_cons, List.length_nil] at h0; omega))⟩))
    (fun h2 A => N hX 11 A rfl rfl fun A => forkE 63 A rfl
     (fun h4 A => N hX 6 A rfl rfl fun A => CALL1 [1, 2, 3] (refuse_ ws cw s.as 21 (by first | exact hk | (show (refA ws s.as 21).p ≤ _; rw [refA_p]; exact hk)) hn hw) A rfl rfl rfl rfl rfl rfl rfl fun A => N hX 11 A rfl rfl fun A => CALL1 [2, 3] (next_ ws cw ((refA ws s.as 21).p) (by first | exact hk | (show (refA ws s.as 21).p ≤ _; rw [refA_p]; exact hk)) hn) A rfl rfl rfl rfl rfl rfl rfl fun A => N hX 9 A rfl rfl fun A => have hkL : L.length = k := (by omega); RET hX [6] (x := .sl 5 ((zK g (ws.getD s.p tok0).text L s.ins.sz k).2.length) 0) (H' := [some (.blk (rdS g L.length c (⟨s.ins.op, s.ins.dst, s.ins.ra, s.ins.rb, s.ins.imm, s.ins.loc, s.ins.off, s.ins.ix, (zK g (ws.getD s.p tok0).text L s.ins.sz k).1, s.ins.fn, s.ins.acq, s.ins.weak, s.ins.rel, s.ins.pred, s.ins.succ, s.ins.to_, s.ins.zero⟩ : In) s.lab 1 4)), some (.blk [.ptr 2 0, .int .i64 ((refA ws s.as 21).e), .int .i64 ((refA ws s.as 21).a)]), some (.blk [.sl 3 ws.length cw, .int .i64 ((nxK ws ((refA ws s.as 21).p) : Nat) : Int)]), some (wQ9 ws), some (lQ9 L), some (.row 128 20 (((zK g (ws.getD s.p tok0).text L s.ins.sz k).2).length) 0 (fun zz => rwc (((zK g (ws.getD s.p tok0).text L s.ins.sz k).2).getD zz Rw.z)))]) A ⟨by unfold naR; rw [if_pos (show (ws.getD s.p tok0).kind = 1 from h1)]; unfold naZ; rw [hkL] <;> rfl, by unfold naR naS; rw [if_pos (show (ws.getD s.p tok0).kind = 1 from h1), if_pos (show (ws.getD s.p tok0).kind = 1 from h1), if_pos (show (naZ g ws L s).2.length = 0 by unfold naZ; rw [hkL]; omega)]; unfold naZ; rw [hkL] <;> rfl⟩ rfl rfl rfl rfl rfl rfl rfl rfl h0)
     (fun h4 A => N hX 12 A rfl rfl fun A => CALL1 [2, 3] (next_ ws cw s.p (by first | exact hk | (show (refA ws s.as 21).p ≤ _; rw [refA_p]; exact hk)) hn) A rfl rfl rfl rfl rfl rfl rfl fun A => N hX 9 A rfl rfl fun A => have hkL : L.length = k := (by omega); RET hX [6] (x := .sl 5 ((zK g (ws.getD s.p tok0).text L s.ins.sz k).2.length) 0) (H' := [some (.blk (rdS g L.length c (⟨s.ins.op, s.ins.dst, s.ins.ra, s.ins.rb, s.ins.imm, s.ins.loc, s.ins.off, s.ins.ix, (zK g (ws.getD s.p tok0).text L s.ins.sz k).1, s.ins.fn, s.ins.acq, s.ins.weak, s.ins.rel, s.ins.pred, s.ins.succ, s.ins.to_, s.ins.zero⟩ : In) s.lab 1 4)), some (.blk [.ptr 2 0, .int .i64 s.e, .int .i64 s.a]), some (.blk [.sl 3 ws.length cw, .int .i64 ((nxK ws s.p : Nat) : Int)]), some (wQ9 ws), some (lQ9 L), some (.row 128 20 (((zK g (ws.getD s.p tok0).text L s.ins.sz k).2).length) 0 (fun zz => rwc (((zK g (ws.getD s.p tok0).text L s.ins.sz k).2).getD zz Rw.z)))]) A ⟨by unfold naR; rw [if_pos (show (ws.getD s.p tok0).kind = 1 from h1)]; unfold naZ; rw [hkL] <;> rfl, by unfold naR naS; rw [if_pos (show (ws.getD s.p tok0).kind = 1 from h1), if_pos (show (ws.getD s.p tok0).kind = 1 from h1), if_neg (show ¬ (naZ g ws L s).2.length = 0 by unfold naZ; rw [hkL]; omega)]; unfold naZ; rw [hkL] <;> rfl⟩ rfl rfl rfl rfl rfl rfl rfl rfl h0)))
def stk (g : Lg) (k : Nat) (t : Tk) (r : Rw) : Bool := !(begQ g r (r.ps.getD k 0) t)
def ask10 (k : Nat) (r : Rw) : Bool := r.ps.getD k 0 == 10
def fstX (f : Rw → Bool) (R : List Rw) : Int := match (List.range R.length).find? (fun j => f (R.getD j Rw.z)) with | some j => (j : Int) | none => -1
structure FxI (f : Rw → Bool) (R : List Rw) (k : Nat) : Prop where
  le : k ≤ R.length
  no : ∀ j, j < k → f (R.getD j Rw.z) = false
section
variable {f : Rw → Bool} {R cur : List Rw} {k i j : Nat}
theorem FxI.i0 : FxI f R 0 := ⟨Nat.zero_le _, fun j h => by omega⟩
theorem FxI.nx (hI : FxI f R k) (hk : (k : Int) < ((R.length : Nat) : Int)) (h : f (R.getD ((k : Int)).toNat Rw.z) = false) : FxI f R (k + 1) := ⟨by omega, fun j hj => by
  by_cases e : j = k
  · subst e; rwa [Int.toNat_natCast] at h
  · exact hI.no j (by omega)⟩
theorem FxI.hit (hI : FxI f R k) (hk : (k : Int) < ((R.length : Nat) : Int)) (h : f (R.getD ((k : Int)).toNat Rw.z) = true) : fstX f R = (k : Int) := by
  rw [Int.toNat_natCast] at h
  unfold fstX
  have : (List.range R.length).find? (fun j => f (R.getD j Rw.z)) = some k := by
    rw [List.find?_range_eq_some]
    exact ⟨h, by rw [List.mem_range]; omega, fun j hj => by have := hI.no j hj; rw [this]; rfl⟩
  rw [this]
theorem FxI.fi (hI : FxI f R k) (hk : ¬ (k : Int) < ((R.length : Nat) : Int)) : fstX f R = -1 := by
  unfold fstX
  have : (List.range R.length).find? (fun j => f (R.getD j Rw.z)) = none := by
    rw [List.find?_eq_none]
    intro j hj
    have := hI.no j (by have := List.mem_range.1 hj; omega)
    rw [this]; decide
  rw [this]
theorem fstX_none (h : fstX f R = -1) : R.filter (fun r => !f r) = R := by
  unfold fstX at h
  split at h
  · omega
  · next e =>
    rw [List.find?_eq_none] at e
    rw [List.filter_eq_self]
    intro r hr
    obtain ⟨j, hj, hg⟩ := List.getElem_of_mem hr
    have := e j (List.mem_range.2 hj)
    rw [List.getD_eq_getElem?_getD, List.getElem?_eq_getElem hj] at this
    simp only [Option.getD_some, hg] at this
    cases z : f r with
    | false => rfl
    | true => exact absurd z this
theorem fstX_some (h : fstX f R ≠ -1) : ∃ k : Nat, fstX f R = (k : Int) ∧ k < R.length ∧ f (R.getD k Rw.z) = true ∧ ∀ j : Nat, j < k → f (R.getD j Rw.z) = false := by
  unfold fstX at h ⊢
  split at h
  · next k e =>
    rw [List.find?_range_eq_some] at e
    refine ⟨k, rfl, List.mem_range.1 e.2.1, e.1, fun j hj => ?_⟩
    have := e.2.2 j hj
    cases z : f (R.getD j Rw.z) with
    | false => rfl
    | true => rw [z] at this; cases this
  · exact absurd rfl h
structure Hlf (f : Rw → Bool) (R cur : List Rw) (i j : Nat) : Prop where
  len : cur.length = R.length
  ij : i < j
  jl : j ≤ R.length
  pre : cur.take i = (R.take j).filter (fun r => !f r)
  post : ∀ m, j ≤ m → cur[m]? = R[m]?
theorem take1 {l : List Rw} (h : j < l.length) : l.take (j + 1) = l.take j ++ [l.getD j Rw.z] := by
  rw [List.take_add_one, List.getD_eq_getElem?_getD, List.getElem?_eq_getElem h]; rfl
theorem Hlf.i0 {k : Nat} (h1 : k < R.length) (h2 : f (R.getD k Rw.z) = true) (h3 : ∀ j, j < k → f (R.getD j Rw.z) = false) : Hlf f R R k (k + 1) := by
  refine ⟨rfl, by omega, h1, ?_, fun m _ => rfl⟩
  rw [take1 h1, List.filter_append]
  have e1 : (R.take k).filter (fun r => !f r) = R.take k := by
    rw [List.filter_eq_self]
    intro r hr
    obtain ⟨j, hj, hg⟩ := List.getElem_of_mem hr
    rw [List.length_take] at hj
    have := h3 j (by omega)
    rw [List.getD_eq_getElem?_getD, List.getElem?_eq_getElem (by omega)] at this
    rw [List.getElem_take] at hg
    simp only [Option.getD_some, hg] at this
    rw [this]; rfl
  rw [e1, List.filter_cons, h2]; simp
theorem Hlf.at (h : Hlf f R cur i j) : cur.getD j Rw.z = R.getD j Rw.z := by
  rw [List.getD_eq_getElem?_getD, List.getD_eq_getElem?_getD, h.post j (Nat.le_refl _)]
theorem Hlf.skip (h : Hlf f R cur i j) (hj : (j : Int) < ((cur.length : Nat) : Int)) (hf : f (cur.getD ((j : Int)).toNat Rw.z) = true) : Hlf f R cur i (j + 1) := by
  have hl := h.len
  rw [Int.toNat_natCast, h.at] at hf
  refine ⟨h.len, by have := h.ij; omega, by omega, ?_, fun m hm => h.post m (by omega)⟩
  rw [take1 (by omega), List.filter_append, List.filter_cons, hf, h.pre]; simp
theorem Hlf.keep (h : Hlf f R cur i j) (hj : (j : Int) < ((cur.length : Nat) : Int)) (hf : f (cur.getD ((j : Int)).toNat Rw.z) = false) : Hlf f R (cur.set i (cur.getD ((j : Int)).toNat Rw.z)) (i + 1) (j + 1) := by
  have hl := h.len
  have hij := h.ij
  rw [Int.toNat_natCast] at hf ⊢
  have hf' := hf
  rw [h.at] at hf'
  refine ⟨by rw [List.length_set]; exact h.len, by omega, by omega, ?_, fun m hm => by rw [List.getElem?_set_ne (by omega)]; exact h.post m (by omega)⟩
  rw [take1 (j := i) (by rw [List.length_set]; omega), take1 (j := j) (by omega), List.filter_append, List.filter_cons, hf', ← h.pre]
  congr 1
  · rw [List.take_set, List.set_eq_of_length_le (by rw [List.length_take]; omega)]
  · rw [List.getD_eq_getElem?_getD, List.getElem?_set_self (by omega), h.at]; rfl
theorem Hlf.done (h : Hlf f R cur i j) (hj : ¬ (j : Int) < ((cur.length : Nat) : Int)) : R.filter (fun r => !f r) = cur.take i ∧ (R.filter (fun r => !f r)).length = i ∧ ∀ p, p < i → (R.filter (fun r => !f r)).getD p Rw.z = cur.getD p Rw.z := by
  have hl := h.len
  have hij := h.ij
  have hjl := h.jl
  have e : cur.take i = R.filter (fun r => !f r) := by rw [h.pre, List.take_of_length_le (by omega)]
  refine ⟨e.symm, by rw [← e, List.length_take]; omega, fun p hp => ?_⟩
  rw [← e, List.getD_eq_getElem?_getD, List.getD_eq_getElem?_getD, List.getElem?_take_of_lt hp]
end
theorem begc_ (g : Lg) (L : List Rw) (c : Nat) (ws : List Tk) (cw : Nat) (s : Ps) (r : Rw) (kk : Nat) (t : Tk) (hq : kk < r.ps.length) : FnI (LiesAt r.pa r.ps) Tryz.prog 190 [.agg (rwQ9 r), .ptr 5 0, .ptr 6 0, .ptr 7 0] [some (.blk (rdS g L.length c s.ins s.lab 1 4)), some (.blk [.ptr 2 0, .int .i64 s.e, .int .i64 s.a]), some (.blk [.sl 3 ws.length cw, .int .i64 ((s.p : Nat) : Int)]), some (wQ9 ws), some (lQ9 L), some (.blk [.ptr 0 0]), some (.blk [.int .i64 (kk : Int)]), some (.blk [.int .i64 t.kind, .str t.text, .int .i64 t.n, .int .i64 t.at_])] (Rt (.bool (stk g kk t r)) [some (.blk (rdS g L.length c s.ins s.lab 1 4)), some (.blk [.ptr 2 0, .int .i64 s.e, .int .i64 s.a]), some (.blk [.sl 3 ws.length cw, .int .i64 ((s.p : Nat) : Int)]), some (wQ9 ws), some (lQ9 L), some (.blk [.ptr 0 0]), some (.blk [.int .i64 (kk : Int)]), some (.blk [.int .i64 t.kind, .str t.text, .int .i64 t.n, .int .i64 t.at_])]) :=
 enterI (n := 12) (by kernel_rfl) Tryz.func190 rfl rfl rfl fun G w a h0 hI A => N hX 12 A rfl rfl fun A => CALLI [0, 1, 2, 3, 4] LiesAt.ok hI (begins_ g L c ws cw s r kk t hq) A rfl rfl rfl rfl rfl rfl rfl fun A => N hX 5 A rfl rfl fun A => RETN hX A rfl rfl rfl h0 rfl rfl rfl rfl rfl rfl
theorem misc_ (r : Rw) (kk : Nat) (hq : kk < r.ps.length) : FnI (LiesAt r.pa r.ps) Tryz.prog 225 [.agg (rwQ9 r), .ptr 0 0] [some (.blk [.int .i64 (kk : Int)])] (Rt (.bool (ask10 kk r)) [some (.blk [.int .i64 (kk : Int)])]) :=
 enterI (n := 10) (by kernel_rfl) Tryz.func225 rfl rfl rfl fun G w a h0 hI A => N hX 10 A rfl rfl fun A => ADOPT (y := .sl 2 r.ps.length r.cp) (H' := [some (.blk [.int .i64 (kk : Int)]), some (.blk (rwQ9 r)), some (.lst 1 r.ps.length (fun j => [.int .i64 (r.ps.getD j 0)]))]) 5 hI A rfl rfl rfl rfl fun A => N hX 8 A rfl (ok_d (by omega) <| ok_d (by omega) <| okE_nil) fun A => RETN hX A rfl rfl rfl h0 rfl rfl rfl rfl rfl rfl
theorem rk_in {R : List Rw} {k : Nat} (h : (k : Int) < ((R.length : Nat) : Int)) : R.getD ((k : Int)).toNat Rw.z ∈ R := rk_mem h
theorem ixfB_ (g : Lg) (L : List Rw) (c : Nat) (ws : List Tk) (cw : Nat) (s : Ps) (R : List Rw) (kk : Nat) (t : Tk) (hq : ∀ r ∈ R, kk < r.ps.length) (hR : R.length ≤ 100000) : FnI (Tbl R) Tryz.prog 226 [.sl 5 R.length 0, .fn 190 [.ptr 6 0, .ptr 7 0, .ptr 8 0]] [some (.blk (rdS g L.length c s.ins s.lab 1 4)), some (.blk [.ptr 2 0, .int .i64 s.e, .int .i64 s.a]), some (.blk [.sl 3 ws.length cw, .int .i64 ((s.p : Nat) : Int)]), some (wQ9 ws), some (lQ9 L), some (.row 128 20 R.length 0 (fun zz => rwc (R.getD zz Rw.z))), some (.blk [.ptr 0 0]), some (.blk [.int .i64 (kk : Int)]), some (.blk [.int .i64 t.kind, .str t.text, .int .i64 t.n, .int .i64 t.at_])] (Rt (.int .i64 (fstX (stk g kk t) R)) [some (.blk (rdS g L.length c s.ins s.lab 1 4)), some (.blk [.ptr 2 0, .int .i64 s.e, .int .i64 s.a]), some (.blk [.sl 3 ws.length cw, .int .i64 ((s.p : Nat) : Int)]), some (wQ9 ws), some (lQ9 L), some (.row 128 20 R.length 0 (fun zz => rwc (R.getD zz Rw.z))), some (.blk [.ptr 0 0]), some (.blk [.int .i64 (kk : Int)]), some (.blk [.int .i64 t.kind, .str t.text, .int .i64 t.n, .int .i64 t.at_])]) :=
 enterI (n := 19) (by kernel_rfl) Tryz.func226 rfl rfl rfl fun G w a h0 hI A => N hX 14 A rfl rfl fun A => LOOP1 (fun (k : Nat) => [(0, .sl 5 R.length 0), (1, .fn 190 [.ptr 6 0, .ptr 7 0, .ptr 8 0]), (4, .int .i64 0), (7, .int .i64 ((R.length : Nat) : Int)), (8, .int .i64 (k : Int))]) (fun (k : Nat) => [some (.blk (rdS g L.length c s.ins s.lab 1 4)), some (.blk [.ptr 2 0, .int .i64 s.e, .int .i64 s.a]), some (.blk [.sl 3 ws.length cw, .int .i64 ((s.p : Nat) : Int)]), some (wQ9 ws), some (lQ9 L), some (.row 128 20 R.length 0 (fun zz => rwc (R.getD zz Rw.z))), some (.blk [.ptr 0 0]), some (.blk [.int .i64 (kk : Int)]), some (.blk [.int .i64 t.kind, .str t.text, .int .i64 t.n, .int .i64 t.at_])]) (fun (k : Nat) => FxI (stk g kk t) R k) (fun (k : Nat) => R.length - k) 0 FxI.i0 ((A.cut [0, 1, 4, 7, 8] rfl).trunc 9 rfl rfl rfl (by simp only [List.length_cons, List.length_nil] at h0; omega)) fun k hI2 {G a w} A => N hX 6 A rfl rfl fun A => forkD 9 A rfl
   (fun h1 A => N hX 18 A rfl (ok_d (by have := hI2.le; omega) <| ok_d (by have := hI2.le; omega) <| okE_nil) fun A => CALLI [0, 1, 2, 3, 4, 6, 7, 8] LiesAt.ok (hI.at (k := ((k : Int)).toNat) (by omega)) (begc_ g L c ws cw s (R.getD (((k : Int)).toNat) Rw.z) kk t (hq _ (rk_in h1))) A rfl rfl rfl rfl rfl rfl rfl fun A => N hX 2 A rfl rfl fun A => fork 16 A rfl
    (fun h2 A => N hX 8 A rfl rfl fun A => RETN hX A rfl rfl rfl h0 rfl rfl rfl rfl (by rw [hI2.hit h1 h2]; rfl) rfl)
    (fun h2 A => N hX 8 A rfl (ok_d (by have := hI2.le; omega) <| okE_nil) fun A => ⟨k + 1, _, (by omega), (hI2.nx h1 h2), ((A.cut [0, 1, 4, 7, 8] rfl).trunc 9 rfl rfl rfl (by simp only [List.length_cons, List.length_nil] at h0; omega))⟩))
   (fun h1 A => N hX 9 A rfl rfl fun A => RETN hX A rfl rfl rfl h0 rfl rfl rfl rfl (by rw [hI2.fi h1]; rfl) rfl)
theorem ixfM_ (R : List Rw) (kk : Nat) (hq : ∀ r ∈ R, kk < r.ps.length) (hR : R.length ≤ 100000) : FnI (Tbl R) Tryz.prog 226 [.sl 0 R.length 0, .fn 225 [.ptr 1 0]] [some (.row 128 20 R.length 0 (fun zz => rwc (R.getD zz Rw.z))), some (.blk [.int .i64 (kk : Int)])] (Rt (.int .i64 (fstX (ask10 kk) R)) [some (.row 128 20 R.length 0 (fun zz => rwc (R.getD zz Rw.z))), some (.blk [.int .i64 (kk : Int)])]) :=
 enterI (n := 19) (by kernel_rfl) Tryz.func226 rfl rfl rfl fun G w a h0 hI A => N hX 14 A rfl rfl fun A => LOOP1 (fun (k : Nat) => [(0, .sl 0 R.length 0), (1, .fn 225 [.ptr 1 0]), (4, .int .i64 0), (7, .int .i64 ((R.length : Nat) : Int)), (8, .int .i64 (k : Int))]) (fun (k : Nat) => [some (.row 128 20 R.length 0 (fun zz => rwc (R.getD zz Rw.z))), some (.blk [.int .i64 (kk : Int)])]) (fun (k : Nat) => FxI (ask10 kk) R k) (fun (k : Nat) => R.length - k) 0 FxI.i0 ((A.cut [0, 1, 4, 7, 8] rfl).trunc 2 rfl rfl rfl (by simp only [List.length_cons, List.length_nil] at h0; omega)) fun k hI2 {G a w} A => N hX 6 A rfl rfl fun A => forkD 9 A rfl
   (fun h1 A => N hX 18 A rfl (ok_d (by have := hI2.le; omega) <| ok_d (by have := hI2.le; omega) <| okE_nil) fun A => CALLI [1] LiesAt.ok (hI.at (k := ((k : Int)).toNat) (by omega)) (misc_ (R.getD (((k : Int)).toNat) Rw.z) kk (hq _ (rk_in h1))) A rfl rfl rfl rfl rfl rfl rfl fun A => N hX 2 A rfl rfl fun A => fork 16 A rfl
    (fun h2 A => N hX 8 A rfl rfl fun A => RETN hX A rfl rfl rfl h0 rfl rfl rfl rfl (by rw [hI2.hit h1 h2]; rfl) rfl)
    (fun h2 A => N hX 8 A rfl (ok_d (by have := hI2.le; omega) <| okE_nil) fun A => ⟨k + 1, _, (by omega), (hI2.nx h1 h2), ((A.cut [0, 1, 4, 7, 8] rfl).trunc 2 rfl rfl rfl (by simp only [List.length_cons, List.length_nil] at h0; omega))⟩))
   (fun h1 A => N hX 9 A rfl rfl fun A => RETN hX A rfl rfl rfl h0 rfl rfl rfl rfl (by rw [hI2.fi h1]; rfl) rfl)
theorem conM_ (R : List Rw) (kk : Nat) (hq : ∀ r ∈ R, kk < r.ps.length) (hR : R.length ≤ 100000) : FnI (Tbl R) Tryz.prog 224 [.sl 0 R.length 0, .fn 225 [.ptr 1 0]] [some (.row 128 20 R.length 0 (fun zz => rwc (R.getD zz Rw.z))), some (.blk [.int .i64 (kk : Int)])] (Rt (.bool (decide (fstX (ask10 kk) R ≥ 0))) [some (.row 128 20 R.length 0 (fun zz => rwc (R.getD zz Rw.z))), some (.blk [.int .i64 (kk : Int)])]) :=
 enterI (n := 9) (by kernel_rfl) Tryz.func224 rfl rfl rfl fun G w a h0 hI A => N hX 9 A rfl rfl fun A => CALLI [0, 1] Tbl.ok hI (ixfM_ R kk hq hR) A rfl rfl rfl rfl rfl rfl rfl fun A => N hX 5 A rfl rfl fun A => RETN hX A rfl rfl rfl h0 rfl rfl rfl rfl rfl rfl
def mfV (kk : Nat) (t : Tk) (R : List Rw) : Int := if ((decide (fstX (ask10 kk) R ≥ 0)) && (t.kind == 1)) = true then 21 else 22
def lft (g : Lg) (kk : Nat) (t : Tk) (R : List Rw) : List Rw := R.filter (fun r => !stk g kk t r)
def beS (g : Lg) (ws : List Tk) (kk : Nat) (R : List Rw) (s : Ps) : Ps := if (lft g kk (ws.getD s.p tok0) R).length = 0 then s.wa (refA ws s.as (mfV kk (ws.getD s.p tok0) R)) else s
theorem beS_le {g : Lg} {ws : List Tk} {kk : Nat} {R : List Rw} {s : Ps} (h : s.p ≤ ws.length) : (beS g ws kk R s).p ≤ ws.length := by
  unfold beS; split
  · show (refA ws s.as _).p ≤ _
    rw [refA_p]; exact h
  · exact h
section
variable {f : Rw → Bool} {R cur : List Rw} {i j kk : Nat} {w : World} {ks : List Nat} {x : Rw}
theorem tbl_cur (hI : Tbl R w ks) (h : Hlf f R cur i j) (hj : (j : Int) < ((cur.length : Nat) : Int)) : LiesAt (cur.getD ((j : Int)).toNat Rw.z).pa (cur.getD ((j : Int)).toNat Rw.z).ps w ks := by
  rw [Int.toNat_natCast, h.at]; exact hI.at (by have := h.len; omega)
theorem mem_cur (hq : ∀ r ∈ R, kk < r.ps.length) (h : Hlf f R cur i j) (hj : (j : Int) < ((cur.length : Nat) : Int)) : kk < (cur.getD ((j : Int)).toNat Rw.z).ps.length := by
  rw [Int.toNat_natCast, h.at]
  have hl := h.len
  refine hq _ ?_
  rw [List.getD_eq_getElem?_getD, List.getElem?_eq_getElem (show j < R.length by omega)]; exact List.getElem_mem _
theorem rset_ne {k : Nat} (h : k ≠ i) : (cur.set i x).getD k Rw.z = cur.getD k Rw.z := by
  rw [List.getD_eq_getElem?_getD, List.getD_eq_getElem?_getD, List.getElem?_set_ne (Ne.symm h)]
theorem rset_eq (h : i < cur.length) : (cur.set i x).getD i Rw.z = x := by
  rw [List.getD_eq_getElem?_getD, List.getElem?_set_self h]; rfl
end
theorem misfit_ (R : List Rw) (kk : Nat) (t : Tk) (hq : ∀ r ∈ R, kk < r.ps.length) (hR : R.length ≤ 100000) : FnI (Tbl R) Tryz.prog 188 [.sl 0 R.length 0, .int .i64 (kk : Int), .agg [.int .i64 t.kind, .str t.text, .int .i64 t.n, .int .i64 t.at_]] [some (.row 128 20 R.length 0 (fun zz => rwc (R.getD zz Rw.z)))] (Rt (.int .i64 (mfV kk t R)) [some (.row 128 20 R.length 0 (fun zz => rwc (R.getD zz Rw.z)))]) :=
 enterI (n := 17) (by kernel_rfl) Tryz.func188 rfl rfl rfl fun G w a h0 hI A => N hX 11 A rfl rfl fun A => CALLI [0, 1] Tbl.ok hI (conM_ R kk hq hR) A rfl rfl rfl rfl rfl rfl rfl fun A => N hX 14 A rfl rfl fun A => fork 16 A rfl
  (fun h1 A => N hX 7 A rfl rfl fun A => RETN hX A rfl rfl rfl h0 rfl rfl rfl rfl (by unfold mfV; rw [if_pos h1] <;> rfl) rfl)
  (fun h1 A => N hX 9 A rfl rfl fun A => RETN hX A rfl rfl rfl h0 rfl rfl rfl rfl (by unfold mfV; rw [if_neg (ne_true_of_eq_false h1)] <;> rfl) rfl)
theorem fstSp {f : Rw → Bool} {R : List Rw} {Q : Prop} (h : fstX f R ≠ -1) (k : ∀ k0 : Nat, fstX f R = (k0 : Int) → k0 < R.length → f (R.getD k0 Rw.z) = true → (∀ j : Nat, j < k0 → f (R.getD j Rw.z) = false) → Q) : Q := by
  obtain ⟨k0, h1, h2, h3, h4⟩ := fstX_some h
  exact k k0 h1 h2 h3 h4
theorem ntf {b : Bool} (h : (!b) = true) : b = false := by cases b <;> first | rfl | cases h
theorem ntt {b : Bool} (h : (!b) = false) : b = true := by cases b <;> first | rfl | cases h
theorem fstX_lt {f : Rw → Bool} {R : List Rw} : (-1 ≤ fstX f R ∧ fstX f R < ((R.length : Nat) : Int)) ∨ fstX f R = -1 := by
  by_cases h : fstX f R = -1
  · exact .inr h
  · obtain ⟨k, h1, h2, _⟩ := fstX_some h
    left; rw [h1]; omega
theorem delB_ (g : Lg) (L : List Rw) (c : Nat) (ws : List Tk) (cw : Nat) (s : Ps) (R : List Rw) (kk : Nat) (t : Tk) (hq : ∀ r ∈ R, kk < r.ps.length) (hR : R.length ≤ 100000) : FnI (Tbl R) Tryz.prog 189 [.sl 5 R.length 0, .fn 190 [.ptr 6 0, .ptr 7 0, .ptr 8 0]] [some (.blk (rdS g L.length c s.ins s.lab 1 4)), some (.blk [.ptr 2 0, .int .i64 s.e, .int .i64 s.a]), some (.blk [.sl 3 ws.length cw, .int .i64 ((s.p : Nat) : Int)]), some (wQ9 ws), some (lQ9 L), some (.row 128 20 R.length 0 (fun zz => rwc (R.getD zz Rw.z))), some (.blk [.ptr 0 0]), some (.blk [.int .i64 (kk : Int)]), some (.blk [.int .i64 t.kind, .str t.text, .int .i64 t.n, .int .i64 t.at_])] (Rt (.sl 5 (lft g kk t R).length 0) [some (.blk (rdS g L.length c s.ins s.lab 1 4)), some (.blk [.ptr 2 0, .int .i64 s.e, .int .i64 s.a]), some (.blk [.sl 3 ws.length cw, .int .i64 ((s.p : Nat) : Int)]), some (wQ9 ws), some (lQ9 L), some (.row 128 20 ((lft g kk t R).length) 0 (fun zz => rwc ((lft g kk t R).getD zz Rw.z))), some (.blk [.ptr 0 0]), some (.blk [.int .i64 (kk : Int)]), some (.blk [.int .i64 t.kind, .str t.text, .int .i64 t.n, .int .i64 t.at_])]) :=
 enterI (n := 42) (by kernel_rfl) Tryz.func189 rfl rfl rfl fun G w a h0 hI A => N hX 9 A rfl rfl fun A => CALLI [0, 1, 2, 3, 4, 5, 6, 7, 8] Tbl.ok hI (ixfB_ g L c ws cw s R kk t hq hR) A rfl rfl rfl rfl rfl rfl rfl fun A => N hX 10 A rfl rfl fun A => forkE 12 A rfl
  (fun h1 A => N hX 8 A rfl rfl fun A => have hf : lft g kk t R = R := fstX_none h1; RETN hX A rfl rfl rfl h0 rfl rfl rfl rfl (by rw [hf] <;> rfl) (by rw [hf] <;> rfl))
  (fun h1 A => N hX 12 A rfl (ok_d (by have := fstX_lt (f := stk g kk t) (R := R); omega) <| okE_nil) fun A => fstSp h1 fun k0 hk0 hk1 hk2 hk3 => have A := A.say 5 (.int .i64 (k0 : Int)) rfl (by rw [hk0]); have A := A.say 6 (.int .i64 ((k0 + 1 : Nat) : Int)) rfl (by rw [hk0] <;> rfl); LOOP3 (fun (i : Nat) (j : Nat) (cur : List Rw) => [(0, .sl 5 cur.length 0), (1, .fn 190 [.ptr 6 0, .ptr 7 0, .ptr 8 0]), (4, .sla none 0 0), (5, .int .i64 (i : Int)), (6, .int .i64 (j : Int))]) (fun (i : Nat) (j : Nat) (cur : List Rw) => [some (.blk (rdS g L.length c s.ins s.lab 1 4)), some (.blk [.ptr 2 0, .int .i64 s.e, .int .i64 s.a]), some (.blk [.sl 3 ws.length cw, .int .i64 ((s.p : Nat) : Int)]), some (wQ9 ws), some (lQ9 L), some (.row 128 20 cur.length 0 (fun zz => rwc (cur.getD zz Rw.z))), some (.blk [.ptr 0 0]), some (.blk [.int .i64 (kk : Int)]), some (.blk [.int .i64 t.kind, .str t.text, .int .i64 t.n, .int .i64 t.at_])]) (fun (i : Nat) (j : Nat) (cur : List Rw) => Hlf (stk g kk t) R cur i j) (fun (i : Nat) (j : Nat) (cur : List Rw) => R.length - j) k0 (k0 + 1) R (Hlf.i0 hk1 hk2 hk3) ((A.cut [0, 1, 4, 5, 6] rfl).trunc 9 rfl rfl rfl (by simp only [List.length_cons, List.length_nil] at h0; omega)) fun i j cur hH {G a w} A => N hX 9 A rfl rfl fun A => forkD 19 A rfl
    (fun h2 A => N hX 16 A rfl (ok_d (by have := hH.ij; have := hH.jl; have := hH.len; omega) <| ok_d (by have := hH.ij; have := hH.jl; have := hH.len; omega) <| okE_nil) fun A => N hX 3 A rfl rfl fun A => CALLI [0, 1, 2, 3, 4, 6, 7, 8] LiesAt.ok (tbl_cur hI hH h2) (begc_ g L c ws cw s (cur.getD (((j : Int)).toNat) Rw.z) kk t (mem_cur hq hH h2)) A rfl rfl rfl rfl rfl rfl rfl fun A => N hX 3 A rfl rfl fun A => fork 29 A rfl
     (fun h3 A => N hX 7 A rfl (ok_d (by have := hH.ij; have := hH.jl; have := hH.len; omega) <| okE_nil) fun A => STR (i := 5) (e := 128) (s := 20) (m := cur.length) (c := 0) hX (((i : Int)).toNat) (fun zz => rwc ((cur.set ((i : Int)).toNat (cur.getD (((j : Int)).toNat) Rw.z)).getD zz Rw.z)) A rfl rfl rfl (by have := hH.ij; have := hH.jl; have := hH.len; omega) (fun z hz => by show rwc ((cur.set ((i : Int)).toNat (cur.getD (((j : Int)).toNat) Rw.z)).getD z Rw.z) = rwc (cur.getD z Rw.z); rw [rset_ne hz]) (by show _ = some (rwc ((cur.set ((i : Int)).toNat (cur.getD (((j : Int)).toNat) Rw.z)).getD (((i : Int)).toNat) Rw.z)); rw [rset_eq (by have := hH.ij; have := hH.jl; have := hH.len; omega)]; rfl) fun A => have A := A.rowAs 5 ((cur.set ((i : Int)).toNat (cur.getD (((j : Int)).toNat) Rw.z)).length) (fun zz => rwc ((cur.set ((i : Int)).toNat (cur.getD (((j : Int)).toNat) Rw.z)).getD zz Rw.z)) rfl (by rw [List.length_set]) (fun q hq => rfl) (fun z => ⟨_, rfl, rfl⟩); have A := A.say 0 (.sl 5 ((cur.set ((i : Int)).toNat (cur.getD (((j : Int)).toNat) Rw.z)).length) 0) rfl (by rw [List.length_set]); have A := A.say 17 (.sl 5 ((cur.set ((i : Int)).toNat (cur.getD (((j : Int)).toNat) Rw.z)).length) 0) rfl (by rw [List.length_set]); have A := A.say 22 (.sl 5 ((cur.set ((i : Int)).toNat (cur.getD (((j : Int)).toNat) Rw.z)).length) 0) rfl (by rw [List.length_set]); have A := A.say 30 (.sl 5 ((cur.set ((i : Int)).toNat (cur.getD (((j : Int)).toNat) Rw.z)).length) 0) rfl (by rw [List.length_set]); N hX 9 A rfl (ok_d (by have := hH.ij; have := hH.jl; have := hH.len; omega) <| okE_nil) fun A => N hX 5 A rfl (ok_d (by have := hH.ij; have := hH.jl; have := hH.len; omega) <| okE_nil) fun A => ⟨i + 1, j + 1, (cur.set i (cur.getD ((j : Int)).toNat Rw.z)), _, (by have := hH.jl; have := hH.len; omega), (hH.keep h2 (ntf h3)), ((A.cut [0, 1, 4, 5, 6] rfl).trunc 9 rfl rfl rfl (by simp only [List.length_cons, List.length_nil] at h0; omega))⟩)
     (fun h3 A => N hX 9 A rfl (ok_d (by have := hH.ij; have := hH.jl; have := hH.len; omega) <| okE_nil) fun A => ⟨i, j + 1, cur, _, (by have := hH.jl; have := hH.len; omega), (hH.skip h2 (ntt h3)), ((A.cut [0, 1, 4, 5, 6] rfl).trunc 9 rfl rfl rfl (by simp only [List.length_cons, List.length_nil] at h0; omega))⟩))
    (fun h2 A => N hX 8 A rfl (ok_d (by have := hH.ij; have := hH.jl; have := hH.len; omega) <| okE_nil) fun A => CLR hX A rfl (by have := hH.ij; have := hH.jl; have := hH.len; omega) fun A => N hX 11 A rfl (ok_d (by show 0 ≤ (i : Int) ∧ (i : Int) ≤ ((((i : Int)).toNat : Nat) : Int); exact (by have := hH.ij; have := hH.jl; have := hH.len; omega)) <| okE_nil) fun A => have hf := hH.done h2; have A := A.rowAs 5 (lft g kk t R).length (fun zz => rwc ((lft g kk t R).getD zz Rw.z)) rfl (by have z := hf.2.1; show (R.filter _).length = _; rw [z]; omega) (fun q hq => by show rwc _ = rwc _; rw [show (lft g kk t R).getD q Rw.z = cur.getD q Rw.z from hf.2.2 q (by omega)]) (fun z => ⟨_, rfl, rfl⟩); have A := A.say 4 (.sl 5 (lft g kk t R).length 0) rfl (by have z : (lft g kk t R).length = i := hf.2.1; rw [z]; (try rfl); (try simp)); RETN hX A rfl rfl rfl h0 rfl rfl rfl rfl rfl rfl))
theorem beginning_ (g : Lg) (L : List Rw) (c : Nat) (ws : List Tk) (cw : Nat) (s : Ps) (R : List Rw) (kk : Nat) (hk : s.p ≤ ws.length) (hn : ws.length ≤ 1000000) (hw : WsOK ws) (hq : ∀ r ∈ R, kk < r.ps.length) (hR : R.length ≤ 100000) : FnI (Tbl R) Tryz.prog 136 [.ptr 0 0, .sl 5 R.length 0, .int .i64 (kk : Int)] [some (.blk (rdS g L.length c s.ins s.lab 1 4)), some (.blk [.ptr 2 0, .int .i64 s.e, .int .i64 s.a]), some (.blk [.sl 3 ws.length cw, .int .i64 ((s.p : Nat) : Int)]), some (wQ9 ws), some (lQ9 L), some (.row 128 20 R.length 0 (fun zz => rwc (R.getD zz Rw.z)))] (Rt (.sl 5 ((lft g kk (ws.getD s.p tok0) R).length) 0) [some (.blk (rdS g L.length c ((beS g ws kk R s).ins) ((beS g ws kk R s).lab) 1 4)), some (.blk [.ptr 2 0, .int .i64 ((beS g ws kk R s).e), .int .i64 ((beS g ws kk R s).a)]), some (.blk [.sl 3 ws.length cw, .int .i64 (((beS g ws kk R s).p : Nat) : Int)]), some (wQ9 ws), some (lQ9 L), some (.row 128 20 ((lft g kk (ws.getD s.p tok0) R).length) 0 (fun zz => rwc ((lft g kk (ws.getD s.p tok0) R).getD zz Rw.z)))]) :=
 enterI (n := 39) (by kernel_rfl) Tryz.func136 rfl rfl rfl fun G w a h0 hI A => N hX 16 A rfl rfl fun A => CALL1 [2, 3] (peek_ ws cw s.p (by first | exact hk | (show (refA ws s.as 21).p ≤ _; rw [refA_p]; exact hk)) hn) A rfl rfl rfl rfl rfl rfl rfl fun A => N hX 13 A rfl rfl fun A => CALLI [5] Tbl.ok hI (misfit_ R kk (ws.getD s.p tok0) hq hR) A rfl rfl rfl rfl rfl rfl rfl fun A => N hX 7 A rfl rfl fun A => CALLI [0, 1, 2, 3, 4, 5, 6, 7, 8] Tbl.ok hI (delB_ g L c ws cw s R kk (ws.getD s.p tok0) hq hR) A rfl rfl rfl rfl rfl rfl rfl fun A => N hX 11 A rfl rfl fun A => forkE 31 A rfl
  (fun h1 A => N hX 7 A rfl rfl fun A => CALL1 [1, 2, 3] (refuse_ ws cw s.as (mfV kk (ws.getD s.p tok0) R) (by first | exact hk | (show (refA ws s.as 21).p ≤ _; rw [refA_p]; exact hk)) hn hw) A rfl rfl rfl rfl rfl rfl rfl fun A => N hX 9 A rfl rfl fun A => RETN hX A rfl rfl rfl h0 rfl rfl rfl rfl rfl (by unfold beS; rw [if_pos (show (lft g kk (ws.getD s.p tok0) R).length = 0 by omega)] <;> rfl))
  (fun h1 A => N hX 10 A rfl rfl fun A => RETN hX A rfl rfl rfl h0 rfl rfl rfl rfl rfl (by unfold beS; rw [if_neg (show ¬ (lft g kk (ws.getD s.p tok0) R).length = 0 by omega)] <;> rfl))
def n1 (ws : List Tk) (k : Nat) (z : Ps) : Ps := if (k : Int) > 0 then z.wa (mkA ws z.as [44]) else z
def nxR (g : Lg) (ws : List Tk) (k : Nat) (R : List Rw) (z : Ps) : List Rw := lft g k (ws.getD (n1 ws k z).p tok0) R
def nxS (g : Lg) (ws : List Tk) (k : Nat) (R : List Rw) (z : Ps) : Ps := if (((nxR g ws k R z).length : Nat) : Int) > 0 then ptS g ws (((nxR g ws k R z).getD (0 : Int).toNat Rw.z).ps.getD k 0) (beS g ws k R (n1 ws k z)) else beS g ws k R (n1 ws k z)
def goB (R : List Rw) (k : Nat) : Bool := (decide (((R.length : Nat) : Int) > 0)) && (decide ((k : Int) < (((R.getD (0 : Int).toNat Rw.z).ps.length : Nat) : Int)))
def inst (g : Lg) (ws : List Tk) : Nat → Nat → List Rw → Ps → Ps × List Rw
  | 0, k, R, z => (z, R)
  | f + 1, k, R, z => if goB R k = true then inst g ws f (k + 1) (nxR g ws k R z) (nxS g ws k R z) else (z, R)
def inN (g : Lg) (ws : List Tk) (L : List Rw) (s : Ps) : Nat := ((naR g ws L s).getD 0 Rw.z).ps.length
def inF (g : Lg) (ws : List Tk) (L : List Rw) (s : Ps) : Ps × List Rw := inst g ws (inN g ws L s + 1) 0 (naR g ws L s) (naS g ws L s)
def zIn : In := ⟨0, 0, 0, 0, 0, 0, 0, 0, 0, 0, false, false, false, 0, 0, 0, false⟩
def inI (g : Lg) (ws : List Tk) (L : List Rw) (s : Ps) : In := if (((inF g ws L s).2.length : Nat) : Int) = 0 then zIn else ((inF g ws L s).2.getD (0 : Int).toNat Rw.z).lay (inF g ws L s).1.ins
structure InI (g : Lg) (ws : List Tk) (L : List Rw) (N0 : Nat) (res : Ps × List Rw) (k : Nat) (z : Ps) (R : List Rw) : Prop where
  le : z.p ≤ ws.length
  sub : ∀ r ∈ R, r ∈ L
  n : ∀ r ∈ R, r.ps.length = N0
  ln : R.length ≤ 100000
  rn : ∃ f, inst g ws f k R z = res ∧ N0 < f + k
section
variable {g : Lg} {ws : List Tk} {L R : List Rw} {N0 k : Nat} {res : Ps × List Rw} {z : Ps} {w : World} {ks : List Nat}
theorem n1_le (h : z.p ≤ ws.length) : (n1 ws k z).p ≤ ws.length := by
  unfold n1; split
  · exact mkA_le (s := z.as) h
  · exact h
theorem nx_le (h : z.p ≤ ws.length) : (nxS g ws k R z).p ≤ ws.length := by
  unfold nxS; split
  · exact ptS_le (beS_le (n1_le h))
  · exact beS_le (n1_le h)
theorem goB_and (h : goB R k = true) : 0 < R.length ∧ k < (R.getD 0 Rw.z).ps.length := by
  unfold goB at h; rw [Bool.and_eq_true, decide_eq_true_eq, decide_eq_true_eq] at h
  have e : (0 : Int).toNat = 0 := rfl
  rw [e] at h; omega
theorem r0_mem (h : 0 < R.length) : R.getD 0 Rw.z ∈ R := by rw [List.getD_eq_getElem?_getD, List.getElem?_eq_getElem h]; exact List.getElem_mem h
theorem lft_in {t : Tk} {r : Rw} (h : r ∈ lft g k t R) : r ∈ R := (List.mem_filter.1 h).1
theorem nxR_in {r : Rw} (h : r ∈ nxR g ws k R z) : r ∈ R := (List.mem_filter.1 h).1
theorem InI.lt (hN : InI g ws L N0 res k z R) (h : goB R k = true) : k < N0 := by
  have h2 := goB_and h
  rw [hN.n _ (r0_mem h2.1)] at h2; exact h2.2
theorem InI.q (hN : InI g ws L N0 res k z R) (h : goB R k = true) : ∀ r ∈ R, k < r.ps.length := fun r hr => by rw [hN.n r hr]; exact hN.lt h
theorem InI.nx (hN : InI g ws L N0 res k z R) (h : goB R k = true) : InI g ws L N0 res (k + 1) (nxS g ws k R z) (nxR g ws k R z) := by
  obtain ⟨f, h1, h2⟩ := hN.rn
  refine ⟨nx_le hN.le, fun r hr => hN.sub r (nxR_in hr), fun r hr => hN.n r (nxR_in hr), Nat.le_trans (List.length_filter_le _ _) hN.ln, ?_⟩
  cases f with
  | zero => have := hN.lt h; omega
  | succ f => unfold inst at h1; rw [if_pos h] at h1; exact ⟨f, h1, by omega⟩
theorem InI.fi (hN : InI g ws L N0 res k z R) (h : goB R k = false) : res = (z, R) := by
  obtain ⟨f, h1, h2⟩ := hN.rn
  cases f with
  | zero => exact h1.symm
  | succ f => unfold inst at h1; rw [h] at h1; exact h1.symm
theorem InI.i0 {s : Ps} (hk : s.p ≤ ws.length) (hs : ∀ r ∈ naR g ws L s, ∀ q ∈ naR g ws L s, r.ps.length = q.ps.length) (hL : L.length ≤ 100000) : InI g ws L (inN g ws L s) (inF g ws L s) 0 (naS g ws L s) (naR g ws L s) := by
  have hsub : ∀ r ∈ naR g ws L s, r ∈ L := fun r hr => by
    unfold naR at hr
    split at hr
    · unfold naZ zK at hr
      rcases zK_in _ _ _ hr with h | h
      · cases h
      · exact List.mem_of_mem_take h
    · cases hr
  refine ⟨naS_le hk, hsub, fun r hr => hs r hr _ (r0_mem (List.length_pos_of_mem hr)), ?_, _, rfl, by omega⟩
  unfold naR
  split
  · have := zK_len (g := g) (q := (ws.getD s.p tok0).text) (L := L) (z := s.ins.sz) (k := L.length)
    unfold naZ; omega
  · exact Nat.zero_le _
theorem Tbl.sub (h : Tbl L w ks) (hs : ∀ r ∈ R, r ∈ L) : Tbl R w ks := fun r hr => h r (hs r hr)
end
theorem PrI.t {os : List (Nat × Obj)} {L : List Rw} {w : World} {ks : List Nat} (h : PrI os L w ks) : Tbl L w ks := h.1
theorem PrI.g {os : List (Nat × Obj)} {L : List Rw} {w : World} {ks : List Nat} (h : PrI os L w ks) : Gl os w ks := h.2
theorem instruction_ (g : Lg) (L : List Rw) (c : Nat) (ws : List Tk) (cw : Nat) (s : Ps) (hk : s.p ≤ ws.length) (hn : ws.length ≤ 1000000) (hw : WsOK ws) (os : List (Nat × Obj)) (hM : ∀ w ks, Gl os w ks → ∃ m, w.cell? ⟨0, 0, none⟩ = some (.int .i64 m)) (hm : ∀ r ∈ L, NmOK g r.nm) (hL : L.length ≤ 100000) (hs : ∀ r ∈ naR g ws L s, ∀ q ∈ naR g ws L s, r.ps.length = q.ps.length) (hN0 : inN g ws L s ≤ 1000) : FnI (PrI os L) Tryz.prog 73 [.ptr 0 0] [some (.blk (rdS g L.length c s.ins s.lab 1 4)), some (.blk [.ptr 2 0, .int .i64 s.e, .int .i64 s.a]), some (.blk [.sl 3 ws.length cw, .int .i64 ((s.p : Nat) : Int)]), some (wQ9 ws), some (lQ9 L)] (Rt (.agg (inQ9 (inI g ws L s))) [some (.blk (rdS g L.length c (((inF g ws L s).1).ins) (((inF g ws L s).1).lab) 1 4)), some (.blk [.ptr 2 0, .int .i64 (((inF g ws L s).1).e), .int .i64 (((inF g ws L s).1).a)]), some (.blk [.sl 3 ws.length cw, .int .i64 ((((inF g ws L s).1).p : Nat) : Int)]), some (wQ9 ws), some (lQ9 L)]) :=
 enterI (n := 56) (by kernel_rfl) Tryz.func73 rfl rfl rfl fun G w a h0 hI A => N hX 8 A rfl rfl fun A => CALLI [0, 1, 2, 3, 4] Gl.ok hI.g (named_ g L c ws cw s hk hn hw os hM hm hL) A rfl rfl rfl rfl rfl rfl rfl fun A => N hX 10 A rfl rfl fun A => LOOP3 (fun (k : Nat) (z : Ps) (R : List Rw) => [(0, .ptr 0 0), (2, .ptr 5 0), (3, .sl 6 R.length 0), (4, .int .i64 (k : Int))]) (fun (k : Nat) (z : Ps) (R : List Rw) => [some (.blk (rdS g L.length c z.ins z.lab 1 4)), some (.blk [.ptr 2 0, .int .i64 z.e, .int .i64 z.a]), some (.blk [.sl 3 ws.length cw, .int .i64 ((z.p : Nat) : Int)]), some (wQ9 ws), some (lQ9 L), some (.blk [.int .i64 0, .int .i64 0, .int .i64 0, .int .i64 0, .int .i64 0, .int .i64 0, .int .i64 0, .int .i64 0, .int .i64 0, .int .i64 0, .ff, .ff, .ff, .int .i64 0, .int .i64 0, .int .i64 0, .ff]), some (.row 128 20 R.length 0 (fun zz => rwc (R.getD zz Rw.z)))]) (fun (k : Nat) (z : Ps) (R : List Rw) => InI g ws L (inN g ws L s) (inF g ws L s) k z R) (fun (k : Nat) (z : Ps) (R : List Rw) => inN g ws L s - k) 0 (naS g ws L s) (naR g ws L s) (InI.i0 hk hs hL) ((A.cut [0, 2, 3, 4] rfl).trunc 7 rfl rfl rfl (by simp only [List.length_cons, List.length_nil] at h0; omega)) fun k z R hN {G a w} A => N hX 17 A rfl (ok_r <| ok_g (fun hg => (by have z2 := of_decide_eq_true hg; omega)) <| ok_r <| ok_g (fun hg => (by have z2 := of_decide_eq_true hg; omega)) <| ok_r <| ok_g (fun hg => (by have z2 := of_decide_eq_true hg; omega)) <| ok_r <| ok_r <| ok_r <| ok_r <| okE_nil) fun A => fork 18 A rfl
   (fun h1 A => N hX 12 A rfl rfl fun A => forkD 22 A rfl
    (fun h2 A => N hX 6 A rfl rfl fun A => CALL1 [1, 2, 3] (mark_ ws cw z.as [44] (by first | exact hN.le | exact mkA_le (s := z.as) hN.le | exact beS_le hN.le | exact beS_le (mkA_le (s := z.as) hN.le)) hn hw) A rfl rfl rfl rfl rfl rfl rfl fun A => N hX 7 A rfl rfl fun A => CALLI [0, 1, 2, 3, 4, 6] Tbl.ok (hI.t.sub hN.sub) (beginning_ g L c ws cw (Ps.wa z (mkA ws z.as [44])) R k (by first | exact hN.le | exact mkA_le (s := z.as) hN.le | exact beS_le hN.le | exact beS_le (mkA_le (s := z.as) hN.le)) hn hw (hN.q h1) hN.ln) A rfl rfl rfl rfl rfl rfl rfl fun A => N hX 10 A rfl rfl fun A => forkD 34 A rfl
     (fun h3 A => N hX 7 A rfl (ok_d (by have q1 := hN.lt h1; have q2 := goB_and (R := R) (k := k) h1; have q3 := hN.ln; have q4 : inN g ws L s ≤ 1000 := hN0; have q5 := hN.q h1 _ (lft_in (r0_mem (R := (lft g k (ws.getD (Ps.wa z (mkA ws z.as [44])).p tok0) R)) (by omega))); have e0 : (0 : Int).toNat = 0 := rfl; rw [← e0] at q5; omega) <| ok_d (by have q1 := hN.lt h1; have q2 := goB_and (R := R) (k := k) h1; have q3 := hN.ln; have q4 : inN g ws L s ≤ 1000 := hN0; have q5 := hN.q h1 _ (lft_in (r0_mem (R := (lft g k (ws.getD (Ps.wa z (mkA ws z.as [44])).p tok0) R)) (by omega))); have e0 : (0 : Int).toNat = 0 := rfl; rw [← e0] at q5; omega) <| ok_d (by have q1 := hN.lt h1; have q2 := goB_and (R := R) (k := k) h1; have q3 := hN.ln; have q4 : inN g ws L s ≤ 1000 := hN0; have q5 := hN.q h1 _ (lft_in (r0_mem (R := (lft g k (ws.getD (Ps.wa z (mkA ws z.as [44])).p tok0) R)) (by omega))); have e0 : (0 : Int).toNat = 0 := rfl; rw [← e0] at q5; omega) <| okE_nil) fun A => ADOPT (y := .sl 7 (((lft g k (ws.getD (Ps.wa z (mkA ws z.as [44])).p tok0) R).getD ((0 : Int).toNat) Rw.z).ps.length) (((lft g k (ws.getD (Ps.wa z (mkA ws z.as [44])).p tok0) R).getD ((0 : Int).toNat) Rw.z).cp)) (H' := [some (.blk (rdS g L.length c ((beS g ws k R (Ps.wa z (mkA ws z.as [44]))).ins) ((beS g ws k R (Ps.wa z (mkA ws z.as [44]))).lab) 1 4)), some (.blk [.ptr 2 0, .int .i64 ((beS g ws k R (Ps.wa z (mkA ws z.as [44]))).e), .int .i64 ((beS g ws k R (Ps.wa z (mkA ws z.as [44]))).a)]), some (.blk [.sl 3 ws.length cw, .int .i64 (((beS g ws k R (Ps.wa z (mkA ws z.as [44]))).p : Nat) : Int)]), some (wQ9 ws), some (lQ9 L), some (.blk [.int .i64 0, .int .i64 0, .int .i64 0, .int .i64 0, .int .i64 0, .int .i64 0, .int .i64 0, .int .i64 0, .int .i64 0, .int .i64 0, .ff, .ff, .ff, .int .i64 0, .int .i64 0, .int .i64 0, .ff]), some (.row 128 20 ((lft g k (ws.getD (Ps.wa z (mkA ws z.as [44])).p tok0) R).length) 0 (fun zz => rwc ((lft g k (ws.getD (Ps.wa z (mkA ws z.as [44])).p tok0) R).getD zz Rw.z))), some (.lst 1 ((((lft g k (ws.getD (Ps.wa z (mkA ws z.as [44])).p tok0) R).getD ((0 : Int).toNat) Rw.z).ps).length) (fun j => [.int .i64 ((((lft g k (ws.getD (Ps.wa z (mkA ws z.as [44])).p tok0) R).getD ((0 : Int).toNat) Rw.z).ps).getD j 0)]))]) 39 (hI.t _ (hN.sub _ (lft_in (r0_mem (R := (lft g k (ws.getD (Ps.wa z (mkA ws z.as [44])).p tok0) R)) (by omega))))) A rfl rfl rfl rfl fun A => N hX 3 A rfl (ok_d (by have q1 := hN.lt h1; have q2 := goB_and (R := R) (k := k) h1; have q3 := hN.ln; have q4 : inN g ws L s ≤ 1000 := hN0; have q5 := hN.q h1 _ (lft_in (r0_mem (R := (lft g k (ws.getD (Ps.wa z (mkA ws z.as [44])).p tok0) R)) (by omega))); have e0 : (0 : Int).toNat = 0 := rfl; rw [← e0] at q5; omega) <| ok_d (by have q1 := hN.lt h1; have q2 := goB_and (R := R) (k := k) h1; have q3 := hN.ln; have q4 : inN g ws L s ≤ 1000 := hN0; have q5 := hN.q h1 _ (lft_in (r0_mem (R := (lft g k (ws.getD (Ps.wa z (mkA ws z.as [44])).p tok0) R)) (by omega))); have e0 : (0 : Int).toNat = 0 := rfl; rw [← e0] at q5; omega) <| okE_nil) fun A => CALL1 [0, 1, 2, 3, 4] (part_ g L c ws cw (beS g ws k R (Ps.wa z (mkA ws z.as [44]))) ((((lft g k (ws.getD (Ps.wa z (mkA ws z.as [44])).p tok0) R).getD ((0 : Int).toNat) Rw.z).ps).getD (((k : Int)).toNat) 0) (by first | exact hN.le | exact mkA_le (s := z.as) hN.le | exact beS_le hN.le | exact beS_le (mkA_le (s := z.as) hN.le)) hn hw) A rfl rfl rfl rfl rfl rfl rfl fun A => N hX 8 A rfl (ok_d (by have q1 := hN.lt h1; have q2 := goB_and (R := R) (k := k) h1; have q3 := hN.ln; have q4 : inN g ws L s ≤ 1000 := hN0; have q5 := hN.q h1 _ (lft_in (r0_mem (R := (lft g k (ws.getD (Ps.wa z (mkA ws z.as [44])).p tok0) R)) (by omega))); have e0 : (0 : Int).toNat = 0 := rfl; rw [← e0] at q5; omega) <| okE_nil) fun A => ⟨k + 1, (nxS g ws k R z), (nxR g ws k R z), _, (by have := hN.lt h1; omega), (hN.nx h1), ((((A.sayH (H' := [some (.blk (rdS g L.length c ((nxS g ws k R z).ins) ((nxS g ws k R z).lab) 1 4)), some (.blk [.ptr 2 0, .int .i64 ((nxS g ws k R z).e), .int .i64 ((nxS g ws k R z).a)]), some (.blk [.sl 3 ws.length cw, .int .i64 (((nxS g ws k R z).p : Nat) : Int)]), some (wQ9 ws), some (lQ9 L), some (.blk [.int .i64 0, .int .i64 0, .int .i64 0, .int .i64 0, .int .i64 0, .int .i64 0, .int .i64 0, .int .i64 0, .int .i64 0, .int .i64 0, .ff, .ff, .ff, .int .i64 0, .int .i64 0, .int .i64 0, .ff]), some (.row 128 20 ((nxR g ws k R z).length) 0 (fun zz => rwc ((nxR g ws k R z).getD zz Rw.z))), some (.lst 1 ((((lft g k (ws.getD (Ps.wa z (mkA ws z.as [44])).p tok0) R).getD ((0 : Int).toNat) Rw.z).ps).length) (fun j => [.int .i64 ((((lft g k (ws.getD (Ps.wa z (mkA ws z.as [44])).p tok0) R).getD ((0 : Int).toNat) Rw.z).ps).getD j 0)]))]) (by unfold nxS; rw [if_pos (show (((nxR g ws k R z).length : Nat) : Int) > 0 from (by unfold nxR n1; rw [if_pos h2]; exact h3))]; unfold nxR n1; rw [if_pos h2] <;> rfl)).say 3 (.sl 6 ((nxR g ws k R z).length) 0) rfl (by unfold nxR n1; rw [if_pos h2] <;> rfl)).cut [0, 2, 3, 4] rfl).trunc 7 rfl rfl rfl (by simp only [List.length_cons, List.length_nil] at h0; omega))⟩)
     (fun h3 A => N hX 9 A rfl (ok_d (by have q1 := hN.lt h1; have q2 := goB_and (R := R) (k := k) h1; have q3 := hN.ln; have q4 : inN g ws L s ≤ 1000 := hN0; omega) <| okE_nil) fun A => ⟨k + 1, (nxS g ws k R z), (nxR g ws k R z), _, (by have := hN.lt h1; omega), (hN.nx h1), ((((A.sayH (H' := [some (.blk (rdS g L.length c ((nxS g ws k R z).ins) ((nxS g ws k R z).lab) 1 4)), some (.blk [.ptr 2 0, .int .i64 ((nxS g ws k R z).e), .int .i64 ((nxS g ws k R z).a)]), some (.blk [.sl 3 ws.length cw, .int .i64 (((nxS g ws k R z).p : Nat) : Int)]), some (wQ9 ws), some (lQ9 L), some (.blk [.int .i64 0, .int .i64 0, .int .i64 0, .int .i64 0, .int .i64 0, .int .i64 0, .int .i64 0, .int .i64 0, .int .i64 0, .int .i64 0, .ff, .ff, .ff, .int .i64 0, .int .i64 0, .int .i64 0, .ff]), some (.row 128 20 ((nxR g ws k R z).length) 0 (fun zz => rwc ((nxR g ws k R z).getD zz Rw.z)))]) (by unfold nxS; rw [if_neg (show ¬ (((nxR g ws k R z).length : Nat) : Int) > 0 from (by unfold nxR n1; rw [if_pos h2]; exact h3))]; unfold nxR n1; rw [if_pos h2] <;> rfl)).say 3 (.sl 6 ((nxR g ws k R z).length) 0) rfl (by unfold nxR n1; rw [if_pos h2] <;> rfl)).cut [0, 2, 3, 4] rfl).trunc 7 rfl rfl rfl (by simp only [List.length_cons, List.length_nil] at h0; omega))⟩))
    (fun h2 A => N hX 8 A rfl rfl fun A => CALLI [0, 1, 2, 3, 4, 6] Tbl.ok (hI.t.sub hN.sub) (beginning_ g L c ws cw z R k (by first | exact hN.le | exact mkA_le (s := z.as) hN.le | exact beS_le hN.le | exact beS_le (mkA_le (s := z.as) hN.le)) hn hw (hN.q h1) hN.ln) A rfl rfl rfl rfl rfl rfl rfl fun A => N hX 10 A rfl rfl fun A => forkD 34 A rfl
     (fun h4 A => N hX 7 A rfl (ok_d (by have q1 := hN.lt h1; have q2 := goB_and (R := R) (k := k) h1; have q3 := hN.ln; have q4 : inN g ws L s ≤ 1000 := hN0; have q5 := hN.q h1 _ (lft_in (r0_mem (R := (lft g k (ws.getD z.p tok0) R)) (by omega))); have e0 : (0 : Int).toNat = 0 := rfl; rw [← e0] at q5; omega) <| ok_d (by have q1 := hN.lt h1; have q2 := goB_and (R := R) (k := k) h1; have q3 := hN.ln; have q4 : inN g ws L s ≤ 1000 := hN0; have q5 := hN.q h1 _ (lft_in (r0_mem (R := (lft g k (ws.getD z.p tok0) R)) (by omega))); have e0 : (0 : Int).toNat = 0 := rfl; rw [← e0] at q5; omega) <| ok_d (by have q1 := hN.lt h1; have q2 := goB_and (R := R) (k := k) h1; have q3 := hN.ln; have q4 : inN g ws L s ≤ 1000 := hN0; have q5 := hN.q h1 _ (lft_in (r0_mem (R := (lft g k (ws.getD z.p tok0) R)) (by omega))); have e0 : (0 : Int).toNat = 0 := rfl; rw [← e0] at q5; omega) <| okE_nil) fun A => ADOPT (y := .sl 7 (((lft g k (ws.getD z.p tok0) R).getD ((0 : Int).toNat) Rw.z).ps.length) (((lft g k (ws.getD z.p tok0) R).getD ((0 : Int).toNat) Rw.z).cp)) (H' := [some (.blk (rdS g L.length c ((beS g ws k R z).ins) ((beS g ws k R z).lab) 1 4)), some (.blk [.ptr 2 0, .int .i64 ((beS g ws k R z).e), .int .i64 ((beS g ws k R z).a)]), some (.blk [.sl 3 ws.length cw, .int .i64 (((beS g ws k R z).p : Nat) : Int)]), some (wQ9 ws), some (lQ9 L), some (.blk [.int .i64 0, .int .i64 0, .int .i64 0, .int .i64 0, .int .i64 0, .int .i64 0, .int .i64 0, .int .i64 0, .int .i64 0, .int .i64 0, .ff, .ff, .ff, .int .i64 0, .int .i64 0, .int .i64 0, .ff]), some (.row 128 20 ((lft g k (ws.getD z.p tok0) R).length) 0 (fun zz => rwc ((lft g k (ws.getD z.p tok0) R).getD zz Rw.z))), some (.lst 1 ((((lft g k (ws.getD z.p tok0) R).getD ((0 : Int).toNat) Rw.z).ps).length) (fun j => [.int .i64 ((((lft g k (ws.getD z.p tok0) R).getD ((0 : Int).toNat) Rw.z).ps).getD j 0)]))]) 39 (hI.t _ (hN.sub _ (lft_in (r0_mem (R := (lft g k (ws.getD z.p tok0) R)) (by omega))))) A rfl rfl rfl rfl fun A => N hX 3 A rfl (ok_d (by have q1 := hN.lt h1; have q2 := goB_and (R := R) (k := k) h1; have q3 := hN.ln; have q4 : inN g ws L s ≤ 1000 := hN0; have q5 := hN.q h1 _ (lft_in (r0_mem (R := (lft g k (ws.getD z.p tok0) R)) (by omega))); have e0 : (0 : Int).toNat = 0 := rfl; rw [← e0] at q5; omega) <| ok_d (by have q1 := hN.lt h1; have q2 := goB_and (R := R) (k := k) h1; have q3 := hN.ln; have q4 : inN g ws L s ≤ 1000 := hN0; have q5 := hN.q h1 _ (lft_in (r0_mem (R := (lft g k (ws.getD z.p tok0) R)) (by omega))); have e0 : (0 : Int).toNat = 0 := rfl; rw [← e0] at q5; omega) <| okE_nil) fun A => CALL1 [0, 1, 2, 3, 4] (part_ g L c ws cw (beS g ws k R z) ((((lft g k (ws.getD z.p tok0) R).getD ((0 : Int).toNat) Rw.z).ps).getD (((k : Int)).toNat) 0) (by first | exact hN.le | exact mkA_le (s := z.as) hN.le | exact beS_le hN.le | exact beS_le (mkA_le (s := z.as) hN.le)) hn hw) A rfl rfl rfl rfl rfl rfl rfl fun A => N hX 8 A rfl (ok_d (by have q1 := hN.lt h1; have q2 := goB_and (R := R) (k := k) h1; have q3 := hN.ln; have q4 : inN g ws L s ≤ 1000 := hN0; have q5 := hN.q h1 _ (lft_in (r0_mem (R := (lft g k (ws.getD z.p tok0) R)) (by omega))); have e0 : (0 : Int).toNat = 0 := rfl; rw [← e0] at q5; omega) <| okE_nil) fun A => ⟨k + 1, (nxS g ws k R z), (nxR g ws k R z), _, (by have := hN.lt h1; omega), (hN.nx h1), ((((A.sayH (H' := [some (.blk (rdS g L.length c ((nxS g ws k R z).ins) ((nxS g ws k R z).lab) 1 4)), some (.blk [.ptr 2 0, .int .i64 ((nxS g ws k R z).e), .int .i64 ((nxS g ws k R z).a)]), some (.blk [.sl 3 ws.length cw, .int .i64 (((nxS g ws k R z).p : Nat) : Int)]), some (wQ9 ws), some (lQ9 L), some (.blk [.int .i64 0, .int .i64 0, .int .i64 0, .int .i64 0, .int .i64 0, .int .i64 0, .int .i64 0, .int .i64 0, .int .i64 0, .int .i64 0, .ff, .ff, .ff, .int .i64 0, .int .i64 0, .int .i64 0, .ff]), some (.row 128 20 ((nxR g ws k R z).length) 0 (fun zz => rwc ((nxR g ws k R z).getD zz Rw.z))), some (.lst 1 ((((lft g k (ws.getD z.p tok0) R).getD ((0 : Int).toNat) Rw.z).ps).length) (fun j => [.int .i64 ((((lft g k (ws.getD z.p tok0) R).getD ((0 : Int).toNat) Rw.z).ps).getD j 0)]))]) (by unfold nxS; rw [if_pos (show (((nxR g ws k R z).length : Nat) : Int) > 0 from (by unfold nxR n1; rw [if_neg h2]; exact h4))]; unfold nxR n1; rw [if_neg h2] <;> rfl)).say 3 (.sl 6 ((nxR g ws k R z).length) 0) rfl (by unfold nxR n1; rw [if_neg h2] <;> rfl)).cut [0, 2, 3, 4] rfl).trunc 7 rfl rfl rfl (by simp only [List.length_cons, List.length_nil] at h0; omega))⟩)
     (fun h4 A => N hX 9 A rfl (ok_d (by have q1 := hN.lt h1; have q2 := goB_and (R := R) (k := k) h1; have q3 := hN.ln; have q4 : inN g ws L s ≤ 1000 := hN0; omega) <| okE_nil) fun A => ⟨k + 1, (nxS g ws k R z), (nxR g ws k R z), _, (by have := hN.lt h1; omega), (hN.nx h1), ((((A.sayH (H' := [some (.blk (rdS g L.length c ((nxS g ws k R z).ins) ((nxS g ws k R z).lab) 1 4)), some (.blk [.ptr 2 0, .int .i64 ((nxS g ws k R z).e), .int .i64 ((nxS g ws k R z).a)]), some (.blk [.sl 3 ws.length cw, .int .i64 (((nxS g ws k R z).p : Nat) : Int)]), some (wQ9 ws), some (lQ9 L), some (.blk [.int .i64 0, .int .i64 0, .int .i64 0, .int .i64 0, .int .i64 0, .int .i64 0, .int .i64 0, .int .i64 0, .int .i64 0, .int .i64 0, .ff, .ff, .ff, .int .i64 0, .int .i64 0, .int .i64 0, .ff]), some (.row 128 20 ((nxR g ws k R z).length) 0 (fun zz => rwc ((nxR g ws k R z).getD zz Rw.z)))]) (by unfold nxS; rw [if_neg (show ¬ (((nxR g ws k R z).length : Nat) : Int) > 0 from (by unfold nxR n1; rw [if_neg h2]; exact h4))]; unfold nxR n1; rw [if_neg h2] <;> rfl)).say 3 (.sl 6 ((nxR g ws k R z).length) 0) rfl (by unfold nxR n1; rw [if_neg h2] <;> rfl)).cut [0, 2, 3, 4] rfl).trunc 7 rfl rfl rfl (by simp only [List.length_cons, List.length_nil] at h0; omega))⟩)))
   (fun h1 A => N hX 11 A rfl rfl fun A => forkE 46 A rfl
    (fun h5 A => N hX 8 A rfl rfl fun A => have hres := hN.fi h1; RETN hX A rfl rfl rfl h0 rfl rfl rfl rfl (by unfold inI; rw [hres, if_pos h5] <;> rfl) (by rw [hres] <;> rfl))
    (fun h5 A => N hX 4 A rfl rfl fun A => ANY hmo [.sl 6 R.length 0, .el 6 20 0 0, .agg (rwQ9 (R.getD ((0 : Int).toNat) Rw.z)), .ptr 0 0, .ptr 0 0, .ptr 0 18, .agg (inQ9 z.ins), .agg (inQ9 ((R.getD ((0 : Int).toNat) Rw.z).lay z.ins)), .tup []] [8] [] 0 [([], [], [some (.blk (rdS g L.length c z.ins z.lab 1 4)), some (.blk [.ptr 2 0, .int .i64 z.e, .int .i64 z.a]), some (.blk [.sl 3 ws.length cw, .int .i64 ((z.p : Nat) : Int)]), some (wQ9 ws), some (lQ9 L), some (.blk [.int .i64 0, .int .i64 0, .int .i64 0, .int .i64 0, .int .i64 0, .int .i64 0, .int .i64 0, .int .i64 0, .int .i64 0, .int .i64 0, .ff, .ff, .ff, .int .i64 0, .int .i64 0, .int .i64 0, .ff]), some (.row 128 20 R.length 0 (fun zz => rwc (R.getD zz Rw.z)))]), ([8], [], [some (.blk (rdS g L.length c z.ins z.lab 1 4)), some (.blk [.ptr 2 0, .int .i64 z.e, .int .i64 z.a]), some (.blk [.sl 3 ws.length cw, .int .i64 ((z.p : Nat) : Int)]), some (wQ9 ws), some (lQ9 L), some (.blk (inQ9 ((R.getD ((0 : Int).toNat) Rw.z).lay z.ins))), some (.row 128 20 R.length 0 (fun zz => rwc (R.getD zz Rw.z)))])] [[true, true, true, true, true, true, true, true, true], [false, false, false, false, false, false, false, false, false]] A rfl rfl rfl rfl (by kernel_rfl) rfl (by kernel_rfl) ⟨⟨⟨_, _, _, _, 0, rfl, rfl, rfl, rfl, eff_at (eff_auto (X := ⟨_, true⟩) (out := .val _ _) hX rfl rfl) rfl⟩, ⟨⟨_, _, _, _, 0, rfl, rfl, rfl, rfl, eff_at (eff_auto (X := ⟨_, true⟩) (out := .val _ _) hX rfl (ok_d (by omega) <| okE_nil)) rfl⟩, ⟨⟨_, _, _, _, 0, rfl, rfl, rfl, rfl, eff_at (eff_auto (X := ⟨_, true⟩) (out := .val _ _) hX rfl (ok_d (by omega) <| okE_nil)) rfl⟩, ⟨⟨_, _, _, _, 0, rfl, rfl, rfl, rfl, eff_at (eff_auto (X := ⟨_, true⟩) (out := .val _ _) hX rfl rfl) rfl⟩, ⟨⟨_, _, _, _, 0, rfl, rfl, rfl, rfl, eff_at (eff_auto (X := ⟨_, true⟩) (out := .val _ _) hX rfl rfl) rfl⟩, ⟨⟨_, _, _, _, 0, rfl, rfl, rfl, rfl, eff_at (eff_auto (X := ⟨_, true⟩) (out := .val _ _) hX rfl rfl) rfl⟩, ⟨⟨_, _, _, _, 0, rfl, rfl, rfl, rfl, eff_at (eff_auto (X := ⟨_, true⟩) (out := .val _ _) hX rfl rfl) rfl⟩, ⟨⟨_, _, _, _, 0, rfl, rfl, rfl, rfl, eff_at (callIE [] LiesAt.ok (hI.t _ (hN.sub _ (r0_mem (R := R) (by omega)))) (withI_ (R.getD ((0 : Int).toNat) Rw.z) z.ins (by have := hN.n _ (r0_mem (R := R) (by omega)); have e : (0 : Int).toNat = 0 := rfl; rw [e, this]; omega)) rfl rfl rfl rfl rfl rfl rfl) rfl⟩, ⟨⟨_, _, _, _, 1, rfl, rfl, rfl, rfl, eff_at (eff_auto (X := ⟨_, true⟩) (out := .upd 5 (inQ9 ((R.getD ((0 : Int).toNat) Rw.z).lay z.ins)) _) hX rfl rfl) rfl⟩, trivial⟩⟩⟩⟩⟩⟩⟩⟩⟩, ⟨trivial, trivial⟩⟩ fun A => N hX 2 A rfl rfl fun A => have hres := hN.fi h1; RETN hX A rfl rfl rfl h0 rfl rfl rfl rfl (by unfold inI; rw [hres, if_neg h5] <;> rfl) (by rw [hres] <;> rfl)))
theorem clone_ (ws : List Tk) (c : Nat) (hn : ws.length ≤ 1000000) : Fn Tryz.prog 169 [.sl 0 ws.length c] [some (wQ9 ws)] (Rt (.sl 1 ws.length 0) [some (wQ9 ws), some (.row 28 4 ws.length 0 (fun zz => tkc (ws.getD zz tok0)))]) :=
 enterM (n := 8) (by kernel_rfl) Tryz.func169 rfl rfl rfl fun G w a h0 A => N hX 9 A rfl rfl fun A => NILL hX A rfl rfl (fun h1 {G a w} A => N hX 9 A rfl rfl fun A => have A := A.nilRow 2 28 4 (fun zz => tkc (ws.getD zz tok0)) rfl (fun z => ⟨_, rfl, rfl⟩); have A := A.rowAs 1 ws.length (fun zz => tkc (ws.getD zz tok0)) rfl h1 (fun _ _ => rfl) (fun z => ⟨_, rfl, rfl⟩); have A := A.say 2 (.sl 1 ws.length 0) rfl (by rw [h1] <;> rfl); RET hX [1] A ⟨rfl, rfl⟩ rfl rfl rfl rfl rfl rfl rfl rfl h0) (fun {G a w} A => N hX 9 A rfl rfl fun A => APPL hX ws.length (fun zz => tkc (ws.getD zz tok0)) A rfl rfl rfl rfl (Nat.le_refl _) (by omega) hn (by omega) (fun k hk => by omega) (fun k hk => by show tkc _ = tkc _; rw [Nat.zero_add]) (fun z => ⟨_, rfl, rfl⟩) (fun k hk => ⟨_, rfl, okE_nil⟩) fun A => N hX 4 A rfl rfl fun A => RET hX [2] A ⟨rfl, rfl⟩ rfl rfl rfl rfl rfl rfl rfl rfl h0)
theorem scanNew_ (ws : List Tk) (c : Nat) (hn : ws.length ≤ 1000000) : Fn Tryz.prog 111 [.sl 0 ws.length c] [some (wQ9 ws)] (Rt (.ptr 1 0) [some (wQ9 ws), some (.blk [.sl 2 ws.length 0, .int .i64 0]), some (.row 28 4 ws.length 0 (fun zz => tkc (ws.getD zz tok0)))]) :=
 enterM (n := 7) (by kernel_rfl) Tryz.func111 rfl rfl rfl fun G w a h0 A => N hX 8 A rfl rfl fun A => CALL1 [0] (clone_ ws c hn) A rfl rfl rfl rfl rfl rfl rfl fun A => N hX 6 A rfl rfl fun A => RET hX [2, 1] (x := .ptr 1 0) (H' := [some (wQ9 ws), some (.blk [.sl 2 ws.length 0, .int .i64 0]), some (.row 28 4 ws.length 0 (fun zz => tkc (ws.getD zz tok0)))]) A ⟨rfl, rfl⟩ rfl rfl rfl rfl rfl rfl rfl rfl h0
theorem askNew_ (ws : List Tk) (c : Nat) (hn : ws.length ≤ 1000000) : Fn Tryz.prog 46 [.sl 0 ws.length c] [some (wQ9 ws)] (Rt (.ptr 1 0) [some (wQ9 ws), some (.blk [.ptr 2 0, .int .i64 0, .int .i64 0]), some (.blk [.sl 3 ws.length 0, .int .i64 0]), some (.row 28 4 ws.length 0 (fun zz => tkc (ws.getD zz tok0)))]) :=
 enterM (n := 7) (by kernel_rfl) Tryz.func46 rfl rfl rfl fun G w a h0 A => N hX 8 A rfl rfl fun A => CALL1 [0] (scanNew_ ws c hn) A rfl rfl rfl rfl rfl rfl rfl fun A => N hX 6 A rfl rfl fun A => RET hX [3, 1, 2] (x := .ptr 1 0) (H' := [some (wQ9 ws), some (.blk [.ptr 2 0, .int .i64 0, .int .i64 0]), some (.blk [.sl 3 ws.length 0, .int .i64 0]), some (.row 28 4 ws.length 0 (fun zz => tkc (ws.getD zz tok0)))]) A ⟨rfl, rfl⟩ rfl rfl rfl rfl rfl rfl rfl rfl h0
def Ps.z0 : Ps := ⟨zIn, [], 0, 0, 0⟩
def paE (g : Lg) (ws : List Tk) (L : List Rw) : As := endA ws (inF g ws L Ps.z0).1.as
def parI (g : Lg) (ws : List Tk) (L : List Rw) : In := if (paE g ws L).e ≠ 0 then zIn else if wrongI (inI g ws L Ps.z0) = true then zIn else inI g ws L Ps.z0
def parT (g : Lg) (ws : List Tk) (L : List Rw) : List UInt8 := if (paE g ws L).e ≠ 0 then [] else if wrongI (inI g ws L Ps.z0) = true then [] else (inF g ws L Ps.z0).1.lab
def parE (g : Lg) (ws : List Tk) (L : List Rw) : Int := if (paE g ws L).e ≠ 0 then (paE g ws L).e else if wrongI (inI g ws L Ps.z0) = true then 34 else 0
def parA (g : Lg) (ws : List Tk) (L : List Rw) : Int := if (paE g ws L).e ≠ 0 then (paE g ws L).a else if wrongI (inI g ws L Ps.z0) = true then atW ws 0 else 0
structure PaOK (g : Lg) (ws : List Tk) (L : List Rw) : Prop where
  m : ∀ r ∈ L, NmOK g r.nm
  n : L.length ≤ 100000
  s : ∀ r ∈ naR g ws L Ps.z0, ∀ q ∈ naR g ws L Ps.z0, r.ps.length = q.ps.length
  k : inN g ws L Ps.z0 ≤ 1000
theorem inF_le {g : Lg} {ws : List Tk} {L : List Rw} {s : Ps} (hk : s.p ≤ ws.length) : (inF g ws L s).1.p ≤ ws.length := by
  have : ∀ (f k : Nat) (R : List Rw) (z : Ps), z.p ≤ ws.length → (inst g ws f k R z).1.p ≤ ws.length := by
    intro f
    induction f with
    | zero => intro k R z h; exact h
    | succ f ih =>
      intro k R z h
      unfold inst
      split
      · exact ih _ _ _ (nx_le h)
      · exact h
  exact this _ _ _ _ (naS_le hk)
theorem lparse_ (g : Lg) (L : List Rw) (c : Nat) (ws : List Tk) (d : Nat) (hn : ws.length ≤ 1000000) (hw : WsOK ws) (os : List (Nat × Obj)) (hM : ∀ w ks, Gl os w ks → ∃ m, w.cell? ⟨0, 0, none⟩ = some (.int .i64 m)) (hp : PaOK g ws L) : FnI (PrI os L) Tryz.prog 27 [.agg [.str g.r0, .str g.r1, .str g.r2, .str g.r3, .str g.r4, .str g.r5, .str g.r6, .str g.r7, .str g.l0, .str g.l1, .str g.l2, .str g.l3, .str g.im, .str g.f0, .str g.f1, .str g.f2, .sl 0 L.length c], .sl 1 ws.length d] [some (lQ9 L), some (wQ9 ws)] (Rt (.tup [.agg (inQ9 (parI g ws L)), .str (parT g ws L), .int .i64 (parE g ws L), .int .i64 (parA g ws L)]) [some (lQ9 L), some (wQ9 ws)]) :=
 enterI (n := 52) (by kernel_rfl) Tryz.func27 rfl rfl rfl fun G w a h0 hI A => N hX 10 A rfl rfl fun A => DRAWN hX hmo [] [(1, .ptr 4 0, [some (lQ9 L), some (wQ9 ws), some (.blk [.str g.r0, .str g.r1, .str g.r2, .str g.r3, .str g.r4, .str g.r5, .str g.r6, .str g.r7, .str g.l0, .str g.l1, .str g.l2, .str g.l3, .str g.im, .str g.f0, .str g.f1, .str g.f2, .sl 0 L.length c]), some (.blk [.int .i64 0, .int .i64 0, .int .i64 0, .int .i64 0, .int .i64 0, .int .i64 0, .int .i64 0, .int .i64 0, .int .i64 0, .int .i64 0, .ff, .ff, .ff, .int .i64 0, .int .i64 0, .int .i64 0, .ff]), some (.blk [.ptr 5 0, .int .i64 0, .int .i64 0]), some (.blk [.sl 6 ws.length 0, .int .i64 0]), some (.row 28 4 ws.length 0 (fun zz => tkc (ws.getD zz tok0)))])] A rfl rfl rfl rfl (by kernel_rfl) ⟨callE [1] (askNew_ ws d hn) rfl rfl rfl rfl rfl rfl rfl, ⟨trivial, trivial⟩⟩ trivial fun A => N hX 2 A rfl rfl fun A => have A := A.freeze 6 rfl; have A := A.asH (H' := [some (lQ9 L), some (wQ9 ws), some (.blk [.str g.r0, .str g.r1, .str g.r2, .str g.r3, .str g.r4, .str g.r5, .str g.r6, .str g.r7, .str g.l0, .str g.l1, .str g.l2, .str g.l3, .str g.im, .str g.f0, .str g.f1, .str g.f2, .sl 0 L.length c]), some (.blk [.int .i64 0, .int .i64 0, .int .i64 0, .int .i64 0, .int .i64 0, .int .i64 0, .int .i64 0, .int .i64 0, .int .i64 0, .int .i64 0, .ff, .ff, .ff, .int .i64 0, .int .i64 0, .int .i64 0, .ff]), some (.blk [.ptr 5 0, .int .i64 Ps.z0.e, .int .i64 Ps.z0.a]), some (.blk [.sl 6 ws.length 0, .int .i64 ((Ps.z0.p : Nat) : Int)]), some (wQ9 ws), some (.blk (rdS g L.length c Ps.z0.ins Ps.z0.lab 4 0))]) rfl; N hX 8 A rfl rfl fun A => CALL1 [5, 6] (at_W ws 0 Ps.z0.p (by first | exact Nat.zero_le _ | exact inF_le (s := Ps.z0) (Nat.zero_le _) | exact endA_le (s := (inF g ws L Ps.z0).1.as) (inF_le (s := Ps.z0) (Nat.zero_le _))) hn hw) A rfl rfl rfl rfl rfl rfl rfl fun A => N hX 6 A rfl rfl fun A => CALLI [7, 4, 5, 6, 0] PrI.ok hI (instruction_ g L c ws 0 Ps.z0 (Nat.zero_le _) hn hw os hM hp.m hp.n hp.s hp.k) A rfl rfl rfl rfl rfl rfl rfl fun A => N hX 9 A rfl rfl fun A => CALL1 [4, 5, 6] (end_ ws 0 (((inF g ws L Ps.z0).1).as) (by first | exact Nat.zero_le _ | exact inF_le (s := Ps.z0) (Nat.zero_le _) | exact endA_le (s := (inF g ws L Ps.z0).1.as) (inF_le (s := Ps.z0) (Nat.zero_le _))) hn hw) A rfl rfl rfl rfl rfl rfl rfl fun A => N hX 9 A rfl rfl fun A => CALL1 [4, 5, 6] (fault_ ws 0 (endA ws (((inF g ws L Ps.z0).1).as)) (by first | exact Nat.zero_le _ | exact inF_le (s := Ps.z0) (Nat.zero_le _) | exact endA_le (s := (inF g ws L Ps.z0).1.as) (inF_le (s := Ps.z0) (Nat.zero_le _))) hn hw) A rfl rfl rfl rfl rfl rfl rfl fun A => N hX 13 A rfl rfl fun A => forkN 39 A rfl
  (fun h1 A => N hX 13 A rfl rfl fun A => RETN hX A rfl rfl rfl h0 rfl rfl rfl rfl (by unfold parI parT parE parA; rw [if_pos (show (paE g ws L).e ≠ 0 from h1), if_pos (show (paE g ws L).e ≠ 0 from h1), if_pos (show (paE g ws L).e ≠ 0 from h1), if_pos (show (paE g ws L).e ≠ 0 from h1)] <;> rfl) rfl)
  (fun h1 A => N hX 7 A rfl rfl fun A => CALL1 [] (isWrong_ (inI g ws L Ps.z0).op (inI g ws L Ps.z0).dst (inI g ws L Ps.z0).ra (inI g ws L Ps.z0).rb (inI g ws L Ps.z0).imm (inI g ws L Ps.z0).loc (inI g ws L Ps.z0).off (inI g ws L Ps.z0).ix (inI g ws L Ps.z0).sz (inI g ws L Ps.z0).fn (inI g ws L Ps.z0).acq (inI g ws L Ps.z0).weak (inI g ws L Ps.z0).rel (inI g ws L Ps.z0).pred (inI g ws L Ps.z0).succ (inI g ws L Ps.z0).to_ (inI g ws L Ps.z0).zero) A rfl rfl rfl rfl rfl rfl rfl fun A => N hX 2 A rfl rfl fun A => fork 44 A rfl
   (fun h2 A => N hX 12 A rfl rfl fun A => RETN hX A rfl rfl rfl h0 rfl rfl rfl rfl (by unfold parI parT parE parA; rw [if_neg (show ¬ (paE g ws L).e ≠ 0 from not_not_intro h1), if_pos (show wrongI (inI g ws L Ps.z0) = true from h2), if_neg (show ¬ (paE g ws L).e ≠ 0 from not_not_intro h1), if_pos (show wrongI (inI g ws L Ps.z0) = true from h2), if_neg (show ¬ (paE g ws L).e ≠ 0 from not_not_intro h1), if_pos (show wrongI (inI g ws L Ps.z0) = true from h2), if_neg (show ¬ (paE g ws L).e ≠ 0 from not_not_intro h1), if_pos (show wrongI (inI g ws L Ps.z0) = true from h2)] <;> rfl) rfl)
   (fun h2 A => N hX 4 A rfl rfl fun A => DRAWN hX hmo [] [] A rfl rfl rfl rfl (by kernel_rfl) (effAll_nil _ _) trivial fun A => N hX 2 A rfl rfl fun A => RETN hX A rfl rfl rfl h0 rfl rfl rfl rfl (by unfold parI parT parE parA; rw [if_neg (show ¬ (paE g ws L).e ≠ 0 from not_not_intro h1), if_neg (show ¬ wrongI (inI g ws L Ps.z0) = true from ne_true_of_eq_false h2), if_neg (show ¬ (paE g ws L).e ≠ 0 from not_not_intro h1), if_neg (show ¬ wrongI (inI g ws L Ps.z0) = true from ne_true_of_eq_false h2), if_neg (show ¬ (paE g ws L).e ≠ 0 from not_not_intro h1), if_neg (show ¬ wrongI (inI g ws L Ps.z0) = true from ne_true_of_eq_false h2), if_neg (show ¬ (paE g ws L).e ≠ 0 from not_not_intro h1), if_neg (show ¬ wrongI (inI g ws L Ps.z0) = true from ne_true_of_eq_false h2)] <;> rfl) rfl))
end Go.Proofs.YtedlaclfhgneeabGreatDoor
namespace Go.Proofs.YtedlaclfhgneeabGreatDoor
open Go.RowKit
set_option linter.unusedVariables false
set_option linter.unusedSimpArgs false
set_option maxRecDepth 100000
set_option maxHeartbeats 2000000
abbrev nz : List UInt8 × Int := ([], 0)
def nfc (x : List UInt8 × Int) : List SV := [.str x.1, .int .i64 x.2]
theorem tyN : (∀ x, (nfc x).length = 2) ∧ (∀ x, inL 0 (nfc x) = true) ∧ (∀ x, ∃ vs, denL [] (nfc x) = some vs) := ⟨fun _ => rfl, fun _ => rfl, fun _ => ⟨_, rfl⟩⟩
theorem tyR : (∀ x, (rwc x).length = 20) ∧ (∀ x, inL 0 (rwc x) = true) ∧ (∀ x, ∃ vs, denL [] (rwc x) = some vs) := ⟨fun _ => rfl, fun _ => rfl, fun _ => ⟨_, rfl⟩⟩
def tm (r : Rw) : List UInt8 × List UInt8 × In × List Int := (r.nm, r.wd, r.ins, r.ps)
def RowsIn (lo : Nat) (L : List Rw) : Amb := fun w ks => ∀ r ∈ L, LiesAt r.pa r.ps w ks ∧ ∀ q, r.pa = some q → lo ≤ q.block
theorem RowsIn.ok {lo : Nat} {L : List Rw} : Amb.OK (RowsIn lo L) := fun w ks w' ks' h m hk r hr => ⟨(h r hr).1.go m hk, (h r hr).2⟩
def insF (op fn : Int) : In := ⟨op, 0, 0, 0, 0, 0, 0, 0, 0, fn, false, false, false, 0, 0, 0, false⟩
theorem lies_of {lo b : Nat} {cs : List SV} {l : List (Nat × List SV)} {w : World} {ks : List Nat} (ps : List Int) (h : Acc lo l w ks) (hm : (b, ps.map (SV.int .i64 ·)) ∈ l) : LiesAt (some ⟨b, 0, none⟩) ps w ks ∧ ∀ q, (some (⟨b, 0, none⟩ : Addr)) = some q → lo ≤ q.block := by
  obtain ⟨h1, vs, h2, h3, h4, h5⟩ := h _ hm
  have : ∀ ps : List Int, denL [] (ps.map (SV.int .i64 ·)) = some (ps.map (Value.int .i64)) := by
    intro ps
    induction ps with
    | nil => rfl
    | cons p ps ih => rw [List.map_cons]; unfold denL; rw [ih]; rfl
  rw [this] at h2
  cases h2
  exact ⟨.inr ⟨b, rfl, h3, h4, h5⟩, fun q hq => by cases hq; exact h1⟩
theorem rows_keys {lo b1 : Nat} {L : List Rw} {w : World} {ks : List Nat} (h : RowsIn lo L w [b1]) (hk : ∀ b, ks.contains b = true → b < lo ∨ b = b1) : RowsIn lo L w ks := fun r hr => by
  obtain ⟨h1, h2⟩ := h r hr
  refine ⟨?_, h2⟩
  rcases h1 with h1 | ⟨b, e, q1, q2, q3⟩
  · exact .inl h1
  · refine .inr ⟨b, e, q1, ?_, q3⟩
    cases hc : ks.contains b with
    | false => rfl
    | true =>
      have h3 := h2 _ e
      simp only at h3
      rcases hk b hc with h4 | h4
      · omega
      · rw [h4] at q2; simp at q2
theorem acc_keys {lo : Nat} {l : List (Nat × List SV)} {w : World} {ks : List Nat} (h : Acc lo l w []) (hk : ∀ b, ks.contains b = true → b < lo) : Acc lo l w ks := fun p hp => by
  obtain ⟨h1, vs, h2, h3, h4, h5⟩ := h p hp
  refine ⟨h1, vs, h2, h3, ?_, h5⟩
  cases hc : ks.contains p.1 with
  | false => rfl
  | true => have := hk _ hc; omega
theorem RowsIn.mono {lo lo2 : Nat} {L : List Rw} {w : World} {ks : List Nat} (h : RowsIn lo L w ks) (hl : lo2 ≤ lo) : RowsIn lo2 L w ks := fun r hr => ⟨(h r hr).1, fun q hq => Nat.le_trans hl ((h r hr).2 q hq)⟩
theorem RowsIn.app {lo : Nat} {L R : List Rw} {w : World} {ks : List Nat} (h : RowsIn lo L w ks) (h2 : RowsIn lo R w ks) : RowsIn lo (L ++ R) w ks := fun r hr => by
  rcases List.mem_append.1 hr with h3 | h3
  · exact h r h3
  · exact h2 r h3
theorem RowsIn.one {lo b : Nat} {L : List Rw} {w w' : World} {ks : List Nat} (h : RowsIn lo L w ks) (h2 : RowsIn lo L w [b]) (m : Mix ks w w') : RowsIn lo L w' [b] := fun r hr => by
  refine ⟨?_, (h r hr).2⟩
  rcases (h r hr).1.go m (ks' := []) (fun b hb => by cases hb) with h1 | ⟨q, e, q1, _, q3⟩
  · exact .inl h1
  · rcases (h2 r hr).1 with h3 | ⟨q', e', _, q2', _⟩
    · rw [h3.1] at e; cases e
    · rw [e] at e'; cases e'; exact .inr ⟨q, e, q1, q2', q3⟩
theorem Given.mix {e s m b cp : Nat} {f : Nat → List SV} {w w' : World} {ks : List Nat} (h : Given e s m f b cp w) (mx : Mix ks w w') (hk : ks.contains b = false) : Given e s m f b cp w' := by
  obtain ⟨h1, xs, h2, h3⟩ := h
  exact ⟨h1, xs, h2, own_mix h3 mx (fun k hk2 => by cases hk2; exact hk)⟩
end Go.Proofs.YtedlaclfhgneeabGreatDoor
namespace Go.Proofs.YtedlaclfhgneeabGreatDoor
open Go.RowKit
set_option linter.unusedVariables false
set_option linter.unusedSimpArgs false
set_option linter.unusedSectionVars false
theorem denL_last {G : Gr} {x y : SV} (h : den G x = den G y) : ∀ {l : List SV}, denL G (l ++ [x]) = denL G (l ++ [y])
  | [] => by
    show denL G [x] = denL G [y]
    unfold denL
    rw [h]
  | z :: l => by
    show denL G (z :: (l ++ [x])) = denL G (z :: (l ++ [y]))
    unfold denL
    rw [denL_last h]
section
variable {P : Program} {n : Nat} {ks : List Nat} {G0 : Gr} {w0 : World} {T : List (Nat × SV)} {H : Hp} {G : Gr} {a : Act} {w w' : World} {Q : Exit → Act → World → Prop} {K : List Fr} {ops : Array Oper} {o : Oper} {rest : List Oper}
theorem Sy.takeRowG (A : Sy n T H ks G0 w0 G a w) (t : Nat) {e s m b cp : Nat} {f : Nat → List SV} {x y : SV} (hg : Given e s m f b cp w) (hn : ∀ (i : Nat) (e : Ent) (L : Loc), H[i]? = some (some e) → G[i]? = some (some L) → ¬ e.empty → L.b ≠ b) (ho : w0.heap.size ≤ b) (ht : look T t = some x) (hy : den (G ++ [some ⟨b, [], List.replicate cp undef, e⟩]) y = den (G ++ [some ⟨b, [], List.replicate cp undef, e⟩]) x) :
    Sy n ((t, y) :: T) (H ++ [some (.row e s m 0 f)]) ks G0 w0 (G ++ [some ⟨b, [], List.replicate cp undef, e⟩]) a w := by
  have hlen := A.mem.len
  obtain ⟨p1, xs, p2, p3⟩ := hg
  have hen : EntOK G w (some ⟨b, [], List.replicate cp undef, e⟩) (.row e s m 0 f) := ⟨p1, fun L hL => by cases hL; rfl, xs, p2, by simpa [rm] using p3⟩
  have hold : ∀ (i : Nat) (x : Ent), (H ++ [some (Ent.row e s m 0 f)])[i]? = some (some x) → (H[i]? = some (some x) ∧ i < H.length) ∨ (i = H.length ∧ x = .row e s m 0 f) := by
    intro i x h
    by_cases hi : i < H.length
    · rw [List.getElem?_append_left hi] at h; exact .inl ⟨h, hi⟩
    · rw [List.getElem?_append_right (by omega)] at h
      have : i - H.length = 0 := by
        cases hq : i - H.length with
        | zero => rfl
        | succ k => rw [hq] at h; simp at h
      rw [this] at h
      simp at h
      exact .inr ⟨by omega, h.symm⟩
  have hG : ∀ i, i < H.length → (G ++ [some (⟨b, [], List.replicate cp undef, e⟩ : Loc)])[i]? = G[i]? := fun i hi => List.getElem?_append_left (by omega)
  have hGn : (G ++ [some (⟨b, [], List.replicate cp undef, e⟩ : Loc)])[H.length]? = some (some ⟨b, [], List.replicate cp undef, e⟩) := by rw [List.getElem?_append_right (by omega), hlen]; simp
  refine ⟨A.size, A.defers, fun q x hx => ?_, ⟨by simp [hlen], ?_, ?_⟩, ?_, ?_, A.mix⟩
  · unfold look at hx
    cases hb : Nat.beq t q with
    | true =>
      rw [hb] at hx; cases hx
      have := Nat.eq_of_beq_eq_true hb
      subst this
      rw [hy]; exact den_mono _ _ (A.get t _ ht)
    | false => rw [hb] at hx; exact den_mono _ x (A.get q x hx)
  · intro i x h
    rcases hold i x h with ⟨h1, h2⟩ | ⟨rfl, rfl⟩
    · rw [hG i h2]; exact (A.mem.ent i x h1).more _
    · rw [hGn]; exact hen.more _
  · intro i j x y L M hij h1 h2 h3 h4 h5 h6
    rcases hold i x h1 with ⟨k1, k2⟩ | ⟨rfl, rfl⟩
    · rw [hG i k2] at h4
      rcases hold j y h2 with ⟨k3, k4⟩ | ⟨rfl, rfl⟩
      · rw [hG j k4] at h5; exact A.mem.sep i j x y L M hij k1 k3 h3 h4 h5 h6
      · rw [hGn] at h5; cases h5; exact hn i x L k1 h4 (mut_full h3)
    · rw [hGn] at h4; cases h4
      rcases hold j y h2 with ⟨k3, k4⟩ | ⟨rfl, rfl⟩
      · rw [hG j k4] at h5; exact fun z => hn j y M k3 h5 h6 z.symm
      · exact absurd rfl hij
  · obtain ⟨F, hF⟩ := A.pre; exact ⟨F ++ [some ⟨b, [], List.replicate cp undef, e⟩], by rw [hF, List.append_assoc]⟩
  · intro i x L h1 h2 h3
    rcases hold i x h1 with ⟨k1, k2⟩ | ⟨rfl, rfl⟩
    · rw [hG i k2] at h3; exact A.own i x L k1 h2 h3
    · rw [hGn] at h3; cases h3; exact .inr ho
theorem CALLAGG {β : Type} {e s m t f : Nat} {l : List SV} {F : β → Nat → List SV} {R : β → Nat → World → World → Prop} (hf : FnR P f [] [] (fun x w w' => ∃ (L : β) (b cp : Nat), x = .agg (l ++ [.sla (some ⟨b, 0, none⟩) m cp]) ∧ R L b w w' ∧ w.heap.size ≤ b ∧ Given e s m (F L) b cp w')) (A : Sy n T H ks G0 w0 G a w) (hd : o.dst = some t) (h1 : callS n ops T o = some (f, []))
    (k : ∀ L b cp a' w' G', R L b w w' → w.heap.size ≤ b → (∀ k, (keys (H ++ [some (.row e s m 0 (F L))]) G').contains k = true → k < w.heap.size ∨ k = b) → Sy n ((t, .agg (l ++ [.sl H.length m 0])) :: extS T o.dst (.agg (l ++ [.sla (some ⟨b, 0, none⟩) m cp]))) (H ++ [some (.row e s m 0 (F L))]) ks G0 w0 G' a' w' → Goal P Q K (.ops ops rest) a' w') : Goal P Q K (.ops ops (o :: rest)) a w := by
  refine CALLR [] hf A h1 rfl rfl rfl rfl fun x a' w' hJ hk A' => ?_
  obtain ⟨L, b, cp, rfl, hR, hlo, hg⟩ := hJ
  have hl : look (extS T o.dst (.agg (l ++ [.sla (some ⟨b, 0, none⟩) m cp]))) t = some (.agg (l ++ [.sla (some ⟨b, 0, none⟩) m cp])) := by rw [hd]; simp [extS, look, Nat.beq_refl]
  have hlen := A'.mem.len
  have A2 := A'.takeRowG t (y := .agg (l ++ [.sl H.length m 0])) hg (fun i e L q1 q2 q3 => by
    have := A.mem.ent i e q1
    rw [q2] at this
    have := EntOK.lt this q3
    omega) (Nat.le_trans A.mix.size hlo) hl (by
      unfold den
      rw [denL_last (y := .sla (some ⟨b, 0, none⟩) m cp)]
      unfold den
      rw [List.getElem?_append_right (by omega), hlen]
      simp [rm])
  refine k L b cp a' w' _ hR hlo (fun q hq => ?_) A2
  obtain ⟨i, e', L', q1, q2, q3, q4⟩ := mem_keys.1 hq
  by_cases hi : i < H.length
  · rw [List.getElem?_append_left hi] at q1
    rw [List.getElem?_append_left (by omega)] at q3
    exact .inl (hk q (mem_keys.2 ⟨i, e', L', q1, q2, q3, q4⟩))
  · have hi2 : i = H.length := by
      have := (List.getElem?_eq_some_iff.1 q1).1
      simp at this; omega
    subst hi2
    rw [List.getElem?_append_right (by omega), hlen] at q3
    simp at q3
    subst q3
    exact .inr q4.symm
end
end Go.Proofs.YtedlaclfhgneeabGreatDoor
namespace Go.Proofs.YtedlaclfhgneeabGreatDoor
open Go.RowKit
set_option linter.unusedVariables false
set_option linter.unusedSimpArgs false
set_option maxRecDepth 100000
set_option maxHeartbeats 2000000
section
variable {g : Lg} {q : List UInt8} {L : List Rw} {ws : List Tk} {s : Ps}
theorem nfl_sz : ∀ (l : List Rw) (z : Int × List Rw) (r : Rw), r ∈ (l.foldl (nSt g q) z).2 → r ∈ z.2 ∨ (r ∈ l ∧ (szP g r.nm q).2 = true)
  | [], z, r, h => .inl h
  | x :: l, z, r, h => by
    rw [List.foldl_cons] at h
    rcases nfl_sz l _ r h with h1 | ⟨h1, h2⟩
    · unfold nSt at h1
      split at h1
      · next hx =>
        rcases List.mem_append.1 h1 with h2 | h2
        · exact .inl h2
        · rw [List.mem_singleton] at h2; subst h2; exact .inr ⟨List.mem_cons_self, hx⟩
      · exact .inl h1
    · exact .inr ⟨List.mem_cons_of_mem _ h1, h2⟩
theorem naR_sz {r : Rw} (h : r ∈ naR g ws L s) : r ∈ L ∧ (szP g r.nm (ws.getD s.p tok0).text).2 = true := by
  unfold naR at h
  split at h
  · unfold naZ zK at h
    rcases nfl_sz _ _ _ h with h1 | ⟨h1, h2⟩
    · cases h1
    · exact ⟨List.mem_of_mem_take h1, h2⟩
  · cases h
theorem tm_mem {r : Rw} {T : List (List UInt8 × List UInt8 × In × List Int)} (h : L.map tm = T) (hr : r ∈ L) : tm r ∈ T := by rw [← h]; exact List.mem_map_of_mem hr
end
def tabB (g : Lg) (T : List (List UInt8 × List UInt8 × In × List Int)) : Bool := T.all fun x => decide (x.1.length ≤ 1000) && decide ((Lib.cut x.1 [42]).1.length ≤ 1000) && decide ((Lib.cut x.1 [42]).2.1.length ≤ 1000) && decide (x.2.2.2.length ≤ 1000)
def rnm (g : Lg) (nm : List UInt8) : List (List UInt8) := if (Lib.cut nm [42]).2.2 = true then nms g nm else [nm]
theorem rnm_of {g : Lg} {nm q : List UInt8} (h : (szP g nm q).2 = true) : q ∈ rnm g nm := by
  unfold szP at h
  unfold rnm
  split at h
  · next hc =>
    rw [if_pos hc]
    split at h
    · cases h
    · next hi =>
      unfold idxS at hi
      split at hi
      · next j hj =>
        have h1 := List.find?_some hj
        have h2 := List.mem_range.1 (List.mem_of_find?_eq_some hj)
        have e : q = (nms g nm).getD j [] := by simpa using h1
        rw [e, List.getD_eq_getElem?_getD, List.getElem?_eq_getElem h2]
        exact List.getElem_mem h2
      · exact absurd (show (-1 : Int) < 0 by decide) hi
  · next hc =>
    rw [if_neg hc]
    simp at h; simp [h]
def sameB (g : Lg) (T : List (List UInt8 × List UInt8 × In × List Int)) : Bool := T.all fun x => T.all fun y => (x.2.2.2.length == y.2.2.2.length) || (rnm g x.1).all fun q => !((rnm g y.1).contains q)
theorem pa_ok {g : Lg} {T : List (List UInt8 × List UInt8 × In × List Int)} {L : List Rw} {ws : List Tk} (hm : L.map tm = T) (h1 : tabB g T = true) (h2 : sameB g T = true) (hn : T.length ≤ 1000) (hl : ∀ k, ([g.l0, g.l1, g.l2, g.l3].getD k []).length ≤ 1000) : PaOK g ws L := by
  have hlen : L.length ≤ 1000 := by have := congrArg List.length hm; rw [List.length_map] at this; omega
  have htab : ∀ r ∈ L, r.nm.length ≤ 1000 ∧ (Lib.cut r.nm [42]).1.length ≤ 1000 ∧ (Lib.cut r.nm [42]).2.1.length ≤ 1000 ∧ r.ps.length ≤ 1000 := fun r hr => by
    have := (List.all_eq_true.1 h1) _ (tm_mem hm hr)
    simp only [Bool.and_eq_true, decide_eq_true_eq] at this
    exact ⟨this.1.1.1, this.1.1.2, this.1.2, this.2⟩
  refine ⟨fun r hr => ⟨(htab r hr).1, (htab r hr).2.1, (htab r hr).2.2.1, hl⟩, by omega, fun r hr q hq => ?_, ?_⟩
  · obtain ⟨a1, a2⟩ := naR_sz hr
    obtain ⟨b1, b2⟩ := naR_sz hq
    have := (List.all_eq_true.1 ((List.all_eq_true.1 h2) _ (tm_mem hm a1))) _ (tm_mem hm b1)
    rw [Bool.or_eq_true] at this
    rcases this with h | h
    · simpa [tm] using h
    · have := (List.all_eq_true.1 h) _ (rnm_of a2)
      have hc : (rnm g (tm q).1).contains (ws.getD Ps.z0.p tok0).text = true := by rw [List.contains_iff_mem]; exact rnm_of b2
      rw [hc] at this; cases this
  · unfold inN
    by_cases h : 0 < (naR g ws L Ps.z0).length
    · exact (htab _ (naR_sz (r0_mem h)).1).2.2.2
    · rw [List.getD_eq_getElem?_getD, List.getElem?_eq_none (by omega)]; exact Nat.zero_le _
end Go.Proofs.YtedlaclfhgneeabGreatDoor
namespace Go.Proofs.YtedlaclfhgneeabGreatDoor
open Go.RowKit
set_option linter.unusedVariables false
set_option linter.unusedSimpArgs false
set_option linter.unusedSectionVars false
def cn (r : Rw) : Rw := ⟨r.nm, r.wd, r.ins, none, r.ps, 0⟩
def rwOf (x : List UInt8 × List UInt8 × In × List Int) : Rw := ⟨x.1, x.2.1, x.2.2.1, none, x.2.2.2, 0⟩
theorem cn_tm {L : List Rw} {T : List (List UInt8 × List UInt8 × In × List Int)} (h : L.map tm = T) : L.map cn = T.map rwOf := by rw [← h, List.map_map]; rfl
section
variable {g : Lg} {q : List UInt8} {L R : List Rw} {ws : List Tk} {s z : Ps} {k : Nat} {t : Tk} {x : Int}
theorem cn_at (j : Nat) : (R.map cn).getD j Rw.z = cn (R.getD j Rw.z) := by
  rw [List.getD_eq_getElem?_getD, List.getD_eq_getElem?_getD, List.getElem?_map]
  cases R[j]? <;> rfl
theorem cn_st (z : Int × List Rw) (r : Rw) : nSt g q (z.1, z.2.map cn) (cn r) = ((nSt g q z r).1, (nSt g q z r).2.map cn) := by
  show (if (szP g r.nm q).2 = true then _ else _) = _
  unfold nSt
  split
  · show (_, z.2.map cn ++ [cn r]) = (_, (z.2 ++ [r]).map cn)
    rw [List.map_append]; rfl
  · rfl
theorem cn_fl : ∀ (l : List Rw) (z : Int × List Rw), (l.map cn).foldl (nSt g q) (z.1, z.2.map cn) = ((l.foldl (nSt g q) z).1, (l.foldl (nSt g q) z).2.map cn)
  | [], z => rfl
  | r :: l, z => by
    rw [List.map_cons, List.foldl_cons, List.foldl_cons, cn_st, cn_fl l]
theorem cn_zK : zK g q (L.map cn) x k = ((zK g q L x k).1, (zK g q L x k).2.map cn) := by
  unfold zK
  rw [← List.map_take]
  exact cn_fl (L.take k) (x, [])
theorem cn_naZ : naZ g ws (L.map cn) s = ((naZ g ws L s).1, (naZ g ws L s).2.map cn) := by
  unfold naZ; rw [List.length_map]; exact cn_zK
theorem cn_naR : naR g ws (L.map cn) s = (naR g ws L s).map cn := by
  unfold naR; rw [cn_naZ]; split <;> rfl
theorem cn_naS : naS g ws (L.map cn) s = naS g ws L s := by
  unfold naS; rw [cn_naZ]; simp only [List.length_map]
theorem cn_lft : lft g k t (R.map cn) = (lft g k t R).map cn := by
  unfold lft; rw [List.filter_map]; rfl
theorem cn_fst : fstX (ask10 k) (R.map cn) = fstX (ask10 k) R := by
  unfold fstX
  rw [List.length_map]
  have : (fun j => ask10 k ((R.map cn).getD j Rw.z)) = fun j => ask10 k (R.getD j Rw.z) := by
    funext j; rw [cn_at]; rfl
  rw [this]
theorem cn_beS : beS g ws k (R.map cn) s = beS g ws k R s := by
  unfold beS mfV; rw [cn_lft, List.length_map, cn_fst]
theorem cn_nxR : nxR g ws k (R.map cn) z = (nxR g ws k R z).map cn := cn_lft
theorem cn_nxS : nxS g ws k (R.map cn) z = nxS g ws k R z := by
  unfold nxS; rw [cn_nxR, List.length_map, cn_beS, cn_at]; rfl
theorem cn_goB : goB (R.map cn) k = goB R k := by
  unfold goB; rw [List.length_map, cn_at]; rfl
theorem cn_inst : ∀ (f k : Nat) (R : List Rw) (z : Ps), inst g ws f k (R.map cn) z = ((inst g ws f k R z).1, (inst g ws f k R z).2.map cn)
  | 0, k, R, z => rfl
  | f + 1, k, R, z => by
    unfold inst
    rw [cn_goB]
    split
    · rw [cn_nxR, cn_nxS]; exact cn_inst f _ _ _
    · rfl
theorem cn_inN : inN g ws (L.map cn) s = inN g ws L s := by
  unfold inN; rw [cn_naR, cn_at]; rfl
theorem cn_inF : inF g ws (L.map cn) s = ((inF g ws L s).1, (inF g ws L s).2.map cn) := by
  unfold inF; rw [cn_inN, cn_naR, cn_naS]; exact cn_inst _ _ _ _
theorem cn_inI : inI g ws (L.map cn) s = inI g ws L s := by
  unfold inI; rw [cn_inF]; simp only [List.length_map, cn_at]; rfl
theorem cn_paE : paE g ws (L.map cn) = paE g ws L := by unfold paE; rw [cn_inF]
theorem cn_par : parI g ws (L.map cn) = parI g ws L ∧ parT g ws (L.map cn) = parT g ws L ∧ parE g ws (L.map cn) = parE g ws L ∧ parA g ws (L.map cn) = parA g ws L := by
  unfold parI parT parE parA
  rw [cn_paE, cn_inI, cn_inF]
  exact ⟨rfl, rfl, rfl, rfl⟩
end
end Go.Proofs.YtedlaclfhgneeabGreatDoor
namespace Go.Proofs.YtedlaclfhgneeabGreatDoor
open Go.RowKit
set_option linter.unusedVariables false
set_option linter.unusedSimpArgs false
def toO (i : In) : Old.Ins := ⟨i.op, i.dst, i.ra, i.rb, i.imm, i.loc, i.off, i.ix, i.sz, i.fn, i.acq, i.weak, i.rel, i.pred, i.succ, i.to_, i.zero⟩
theorem fits_o (a s : Int) : (((((((s == 1) || (s == 2)) || (s == 4)) || (s == 8)) && (decide (a ≥ 0))) && (decide (a ≤ (IntKind.wrap .i64 (8 - s))))) && ((Int.tmod a s) == 0)) = Old.fitsB a s := by
  unfold Old.fitsB
  have w1 : IntKind.wrap .i64 (8 - 1) = 7 := by decide
  have w2 : IntKind.wrap .i64 (8 - 2) = 6 := by decide
  have w4 : IntKind.wrap .i64 (8 - 4) = 4 := by decide
  have w8 : IntKind.wrap .i64 (8 - 8) = 0 := by decide
  by_cases ha : a ≥ 0
  · by_cases h1 : s = 1
    · subst h1; rw [w1, Int.tmod_eq_emod_of_nonneg ha]; rw [Bool.eq_iff_iff]; simp [ha]
    · by_cases h2 : s = 2
      · subst h2; rw [w2, Int.tmod_eq_emod_of_nonneg ha]; rw [Bool.eq_iff_iff]; simp [ha]
      · by_cases h4 : s = 4
        · subst h4; rw [w4, Int.tmod_eq_emod_of_nonneg ha]; rw [Bool.eq_iff_iff]; simp [ha]
        · by_cases h8 : s = 8
          · subst h8; rw [w8, Int.tmod_eq_emod_of_nonneg ha]; rw [Bool.eq_iff_iff]; simp [ha]
          · simp [h1, h2, h4, h8]
  · have : ¬ 0 ≤ a := ha
    simp [this]
theorem mask_o (a s : Int) : (bMask0 a s == 0) = (Old.maskR a s == 0) := by
  unfold bMask0 Old.maskR
  rw [fits_o]
  cases h : Old.fitsB a s
  · simp
  · have hf := h
    unfold Old.fitsB at hf
    have hf := of_decide_eq_true hf
    obtain ⟨hs, h0, h1, h2⟩ := hf
    simp only [Bool.not_true, Bool.false_eq_true, if_false, if_true]
    rcases hs with e | e | e | e <;> subst e
    · have : a = 0 ∨ a = 1 ∨ a = 2 ∨ a = 3 ∨ a = 4 ∨ a = 5 ∨ a = 6 ∨ a = 7 := by omega
      rcases this with e | e | e | e | e | e | e | e <;> subst e <;> decide +kernel
    · have : a = 0 ∨ a = 2 ∨ a = 4 ∨ a = 6 := by omega
      rcases this with e | e | e | e <;> subst e <;> decide +kernel
    · have : a = 0 ∨ a = 4 := by omega
      rcases this with e | e <;> subst e <;> decide +kernel
    · have : a = 0 := by omega
      subst this; decide +kernel
theorem ron_o (r : Int) : isRegOrNone0 r = Old.ronB r := by
  unfold isRegOrNone0 Old.ronB Old.regB
  by_cases h : r = -1
  · simp [h]
  · simp [h]
theorem acc_o (i : In) : isAccess0 i.op i.dst i.ra i.rb i.imm i.loc i.off i.ix i.sz i.fn i.acq i.weak i.rel i.pred i.succ i.to_ i.zero = Old.accB (toO i) := by
  unfold isAccess0 Old.accB toO
  rw [ron_o, mask_o]
  by_cases h1 : i.loc ≥ 0
  · by_cases h2 : i.loc < 3
    · cases h3 : Old.ronB i.ix <;> simp [h1, h2, h3]
    · simp [h1, h2]
  · simp [h1]
theorem sound_o (i : In) : sound0 i.op i.dst i.ra i.rb i.imm i.loc i.off i.ix i.sz i.fn i.acq i.weak i.rel i.pred i.succ i.to_ i.zero = Old.soundB (toO i) := by
  have ha := acc_o i
  unfold sound0 Old.soundB
  rw [ha, ron_o, ron_o]
  generalize Old.accB (toO i) = ab
  unfold toO Old.regB Old.fenB
  by_cases h1 : i.op = 1
  · simp [h1]
  by_cases h2 : i.op = 2
  · simp [h2]
  by_cases h3 : i.op = 3
  · simp [h3, Bool.and_assoc]
  by_cases h4 : i.op = 4
  · simp [h4, Bool.and_assoc]
  by_cases h5 : i.op = 5
  · simp [h5]
  by_cases h6 : i.op = 6
  · simp [h6, Bool.and_assoc]
  by_cases h7 : i.op = 7
  · simp [h7, Bool.beq_eq_decide_eq]
  by_cases h8 : i.op = 8
  · simp [h8]
  by_cases h9 : i.op = 9
  · simp [h9]
  simp [h1, h2, h3, h4, h5, h6, h7, h8, h9]
theorem eq_o (a b : In) : eqIn a b = Old.insEq (toO a) (toO b) := by
  unfold eqIn Old.insEq toO
  rw [Bool.eq_iff_iff]
  simp only [Bool.and_eq_true, beq_iff_eq, decide_eq_true_eq, Old.Ins.mk.injEq]
def plI (i : In) : In := ⟨i.op, plain0 i.op i.dst i.ra i.rb i.imm i.loc i.off i.ix i.sz i.fn i.acq i.weak i.rel i.pred i.succ i.to_ i.zero, plain1 i.op i.dst i.ra i.rb i.imm i.loc i.off i.ix i.sz i.fn i.acq i.weak i.rel i.pred i.succ i.to_ i.zero, plain2 i.op i.dst i.ra i.rb i.imm i.loc i.off i.ix i.sz i.fn i.acq i.weak i.rel i.pred i.succ i.to_ i.zero, plain3 i.op i.dst i.ra i.rb i.imm i.loc i.off i.ix i.sz i.fn i.acq i.weak i.rel i.pred i.succ i.to_ i.zero, plain4 i.op i.dst i.ra i.rb i.imm i.loc i.off i.ix i.sz i.fn i.acq i.weak i.rel i.pred i.succ i.to_ i.zero, plain5 i.op i.dst i.ra i.rb i.imm i.loc i.off i.ix i.sz i.fn i.acq i.weak i.rel i.pred i.succ i.to_ i.zero, plain6 i.op i.dst i.ra i.rb i.imm i.loc i.off i.ix i.sz i.fn i.acq i.weak i.rel i.pred i.succ i.to_ i.zero, plain7 i.op i.dst i.ra i.rb i.imm i.loc i.off i.ix i.sz i.fn i.acq i.weak i.rel i.pred i.succ i.to_ i.zero, plain8 i.op i.dst i.ra i.rb i.imm i.loc i.off i.ix i.sz i.fn i.acq i.weak i.rel i.pred i.succ i.to_ i.zero, plain9 i.op i.dst i.ra i.rb i.imm i.loc i.off i.ix i.sz i.fn i.acq i.weak i.rel i.pred i.succ i.to_ i.zero, plain10 i.op i.dst i.ra i.rb i.imm i.loc i.off i.ix i.sz i.fn i.acq i.weak i.rel i.pred i.succ i.to_ i.zero, plain11 i.op i.dst i.ra i.rb i.imm i.loc i.off i.ix i.sz i.fn i.acq i.weak i.rel i.pred i.succ i.to_ i.zero, plain12 i.op i.dst i.ra i.rb i.imm i.loc i.off i.ix i.sz i.fn i.acq i.weak i.rel i.pred i.succ i.to_ i.zero, plain13 i.op i.dst i.ra i.rb i.imm i.loc i.off i.ix i.sz i.fn i.acq i.weak i.rel i.pred i.succ i.to_ i.zero, plain14 i.op i.dst i.ra i.rb i.imm i.loc i.off i.ix i.sz i.fn i.acq i.weak i.rel i.pred i.succ i.to_ i.zero, plain15 i.op i.dst i.ra i.rb i.imm i.loc i.off i.ix i.sz i.fn i.acq i.weak i.rel i.pred i.succ i.to_ i.zero⟩
theorem imm_o (i : In) (r : Int) : immFor0 i.op i.dst i.ra i.rb i.imm i.loc i.off i.ix i.sz i.fn i.acq i.weak i.rel i.pred i.succ i.to_ i.zero r = Old.immF (toO i) r := by
  unfold immFor0 Old.immF toO
  by_cases h : r = -1 <;> simp [h]
theorem isop_o (i : In) : isOp0 i.op i.dst i.ra i.rb i.imm i.loc i.off i.ix i.sz i.fn i.acq i.weak i.rel i.pred i.succ i.to_ i.zero = Old.opB (toO i) := by
  unfold isOp0 Old.opB Old.rdB Old.wrB toO
  cases ((i.op == 4) || (i.op == 6)) <;> simp
theorem plain_o (i : In) : toO (plI i) = Old.plainF (toO i) := by
  have h1 := imm_o i i.rb
  have h2 := imm_o i i.ra
  have h3 := isop_o i
  unfold toO plI Old.plainF
  unfold plain0 plain1 plain2 plain3 plain4 plain5 plain6 plain7 plain8 plain9 plain10 plain11 plain12 plain13 plain14 plain15
  rw [h1, h2, h3]
  unfold Old.opB Old.rdB Old.wrB
  generalize e1 : Old.immF (toO i) i.rb = m1
  generalize e2 : Old.immF (toO i) i.ra = m2
  unfold toO at e1 e2 ⊢
  simp only [Old.Ins.mk.injEq]
  rw [e1, e2]
  by_cases h1 : i.op = 1
  · simp [h1]
  by_cases h2 : i.op = 2
  · simp [h2]
  by_cases h3 : i.op = 3
  · simp [h3]
  by_cases h4 : i.op = 4
  · simp [h4]
  by_cases h5 : i.op = 5
  · simp [h5]
  by_cases h6 : i.op = 6
  · simp [h6]
  by_cases h7 : i.op = 7
  · simp [h7]
  by_cases h8 : i.op = 8
  · simp [h8]
  by_cases h9 : i.op = 9
  · simp [h9]
  simp [h1, h2, h3, h4, h5, h6, h7, h8, h9]
theorem right_o (i : In) (at_ n : Int) : Right0 i.op i.dst i.ra i.rb i.imm i.loc i.off i.ix i.sz i.fn i.acq i.weak i.rel i.pred i.succ i.to_ i.zero at_ n = Old.rightR (toO i) at_ n := by
  have e1 := sound_o i
  have e2 := eq_o i (plI i)
  rw [plain_o] at e2
  unfold Right0 Old.rightR
  unfold eqIn plI at e2
  rw [e1, e2]
  clear e1 e2
  cases Old.insEq (toO i) (Old.plainF (toO i)) <;> cases Old.soundB (toO i) <;> simp only [Bool.not_true, Bool.not_false, Bool.or_self, Bool.or_true, Bool.true_or, Bool.and_self, Bool.and_true, Bool.and_false, if_true, Bool.false_eq_true, if_false] <;> rfl
theorem wrong_o (i : In) : wrongI i = Old.wrongB (toO i) := by
  unfold wrongI Old.wrongB; rw [right_o]
def toR (r : Rw) : Old.Rw := ⟨r.nm, toO r.ins, Old.nilV, r.ps⟩
theorem step_o (i j : In) (p : Int) : toO (wStep i j p) = Old.wStep (toO i) (toO j) p := by
  unfold wStep Old.wStep
  by_cases h1 : p = 1
  · simp [h1, toO]
  by_cases h2 : p = 2
  · simp [h2, toO]
  by_cases h3 : p = 3
  · simp [h3, toO]
  by_cases h4 : p = 4
  · simp [h4, toO]
  by_cases h5 : p = 5
  · simp [h5, toO]
  by_cases h6 : p = 6
  · simp [h6, toO]
  by_cases h7 : p = 7
  · simp [h7, toO]
  by_cases h8 : p = 8
  · simp [h8, toO]
  by_cases h9 : p = 9
  · simp [h9, toO]
  simp [h1, h2, h3, h4, h5, h6, h7, h8, h9]
theorem fold_o (i : In) : ∀ (ps : List Int) (j : In), toO (ps.foldl (wStep i) j) = ps.foldl (Old.wStep (toO i)) (toO j)
  | [], j => rfl
  | p :: ps, j => by rw [List.foldl_cons, List.foldl_cons, fold_o i ps, step_o]
theorem lay_o (r : Rw) (i : In) : toO (r.lay i) = Old.withR (toR r) (toO i) := fold_o i r.ps (bare r.ins)
end Go.Proofs.YtedlaclfhgneeabGreatDoor
namespace Go.Proofs.YtedlaclfhgneeabGreatDoor
open Go.RowKit
set_option linter.unusedVariables false
set_option linter.unusedSimpArgs false
set_option maxRecDepth 100000
set_option maxHeartbeats 2000000
set_option simprocs false

def orK (m k : Int) : Int := IntKind.wrap .i64 ((((BitVec.ofInt (IntKind.bits .i64) m) ||| (BitVec.ofInt (IntKind.bits .i64) (IntKind.wrap .i64 (1 * 2 ^ min (k).toNat (IntKind.bits .i64))))).toNat : Nat) : Int)
def mkB (o : Int) : Nat → Int
  | 0 => 0
  | j + 1 => orK (mkB o j) (o + j)
def mkF (o n : Int) : Int := if Old.fitsB o n = true then mkB o n.toNat else 0
theorem mkF_o (a s : Int) : (mkF a s == 0) = (Old.maskR a s == 0) := by
  unfold mkF Old.maskR
  cases h : Old.fitsB a s
  · simp
  · have hf := h
    unfold Old.fitsB at hf
    have hf := of_decide_eq_true hf
    obtain ⟨hs, h0, h1, h2⟩ := hf
    simp only [if_true]
    rcases hs with e | e | e | e <;> subst e
    · have : a = 0 ∨ a = 1 ∨ a = 2 ∨ a = 3 ∨ a = 4 ∨ a = 5 ∨ a = 6 ∨ a = 7 := by omega
      rcases this with e | e | e | e | e | e | e | e <;> subst e <;> decide +kernel
    · have : a = 0 ∨ a = 2 ∨ a = 4 ∨ a = 6 := by omega
      rcases this with e | e | e | e <;> subst e <;> decide +kernel
    · have : a = 0 ∨ a = 4 := by omega
      rcases this with e | e <;> subst e <;> decide +kernel
    · have : a = 0 := by omega
      subst this; decide +kernel
structure MKI (o n k m : Int) : Prop where
  lo : o ≤ k
  hi : k ≤ o + n
  eq : m = mkB o (k - o).toNat
theorem MKI.i0 {o n : Int} (h : 0 ≤ n) : MKI o n o 0 := ⟨by omega, by omega, by rw [show (o - o).toNat = 0 by omega]; rfl⟩
theorem MKI.nx {o n k m : Int} (hI : MKI o n k m) (h : k < o + n) : MKI o n (k + 1) (orK m k) := by
  refine ⟨by have := hI.lo; omega, by omega, ?_⟩
  have hl := hI.lo
  rw [show (k + 1 - o).toNat = (k - o).toNat + 1 by omega]
  unfold mkB
  rw [← hI.eq, show o + ((k - o).toNat : Int) = k by omega]
theorem MKI.fi {o n k m : Int} (hI : MKI o n k m) (h : ¬ k < o + n) (hf : Old.fitsB o n = true) : m = mkF o n := by
  have h1 := hI.hi
  unfold mkF; rw [if_pos hf, hI.eq, show k - o = n by omega]
theorem fits_r (a s : Int) : ((((!((((s == 1) || (s == 2)) || (s == 4)) || (s == 8))) || (decide (a < 0))) || (decide (a > (8 - s)))) || (!((Int.tmod a s) == 0))) = !Old.fitsB a s := by
  by_cases hs : s = 1 ∨ s = 2 ∨ s = 4 ∨ s = 8
  · have w : IntKind.wrap .i64 (8 - s) = 8 - s := by rcases hs with e | e | e | e <;> subst e <;> decide
    rw [← fits_o, w]
    simp only [Bool.not_and]
    rw [show (!decide (a ≥ 0)) = decide (a < 0) by rw [← decide_not]; congr 1; exact propext (by omega), show (!decide (a ≤ 8 - s)) = decide (a > 8 - s) by rw [← decide_not]; congr 1; exact propext (by omega)]
  · have h1 : s ≠ 1 := by omega
    have h2 : s ≠ 2 := by omega
    have h4 : s ≠ 4 := by omega
    have h8 : s ≠ 8 := by omega
    simp [Old.fitsB, h1, h2, h4, h8]
theorem fits_w (a s : Int) (h : Old.fitsB a s = true) : 0 ≤ a ∧ 1 ≤ s ∧ a + s ≤ 8 := by
  unfold Old.fitsB at h; have h := of_decide_eq_true h; omega
theorem rsize_x (n : Int)  : Fn Tryz.prog 236 [.int .i64 n] [] (Rt (.bool ((((n == 1) || (n == 2)) || (n == 4)) || (n == 8))) []) :=
 enterM (n := 17) (by kernel_rfl) Tryz.func236 rfl rfl rfl fun G w a h0 A => N hX 25 A rfl rfl fun A => RETN hX A rfl rfl rfl h0 rfl rfl rfl rfl rfl rfl
theorem fit_y {a s : Int} (h : ((((!((((s == 1) || (s == 2)) || (s == 4)) || (s == 8))) || (decide (a < 0))) || (decide (a > (8 - s)))) || (!((Int.tmod a s) == 0))) = false) : Old.fitsB a s = true := by rw [fits_r] at h; simpa using h
theorem fit_n {a s : Int} (h : ((((!((((s == 1) || (s == 2)) || (s == 4)) || (s == 8))) || (decide (a < 0))) || (decide (a > (8 - s)))) || (!((Int.tmod a s) == 0))) = true) : mkF a s = 0 := by rw [fits_r] at h; unfold mkF; rw [if_neg (by simpa using h)]
theorem rmask_x (o : Int) (n : Int)  : Fn Tryz.prog 200 [.int .i64 o, .int .i64 n] [] (Rt (.int .i64 (mkF o n)) []) :=
 enterM (n := 39) (by kernel_rfl) Tryz.func200 rfl rfl rfl fun G w a h0 A => N hX 9 A rfl rfl fun A => CALL1 [] (rsize_x n) A rfl rfl rfl rfl rfl rfl rfl fun A => N hX 19 A rfl (ok_r <| ok_r <| ok_r <| ok_g (fun hg => (by (try simp at hg); first | omega | (simp; omega))) <| ok_r <| ok_r <| ok_r <| ok_r <| ok_r <| ok_g (fun hg => (by (try simp at hg); first | omega | (simp; omega))) <| ok_r <| ok_r <| okE_nil) fun A => fork 25 A rfl
  (fun h1 A => N hX 7 A rfl rfl fun A => RETN hX A rfl rfl rfl h0 rfl rfl rfl rfl (by rw [fit_n h1]; rfl) rfl)
  (fun h1 A => N hX 16 A rfl rfl fun A => LOOP2 (fun (k : Int) (m : Int) => [(0, .int .i64 o), (1, .int .i64 n), (4, .int .i64 0), (5, .int .i64 m), (6, .int .i64 k)]) (fun (k : Int) (m : Int) => []) (fun (k : Int) (m : Int) => MKI o n k m) (fun (k : Int) (m : Int) => (o + n - k).toNat) o 0 (MKI.i0 (by have q := fits_w o n (fit_y h1); omega)) ((A.cut [0, 1, 4, 5, 6] rfl).trunc 0 rfl rfl rfl (by simp only [List.length_cons, List.length_nil] at h0; omega)) fun k m hI {G a w} A => N hX 10 A rfl (ok_d (by have q := fits_w o n (fit_y h1); have q1 := hI.lo; have q2 := hI.hi; omega) <| okE_nil) fun A => forkD 31 A rfl
    (fun h2 A => N hX 14 A rfl (ok_d (by have q := fits_w o n (fit_y h1); have q1 := hI.lo; have q2 := hI.hi; omega) <| okE_nil) fun A => N hX 5 A rfl (ok_d (by have q := fits_w o n (fit_y h1); have q1 := hI.lo; have q2 := hI.hi; omega) <| okE_nil) fun A => ⟨k + 1, IntKind.wrap .i64 ((((BitVec.ofInt (IntKind.bits .i64) m) ||| (BitVec.ofInt (IntKind.bits .i64) (IntKind.wrap .i64 (1 * 2 ^ min (k).toNat (IntKind.bits .i64))))).toNat : Nat) : Int), _, (by omega), (hI.nx h2), ((A.cut [0, 1, 4, 5, 6] rfl).trunc 0 rfl rfl rfl (by simp only [List.length_cons, List.length_nil] at h0; omega))⟩)
    (fun h2 A => N hX 10 A rfl rfl fun A => RETN hX A rfl rfl rfl h0 rfl rfl rfl rfl (by rw [hI.fi h2 (fit_y h1)]; rfl) rfl))
theorem rreg_x (r : Int)  : Fn Tryz.prog 144 [.int .i64 r] [] (Rt (.bool ((decide (r ≥ 0)) && (decide (r < 8)))) []) :=
 enterM (n := 9) (by kernel_rfl) Tryz.func144 rfl rfl rfl fun G w a h0 A => N hX 17 A rfl rfl fun A => RETN hX A rfl rfl rfl h0 rfl rfl rfl rfl rfl rfl
def rplace0 (i : In) : Bool := if i.loc ≥ 0 then if i.loc < 3 then if (mkF i.off i.sz) ≠ 0 then if i.ix = (-1) then true else (decide (i.ix ≥ 0)) && (decide (i.ix < 8)) else false else false else false
theorem rplace_ (i : In)  : Fn Tryz.prog 145 [.agg (inQ9 i)] [] (Rt (.bool (rplace0 i)) []) :=
 enterM (n := 29) (by kernel_rfl) Tryz.func145 rfl rfl rfl fun G w a h0 A => N hX 12 A rfl rfl fun A => forkD 6 A rfl
  (fun h1 A => N hX 5 A rfl rfl fun A => forkD 11 A rfl
   (fun h2 A => N hX 4 A rfl rfl fun A => CALL1 [] (rmask_x i.off i.sz) A rfl rfl rfl rfl rfl rfl rfl fun A => N hX 3 A rfl rfl fun A => forkN 19 A rfl
    (fun h3 A => N hX 4 A rfl rfl fun A => forkE 23 A rfl
     (fun h4 A => N hX 9 A rfl rfl fun A => RETN hX A rfl rfl rfl h0 rfl rfl rfl rfl (by simp only [oneS, nb, nbL, nbH, rplace0, if_pos h1, if_pos h2, if_pos h3, if_pos h4]) rfl)
     (fun h4 A => N hX 2 A rfl rfl fun A => CALL1 [] (rreg_x i.ix) A rfl rfl rfl rfl rfl rfl rfl fun A => N hX 6 A rfl rfl fun A => RETN hX A rfl rfl rfl h0 rfl rfl rfl rfl (by simp only [oneS, nb, nbL, nbH, rplace0, if_pos h1, if_pos h2, if_pos h3, if_neg (h4)]) rfl))
    (fun h3 A => N hX 13 A rfl rfl fun A => RETN hX A rfl rfl rfl h0 rfl rfl rfl rfl (by simp only [oneS, nb, nbL, nbH, rplace0, if_pos h1, if_pos h2, if_neg (not_not_intro h3)]) rfl))
   (fun h2 A => N hX 21 A rfl rfl fun A => RETN hX A rfl rfl rfl h0 rfl rfl rfl rfl (by simp only [oneS, nb, nbL, nbH, rplace0, if_pos h1, if_neg h2]) rfl))
  (fun h1 A => N hX 26 A rfl rfl fun A => RETN hX A rfl rfl rfl h0 rfl rfl rfl rfl (by simp only [oneS, nb, nbL, nbH, rplace0, if_neg h1]) rfl)
def rbare0 (i : In) : Int := if i.op = 1 then (-1) else if i.op = 2 then (-1) else if i.op = 3 then (-1) else if i.op = 4 then (-1) else if i.op = 5 then i.dst else if i.op = 6 then (-1) else i.dst
def rbare1 (i : In) : Int := if i.op = 1 then i.ra else if i.op = 2 then (-1) else if i.op = 3 then (-1) else if i.op = 4 then i.ra else if i.op = 5 then (-1) else if i.op = 6 then (-1) else if i.op = 7 then i.ra else if i.op = 8 then i.ra else if i.op = 9 then (-1) else i.ra
def rbare2 (i : In) : Int := if i.op = 1 then i.rb else if i.op = 2 then i.rb else if i.op = 3 then (-1) else i.rb
def rbare3 (i : In) : Int := if i.op = 1 then 0 else if i.op = 2 then i.imm else if i.op = 3 then 0 else if i.op = 4 then i.imm else if i.op = 5 then 0 else i.imm
def rbare4 (i : In) : Int := if i.op = 1 then if (((i.op == 4) || (i.op == 5)) || (i.op == 6)) = true then 0 else i.loc else if i.op = 2 then if ((decide (i.dst ≥ 0)) && (decide (i.dst < 8))) = true then if (((i.op == 4) || (i.op == 5)) || (i.op == 6)) = true then 0 else i.loc else if (((i.op == 4) || (i.op == 5)) || (i.op == 6)) = true then 0 else i.loc else if i.op = 3 then if ((decide (i.dst ≥ 0)) && (decide (i.dst < 8))) = true then if ((decide (i.ra ≥ 0)) && (decide (i.ra < 8))) = true then if i.fn ≥ 1 then if i.fn ≤ 5 then if i.rb = (-1) then if (((i.op == 4) || (i.op == 5)) || (i.op == 6)) = true then 0 else i.loc else if (((i.op == 4) || (i.op == 5)) || (i.op == 6)) = true then 0 else i.loc else if (((i.op == 4) || (i.op == 5)) || (i.op == 6)) = true then 0 else i.loc else if (((i.op == 4) || (i.op == 5)) || (i.op == 6)) = true then 0 else i.loc else if (((i.op == 4) || (i.op == 5)) || (i.op == 6)) = true then 0 else i.loc else if (((i.op == 4) || (i.op == 5)) || (i.op == 6)) = true then 0 else i.loc else if i.op = 4 then if ((decide (i.dst ≥ 0)) && (decide (i.dst < 8))) = true then if (((i.op == 4) || (i.op == 5)) || (i.op == 6)) = true then 0 else i.loc else if (((i.op == 4) || (i.op == 5)) || (i.op == 6)) = true then 0 else i.loc else if i.op = 5 then if (rplace0 i) = true then if i.ra = (-1) then if (((i.op == 4) || (i.op == 5)) || (i.op == 6)) = true then 0 else i.loc else if (((i.op == 4) || (i.op == 5)) || (i.op == 6)) = true then 0 else i.loc else if (((i.op == 4) || (i.op == 5)) || (i.op == 6)) = true then 0 else i.loc else if i.op = 6 then if ((decide (i.dst ≥ 0)) && (decide (i.dst < 8))) = true then if ((decide (i.ra ≥ 0)) && (decide (i.ra < 8))) = true then if (((i.op == 4) || (i.op == 5)) || (i.op == 6)) = true then 0 else i.loc else if (((i.op == 4) || (i.op == 5)) || (i.op == 6)) = true then 0 else i.loc else if (((i.op == 4) || (i.op == 5)) || (i.op == 6)) = true then 0 else i.loc else if i.op = 7 then if (((i.op == 4) || (i.op == 5)) || (i.op == 6)) = true then 0 else i.loc else if i.op = 8 then if (((i.op == 4) || (i.op == 5)) || (i.op == 6)) = true then 0 else i.loc else if i.op = 9 then if (((i.op == 4) || (i.op == 5)) || (i.op == 6)) = true then 0 else i.loc else if (((i.op == 4) || (i.op == 5)) || (i.op == 6)) = true then 0 else i.loc
def rbare5 (i : In) : Int := if i.op = 1 then if (((i.op == 4) || (i.op == 5)) || (i.op == 6)) = true then 0 else i.off else if i.op = 2 then if ((decide (i.dst ≥ 0)) && (decide (i.dst < 8))) = true then if (((i.op == 4) || (i.op == 5)) || (i.op == 6)) = true then 0 else i.off else if (((i.op == 4) || (i.op == 5)) || (i.op == 6)) = true then 0 else i.off else if i.op = 3 then if ((decide (i.dst ≥ 0)) && (decide (i.dst < 8))) = true then if ((decide (i.ra ≥ 0)) && (decide (i.ra < 8))) = true then if i.fn ≥ 1 then if i.fn ≤ 5 then if i.rb = (-1) then if (((i.op == 4) || (i.op == 5)) || (i.op == 6)) = true then 0 else i.off else if (((i.op == 4) || (i.op == 5)) || (i.op == 6)) = true then 0 else i.off else if (((i.op == 4) || (i.op == 5)) || (i.op == 6)) = true then 0 else i.off else if (((i.op == 4) || (i.op == 5)) || (i.op == 6)) = true then 0 else i.off else if (((i.op == 4) || (i.op == 5)) || (i.op == 6)) = true then 0 else i.off else if (((i.op == 4) || (i.op == 5)) || (i.op == 6)) = true then 0 else i.off else if i.op = 4 then if ((decide (i.dst ≥ 0)) && (decide (i.dst < 8))) = true then if (((i.op == 4) || (i.op == 5)) || (i.op == 6)) = true then 0 else i.off else if (((i.op == 4) || (i.op == 5)) || (i.op == 6)) = true then 0 else i.off else if i.op = 5 then if (rplace0 i) = true then if i.ra = (-1) then if (((i.op == 4) || (i.op == 5)) || (i.op == 6)) = true then 0 else i.off else if (((i.op == 4) || (i.op == 5)) || (i.op == 6)) = true then 0 else i.off else if (((i.op == 4) || (i.op == 5)) || (i.op == 6)) = true then 0 else i.off else if i.op = 6 then if ((decide (i.dst ≥ 0)) && (decide (i.dst < 8))) = true then if ((decide (i.ra ≥ 0)) && (decide (i.ra < 8))) = true then if (((i.op == 4) || (i.op == 5)) || (i.op == 6)) = true then 0 else i.off else if (((i.op == 4) || (i.op == 5)) || (i.op == 6)) = true then 0 else i.off else if (((i.op == 4) || (i.op == 5)) || (i.op == 6)) = true then 0 else i.off else if i.op = 7 then if (((i.op == 4) || (i.op == 5)) || (i.op == 6)) = true then 0 else i.off else if i.op = 8 then if (((i.op == 4) || (i.op == 5)) || (i.op == 6)) = true then 0 else i.off else if i.op = 9 then if (((i.op == 4) || (i.op == 5)) || (i.op == 6)) = true then 0 else i.off else if (((i.op == 4) || (i.op == 5)) || (i.op == 6)) = true then 0 else i.off
def rbare6 (i : In) : Int := if i.op = 1 then if (((i.op == 4) || (i.op == 5)) || (i.op == 6)) = true then (-1) else i.ix else if i.op = 2 then if ((decide (i.dst ≥ 0)) && (decide (i.dst < 8))) = true then if (((i.op == 4) || (i.op == 5)) || (i.op == 6)) = true then (-1) else i.ix else if (((i.op == 4) || (i.op == 5)) || (i.op == 6)) = true then (-1) else i.ix else if i.op = 3 then if ((decide (i.dst ≥ 0)) && (decide (i.dst < 8))) = true then if ((decide (i.ra ≥ 0)) && (decide (i.ra < 8))) = true then if i.fn ≥ 1 then if i.fn ≤ 5 then if i.rb = (-1) then if (((i.op == 4) || (i.op == 5)) || (i.op == 6)) = true then (-1) else i.ix else if (((i.op == 4) || (i.op == 5)) || (i.op == 6)) = true then (-1) else i.ix else if (((i.op == 4) || (i.op == 5)) || (i.op == 6)) = true then (-1) else i.ix else if (((i.op == 4) || (i.op == 5)) || (i.op == 6)) = true then (-1) else i.ix else if (((i.op == 4) || (i.op == 5)) || (i.op == 6)) = true then (-1) else i.ix else if (((i.op == 4) || (i.op == 5)) || (i.op == 6)) = true then (-1) else i.ix else if i.op = 4 then if ((decide (i.dst ≥ 0)) && (decide (i.dst < 8))) = true then if (((i.op == 4) || (i.op == 5)) || (i.op == 6)) = true then (-1) else i.ix else if (((i.op == 4) || (i.op == 5)) || (i.op == 6)) = true then (-1) else i.ix else if i.op = 5 then if (rplace0 i) = true then if i.ra = (-1) then if (((i.op == 4) || (i.op == 5)) || (i.op == 6)) = true then (-1) else i.ix else if (((i.op == 4) || (i.op == 5)) || (i.op == 6)) = true then (-1) else i.ix else if (((i.op == 4) || (i.op == 5)) || (i.op == 6)) = true then (-1) else i.ix else if i.op = 6 then if ((decide (i.dst ≥ 0)) && (decide (i.dst < 8))) = true then if ((decide (i.ra ≥ 0)) && (decide (i.ra < 8))) = true then if (((i.op == 4) || (i.op == 5)) || (i.op == 6)) = true then (-1) else i.ix else if (((i.op == 4) || (i.op == 5)) || (i.op == 6)) = true then (-1) else i.ix else if (((i.op == 4) || (i.op == 5)) || (i.op == 6)) = true then (-1) else i.ix else if i.op = 7 then if (((i.op == 4) || (i.op == 5)) || (i.op == 6)) = true then (-1) else i.ix else if i.op = 8 then if (((i.op == 4) || (i.op == 5)) || (i.op == 6)) = true then (-1) else i.ix else if i.op = 9 then if (((i.op == 4) || (i.op == 5)) || (i.op == 6)) = true then (-1) else i.ix else if (((i.op == 4) || (i.op == 5)) || (i.op == 6)) = true then (-1) else i.ix
def rbare7 (i : In) : Int := if i.op = 1 then if (((i.op == 4) || (i.op == 5)) || (i.op == 6)) = true then 0 else i.sz else if i.op = 2 then if ((decide (i.dst ≥ 0)) && (decide (i.dst < 8))) = true then if (((i.op == 4) || (i.op == 5)) || (i.op == 6)) = true then 0 else i.sz else if (((i.op == 4) || (i.op == 5)) || (i.op == 6)) = true then 0 else i.sz else if i.op = 3 then if ((decide (i.dst ≥ 0)) && (decide (i.dst < 8))) = true then if ((decide (i.ra ≥ 0)) && (decide (i.ra < 8))) = true then if i.fn ≥ 1 then if i.fn ≤ 5 then if i.rb = (-1) then if (((i.op == 4) || (i.op == 5)) || (i.op == 6)) = true then 0 else i.sz else if (((i.op == 4) || (i.op == 5)) || (i.op == 6)) = true then 0 else i.sz else if (((i.op == 4) || (i.op == 5)) || (i.op == 6)) = true then 0 else i.sz else if (((i.op == 4) || (i.op == 5)) || (i.op == 6)) = true then 0 else i.sz else if (((i.op == 4) || (i.op == 5)) || (i.op == 6)) = true then 0 else i.sz else if (((i.op == 4) || (i.op == 5)) || (i.op == 6)) = true then 0 else i.sz else if i.op = 4 then if ((decide (i.dst ≥ 0)) && (decide (i.dst < 8))) = true then if (((i.op == 4) || (i.op == 5)) || (i.op == 6)) = true then 0 else i.sz else if (((i.op == 4) || (i.op == 5)) || (i.op == 6)) = true then 0 else i.sz else if i.op = 5 then if (rplace0 i) = true then if i.ra = (-1) then if (((i.op == 4) || (i.op == 5)) || (i.op == 6)) = true then 0 else i.sz else if (((i.op == 4) || (i.op == 5)) || (i.op == 6)) = true then 0 else i.sz else if (((i.op == 4) || (i.op == 5)) || (i.op == 6)) = true then 0 else i.sz else if i.op = 6 then if ((decide (i.dst ≥ 0)) && (decide (i.dst < 8))) = true then if ((decide (i.ra ≥ 0)) && (decide (i.ra < 8))) = true then if (((i.op == 4) || (i.op == 5)) || (i.op == 6)) = true then 0 else i.sz else if (((i.op == 4) || (i.op == 5)) || (i.op == 6)) = true then 0 else i.sz else if (((i.op == 4) || (i.op == 5)) || (i.op == 6)) = true then 0 else i.sz else if i.op = 7 then if (((i.op == 4) || (i.op == 5)) || (i.op == 6)) = true then 0 else i.sz else if i.op = 8 then if (((i.op == 4) || (i.op == 5)) || (i.op == 6)) = true then 0 else i.sz else if i.op = 9 then if (((i.op == 4) || (i.op == 5)) || (i.op == 6)) = true then 0 else i.sz else if (((i.op == 4) || (i.op == 5)) || (i.op == 6)) = true then 0 else i.sz
def rbare8 (i : In) : Int := if i.op = 1 then i.fn else if i.op = 2 then i.fn else if i.op = 3 then 0 else if i.op = 4 then i.fn else if i.op = 5 then i.fn else if i.op = 6 then 0 else i.fn
def rbare9 (i : In) : Bool := if i.op = 1 then i.acq else if i.op = 2 then i.acq else if i.op = 3 then i.acq else if i.op = 4 then false else if i.op = 5 then i.acq else if i.op = 6 then false else i.acq
def rbare10 (i : In) : Bool := if i.op = 1 then i.weak else if i.op = 2 then i.weak else if i.op = 3 then i.weak else if i.op = 4 then false else i.weak
def rbare11 (i : In) : Bool := if i.op = 1 then i.rel else if i.op = 2 then i.rel else if i.op = 3 then i.rel else if i.op = 4 then i.rel else if i.op = 5 then false else if i.op = 6 then false else i.rel
def rbare12 (i : In) : Int := if i.op = 1 then i.pred else if i.op = 2 then i.pred else if i.op = 3 then i.pred else if i.op = 4 then i.pred else if i.op = 5 then i.pred else if i.op = 6 then i.pred else if i.op = 7 then 0 else i.pred
def rbare13 (i : In) : Int := if i.op = 1 then i.succ else if i.op = 2 then i.succ else if i.op = 3 then i.succ else if i.op = 4 then i.succ else if i.op = 5 then i.succ else if i.op = 6 then i.succ else if i.op = 7 then 0 else i.succ
def rbare14 (i : In) : Int := if i.op = 1 then i.to_ else if i.op = 2 then i.to_ else if i.op = 3 then i.to_ else if i.op = 4 then i.to_ else if i.op = 5 then i.to_ else if i.op = 6 then i.to_ else if i.op = 7 then i.to_ else if i.op = 8 then i.to_ else if i.op = 9 then 0 else i.to_
def rbare15 (i : In) : Bool := if i.op = 1 then i.zero else if i.op = 2 then i.zero else if i.op = 3 then i.zero else if i.op = 4 then i.zero else if i.op = 5 then i.zero else if i.op = 6 then i.zero else if i.op = 7 then i.zero else if i.op = 8 then i.zero else if i.op = 9 then false else i.zero
def rbare16 (i : In) : Bool := if i.op = 1 then (decide (i.dst ≥ 0)) && (decide (i.dst < 8)) else if i.op = 2 then if ((decide (i.dst ≥ 0)) && (decide (i.dst < 8))) = true then (decide (i.ra ≥ 0)) && (decide (i.ra < 8)) else false else if i.op = 3 then if ((decide (i.dst ≥ 0)) && (decide (i.dst < 8))) = true then if ((decide (i.ra ≥ 0)) && (decide (i.ra < 8))) = true then if i.fn ≥ 1 then if i.fn ≤ 5 then if i.rb = (-1) then true else ((decide (i.rb ≥ 0)) && (decide (i.rb < 8))) && (i.imm == 0) else false else false else false else false else if i.op = 4 then if ((decide (i.dst ≥ 0)) && (decide (i.dst < 8))) = true then (rplace0 i) && (!(i.acq && i.weak)) else false else if i.op = 5 then if (rplace0 i) = true then if i.ra = (-1) then true else ((decide (i.ra ≥ 0)) && (decide (i.ra < 8))) && (i.imm == 0) else false else if i.op = 6 then if ((decide (i.dst ≥ 0)) && (decide (i.dst < 8))) = true then if ((decide (i.ra ≥ 0)) && (decide (i.ra < 8))) = true then (rplace0 i) && ((i.fn == 6) || (i.fn == 1)) else false else false else if i.op = 7 then (((decide (i.pred ≥ 1)) && (decide (i.pred ≤ 3))) && (decide (i.succ ≥ 1))) && (decide (i.succ ≤ 3)) else if i.op = 8 then true else if i.op = 9 then (decide (i.ra ≥ 0)) && (decide (i.ra < 8)) else false
theorem rbare_ (i : In)  : Fn Tryz.prog 89 [.agg (inQ9 i)] [] (Rt (.tup [.agg [.int .i64 0, .int .i64 (rbare0 i), .int .i64 (rbare1 i), .int .i64 (rbare2 i), .int .i64 (rbare3 i), .int .i64 (rbare4 i), .int .i64 (rbare5 i), .int .i64 (rbare6 i), .int .i64 (rbare7 i), .int .i64 (rbare8 i), .bool (rbare9 i), .bool (rbare10 i), .bool (rbare11 i), .int .i64 (rbare12 i), .int .i64 (rbare13 i), .int .i64 (rbare14 i), .bool (rbare15 i)], .bool (rbare16 i)]) []) :=
 enterM (n := 192) (by kernel_rfl) Tryz.func89 rfl rfl rfl fun G w a h0 A => N hX 39 A rfl rfl fun A => forkE 10 A rfl
  (fun h1 A => N hX 5 A rfl rfl fun A => CALL1 [] (rreg_x i.dst) A rfl rfl rfl rfl rfl rfl rfl fun A => N hX 33 A rfl rfl fun A => fork 185 A rfl
   (fun h2 A => N hX 33 A rfl rfl fun A => RETN hX A rfl rfl rfl h0 rfl rfl rfl rfl (by simp only [oneS, nb, nbL, nbH, rbare0, rbare1, rbare2, rbare3, rbare4, rbare5, rbare6, rbare7, rbare8, rbare9, rbare10, rbare11, rbare12, rbare13, rbare14, rbare15, rbare16, if_pos h1, if_pos h2]) rfl)
   (fun h2 A => N hX 12 A rfl rfl fun A => RETN hX A rfl rfl rfl h0 rfl rfl rfl rfl (by simp only [oneS, nb, nbL, nbH, rbare0, rbare1, rbare2, rbare3, rbare4, rbare5, rbare6, rbare7, rbare8, rbare9, rbare10, rbare11, rbare12, rbare13, rbare14, rbare15, rbare16, if_pos h1, if_neg (ne_true_of_eq_false h2)]) rfl))
  (fun h1 A => N hX 7 A rfl rfl fun A => forkE 17 A rfl
   (fun h3 A => N hX 5 A rfl rfl fun A => CALL1 [] (rreg_x i.dst) A rfl rfl rfl rfl rfl rfl rfl fun A => N hX 1 A rfl rfl fun A => fork 22 A rfl
    (fun h4 A => N hX 2 A rfl rfl fun A => CALL1 [] (rreg_x i.ra) A rfl rfl rfl rfl rfl rfl rfl fun A => N hX 34 A rfl rfl fun A => fork 185 A rfl
     (fun h5 A => N hX 33 A rfl rfl fun A => RETN hX A rfl rfl rfl h0 rfl rfl rfl rfl (by simp only [oneS, nb, nbL, nbH, rbare0, rbare1, rbare2, rbare3, rbare4, rbare5, rbare6, rbare7, rbare8, rbare9, rbare10, rbare11, rbare12, rbare13, rbare14, rbare15, rbare16, if_neg (h1), if_pos h3, if_pos h4, if_pos h5]) rfl)
     (fun h5 A => N hX 12 A rfl rfl fun A => RETN hX A rfl rfl rfl h0 rfl rfl rfl rfl (by simp only [oneS, nb, nbL, nbH, rbare0, rbare1, rbare2, rbare3, rbare4, rbare5, rbare6, rbare7, rbare8, rbare9, rbare10, rbare11, rbare12, rbare13, rbare14, rbare15, rbare16, if_neg (h1), if_pos h3, if_pos h4, if_neg (ne_true_of_eq_false h5)]) rfl))
    (fun h4 A => N hX 37 A rfl rfl fun A => fork 185 A rfl
     (fun h6 A => N hX 33 A rfl rfl fun A => RETN hX A rfl rfl rfl h0 rfl rfl rfl rfl (by simp only [oneS, nb, nbL, nbH, rbare0, rbare1, rbare2, rbare3, rbare4, rbare5, rbare6, rbare7, rbare8, rbare9, rbare10, rbare11, rbare12, rbare13, rbare14, rbare15, rbare16, if_neg (h1), if_pos h3, if_neg (ne_true_of_eq_false h4), if_pos h6]) rfl)
     (fun h6 A => N hX 12 A rfl rfl fun A => RETN hX A rfl rfl rfl h0 rfl rfl rfl rfl (by simp only [oneS, nb, nbL, nbH, rbare0, rbare1, rbare2, rbare3, rbare4, rbare5, rbare6, rbare7, rbare8, rbare9, rbare10, rbare11, rbare12, rbare13, rbare14, rbare15, rbare16, if_neg (h1), if_pos h3, if_neg (ne_true_of_eq_false h4), if_neg (ne_true_of_eq_false h6)]) rfl)))
   (fun h3 A => N hX 7 A rfl rfl fun A => forkE 29 A rfl
    (fun h7 A => N hX 5 A rfl rfl fun A => CALL1 [] (rreg_x i.dst) A rfl rfl rfl rfl rfl rfl rfl fun A => N hX 1 A rfl rfl fun A => fork 34 A rfl
     (fun h8 A => N hX 2 A rfl rfl fun A => CALL1 [] (rreg_x i.ra) A rfl rfl rfl rfl rfl rfl rfl fun A => N hX 2 A rfl rfl fun A => fork 39 A rfl
      (fun h9 A => N hX 5 A rfl rfl fun A => forkD 44 A rfl
       (fun h10 A => N hX 5 A rfl rfl fun A => forkD 49 A rfl
        (fun h11 A => N hX 4 A rfl rfl fun A => forkE 53 A rfl
         (fun h12 A => N hX 61 A rfl rfl fun A => fork 185 A rfl
          (fun h13 A => N hX 33 A rfl rfl fun A => RETN hX A rfl rfl rfl h0 rfl rfl rfl rfl (by simp only [oneS, nb, nbL, nbH, rbare0, rbare1, rbare2, rbare3, rbare4, rbare5, rbare6, rbare7, rbare8, rbare9, rbare10, rbare11, rbare12, rbare13, rbare14, rbare15, rbare16, if_neg (h1), if_neg (h3), if_pos h7, if_pos h8, if_pos h9, if_pos h10, if_pos h11, if_pos h12, if_pos h13]) rfl)
          (fun h13 A => N hX 12 A rfl rfl fun A => RETN hX A rfl rfl rfl h0 rfl rfl rfl rfl (by simp only [oneS, nb, nbL, nbH, rbare0, rbare1, rbare2, rbare3, rbare4, rbare5, rbare6, rbare7, rbare8, rbare9, rbare10, rbare11, rbare12, rbare13, rbare14, rbare15, rbare16, if_neg (h1), if_neg (h3), if_pos h7, if_pos h8, if_pos h9, if_pos h10, if_pos h11, if_pos h12, if_neg (ne_true_of_eq_false h13)]) rfl))
         (fun h12 A => N hX 2 A rfl rfl fun A => CALL1 [] (rreg_x i.rb) A rfl rfl rfl rfl rfl rfl rfl fun A => N hX 11 A rfl rfl fun A => N hX 47 A rfl rfl fun A => fork 185 A rfl
          (fun h14 A => N hX 33 A rfl rfl fun A => RETN hX A rfl rfl rfl h0 rfl rfl rfl rfl (by simp only [oneS, nb, nbL, nbH, rbare0, rbare1, rbare2, rbare3, rbare4, rbare5, rbare6, rbare7, rbare8, rbare9, rbare10, rbare11, rbare12, rbare13, rbare14, rbare15, rbare16, if_neg (h1), if_neg (h3), if_pos h7, if_pos h8, if_pos h9, if_pos h10, if_pos h11, if_neg (h12), if_pos h14]) rfl)
          (fun h14 A => N hX 12 A rfl rfl fun A => RETN hX A rfl rfl rfl h0 rfl rfl rfl rfl (by simp only [oneS, nb, nbL, nbH, rbare0, rbare1, rbare2, rbare3, rbare4, rbare5, rbare6, rbare7, rbare8, rbare9, rbare10, rbare11, rbare12, rbare13, rbare14, rbare15, rbare16, if_neg (h1), if_neg (h3), if_pos h7, if_pos h8, if_pos h9, if_pos h10, if_pos h11, if_neg (h12), if_neg (ne_true_of_eq_false h14)]) rfl)))
        (fun h11 A => N hX 65 A rfl rfl fun A => fork 185 A rfl
         (fun h15 A => N hX 33 A rfl rfl fun A => RETN hX A rfl rfl rfl h0 rfl rfl rfl rfl (by simp only [oneS, nb, nbL, nbH, rbare0, rbare1, rbare2, rbare3, rbare4, rbare5, rbare6, rbare7, rbare8, rbare9, rbare10, rbare11, rbare12, rbare13, rbare14, rbare15, rbare16, if_neg (h1), if_neg (h3), if_pos h7, if_pos h8, if_pos h9, if_pos h10, if_neg h11, if_pos h15]) rfl)
         (fun h15 A => N hX 12 A rfl rfl fun A => RETN hX A rfl rfl rfl h0 rfl rfl rfl rfl (by simp only [oneS, nb, nbL, nbH, rbare0, rbare1, rbare2, rbare3, rbare4, rbare5, rbare6, rbare7, rbare8, rbare9, rbare10, rbare11, rbare12, rbare13, rbare14, rbare15, rbare16, if_neg (h1), if_neg (h3), if_pos h7, if_pos h8, if_pos h9, if_pos h10, if_neg h11, if_neg (ne_true_of_eq_false h15)]) rfl)))
       (fun h10 A => N hX 70 A rfl rfl fun A => fork 185 A rfl
        (fun h16 A => N hX 33 A rfl rfl fun A => RETN hX A rfl rfl rfl h0 rfl rfl rfl rfl (by simp only [oneS, nb, nbL, nbH, rbare0, rbare1, rbare2, rbare3, rbare4, rbare5, rbare6, rbare7, rbare8, rbare9, rbare10, rbare11, rbare12, rbare13, rbare14, rbare15, rbare16, if_neg (h1), if_neg (h3), if_pos h7, if_pos h8, if_pos h9, if_neg h10, if_pos h16]) rfl)
        (fun h16 A => N hX 12 A rfl rfl fun A => RETN hX A rfl rfl rfl h0 rfl rfl rfl rfl (by simp only [oneS, nb, nbL, nbH, rbare0, rbare1, rbare2, rbare3, rbare4, rbare5, rbare6, rbare7, rbare8, rbare9, rbare10, rbare11, rbare12, rbare13, rbare14, rbare15, rbare16, if_neg (h1), if_neg (h3), if_pos h7, if_pos h8, if_pos h9, if_neg h10, if_neg (ne_true_of_eq_false h16)]) rfl)))
      (fun h9 A => N hX 75 A rfl rfl fun A => fork 185 A rfl
       (fun h17 A => N hX 33 A rfl rfl fun A => RETN hX A rfl rfl rfl h0 rfl rfl rfl rfl (by simp only [oneS, nb, nbL, nbH, rbare0, rbare1, rbare2, rbare3, rbare4, rbare5, rbare6, rbare7, rbare8, rbare9, rbare10, rbare11, rbare12, rbare13, rbare14, rbare15, rbare16, if_neg (h1), if_neg (h3), if_pos h7, if_pos h8, if_neg (ne_true_of_eq_false h9), if_pos h17]) rfl)
       (fun h17 A => N hX 12 A rfl rfl fun A => RETN hX A rfl rfl rfl h0 rfl rfl rfl rfl (by simp only [oneS, nb, nbL, nbH, rbare0, rbare1, rbare2, rbare3, rbare4, rbare5, rbare6, rbare7, rbare8, rbare9, rbare10, rbare11, rbare12, rbare13, rbare14, rbare15, rbare16, if_neg (h1), if_neg (h3), if_pos h7, if_pos h8, if_neg (ne_true_of_eq_false h9), if_neg (ne_true_of_eq_false h17)]) rfl)))
     (fun h8 A => N hX 80 A rfl rfl fun A => fork 185 A rfl
      (fun h18 A => N hX 33 A rfl rfl fun A => RETN hX A rfl rfl rfl h0 rfl rfl rfl rfl (by simp only [oneS, nb, nbL, nbH, rbare0, rbare1, rbare2, rbare3, rbare4, rbare5, rbare6, rbare7, rbare8, rbare9, rbare10, rbare11, rbare12, rbare13, rbare14, rbare15, rbare16, if_neg (h1), if_neg (h3), if_pos h7, if_neg (ne_true_of_eq_false h8), if_pos h18]) rfl)
      (fun h18 A => N hX 12 A rfl rfl fun A => RETN hX A rfl rfl rfl h0 rfl rfl rfl rfl (by simp only [oneS, nb, nbL, nbH, rbare0, rbare1, rbare2, rbare3, rbare4, rbare5, rbare6, rbare7, rbare8, rbare9, rbare10, rbare11, rbare12, rbare13, rbare14, rbare15, rbare16, if_neg (h1), if_neg (h3), if_pos h7, if_neg (ne_true_of_eq_false h8), if_neg (ne_true_of_eq_false h18)]) rfl)))
    (fun h7 A => N hX 7 A rfl rfl fun A => forkE 69 A rfl
     (fun h19 A => N hX 5 A rfl rfl fun A => CALL1 [] (rreg_x i.dst) A rfl rfl rfl rfl rfl rfl rfl fun A => N hX 1 A rfl rfl fun A => fork 74 A rfl
      (fun h20 A => N hX 1 A rfl rfl fun A => CALL1 [] (rplace_ i) A rfl rfl rfl rfl rfl rfl rfl fun A => N hX 14 A rfl rfl fun A => N hX 35 A rfl rfl fun A => fork 185 A rfl
       (fun h21 A => N hX 33 A rfl rfl fun A => RETN hX A rfl rfl rfl h0 rfl rfl rfl rfl (by simp only [oneS, nb, nbL, nbH, rbare0, rbare1, rbare2, rbare3, rbare4, rbare5, rbare6, rbare7, rbare8, rbare9, rbare10, rbare11, rbare12, rbare13, rbare14, rbare15, rbare16, if_neg (h1), if_neg (h3), if_neg (h7), if_pos h19, if_pos h20, if_pos h21]) rfl)
       (fun h21 A => N hX 12 A rfl rfl fun A => RETN hX A rfl rfl rfl h0 rfl rfl rfl rfl (by simp only [oneS, nb, nbL, nbH, rbare0, rbare1, rbare2, rbare3, rbare4, rbare5, rbare6, rbare7, rbare8, rbare9, rbare10, rbare11, rbare12, rbare13, rbare14, rbare15, rbare16, if_neg (h1), if_neg (h3), if_neg (h7), if_pos h19, if_pos h20, if_neg (ne_true_of_eq_false h21)]) rfl))
      (fun h20 A => N hX 51 A rfl rfl fun A => fork 185 A rfl
       (fun h22 A => N hX 33 A rfl rfl fun A => RETN hX A rfl rfl rfl h0 rfl rfl rfl rfl (by simp only [oneS, nb, nbL, nbH, rbare0, rbare1, rbare2, rbare3, rbare4, rbare5, rbare6, rbare7, rbare8, rbare9, rbare10, rbare11, rbare12, rbare13, rbare14, rbare15, rbare16, if_neg (h1), if_neg (h3), if_neg (h7), if_pos h19, if_neg (ne_true_of_eq_false h20), if_pos h22]) rfl)
       (fun h22 A => N hX 12 A rfl rfl fun A => RETN hX A rfl rfl rfl h0 rfl rfl rfl rfl (by simp only [oneS, nb, nbL, nbH, rbare0, rbare1, rbare2, rbare3, rbare4, rbare5, rbare6, rbare7, rbare8, rbare9, rbare10, rbare11, rbare12, rbare13, rbare14, rbare15, rbare16, if_neg (h1), if_neg (h3), if_neg (h7), if_pos h19, if_neg (ne_true_of_eq_false h20), if_neg (ne_true_of_eq_false h22)]) rfl)))
     (fun h19 A => N hX 7 A rfl rfl fun A => forkE 90 A rfl
      (fun h23 A => N hX 4 A rfl rfl fun A => CALL1 [] (rplace_ i) A rfl rfl rfl rfl rfl rfl rfl fun A => N hX 1 A rfl rfl fun A => fork 94 A rfl
       (fun h24 A => N hX 4 A rfl rfl fun A => forkE 98 A rfl
        (fun h25 A => N hX 49 A rfl rfl fun A => fork 185 A rfl
         (fun h26 A => N hX 33 A rfl rfl fun A => RETN hX A rfl rfl rfl h0 rfl rfl rfl rfl (by simp only [oneS, nb, nbL, nbH, rbare0, rbare1, rbare2, rbare3, rbare4, rbare5, rbare6, rbare7, rbare8, rbare9, rbare10, rbare11, rbare12, rbare13, rbare14, rbare15, rbare16, if_neg (h1), if_neg (h3), if_neg (h7), if_neg (h19), if_pos h23, if_pos h24, if_pos h25, if_pos h26]) rfl)
         (fun h26 A => N hX 12 A rfl rfl fun A => RETN hX A rfl rfl rfl h0 rfl rfl rfl rfl (by simp only [oneS, nb, nbL, nbH, rbare0, rbare1, rbare2, rbare3, rbare4, rbare5, rbare6, rbare7, rbare8, rbare9, rbare10, rbare11, rbare12, rbare13, rbare14, rbare15, rbare16, if_neg (h1), if_neg (h3), if_neg (h7), if_neg (h19), if_pos h23, if_pos h24, if_pos h25, if_neg (ne_true_of_eq_false h26)]) rfl))
        (fun h25 A => N hX 2 A rfl rfl fun A => CALL1 [] (rreg_x i.ra) A rfl rfl rfl rfl rfl rfl rfl fun A => N hX 11 A rfl rfl fun A => N hX 35 A rfl rfl fun A => fork 185 A rfl
         (fun h27 A => N hX 33 A rfl rfl fun A => RETN hX A rfl rfl rfl h0 rfl rfl rfl rfl (by simp only [oneS, nb, nbL, nbH, rbare0, rbare1, rbare2, rbare3, rbare4, rbare5, rbare6, rbare7, rbare8, rbare9, rbare10, rbare11, rbare12, rbare13, rbare14, rbare15, rbare16, if_neg (h1), if_neg (h3), if_neg (h7), if_neg (h19), if_pos h23, if_pos h24, if_neg (h25), if_pos h27]) rfl)
         (fun h27 A => N hX 12 A rfl rfl fun A => RETN hX A rfl rfl rfl h0 rfl rfl rfl rfl (by simp only [oneS, nb, nbL, nbH, rbare0, rbare1, rbare2, rbare3, rbare4, rbare5, rbare6, rbare7, rbare8, rbare9, rbare10, rbare11, rbare12, rbare13, rbare14, rbare15, rbare16, if_neg (h1), if_neg (h3), if_neg (h7), if_neg (h19), if_pos h23, if_pos h24, if_neg (h25), if_neg (ne_true_of_eq_false h27)]) rfl)))
       (fun h24 A => N hX 53 A rfl rfl fun A => fork 185 A rfl
        (fun h28 A => N hX 33 A rfl rfl fun A => RETN hX A rfl rfl rfl h0 rfl rfl rfl rfl (by simp only [oneS, nb, nbL, nbH, rbare0, rbare1, rbare2, rbare3, rbare4, rbare5, rbare6, rbare7, rbare8, rbare9, rbare10, rbare11, rbare12, rbare13, rbare14, rbare15, rbare16, if_neg (h1), if_neg (h3), if_neg (h7), if_neg (h19), if_pos h23, if_neg (ne_true_of_eq_false h24), if_pos h28]) rfl)
        (fun h28 A => N hX 12 A rfl rfl fun A => RETN hX A rfl rfl rfl h0 rfl rfl rfl rfl (by simp only [oneS, nb, nbL, nbH, rbare0, rbare1, rbare2, rbare3, rbare4, rbare5, rbare6, rbare7, rbare8, rbare9, rbare10, rbare11, rbare12, rbare13, rbare14, rbare15, rbare16, if_neg (h1), if_neg (h3), if_neg (h7), if_neg (h19), if_pos h23, if_neg (ne_true_of_eq_false h24), if_neg (ne_true_of_eq_false h28)]) rfl)))
      (fun h23 A => N hX 7 A rfl rfl fun A => forkE 112 A rfl
       (fun h29 A => N hX 5 A rfl rfl fun A => CALL1 [] (rreg_x i.dst) A rfl rfl rfl rfl rfl rfl rfl fun A => N hX 1 A rfl rfl fun A => fork 117 A rfl
        (fun h30 A => N hX 2 A rfl rfl fun A => CALL1 [] (rreg_x i.ra) A rfl rfl rfl rfl rfl rfl rfl fun A => N hX 2 A rfl rfl fun A => fork 122 A rfl
         (fun h31 A => N hX 1 A rfl rfl fun A => CALL1 [] (rplace_ i) A rfl rfl rfl rfl rfl rfl rfl fun A => N hX 15 A rfl rfl fun A => N hX 47 A rfl rfl fun A => fork 185 A rfl
          (fun h32 A => N hX 33 A rfl rfl fun A => RETN hX A rfl rfl rfl h0 rfl rfl rfl rfl (by simp only [oneS, nb, nbL, nbH, rbare0, rbare1, rbare2, rbare3, rbare4, rbare5, rbare6, rbare7, rbare8, rbare9, rbare10, rbare11, rbare12, rbare13, rbare14, rbare15, rbare16, if_neg (h1), if_neg (h3), if_neg (h7), if_neg (h19), if_neg (h23), if_pos h29, if_pos h30, if_pos h31, if_pos h32]) rfl)
          (fun h32 A => N hX 12 A rfl rfl fun A => RETN hX A rfl rfl rfl h0 rfl rfl rfl rfl (by simp only [oneS, nb, nbL, nbH, rbare0, rbare1, rbare2, rbare3, rbare4, rbare5, rbare6, rbare7, rbare8, rbare9, rbare10, rbare11, rbare12, rbare13, rbare14, rbare15, rbare16, if_neg (h1), if_neg (h3), if_neg (h7), if_neg (h19), if_neg (h23), if_pos h29, if_pos h30, if_pos h31, if_neg (ne_true_of_eq_false h32)]) rfl))
         (fun h31 A => N hX 64 A rfl rfl fun A => fork 185 A rfl
          (fun h33 A => N hX 33 A rfl rfl fun A => RETN hX A rfl rfl rfl h0 rfl rfl rfl rfl (by simp only [oneS, nb, nbL, nbH, rbare0, rbare1, rbare2, rbare3, rbare4, rbare5, rbare6, rbare7, rbare8, rbare9, rbare10, rbare11, rbare12, rbare13, rbare14, rbare15, rbare16, if_neg (h1), if_neg (h3), if_neg (h7), if_neg (h19), if_neg (h23), if_pos h29, if_pos h30, if_neg (ne_true_of_eq_false h31), if_pos h33]) rfl)
          (fun h33 A => N hX 12 A rfl rfl fun A => RETN hX A rfl rfl rfl h0 rfl rfl rfl rfl (by simp only [oneS, nb, nbL, nbH, rbare0, rbare1, rbare2, rbare3, rbare4, rbare5, rbare6, rbare7, rbare8, rbare9, rbare10, rbare11, rbare12, rbare13, rbare14, rbare15, rbare16, if_neg (h1), if_neg (h3), if_neg (h7), if_neg (h19), if_neg (h23), if_pos h29, if_pos h30, if_neg (ne_true_of_eq_false h31), if_neg (ne_true_of_eq_false h33)]) rfl)))
        (fun h30 A => N hX 69 A rfl rfl fun A => fork 185 A rfl
         (fun h34 A => N hX 33 A rfl rfl fun A => RETN hX A rfl rfl rfl h0 rfl rfl rfl rfl (by simp only [oneS, nb, nbL, nbH, rbare0, rbare1, rbare2, rbare3, rbare4, rbare5, rbare6, rbare7, rbare8, rbare9, rbare10, rbare11, rbare12, rbare13, rbare14, rbare15, rbare16, if_neg (h1), if_neg (h3), if_neg (h7), if_neg (h19), if_neg (h23), if_pos h29, if_neg (ne_true_of_eq_false h30), if_pos h34]) rfl)
         (fun h34 A => N hX 12 A rfl rfl fun A => RETN hX A rfl rfl rfl h0 rfl rfl rfl rfl (by simp only [oneS, nb, nbL, nbH, rbare0, rbare1, rbare2, rbare3, rbare4, rbare5, rbare6, rbare7, rbare8, rbare9, rbare10, rbare11, rbare12, rbare13, rbare14, rbare15, rbare16, if_neg (h1), if_neg (h3), if_neg (h7), if_neg (h19), if_neg (h23), if_pos h29, if_neg (ne_true_of_eq_false h30), if_neg (ne_true_of_eq_false h34)]) rfl)))
       (fun h29 A => N hX 7 A rfl rfl fun A => forkE 141 A rfl
        (fun h35 A => N hX 25 A rfl rfl fun A => N hX 29 A rfl rfl fun A => fork 185 A rfl
         (fun h36 A => N hX 33 A rfl rfl fun A => RETN hX A rfl rfl rfl h0 rfl rfl rfl rfl (by simp only [oneS, nb, nbL, nbH, rbare0, rbare1, rbare2, rbare3, rbare4, rbare5, rbare6, rbare7, rbare8, rbare9, rbare10, rbare11, rbare12, rbare13, rbare14, rbare15, rbare16, if_neg (h1), if_neg (h3), if_neg (h7), if_neg (h19), if_neg (h23), if_neg (h29), if_pos h35, if_pos h36]) rfl)
         (fun h36 A => N hX 12 A rfl rfl fun A => RETN hX A rfl rfl rfl h0 rfl rfl rfl rfl (by simp only [oneS, nb, nbL, nbH, rbare0, rbare1, rbare2, rbare3, rbare4, rbare5, rbare6, rbare7, rbare8, rbare9, rbare10, rbare11, rbare12, rbare13, rbare14, rbare15, rbare16, if_neg (h1), if_neg (h3), if_neg (h7), if_neg (h19), if_neg (h23), if_neg (h29), if_pos h35, if_neg (ne_true_of_eq_false h36)]) rfl))
        (fun h35 A => N hX 7 A rfl rfl fun A => forkE 163 A rfl
         (fun h37 A => N hX 22 A rfl rfl fun A => fork 185 A rfl
          (fun h38 A => N hX 33 A rfl rfl fun A => RETN hX A rfl rfl rfl h0 rfl rfl rfl rfl (by simp only [oneS, nb, nbL, nbH, rbare0, rbare1, rbare2, rbare3, rbare4, rbare5, rbare6, rbare7, rbare8, rbare9, rbare10, rbare11, rbare12, rbare13, rbare14, rbare15, rbare16, if_neg (h1), if_neg (h3), if_neg (h7), if_neg (h19), if_neg (h23), if_neg (h29), if_neg (h35), if_pos h37, if_pos h38]) rfl)
          (fun h38 A => N hX 12 A rfl rfl fun A => RETN hX A rfl rfl rfl h0 rfl rfl rfl rfl (by simp only [oneS, nb, nbL, nbH, rbare0, rbare1, rbare2, rbare3, rbare4, rbare5, rbare6, rbare7, rbare8, rbare9, rbare10, rbare11, rbare12, rbare13, rbare14, rbare15, rbare16, if_neg (h1), if_neg (h3), if_neg (h7), if_neg (h19), if_neg (h23), if_neg (h29), if_neg (h35), if_pos h37, if_neg (ne_true_of_eq_false h38)]) rfl))
         (fun h37 A => N hX 7 A rfl rfl fun A => forkE 165 A rfl
          (fun h39 A => N hX 5 A rfl rfl fun A => CALL1 [] (rreg_x i.ra) A rfl rfl rfl rfl rfl rfl rfl fun A => N hX 39 A rfl rfl fun A => fork 185 A rfl
           (fun h40 A => N hX 33 A rfl rfl fun A => RETN hX A rfl rfl rfl h0 rfl rfl rfl rfl (by simp only [oneS, nb, nbL, nbH, rbare0, rbare1, rbare2, rbare3, rbare4, rbare5, rbare6, rbare7, rbare8, rbare9, rbare10, rbare11, rbare12, rbare13, rbare14, rbare15, rbare16, if_neg (h1), if_neg (h3), if_neg (h7), if_neg (h19), if_neg (h23), if_neg (h29), if_neg (h35), if_neg (h37), if_pos h39, if_pos h40]) rfl)
           (fun h40 A => N hX 12 A rfl rfl fun A => RETN hX A rfl rfl rfl h0 rfl rfl rfl rfl (by simp only [oneS, nb, nbL, nbH, rbare0, rbare1, rbare2, rbare3, rbare4, rbare5, rbare6, rbare7, rbare8, rbare9, rbare10, rbare11, rbare12, rbare13, rbare14, rbare15, rbare16, if_neg (h1), if_neg (h3), if_neg (h7), if_neg (h19), if_neg (h23), if_neg (h29), if_neg (h35), if_neg (h37), if_pos h39, if_neg (ne_true_of_eq_false h40)]) rfl))
          (fun h39 A => N hX 24 A rfl rfl fun A => fork 185 A rfl
           (fun h41 A => N hX 33 A rfl rfl fun A => RETN hX A rfl rfl rfl h0 rfl rfl rfl rfl (by simp only [oneS, nb, nbL, nbH, rbare0, rbare1, rbare2, rbare3, rbare4, rbare5, rbare6, rbare7, rbare8, rbare9, rbare10, rbare11, rbare12, rbare13, rbare14, rbare15, rbare16, if_neg (h1), if_neg (h3), if_neg (h7), if_neg (h19), if_neg (h23), if_neg (h29), if_neg (h35), if_neg (h37), if_neg (h39), if_pos h41]) rfl)
           (fun h41 A => N hX 12 A rfl rfl fun A => RETN hX A rfl rfl rfl h0 rfl rfl rfl rfl (by simp only [oneS, nb, nbL, nbH, rbare0, rbare1, rbare2, rbare3, rbare4, rbare5, rbare6, rbare7, rbare8, rbare9, rbare10, rbare11, rbare12, rbare13, rbare14, rbare15, rbare16, if_neg (h1), if_neg (h3), if_neg (h7), if_neg (h19), if_neg (h23), if_neg (h29), if_neg (h35), if_neg (h37), if_neg (h39), if_neg (ne_true_of_eq_false h41)]) rfl))))))))))
def rright0 (i : In) (p : Int) (n : Int) : Int := if ((!(rbare16 i)) || (!((((0 : Int) == 0) && (((rbare0 i) == (-1)) && (((rbare1 i) == (-1)) && (((rbare2 i) == (-1)) && (((rbare3 i) == 0) && (((rbare4 i) == 0) && (((rbare5 i) == 0) && (((rbare6 i) == (-1)) && (((rbare7 i) == 0) && (((rbare8 i) == 0) && (((rbare9 i) == false) && (((rbare10 i) == false) && (((rbare11 i) == false) && (((rbare12 i) == 0) && (((rbare13 i) == 0) && (((rbare14 i) == 0) && ((rbare15 i) == false)))))))))))))))))))) = true then 34 else if ((i.op == 9) && ((decide (i.to_ ≤ p)) || (decide (i.to_ > n)))) = true then 35 else 0
theorem rright_ (i : In) (p : Int) (n : Int)  : Fn Tryz.prog 37 [.agg (inQ9 i), .int .i64 p, .int .i64 n] [] (Rt (.int .i64 (rright0 i p n)) []) :=
 enterM (n := 36) (by kernel_rfl) Tryz.func37 rfl rfl rfl fun G w a h0 A => N hX 9 A rfl rfl fun A => CALL1 [] (rbare_ i) A rfl rfl rfl rfl rfl rfl rfl fun A => N hX 20 A rfl rfl fun A => fork 20 A rfl
  (fun h1 A => N hX 7 A rfl rfl fun A => RETN hX A rfl rfl rfl h0 rfl rfl rfl rfl (by simp only [oneS, nb, nbL, nbH, rright0, if_pos h1]) rfl)
  (fun h1 A => N hX 23 A rfl rfl fun A => fork 35 A rfl
   (fun h2 A => N hX 7 A rfl rfl fun A => RETN hX A rfl rfl rfl h0 rfl rfl rfl rfl (by simp only [oneS, nb, nbL, nbH, rright0, if_neg (ne_true_of_eq_false h1), if_pos h2]) rfl)
   (fun h2 A => N hX 9 A rfl rfl fun A => RETN hX A rfl rfl rfl h0 rfl rfl rfl rfl (by simp only [oneS, nb, nbL, nbH, rright0, if_neg (ne_true_of_eq_false h1), if_neg (ne_true_of_eq_false h2)]) rfl))
end Go.Proofs.YtedlaclfhgneeabGreatDoor
namespace Go.Proofs.YtedlaclfhgneeabGreatDoor
open Go.RowKit
set_option linter.unusedVariables false
set_option linter.unusedSimpArgs false
theorem place_o (i : In) : rplace0 i = Old.accB (toO i) := by
  have hm := mkF_o i.off i.sz
  unfold rplace0 Old.accB Old.ronB Old.regB toO
  simp only []
  rw [← hm]
  by_cases h1 : i.loc ≥ 0 <;> by_cases h2 : i.loc < 3 <;> by_cases h3 : i.ix = -1 <;> by_cases h4 : mkF i.off i.sz = 0 <;> first | (simp [h1, h2, h3, h4]; done) | (rw [Bool.eq_iff_iff]; simp [h1, h2, h3, h4])
theorem bare_1 (i : In) (h : i.op = 1) : (rbare16 i && (((0 : Int) == 0) && (((rbare0 i) == (-1)) && (((rbare1 i) == (-1)) && (((rbare2 i) == (-1)) && (((rbare3 i) == 0) && (((rbare4 i) == 0) && (((rbare5 i) == 0) && (((rbare6 i) == (-1)) && (((rbare7 i) == 0) && (((rbare8 i) == 0) && (((rbare9 i) == false) && (((rbare10 i) == false) && (((rbare11 i) == false) && (((rbare12 i) == 0) && (((rbare13 i) == 0) && (((rbare14 i) == 0) && ((rbare15 i) == false)))))))))))))))))) = (Old.insEq (toO i) (Old.plainF (toO i)) && Old.soundB (toO i)) := by
  have hp := place_o i
  generalize hq : Old.accB (toO i) = ab at hp
  unfold toO at hq
  rw [Bool.eq_iff_iff]
  simp [h, hp, hq, rbare0, rbare1, rbare2, rbare3, rbare4, rbare5, rbare6, rbare7, rbare8, rbare9, rbare10, rbare11, rbare12, rbare13, rbare14, rbare15, rbare16, Old.insEq, Old.plainF, Old.soundB, Old.opB, Old.rdB, Old.wrB, Old.regB, Old.immF, Old.ronB, Old.fenB, toO]
  try grind
theorem bare_2 (i : In) (h : i.op = 2) : (rbare16 i && (((0 : Int) == 0) && (((rbare0 i) == (-1)) && (((rbare1 i) == (-1)) && (((rbare2 i) == (-1)) && (((rbare3 i) == 0) && (((rbare4 i) == 0) && (((rbare5 i) == 0) && (((rbare6 i) == (-1)) && (((rbare7 i) == 0) && (((rbare8 i) == 0) && (((rbare9 i) == false) && (((rbare10 i) == false) && (((rbare11 i) == false) && (((rbare12 i) == 0) && (((rbare13 i) == 0) && (((rbare14 i) == 0) && ((rbare15 i) == false)))))))))))))))))) = (Old.insEq (toO i) (Old.plainF (toO i)) && Old.soundB (toO i)) := by
  have hp := place_o i
  generalize hq : Old.accB (toO i) = ab at hp
  unfold toO at hq
  rw [Bool.eq_iff_iff]
  simp [h, hp, hq, rbare0, rbare1, rbare2, rbare3, rbare4, rbare5, rbare6, rbare7, rbare8, rbare9, rbare10, rbare11, rbare12, rbare13, rbare14, rbare15, rbare16, Old.insEq, Old.plainF, Old.soundB, Old.opB, Old.rdB, Old.wrB, Old.regB, Old.immF, Old.ronB, Old.fenB, toO]
  try grind
theorem bare_3 (i : In) (h : i.op = 3) : (rbare16 i && (((0 : Int) == 0) && (((rbare0 i) == (-1)) && (((rbare1 i) == (-1)) && (((rbare2 i) == (-1)) && (((rbare3 i) == 0) && (((rbare4 i) == 0) && (((rbare5 i) == 0) && (((rbare6 i) == (-1)) && (((rbare7 i) == 0) && (((rbare8 i) == 0) && (((rbare9 i) == false) && (((rbare10 i) == false) && (((rbare11 i) == false) && (((rbare12 i) == 0) && (((rbare13 i) == 0) && (((rbare14 i) == 0) && ((rbare15 i) == false)))))))))))))))))) = (Old.insEq (toO i) (Old.plainF (toO i)) && Old.soundB (toO i)) := by
  have hp := place_o i
  generalize hq : Old.accB (toO i) = ab at hp
  unfold toO at hq
  rw [Bool.eq_iff_iff]
  simp [h, hp, hq, rbare0, rbare1, rbare2, rbare3, rbare4, rbare5, rbare6, rbare7, rbare8, rbare9, rbare10, rbare11, rbare12, rbare13, rbare14, rbare15, rbare16, Old.insEq, Old.plainF, Old.soundB, Old.opB, Old.rdB, Old.wrB, Old.regB, Old.immF, Old.ronB, Old.fenB, toO]
  try grind
theorem bare_4 (i : In) (h : i.op = 4) : (rbare16 i && (((0 : Int) == 0) && (((rbare0 i) == (-1)) && (((rbare1 i) == (-1)) && (((rbare2 i) == (-1)) && (((rbare3 i) == 0) && (((rbare4 i) == 0) && (((rbare5 i) == 0) && (((rbare6 i) == (-1)) && (((rbare7 i) == 0) && (((rbare8 i) == 0) && (((rbare9 i) == false) && (((rbare10 i) == false) && (((rbare11 i) == false) && (((rbare12 i) == 0) && (((rbare13 i) == 0) && (((rbare14 i) == 0) && ((rbare15 i) == false)))))))))))))))))) = (Old.insEq (toO i) (Old.plainF (toO i)) && Old.soundB (toO i)) := by
  have hp := place_o i
  generalize hq : Old.accB (toO i) = ab at hp
  unfold toO at hq
  rw [Bool.eq_iff_iff]
  simp [h, hp, hq, rbare0, rbare1, rbare2, rbare3, rbare4, rbare5, rbare6, rbare7, rbare8, rbare9, rbare10, rbare11, rbare12, rbare13, rbare14, rbare15, rbare16, Old.insEq, Old.plainF, Old.soundB, Old.opB, Old.rdB, Old.wrB, Old.regB, Old.immF, Old.ronB, Old.fenB, toO]
  try grind
theorem bare_5 (i : In) (h : i.op = 5) : (rbare16 i && (((0 : Int) == 0) && (((rbare0 i) == (-1)) && (((rbare1 i) == (-1)) && (((rbare2 i) == (-1)) && (((rbare3 i) == 0) && (((rbare4 i) == 0) && (((rbare5 i) == 0) && (((rbare6 i) == (-1)) && (((rbare7 i) == 0) && (((rbare8 i) == 0) && (((rbare9 i) == false) && (((rbare10 i) == false) && (((rbare11 i) == false) && (((rbare12 i) == 0) && (((rbare13 i) == 0) && (((rbare14 i) == 0) && ((rbare15 i) == false)))))))))))))))))) = (Old.insEq (toO i) (Old.plainF (toO i)) && Old.soundB (toO i)) := by
  have hp := place_o i
  generalize hq : Old.accB (toO i) = ab at hp
  unfold toO at hq
  rw [Bool.eq_iff_iff]
  simp [h, hp, hq, rbare0, rbare1, rbare2, rbare3, rbare4, rbare5, rbare6, rbare7, rbare8, rbare9, rbare10, rbare11, rbare12, rbare13, rbare14, rbare15, rbare16, Old.insEq, Old.plainF, Old.soundB, Old.opB, Old.rdB, Old.wrB, Old.regB, Old.immF, Old.ronB, Old.fenB, toO]
  try grind
theorem bare_6 (i : In) (h : i.op = 6) : (rbare16 i && (((0 : Int) == 0) && (((rbare0 i) == (-1)) && (((rbare1 i) == (-1)) && (((rbare2 i) == (-1)) && (((rbare3 i) == 0) && (((rbare4 i) == 0) && (((rbare5 i) == 0) && (((rbare6 i) == (-1)) && (((rbare7 i) == 0) && (((rbare8 i) == 0) && (((rbare9 i) == false) && (((rbare10 i) == false) && (((rbare11 i) == false) && (((rbare12 i) == 0) && (((rbare13 i) == 0) && (((rbare14 i) == 0) && ((rbare15 i) == false)))))))))))))))))) = (Old.insEq (toO i) (Old.plainF (toO i)) && Old.soundB (toO i)) := by
  have hp := place_o i
  generalize hq : Old.accB (toO i) = ab at hp
  unfold toO at hq
  rw [Bool.eq_iff_iff]
  simp [h, hp, hq, rbare0, rbare1, rbare2, rbare3, rbare4, rbare5, rbare6, rbare7, rbare8, rbare9, rbare10, rbare11, rbare12, rbare13, rbare14, rbare15, rbare16, Old.insEq, Old.plainF, Old.soundB, Old.opB, Old.rdB, Old.wrB, Old.regB, Old.immF, Old.ronB, Old.fenB, toO]
  try grind
theorem bare_7 (i : In) (h : i.op = 7) : (rbare16 i && (((0 : Int) == 0) && (((rbare0 i) == (-1)) && (((rbare1 i) == (-1)) && (((rbare2 i) == (-1)) && (((rbare3 i) == 0) && (((rbare4 i) == 0) && (((rbare5 i) == 0) && (((rbare6 i) == (-1)) && (((rbare7 i) == 0) && (((rbare8 i) == 0) && (((rbare9 i) == false) && (((rbare10 i) == false) && (((rbare11 i) == false) && (((rbare12 i) == 0) && (((rbare13 i) == 0) && (((rbare14 i) == 0) && ((rbare15 i) == false)))))))))))))))))) = (Old.insEq (toO i) (Old.plainF (toO i)) && Old.soundB (toO i)) := by
  have hp := place_o i
  generalize hq : Old.accB (toO i) = ab at hp
  unfold toO at hq
  rw [Bool.eq_iff_iff]
  simp [h, hp, hq, rbare0, rbare1, rbare2, rbare3, rbare4, rbare5, rbare6, rbare7, rbare8, rbare9, rbare10, rbare11, rbare12, rbare13, rbare14, rbare15, rbare16, Old.insEq, Old.plainF, Old.soundB, Old.opB, Old.rdB, Old.wrB, Old.regB, Old.immF, Old.ronB, Old.fenB, toO]
  try grind
theorem bare_8 (i : In) (h : i.op = 8) : (rbare16 i && (((0 : Int) == 0) && (((rbare0 i) == (-1)) && (((rbare1 i) == (-1)) && (((rbare2 i) == (-1)) && (((rbare3 i) == 0) && (((rbare4 i) == 0) && (((rbare5 i) == 0) && (((rbare6 i) == (-1)) && (((rbare7 i) == 0) && (((rbare8 i) == 0) && (((rbare9 i) == false) && (((rbare10 i) == false) && (((rbare11 i) == false) && (((rbare12 i) == 0) && (((rbare13 i) == 0) && (((rbare14 i) == 0) && ((rbare15 i) == false)))))))))))))))))) = (Old.insEq (toO i) (Old.plainF (toO i)) && Old.soundB (toO i)) := by
  have hp := place_o i
  generalize hq : Old.accB (toO i) = ab at hp
  unfold toO at hq
  rw [Bool.eq_iff_iff]
  simp [h, hp, hq, rbare0, rbare1, rbare2, rbare3, rbare4, rbare5, rbare6, rbare7, rbare8, rbare9, rbare10, rbare11, rbare12, rbare13, rbare14, rbare15, rbare16, Old.insEq, Old.plainF, Old.soundB, Old.opB, Old.rdB, Old.wrB, Old.regB, Old.immF, Old.ronB, Old.fenB, toO]
  try grind
theorem bare_9 (i : In) (h : i.op = 9) : (rbare16 i && (((0 : Int) == 0) && (((rbare0 i) == (-1)) && (((rbare1 i) == (-1)) && (((rbare2 i) == (-1)) && (((rbare3 i) == 0) && (((rbare4 i) == 0) && (((rbare5 i) == 0) && (((rbare6 i) == (-1)) && (((rbare7 i) == 0) && (((rbare8 i) == 0) && (((rbare9 i) == false) && (((rbare10 i) == false) && (((rbare11 i) == false) && (((rbare12 i) == 0) && (((rbare13 i) == 0) && (((rbare14 i) == 0) && ((rbare15 i) == false)))))))))))))))))) = (Old.insEq (toO i) (Old.plainF (toO i)) && Old.soundB (toO i)) := by
  have hp := place_o i
  generalize hq : Old.accB (toO i) = ab at hp
  unfold toO at hq
  rw [Bool.eq_iff_iff]
  simp [h, hp, hq, rbare0, rbare1, rbare2, rbare3, rbare4, rbare5, rbare6, rbare7, rbare8, rbare9, rbare10, rbare11, rbare12, rbare13, rbare14, rbare15, rbare16, Old.insEq, Old.plainF, Old.soundB, Old.opB, Old.rdB, Old.wrB, Old.regB, Old.immF, Old.ronB, Old.fenB, toO]
  try grind
theorem bare_0 (i : In) (h1 : ¬ i.op = 1) (h2 : ¬ i.op = 2) (h3 : ¬ i.op = 3) (h4 : ¬ i.op = 4) (h5 : ¬ i.op = 5) (h6 : ¬ i.op = 6) (h7 : ¬ i.op = 7) (h8 : ¬ i.op = 8) (h9 : ¬ i.op = 9) : (rbare16 i && (((0 : Int) == 0) && (((rbare0 i) == (-1)) && (((rbare1 i) == (-1)) && (((rbare2 i) == (-1)) && (((rbare3 i) == 0) && (((rbare4 i) == 0) && (((rbare5 i) == 0) && (((rbare6 i) == (-1)) && (((rbare7 i) == 0) && (((rbare8 i) == 0) && (((rbare9 i) == false) && (((rbare10 i) == false) && (((rbare11 i) == false) && (((rbare12 i) == 0) && (((rbare13 i) == 0) && (((rbare14 i) == 0) && ((rbare15 i) == false)))))))))))))))))) = (Old.insEq (toO i) (Old.plainF (toO i)) && Old.soundB (toO i)) := by
  rw [show rbare16 i = false by simp [rbare16, h1, h2, h3, h4, h5, h6, h7, h8, h9], show Old.soundB (toO i) = false by simp [Old.soundB, toO, h1, h2, h3, h4, h5, h6, h7, h8, h9], Bool.and_false, Bool.false_and]
theorem bare_o (i : In) : (rbare16 i && (((0 : Int) == 0) && (((rbare0 i) == (-1)) && (((rbare1 i) == (-1)) && (((rbare2 i) == (-1)) && (((rbare3 i) == 0) && (((rbare4 i) == 0) && (((rbare5 i) == 0) && (((rbare6 i) == (-1)) && (((rbare7 i) == 0) && (((rbare8 i) == 0) && (((rbare9 i) == false) && (((rbare10 i) == false) && (((rbare11 i) == false) && (((rbare12 i) == 0) && (((rbare13 i) == 0) && (((rbare14 i) == 0) && ((rbare15 i) == false)))))))))))))))))) = (Old.insEq (toO i) (Old.plainF (toO i)) && Old.soundB (toO i)) := by
  by_cases h1 : i.op = 1
  · exact bare_1 i h1
  by_cases h2 : i.op = 2
  · exact bare_2 i h2
  by_cases h3 : i.op = 3
  · exact bare_3 i h3
  by_cases h4 : i.op = 4
  · exact bare_4 i h4
  by_cases h5 : i.op = 5
  · exact bare_5 i h5
  by_cases h6 : i.op = 6
  · exact bare_6 i h6
  by_cases h7 : i.op = 7
  · exact bare_7 i h7
  by_cases h8 : i.op = 8
  · exact bare_8 i h8
  by_cases h9 : i.op = 9
  · exact bare_9 i h9
  exact bare_0 i h1 h2 h3 h4 h5 h6 h7 h8 h9
theorem rright_o (i : In) (p n : Int) : rright0 i p n = Old.rightR (toO i) p n := by
  unfold rright0 Old.rightR
  rw [← Bool.not_and, bare_o]
  cases (Old.insEq (toO i) (Old.plainF (toO i)) && Old.soundB (toO i)) <;> rfl
end Go.Proofs.YtedlaclfhgneeabGreatDoor
namespace Go.Proofs.YtedlaclfhgneeabGreatDoor
open Go.RowKit
set_option linter.unusedVariables false
set_option linter.unusedSimpArgs false
set_option maxRecDepth 100000
set_option maxHeartbeats 2000000
set_option simprocs false
section
variable {p : UInt8 → Bool} {l : List UInt8} {s0 k : Nat}
end
section
variable {b : UInt8}
end
section
variable {b : UInt8} {k : Nat}
end
end Go.Proofs.YtedlaclfhgneeabGreatDoor
namespace Go.Proofs.YtedlaclfhgneeabGreatDoor
set_option linter.unusedVariables false


section
variable {l : List UInt8} {a b : UInt8}
end
end Go.Proofs.YtedlaclfhgneeabGreatDoor
namespace Go.Proofs.YtedlaclfhgneeabGreatDoor
open Go.RowKit
set_option linter.unusedVariables false
set_option linter.unusedSimpArgs false
set_option maxRecDepth 100000
set_option maxHeartbeats 2000000
set_option simprocs false
theorem w8 (x : Int) (h : 0 ≤ x ∧ x ≤ 255) : IntKind.wrap .i64 (IntKind.wrap .u8 x) = x := by
  have : ∀ n : Fin 256, IntKind.wrap .i64 (IntKind.wrap .u8 ((n.val : Nat) : Int)) = ((n.val : Nat) : Int) := by decide +kernel
  obtain ⟨n, e⟩ := Int.eq_ofNat_of_zero_le h.1
  subst e
  exact this ⟨n, by omega⟩
section
variable {l : List UInt8} {k e : Nat}
end
section
variable {bs : Nat} {D : List UInt8} {j : Nat} {B : Int}
end
section
variable {l : List UInt8}
end
section
variable {l : List UInt8} {e0 ss : Nat} {ws : List Tk}
end

section
variable {i : In} {lb : List UInt8}
end
theorem aregs_   : Fn Tryz.prog 41 [] [] (Rt (.agg [.str [88, 48], .str [88, 49], .str [88, 50], .str [88, 51], .str [88, 52], .str [88, 53], .str [88, 54], .str [88, 55]]) []) :=
 enterM (n := 2) (by kernel_rfl) Tryz.func41 rfl rfl rfl fun G w a h0 A => N hX 12 A rfl rfl fun A => RETN hX A rfl rfl rfl h0 rfl rfl rfl rfl rfl rfl
end Go.Proofs.YtedlaclfhgneeabGreatDoor
namespace Go.Proofs.YtedlaclfhgneeabGreatDoor
open Go.RowKit
set_option linter.unusedVariables false
set_option linter.unusedSimpArgs false
set_option linter.unusedSectionVars false
set_option maxRecDepth 100000
set_option maxHeartbeats 2000000
section
variable {g : Lg} {L : List Rw} {i : In} {lb : List UInt8} {r : Rw}
theorem sound_of (h : wrongI i = false) : sound0 i.op i.dst i.ra i.rb i.imm i.loc i.off i.ix i.sz i.fn i.acq i.weak i.rel i.pred i.succ i.to_ i.zero = true := by
  cases hs : sound0 i.op i.dst i.ra i.rb i.imm i.loc i.off i.ix i.sz i.fn i.acq i.weak i.rel i.pred i.succ i.to_ i.zero with
  | true => rfl
  | false =>
    exfalso
    unfold wrongI Right0 at h
    rw [hs, Bool.not_false, Bool.or_true, if_pos rfl] at h
    exact absurd h (by decide)
theorem acc_loc (h : isAccess0 i.op i.dst i.ra i.rb i.imm i.loc i.off i.ix i.sz i.fn i.acq i.weak i.rel i.pred i.succ i.to_ i.zero = true) : 0 ≤ i.loc ∧ i.loc < 3 := by
  unfold isAccess0 at h
  split at h
  · split at h
    · omega
    · cases h
  · cases h
theorem snd_loc (h : wrongI i = false) (ho : i.op = 4 ∨ i.op = 5 ∨ i.op = 6) : 0 ≤ i.loc ∧ i.loc < 3 := by
  have hs := sound_of h
  unfold sound0 at hs
  rw [if_neg (by omega), if_neg (by omega), if_neg (by omega)] at hs
  rcases ho with ho | ho | ho
  · rw [if_pos ho] at hs
    split at hs
    · rw [Bool.and_eq_true] at hs; exact acc_loc hs.1
    · cases hs
  · rw [if_neg (by omega), if_pos ho] at hs
    split at hs
    · exact acc_loc hs
    · cases hs
  · rw [if_neg (by omega), if_neg (by omega), if_pos ho] at hs
    split at hs
    · split at hs
      · rw [Bool.and_eq_true] at hs; exact acc_loc hs.1
      · cases hs
    · cases hs
theorem snd_fen (h : wrongI i = false) (ho : i.op = 7) : (1 ≤ i.pred ∧ i.pred ≤ 3) ∧ (1 ≤ i.succ ∧ i.succ ≤ 3) := by
  have hs := sound_of h
  unfold sound0 at hs
  rw [if_neg (by omega), if_neg (by omega), if_neg (by omega), if_neg (by omega), if_neg (by omega), if_neg (by omega), if_pos ho] at hs
  split at hs
  · next hp =>
    simp only [Bool.or_eq_true, beq_iff_eq] at hp hs
    omega
  · cases hs
theorem wstep_op (i J : In) (p : Int) : (wStep i J p).op = J.op := by
  unfold wStep
  repeat' split
  all_goals rfl
theorem lay_op (r : Rw) (i : In) : (r.lay i).op = r.ins.op := by
  have : ∀ (l : List Int) (J : In), (l.foldl (wStep i) J).op = J.op := by
    intro l
    induction l with
    | nil => intro J; rfl
    | cons p l ih => intro J; rw [List.foldl_cons, ih, wstep_op]
  exact this r.ps (bare r.ins)
theorem row_op (h : rowQ L i = true) : i.op = (rowR L i).ins.op := by
  unfold rowQ at h
  unfold rowR
  cases hf : L.find? (rowP i) with
  | none => rw [hf] at h; cases h
  | some r =>
    have := List.find?_some hf
    unfold rowP at this
    rw [Bool.and_eq_true] at this
    have h2 := this.1
    unfold eqIn at h2
    rw [Bool.and_eq_true, beq_iff_eq, lay_op] at h2
    exact h2.1.symm
end
def prB (g : Lg) (T : List (List UInt8 × List UInt8 × In × List Int)) : Bool := T.all fun x =>
  decide (x.1.length ≤ 1000) && decide (Lib.countB (S x.1) (S [42]) ≤ 1000) && decide (x.2.2.2.length ≤ 4) && decide (x.2.1.length ≤ 1000) &&
  ((List.range 4).all fun k => decide ((Lib.replace x.1 [42] (g.let.getD k []) 1).length ≤ 1000)) &&
  (x.2.2.2.all fun p => (!(p == 6) || (x.2.2.1.op == 4 || (x.2.2.1.op == 5 || x.2.2.1.op == 6))) && (!(p == 8 || p == 9) || x.2.2.1.op == 7))
theorem lens_le {B : Nat} : ∀ (l : List (List UInt8)), (∀ x ∈ l, x.length ≤ B) → Lib.lens l ≤ l.length * B
  | [], _ => by simp [Lib.lens]
  | x :: l, h => by
    have h1 := lens_le l (fun y hy => h y (List.mem_cons_of_mem _ hy))
    have h2 := h x List.mem_cons_self
    have e : Lib.lens (x :: l) = x.length + Lib.lens l := by simp [Lib.lens]
    rw [e, List.length_cons, Nat.add_mul]; omega
theorem join_le {B : Nat} (l : List (List UInt8)) (h : ∀ x ∈ l, x.length ≤ B) : (Lib.join l [44]).length ≤ l.length * (B + 1) := by
  cases l with
  | nil => exact Nat.zero_le _
  | cons x l =>
    rw [Lib.join_length]
    have := lens_le (x :: l) h
    rw [Nat.mul_add, List.length_cons] at *
    simp only [List.length_cons, List.length_nil]
    omega
theorem get3_le {a b c : List UInt8} {B : Nat} (ha : a.length ≤ B) (hb : b.length ≤ B) (hc : c.length ≤ B) (k : Nat) : ([a, b, c].getD k []).length ≤ B := by
  by_cases h : k < 3
  · have : k = 0 ∨ k = 1 ∨ k = 2 := by omega
    rcases this with rfl | rfl | rfl
    · exact ha
    · exact hb
    · exact hc
  · rw [List.getD_eq_getElem?_getD, List.getElem?_eq_none (by simpa using h)]; exact Nat.zero_le _
structure LgL (g : Lg) : Prop where
  lg : LgOK g
  lt : ∀ k, ([g.l0, g.l1, g.l2, g.l3].getD k []).length ≤ 1000
  f0 : g.f0.length ≤ 1000
  f1 : g.f1.length ≤ 1000
  f2 : g.f2.length ≤ 1000
structure InR (i : In) : Prop where
  im : -9223372036854775808 ≤ i.imm ∧ i.imm ≤ 9223372036854775807
  of_ : -9223372036854775808 ≤ i.off ∧ i.off ≤ 9223372036854775807
section
variable {g : Lg} {L : List Rw} {i : In} {lb : List UInt8} {r : Rw}
theorem mem_le (hg : LgL g) (hi : InR i) : (memT g i).length ≤ 1100 := by
  have q1 := hg.lg.rg i.ix
  have q2 := Lib.itoa_length_le i.off hi.of_.1 hi.of_.2
  have q3 := get3_le (a := [120]) (b := [121]) (c := [122]) (B := 1) (by decide) (by decide) (by decide) (i.loc).toNat
  unfold memT memB memA
  split <;> split <;> (simp only [List.length_append, List.length_cons, List.length_nil]; omega)
theorem opd_le (hg : LgL g) (hi : InR i) (hw : r.wd.length ≤ 1000) (p : Int) : (opdT g r p i lb).length ≤ 2000 + lb.length := by
  have q1 := hg.lg.rg (regP p i).1
  have q2 := Lib.itoa_length_le i.imm hi.im.1 hi.im.2
  have q3 := hg.lg.im
  have q4 := mem_le hg hi
  have q5 := get3_le hg.f0 hg.f1 hg.f2 (i.pred - 1).toNat
  have q6 := get3_le hg.f0 hg.f1 hg.f2 (i.succ - 1).toNat
  unfold opdT
  split
  · omega
  split
  · rw [List.length_append]; omega
  split
  · omega
  split
  · omega
  split
  · omega
  split
  · omega
  · omega
theorem pr_ok {T : List (List UInt8 × List UInt8 × In × List Int)} (hm : L.map tm = T) (hg : LgL g) (hB : prB g T = true) (hn : T.length ≤ 1000) (hi : InR i) (hl : lb.length ≤ 100000) : PrOK g L i lb := by
  have hlen : L.length ≤ 1000 := by have := congrArg List.length hm; rw [List.length_map] at this; omega
  have htab : ∀ r ∈ L, r.nm.length ≤ 1000 ∧ Lib.countB (S r.nm) (S [42]) ≤ 1000 ∧ r.ps.length ≤ 4 ∧ r.wd.length ≤ 1000 ∧ (∀ k, k < 4 → (Lib.replace r.nm [42] (g.let.getD k []) 1).length ≤ 1000) ∧ ∀ p ∈ r.ps, (p = 6 → r.ins.op = 4 ∨ r.ins.op = 5 ∨ r.ins.op = 6) ∧ (p = 8 ∨ p = 9 → r.ins.op = 7) := fun r hr => by
    have := (List.all_eq_true.1 hB) _ (tm_mem hm hr)
    simp only [Bool.and_eq_true, decide_eq_true_eq] at this
    obtain ⟨⟨⟨⟨⟨h1, h2⟩, h3⟩, h4⟩, h5⟩, h6⟩ := this
    refine ⟨h1, h2, h3, h4, fun k hk => ?_, fun p hp => ?_⟩
    · have := (List.all_eq_true.1 h5) k (List.mem_range.2 hk)
      exact of_decide_eq_true this
    · have := (List.all_eq_true.1 h6) p hp
      simp only [Bool.and_eq_true, Bool.or_eq_true, Bool.not_eq_true', beq_iff_eq, beq_eq_false_iff_ne, Bool.or_eq_false_iff] at this
      obtain ⟨a1, a2⟩ := this
      refine ⟨fun e => ?_, fun e => ?_⟩
      · rcases a1 with a1 | a1
        · exact absurd e a1
        · exact a1
      · rcases a2 with a2 | a2
        · rcases e with e | e
          · exact absurd e a2.1
          · exact absurd e a2.2
        · exact a2
  have hz : ∀ k, (L.getD k Rw.z) ∈ L ∨ L.getD k Rw.z = Rw.z := fun k => by
    by_cases h : k < L.length
    · left; rw [List.getD_eq_getElem?_getD, List.getElem?_eq_getElem h]; exact List.getElem_mem h
    · right; rw [List.getD_eq_getElem?_getD, List.getElem?_eq_none (by omega)]; rfl
  have hr : rowR L i ∈ L ∨ rowR L i = Rw.z := by
    unfold rowR
    cases hf : L.find? (rowP i) with
    | none => exact .inr rfl
    | some r => exact .inl (List.mem_of_find?_eq_some hf)
  have hz0 : Rw.z.nm = [] ∧ Rw.z.ps = [] ∧ Rw.z.wd = [] := ⟨rfl, rfl, rfl⟩
  have hnl : (nameR g (rowR L i).nm i.sz).length ≤ 1000 := by
    unfold nameR
    split
    · next hk =>
      rcases hr with hr | hr
      · exact (htab _ hr).2.2.2.2.1 _ hk
      · rw [hr, hz0.1]
        have : szK i.sz = 0 ∨ szK i.sz = 1 ∨ szK i.sz = 2 ∨ szK i.sz = 3 := by omega
        have e : ∀ y : List UInt8, (Lib.replace [] [42] y 1) = [] := fun y => by
          unfold Lib.replace
          split
          · rfl
          · have hc : Lib.index [] [42] = -1 := by decide
            cases Lib.replaceNum [] [42] 1 with
            | zero => rfl
            | succ k => unfold Lib.replaceK; rw [hc]; rfl
        rw [e]; exact Nat.zero_le _
    · rcases hr with hr | hr
      · exact (htab _ hr).1
      · rw [hr, hz0.1]; exact Nat.zero_le _
  refine ⟨hg.lg, hg.lt, fun k => ?_, by omega, hi.im, ?_, fun hw hq k hk => ?_, by omega, ?_⟩
  · rcases hz k with h | h
    · have := (htab _ h).2.2.1; omega
    · rw [h, hz0.2.1]; exact Nat.zero_le _
  · rcases hr with hr | hr
    · exact ⟨(htab _ hr).1, (htab _ hr).2.1⟩
    · rw [hr, hz0.1]; exact ⟨Nat.zero_le _, by decide⟩
  · have hmem := row_mem hq
    have hop := row_op hq
    have hp : (rowR L i).ps.getD k 0 ∈ (rowR L i).ps := by rw [List.getD_eq_getElem?_getD, List.getElem?_eq_getElem hk]; exact List.getElem_mem hk
    obtain ⟨h6, h89⟩ := (htab _ hmem).2.2.2.2.2 _ hp
    refine ⟨fun e => ⟨snd_loc hw (by rw [hop]; exact h6 e), hi.of_⟩, fun e => (snd_fen hw (by rw [hop]; exact h89 (.inl e))).1, fun e => (snd_fen hw (by rw [hop]; exact h89 (.inr e))).2⟩
  · have hps : (rowR L i).ps.length ≤ 4 ∧ (rowR L i).wd.length ≤ 1000 := by
      rcases hr with hr | hr
      · exact ⟨(htab _ hr).2.2.1, (htab _ hr).2.2.2.1⟩
      · rw [hr]; exact ⟨Nat.zero_le _, Nat.zero_le _⟩
    have h1 := join_le (B := 2000 + lb.length) (opsT g (rowR L i) i lb) (fun x hx => by
      unfold opsT at hx
      obtain ⟨p, _, rfl⟩ := List.mem_map.1 hx
      exact opd_le hg hi hps.2 p)
    have h2 : (opsT g (rowR L i) i lb).length ≤ 4 := by unfold opsT; rw [List.length_map]; exact hps.1
    have h3 : (opsT g (rowR L i) i lb).length * (2000 + lb.length + 1) ≤ 4 * (2000 + lb.length + 1) := Nat.mul_le_mul_right _ h2
    omega
end
end Go.Proofs.YtedlaclfhgneeabGreatDoor
namespace Go.Proofs.YtedlaclfhgneeabGreatDoor
open Go.RowKit
set_option linter.unusedVariables false
set_option linter.unusedSimpArgs false
set_option maxRecDepth 100000
set_option maxHeartbeats 2000000
set_option simprocs false
theorem idxL_at (q : List UInt8) : ∀ (ls : List (List UInt8)) (n : Nat), Old.idxL ls q n = if idxS ls q < 0 then -1 else idxS ls q + n := by
  intro ls
  induction ls with
  | nil => intro n; rfl
  | cons y l ih =>
    intro n
    unfold Old.idxL
    have hr : List.range (y :: l).length = 0 :: (List.range l.length).map Nat.succ := by rw [List.length_cons, List.range_succ_eq_map]
    cases hy : eqL y q
    · rw [if_neg (by decide), ih (n + 1)]
      have hne : (q == y) = false := by
        cases hh : (q == y) with
        | false => rfl
        | true => rw [eq_of_beq hh, eqL_same] at hy; cases hy
      have e : idxS (y :: l) q = if idxS l q < 0 then -1 else idxS l q + 1 := by
        unfold idxS
        rw [hr, List.find?_cons]
        simp only [List.getD_cons_zero, hne]
        rw [List.find?_map]
        have : ((fun j => q == (y :: l).getD j []) ∘ Nat.succ) = fun j => q == l.getD j [] := by funext j; simp
        rw [this]
        cases (List.range l.length).find? (fun j => q == l.getD j []) with
        | none => rfl
        | some j => simp; omega
      rw [e]
      have := (idxS_ge (ls := l) (q := q)).1
      split <;> split <;> omega
    · rw [if_pos rfl]
      have hq : (q == y) = true := by rw [eqL_eq hy]; exact beq_self_eq_true q
      have e : idxS (y :: l) q = 0 := by
        unfold idxS
        rw [hr, List.find?_cons]
        simp only [List.getD_cons_zero, hq]
        rfl
      rw [e]; simp
theorem idxS_L (ls : List (List UInt8)) (q : List UInt8) : idxS ls q = Old.idxL ls q 0 := by
  rw [idxL_at]
  have := (idxS_ge (ls := ls) (q := q)).1
  split <;> omega
theorem sixA_ (s0 : List UInt8) (s1 : List UInt8) (s2 : List UInt8) (s3 : List UInt8) (s4 : List UInt8) (s5 : List UInt8) (s6 : List UInt8) (s7 : List UInt8) (q : List UInt8)  : Fn Tryz.prog 103 [.sp (.ptr 0 0) 8 8, .str q] [some (.blk [.str s0, .str s1, .str s2, .str s3, .str s4, .str s5, .str s6, .str s7])] (Rt (.int .i64 (idxS [s0, s1, s2, s3, s4, s5, s6, s7] q)) [some (.blk [.str s0, .str s1, .str s2, .str s3, .str s4, .str s5, .str s6, .str s7])]) :=
 enterM (n := 19) (by kernel_rfl) Tryz.func103 rfl rfl rfl fun G w a h0 A => N hX 14 A rfl rfl fun A => LOOP1 (fun (k : Nat) => [(0, .sp (.ptr 0 0) 8 8), (1, .str q), (4, .int .i64 0), (7, .int .i64 ((8 : Nat) : Int)), (8, .int .i64 (k : Int))]) (fun (k : Nat) => [some (.blk [.str s0, .str s1, .str s2, .str s3, .str s4, .str s5, .str s6, .str s7])]) (fun (k : Nat) => IxI [s0, s1, s2, s3, s4, s5, s6, s7] q k) (fun (k : Nat) => 8 - k) 0 IxI.i0 ((A.cut [0, 1, 4, 7, 8] rfl).trunc 1 rfl rfl rfl (by simp only [List.length_cons, List.length_nil] at h0; omega)) fun k hI {G a w} A => N hX 6 A rfl rfl fun A => forkD 9 A rfl
   (fun h1 A => N hX 21 A rfl (ok_d (by have := hI.le; simp only [List.length_cons, List.length_nil] at this; omega) <| ok_d (by have := hI.le; simp only [List.length_cons, List.length_nil] at this; omega) <| okE_nil) fun A => forkE 16 A rfl
    (fun h2 A => N hX 8 A rfl rfl fun A => RETN hX A rfl rfl rfl h0 rfl rfl rfl rfl (by rw [hI.hit (by show k < 8; omega) (by rw [show k = ((k : Int)).toNat from rfl]; simpa using h2)]; rfl) rfl)
    (fun h2 A => N hX 8 A rfl (ok_d (by have := hI.le; simp only [List.length_cons, List.length_nil] at this; omega) <| okE_nil) fun A => ⟨k + 1, _, (by omega), (hI.nx (by show k < 8; omega) (by rw [show k = ((k : Int)).toNat from rfl]; simpa using h2)), ((A.cut [0, 1, 4, 7, 8] rfl).trunc 1 rfl rfl rfl (by simp only [List.length_cons, List.length_nil] at h0; omega))⟩))
   (fun h1 A => N hX 9 A rfl rfl fun A => RETN hX A rfl rfl rfl h0 rfl rfl rfl rfl (by rw [hI.fi (by show 8 ≤ k; omega)]; rfl) rfl)
theorem lreg_ (s0 : List UInt8) (s1 : List UInt8) (s2 : List UInt8) (s3 : List UInt8) (s4 : List UInt8) (s5 : List UInt8) (s6 : List UInt8) (s7 : List UInt8) (q : List UInt8)  : Fn Tryz.prog 43 [.agg [.str s0, .str s1, .str s2, .str s3, .str s4, .str s5, .str s6, .str s7], .str q] [] (Rt (.int .i64 (idxS [s0, s1, s2, s3, s4, s5, s6, s7] q)) []) :=
 enterM (n := 8) (by kernel_rfl) Tryz.func43 rfl rfl rfl fun G w a h0 A => N hX 10 A rfl rfl fun A => CALL1 [0] (sixA_ s0 s1 s2 s3 s4 s5 s6 s7 q) A rfl rfl rfl rfl rfl rfl rfl fun A => N hX 4 A rfl rfl fun A => RETN hX A rfl rfl rfl h0 rfl rfl rfl rfl rfl rfl
theorem rpeek_ (ws : List Tk) (cw : Nat) (k : Nat) (hk : k ≤ ws.length) (hn : ws.length ≤ 1000000) : Fn Tryz.prog 28 [.ptr 0 0] [some (.blk [.sl 1 ws.length cw, .int .i64 ((k : Nat) : Int)]), some (wQ9 ws)] (Rt (.tup [.agg [.int .i64 ((ws.getD k tok0).kind), .str ((ws.getD k tok0).text), .int .i64 ((ws.getD k tok0).n), .int .i64 ((ws.getD k tok0).at_)], .bool (decide (k < ws.length))]) [some (.blk [.sl 1 ws.length cw, .int .i64 ((k : Nat) : Int)]), some (wQ9 ws)]) :=
 enterM (n := 25) (by kernel_rfl) Tryz.func28 rfl rfl rfl fun G w a h0 A => N hX 8 A rfl rfl fun A => DRAWN hX hmo [] [] A rfl rfl rfl rfl (by kernel_rfl) (effAll_nil _ _) trivial fun A => N hX 1 A rfl rfl fun A => forkD 13 A rfl
  (fun h1 A => N hX 9 A rfl rfl fun A => RETN hX A rfl rfl rfl h0 rfl rfl rfl rfl (by rw [tk_out (by omega), dec_f (by omega)]; rfl) rfl)
  (fun h1 A => N hX 4 A rfl rfl fun A => DRAWN hX hmo [] [] A rfl (ok_d (by omega) <| ok_d (by omega) <| okE_nil) rfl rfl (by kernel_rfl) (effAll_nil _ _) trivial fun A => N hX 2 A rfl rfl fun A => RETN hX A rfl rfl rfl h0 rfl rfl rfl rfl (by rw [dec_t (p := k < ws.length) (by omega)]; rfl) rfl)
theorem rnext_ (ws : List Tk) (cw : Nat) (k : Nat) (hk : k ≤ ws.length) (hn : ws.length ≤ 1000000) : Fn Tryz.prog 31 [.ptr 0 0] [some (.blk [.sl 1 ws.length cw, .int .i64 ((k : Nat) : Int)]), some (wQ9 ws)] (Rt (.tup [.agg [.int .i64 ((ws.getD k tok0).kind), .str ((ws.getD k tok0).text), .int .i64 ((ws.getD k tok0).n), .int .i64 ((ws.getD k tok0).at_)], .bool (decide (k < ws.length))]) [some (.blk [.sl 1 ws.length cw, .int .i64 ((nxK ws k : Nat) : Int)]), some (wQ9 ws)]) :=
 enterM (n := 21) (by kernel_rfl) Tryz.func31 rfl rfl rfl fun G w a h0 A => N hX 9 A rfl rfl fun A => CALL1 [0, 1] (rpeek_ ws cw k hk hn) A rfl rfl rfl rfl rfl rfl rfl fun A => N hX 14 A rfl rfl fun A => forkD 11 A rfl
  (fun h1 A => N hX 13 A rfl (ok_d (by omega) <| okE_nil) fun A => N hX 8 A rfl rfl fun A => RETN hX A rfl rfl rfl h0 rfl rfl rfl rfl (by first | rfl | (rw [dec_t (p := k < ws.length) h1] <;> rfl)) (by unfold nxK; rw [if_pos h1] <;> rfl))
  (fun h1 A => N hX 12 A rfl rfl fun A => RETN hX A rfl rfl rfl h0 rfl rfl rfl rfl (by first | rfl | (rw [dec_f (p := k < ws.length) h1] <;> rfl)) (by unfold nxK; rw [if_neg h1] <;> rfl))
theorem rwhere_ (ws : List Tk) (cw : Nat) (k : Nat) (hk : k ≤ ws.length) (hn : ws.length ≤ 1000000) (hw : ∀ t ∈ ws, 0 ≤ t.at_ ∧ t.at_ ≤ 1000000 ∧ t.text.length ≤ 1000000) : Fn Tryz.prog 29 [.ptr 0 0] [some (.blk [.sl 1 ws.length cw, .int .i64 ((k : Nat) : Int)]), some (wQ9 ws)] (Rt (.int .i64 (atW ws k)) [some (.blk [.sl 1 ws.length cw, .int .i64 ((k : Nat) : Int)]), some (wQ9 ws)]) :=
 enterM (n := 49) (by kernel_rfl) Tryz.func29 rfl rfl rfl fun G w a h0 A => N hX 7 A rfl rfl fun A => DRAWN hX hmo [] [] A rfl rfl rfl rfl (by kernel_rfl) (effAll_nil _ _) trivial fun A => N hX 1 A rfl rfl fun A => forkD 13 A rfl
  (fun h1 A => N hX 2 A rfl rfl fun A => DRAWN hX hmo [] [] A rfl (ok_d (by omega) <| ok_d (by omega) <| ok_d (by omega) <| okE_nil) rfl rfl (by kernel_rfl) (effAll_nil _ _) trivial fun A => N hX 2 A rfl rfl fun A => RETN hX A rfl rfl rfl h0 rfl rfl rfl rfl (by unfold atW; rw [if_pos (show k < ws.length by omega)] <;> rfl) rfl)
  (fun h1 A => N hX 14 A rfl rfl fun A => forkE 30 A rfl
   (fun h2 A => N hX 7 A rfl rfl fun A => RETN hX A rfl rfl rfl h0 rfl rfl rfl rfl (by unfold atW; rw [if_neg (show ¬ k < ws.length by omega), if_pos (show ws.length = 0 by omega)] <;> rfl) rfl)
   (fun h2 A => N hX 4 A rfl rfl fun A => DRAWN hX hmo [] [] A rfl (ok_d (by omega) <| ok_d (by omega) <| ok_d (by omega) <| ok_d (by omega) <| ok_d (by omega) <| ok_d (by omega) <| okE_nil) rfl rfl (by kernel_rfl) (effAll_nil _ _) trivial fun A => N hX 13 A rfl (ok_d (by have := hw (ws.getD (((ws.length : Nat) : Int) - 1).toNat tok0) (tk_mem (by omega)); omega) <| okE_nil) fun A => RETN hX A rfl rfl rfl h0 rfl rfl rfl rfl (by unfold atW; rw [if_neg (show ¬ k < ws.length by omega), if_neg (show ¬ ws.length = 0 by omega), show ws.length - 1 = (((ws.length : Nat) : Int) - 1).toNat by omega] <;> rfl) rfl))
section
variable {ws : List Tk} {k : Nat} {m : List UInt8}
theorem tk_end (h : ws.length ≤ k) : tkB ws k m = false := by unfold tkB; rw [decide_eq_false (by omega)]; rfl
theorem rtk_no (hl : k < ws.length) (h : (((ws.getD k tok0).kind == 2) || (!((ws.getD k tok0).text == m))) = true) : tkB ws k m = false := by
  unfold tkB; revert h
  generalize decide (k < ws.length) = x; generalize ((ws.getD k tok0).kind == 2) = y; generalize ((ws.getD k tok0).text == m) = z
  cases x <;> cases y <;> cases z <;> intro h <;> first | rfl | cases h
theorem rtk_yes (hl : k < ws.length) (h : (((ws.getD k tok0).kind == 2) || (!((ws.getD k tok0).text == m))) = false) : tkB ws k m = true := by
  unfold tkB; rw [decide_eq_true hl]; revert h
  generalize ((ws.getD k tok0).kind == 2) = y; generalize ((ws.getD k tok0).text == m) = z
  cases y <;> cases z <;> intro h <;> first | rfl | cases h
end
theorem rtake_ (ws : List Tk) (cw : Nat) (k : Nat) (m : List UInt8) (hk : k ≤ ws.length) (hn : ws.length ≤ 1000000) : Fn Tryz.prog 176 [.ptr 0 0, .sl 2 1 0] [some (.blk [.sl 1 ws.length cw, .int .i64 ((k : Nat) : Int)]), some (wQ9 ws), some (.row 9 1 1 0 (fun _ => [.str m]))] (Rt (.bool (tkB ws k m)) [some (.blk [.sl 1 ws.length cw, .int .i64 ((tkK ws k m : Nat) : Int)]), some (wQ9 ws), some (.row 9 1 1 0 (fun _ => [.str m]))]) :=
 enterM (n := 60) (by kernel_rfl) Tryz.func176 rfl rfl rfl fun G w a h0 A => N hX 7 A rfl rfl fun A => DRAWN hX hmo [] [] A rfl (ok_d (by omega) <| okE_nil) rfl rfl (by kernel_rfl) (effAll_nil _ _) trivial fun A => N hX 1 A rfl rfl fun A => forkD 19 A rfl
  (fun h1 A => N hX 7 A rfl rfl fun A => RETN hX A rfl rfl rfl h0 rfl rfl rfl rfl (by have z : tkB ws k m = false := tk_end (by omega); rw [z]; rfl) (by have z : tkB ws k m = false := tk_end (by omega); unfold tkK; rw [z]; rfl))
  (fun h1 A => N hX 10 A rfl rfl fun A => LOOPU [(0, .ptr 0 0), (1, .sl 2 1 0), (4, .ff), (5, .int .i64 1)] [some (.blk [.sl 1 ws.length cw, .int .i64 ((k : Nat) : Int)]), some (wQ9 ws), some (.row 9 1 1 0 (fun _ => [.str m]))] (tkB ws k m = true) (A.cut [0, 1, 4, 5] rfl) (fun {G a w} A => N hX 9 A rfl rfl fun A => forkD 23 A rfl
    (fun h2 A => N hX 6 A rfl rfl fun A => DRAWN hX hmo [] [] A rfl (ok_d (by omega) <| ok_d (by omega) <| ok_d (by omega) <| ok_d (by omega) <| ok_d (by omega) <| ok_d (by omega) <| okE_nil) rfl rfl (by kernel_rfl) (effAll_nil _ _) trivial fun A => N hX 2 A rfl rfl fun A => DRAWN hX hmo [] [] A rfl (ok_r <| ok_r <| ok_r <| ok_g (fun hg => (by omega)) <| ok_r <| ok_g (fun hg => (by omega)) <| ok_r <| ok_r <| ok_r <| okE_nil) rfl rfl (by kernel_rfl) (effAll_nil _ _) trivial fun A => N hX 1 A rfl rfl fun A => fork 49 A rfl
     (fun h3 A => N hX 7 A rfl rfl fun A => RETN hX A rfl rfl rfl h0 rfl rfl rfl rfl (by have z : tkB ws k m = false := rtk_no (by omega) h3; rw [z]; rfl) (by have z : tkB ws k m = false := rtk_no (by omega) h3; unfold tkK; rw [z]; rfl))
     (fun h3 A => N hX 9 A rfl (ok_d (by omega) <| okE_nil) fun A => ⟨_, (rtk_yes (by omega) h3), ((A.cut [0, 1, 4, 5] rfl).trunc 3 rfl rfl rfl (by simp only [List.length_cons, List.length_nil] at h0; omega)).sayT rfl⟩))
    (fun h2 A => absurd (by decide) h2)) (fun hU {G a w} A => N hX 9 A rfl rfl fun A => forkD 23 A rfl
    (fun h4 A => absurd h4 (by decide))
    (fun h4 A => N hX 19 A rfl (ok_d (by omega) <| okE_nil) fun A => N hX 5 A rfl rfl fun A => RETN hX A rfl rfl rfl h0 rfl rfl rfl rfl (by rw [hU]; rfl) (by unfold tkK; rw [if_pos hU]; rfl))))
theorem rmark_ (ws : List Tk) (cw : Nat) (k : Nat) (m : List UInt8) (hk : k ≤ ws.length) (hn : ws.length ≤ 1000000) : Fn Tryz.prog 121 [.ptr 0 0, .str m] [some (.blk [.sl 1 ws.length cw, .int .i64 ((k : Nat) : Int)]), some (wQ9 ws)] (Rt (.bool (tkB ws k m)) [some (.blk [.sl 1 ws.length cw, .int .i64 ((tkK ws k m : Nat) : Int)]), some (wQ9 ws)]) :=
 enterM (n := 12) (by kernel_rfl) Tryz.func121 rfl rfl rfl fun G w a h0 A => N hX 16 A rfl rfl fun A => have A := A.nilRow 7 9 1 (fun _ => [.str m]) rfl (fun z => ⟨_, rfl, rfl⟩); APP1 hX 1 (fun _ => [.str m]) A rfl rfl rfl rfl (by decide) rfl (fun k hk => rfl) rfl (fun z => ⟨_, rfl, rfl⟩) fun A => CALL1 [0, 1, 4] (rtake_ ws cw k m hk hn) A rfl rfl rfl rfl rfl rfl rfl fun A => N hX 4 A rfl rfl fun A => RETN hX A rfl rfl rfl h0 rfl rfl rfl rfl rfl rfl
theorem nd_t {p : Prop} [Decidable p] (h : (!(decide p)) = true) : ¬ p := by simpa using h
theorem nd_f {p : Prop} [Decidable p] (h : (!(decide p)) = false) : p := by simpa using h
def regG (rf : List UInt8 → Int) (L : List Tk) (s : Old.Rs) : Old.Rs × Int := if s.e == 0 then (match L[s.p]? with
    | some y => if (y.kind == 1) && !decide (rf y.text < 0) then (⟨s.e, s.a, s.p + 1⟩, rf y.text) else (Old.oddR L true s, -1)
    | none => (Old.oddR L true s, -1)) else (s, -1)
def isR (L : List Tk) (s : Old.Rs) (m : List UInt8) : Bool := (s.e == 0) && Old.reads L m s.p
section
variable {ws : List Tk} {k : Nat} {m : List UInt8} {s : Old.Rs} {x y : Int} {u : Bool} {rf : List UInt8 → Int}
theorem tk_get (h : k < ws.length) : ws[k]? = some (ws.getD k tok0) := by rw [List.getD_eq_getElem?_getD, List.getElem?_eq_getElem h]; rfl
theorem tk_non (h : ¬ k < ws.length) : ws[k]? = none := List.getElem?_eq_none (by omega)
theorem reads_tk : Old.reads ws m k = tkB ws k m := by
  unfold Old.reads tkB
  by_cases h : k < ws.length
  · rw [tk_get h, decide_eq_true h]; rfl
  · rw [tk_non h, decide_eq_false h]; rfl
theorem where_at (hw : WsOK ws) : Old.whereR ws k = atW ws k := by
  unfold Old.whereR atW
  by_cases h : k < ws.length
  · rw [tk_get h, if_pos h]
  · rw [tk_non h, if_neg h]
    by_cases h0 : ws.length = 0
    · rw [if_pos h0, tk_non (by omega)]
    · rw [if_neg h0, tk_get (by omega)]
      have := hw _ (tk_mem (ws := ws) (k := ws.length - 1) (by omega))
      exact wrap_in ⟨by omega, by omega⟩
theorem nxK_y (h : k < ws.length) : nxK ws k = k + 1 := by unfold nxK; rw [if_pos h]
theorem fail_y (h : s.e = 0) : Old.failR s x y = ⟨x, y, s.p⟩ := by unfold Old.failR; rw [if_pos (beq_iff_eq.2 h)]
theorem fail_n (h : s.e ≠ 0) : Old.failR s x y = s := by unfold Old.failR; rw [if_neg (fun e => h (eq_of_beq e))]
theorem fail_p : (Old.failR s x y).p = s.p := by unfold Old.failR; split <;> rfl
theorem fail_le (h : s.p ≤ ws.length) : (Old.failR s x y).p ≤ ws.length := by rw [fail_p]; exact h
theorem odd_e (hw : WsOK ws) (h : ¬ s.p < ws.length) : Old.oddR ws u s = Old.failR s 24 (atW ws s.p) := by unfold Old.oddR; rw [tk_non h]; simp only [where_at hw]
theorem odd_w (h : s.p < ws.length) (h1 : (ws.getD s.p tok0).kind = 1) : Old.oddR ws true s = Old.failR s 21 (ws.getD s.p tok0).at_ := by unfold Old.oddR; rw [tk_get h]; simp only [h1]; rfl
theorem odd_f (h : s.p < ws.length) (h1 : (ws.getD s.p tok0).kind ≠ 1) : Old.oddR ws true s = Old.failR s 22 (ws.getD s.p tok0).at_ := by
  unfold Old.oddR; rw [tk_get h]
  have : ((ws.getD s.p tok0).kind == 1) = false := beq_eq_false_iff_ne.2 h1
  simp only [this]; rfl
theorem odd_g (h : s.p < ws.length) : Old.oddR ws false s = Old.failR s 22 (ws.getD s.p tok0).at_ := by unfold Old.oddR; rw [tk_get h]; rfl
theorem odd_p : (Old.oddR ws u s).p = s.p := by
  unfold Old.oddR; split
  · exact fail_p
  · split <;> exact fail_p
theorem odd_le (h : s.p ≤ ws.length) : (Old.oddR ws u s).p ≤ ws.length := by rw [odd_p]; exact h
theorem odd_ne (h : s.e = 0) : (Old.oddR ws u s).e ≠ 0 := by
  unfold Old.oddR; split
  · rw [fail_y h]; exact (by decide : (24 : Int) ≠ 0)
  · split
    · rw [fail_y h]; exact (by decide : (21 : Int) ≠ 0)
    · rw [fail_y h]; exact (by decide : (22 : Int) ≠ 0)
theorem tkK_n (h : tkB ws k m = false) : tkK ws k m = k := by unfold tkK; rw [h]; rfl
theorem tkK_y (h : tkB ws k m = true) : tkK ws k m = k + 1 := by unfold tkK; rw [h]; rfl
theorem mark_y (h : s.e = 0) (hb : tkB ws s.p m = true) : Old.markR ws m s = ⟨s.e, s.a, tkK ws s.p m⟩ := by unfold Old.markR; rw [if_pos (beq_iff_eq.2 h), reads_tk, if_pos hb, tkK_y hb]
theorem mark_n (h : s.e = 0) (hb : tkB ws s.p m = false) : Old.markR ws m s = Old.oddR ws false ⟨s.e, s.a, tkK ws s.p m⟩ := by unfold Old.markR; rw [if_pos (beq_iff_eq.2 h), reads_tk, if_neg (by rw [hb]; decide), tkK_n hb]
theorem mark_s (h : s.e ≠ 0) : Old.markR ws m s = s := by unfold Old.markR; rw [if_neg (fun e => h (eq_of_beq e))]
theorem mark_le (h : s.p ≤ ws.length) : (Old.markR ws m s).p ≤ ws.length := by
  by_cases he : s.e = 0
  · cases hb : tkB ws s.p m with
    | true => rw [mark_y he hb]; exact tkK_le h
    | false => rw [mark_n he hb]; exact odd_le (tkK_le h)
  · rw [mark_s he]; exact h
theorem is_is : ((((s.e == 0) && decide (s.p < ws.length)) && (!((ws.getD s.p tok0).kind == 2))) && ((ws.getD s.p tok0).text == m)) = isR ws s m := by
  unfold isR; rw [reads_tk]; unfold tkB
  cases (s.e == 0) <;> cases decide (s.p < ws.length) <;> cases ((ws.getD s.p tok0).kind == 2) <;> rfl
theorem reg_s (h : s.e ≠ 0) : regG rf ws s = (s, -1) := by unfold regG; rw [if_neg (fun e => h (eq_of_beq e))]
theorem reg_n (h : s.e = 0) (hb : (((!(decide (s.p < ws.length))) || (!((ws.getD s.p tok0).kind == 1))) || (decide (rf (ws.getD s.p tok0).text < 0))) = true) : regG rf ws s = (Old.oddR ws true s, -1) := by
  unfold regG; rw [if_pos (beq_iff_eq.2 h)]
  by_cases hl : s.p < ws.length
  · rw [tk_get hl]
    rw [decide_eq_true hl] at hb
    simp only
    rw [if_neg]
    revert hb
    cases ((ws.getD s.p tok0).kind == 1) <;> cases decide (rf (ws.getD s.p tok0).text < 0) <;> decide
  · rw [tk_non hl]
theorem reg_y (h : s.e = 0) (hb : (((!(decide (s.p < ws.length))) || (!((ws.getD s.p tok0).kind == 1))) || (decide (rf (ws.getD s.p tok0).text < 0))) = false) : regG rf ws s = (⟨s.e, s.a, nxK ws s.p⟩, rf (ws.getD s.p tok0).text) := by
  unfold regG; rw [if_pos (beq_iff_eq.2 h)]
  by_cases hl : s.p < ws.length
  · rw [tk_get hl, nxK_y hl]
    rw [decide_eq_true hl] at hb
    simp only
    rw [if_pos]
    revert hb
    cases ((ws.getD s.p tok0).kind == 1) <;> cases decide (rf (ws.getD s.p tok0).text < 0) <;> decide
  · rw [decide_eq_false hl] at hb; cases hb
theorem regG_le (h : s.p ≤ ws.length) : (regG rf ws s).1.p ≤ ws.length := by
  by_cases he : s.e = 0
  · cases hb : (((!(decide (s.p < ws.length))) || (!((ws.getD s.p tok0).kind == 1))) || (decide (rf (ws.getD s.p tok0).text < 0))) with
    | true => rw [reg_n he hb]; exact odd_le h
    | false => rw [reg_y he hb]; exact nxK_le h
  · rw [reg_s he]; exact h
theorem num_s (h : s.e ≠ 0) : Old.numS ws s = (s, 0) := by unfold Old.numS; rw [if_neg (fun e => h (eq_of_beq e))]
theorem numM (h : s.e = 0) : Old.numS ws s = Old.numE ws (tkB ws s.p [45]) ⟨s.e, s.a, tkK ws s.p [45]⟩ := by
  unfold Old.numS; rw [if_pos (beq_iff_eq.2 h), reads_tk]
  cases hb : tkB ws s.p [45] with
  | true => rw [if_pos rfl, tkK_y hb]
  | false => rw [if_neg (by decide), tkK_n hb]
theorem numE_n {mi : Bool} (hb : ((!(decide (s.p < ws.length))) || (!((ws.getD s.p tok0).kind == 2))) = true) : Old.numE ws mi s = (Old.oddR ws false s, 0) := by
  unfold Old.numE
  by_cases hl : s.p < ws.length
  · rw [tk_get hl]
    rw [decide_eq_true hl] at hb
    simp only
    rw [if_neg]
    revert hb
    cases ((ws.getD s.p tok0).kind == 2) <;> decide
  · rw [tk_non hl]
theorem numE_y {mi : Bool} (hb : ((!(decide (s.p < ws.length))) || (!((ws.getD s.p tok0).kind == 2))) = false) : Old.numE ws mi s = (⟨s.e, s.a, nxK ws s.p⟩, if mi = true then IntKind.wrap .i64 (0 - (ws.getD s.p tok0).n) else (ws.getD s.p tok0).n) := by
  unfold Old.numE
  by_cases hl : s.p < ws.length
  · rw [tk_get hl, nxK_y hl]
    rw [decide_eq_true hl] at hb
    simp only
    rw [if_pos, Int.zero_sub]
    revert hb
    cases ((ws.getD s.p tok0).kind == 2) <;> decide
  · rw [decide_eq_false hl] at hb; cases hb
theorem num_le (h : s.p ≤ ws.length) : (Old.numS ws s).1.p ≤ ws.length := by
  by_cases he : s.e = 0
  · rw [numM he]
    have hk : (⟨s.e, s.a, tkK ws s.p [45]⟩ : Old.Rs).p ≤ ws.length := tkK_le h
    generalize (⟨s.e, s.a, tkK ws s.p [45]⟩ : Old.Rs) = z at hk ⊢
    cases hb : ((!(decide (z.p < ws.length))) || (!((ws.getD z.p tok0).kind == 2))) with
    | true => rw [numE_n hb]; exact odd_le hk
    | false => rw [numE_y hb]; exact nxK_le hk
  · rw [num_s he]; exact h
theorem lab_s (h : s.e ≠ 0) : Old.labR ws s = (s, []) := by unfold Old.labR; rw [if_neg (fun e => h (eq_of_beq e))]
theorem lab_n (h : s.e = 0) (hb : ((!(decide (s.p < ws.length))) || (!((ws.getD s.p tok0).kind == 1))) = true) : Old.labR ws s = (Old.oddR ws false s, []) := by
  unfold Old.labR; rw [if_pos (beq_iff_eq.2 h)]
  by_cases hl : s.p < ws.length
  · rw [tk_get hl]
    rw [decide_eq_true hl] at hb
    simp only
    rw [if_neg]
    revert hb
    cases ((ws.getD s.p tok0).kind == 1) <;> decide
  · rw [tk_non hl]
theorem lab_y (h : s.e = 0) (hb : ((!(decide (s.p < ws.length))) || (!((ws.getD s.p tok0).kind == 1))) = false) : Old.labR ws s = (⟨s.e, s.a, nxK ws s.p⟩, (ws.getD s.p tok0).text) := by
  unfold Old.labR; rw [if_pos (beq_iff_eq.2 h)]
  by_cases hl : s.p < ws.length
  · rw [tk_get hl, nxK_y hl]
    rw [decide_eq_true hl] at hb
    simp only
    rw [if_pos]
    revert hb
    cases ((ws.getD s.p tok0).kind == 1) <;> decide
  · rw [decide_eq_false hl] at hb; cases hb
theorem lab_le (h : s.p ≤ ws.length) : (Old.labR ws s).1.p ≤ ws.length := by
  by_cases he : s.e = 0
  · cases hb : ((!(decide (s.p < ws.length))) || (!((ws.getD s.p tok0).kind == 1))) with
    | true => rw [lab_n he hb]; exact odd_le h
    | false => rw [lab_y he hb]; exact nxK_le h
  · rw [lab_s he]; exact h
end
theorem rfail_ (ar : Int) (ws : List Tk) (cw : Nat) (s : Old.Rs) (x : Int) (y : Int) (hk : s.p ≤ ws.length) (hn : ws.length ≤ 1000000) (hw : WsOK ws) : Fn Tryz.prog 36 [.ptr 0 0, .int .i64 x, .int .i64 y] [some (.blk [.int .i64 ar, .ptr 1 0, .int .i64 s.e, .int .i64 s.a]), some (.blk [.sl 2 ws.length cw, .int .i64 ((s.p : Nat) : Int)]), some (wQ9 ws)] (Rt (.tup []) [some (.blk [.int .i64 ar, .ptr 1 0, .int .i64 ((Old.failR s x y).e), .int .i64 ((Old.failR s x y).a)]), some (.blk [.sl 2 ws.length cw, .int .i64 (((Old.failR s x y).p : Nat) : Int)]), some (wQ9 ws)]) :=
 enterM (n := 19) (by kernel_rfl) Tryz.func36 rfl rfl rfl fun G w a h0 A => N hX 9 A rfl rfl fun A => forkE 10 A rfl
  (fun h1 A => N hX 17 A rfl rfl fun A => ENDN (RETN hX A rfl rfl rfl h0 rfl rfl rfl rfl rfl (by rw [fail_y h1] <;> rfl)))
  (fun h1 A => N hX 2 A rfl rfl fun A => ENDN (RETN hX A rfl rfl rfl h0 rfl rfl rfl rfl rfl (by rw [fail_n h1] <;> rfl)))
theorem roddT_ (ar : Int) (ws : List Tk) (cw : Nat) (s : Old.Rs) (hk : s.p ≤ ws.length) (hn : ws.length ≤ 1000000) (hw : WsOK ws) : Fn Tryz.prog 30 [.ptr 0 0, .tt] [some (.blk [.int .i64 ar, .ptr 1 0, .int .i64 s.e, .int .i64 s.a]), some (.blk [.sl 2 ws.length cw, .int .i64 ((s.p : Nat) : Int)]), some (wQ9 ws)] (Rt (.tup []) [some (.blk [.int .i64 ar, .ptr 1 0, .int .i64 ((Old.oddR ws true s).e), .int .i64 ((Old.oddR ws true s).a)]), some (.blk [.sl 2 ws.length cw, .int .i64 (((Old.oddR ws true s).p : Nat) : Int)]), some (wQ9 ws)]) :=
 enterM (n := 39) (by kernel_rfl) Tryz.func30 rfl rfl rfl fun G w a h0 A => N hX 6 A rfl rfl fun A => CALL1 [1, 2] (rpeek_ ws cw s.p hk hn) A rfl rfl rfl rfl rfl rfl rfl fun A => N hX 16 A rfl rfl fun A => fork 18 A rfl
  (fun h1 A => N hX 7 A rfl rfl fun A => CALL1 [1, 2] (rwhere_ ws cw s.p hk hn hw) A rfl rfl rfl rfl rfl rfl rfl fun A => CALL1 [0, 1, 2] (rfail_ ar ws cw s 24 (atW ws s.p) hk hn hw) A rfl rfl rfl rfl rfl rfl rfl fun A => N hX 2 A rfl rfl fun A => ENDN (RETN hX A rfl rfl rfl h0 rfl rfl rfl rfl rfl (by rw [odd_e hw (nd_t h1)] <;> rfl)))
  (fun h1 A => N hX 12 A rfl rfl fun A => forkE 28 A rfl
   (fun h2 A => N hX 5 A rfl rfl fun A => CALL1 [0, 1, 2] (rfail_ ar ws cw s 21 ((ws.getD s.p tok0).at_) hk hn hw) A rfl rfl rfl rfl rfl rfl rfl fun A => N hX 2 A rfl rfl fun A => ENDN (RETN hX A rfl rfl rfl h0 rfl rfl rfl rfl rfl (by rw [odd_w (nd_f h1) h2] <;> rfl)))
   (fun h2 A => N hX 5 A rfl rfl fun A => CALL1 [0, 1, 2] (rfail_ ar ws cw s 22 ((ws.getD s.p tok0).at_) hk hn hw) A rfl rfl rfl rfl rfl rfl rfl fun A => N hX 2 A rfl rfl fun A => ENDN (RETN hX A rfl rfl rfl h0 rfl rfl rfl rfl rfl (by rw [odd_f (nd_f h1) h2] <;> rfl))))
theorem roddF_ (ar : Int) (ws : List Tk) (cw : Nat) (s : Old.Rs) (hk : s.p ≤ ws.length) (hn : ws.length ≤ 1000000) (hw : WsOK ws) : Fn Tryz.prog 30 [.ptr 0 0, .ff] [some (.blk [.int .i64 ar, .ptr 1 0, .int .i64 s.e, .int .i64 s.a]), some (.blk [.sl 2 ws.length cw, .int .i64 ((s.p : Nat) : Int)]), some (wQ9 ws)] (Rt (.tup []) [some (.blk [.int .i64 ar, .ptr 1 0, .int .i64 ((Old.oddR ws false s).e), .int .i64 ((Old.oddR ws false s).a)]), some (.blk [.sl 2 ws.length cw, .int .i64 (((Old.oddR ws false s).p : Nat) : Int)]), some (wQ9 ws)]) :=
 enterM (n := 39) (by kernel_rfl) Tryz.func30 rfl rfl rfl fun G w a h0 A => N hX 6 A rfl rfl fun A => CALL1 [1, 2] (rpeek_ ws cw s.p hk hn) A rfl rfl rfl rfl rfl rfl rfl fun A => N hX 16 A rfl rfl fun A => fork 18 A rfl
  (fun h1 A => N hX 7 A rfl rfl fun A => CALL1 [1, 2] (rwhere_ ws cw s.p hk hn hw) A rfl rfl rfl rfl rfl rfl rfl fun A => CALL1 [0, 1, 2] (rfail_ ar ws cw s 24 (atW ws s.p) hk hn hw) A rfl rfl rfl rfl rfl rfl rfl fun A => N hX 2 A rfl rfl fun A => ENDN (RETN hX A rfl rfl rfl h0 rfl rfl rfl rfl rfl (by rw [odd_e hw (nd_t h1)] <;> rfl)))
  (fun h1 A => N hX 17 A rfl rfl fun A => CALL1 [0, 1, 2] (rfail_ ar ws cw s 22 ((ws.getD s.p tok0).at_) hk hn hw) A rfl rfl rfl rfl rfl rfl rfl fun A => N hX 2 A rfl rfl fun A => ENDN (RETN hX A rfl rfl rfl h0 rfl rfl rfl rfl rfl (by rw [odd_g (nd_f h1)] <;> rfl)))
theorem rmk_ (ar : Int) (ws : List Tk) (cw : Nat) (s : Old.Rs) (m : List UInt8) (hk : s.p ≤ ws.length) (hn : ws.length ≤ 1000000) (hw : WsOK ws) : Fn Tryz.prog 78 [.ptr 0 0, .str m] [some (.blk [.int .i64 ar, .ptr 1 0, .int .i64 s.e, .int .i64 s.a]), some (.blk [.sl 2 ws.length cw, .int .i64 ((s.p : Nat) : Int)]), some (wQ9 ws)] (Rt (.tup []) [some (.blk [.int .i64 ar, .ptr 1 0, .int .i64 ((Old.markR ws m s).e), .int .i64 ((Old.markR ws m s).a)]), some (.blk [.sl 2 ws.length cw, .int .i64 (((Old.markR ws m s).p : Nat) : Int)]), some (wQ9 ws)]) :=
 enterM (n := 20) (by kernel_rfl) Tryz.func78 rfl rfl rfl fun G w a h0 A => N hX 8 A rfl rfl fun A => forkE 9 A rfl
  (fun h1 A => N hX 5 A rfl rfl fun A => CALL1 [1, 2] (rmark_ ws cw s.p m hk hn) A rfl rfl rfl rfl rfl rfl rfl fun A => N hX 4 A rfl rfl fun A => fork 17 A rfl
   (fun h2 A => N hX 3 A rfl rfl fun A => CALL1 [0, 1, 2] (roddF_ ar ws cw (⟨s.e, s.a, tkK ws s.p m⟩ : Old.Rs) (tkK_le hk) hn hw) A rfl rfl rfl rfl rfl rfl rfl fun A => N hX 1 A rfl rfl fun A => ENDN (RETN hX A rfl rfl rfl h0 rfl rfl rfl rfl rfl (by rw [mark_n h1 (by simpa using h2)] <;> rfl)))
   (fun h2 A => N hX 2 A rfl rfl fun A => ENDN (RETN hX A rfl rfl rfl h0 rfl rfl rfl rfl rfl (by rw [mark_y h1 (by simpa using h2)] <;> rfl))))
  (fun h1 A => N hX 12 A rfl rfl fun A => ENDN (RETN hX A rfl rfl rfl h0 rfl rfl rfl rfl rfl (by rw [mark_s h1] <;> rfl)))
theorem ris_ (ar : Int) (ws : List Tk) (cw : Nat) (s : Old.Rs) (m : List UInt8) (hk : s.p ≤ ws.length) (hn : ws.length ≤ 1000000) (hw : WsOK ws) : Fn Tryz.prog 81 [.ptr 0 0, .str m] [some (.blk [.int .i64 ar, .ptr 1 0, .int .i64 s.e, .int .i64 s.a]), some (.blk [.sl 2 ws.length cw, .int .i64 ((s.p : Nat) : Int)]), some (wQ9 ws)] (Rt (.bool (isR ws s m)) [some (.blk [.int .i64 ar, .ptr 1 0, .int .i64 s.e, .int .i64 s.a]), some (.blk [.sl 2 ws.length cw, .int .i64 ((s.p : Nat) : Int)]), some (wQ9 ws)]) :=
 enterM (n := 34) (by kernel_rfl) Tryz.func81 rfl rfl rfl fun G w a h0 A => N hX 11 A rfl rfl fun A => CALL1 [1, 2] (rpeek_ ws cw s.p hk hn) A rfl rfl rfl rfl rfl rfl rfl fun A => N hX 33 A rfl rfl fun A => RETN hX A rfl rfl rfl h0 rfl rfl rfl rfl (by rw [← is_is] <;> rfl) rfl
theorem rreg_ (ar : Int) (ws : List Tk) (cw : Nat) (s : Old.Rs) (hk : s.p ≤ ws.length) (hn : ws.length ≤ 1000000) (hw : WsOK ws) (rf : List UInt8 → Int) (hrf : ∀ q : List UInt8, Fn Tryz.prog 17 [.int .i64 ar, .str q] [] (Rt (.int .i64 (rf q)) [])) : Fn Tryz.prog 77 [.ptr 0 0] [some (.blk [.int .i64 ar, .ptr 1 0, .int .i64 s.e, .int .i64 s.a]), some (.blk [.sl 2 ws.length cw, .int .i64 ((s.p : Nat) : Int)]), some (wQ9 ws)] (Rt (.int .i64 ((regG rf ws s).2)) [some (.blk [.int .i64 ar, .ptr 1 0, .int .i64 (((regG rf ws s).1).e), .int .i64 (((regG rf ws s).1).a)]), some (.blk [.sl 2 ws.length cw, .int .i64 ((((regG rf ws s).1).p : Nat) : Int)]), some (wQ9 ws)]) :=
 enterM (n := 49) (by kernel_rfl) Tryz.func77 rfl rfl rfl fun G w a h0 A => N hX 11 A rfl rfl fun A => CALL1 [1, 2] (rpeek_ ws cw s.p hk hn) A rfl rfl rfl rfl rfl rfl rfl fun A => N hX 18 A rfl rfl fun A => forkN 17 A rfl
  (fun h1 A => N hX 7 A rfl rfl fun A => RETN hX A rfl rfl rfl h0 rfl rfl rfl rfl (by rw [reg_s h1] <;> rfl) (by rw [reg_s h1] <;> rfl))
  (fun h1 A => N hX 5 A rfl rfl fun A => DRAWN hX hmo [(14, .opt (!((!(decide (s.p < ws.length))) || (!(((ws.getD s.p tok0).kind) == 1)))) (.int .i64 (rf ((ws.getD s.p tok0).text))))] [] A rfl rfl rfl rfl (by kernel_rfl) (effAll_nil _ _) ⟨.inr ⟨_, _, _, _, _, _, rfl, rfl, rfl, rfl, rfl, fun hg => hrf ((ws.getD s.p tok0).text)⟩, trivial⟩ fun A => N hX 1 A rfl rfl fun A => fork 34 A rfl
   (fun h2 A => N hX 4 A rfl rfl fun A => CALL1 [0, 1, 2] (roddT_ ar ws cw s hk hn hw) A rfl rfl rfl rfl rfl rfl rfl fun A => N hX 8 A rfl rfl fun A => RETN hX A rfl rfl rfl h0 rfl rfl rfl rfl (by rw [reg_n h1 h2] <;> rfl) (by rw [reg_n h1 h2] <;> rfl))
   (fun h2 A => N hX 9 A rfl rfl fun A => CALL1 [1, 2] (rnext_ ws cw s.p hk hn) A rfl rfl rfl rfl rfl rfl rfl fun A => N hX 3 A rfl rfl fun A => DRAWN hX hmo [(6, .int .i64 (rf ((ws.getD s.p tok0).text)))] [] A rfl rfl rfl rfl (by kernel_rfl) (effAll_nil _ _) ⟨.inl ⟨_, _, rfl, rfl, hrf ((ws.getD s.p tok0).text)⟩, trivial⟩ fun A => N hX 2 A rfl rfl fun A => RETN hX A rfl rfl rfl h0 rfl rfl rfl rfl (by rw [reg_y h1 h2] <;> rfl) (by rw [reg_y h1 h2] <;> rfl)))
theorem rnum_ (ar : Int) (ws : List Tk) (cw : Nat) (s : Old.Rs) (hk : s.p ≤ ws.length) (hn : ws.length ≤ 1000000) (hw : WsOK ws) : Fn Tryz.prog 140 [.ptr 0 0] [some (.blk [.int .i64 ar, .ptr 1 0, .int .i64 s.e, .int .i64 s.a]), some (.blk [.sl 2 ws.length cw, .int .i64 ((s.p : Nat) : Int)]), some (wQ9 ws)] (Rt (.int .i64 ((Old.numS ws s).2)) [some (.blk [.int .i64 ar, .ptr 1 0, .int .i64 (((Old.numS ws s).1).e), .int .i64 (((Old.numS ws s).1).a)]), some (.blk [.sl 2 ws.length cw, .int .i64 ((((Old.numS ws s).1).p : Nat) : Int)]), some (wQ9 ws)]) :=
 enterM (n := 44) (by kernel_rfl) Tryz.func140 rfl rfl rfl fun G w a h0 A => N hX 15 A rfl rfl fun A => forkN 10 A rfl
  (fun h1 A => N hX 7 A rfl rfl fun A => RETN hX A rfl rfl rfl h0 rfl rfl rfl rfl (by rw [num_s h1] <;> rfl) (by rw [num_s h1] <;> rfl))
  (fun h1 A => N hX 9 A rfl rfl fun A => CALL1 [1, 2] (rmark_ ws cw s.p [45] hk hn) A rfl rfl rfl rfl rfl rfl rfl fun A => N hX 9 A rfl rfl fun A => CALL1 [1, 2] (rpeek_ ws cw (tkK ws s.p [45]) (tkK_le hk) hn) A rfl rfl rfl rfl rfl rfl rfl fun A => N hX 20 A rfl rfl fun A => fork 30 A rfl
   (fun h2 A => N hX 4 A rfl rfl fun A => CALL1 [0, 1, 2] (roddF_ ar ws cw (⟨s.e, s.a, tkK ws s.p [45]⟩ : Old.Rs) (tkK_le hk) hn hw) A rfl rfl rfl rfl rfl rfl rfl fun A => N hX 8 A rfl rfl fun A => RETN hX A rfl rfl rfl h0 rfl rfl rfl rfl (by rw [numM h1, numE_n h2] <;> rfl) (by rw [numM h1, numE_n h2] <;> rfl))
   (fun h2 A => N hX 9 A rfl rfl fun A => CALL1 [1, 2] (rnext_ ws cw (tkK ws s.p [45]) (tkK_le hk) hn) A rfl rfl rfl rfl rfl rfl rfl fun A => N hX 8 A rfl rfl fun A => fork 38 A rfl
    (fun h3 A => N hX 10 A rfl rfl fun A => RETN hX A rfl rfl rfl h0 rfl rfl rfl rfl (by rw [numM h1, numE_y h2]; simp only [h3, if_true, if_false, Bool.false_eq_true] <;> rfl) (by rw [numM h1, numE_y h2] <;> rfl))
    (fun h3 A => N hX 11 A rfl rfl fun A => RETN hX A rfl rfl rfl h0 rfl rfl rfl rfl (by rw [numM h1, numE_y h2]; simp only [h3, if_true, if_false, Bool.false_eq_true] <;> rfl) (by rw [numM h1, numE_y h2] <;> rfl))))
theorem rlab_ (ar : Int) (ws : List Tk) (cw : Nat) (s : Old.Rs) (hk : s.p ≤ ws.length) (hn : ws.length ≤ 1000000) (hw : WsOK ws) : Fn Tryz.prog 142 [.ptr 0 0] [some (.blk [.int .i64 ar, .ptr 1 0, .int .i64 s.e, .int .i64 s.a]), some (.blk [.sl 2 ws.length cw, .int .i64 ((s.p : Nat) : Int)]), some (wQ9 ws)] (Rt (.str ((Old.labR ws s).2)) [some (.blk [.int .i64 ar, .ptr 1 0, .int .i64 (((Old.labR ws s).1).e), .int .i64 (((Old.labR ws s).1).a)]), some (.blk [.sl 2 ws.length cw, .int .i64 ((((Old.labR ws s).1).p : Nat) : Int)]), some (wQ9 ws)]) :=
 enterM (n := 34) (by kernel_rfl) Tryz.func142 rfl rfl rfl fun G w a h0 A => N hX 11 A rfl rfl fun A => CALL1 [1, 2] (rpeek_ ws cw s.p hk hn) A rfl rfl rfl rfl rfl rfl rfl fun A => N hX 18 A rfl rfl fun A => forkN 17 A rfl
  (fun h1 A => N hX 7 A rfl rfl fun A => RETN hX A rfl rfl rfl h0 rfl rfl rfl rfl (by rw [lab_s h1] <;> rfl) (by rw [lab_s h1] <;> rfl))
  (fun h1 A => N hX 15 A rfl rfl fun A => fork 24 A rfl
   (fun h2 A => N hX 4 A rfl rfl fun A => CALL1 [0, 1, 2] (roddF_ ar ws cw s hk hn hw) A rfl rfl rfl rfl rfl rfl rfl fun A => N hX 8 A rfl rfl fun A => RETN hX A rfl rfl rfl h0 rfl rfl rfl rfl (by rw [lab_n h1 h2] <;> rfl) (by rw [lab_n h1 h2] <;> rfl))
   (fun h2 A => N hX 9 A rfl rfl fun A => CALL1 [1, 2] (rnext_ ws cw s.p hk hn) A rfl rfl rfl rfl rfl rfl rfl fun A => N hX 10 A rfl rfl fun A => RETN hX A rfl rfl rfl h0 rfl rfl rfl rfl (by rw [lab_y h1 h2] <;> rfl) (by rw [lab_y h1 h2] <;> rfl)))
abbrev oiQ9 (i : Old.Ins) : List SV := [.int .i64 i.op, .int .i64 i.dst, .int .i64 i.a, .int .i64 i.b, .int .i64 i.imm, .int .i64 i.loc, .int .i64 i.off, .int .i64 i.index, .int .i64 i.size, .int .i64 i.fn, .bool i.acq, .bool i.weak, .bool i.rel, .int .i64 i.pred, .int .i64 i.succ, .int .i64 i.to, .bool i.zero]
def idxG (rf : List UInt8 → Int) (L : List Tk) (s : Old.Rs) (i : Old.Ins) : Old.Rs × Old.Ins := ((regG rf L s).1, { i with index := (regG rf L s).2 })
def offG (rf : List UInt8 → Int) (L : List Tk) (s : Old.Rs) (i : Old.Ins) : Old.Rs × Old.Ins := if Old.plusR L s then idxG rf L ⟨s.e, s.a, s.p + 1⟩ i else (s, i)
def memEG (rf : List UInt8 → Int) (L : List Tk) (s : Old.Rs) (i : Old.Ins) : Old.Rs × Old.Ins := if Old.plusR L s then (match L[s.p + 1]? with
    | some y => if y.kind == 2 then offG rf L ⟨s.e, s.a, s.p + 1 + 1⟩ { i with off := y.n } else idxG rf L ⟨s.e, s.a, s.p + 1⟩ i
    | none => idxG rf L ⟨s.e, s.a, s.p + 1⟩ i) else (s, i)
def memIG (rf : List UInt8 → Int) (L : List Tk) (s : Old.Rs) (i : Old.Ins) : Old.Rs × Old.Ins := if s.e == 0 then (match L[s.p]? with
    | some y => if (y.kind == 1) && !decide (Old.locF y.text < 0) then Old.closeR L (memEG rf L ⟨s.e, s.a, s.p + 1⟩ { i with loc := Old.locF y.text }) else (Old.oddR L true s, i)
    | none => (Old.oddR L true s, i)) else (s, i)
def memG (rf : List UInt8 → Int) (L : List Tk) (s : Old.Rs) (i : Old.Ins) : Old.Rs × Old.Ins := memIG rf L (Old.markR L [91] s) i
def branG (rf : List UInt8 → Int) (L : List Tk) (s : Old.Rs) (i : Old.Ins) (z : Bool) : List UInt8 × Old.Rs × Old.Ins := ((Old.labR L (Old.markR L [44] (regG rf L s).1)).2, (Old.labR L (Old.markR L [44] (regG rf L s).1)).1, (Old.Ins.mk 9 i.dst ((regG rf L s).2) i.b i.imm i.loc i.off i.index i.size i.fn i.acq i.weak i.rel i.pred i.succ i.to z))
section
variable {ws : List Tk} {k : Nat} {m : List UInt8} {s : Old.Rs} {i : Old.Ins} {rf : List UInt8 → Int}
theorem isR_lt (h : isR ws s m = true) : s.e = 0 ∧ s.p < ws.length := by
  unfold isR at h; rw [Bool.and_eq_true, reads_tk] at h; exact ⟨eq_of_beq h.1, tk_lt h.2⟩
theorem gmem_s (h : s.e ≠ 0) : memIG rf ws s i = (s, i) := by unfold memIG; rw [if_neg (fun e => h (eq_of_beq e))]
theorem gmem_o (h : s.e = 0) (hb : (((!(decide (s.p < ws.length))) || (!((ws.getD s.p tok0).kind == 1))) || (decide (Old.locF (ws.getD s.p tok0).text < 0))) = true) : memIG rf ws s i = (Old.oddR ws true s, i) := by
  unfold memIG; rw [if_pos (beq_iff_eq.2 h)]
  by_cases hl : s.p < ws.length
  · rw [tk_get hl]
    rw [decide_eq_true hl] at hb
    simp only
    rw [if_neg]
    revert hb
    cases ((ws.getD s.p tok0).kind == 1) <;> cases decide (Old.locF (ws.getD s.p tok0).text < 0) <;> decide
  · rw [tk_non hl]
theorem gmem_o1 (h : s.e = 0) (hb : (!(decide (s.p < ws.length))) = true) : memIG rf ws s i = (Old.oddR ws true s, i) := gmem_o h (by rw [hb]; rfl)
theorem gmem_o2 (h : s.e = 0) (hb : (ws.getD s.p tok0).kind ≠ 1) : memIG rf ws s i = (Old.oddR ws true s, i) := gmem_o h (by rw [beq_eq_false_iff_ne.2 hb, Bool.not_false, Bool.or_true, Bool.true_or])
theorem gmem_o3 (h : s.e = 0) (hb : Old.locF (ws.getD s.p tok0).text < 0) : memIG rf ws s i = (Old.oddR ws true s, i) := gmem_o h (by rw [decide_eq_true hb, Bool.or_true])
theorem gmem_y (h : s.e = 0) (h1 : (!(decide (s.p < ws.length))) = false) (h2 : (ws.getD s.p tok0).kind = 1) (h3 : ¬ Old.locF (ws.getD s.p tok0).text < 0) : memIG rf ws s i = Old.closeR ws (memEG rf ws ⟨s.e, s.a, nxK ws s.p⟩ { i with loc := Old.locF (ws.getD s.p tok0).text }) := by
  have hl := nd_f h1
  unfold memIG; rw [if_pos (beq_iff_eq.2 h), tk_get hl, nxK_y hl]
  simp only
  rw [if_pos]
  rw [h2, decide_eq_false h3]; rfl
theorem meE_n (h : isR ws s [43] = false) : memEG rf ws s i = (s, i) := by unfold memEG Old.plusR; unfold isR at h; rw [if_neg (by rw [h]; decide)]
theorem meE_num (h : isR ws s [43] = true) (hb : (decide (nxK ws s.p < ws.length) && ((ws.getD (nxK ws s.p) tok0).kind == 2)) = true) : memEG rf ws s i = offG rf ws ⟨s.e, s.a, nxK ws (nxK ws s.p)⟩ { i with off := (ws.getD (nxK ws s.p) tok0).n } := by
  have hl := (isR_lt h).2
  rw [nxK_y hl] at hb ⊢
  rw [Bool.and_eq_true] at hb
  have hl2 := of_decide_eq_true hb.1
  unfold memEG Old.plusR; unfold isR at h
  rw [if_pos h, tk_get hl2, nxK_y hl2]
  simp only
  rw [if_pos hb.2]
theorem meE_reg (h : isR ws s [43] = true) (hb : (decide (nxK ws s.p < ws.length) && ((ws.getD (nxK ws s.p) tok0).kind == 2)) = false) : memEG rf ws s i = idxG rf ws ⟨s.e, s.a, nxK ws s.p⟩ i := by
  have hl := (isR_lt h).2
  rw [nxK_y hl] at hb ⊢
  unfold memEG Old.plusR; unfold isR at h
  rw [if_pos h]
  by_cases hl2 : s.p + 1 < ws.length
  · rw [decide_eq_true hl2, Bool.true_and] at hb
    rw [tk_get hl2]
    simp only
    rw [if_neg (by rw [hb]; decide)]
  · rw [tk_non hl2]
theorem off_n (h : isR ws s [43] = false) : offG rf ws s i = (s, i) := by unfold offG Old.plusR; unfold isR at h; rw [if_neg (by rw [h]; decide)]
theorem off_y (h : isR ws s [43] = true) : offG rf ws s i = idxG rf ws ⟨s.e, s.a, nxK ws s.p⟩ i := by
  rw [nxK_y (isR_lt h).2]; unfold offG Old.plusR; unfold isR at h; rw [if_pos h]
theorem idxG_le (h : s.p ≤ ws.length) : (idxG rf ws s i).1.p ≤ ws.length := regG_le h
theorem offG_le (h : s.p ≤ ws.length) : (offG rf ws s i).1.p ≤ ws.length := by
  cases hb : isR ws s [43] with
  | false => rw [off_n hb]; exact h
  | true => rw [off_y hb]; exact idxG_le (nxK_le h)
theorem meE_le (h : s.p ≤ ws.length) : (memEG rf ws s i).1.p ≤ ws.length := by
  cases hb : isR ws s [43] with
  | false => rw [meE_n hb]; exact h
  | true =>
    cases hc : (decide (nxK ws s.p < ws.length) && ((ws.getD (nxK ws s.p) tok0).kind == 2)) with
    | true => rw [meE_num hb hc]; exact offG_le (nxK_le (nxK_le h))
    | false => rw [meE_reg hb hc]; exact idxG_le (nxK_le h)
theorem memI_le (h : s.p ≤ ws.length) : (memIG rf ws s i).1.p ≤ ws.length := by
  by_cases he : s.e = 0
  · cases hb : (((!(decide (s.p < ws.length))) || (!((ws.getD s.p tok0).kind == 1))) || (decide (Old.locF (ws.getD s.p tok0).text < 0))) with
    | true => rw [gmem_o he hb]; exact odd_le h
    | false =>
      rw [Bool.or_eq_false_iff, Bool.or_eq_false_iff] at hb
      rw [gmem_y he hb.1.1 (by simpa using hb.1.2) (by simpa using hb.2)]
      exact mark_le (meE_le (nxK_le h))
  · rw [gmem_s he]; exact h
theorem memG_le (h : s.p ≤ ws.length) : (memG rf ws s i).1.p ≤ ws.length := memI_le (mark_le h)
theorem branG_le {z : Bool} (h : s.p ≤ ws.length) : (branG rf ws s i z).2.1.p ≤ ws.length := lab_le (mark_le (regG_le h))
end
theorem locN3 {q : List UInt8} (h1 : q ≠ [120]) (h2 : q ≠ [121]) (h3 : q ≠ [122]) : Old.locF q = -1 := by
  unfold Old.locF Old.locsX Old.idxL Old.idxL Old.idxL Old.idxL
  rw [Old.eqL_no (fun e => h1 e.symm), Old.eqL_no (fun e => h2 e.symm), Old.eqL_no (fun e => h3 e.symm)]; rfl
theorem rloc_ (q : List UInt8)  : Fn Tryz.prog 141 [.str q] [] (Rt (.int .i64 (Old.locF q)) []) :=
 enterM (n := 10) (by kernel_rfl) Tryz.func141 rfl rfl rfl fun G w a h0 A => N hX 18 A rfl rfl fun A => forkE 4 A rfl
  (fun h1 A => N hX 7 A rfl rfl fun A => RETN hX A rfl rfl rfl h0 rfl rfl rfl rfl (by rw [h1]; rfl) rfl)
  (fun h1 A => N hX 7 A rfl rfl fun A => forkE 6 A rfl
   (fun h2 A => N hX 7 A rfl rfl fun A => RETN hX A rfl rfl rfl h0 rfl rfl rfl rfl (by rw [h2]; rfl) rfl)
   (fun h2 A => N hX 7 A rfl rfl fun A => forkE 8 A rfl
    (fun h3 A => N hX 7 A rfl rfl fun A => RETN hX A rfl rfl rfl h0 rfl rfl rfl rfl (by rw [h3]; rfl) rfl)
    (fun h3 A => N hX 10 A rfl rfl fun A => RETN hX A rfl rfl rfl h0 rfl rfl rfl rfl (by rw [locN3 h1 h2 h3]; rfl) rfl)))
theorem rmem_ (ar : Int) (ws : List Tk) (cw : Nat) (s : Old.Rs) (i : Old.Ins) (hk : s.p ≤ ws.length) (hn : ws.length ≤ 1000000) (hw : WsOK ws) (rf : List UInt8 → Int) (hrf : ∀ q : List UInt8, Fn Tryz.prog 17 [.int .i64 ar, .str q] [] (Rt (.int .i64 (rf q)) [])) : Fn Tryz.prog 82 [.ptr 0 0, .ptr 3 0] [some (.blk [.int .i64 ar, .ptr 1 0, .int .i64 s.e, .int .i64 s.a]), some (.blk [.sl 2 ws.length cw, .int .i64 ((s.p : Nat) : Int)]), some (wQ9 ws), some (.blk (oiQ9 i))] (Rt (.tup []) [some (.blk [.int .i64 ar, .ptr 1 0, .int .i64 (((memG rf ws s i).1).e), .int .i64 (((memG rf ws s i).1).a)]), some (.blk [.sl 2 ws.length cw, .int .i64 ((((memG rf ws s i).1).p : Nat) : Int)]), some (wQ9 ws), some (.blk (oiQ9 ((memG rf ws s i).2)))]) :=
 enterM (n := 104) (by kernel_rfl) Tryz.func82 rfl rfl rfl fun G w a h0 A => N hX 3 A rfl rfl fun A => CALL1 [0, 1, 2] (rmk_ ar ws cw s [91] hk hn hw) A rfl rfl rfl rfl rfl rfl rfl fun A => N hX 8 A rfl rfl fun A => CALL1 [1, 2] (rpeek_ ws cw ((Old.markR ws [91] s).p) (mark_le hk) hn) A rfl rfl rfl rfl rfl rfl rfl fun A => N hX 17 A rfl rfl fun A => forkE 21 A rfl
  (fun h1 A => N hX 3 A rfl rfl fun A => fork 24 A rfl
   (fun h2 A => N hX 16 A rfl rfl fun A => CALL1 [0, 1, 2] (roddT_ ar ws cw (Old.markR ws [91] s) (mark_le hk) hn hw) A rfl rfl rfl rfl rfl rfl rfl fun A => N hX 10 A rfl rfl fun A => have A := sy_sayD A 42 (.tt) rfl (fun _ => congrArg (fun b => some (Value.bool b)) (show (!(((Old.oddR ws true (Old.markR ws [91] s)).e) == 0)) = true by rw [beq_eq_false_iff_ne.2 (odd_ne h1)]; rfl)); N hX 4 A rfl rfl fun A => RETN hX A rfl rfl rfl h0 rfl rfl rfl rfl rfl (by unfold memG; rw [gmem_o1 h1 h2] <;> rfl))
   (fun h2 A => N hX 5 A rfl rfl fun A => forkN 29 A rfl
    (fun h3 A => N hX 11 A rfl rfl fun A => CALL1 [0, 1, 2] (roddT_ ar ws cw (Old.markR ws [91] s) (mark_le hk) hn hw) A rfl rfl rfl rfl rfl rfl rfl fun A => N hX 10 A rfl rfl fun A => have A := sy_sayD A 42 (.tt) rfl (fun _ => congrArg (fun b => some (Value.bool b)) (show (!(((Old.oddR ws true (Old.markR ws [91] s)).e) == 0)) = true by rw [beq_eq_false_iff_ne.2 (odd_ne h1)]; rfl)); N hX 4 A rfl rfl fun A => RETN hX A rfl rfl rfl h0 rfl rfl rfl rfl rfl (by unfold memG; rw [gmem_o2 h1 h3] <;> rfl))
    (fun h3 A => N hX 2 A rfl rfl fun A => CALL1 [] (rloc_ ((ws.getD ((Old.markR ws [91] s).p) tok0).text)) A rfl rfl rfl rfl rfl rfl rfl fun A => N hX 5 A rfl rfl fun A => forkD 35 A rfl
     (fun h4 A => N hX 3 A rfl rfl fun A => CALL1 [0, 1, 2] (roddT_ ar ws cw (Old.markR ws [91] s) (mark_le hk) hn hw) A rfl rfl rfl rfl rfl rfl rfl fun A => N hX 10 A rfl rfl fun A => have A := sy_sayD A 42 (.tt) rfl (fun _ => congrArg (fun b => some (Value.bool b)) (show (!(((Old.oddR ws true (Old.markR ws [91] s)).e) == 0)) = true by rw [beq_eq_false_iff_ne.2 (odd_ne h1)]; rfl)); N hX 4 A rfl rfl fun A => RETN hX A rfl rfl rfl h0 rfl rfl rfl rfl rfl (by unfold memG; rw [gmem_o3 h1 h4] <;> rfl))
     (fun h4 A => N hX 11 A rfl rfl fun A => have A := sy_sayD A 42 (.ff) rfl (fun _ => congrArg (fun b => some (Value.bool b)) (show (!(((Old.markR ws [91] s).e) == 0)) = false by rw [beq_iff_eq.2 h1]; rfl)); N hX 11 A rfl rfl fun A => CALL1 [1, 2] (rnext_ ws cw ((Old.markR ws [91] s).p) (mark_le hk) hn) A rfl rfl rfl rfl rfl rfl rfl fun A => N hX 7 A rfl rfl fun A => CALL1 [] (rloc_ ((ws.getD ((Old.markR ws [91] s).p) tok0).text)) A rfl rfl rfl rfl rfl rfl rfl fun A => N hX 9 A rfl rfl fun A => CALL1 [0, 1, 2] (ris_ ar ws cw (⟨(Old.markR ws [91] s).e, (Old.markR ws [91] s).a, nxK ws ((Old.markR ws [91] s).p)⟩ : Old.Rs) [43] (nxK_le (mark_le hk)) hn hw) A rfl rfl rfl rfl rfl rfl rfl fun A => N hX 2 A rfl rfl fun A => fork 55 A rfl
      (fun h5 A => N hX 7 A rfl rfl fun A => CALL1 [1, 2] (rnext_ ws cw ((⟨(Old.markR ws [91] s).e, (Old.markR ws [91] s).a, nxK ws ((Old.markR ws [91] s).p)⟩ : Old.Rs).p) (nxK_le (mark_le hk)) hn) A rfl rfl rfl rfl rfl rfl rfl fun A => N hX 8 A rfl rfl fun A => CALL1 [1, 2] (rpeek_ ws cw (nxK ws ((⟨(Old.markR ws [91] s).e, (Old.markR ws [91] s).a, nxK ws ((Old.markR ws [91] s).p)⟩ : Old.Rs).p)) (nxK_le (nxK_le (mark_le hk))) hn) A rfl rfl rfl rfl rfl rfl rfl fun A => N hX 17 A rfl rfl fun A => fork 74 A rfl
       (fun h6 A => N hX 7 A rfl rfl fun A => CALL1 [1, 2] (rnext_ ws cw (nxK ws ((⟨(Old.markR ws [91] s).e, (Old.markR ws [91] s).a, nxK ws ((Old.markR ws [91] s).p)⟩ : Old.Rs).p)) (nxK_le (nxK_le (mark_le hk))) hn) A rfl rfl rfl rfl rfl rfl rfl fun A => N hX 15 A rfl rfl fun A => CALL1 [0, 1, 2] (ris_ ar ws cw (⟨(⟨(Old.markR ws [91] s).e, (Old.markR ws [91] s).a, nxK ws ((Old.markR ws [91] s).p)⟩ : Old.Rs).e, (⟨(Old.markR ws [91] s).e, (Old.markR ws [91] s).a, nxK ws ((Old.markR ws [91] s).p)⟩ : Old.Rs).a, nxK ws (nxK ws ((⟨(Old.markR ws [91] s).e, (Old.markR ws [91] s).a, nxK ws ((Old.markR ws [91] s).p)⟩ : Old.Rs).p))⟩ : Old.Rs) [43] (nxK_le (nxK_le (nxK_le (mark_le hk)))) hn hw) A rfl rfl rfl rfl rfl rfl rfl fun A => N hX 2 A rfl rfl fun A => fork 86 A rfl
        (fun h7 A => N hX 7 A rfl rfl fun A => CALL1 [1, 2] (rnext_ ws cw ((⟨(⟨(Old.markR ws [91] s).e, (Old.markR ws [91] s).a, nxK ws ((Old.markR ws [91] s).p)⟩ : Old.Rs).e, (⟨(Old.markR ws [91] s).e, (Old.markR ws [91] s).a, nxK ws ((Old.markR ws [91] s).p)⟩ : Old.Rs).a, nxK ws (nxK ws ((⟨(Old.markR ws [91] s).e, (Old.markR ws [91] s).a, nxK ws ((Old.markR ws [91] s).p)⟩ : Old.Rs).p))⟩ : Old.Rs).p) (nxK_le (nxK_le (nxK_le (mark_le hk)))) hn) A rfl rfl rfl rfl rfl rfl rfl fun A => N hX 5 A rfl rfl fun A => CALL1 [0, 1, 2] (rreg_ ar ws cw (⟨(⟨(⟨(Old.markR ws [91] s).e, (Old.markR ws [91] s).a, nxK ws ((Old.markR ws [91] s).p)⟩ : Old.Rs).e, (⟨(Old.markR ws [91] s).e, (Old.markR ws [91] s).a, nxK ws ((Old.markR ws [91] s).p)⟩ : Old.Rs).a, nxK ws (nxK ws ((⟨(Old.markR ws [91] s).e, (Old.markR ws [91] s).a, nxK ws ((Old.markR ws [91] s).p)⟩ : Old.Rs).p))⟩ : Old.Rs).e, (⟨(⟨(Old.markR ws [91] s).e, (Old.markR ws [91] s).a, nxK ws ((Old.markR ws [91] s).p)⟩ : Old.Rs).e, (⟨(Old.markR ws [91] s).e, (Old.markR ws [91] s).a, nxK ws ((Old.markR ws [91] s).p)⟩ : Old.Rs).a, nxK ws (nxK ws ((⟨(Old.markR ws [91] s).e, (Old.markR ws [91] s).a, nxK ws ((Old.markR ws [91] s).p)⟩ : Old.Rs).p))⟩ : Old.Rs).a, nxK ws ((⟨(⟨(Old.markR ws [91] s).e, (Old.markR ws [91] s).a, nxK ws ((Old.markR ws [91] s).p)⟩ : Old.Rs).e, (⟨(Old.markR ws [91] s).e, (Old.markR ws [91] s).a, nxK ws ((Old.markR ws [91] s).p)⟩ : Old.Rs).a, nxK ws (nxK ws ((⟨(Old.markR ws [91] s).e, (Old.markR ws [91] s).a, nxK ws ((Old.markR ws [91] s).p)⟩ : Old.Rs).p))⟩ : Old.Rs).p)⟩ : Old.Rs) (nxK_le (nxK_le (nxK_le (nxK_le (mark_le hk))))) hn hw rf hrf) A rfl rfl rfl rfl rfl rfl rfl fun A => N hX 7 A rfl rfl fun A => CALL1 [0, 1, 2] (rmk_ ar ws cw ((regG rf ws (⟨(⟨(⟨(Old.markR ws [91] s).e, (Old.markR ws [91] s).a, nxK ws ((Old.markR ws [91] s).p)⟩ : Old.Rs).e, (⟨(Old.markR ws [91] s).e, (Old.markR ws [91] s).a, nxK ws ((Old.markR ws [91] s).p)⟩ : Old.Rs).a, nxK ws (nxK ws ((⟨(Old.markR ws [91] s).e, (Old.markR ws [91] s).a, nxK ws ((Old.markR ws [91] s).p)⟩ : Old.Rs).p))⟩ : Old.Rs).e, (⟨(⟨(Old.markR ws [91] s).e, (Old.markR ws [91] s).a, nxK ws ((Old.markR ws [91] s).p)⟩ : Old.Rs).e, (⟨(Old.markR ws [91] s).e, (Old.markR ws [91] s).a, nxK ws ((Old.markR ws [91] s).p)⟩ : Old.Rs).a, nxK ws (nxK ws ((⟨(Old.markR ws [91] s).e, (Old.markR ws [91] s).a, nxK ws ((Old.markR ws [91] s).p)⟩ : Old.Rs).p))⟩ : Old.Rs).a, nxK ws ((⟨(⟨(Old.markR ws [91] s).e, (Old.markR ws [91] s).a, nxK ws ((Old.markR ws [91] s).p)⟩ : Old.Rs).e, (⟨(Old.markR ws [91] s).e, (Old.markR ws [91] s).a, nxK ws ((Old.markR ws [91] s).p)⟩ : Old.Rs).a, nxK ws (nxK ws ((⟨(Old.markR ws [91] s).e, (Old.markR ws [91] s).a, nxK ws ((Old.markR ws [91] s).p)⟩ : Old.Rs).p))⟩ : Old.Rs).p)⟩ : Old.Rs)).1) [93] (regG_le (nxK_le (nxK_le (nxK_le (nxK_le (mark_le hk)))))) hn hw) A rfl rfl rfl rfl rfl rfl rfl fun A => N hX 1 A rfl rfl fun A => ENDN (RETN hX A rfl rfl rfl h0 rfl rfl rfl rfl rfl (by unfold memG; rw [gmem_y h1 h2 h3 h4, meE_num h5 h6, off_y h7] <;> rfl)))
        (fun h7 A => N hX 5 A rfl rfl fun A => CALL1 [0, 1, 2] (rmk_ ar ws cw (⟨(⟨(Old.markR ws [91] s).e, (Old.markR ws [91] s).a, nxK ws ((Old.markR ws [91] s).p)⟩ : Old.Rs).e, (⟨(Old.markR ws [91] s).e, (Old.markR ws [91] s).a, nxK ws ((Old.markR ws [91] s).p)⟩ : Old.Rs).a, nxK ws (nxK ws ((⟨(Old.markR ws [91] s).e, (Old.markR ws [91] s).a, nxK ws ((Old.markR ws [91] s).p)⟩ : Old.Rs).p))⟩ : Old.Rs) [93] (nxK_le (nxK_le (nxK_le (mark_le hk)))) hn hw) A rfl rfl rfl rfl rfl rfl rfl fun A => N hX 1 A rfl rfl fun A => ENDN (RETN hX A rfl rfl rfl h0 rfl rfl rfl rfl rfl (by unfold memG; rw [gmem_y h1 h2 h3 h4, meE_num h5 h6, off_n h7] <;> rfl))))
       (fun h6 A => N hX 4 A rfl rfl fun A => CALL1 [0, 1, 2] (rreg_ ar ws cw (⟨(⟨(Old.markR ws [91] s).e, (Old.markR ws [91] s).a, nxK ws ((Old.markR ws [91] s).p)⟩ : Old.Rs).e, (⟨(Old.markR ws [91] s).e, (Old.markR ws [91] s).a, nxK ws ((Old.markR ws [91] s).p)⟩ : Old.Rs).a, nxK ws ((⟨(Old.markR ws [91] s).e, (Old.markR ws [91] s).a, nxK ws ((Old.markR ws [91] s).p)⟩ : Old.Rs).p)⟩ : Old.Rs) (nxK_le (nxK_le (mark_le hk))) hn hw rf hrf) A rfl rfl rfl rfl rfl rfl rfl fun A => N hX 7 A rfl rfl fun A => CALL1 [0, 1, 2] (rmk_ ar ws cw ((regG rf ws (⟨(⟨(Old.markR ws [91] s).e, (Old.markR ws [91] s).a, nxK ws ((Old.markR ws [91] s).p)⟩ : Old.Rs).e, (⟨(Old.markR ws [91] s).e, (Old.markR ws [91] s).a, nxK ws ((Old.markR ws [91] s).p)⟩ : Old.Rs).a, nxK ws ((⟨(Old.markR ws [91] s).e, (Old.markR ws [91] s).a, nxK ws ((Old.markR ws [91] s).p)⟩ : Old.Rs).p)⟩ : Old.Rs)).1) [93] (regG_le (nxK_le (nxK_le (mark_le hk)))) hn hw) A rfl rfl rfl rfl rfl rfl rfl fun A => N hX 1 A rfl rfl fun A => ENDN (RETN hX A rfl rfl rfl h0 rfl rfl rfl rfl rfl (by unfold memG; rw [gmem_y h1 h2 h3 h4, meE_reg h5 h6] <;> rfl))))
      (fun h5 A => N hX 5 A rfl rfl fun A => CALL1 [0, 1, 2] (rmk_ ar ws cw (⟨(Old.markR ws [91] s).e, (Old.markR ws [91] s).a, nxK ws ((Old.markR ws [91] s).p)⟩ : Old.Rs) [93] (nxK_le (mark_le hk)) hn hw) A rfl rfl rfl rfl rfl rfl rfl fun A => N hX 1 A rfl rfl fun A => ENDN (RETN hX A rfl rfl rfl h0 rfl rfl rfl rfl rfl (by unfold memG; rw [gmem_y h1 h2 h3 h4, meE_n h5] <;> rfl)))))))
  (fun h1 A => N hX 27 A rfl rfl fun A => have A := sy_sayD A 42 (.tt) rfl (fun _ => congrArg (fun b => some (Value.bool b)) (show (!(((Old.markR ws [91] s).e) == 0)) = true by rw [beq_eq_false_iff_ne.2 h1]; rfl)); N hX 4 A rfl rfl fun A => RETN hX A rfl rfl rfl h0 rfl rfl rfl rfl rfl (by unfold memG; rw [gmem_s h1] <;> rfl))
theorem rbran_ (ar : Int) (ws : List Tk) (cw : Nat) (s : Old.Rs) (i : Old.Ins) (z : Bool) (hk : s.p ≤ ws.length) (hn : ws.length ≤ 1000000) (hw : WsOK ws) (rf : List UInt8 → Int) (hrf : ∀ q : List UInt8, Fn Tryz.prog 17 [.int .i64 ar, .str q] [] (Rt (.int .i64 (rf q)) [])) : Fn Tryz.prog 83 [.ptr 0 0, .ptr 3 0, .bool z] [some (.blk [.int .i64 ar, .ptr 1 0, .int .i64 s.e, .int .i64 s.a]), some (.blk [.sl 2 ws.length cw, .int .i64 ((s.p : Nat) : Int)]), some (wQ9 ws), some (.blk (oiQ9 i))] (Rt (.str ((branG rf ws s i z).1)) [some (.blk [.int .i64 ar, .ptr 1 0, .int .i64 (((branG rf ws s i z).2.1).e), .int .i64 (((branG rf ws s i z).2.1).a)]), some (.blk [.sl 2 ws.length cw, .int .i64 ((((branG rf ws s i z).2.1).p : Nat) : Int)]), some (wQ9 ws), some (.blk (oiQ9 ((branG rf ws s i z).2.2)))]) :=
 enterM (n := 23) (by kernel_rfl) Tryz.func83 rfl rfl rfl fun G w a h0 A => N hX 26 A rfl rfl fun A => CALL1 [0, 1, 2] (rreg_ ar ws cw s hk hn hw rf hrf) A rfl rfl rfl rfl rfl rfl rfl fun A => N hX 8 A rfl rfl fun A => CALL1 [0, 1, 2] (rmk_ ar ws cw ((regG rf ws s).1) [44] (regG_le hk) hn hw) A rfl rfl rfl rfl rfl rfl rfl fun A => N hX 5 A rfl rfl fun A => CALL1 [0, 1, 2] (rlab_ ar ws cw (Old.markR ws [44] ((regG rf ws s).1)) (mark_le (regG_le hk)) hn hw) A rfl rfl rfl rfl rfl rfl rfl fun A => N hX 4 A rfl rfl fun A => RETN hX A rfl rfl rfl h0 rfl rfl rfl rfl rfl rfl
theorem szI_k (k : Nat) (h : k < 4) : (IntKind.wrap .i64 (1 * 2 ^ min ((k : Int)).toNat (IntKind.bits .i64))) = Old.szI (k : Int) := by
  have : k = 0 ∨ k = 1 ∨ k = 2 ∨ k = 3 := by omega
  rcases this with e | e | e | e <;> subst e <;> decide +kernel
theorem pre_n {q t : List UInt8} (h : ((decide ((q.length : Int) < (t.length : Int))) || (!((q.take ((t.length : Int)).toNat) == t))) = true) : preB q t = false := by
  unfold preB
  by_cases hl : t.length ≤ q.length
  · rw [decide_eq_true hl]
    rw [decide_eq_false (by omega : ¬ (q.length : Int) < (t.length : Int)), Int.toNat_natCast] at h
    simpa using h
  · rw [decide_eq_false hl]; rfl
theorem pre_y {q t : List UInt8} (h : ((decide ((q.length : Int) < (t.length : Int))) || (!((q.take ((t.length : Int)).toNat) == t))) = false) : preB q t = true := by
  unfold preB
  rw [Bool.or_eq_false_iff] at h
  have h1 := of_decide_eq_false h.1
  rw [decide_eq_true (by omega : t.length ≤ q.length)]
  have h2 := h.2
  rw [Int.toNat_natCast] at h2
  simpa using h2
end Go.Proofs.YtedlaclfhgneeabGreatDoor
