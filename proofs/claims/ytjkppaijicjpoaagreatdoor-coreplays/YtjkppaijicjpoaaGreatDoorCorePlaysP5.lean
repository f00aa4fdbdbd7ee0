/- CorePlays, part 5: the engine, contracts, theory. -/
import Derived.Test.YtjkppaijicjpoaaGreatDoorCorePlaysP4
import Derived.Lib.ItoaLen
import Derived.Shelf.Strings.Cut
import Derived.Shelf.Strings.OnBuilder
import Derived.Shelf.Spec.SlicesGrow
import Derived.LoopN
namespace Go.Proofs.YtjkppaijicjpoaaGreatDoor
open Go.RowKit
set_option linter.unusedVariables false
set_option linter.unusedSimpArgs false
set_option maxRecDepth 100000
set_option maxHeartbeats 2000000
set_option simprocs false
theorem locs_   : Fn Tryz.prog 204 [] [] (Rt (.sl 0 3 3) [some (.blk [.str [120], .str [121], .str [122]])]) :=
 enterM (n := 2) (by kernel_rfl) Tryz.func204 rfl rfl rfl fun G w a h0 A => N9 12 A rfl rfl fun A => RET hX [0] A ⟨rfl, rfl⟩ rfl rfl rfl rfl rfl rfl rfl rfl h0
def memA (i : In) : List UInt8 := [91] ++ ([[120], [121], [122]].getD (i.loc).toNat [])
def memB (i : In) : List UInt8 := if i.off ≠ 0 then memA i ++ ([43] ++ Lib.itoa i.off) else memA i
def memT (g : Lg) (i : In) : List UInt8 := (if i.ix ≠ -1 then memB i ++ ([43] ++ regnm0 g.r0 g.r1 g.r2 g.r3 g.r4 g.r5 g.r6 g.r7 i.ix) else memB i) ++ [93]
def opdT (g : Lg) (r : Rw) (p : Int) (i : In) (lb : List UInt8) : List UInt8 :=
 if (regP p i).2 = true then regnm0 g.r0 g.r1 g.r2 g.r3 g.r4 g.r5 g.r6 g.r7 (regP p i).1 else
 if p = 5 then g.im ++ Lib.itoa i.imm else
 if p = 6 then memT g i else
 if p = 8 then [g.f0, g.f1, g.f2].getD (i.pred - 1).toNat [] else
 if p = 9 then [g.f0, g.f1, g.f2].getD (i.succ - 1).toNat [] else
 if p = 10 then r.wd else lb
structure LgOK (g : Lg) : Prop where
 rg : ∀ r, (regnm0 g.r0 g.r1 g.r2 g.r3 g.r4 g.r5 g.r6 g.r7 r).length ≤ 1000
 im : g.im.length ≤ 1000
structure InOK (i : In) : Prop where
 lc : 0 ≤ i.loc ∧ i.loc < 3
 of_ : -9223372036854775808 ≤ i.off ∧ i.off ≤ 9223372036854775807
theorem loc_le (g : Int) (h : 0 ≤ g ∧ g < 3) : ([[120], [121], [122]].getD (g).toNat ([] : List UInt8)).length ≤ 1 := by
 have : (g).toNat = 0 ∨ (g).toNat = 1 ∨ (g).toNat = 2 := by omega
 rcases this with e | e | e <;> rw [e] <;> decide
theorem lmem_ (g : Lg) (L : List Rw) (c : Nat) (i : In) (os : List (Nat × Obj)) (hM : ∀ w ks, Gl os w ks → ∃ m, w.cell? ⟨1, 0, none⟩ = some (.int .i64 m)) (hT : ∀ w ks, Gl os w ks → Lib.TabIs Tryz.prog w "internal/strconv.uint64pow10" .u64 Lib.pow10Tab) (hg : LgOK g) (hi : InOK i) : FnI (Gl os) Tryz.prog 173 [.agg [.str g.r0, .str g.r1, .str g.r2, .str g.r3, .str g.r4, .str g.r5, .str g.r6, .str g.r7, .str g.l0, .str g.l1, .str g.l2, .str g.l3, .str g.im, .str g.f0, .str g.f1, .str g.f2, .sl 0 L.length c], .agg (inQ9 i)] [some (lQ9 L)] (Rt (.str (memT g i)) [some (lQ9 L)]) :=
 enterI (n := 34) (by kernel_rfl) Tryz.func173 rfl rfl rfl fun G w a h0 hI A => N9 8 A rfl rfl fun A => DRAWN hX hmo [] [(0, .sl 3 3 3, [some (lQ9 L), some (.blk [.str g.r0, .str g.r1, .str g.r2, .str g.r3, .str g.r4, .str g.r5, .str g.r6, .str g.r7, .str g.l0, .str g.l1, .str g.l2, .str g.l3, .str g.im, .str g.f0, .str g.f1, .str g.f2, .sl 0 L.length c]), some (.blk (inQ9 i)), some (.blk [.str [120], .str [121], .str [122]])])] A rfl (ok_d (by have q1 := hi.lc; have q2 := hi.of_; omega) <| ok_d (by have q1 := hi.lc; have q2 := hi.of_; omega) <| ok_d (by have q1 := hg.rg i.ix; have q2 := Lib.itoa_length_le i.off hi.of_.1 hi.of_.2; have q3 := loc_le i.loc hi.lc; (try simp only [List.length_append, List.length_cons, List.length_nil]); omega) <| okE_nil) rfl rfl (by kernel_rfl) ⟨callE [] locs_ rfl rfl rfl rfl rfl rfl rfl, trivial⟩ trivial fun A => N9 9 A rfl rfl fun A => forkN 14 A rfl
  (fun h1 A => N9 5 A rfl rfl fun A => I9 [] Gl.ok hI (itoaI_ i.off os hM hT (by have q1 := hi.lc; have q2 := hi.of_; omega) (by have q1 := hi.lc; have q2 := hi.of_; omega)) A rfl fun A => N9 7 A rfl (ok_d (by have q1 := hg.rg i.ix; have q2 := Lib.itoa_length_le i.off hi.of_.1 hi.of_.2; have q3 := loc_le i.loc hi.lc; (try simp only [List.length_append, List.length_cons, List.length_nil]); omega) <| ok_d (by have q1 := hg.rg i.ix; have q2 := Lib.itoa_length_le i.off hi.of_.1 hi.of_.2; have q3 := loc_le i.loc hi.lc; (try simp only [List.length_append, List.length_cons, List.length_nil]); omega) <| okE_nil) fun A => N9 6 A rfl rfl fun A => forkN 23 A rfl
   (fun h2 A => N9 7 A rfl rfl fun A => C9 [] (regnm_ g.r0 g.r1 g.r2 g.r3 g.r4 g.r5 g.r6 g.r7 i.ix) A rfl fun A => N9 6 A rfl (ok_d (by have q1 := hg.rg i.ix; have q2 := Lib.itoa_length_le i.off hi.of_.1 hi.of_.2; have q3 := loc_le i.loc hi.lc; (try simp only [List.length_append, List.length_cons, List.length_nil]); omega) <| ok_d (by have q1 := hg.rg i.ix; have q2 := Lib.itoa_length_le i.off hi.of_.1 hi.of_.2; have q3 := loc_le i.loc hi.lc; (try simp only [List.length_append, List.length_cons, List.length_nil]); omega) <| okE_nil) fun A => N9 7 A rfl (ok_d (by have q1 := hg.rg i.ix; have q2 := Lib.itoa_length_le i.off hi.of_.1 hi.of_.2; have q3 := loc_le i.loc hi.lc; (try simp only [List.length_append, List.length_cons, List.length_nil]); omega) <| okE_nil) fun A => R9 A rfl h0 rfl (by unfold memT memB; rw [if_pos h2, if_pos h1]; rfl) rfl)
   (fun h2 A => N9 11 A rfl (ok_d (by have q1 := hg.rg i.ix; have q2 := Lib.itoa_length_le i.off hi.of_.1 hi.of_.2; have q3 := loc_le i.loc hi.lc; (try simp only [List.length_append, List.length_cons, List.length_nil]); omega) <| okE_nil) fun A => R9 A rfl h0 rfl (by unfold memT memB; rw [if_neg (fun z => z h2), if_pos h1]; rfl) rfl))
  (fun h1 A => N9 11 A rfl rfl fun A => forkN 23 A rfl
   (fun h3 A => N9 7 A rfl rfl fun A => C9 [] (regnm_ g.r0 g.r1 g.r2 g.r3 g.r4 g.r5 g.r6 g.r7 i.ix) A rfl fun A => N9 6 A rfl (ok_d (by have q1 := hg.rg i.ix; have q2 := Lib.itoa_length_le i.off hi.of_.1 hi.of_.2; have q3 := loc_le i.loc hi.lc; (try simp only [List.length_append, List.length_cons, List.length_nil]); omega) <| ok_d (by have q1 := hg.rg i.ix; have q2 := Lib.itoa_length_le i.off hi.of_.1 hi.of_.2; have q3 := loc_le i.loc hi.lc; (try simp only [List.length_append, List.length_cons, List.length_nil]); omega) <| okE_nil) fun A => N9 7 A rfl (ok_d (by have q1 := hg.rg i.ix; have q2 := Lib.itoa_length_le i.off hi.of_.1 hi.of_.2; have q3 := loc_le i.loc hi.lc; (try simp only [List.length_append, List.length_cons, List.length_nil]); omega) <| okE_nil) fun A => R9 A rfl h0 rfl (by unfold memT memB; rw [if_pos h3, if_neg (fun z => z h1)]; rfl) rfl)
   (fun h3 A => N9 11 A rfl (ok_d (by have q1 := hg.rg i.ix; have q2 := Lib.itoa_length_le i.off hi.of_.1 hi.of_.2; have q3 := loc_le i.loc hi.lc; (try simp only [List.length_append, List.length_cons, List.length_nil]); omega) <| okE_nil) fun A => R9 A rfl h0 rfl (by unfold memT memB; rw [if_neg (fun z => z h3), if_neg (fun z => z h1)]; rfl) rfl))
theorem opd_ (g : Lg) (L : List Rw) (c : Nat) (r : Rw) (p : Int) (i : In) (lb : List UInt8) (os : List (Nat × Obj)) (hM : ∀ w ks, Gl os w ks → ∃ m, w.cell? ⟨1, 0, none⟩ = some (.int .i64 m)) (hT : ∀ w ks, Gl os w ks → Lib.TabIs Tryz.prog w "internal/strconv.uint64pow10" .u64 Lib.pow10Tab) (hg : LgOK g) (hv : -9223372036854775808 ≤ i.imm ∧ i.imm ≤ 9223372036854775807) (hi6 : p = 6 → InOK i) (hi8 : p = 8 → 1 ≤ i.pred ∧ i.pred ≤ 3) (hi9 : p = 9 → 1 ≤ i.succ ∧ i.succ ≤ 3) : FnI (Gl os) Tryz.prog 138 [.agg [.str g.r0, .str g.r1, .str g.r2, .str g.r3, .str g.r4, .str g.r5, .str g.r6, .str g.r7, .str g.l0, .str g.l1, .str g.l2, .str g.l3, .str g.im, .str g.f0, .str g.f1, .str g.f2, .sl 0 L.length c], .agg (rwQ9 r), .int .i64 p, .agg (inQ9 i), .str lb] [some (lQ9 L)] (Rt (.str (opdT g r p i lb)) [some (lQ9 L)]) :=
 enterI (n := 59) (by kernel_rfl) Tryz.func138 rfl rfl rfl fun G w a h0 hI A => N9 13 A rfl rfl fun A => C9 [] (preg_ p i) A rfl fun A => N9 12 A rfl rfl fun A => fork 19 A rfl
  (fun h1 A => N9 6 A rfl rfl fun A => C9 [] (regnm_ g.r0 g.r1 g.r2 g.r3 g.r4 g.r5 g.r6 g.r7 ((regP p i).1)) A rfl fun A => N9 4 A rfl rfl fun A => R9 A rfl h0 rfl (by unfold opdT; rw [if_pos h1]; rfl) rfl)
  (fun h1 A => N9 16 A rfl rfl fun A => forkE 25 A rfl
   (fun h2 A => N9 2 A rfl rfl fun A => ANY hmo [.ptr 1 12, .str g.im, .ptr 3 4, .int .i64 i.imm, .str (Lib.itoa i.imm), .str (g.im ++ (Lib.itoa i.imm)), .str (g.im ++ (Lib.itoa i.imm))] [] [] 0 [([], [], [some (lQ9 L), some (.blk [.str g.r0, .str g.r1, .str g.r2, .str g.r3, .str g.r4, .str g.r5, .str g.r6, .str g.r7, .str g.l0, .str g.l1, .str g.l2, .str g.l3, .str g.im, .str g.f0, .str g.f1, .str g.f2, .sl 0 L.length c]), some (.blk (rwQ9 r)), some (.blk (inQ9 i))])] [[true, true, true, true, true, true, true]] A rfl rfl rfl rfl (by kernel_rfl) rfl (by kernel_rfl) ⟨⟨oV9 0 rfl rfl, ⟨oV9 0 rfl rfl, ⟨oV9 0 rfl rfl, ⟨oV9 0 rfl rfl, ⟨⟨_, _, _, _, 0, rfl, rfl, rfl, rfl, eff_at (callIE [] Gl.ok hI (itoaI_ i.imm os hM hT (by have q0 := hv; omega) (by have q0 := hv; omega)) rfl rfl rfl rfl rfl rfl rfl) rfl⟩, ⟨oV9 0 rfl (ok_d (by have q0 := hv; have q1 := hg.im; have q2 := Lib.itoa_length_le i.imm hv.1 hv.2; (try simp only [List.length_append, List.length_cons, List.length_nil]); omega) <| okE_nil), ⟨oV9 0 rfl rfl, trivial⟩⟩⟩⟩⟩⟩⟩, trivial⟩ fun A => N9 2 A rfl rfl fun A => R9 A rfl h0 rfl (by unfold opdT; rw [if_neg (by rw [h1]; decide), if_pos h2]; rfl) rfl)
   (fun h2 A => N9 7 A rfl rfl fun A => forkE 33 A rfl
    (fun h3 A => N9 5 A rfl rfl fun A => I9 [0] Gl.ok hI (lmem_ g L c i os hM hT hg (hi6 h3)) A rfl fun A => N9 4 A rfl rfl fun A => R9 A rfl h0 rfl (by unfold opdT; rw [if_neg (by rw [h1]; decide), if_neg h2, if_pos h3]; rfl) rfl)
    (fun h3 A => N9 7 A rfl rfl fun A => forkE 38 A rfl
     (fun h4 A => N9 13 A rfl (ok_d (by have q0 := hv; have q8 := hi8 h4; omega) <| ok_d (by have q0 := hv; have q8 := hi8 h4; omega) <| ok_d (by have q0 := hv; have q8 := hi8 h4; omega) <| okE_nil) fun A => R9 A rfl h0 rfl (by unfold opdT; rw [if_neg (by rw [h1]; decide), if_neg h2, if_neg h3, if_pos h4]; rfl) rfl)
     (fun h4 A => N9 7 A rfl rfl fun A => forkE 46 A rfl
      (fun h5 A => N9 13 A rfl (ok_d (by have q0 := hv; have q9 := hi9 h5; omega) <| ok_d (by have q0 := hv; have q9 := hi9 h5; omega) <| ok_d (by have q0 := hv; have q9 := hi9 h5; omega) <| okE_nil) fun A => R9 A rfl h0 rfl (by unfold opdT; rw [if_neg (by rw [h1]; decide), if_neg h2, if_neg h3, if_neg h4, if_pos h5]; rfl) rfl)
      (fun h5 A => N9 7 A rfl rfl fun A => forkE 54 A rfl
       (fun h6 A => N9 9 A rfl rfl fun A => R9 A rfl h0 rfl (by unfold opdT; rw [if_neg (by rw [h1]; decide), if_neg h2, if_neg h3, if_neg h4, if_neg h5, if_pos h6]; rfl) rfl)
       (fun h6 A => N9 11 A rfl rfl fun A => R9 A rfl h0 rfl (by unfold opdT; rw [if_neg (by rw [h1]; decide), if_neg h2, if_neg h3, if_neg h4, if_neg h5, if_neg h6]; rfl) rfl))))))
structure Ps where (ins : In) (lab : List UInt8) (e a : Int) (p : Nat)
def Ps.as (s : Ps) : As := ⟨s.p, s.e, s.a⟩
def Ps.wa (s : Ps) (t : As) : Ps := ⟨s.ins, s.lab, t.e, t.a, t.p⟩
def idxS (ls : List (List UInt8)) (q : List UInt8) : Int := match (List.range ls.length).find? (fun j => q == ls.getD j []) with | some j => (j : Int) | none => -1
section
variable {ls : List (List UInt8)} {q : List UInt8} {k : Nat}
end
def knI (ws : List Tk) (s : As) (ls : List (List UInt8)) : Int := if (ws.getD s.p tok0).kind = 1 then (if idxS ls (ws.getD s.p tok0).text < 0 then -1 else idxS ls (ws.getD s.p tok0).text) else -1
def knA (ws : List Tk) (s : As) (ls : List (List UInt8)) : As := if (ws.getD s.p tok0).kind = 1 then (if idxS ls (ws.getD s.p tok0).text < 0 then refA ws s 21 else goA s (nxK ws s.p)) else refA ws s 22
section
variable {ws : List Tk} {s : As} {ls : List (List UInt8)}
end
def immA (g : Lg) (ws : List Tk) (s : As) : As := if g.im = [] then numA ws s else numA ws (mkA ws s g.im)
def immV (g : Lg) (ws : List Tk) (s : As) : Int := if g.im = [] then nbV ws s.p else nbV ws (mkA ws s g.im).p
structure Cn where (k t r l v : Int)
def Cn.z : Cn := ⟨0, 0, 0, 0, 0⟩
def cc (c : Cn) : List SV := [.int .i64 c.k, .int .i64 c.t, .int .i64 c.r, .int .i64 c.l, .int .i64 c.v]
def setF (k : Int) (wf : Nat → Int) : Nat → List Cn → Nat × List Cn
 | 0, ns => (0, ns)
 | n + 1, ns => if wf n ≤ k then setF k wf n (ns ++ [⟨wf n, 0, 0, 0, 0⟩]) else (n + 1, ns)
section
variable {k : Int} {wf : Nat → Int} {m : Nat} {ns cur : List Cn} {j : Nat}
end
end Go.Proofs.YtjkppaijicjpoaaGreatDoor
namespace Go.Proofs.YtjkppaijicjpoaaGreatDoor.Mc
open Go.RowKit
set_option linter.unusedVariables false
set_option linter.unusedSimpArgs false
set_option maxRecDepth 100000
set_option maxHeartbeats 2000000
set_option simprocs false
abbrev _root_.Go.Proofs.YtjkppaijicjpoaaGreatDoor.tsQ9 (ar : Int) (nm : List UInt8) (mi r : Nat → Int) (c : SV) (q : Int) (k : SV) : List SV := [.int .i64 ar, .str nm, .int .i64 (mi 0), .int .i64 (mi 1), .int .i64 (mi 2), .int .i64 (r 0), .int .i64 (r 1), .int .i64 (r 2), .int .i64 (r 3), .int .i64 (r 4), .int .i64 (r 5), .int .i64 (r 6), .int .i64 (r 7), .int .i64 (r 8), .int .i64 (r 9), .int .i64 (r 10), .int .i64 (r 11), .int .i64 (r 12), .int .i64 (r 13), .int .i64 (r 14), .int .i64 (r 15), .int .i64 (r 16), .int .i64 (r 17), .int .i64 (r 18), .int .i64 (r 19), .int .i64 (r 20), .int .i64 (r 21), .int .i64 (r 22), .int .i64 (r 23), c, .int .i64 q, k]
abbrev _root_.Go.Proofs.YtjkppaijicjpoaaGreatDoor.tpQ9 (ar : Int) (nm : List UInt8) (mi r : Nat → Int) : List SV := [.int .i64 ar, .str nm, .int .i64 (mi 0), .int .i64 (mi 1), .int .i64 (mi 2), .int .i64 (r 0), .int .i64 (r 1), .int .i64 (r 2), .int .i64 (r 3), .int .i64 (r 4), .int .i64 (r 5), .int .i64 (r 6), .int .i64 (r 7), .int .i64 (r 8), .int .i64 (r 9), .int .i64 (r 10), .int .i64 (r 11), .int .i64 (r 12), .int .i64 (r 13), .int .i64 (r 14), .int .i64 (r 15), .int .i64 (r 16), .int .i64 (r 17), .int .i64 (r 18), .int .i64 (r 19), .int .i64 (r 20), .int .i64 (r 21), .int .i64 (r 22), .int .i64 (r 23)]
def TwJ (cs : List Cde) (kd : List Cn) (ar : Int) (nm : List UInt8) (mi r : Nat → Int) (qu : Int) : SV → World → World → Prop := fun x w w' => ∃ (ao1 ao2 : Option Addr) (cp1 cp2 : Nat) (cs' : List Cde), x = .agg (tsQ9 ar nm mi r (.sla ao1 cs.length cp1) qu (.sla ao2 kd.length cp2)) ∧ cs'.length = cs.length ∧ (∀ k, k < cs.length → (cs'.getD k Cde.z).l = (cs.getD k Cde.z).l) ∧ ∀ ks, (∀ b, ks.contains b = true → b < w.heap.size) → LstAt ao1 1 cs.length (fun zz => cdc (cs'.getD zz Cde.z)) w' ks ∧ CodesAt cs' w' ks
theorem lst_old {ao : Option Addr} {s n N : Nat} {f : Nat → List SV} {w : World} {ks : List Nat} (h : LstAt ao s n f w ks) (hf : ∀ q : Addr, ao = some q → N ≤ q.block) {ks' : List Nat} (hk : ∀ b, ks'.contains b = true → b < N) : LstAt ao s n f w ks' := by
 refine ⟨h.1, ?_⟩
 rcases h.2 with h | ⟨b, o, e1, e2, e3, e4⟩
 ·exact .inl h
 ·refine .inr ⟨b, o, e1, e2, ?_, e4⟩
  cases hq : ks'.contains b with
  | false => rfl
  | true => have h1 := hk b hq; have h2 : N ≤ b := hf _ e1; omega
theorem twJ_of {cs : List Cde} {kd : List Cn} {ar : Int} {nm : List UInt8} {mi r : Nat → Int} {qu : Int} {z : List Cde × Nat} {w w' : World} {ks ks1 : List Nat} {ao1 ao2 : Option Addr} {cp1 cp2 : Nat} (hrc : ∀ c ∈ cs, RCd c.l) (hz : NJ cs w.heap.size z w' ks) (hz2 : z.2 = cs.length) (hl : LstAt ao1 1 z.2 (fun zz => cdc (z.1.getD zz Cde.z)) w' ks1) (hf : ∀ q : Addr, ao1 = some q → w.heap.size ≤ q.block) : TwJ cs kd ar nm mi r qu (.agg (tsQ9 ar nm mi r (.sla ao1 z.2 cp1) qu (.sla ao2 kd.length cp2))) w w' := by
 have hm := hz.m
 refine ⟨ao1, ao2, cp1, cp2, z.1, by rw [hz2], by omega, fun k hk => hz.eq k (by omega), fun ks' hk => ⟨by rw [← hz2]; exact lst_old hl hf hk, fun c hc => lst_old (hz.at_ c hc).1 (hz.at_ c hc).2 hk⟩⟩
theorem hfrB {n : Nat} {T : List (Nat × SV)} {H : Hp} {G0 : Gr} {w0 : World} {G : Gr} {a : Act} {w : World} (B : Sy n T H [] G0 w0 G a w) {ao : Option Addr} (h : ∀ q : Addr, ao = some q → (keys H G).contains q.block = true ∨ w.heap.size ≤ q.block) : ∀ q : Addr, ao = some q → w0.heap.size ≤ q.block := fun q hq => (h q hq).elim (fun h => (B.keys_own _ h).elim (fun h => by cases h) id) (fun h => Nat.le_trans B.mix.size h)
theorem twin_ (cs : List Cde) (cx : Nat) (kd : List Cn) (ck : Nat) (ar : Int) (nm : List UInt8) (mi r : Nat → Int) (qu : Int) (hck : ckE cs = 0) (hk : kd.length ≤ 1000000) : FnW Tryz.prog 9 [.agg (tsQ9 ar nm mi r (.sl 0 cs.length cx) qu (.sl 1 kd.length ck))] [some (.lst 1 cs.length (fun zz => cdc (cs.getD zz Cde.z))), some (.lst 5 kd.length (fun zz => cc (kd.getD zz Cn.z)))] [] (fun w => CodesAt cs w []) (TwJ cs kd ar nm mi r qu) :=
 enterW (n := 32) (by kernel_rfl) Tryz.func9 rfl rfl rfl (fun i e h => by match i, h with | 0, h => cases h; rfl | 1, h => cases h; rfl | i + 2, h => cases h) fun G w a h0 ho hp A => have hrc := rcd_of hck; N9 26 A rfl rfl fun A => NILP 4 38 1 (fun zz => cdc (([] : List Cde).getD zz Cde.z)) (tpQ9 ar nm mi r) [.int .i64 qu, .sl 1 kd.length ck] A rfl (fun z => ⟨_, rfl, rfl⟩) rfl fun A => LOOPJ (fun (z : List Cde × Nat) => [(1, .ptr 2 0), (2, .ptr 3 0), (3, .ptr 4 0), (4, .int .i64 ((z.2 : Nat) : Int))]) (fun (z : List Cde × Nat) => [some (.lst 1 cs.length (fun zz => cdc (cs.getD zz Cde.z))), some (.lst 5 kd.length (fun zz => cc (kd.getD zz Cn.z))), some (.blk (tsQ9 ar nm mi r (.sl 0 cs.length cx) qu (.sl 1 kd.length ck))), some (.blk [.z9, .str [], .z9, .z9, .z9, .z9, .z9, .z9, .z9, .z9, .z9, .z9, .z9, .z9, .z9, .z9, .z9, .z9, .z9, .z9, .z9, .z9, .z9, .z9, .z9, .z9, .z9, .z9, .z9, .sla none 0 0, .z9, .sla none 0 0]), some (.blk (tsQ9 ar nm mi r (.sl 5 z.2 0) qu (.sl 1 kd.length ck))), some (.row 38 1 z.2 0 (fun zz => cdc (z.1.getD zz Cde.z)))]) (fun z w' ks => NJ cs w.heap.size z w' ks) (fun z => cs.length - z.2) ([], 0) ((A.cut [1, 2, 3, 4] rfl).mv 2 [2, 3, 4, 5] rfl rfl rfl rfl h0.symm) NJ.i0 fun z G a w hz hGl A B => have h00 := h0; have B0 := B; have h0 := B.mem.len; N9 10 A rfl rfl fun A => forkD 11 A rfl
   (fun h1 A => N9 5 A rfl rfl fun A => have hlt : z.2 < cs.length := (by omega); have hcd := (CodesAt.ok.now B hp).at hlt; have A := A.cut [1, 2, 3, 4] rfl; ANYP 10 8 hmo [.ptr 4 29, .sl 5 z.2 0, .sl 6 0 0, .ptr 2 29, .sl 0 cs.length cx, .int .i64 ((z.2 : Nat) : Int), .el 0 1 ((z.2 : Nat) : Int) 0, .sla ((cs.getD ((((z.2 : Nat) : Int)).toNat) Cde.z).ao) ((cs.getD ((((z.2 : Nat) : Int)).toNat) Cde.z).l.length) ((cs.getD ((((z.2 : Nat) : Int)).toNat) Cde.z).cp), .sl 7 ((cs.getD ((((z.2 : Nat) : Int)).toNat) Cde.z).l.length) 0, .sl 8 1 1, .tup [], .tup [], .tup []] [2, 8, 9] [6, 7, 8] 3 [([], [6, 7, 8], [some (.lst 1 cs.length (fun zz => cdc (cs.getD zz Cde.z))), some (.lst 5 kd.length (fun zz => cc (kd.getD zz Cn.z))), some (.blk (tsQ9 ar nm mi r (.sl 0 cs.length cx) qu (.sl 1 kd.length ck))), some (.blk [.z9, .str [], .z9, .z9, .z9, .z9, .z9, .z9, .z9, .z9, .z9, .z9, .z9, .z9, .z9, .z9, .z9, .z9, .z9, .z9, .z9, .z9, .z9, .z9, .z9, .z9, .z9, .z9, .z9, .sla none 0 0, .z9, .sla none 0 0]), some (.blk (tsQ9 ar nm mi r (.sl 5 z.2 0) qu (.sl 1 kd.length ck))), some (.row 38 1 z.2 0 (fun zz => cdc (z.1.getD zz Cde.z))), none, none, none]), ([2], [7, 8], [some (.lst 1 cs.length (fun zz => cdc (cs.getD zz Cde.z))), some (.lst 5 kd.length (fun zz => cc (kd.getD zz Cn.z))), some (.blk (tsQ9 ar nm mi r (.sl 0 cs.length cx) qu (.sl 1 kd.length ck))), some (.blk [.z9, .str [], .z9, .z9, .z9, .z9, .z9, .z9, .z9, .z9, .z9, .z9, .z9, .z9, .z9, .z9, .z9, .z9, .z9, .z9, .z9, .z9, .z9, .z9, .z9, .z9, .z9, .z9, .z9, .sla none 0 0, .z9, .sla none 0 0]), some (.blk (tsQ9 ar nm mi r (.sl 5 z.2 0) qu (.sl 1 kd.length ck))), some (.row 38 1 z.2 0 (fun zz => cdc (z.1.getD zz Cde.z))), some (.row 56 17 0 0 (fun _ => [.z9, .z9, .z9, .z9, .z9, .z9, .z9, .z9, .z9, .z9, .ff, .ff, .ff, .z9, .z9, .z9, .ff])), none, none]), ([2, 8], [8], [some (.lst 1 cs.length (fun zz => cdc (cs.getD zz Cde.z))), some (.lst 5 kd.length (fun zz => cc (kd.getD zz Cn.z))), some (.blk (tsQ9 ar nm mi r (.sl 0 cs.length cx) qu (.sl 1 kd.length ck))), some (.blk [.z9, .str [], .z9, .z9, .z9, .z9, .z9, .z9, .z9, .z9, .z9, .z9, .z9, .z9, .z9, .z9, .z9, .z9, .z9, .z9, .z9, .z9, .z9, .z9, .z9, .z9, .z9, .z9, .z9, .sla none 0 0, .z9, .sla none 0 0]), some (.blk (tsQ9 ar nm mi r (.sl 5 z.2 0) qu (.sl 1 kd.length ck))), some (.row 38 1 z.2 0 (fun zz => cdc (z.1.getD zz Cde.z))), none, some (.row 56 17 ((cs.getD ((((z.2 : Nat) : Int)).toNat) Cde.z).l.length) 0 (fun zz => insS ((cs.getD ((((z.2 : Nat) : Int)).toNat) Cde.z).l.getD zz In.z))), none]), ([2, 8, 9], [], [some (.lst 1 cs.length (fun zz => cdc (cs.getD zz Cde.z))), some (.lst 5 kd.length (fun zz => cc (kd.getD zz Cn.z))), some (.blk (tsQ9 ar nm mi r (.sl 0 cs.length cx) qu (.sl 1 kd.length ck))), some (.blk [.z9, .str [], .z9, .z9, .z9, .z9, .z9, .z9, .z9, .z9, .z9, .z9, .z9, .z9, .z9, .z9, .z9, .z9, .z9, .z9, .z9, .z9, .z9, .z9, .z9, .z9, .z9, .z9, .z9, .sla none 0 0, .z9, .sla none 0 0]), some (.blk (tsQ9 ar nm mi r (.sl 5 z.2 0) qu (.sl 1 kd.length ck))), some (.row 38 1 z.2 0 (fun zz => cdc (z.1.getD zz Cde.z))), none, some (.row 56 17 ((cs.getD ((((z.2 : Nat) : Int)).toNat) Cde.z).l.length) 0 (fun zz => insS ((cs.getD ((((z.2 : Nat) : Int)).toNat) Cde.z).l.getD zz In.z))), some (.blk [.sl 7 ((cs.getD ((((z.2 : Nat) : Int)).toNat) Cde.z).l.length) 0])])] [[true, true, true, true, true, true, true, true, false, false], [true, true, false, true, true, true, true, true, true, false], [true, true, false, true, true, true, true, false, false, true], [true, true, false, true, true, true, true, false, false, false]] A rfl rfl rfl rfl (by kernel_rfl) rfl (by kernel_rfl) rfl (by kernel_rfl) (by kernel_rfl) ⟨⟨oV9 0 rfl rfl, ⟨oV9 0 rfl rfl, ⟨⟨_, _, _, _, 1, rfl, rfl, rfl, rfl, new_at 6 (X := ⟨_, true⟩) hX rfl rfl (le0 h0 rfl) rfl rfl rfl rfl⟩, ⟨oV9 0 rfl rfl, ⟨oV9 0 rfl rfl, ⟨oV9 0 rfl rfl, ⟨oV9 0 rfl (ok_d (by have := hz.le; omega) <| okE_nil), ⟨oV9 0 rfl (ok_d (by have := hz.le; omega) <| okE_nil), trivial⟩⟩⟩⟩⟩⟩⟩⟩, ⟨⟨oV9 1 rfl rfl, ⟨oV9 1 rfl rfl, ⟨oV9 1 rfl rfl, ⟨oV9 1 rfl rfl, ⟨oV9 1 rfl rfl, ⟨oV9 1 rfl (ok_d (by have := hz.le; omega) <| okE_nil), ⟨oV9 1 rfl (ok_d (by have := hz.le; omega) <| okE_nil), ⟨⟨_, _, _, _, 2, rfl, rfl, rfl, rfl, put_at 7 (apaE hX rfl rfl rfl rfl rfl rfl rfl rfl hcd (Nat.le_trans (rcAt hrc.2 hlt).n (by decide)) (fun z => ⟨_, rfl, rfl⟩) (fun k hk => ⟨_, rfl, okE_nil⟩)) rfl rfl (le0 h0 rfl) rfl rfl rfl rfl⟩, trivial⟩⟩⟩⟩⟩⟩⟩⟩, ⟨⟨oV9 2 rfl rfl, ⟨oV9 2 rfl rfl, ⟨oV9 2 rfl rfl, ⟨oV9 2 rfl rfl, ⟨oV9 2 rfl rfl, ⟨oV9 2 rfl (ok_d (by have := hz.le; omega) <| okE_nil), ⟨⟨_, _, _, _, 3, rfl, rfl, rfl, rfl, new_at 8 (X := ⟨_, true⟩) hX rfl rfl (le0 h0 rfl) rfl rfl rfl rfl⟩, trivial⟩⟩⟩⟩⟩⟩⟩, ⟨⟨oV9 3 rfl rfl, ⟨oV9 3 rfl rfl, ⟨oV9 3 rfl rfl, ⟨oV9 3 rfl rfl, ⟨oV9 3 rfl rfl, ⟨oV9 3 rfl (ok_d (by have := hz.le; omega) <| okE_nil), trivial⟩⟩⟩⟩⟩⟩, trivial⟩⟩⟩⟩ fun fuel listed {_ _ _} hls hfu A => anyfuel (k := 3) hls hfu fun f => LAYR 7 8 (fun ao' cp' => [some (.lst 1 cs.length (fun zz => cdc (cs.getD zz Cde.z))), some (.lst 5 kd.length (fun zz => cc (kd.getD zz Cn.z))), some (.blk (tsQ9 ar nm mi r (.sl 0 cs.length cx) qu (.sl 1 kd.length ck))), some (.blk [.z9, .str [], .z9, .z9, .z9, .z9, .z9, .z9, .z9, .z9, .z9, .z9, .z9, .z9, .z9, .z9, .z9, .z9, .z9, .z9, .z9, .z9, .z9, .z9, .z9, .z9, .z9, .z9, .z9, .sla none 0 0, .z9, .sla none 0 0]), some (.blk (tsQ9 ar nm mi r (.sl 5 z.2 0) qu (.sl 1 kd.length ck))), some (.row 38 1 z.2 0 (fun zz => cdc (z.1.getD zz Cde.z))), none, none, some (.blk [.sla ao' ((cs.getD ((((z.2 : Nat) : Int)).toNat) Cde.z).l.length) cp'])]) A rfl rfl rfl (fun _ _ => rfl) fun ao' cp' A hl hfr => have hz := NJ.ok.now A hz; have hfr : ∀ q : Addr, ao' = some q → _ ≤ q.block := fun q hq => (hfr q hq).elim (fun h => (B.keys_own _ h).elim (fun h => by cases h) id) (fun h => Nat.le_trans B.mix.size h); have B := B.trans A; have A := B.base; have h0 := B.mem.len; any_at (rs := [10]) (by kernel_rfl) (by decide) (fc9 ⟨any_eff (x := .sl 9 (z.2 + 1) 0) (H' := [some (.lst 1 cs.length (fun zz => cdc (cs.getD zz Cde.z))), some (.lst 5 kd.length (fun zz => cc (kd.getD zz Cn.z))), some (.blk (tsQ9 ar nm mi r (.sl 0 cs.length cx) qu (.sl 1 kd.length ck))), some (.blk [.z9, .str [], .z9, .z9, .z9, .z9, .z9, .z9, .z9, .z9, .z9, .z9, .z9, .z9, .z9, .z9, .z9, .z9, .z9, .z9, .z9, .z9, .z9, .z9, .z9, .z9, .z9, .z9, .z9, .sla none 0 0, .z9, .sla none 0 0]), some (.blk (tsQ9 ar nm mi r (.sl 5 z.2 0) qu (.sl 1 kd.length ck))), none, none, none, some (.blk [.sla ao' ((cs.getD ((((z.2 : Nat) : Int)).toNat) Cde.z).l.length) cp']), some (.row 38 1 (z.2 + 1) 0 (fun zz => cdc ((z.1 ++ [(⟨ao', (cs.getD (((z.2 : Nat) : Int)).toNat Cde.z).l, cp'⟩ : Cde)]).getD zz Cde.z)))]) rfl A rfl (appE (i := 5) hX (z.2 + 1) (fun zz => cdc ((z.1 ++ [(⟨ao', (cs.getD (((z.2 : Nat) : Int)).toNat Cde.z).l, cp'⟩ : Cde)]).getD zz Cde.z)) rfl rfl rfl rfl (by omega) rfl (fun k hk => by show cdc _ = cdc _; rw [gd_l hz.m hk]) (by show cdc _ = _; rw [gd_1 hz.m] <;> rfl) (fun z => ⟨_, rfl, rfl⟩)) fun A => any_at (rs := [11]) (by kernel_rfl) (by decide) (fc9 ⟨aV9 (.ptr 4 29) rfl A rfl rfl fun A => any_at (rs := [12]) (by kernel_rfl) (by decide) (fc9 ⟨any_eff (x := .tup []) (H' := [some (.lst 1 cs.length (fun zz => cdc (cs.getD zz Cde.z))), some (.lst 5 kd.length (fun zz => cc (kd.getD zz Cn.z))), some (.blk (tsQ9 ar nm mi r (.sl 0 cs.length cx) qu (.sl 1 kd.length ck))), some (.blk [.z9, .str [], .z9, .z9, .z9, .z9, .z9, .z9, .z9, .z9, .z9, .z9, .z9, .z9, .z9, .z9, .z9, .z9, .z9, .z9, .z9, .z9, .z9, .z9, .z9, .z9, .z9, .z9, .z9, .sla none 0 0, .z9, .sla none 0 0]), some (.blk (tsQ9 ar nm mi r (.sl 9 (z.2 + 1) 0) qu (.sl 1 kd.length ck))), none, none, none, some (.blk [.sla ao' ((cs.getD ((((z.2 : Nat) : Int)).toNat) Cde.z).l.length) cp']), some (.row 38 1 (z.2 + 1) 0 (fun zz => cdc ((z.1 ++ [(⟨ao', (cs.getD (((z.2 : Nat) : Int)).toNat Cde.z).l, cp'⟩ : Cde)]).getD zz Cde.z)))]) rfl A rfl (eff_auto (X := ⟨_, true⟩) (out := .upd 4 (tsQ9 ar nm mi r (.sl 9 (z.2 + 1) 0) qu (.sl 1 kd.length ck)) _) hX rfl rfl) fun A => any_end (by kernel_rfl) (N9 7 A rfl (ok_d (by have := hz.le; omega) <| okE_nil) fun A => ⟨((z.1 ++ [(⟨ao', (cs.getD (((z.2 : Nat) : Int)).toNat Cde.z).l, cp'⟩ : Cde)]), z.2 + 1), _, (by show cs.length - (z.2 + 1) < cs.length - z.2; omega), ((NJ.ok.now A hz).nx hlt (LstAt.ok.now A hl) hfr).mv (m := [0, 1, 2, 3, 4, 9]) A.mem.len rfl rfl, (((B.trans A).cut [1, 2, 3, 4] rfl).mv 2 [2, 3, 4, 9] rfl rfl rfl rfl h00.symm)⟩), fn9⟩), fn9⟩), fn9⟩))
   (fun h1 A => N9 4 A rfl rfl fun A => have hz2 : z.2 = cs.length := (by have := hz.le; omega); N9 4 A rfl rfl fun A => APPL hX kd.length (fun zz => cc (kd.getD zz Cn.z)) A rfl rfl rfl rfl (Nat.le_refl _) (by omega) hk (by omega) (fun k hk => by omega) (fun k hk => by show cc _ = cc _; rw [Nat.zero_add]) (fun z => ⟨_, rfl, rfl⟩) (fun k hk => ⟨_, rfl, okE_nil⟩) fun A => N9 11 A rfl rfl fun A => LAYP 5 3 (tpQ9 ar nm mi r) [.int .i64 qu, .sl 7 kd.length 0] (fun ao1 cp1 => [some (.lst 1 cs.length (fun zz => cdc (cs.getD zz Cde.z))), some (.lst 5 kd.length (fun zz => cc (kd.getD zz Cn.z))), some (.blk (tsQ9 ar nm mi r (.sl 0 cs.length cx) qu (.sl 1 kd.length ck))), some (.blk (tsQ9 ar nm mi r (.sla ao1 z.2 cp1) qu (.sl 7 kd.length 0))), some (.blk (tsQ9 ar nm mi r (.sl 5 z.2 0) qu (.sl 7 kd.length 0))), none, none, some (.row 67 5 kd.length 0 (fun zz => cc (kd.getD zz Cn.z)))]) A rfl rfl rfl (fun _ _ => rfl) fun ao1 cp1 A hl1 hf1 => have B := B.trans A; have hz := NJ.ok.now A hz; have A := B.base; LAYP 7 3 [.int .i64 ar, .str nm, .int .i64 (mi 0), .int .i64 (mi 1), .int .i64 (mi 2), .int .i64 (r 0), .int .i64 (r 1), .int .i64 (r 2), .int .i64 (r 3), .int .i64 (r 4), .int .i64 (r 5), .int .i64 (r 6), .int .i64 (r 7), .int .i64 (r 8), .int .i64 (r 9), .int .i64 (r 10), .int .i64 (r 11), .int .i64 (r 12), .int .i64 (r 13), .int .i64 (r 14), .int .i64 (r 15), .int .i64 (r 16), .int .i64 (r 17), .int .i64 (r 18), .int .i64 (r 19), .int .i64 (r 20), .int .i64 (r 21), .int .i64 (r 22), .int .i64 (r 23), .sla ao1 z.2 cp1, .int .i64 qu] [] (fun ao2 cp2 => [some (.lst 1 cs.length (fun zz => cdc (cs.getD zz Cde.z))), some (.lst 5 kd.length (fun zz => cc (kd.getD zz Cn.z))), some (.blk (tsQ9 ar nm mi r (.sl 0 cs.length cx) qu (.sl 1 kd.length ck))), some (.blk (tsQ9 ar nm mi r (.sla ao1 z.2 cp1) qu (.sla ao2 kd.length cp2))), some (.blk (tsQ9 ar nm mi r (.sl 5 z.2 0) qu (.sl 7 kd.length 0))), none, none, none]) A rfl rfl rfl (fun _ _ => rfl) fun ao2 cp2 A hl2 hf2 => RETW (J := TwJ cs kd ar nm mi r qu) hX (B.trans A) rfl rfl rfl rfl (twJ_of hrc.2 (NJ.ok.now A hz) hz2 (LstAt.ok.now A hl1) (hfrB B0 hf1)))
end Go.Proofs.YtjkppaijicjpoaaGreatDoor.Mc
namespace Go.Proofs.YtjkppaijicjpoaaGreatDoor
open Go.RowKit
set_option linter.unusedVariables false
set_option linter.unusedSimpArgs false
set_option maxRecDepth 100000
set_option maxHeartbeats 2000000
set_option simprocs false
def m1 (ws : List Tk) (s : Ps) : Ps := s.wa (mkA ws s.as [91])
def m2 (ws : List Tk) (s : Ps) : Ps := ⟨{ s.ins with loc := knI ws s.as [[120], [121], [122]], ix := -1 }, s.lab, (knA ws s.as [[120], [121], [122]]).e, (knA ws s.as [[120], [121], [122]]).a, (knA ws s.as [[120], [121], [122]]).p⟩
def psB (ws : List Tk) (s : Ps) : Bool := tkB ws s.p [43]
def m3 (ws : List Tk) (s : Ps) : Ps := ⟨s.ins, s.lab, s.e, s.a, tkK ws s.p [43]⟩
def nuQ (ws : List Tk) (s : Ps) : Bool := (ws.getD s.p tok0).kind == 2
def offI (ws : List Tk) (s : Ps) : Ps := ⟨{ s.ins with off := nbV ws s.p }, s.lab, s.e, s.a, nbK ws s.p⟩
def regI (g : Lg) (ws : List Tk) (s : Ps) : Ps := ⟨{ s.ins with ix := knI ws s.as [g.r0, g.r1, g.r2, g.r3, g.r4, g.r5, g.r6, g.r7] }, s.lab, (knA ws s.as [g.r0, g.r1, g.r2, g.r3, g.r4, g.r5, g.r6, g.r7]).e, (knA ws s.as [g.r0, g.r1, g.r2, g.r3, g.r4, g.r5, g.r6, g.r7]).a, (knA ws s.as [g.r0, g.r1, g.r2, g.r3, g.r4, g.r5, g.r6, g.r7]).p⟩
def m5 (ws : List Tk) (s : Ps) : Ps := s.wa (mkA ws s.as [93])
def mem3 (ws : List Tk) (s : Ps) : Ps := m3 ws (m2 ws (m1 ws s))
def memS (g : Lg) (ws : List Tk) (s : Ps) : Ps := m5 ws (if psB ws (m2 ws (m1 ws s)) = true then (if nuQ ws (mem3 ws s) = true then (if psB ws (offI ws (mem3 ws s)) = true then regI g ws (m3 ws (offI ws (mem3 ws s))) else m3 ws (offI ws (mem3 ws s))) else regI g ws (mem3 ws s)) else mem3 ws s)
section
variable {g : Lg} {ws : List Tk} {s : Ps}
end
def begI (g : Lg) (t : Tk) : Bool := if g.im = [] then ((t.kind == 2) || ((t.kind == 3) && (t.text == [45]))) else ((t.kind == 3) && (t.text == g.im))
def begQ (g : Lg) (r : Rw) (p : Int) (t : Tk) : Bool := if p = 5 then begI g t else if p = 6 then ((t.kind == 3) && (t.text == [91])) else if p = 10 then ((t.kind == 1) && (t.text == r.wd)) else (t.kind == 1)
def ptS (g : Lg) (ws : List Tk) (p : Int) (s : Ps) : Ps :=
 if p = 1 then ⟨{ s.ins with dst := knI ws s.as [g.r0, g.r1, g.r2, g.r3, g.r4, g.r5, g.r6, g.r7] }, s.lab, (knA ws s.as [g.r0, g.r1, g.r2, g.r3, g.r4, g.r5, g.r6, g.r7]).e, (knA ws s.as [g.r0, g.r1, g.r2, g.r3, g.r4, g.r5, g.r6, g.r7]).a, (knA ws s.as [g.r0, g.r1, g.r2, g.r3, g.r4, g.r5, g.r6, g.r7]).p⟩ else
 if p = 4 then ⟨{ s.ins with dst := knI ws s.as [g.r0, g.r1, g.r2, g.r3, g.r4, g.r5, g.r6, g.r7] }, s.lab, (knA ws s.as [g.r0, g.r1, g.r2, g.r3, g.r4, g.r5, g.r6, g.r7]).e, (knA ws s.as [g.r0, g.r1, g.r2, g.r3, g.r4, g.r5, g.r6, g.r7]).a, (knA ws s.as [g.r0, g.r1, g.r2, g.r3, g.r4, g.r5, g.r6, g.r7]).p⟩ else
 if p = 2 then ⟨{ s.ins with ra := knI ws s.as [g.r0, g.r1, g.r2, g.r3, g.r4, g.r5, g.r6, g.r7] }, s.lab, (knA ws s.as [g.r0, g.r1, g.r2, g.r3, g.r4, g.r5, g.r6, g.r7]).e, (knA ws s.as [g.r0, g.r1, g.r2, g.r3, g.r4, g.r5, g.r6, g.r7]).a, (knA ws s.as [g.r0, g.r1, g.r2, g.r3, g.r4, g.r5, g.r6, g.r7]).p⟩ else
 if p = 3 then ⟨{ s.ins with rb := knI ws s.as [g.r0, g.r1, g.r2, g.r3, g.r4, g.r5, g.r6, g.r7] }, s.lab, (knA ws s.as [g.r0, g.r1, g.r2, g.r3, g.r4, g.r5, g.r6, g.r7]).e, (knA ws s.as [g.r0, g.r1, g.r2, g.r3, g.r4, g.r5, g.r6, g.r7]).a, (knA ws s.as [g.r0, g.r1, g.r2, g.r3, g.r4, g.r5, g.r6, g.r7]).p⟩ else
 if p = 5 then ⟨{ s.ins with imm := immV g ws s.as }, s.lab, (immA g ws s.as).e, (immA g ws s.as).a, (immA g ws s.as).p⟩ else
 if p = 6 then memS g ws s else
 if p = 7 then ⟨s.ins, nmT ws s.p, s.e, s.a, nmK ws s.p⟩ else
 if p = 8 then ⟨{ s.ins with pred := knI ws s.as [g.f0, g.f1, g.f2] + 1 }, s.lab, (knA ws s.as [g.f0, g.f1, g.f2]).e, (knA ws s.as [g.f0, g.f1, g.f2]).a, (knA ws s.as [g.f0, g.f1, g.f2]).p⟩ else
 if p = 9 then ⟨{ s.ins with succ := knI ws s.as [g.f0, g.f1, g.f2] + 1 }, s.lab, (knA ws s.as [g.f0, g.f1, g.f2]).e, (knA ws s.as [g.f0, g.f1, g.f2]).a, (knA ws s.as [g.f0, g.f1, g.f2]).p⟩ else
 if p = 10 then ⟨s.ins, s.lab, s.e, s.a, nxK ws s.p⟩ else
 s
end Go.Proofs.YtjkppaijicjpoaaGreatDoor
namespace Go.Proofs.YtjkppaijicjpoaaGreatDoor
open Go.Shelf Go.RowKit
set_option linter.unusedVariables false

end Go.Proofs.YtjkppaijicjpoaaGreatDoor
namespace Go.Proofs.YtjkppaijicjpoaaGreatDoor
open Go.RowKit
set_option linter.unusedVariables false
set_option linter.unusedSimpArgs false
set_option maxRecDepth 100000
set_option maxHeartbeats 2000000
set_option simprocs false

section
variable {g : Lg} {q : List UInt8} {L : List Rw} {z : Int} {k : Nat}
end
def stk (g : Lg) (k : Nat) (t : Tk) (r : Rw) : Bool := !(begQ g r (r.ps.getD k 0) t)
def ask10 (k : Nat) (r : Rw) : Bool := r.ps.getD k 0 == 10
def fstX (f : Rw → Bool) (R : List Rw) : Int := match (List.range R.length).find? (fun j => f (R.getD j Rw.z)) with | some j => (j : Int) | none => -1
section
variable {f : Rw → Bool} {R cur : List Rw} {k i j : Nat}
structure Hlf (f : Rw → Bool) (R cur : List Rw) (i j : Nat) : Prop where
 len : cur.length = R.length
 ij : i < j
 jl : j ≤ R.length
 pre : cur.take i = (R.take j).filter (fun r => !f r)
 post : ∀ m, j ≤ m → cur[m]? = R[m]?
theorem Hlf.at (h : Hlf f R cur i j) : cur.getD j Rw.z = R.getD j Rw.z := by
 rw [List.getD_eq_getElem?_getD, List.getD_eq_getElem?_getD, h.post j (Nat.le_refl _)]
end
def mfV (kk : Nat) (t : Tk) (R : List Rw) : Int := if ((decide (fstX (ask10 kk) R ≥ 0)) && (t.kind == 1)) = true then 21 else 22
def lft (g : Lg) (kk : Nat) (t : Tk) (R : List Rw) : List Rw := R.filter (fun r => !stk g kk t r)
def beS (g : Lg) (ws : List Tk) (kk : Nat) (R : List Rw) (s : Ps) : Ps := if (lft g kk (ws.getD s.p tok0) R).length = 0 then s.wa (refA ws s.as (mfV kk (ws.getD s.p tok0) R)) else s
section
variable {f : Rw → Bool} {R cur : List Rw} {i j kk : Nat} {w : World} {ks : List Nat} {x : Rw}
end
end Go.Proofs.YtjkppaijicjpoaaGreatDoor
namespace Go.Proofs.YtjkppaijicjpoaaGreatDoor
open Go.Shelf Go.RowKit
set_option linter.unusedVariables false
def strV (l : List UInt8) : List Value := [.string (S l)]
def laysJoin_ren : Go.Shelf.Ren := ⟨fun | 156 => 139 | 165 => 174 | 166 => 175 | 169 => 176 | 240 => 205 | 241 => 206 | 276 => 228 | 277 => 229 | n => n, fun | 0 => 0 | 3 => 3 | 4 => 4 | 9 => 9 | 20 => 20 | 31 => 168 | 37 => 101 | 70 => 202 | 72 => 204 | 75 => 176 | 76 => 206 | 127 => 234 | 164 => 252 | 5 => 5 | 80 => 64 | n => n, fun | n => n⟩
theorem laysJoin : Go.Proofs.Lays.n156 Tryz.prog laysJoin_ren := {
 mixed := by kernel_rfl
 f156 := Tryz.func139.trans (congrArg some (by kernel_rfl))
 f165 := Tryz.func174.trans (congrArg some (by kernel_rfl))
 f166 := Tryz.func175.trans (congrArg some (by kernel_rfl))
 f169 := Tryz.func176.trans (congrArg some (by kernel_rfl))
 f240 := Tryz.func205.trans (congrArg some (by kernel_rfl))
 f241 := Tryz.func206.trans (congrArg some (by kernel_rfl))
 f276 := Tryz.func228.trans (congrArg some (by kernel_rfl))
 f277 := Tryz.func229.trans (congrArg some (by kernel_rfl))
 t0 := Tryz.underlying0
 a0 := Tryz.isAgg0
 z0 := Tryz.sizeOf0
 v0 := Tryz.zeroValue0
 t3 := Tryz.underlying3
 a3 := Tryz.isAgg3
 z3 := Tryz.sizeOf3
 v3 := Tryz.zeroValue3
 t4 := Tryz.underlying4
 a4 := Tryz.isAgg4
 z4 := Tryz.sizeOf4
 v4 := Tryz.zeroValue4
 t9 := Tryz.underlying9
 a9 := Tryz.isAgg9
 z9 := Tryz.sizeOf9
 v9 := Tryz.zeroValue9
 t20 := Tryz.underlying20
 a20 := Tryz.isAgg20
 z20 := Tryz.sizeOf20
 v20 := Tryz.zeroValue20
 t31 := Tryz.underlying168
 a31 := Tryz.isAgg168
 z31 := Tryz.sizeOf168
 v31 := Tryz.zeroValue168
 t37 := Tryz.underlying101
 a37 := Tryz.isAgg101
 z37 := Tryz.sizeOf101
 v37 := Tryz.zeroValue101
 t70 := Tryz.underlying202
 a70 := Tryz.isAgg202
 z70 := Tryz.sizeOf202
 v70 := Tryz.zeroValue202
 t72 := Tryz.underlying204
 a72 := Tryz.isAgg204
 z72 := Tryz.sizeOf204
 v72 := Tryz.zeroValue204
 t75 := Tryz.underlying176
 a75 := Tryz.isAgg176
 z75 := Tryz.sizeOf176
 v75 := Tryz.zeroValue176
 t76 := Tryz.underlying206
 a76 := Tryz.isAgg206
 z76 := Tryz.sizeOf206
 v76 := Tryz.zeroValue206
 t127 := Tryz.underlying234
 a127 := Tryz.isAgg234
 z127 := Tryz.sizeOf234
 v127 := Tryz.zeroValue234
 t164 := Tryz.underlying252
 a164 := Tryz.isAgg252
 z164 := Tryz.sizeOf252
 v164 := Tryz.zeroValue252 }
theorem joinExtra : Go.Proofs.Builder.Extra Tryz.prog laysJoin_ren where
 sizeBuilder := by kernel_rfl
 liesBuilder := by kernel_rfl
 t5 := Tryz.underlying5
 a5 := Tryz.isAgg5
 z5 := Tryz.sizeOf5
 v5 := Tryz.zeroValue5
 infoByte := by kernel_rfl
 cellsByte := by kernel_rfl
 sizeByte := by kernel_rfl
 neB5 := by decide
theorem join_any (mv : Value) (ls : List (List UInt8)) (q : List UInt8) (w : World) (hM : Sl strV 1 w.heap.size w mv ls) (h0 : ls ≠ []) (hn : ls.length ≤ 1000) (hl : (Lib.join ls q).length ≤ 1000000) : Calls Tryz.prog 139 #[mv, .string (S q)] w fun e w' => e = .returned (.string (S (Lib.join ls q))) ∧ Grow w w' := by
 obtain ⟨ao, cap, rfl, hlc, hel⟩ := hM
 obtain ⟨x, r, rfl⟩ : ∃ x r, ls = x :: r := by cases ls with
  | nil => exact absurd rfl h0
  | cons x r => exact ⟨x, r, rfl⟩
 obtain ⟨b, o, rfl, hb, _⟩ := hel 0 x rfl
 have hmap : ((x :: r).map S).map (fun s => s.data.toList) = x :: r := by
  rw [List.map_map]
  conv => rhs; rw [← List.map_id (x :: r)]
  exact List.map_congr_left fun y _ => S_data y
 have hlen : ((x :: r).map S).length = (x :: r).length := List.length_map _
 have hc := Any.strings_Join laysJoin joinExtra b o cap ((x :: r).map S) (S q) w (fun j y hy => by
   rw [List.getElem?_map] at hy
   cases hz : (x :: r)[j]? with
   | none => rw [hz] at hy; cases hy
   | some z =>
    rw [hz] at hy
    simp only [Option.map_some, Option.some.injEq] at hy
    subst hy
    obtain ⟨b', o', h1, _, h3⟩ := hel j z hz
    simp only [Option.some.injEq, Addr.mk.injEq] at h1
    obtain ⟨rfl, rfl, _⟩ := h1
    have := h3 0 (.string (S z)) rfl
    rw [Nat.mul_one, Nat.add_zero] at this
    exact this) hb (by rw [hlen]; omega) (by rw [hlen]; exact hlc) (by rw [hmap, S_data]; omega)
 rw [hlen, hmap, S_data] at hc
 exact hc.mono fun e w' h => ⟨h.1, h.2⟩
end Go.Proofs.YtjkppaijicjpoaaGreatDoor
namespace Go.Proofs.YtjkppaijicjpoaaGreatDoor
open Go.RowKit
set_option linter.unusedVariables false
set_option linter.unusedSimpArgs false
theorem mem_ro {H : Hp} {G : Gr} {w : World} (hl : H.length = G.length) (h : ∀ (i : Nat) (e : Ent), H[i]? = some (some e) → e.mut = false ∧ EntOK G w ((G[i]?).getD none) e) : Mem H G w :=
 ⟨hl, fun i e he => (h i e he).2, fun i j e f L M _ he _ hm => by rw [(h i e he).1] at hm; cases hm⟩
theorem lst_of {α : Type} {enc : α → List Value} {f : Nat → List SV} {s B n cap : Nat} {w : World} {l : List α} {bo : Option (Nat × Nat)} (h : Sl enc s B w (.slice (bo.map fun x => ⟨x.1, x.2, none⟩) n cap) l) (hB : B ≤ w.heap.size)
  (hf : ∀ k x, l[k]? = some x → denL [] (f k) = some (enc x)) (htot : ∀ k, ∃ vs, denL [] (f k) = some vs) :
  n = l.length ∧ ∀ (G F : Gr), den (G ++ (bo.map fun x => (⟨x.1, List.replicate x.2 undef, [], 0⟩ : Loc)) :: F) (.sl G.length l.length cap) = some (.slice (bo.map fun x => ⟨x.1, x.2, none⟩) n cap) ∧ EntOK (G ++ (bo.map fun x => (⟨x.1, List.replicate x.2 undef, [], 0⟩ : Loc)) :: F) w (bo.map fun x => (⟨x.1, List.replicate x.2 undef, [], 0⟩ : Loc)) (.lst s l.length f) := by
 obtain ⟨ao, cap', hv, hlc, he⟩ := h
 simp only [Value.slice.injEq] at hv
 obtain ⟨rfl, rfl, rfl⟩ := hv
 refine ⟨rfl, fun G F => ⟨?_, htot, ?_⟩⟩
 ·unfold den
  rw [List.getElem?_append_right (Nat.le_refl _)]
  cases bo <;> simp [rm]
 ·cases bo with
  | none =>
   left
   cases l with
   | nil => rfl
   | cons x l => obtain ⟨b, o, h1, _⟩ := he 0 x rfl; cases h1
  | some x =>
   obtain ⟨b, o⟩ := x
   cases hl : l with
   | nil => left; rfl
   | cons y l' =>
    right
    have hb : b < B := by
     obtain ⟨b', o', h1, h2, _⟩ := he 0 y (by rw [hl]; rfl)
     cases h1; exact h2
    refine ⟨_, rfl, (by show b < _; omega), fun k hk => ?_⟩
    have hk' : k < l.length := by rw [hl]; exact hk
    obtain ⟨b', o', h1, h2, h3⟩ := he k l[k] (by simp [hk'])
    cases h1
    exact ⟨_, hf k l[k] (by simp [hk']), by simpa using h3⟩
theorem post_ro {x : SV} {H H2 : Hp} {G : Gr} {w w' : World} {e : Ending} (h : Post (Rt x H2) H G w e w') (hro : ∀ (i : Nat) (e : Ent), H[i]? = some (some e) → e.mut = false) : ∃ v F, den (G ++ F) x = some v ∧ e = .returned v ∧ Mem H2 (G ++ F) w' ∧ Grow w w' := by
 obtain ⟨y, H', F, v, ⟨rfl, rfl⟩, h1, h2, h3, hmix, _⟩ := h
 have hk : ∀ k, (keys H G).contains k = false := fun k => by
  cases hc : (keys H G).contains k with
  | false => rfl
  | true =>
   obtain ⟨i, e', L, q1, q2, _⟩ := mem_keys.1 hc
   rw [hro i e' q1] at q2; cases q2
 exact ⟨v, F, h1, h2, h3, ⟨hmix.os, hmix.tape, hmix.output, hmix.size, fun k hk' => hmix.block k hk' (hk k)⟩⟩
abbrev lstS (ls : List (List UInt8)) : Ent := .lst 1 ls.length fun k => [.str (ls.getD k [])]
theorem join_ (ls : List (List UInt8)) (q : List UInt8) (h0 : ls ≠ []) (hn : ls.length ≤ 1000) (hl : (Lib.join ls q).length ≤ 1000000) : Fn Tryz.prog 139 [.sl 0 ls.length ls.length, .str q] [some (lstS ls)] (Rt (.str (Lib.join ls q)) [some (lstS ls)]) := by
 refine ⟨by kernel_rfl, fun G w vs hM hv => ?_⟩
 obtain ⟨p, rfl⟩ : ∃ p, G = [p] := List.length_eq_one_iff.1 hM.len.symm
 have he := hM.ent 0 _ rfl
 obtain ⟨hd, h | ⟨L, hp, hb, hr⟩⟩ := he
 ·exact absurd (List.eq_nil_of_length_eq_zero h) h0
 have hp' : p = some L := hp
 subst hp'
 have hv' : some [Value.slice (some ⟨L.b, L.pre.length, none⟩) ls.length (ls.length + rm (some L)), .string (S q)] = some vs := hv
 cases hv'
 have hS : Sl strV 1 w.heap.size w (.slice (some ⟨L.b, L.pre.length, none⟩) ls.length (ls.length + rm (some L))) ls := ⟨_, _, rfl, Nat.le_add_right _ _, fun j x hx => by
  obtain ⟨hj, rfl⟩ := List.getElem?_eq_some_iff.1 hx
  obtain ⟨us, q1, q2⟩ := hr j hj
  have e : ls.getD j [] = ls[j] := by simp [List.getD, hj]
  have q3 : some [Value.string (S (ls.getD j []))] = some us := q1
  cases q3
  rw [e] at q2
  exact ⟨_, _, rfl, hb, q2⟩⟩
 refine (join_any _ ls q w hS h0 hn hl).mono ?_
 rintro e w' ⟨rfl, hg⟩
 have hk : ∀ k, (keys [some (lstS ls)] [some L]).contains k = false := fun k => by
  cases hc : (keys [some (lstS ls)] [some L]).contains k with
  | false => rfl
  | true =>
   obtain ⟨i, e', M, q1, q2, _⟩ := mem_keys.1 hc
   cases i with
   | zero => cases q1; cases q2
   | succ i => cases q1
 refine ⟨.str (Lib.join ls q), [some (lstS ls)], [], _, ⟨rfl, rfl⟩, rfl, rfl, ?_, (Mix.refl _ w).grow hg, Nat.le_refl _, fun i e he _ => he, fun i e he hm => ?_⟩
 ·refine mem_ro rfl fun i e he => ?_
  cases i with
  | zero =>
   cases he
   refine ⟨rfl, hd, .inr ⟨L, rfl, Nat.lt_of_lt_of_le hb hg.size, fun k hk => ?_⟩⟩
   obtain ⟨us, q1, q2⟩ := hr k hk
   exact ⟨us, q1, fun j x hx => by
    have := q2 j x hx
    unfold World.cell? at this ⊢
    rw [hg.block _ hb]; exact this⟩
  | succ i => cases he
 ·cases i with
  | zero => cases he; cases hm
  | succ i => cases he
end Go.Proofs.YtjkppaijicjpoaaGreatDoor
namespace Go.Proofs.YtjkppaijicjpoaaGreatDoor
open Go.RowKit
set_option linter.unusedVariables false
set_option linter.unusedSimpArgs false
set_option maxRecDepth 100000
set_option maxHeartbeats 2000000
set_option simprocs false
theorem toksF_end : ∀ (f : Nat) (l : List UInt8) (a : Nat) (ws : List Tk), l.length < f + a → a ≤ l.length → (∃ vs, toksF f l a ws = (vs, 0, 0)) ∨ ∃ e k, e ≠ 0 ∧ toksF f l a ws = ([], e, k)
 | 0, l, a, ws, h, h2 => by omega
 | f + 1, l, a, ws, h, h2 => by
  cases hs : (skipL (l.drop a)).2 with
  | true => exact .inr ⟨24, _, by decide, tf_rem hs⟩
  | false =>
   by_cases h1 : a + (skipL (l.drop a)).1 = l.length
   ·exact .inl ⟨ws, tf_end hs h1⟩
   ·by_cases h3 : (firstR (l.drop (a + (skipL (l.drop a)).1))).2 = 0
    ·rw [tf_go hs h1 h3]
     have hk := skip_le (l.drop a); rw [List.length_drop] at hk
     have hn := first_len h3
     rw [List.length_drop] at hn
     exact toksF_end f l _ _ (by omega) (by omega)
    ·exact .inr ⟨_, _, h3, tf_bad hs h1 h3⟩
theorem tokSp {l : List UInt8} {R : Prop} (h1 : ∀ ws, tokensR l = (ws, 0, 0) → R) (h2 : ∀ e k, e ≠ 0 → tokensR l = ([], e, k) → R) : R := by
 by_cases h : l.length > 8192
 ·exact h2 2 0 (by decide) (tokens_long h)
 ·rcases toksF_end (l.length + 1) l 0 [] (by omega) (by omega) with ⟨vs, h3⟩ | ⟨e, k, h3, h4⟩
  ·exact h1 vs (by rw [tokens_short (by omega), h3])
  ·exact h2 e k h3 (by rw [tokens_short (by omega), h4])
theorem one_is (ws : List Tk) (l : List UInt8) : (((((ws.length : Nat) : Int) == 1) && ((ws.getD (0 : Int).toNat tok0).kind == 1)) && ((ws.getD (0 : Int).toNat tok0).text == l)) = (((0 : Int) == 0) && (ws.length == 1 && ((ws.getD 0 tok0).kind == 1 && (ws.getD 0 tok0).text == l))) := by
 have h : (((ws.length : Nat) : Int) == 1) = (ws.length == 1) := by rw [Bool.eq_iff_iff, beq_iff_eq, beq_iff_eq]; omega
 rw [h, Bool.and_assoc]; rfl
def oneN (l : List UInt8) : Bool := (tokensR l).2.1 == 0 && ((tokensR l).1.length == 1 && (((tokensR l).1.getD 0 tok0).kind == 1 && ((tokensR l).1.getD 0 tok0).text == l))
theorem isName_ (l : List UInt8) (os : List (Nat × Obj)) (hM : ∀ w ks, Gl os w ks → ∃ m, w.cell? ⟨1, 0, none⟩ = some (.int .i64 m)) (hE : ∀ w ks, Gl os w ks → ∃ ev, w.cell? ⟨4, 0, none⟩ = some ev ∧ (ev = .nilIface ∨ ∃ te pe, ev = .iface te pe)) : FnI (Gl os) Tryz.prog 24 [.str l] [] (Rt (.bool (oneN l)) []) :=
 enterI (n := 34) (by kernel_rfl) Tryz.func24 rfl rfl rfl fun G w a h0 hI A => N9 8 A rfl rfl fun A => tokSp (l := l)
  (fun ws ht => I9 [] Gl.ok hI (tokens_ok l ws os hM hE ht) A rfl fun A => N9 13 A rfl rfl fun A => have A := sy_sayD A 13 (.tt) rfl (fun _ => congrArg (fun b => some (Value.bool b)) (show (0 == 0) = true by decide)); N9 24 A rfl (ok_r <| ok_g (fun hg => (by have h := hg; simp at h; omega)) <| ok_r <| ok_g (fun hg => (by have h := hg; simp at h; omega)) <| ok_r <| ok_g (fun hg => (by have h := hg; simp at h; omega)) <| ok_r <| ok_r <| ok_r <| ok_g (fun hg => (by have h := hg; simp at h; omega)) <| ok_r <| ok_g (fun hg => (by have h := hg; simp at h; omega)) <| ok_r <| ok_g (fun hg => (by have h := hg; simp at h; omega)) <| ok_r <| ok_r <| ok_r <| okE_nil) fun A => R9 A rfl h0 rfl (by unfold oneN; rw [ht]; exact congrArg SV.bool (one_is ws l)) rfl)
  (fun e k he ht => I9 [] Gl.ok hI (tokens_no l e k os hM hE ht he) A rfl fun A => N9 13 A rfl rfl fun A => have A := sy_sayD A 13 (.ff) rfl (fun _ => congrArg (fun b => some (Value.bool b)) (show (e == 0) = false by simpa using he)); N9 24 A rfl rfl fun A => R9 A rfl h0 rfl (by unfold oneN; rw [ht]; simp [he, oneS, nb]) rfl)
abbrev wrongI (i : In) : Bool := (Right0 i.op i.dst i.ra i.rb i.imm i.loc i.off i.ix i.sz i.fn i.acq i.weak i.rel i.pred i.succ i.to_ i.zero 0 0) == 34
def opA (g : Lg) (r : Rw) (i : In) (lb : List UInt8) (k j : Nat) : List UInt8 := if j < k ∧ j < r.ps.length then opdT g r (r.ps.getD j 0) i lb else []
def opsT (g : Lg) (r : Rw) (i : In) (lb : List UInt8) : List (List UInt8) := r.ps.map fun p => opdT g r p i lb
def prP (g : Lg) (L : List Rw) (i : In) (lb : List UInt8) : List UInt8 × Int :=
 if wrongI i = true then ([], 34) else
 if rowQ L i = false then ([], 36) else
 if i.op = 9 ∧ oneN lb = false then ([], 37) else
 if (rowR L i).ps.length = 0 then (nameR g (rowR L i).nm i.sz, 0) else
 ((nameR g (rowR L i).nm i.sz ++ [32]) ++ Lib.join (opsT g (rowR L i) i lb) [44], 0)
structure PrOK (g : Lg) (L : List Rw) (i : In) (lb : List UInt8) : Prop where
 lg : LgOK g
 lt : ∀ k, ([g.l0, g.l1, g.l2, g.l3].getD k []).length ≤ 1000
 ps : ∀ k, (L.getD k Rw.z).ps.length ≤ 1000
 n : L.length ≤ 1000000
 im : -9223372036854775808 ≤ i.imm ∧ i.imm ≤ 9223372036854775807
 nm : (rowR L i).nm.length ≤ 1000 ∧ Lib.countB (S (rowR L i).nm) (S [42]) ≤ 1000
 p : wrongI i = false → rowQ L i = true → ∀ k, k < (rowR L i).ps.length → ((rowR L i).ps.getD k 0 = 6 → InOK i) ∧ ((rowR L i).ps.getD k 0 = 8 → 1 ≤ i.pred ∧ i.pred ≤ 3) ∧ ((rowR L i).ps.getD k 0 = 9 → 1 ≤ i.succ ∧ i.succ ≤ 3)
 nl : (nameR g (rowR L i).nm i.sz).length ≤ 1000000
 jl : (Lib.join (opsT g (rowR L i) i lb) [44]).length ≤ 1000000
theorem row_mem {L : List Rw} {i : In} (h : rowQ L i = true) : rowR L i ∈ L := by
 unfold rowQ at h; unfold rowR
 cases hf : L.find? (rowP i) with
 | none => rw [hf] at h; cases h
 | some r => exact List.mem_of_find?_eq_some hf
theorem PrOK.len {g : Lg} {L : List Rw} {i : In} {lb : List UInt8} (h : PrOK g L i lb) (hq : rowQ L i = true) : (rowR L i).ps.length ≤ 1000 := by
 obtain ⟨k, hk, e⟩ := List.getElem_of_mem (row_mem hq)
 have := h.ps k
 rw [List.getD_eq_getElem?_getD, List.getElem?_eq_getElem hk] at this
 rw [← e]; exact this
def PrI (os : List (Nat × Obj)) (L : List Rw) : Amb := fun w ks => Tbl L w ks ∧ Gl os w ks
theorem PrI.ok {os : List (Nat × Obj)} {L : List Rw} : Amb.OK (PrI os L) := fun w ks w' ks' h m hk => ⟨Tbl.ok _ _ _ _ h.1 m hk, Gl.ok _ _ _ _ h.2 m hk⟩
theorem join_r (ls : List (List UInt8)) (n : Nat) (f : Nat → List SV) (hn' : n = ls.length) (hf : ∀ j, f j = [.str (ls.getD j [])]) (q : List UInt8) (h0 : n ≠ 0) (hn : n ≤ 1000) (hl : (Lib.join ls q).length ≤ 1000000) : Fn Tryz.prog 139 [.sl 0 n n, .str q] [some (.lst 1 n f)] (Rt (.str (Lib.join ls q)) [some (.lst 1 n f)]) := by
 have : f = fun j => [.str (ls.getD j [])] := funext hf
 subst this; subst hn'
 exact join_ ls q (fun e => h0 (by rw [e]; rfl)) hn hl
theorem opA_end (g : Lg) (r : Rw) (i : In) (lb : List UInt8) (k j : Nat) (h : r.ps.length ≤ k) : opA g r i lb k j = (opsT g r i lb).getD j [] := by
 unfold opA opsT
 by_cases hj : j < r.ps.length
 ·rw [if_pos ⟨by omega, hj⟩]; simp [List.getD, hj]
 ·rw [if_neg (by omega)]; simp [List.getD, Nat.le_of_not_lt hj]
theorem strInfo : ∃ ti, Tryz.prog.info? 9 = some ti ∧ ti.zero = some (.string (S [])) ∧ ti.size = 1 ∧ ti.bytes ≤ 1000 := by
 have h : (Tryz.prog.info? 9).map (fun ti => (ti.zero, ti.size, ti.bytes)) = some (some (.string (S [])), 1, 16) := by kernel_rfl
 cases e : Tryz.prog.info? 9 with
 | none => rw [e] at h; cases h
 | some ti =>
  rw [e] at h
  simp only [Option.map_some, Option.some.injEq, Prod.mk.injEq] at h
  exact ⟨ti, rfl, h.1, h.2.1, by omega⟩
theorem nb_f {b : Bool} (h : (!b) = false) : b = true := by cases b <;> first | rfl | cases h
theorem nb_t {b : Bool} (h : (!b) = true) : b = false := by cases b <;> first | rfl | cases h
theorem opA_ne {g : Lg} {r : Rw} {i : In} {lb : List UInt8} {k j : Nat} (h : j ≠ k) : opA g r i lb (k + 1) j = opA g r i lb k j := by
 unfold opA
 by_cases hj : j < k ∧ j < r.ps.length
 ·rw [if_pos hj, if_pos ⟨by omega, hj.2⟩]
 ·rw [if_neg hj, if_neg (by omega)]
theorem opA_at {g : Lg} {r : Rw} {i : In} {lb : List UInt8} {k : Nat} (h : k < r.ps.length) : opA g r i lb (k + 1) k = opdT g r (r.ps.getD k 0) i lb := by
 unfold opA; rw [if_pos ⟨by omega, h⟩]
theorem lprint_ (g : Lg) (L : List Rw) (c : Nat) (i : In) (lb : List UInt8) (os : List (Nat × Obj)) (hM : ∀ w ks, Gl os w ks → ∃ m, w.cell? ⟨1, 0, none⟩ = some (.int .i64 m)) (hT : ∀ w ks, Gl os w ks → Lib.TabIs Tryz.prog w "internal/strconv.uint64pow10" .u64 Lib.pow10Tab) (hE : ∀ w ks, Gl os w ks → ∃ ev, w.cell? ⟨4, 0, none⟩ = some ev ∧ (ev = .nilIface ∨ ∃ te pe, ev = .iface te pe)) (h : PrOK g L i lb) : FnI (PrI os L) Tryz.prog 98 [.agg [.str g.r0, .str g.r1, .str g.r2, .str g.r3, .str g.r4, .str g.r5, .str g.r6, .str g.r7, .str g.l0, .str g.l1, .str g.l2, .str g.l3, .str g.im, .str g.f0, .str g.f1, .str g.f2, .sl 0 L.length c], .agg (inQ9 i), .str lb] [some (lQ9 L)] (Rt (.tup [.str ((prP g L i lb).1), .int .i64 ((prP g L i lb).2)]) [some (lQ9 L)]) :=
 enterI (n := 69) (by kernel_rfl) Tryz.func98 rfl rfl rfl fun G w a h0 hI A => N9 12 A rfl rfl fun A => C9 [] (isWrong_ i.op i.dst i.ra i.rb i.imm i.loc i.off i.ix i.sz i.fn i.acq i.weak i.rel i.pred i.succ i.to_ i.zero) A rfl fun A => N9 2 A rfl rfl fun A => fork 15 A rfl
  (fun h1 A => N9 8 A rfl rfl fun A => R9 A rfl h0 rfl (by unfold prP; rw [if_pos h1]; rfl) rfl)
  (fun h1 A => N9 7 A rfl rfl fun A => I9 [0] Tbl.ok hI.1 (rowOf_ g L c i (fun k => Nat.le_trans (h.ps k) (by decide)) h.n) A rfl fun A => N9 15 A rfl rfl fun A => fork 23 A rfl
   (fun h2 A => N9 8 A rfl rfl fun A => R9 A rfl h0 rfl (by unfold prP; rw [if_neg (show ¬ wrongI i = true from fun z => Bool.noConfusion (h1.symm.trans z)), if_pos (nb_t h2)]; rfl) rfl)
   (fun h2 A => N9 10 A rfl rfl fun A => forkE 27 A rfl
    (fun h3 A => N9 1 A rfl rfl fun A => I9 [] Gl.ok hI.2 (isName_ lb os hM hE) A rfl fun A => N9 4 A rfl rfl fun A => fork 31 A rfl
     (fun h4 A => N9 8 A rfl rfl fun A => R9 A rfl h0 rfl (by unfold prP; rw [if_neg (show ¬ wrongI i = true from fun z => Bool.noConfusion (h1.symm.trans z)), if_neg (show ¬ rowQ L i = false by rw [nb_f h2]; decide), if_pos ⟨h3, nb_t h4⟩]; rfl) rfl)
     (fun h4 A => N9 9 A rfl rfl fun A => I9 [0] Gl.ok hI.2 (nameOf_ g L c (rowR L i) i.sz os hM hT h.nm h.lt) A rfl fun A => N9 12 A rfl rfl fun A => forkE 40 A rfl
      (fun h5 A => N9 9 A rfl rfl fun A => R9 A rfl h0 rfl (by unfold prP; rw [if_neg (show ¬ wrongI i = true from fun z => Bool.noConfusion (h1.symm.trans z)), if_neg (show ¬ rowQ L i = false by rw [nb_f h2]; decide), if_neg (show ¬ (i.op = 9 ∧ oneN lb = false) from fun z => by rw [nb_f h4] at z; cases z.2), if_pos (show (rowR L i).ps.length = 0 by omega)]; rfl) rfl)
      (fun h5 A => N9 8 A rfl rfl fun A => q_eff A rfl (mkE' (m := (rowR L i).ps.length) (fun j => [.str (opA g (rowR L i) i lb 0 j)]) (fun j => by show [SV.str (opA g (rowR L i) i lb 0 j)] = _; unfold opA; rw [if_neg (by omega)]) rfl rfl rfl rfl (by kernel_rfl) strInfo (by have := h.len (nb_f h2); omega) rfl) fun A => N9 8 A rfl rfl fun A => ADOPT (y := .sl 5 ((rowR L i).ps.length) ((rowR L i).cp)) (H' := [some (lQ9 L), some (.blk [.str g.r0, .str g.r1, .str g.r2, .str g.r3, .str g.r4, .str g.r5, .str g.r6, .str g.r7, .str g.l0, .str g.l1, .str g.l2, .str g.l3, .str g.im, .str g.f0, .str g.f1, .str g.f2, .sl 0 L.length c]), some (.blk (inQ9 i)), some (.blk (rwQ9 (rowR L i))), some (.row 9 1 ((rowR L i).ps.length) ((rowR L i).ps.length) (fun j => [.str (opA g (rowR L i) i lb 0 j)])), some (.lst 1 (((rowR L i).ps).length) (fun j => [.int .i64 (((rowR L i).ps).getD j 0)]))]) 47 (hI.1 _ (row_mem (nb_f h2))) A rfl rfl rfl rfl fun A => N9 5 A rfl rfl fun A => LOOP1 (fun (k : Nat) => [(2, .str lb), (3, .ptr 1 0), (4, .ptr 2 0), (6, .str []), (7, .int .i64 0), (8, .ptr 3 0), (10, .str (nameR g (rowR L i).nm i.sz)), (11, .sl 4 ((rowR L i).ps.length) ((rowR L i).ps.length)), (47, .sl 5 ((rowR L i).ps.length) ((rowR L i).cp)), (48, .int .i64 (((rowR L i).ps.length : Nat) : Int)), (49, .int .i64 (k : Int))]) (fun (k : Nat) => [some (lQ9 L), some (.blk [.str g.r0, .str g.r1, .str g.r2, .str g.r3, .str g.r4, .str g.r5, .str g.r6, .str g.r7, .str g.l0, .str g.l1, .str g.l2, .str g.l3, .str g.im, .str g.f0, .str g.f1, .str g.f2, .sl 0 L.length c]), some (.blk (inQ9 i)), some (.blk (rwQ9 (rowR L i))), some (.row 9 1 ((rowR L i).ps.length) ((rowR L i).ps.length) (fun j => [.str (opA g (rowR L i) i lb k j)])), some (.lst 1 (((rowR L i).ps).length) (fun j => [.int .i64 (((rowR L i).ps).getD j 0)]))]) (fun (k : Nat) => k ≤ (rowR L i).ps.length) (fun (k : Nat) => (rowR L i).ps.length - k) 0 (Nat.zero_le _) ((A.cut [2, 3, 4, 6, 7, 8, 10, 11, 47, 48, 49] rfl).trunc 6 rfl rfl rfl (by simp only [List.length_cons, List.length_nil] at h0; omega)) fun k hI2 {G a w} A => N9 6 A rfl rfl fun A => forkD 50 A rfl
        (fun h6 A => N9 14 A rfl (ok_d (by have q1 := h.len (nb_f h2); omega) <| ok_d (by have q1 := h.len (nb_f h2); omega) <| okE_nil) fun A => N9 8 A rfl rfl fun A => I9 [0] Gl.ok hI.2 (opd_ g L c (rowR L i) (((rowR L i).ps).getD (((k : Int)).toNat) 0) i lb os hM hT h.lg h.im (h.p h1 (nb_f h2) ((k : Int)).toNat (by have := h6; omega)).1 (h.p h1 (nb_f h2) ((k : Int)).toNat (by have := h6; omega)).2.1 (h.p h1 (nb_f h2) ((k : Int)).toNat (by have := h6; omega)).2.2) A rfl fun A => N9 1 A rfl (ok_d (by have q1 := h.len (nb_f h2); omega) <| okE_nil) fun A => STR (i := 4) (e := 9) (s := 1) (m := (rowR L i).ps.length) (c := (rowR L i).ps.length) hX k (fun j => [.str (opA g (rowR L i) i lb (k + 1) j)]) A rfl rfl (Int.toNat_natCast k) (by omega) (fun z hz => by show [SV.str _] = [SV.str _]; rw [opA_ne hz]) (by show _ = some [SV.str _]; rw [opA_at (by omega)]; rfl) fun A => N9 7 A rfl (ok_d (by have q1 := h.len (nb_f h2); omega) <| okE_nil) fun A => ⟨k + 1, _, (by omega), (by show k + 1 ≤ _; omega), ((A.cut [2, 3, 4, 6, 7, 8, 10, 11, 47, 48, 49] rfl).trunc 6 rfl rfl rfl (by simp only [List.length_cons, List.length_nil] at h0; omega))⟩)
        (fun h6 A => N9 8 A rfl (ok_d (by have q1 := h.nl; have q2 := h.jl; (try simp only [List.length_append, List.length_cons, List.length_nil]); omega) <| okE_nil) fun A => have A := A.freeze 4 rfl; C9 [4] (join_r (opsT g (rowR L i) i lb) ((rowR L i).ps.length) (fun j => [.str (opA g (rowR L i) i lb k j)]) (by unfold opsT; rw [List.length_map]) (fun j => by show [SV.str _] = [SV.str _]; rw [opA_end _ _ _ _ _ _ (by have := hI2; omega)]) [44] (by omega) (h.len (nb_f h2)) h.jl) A rfl fun A => N9 6 A rfl (ok_d (by have q1 := h.nl; have q2 := h.jl; (try simp only [List.length_append, List.length_cons, List.length_nil]); omega) <| okE_nil) fun A => R9 A rfl h0 rfl (by unfold prP; rw [if_neg (show ¬ wrongI i = true from fun z => Bool.noConfusion (h1.symm.trans z)), if_neg (show ¬ rowQ L i = false by rw [nb_f h2]; decide), if_neg (show ¬ (i.op = 9 ∧ oneN lb = false) from fun z => by rw [nb_f h4] at z; cases z.2), if_neg (show ¬ (rowR L i).ps.length = 0 by omega)]; rfl) rfl))))
    (fun h3 A => N9 15 A rfl rfl fun A => I9 [0] Gl.ok hI.2 (nameOf_ g L c (rowR L i) i.sz os hM hT h.nm h.lt) A rfl fun A => N9 12 A rfl rfl fun A => forkE 40 A rfl
     (fun h7 A => N9 9 A rfl rfl fun A => R9 A rfl h0 rfl (by unfold prP; rw [if_neg (show ¬ wrongI i = true from fun z => Bool.noConfusion (h1.symm.trans z)), if_neg (show ¬ rowQ L i = false by rw [nb_f h2]; decide), if_neg (show ¬ (i.op = 9 ∧ oneN lb = false) from fun z => h3 z.1), if_pos (show (rowR L i).ps.length = 0 by omega)]; rfl) rfl)
     (fun h7 A => N9 8 A rfl rfl fun A => q_eff A rfl (mkE' (m := (rowR L i).ps.length) (fun j => [.str (opA g (rowR L i) i lb 0 j)]) (fun j => by show [SV.str (opA g (rowR L i) i lb 0 j)] = _; unfold opA; rw [if_neg (by omega)]) rfl rfl rfl rfl (by kernel_rfl) strInfo (by have := h.len (nb_f h2); omega) rfl) fun A => N9 8 A rfl rfl fun A => ADOPT (y := .sl 5 ((rowR L i).ps.length) ((rowR L i).cp)) (H' := [some (lQ9 L), some (.blk [.str g.r0, .str g.r1, .str g.r2, .str g.r3, .str g.r4, .str g.r5, .str g.r6, .str g.r7, .str g.l0, .str g.l1, .str g.l2, .str g.l3, .str g.im, .str g.f0, .str g.f1, .str g.f2, .sl 0 L.length c]), some (.blk (inQ9 i)), some (.blk (rwQ9 (rowR L i))), some (.row 9 1 ((rowR L i).ps.length) ((rowR L i).ps.length) (fun j => [.str (opA g (rowR L i) i lb 0 j)])), some (.lst 1 (((rowR L i).ps).length) (fun j => [.int .i64 (((rowR L i).ps).getD j 0)]))]) 47 (hI.1 _ (row_mem (nb_f h2))) A rfl rfl rfl rfl fun A => N9 5 A rfl rfl fun A => LOOP1 (fun (k : Nat) => [(2, .str lb), (3, .ptr 1 0), (4, .ptr 2 0), (6, .str []), (7, .int .i64 0), (8, .ptr 3 0), (10, .str (nameR g (rowR L i).nm i.sz)), (11, .sl 4 ((rowR L i).ps.length) ((rowR L i).ps.length)), (47, .sl 5 ((rowR L i).ps.length) ((rowR L i).cp)), (48, .int .i64 (((rowR L i).ps.length : Nat) : Int)), (49, .int .i64 (k : Int))]) (fun (k : Nat) => [some (lQ9 L), some (.blk [.str g.r0, .str g.r1, .str g.r2, .str g.r3, .str g.r4, .str g.r5, .str g.r6, .str g.r7, .str g.l0, .str g.l1, .str g.l2, .str g.l3, .str g.im, .str g.f0, .str g.f1, .str g.f2, .sl 0 L.length c]), some (.blk (inQ9 i)), some (.blk (rwQ9 (rowR L i))), some (.row 9 1 ((rowR L i).ps.length) ((rowR L i).ps.length) (fun j => [.str (opA g (rowR L i) i lb k j)])), some (.lst 1 (((rowR L i).ps).length) (fun j => [.int .i64 (((rowR L i).ps).getD j 0)]))]) (fun (k : Nat) => k ≤ (rowR L i).ps.length) (fun (k : Nat) => (rowR L i).ps.length - k) 0 (Nat.zero_le _) ((A.cut [2, 3, 4, 6, 7, 8, 10, 11, 47, 48, 49] rfl).trunc 6 rfl rfl rfl (by simp only [List.length_cons, List.length_nil] at h0; omega)) fun k hI2 {G a w} A => N9 6 A rfl rfl fun A => forkD 50 A rfl
       (fun h8 A => N9 14 A rfl (ok_d (by have q1 := h.len (nb_f h2); omega) <| ok_d (by have q1 := h.len (nb_f h2); omega) <| okE_nil) fun A => N9 8 A rfl rfl fun A => I9 [0] Gl.ok hI.2 (opd_ g L c (rowR L i) (((rowR L i).ps).getD (((k : Int)).toNat) 0) i lb os hM hT h.lg h.im (h.p h1 (nb_f h2) ((k : Int)).toNat (by have := h8; omega)).1 (h.p h1 (nb_f h2) ((k : Int)).toNat (by have := h8; omega)).2.1 (h.p h1 (nb_f h2) ((k : Int)).toNat (by have := h8; omega)).2.2) A rfl fun A => N9 1 A rfl (ok_d (by have q1 := h.len (nb_f h2); omega) <| okE_nil) fun A => STR (i := 4) (e := 9) (s := 1) (m := (rowR L i).ps.length) (c := (rowR L i).ps.length) hX k (fun j => [.str (opA g (rowR L i) i lb (k + 1) j)]) A rfl rfl (Int.toNat_natCast k) (by omega) (fun z hz => by show [SV.str _] = [SV.str _]; rw [opA_ne hz]) (by show _ = some [SV.str _]; rw [opA_at (by omega)]; rfl) fun A => N9 7 A rfl (ok_d (by have q1 := h.len (nb_f h2); omega) <| okE_nil) fun A => ⟨k + 1, _, (by omega), (by show k + 1 ≤ _; omega), ((A.cut [2, 3, 4, 6, 7, 8, 10, 11, 47, 48, 49] rfl).trunc 6 rfl rfl rfl (by simp only [List.length_cons, List.length_nil] at h0; omega))⟩)
       (fun h8 A => N9 8 A rfl (ok_d (by have q1 := h.nl; have q2 := h.jl; (try simp only [List.length_append, List.length_cons, List.length_nil]); omega) <| okE_nil) fun A => have A := A.freeze 4 rfl; C9 [4] (join_r (opsT g (rowR L i) i lb) ((rowR L i).ps.length) (fun j => [.str (opA g (rowR L i) i lb k j)]) (by unfold opsT; rw [List.length_map]) (fun j => by show [SV.str _] = [SV.str _]; rw [opA_end _ _ _ _ _ _ (by have := hI2; omega)]) [44] (by omega) (h.len (nb_f h2)) h.jl) A rfl fun A => N9 6 A rfl (ok_d (by have q1 := h.nl; have q2 := h.jl; (try simp only [List.length_append, List.length_cons, List.length_nil]); omega) <| okE_nil) fun A => R9 A rfl h0 rfl (by unfold prP; rw [if_neg (show ¬ wrongI i = true from fun z => Bool.noConfusion (h1.symm.trans z)), if_neg (show ¬ rowQ L i = false by rw [nb_f h2]; decide), if_neg (show ¬ (i.op = 9 ∧ oneN lb = false) from fun z => h3 z.1), if_neg (show ¬ (rowR L i).ps.length = 0 by omega)]; rfl) rfl)))))
def n1 (ws : List Tk) (k : Nat) (z : Ps) : Ps := if (k : Int) > 0 then z.wa (mkA ws z.as [44]) else z
def nxR (g : Lg) (ws : List Tk) (k : Nat) (R : List Rw) (z : Ps) : List Rw := lft g k (ws.getD (n1 ws k z).p tok0) R
def nxS (g : Lg) (ws : List Tk) (k : Nat) (R : List Rw) (z : Ps) : Ps := if (((nxR g ws k R z).length : Nat) : Int) > 0 then ptS g ws (((nxR g ws k R z).getD (0 : Int).toNat Rw.z).ps.getD k 0) (beS g ws k R (n1 ws k z)) else beS g ws k R (n1 ws k z)
def goB (R : List Rw) (k : Nat) : Bool := (decide (((R.length : Nat) : Int) > 0)) && (decide ((k : Int) < (((R.getD (0 : Int).toNat Rw.z).ps.length : Nat) : Int)))
def inst (g : Lg) (ws : List Tk) : Nat → Nat → List Rw → Ps → Ps × List Rw
 | 0, k, R, z => (z, R)
 | f + 1, k, R, z => if goB R k = true then inst g ws f (k + 1) (nxR g ws k R z) (nxS g ws k R z) else (z, R)
structure InI (g : Lg) (ws : List Tk) (L : List Rw) (N0 : Nat) (res : Ps × List Rw) (k : Nat) (z : Ps) (R : List Rw) : Prop where
 le : z.p ≤ ws.length
 sub : ∀ r ∈ R, r ∈ L
 n : ∀ r ∈ R, r.ps.length = N0
 ln : R.length ≤ 100000
 rn : ∃ f, inst g ws f k R z = res ∧ N0 < f + k
section
variable {g : Lg} {ws : List Tk} {L R : List Rw} {N0 k : Nat} {res : Ps × List Rw} {z : Ps} {w : World} {ks : List Nat}
theorem goB_and (h : goB R k = true) : 0 < R.length ∧ k < (R.getD 0 Rw.z).ps.length := by
 unfold goB at h; rw [Bool.and_eq_true, decide_eq_true_eq, decide_eq_true_eq] at h
 have e : (0 : Int).toNat = 0 := rfl
 rw [e] at h; omega
theorem r0_mem (h : 0 < R.length) : R.getD 0 Rw.z ∈ R := by rw [List.getD_eq_getElem?_getD, List.getElem?_eq_getElem h]; exact List.getElem_mem h
theorem InI.lt (hN : InI g ws L N0 res k z R) (h : goB R k = true) : k < N0 := by
 have h2 := goB_and h
 rw [hN.n _ (r0_mem h2.1)] at h2; exact h2.2
end
theorem PrI.t {os : List (Nat × Obj)} {L : List Rw} {w : World} {ks : List Nat} (h : PrI os L w ks) : Tbl L w ks := h.1
theorem clone_ (ws : List Tk) (c : Nat) (hn : ws.length ≤ 1000000) : Fn Tryz.prog 187 [.sl 0 ws.length c] [some (wQ9 ws)] (Rt (.sl 1 ws.length 0) [some (wQ9 ws), some (.row 110 4 ws.length 0 (fun zz => tkc (ws.getD zz tok0)))]) :=
 enterM (n := 8) (by kernel_rfl) Tryz.func187 rfl rfl rfl fun G w a h0 A => N9 9 A rfl rfl fun A => NILL hX A rfl rfl (fun h1 {G a w} A => N9 9 A rfl rfl fun A => have A := A.nilRow 2 110 4 (fun zz => tkc (ws.getD zz tok0)) rfl (fun z => ⟨_, rfl, rfl⟩); have A := A.rowAs 1 ws.length (fun zz => tkc (ws.getD zz tok0)) rfl h1 (fun _ _ => rfl) (fun z => ⟨_, rfl, rfl⟩); have A := A.say 2 (.sl 1 ws.length 0) rfl (by rw [h1] <;> rfl); RET hX [1] A ⟨rfl, rfl⟩ rfl rfl rfl rfl rfl rfl rfl rfl h0) (fun {G a w} A => N9 9 A rfl rfl fun A => APPL hX ws.length (fun zz => tkc (ws.getD zz tok0)) A rfl rfl rfl rfl (Nat.le_refl _) (by omega) hn (by omega) (fun k hk => by omega) (fun k hk => by show tkc _ = tkc _; rw [Nat.zero_add]) (fun z => ⟨_, rfl, rfl⟩) (fun k hk => ⟨_, rfl, okE_nil⟩) fun A => N9 4 A rfl rfl fun A => RET hX [2] A ⟨rfl, rfl⟩ rfl rfl rfl rfl rfl rfl rfl rfl h0)

abbrev xothL (b1 b2 b3 b4 b5 b6 b7 b8 b9 b10 : Nat) : List (Nat × List SV) := [(b10, [.str [77, 79, 86], .str [], .int .i64 1, .z9, .z9, .z9, .z9, .z9, .z9, .z9, .z9, .z9, .ff, .ff, .ff, .z9, .z9, .z9, .ff, .sla (some ⟨b1, 0, none⟩) 2 2, .str [77, 79, 86], .str [], .int .i64 2, .z9, .z9, .z9, .z9, .z9, .z9, .z9, .z9, .z9, .ff, .ff, .ff, .z9, .z9, .z9, .ff, .sla (some ⟨b2, 0, none⟩) 2 2, .str [77, 79, 86, 42], .str [], .int .i64 4, .z9, .z9, .z9, .z9, .z9, .z9, .z9, .z9, .z9, .ff, .ff, .ff, .z9, .z9, .z9, .ff, .sla (some ⟨b3, 0, none⟩) 2 2, .str [77, 79, 86, 42], .str [], .int .i64 5, .z9, .z9, .z9, .z9, .z9, .z9, .z9, .z9, .z9, .ff, .ff, .ff, .z9, .z9, .z9, .ff, .sla (some ⟨b4, 0, none⟩) 2 2, .str [77, 79, 86, 42], .str [], .int .i64 5, .z9, .z9, .z9, .z9, .z9, .z9, .z9, .z9, .z9, .ff, .ff, .ff, .z9, .z9, .z9, .ff, .sla (some ⟨b5, 0, none⟩) 2 2, .str [88, 67, 72, 71, 42], .str [], .int .i64 6, .z9, .z9, .z9, .z9, .z9, .z9, .z9, .z9, .int .i64 6, .tt, .ff, .tt, .z9, .z9, .z9, .ff, .sla (some ⟨b6, 0, none⟩) 2 2, .str [88, 65, 68, 68, 42], .str [], .int .i64 6, .z9, .z9, .z9, .z9, .z9, .z9, .z9, .z9, .int .i64 1, .tt, .ff, .tt, .z9, .z9, .z9, .ff, .sla (some ⟨b7, 0, none⟩) 2 2, .str [77, 70, 69, 78, 67, 69], .str [], .int .i64 7, .z9, .z9, .z9, .z9, .z9, .z9, .z9, .z9, .z9, .ff, .ff, .ff, .int .i64 3, .int .i64 3, .z9, .ff, .sla none 0 0, .str [74, 90], .str [], .int .i64 9, .z9, .z9, .z9, .z9, .z9, .z9, .z9, .z9, .z9, .ff, .ff, .ff, .z9, .z9, .z9, .tt, .sla (some ⟨b8, 0, none⟩) 2 2, .str [74, 78, 90], .str [], .int .i64 9, .z9, .z9, .z9, .z9, .z9, .z9, .z9, .z9, .z9, .ff, .ff, .ff, .z9, .z9, .z9, .ff, .sla (some ⟨b9, 0, none⟩) 2 2]), (b9, [.int .i64 2, .int .i64 7]), (b8, [.int .i64 2, .int .i64 7]), (b7, [.int .i64 6, .int .i64 4]), (b6, [.int .i64 4, .int .i64 6]), (b5, [.int .i64 6, .int .i64 5]), (b4, [.int .i64 6, .int .i64 2]), (b3, [.int .i64 1, .int .i64 6]), (b2, [.int .i64 1, .int .i64 2]), (b1, [.int .i64 1, .int .i64 5])]
theorem xoth_ : FnR Tryz.prog 129 [] [] (fun x w w' => ∃ b1 b2 b3 b4 b5 b6 b7 b8 b9 b10 : Nat, x = .sla (some ⟨b10, 0, none⟩) 10 10 ∧ Acc w.heap.size (xothL b1 b2 b3 b4 b5 b6 b7 b8 b9 b10) w' []) :=
 enterR (n := 37) (by kernel_rfl) Tryz.func129 rfl rfl rfl fun G w a h0 A => have B := A; have hA : Acc w.heap.size [] w _ := Acc.nil; N9 29 A rfl rfl fun A => BSCA [.int .i64 1, .int .i64 5] (X := ⟨_, true⟩) hX B hA A rfl rfl rfl rfl fun b1 B hA A =>
 N9 2 A rfl rfl fun A => BSCA [.int .i64 1, .int .i64 2] (X := ⟨_, true⟩) hX B hA A rfl rfl rfl rfl fun b2 B hA A =>
 N9 2 A rfl rfl fun A => BSCA [.int .i64 1, .int .i64 6] (X := ⟨_, true⟩) hX B hA A rfl rfl rfl rfl fun b3 B hA A =>
 N9 2 A rfl rfl fun A => BSCA [.int .i64 6, .int .i64 2] (X := ⟨_, true⟩) hX B hA A rfl rfl rfl rfl fun b4 B hA A =>
 N9 2 A rfl rfl fun A => BSCA [.int .i64 6, .int .i64 5] (X := ⟨_, true⟩) hX B hA A rfl rfl rfl rfl fun b5 B hA A =>
 N9 2 A rfl rfl fun A => BSCA [.int .i64 4, .int .i64 6] (X := ⟨_, true⟩) hX B hA A rfl rfl rfl rfl fun b6 B hA A =>
 N9 2 A rfl rfl fun A => BSCA [.int .i64 6, .int .i64 4] (X := ⟨_, true⟩) hX B hA A rfl rfl rfl rfl fun b7 B hA A =>
 N9 4 A rfl rfl fun A => BSCA [.int .i64 2, .int .i64 7] (X := ⟨_, true⟩) hX B hA A rfl rfl rfl rfl fun b8 B hA A =>
 N9 2 A rfl rfl fun A => BSCA [.int .i64 2, .int .i64 7] (X := ⟨_, true⟩) hX B hA A rfl rfl rfl rfl fun b9 B hA A =>
 N9 1 A rfl rfl fun A => BSCA [.str [77, 79, 86], .str [], .int .i64 1, .z9, .z9, .z9, .z9, .z9, .z9, .z9, .z9, .z9, .ff, .ff, .ff, .z9, .z9, .z9, .ff, .sla (some ⟨b1, 0, none⟩) 2 2, .str [77, 79, 86], .str [], .int .i64 2, .z9, .z9, .z9, .z9, .z9, .z9, .z9, .z9, .z9, .ff, .ff, .ff, .z9, .z9, .z9, .ff, .sla (some ⟨b2, 0, none⟩) 2 2, .str [77, 79, 86, 42], .str [], .int .i64 4, .z9, .z9, .z9, .z9, .z9, .z9, .z9, .z9, .z9, .ff, .ff, .ff, .z9, .z9, .z9, .ff, .sla (some ⟨b3, 0, none⟩) 2 2, .str [77, 79, 86, 42], .str [], .int .i64 5, .z9, .z9, .z9, .z9, .z9, .z9, .z9, .z9, .z9, .ff, .ff, .ff, .z9, .z9, .z9, .ff, .sla (some ⟨b4, 0, none⟩) 2 2, .str [77, 79, 86, 42], .str [], .int .i64 5, .z9, .z9, .z9, .z9, .z9, .z9, .z9, .z9, .z9, .ff, .ff, .ff, .z9, .z9, .z9, .ff, .sla (some ⟨b5, 0, none⟩) 2 2, .str [88, 67, 72, 71, 42], .str [], .int .i64 6, .z9, .z9, .z9, .z9, .z9, .z9, .z9, .z9, .int .i64 6, .tt, .ff, .tt, .z9, .z9, .z9, .ff, .sla (some ⟨b6, 0, none⟩) 2 2, .str [88, 65, 68, 68, 42], .str [], .int .i64 6, .z9, .z9, .z9, .z9, .z9, .z9, .z9, .z9, .int .i64 1, .tt, .ff, .tt, .z9, .z9, .z9, .ff, .sla (some ⟨b7, 0, none⟩) 2 2, .str [77, 70, 69, 78, 67, 69], .str [], .int .i64 7, .z9, .z9, .z9, .z9, .z9, .z9, .z9, .z9, .z9, .ff, .ff, .ff, .int .i64 3, .int .i64 3, .z9, .ff, .sla none 0 0, .str [74, 90], .str [], .int .i64 9, .z9, .z9, .z9, .z9, .z9, .z9, .z9, .z9, .z9, .ff, .ff, .ff, .z9, .z9, .z9, .tt, .sla (some ⟨b8, 0, none⟩) 2 2, .str [74, 78, 90], .str [], .int .i64 9, .z9, .z9, .z9, .z9, .z9, .z9, .z9, .z9, .z9, .ff, .ff, .ff, .z9, .z9, .z9, .ff, .sla (some ⟨b9, 0, none⟩) 2 2] (X := ⟨_, true⟩) hX B hA A rfl rfl rfl rfl fun b10 B hA A =>
 N9 4 A rfl rfl fun A => RETR (J := fun x w w' => ∃ b1 b2 b3 b4 b5 b6 b7 b8 b9 b10 : Nat, x = .sla (some ⟨b10, 0, none⟩) 10 10 ∧ Acc w.heap.size (xothL b1 b2 b3 b4 b5 b6 b7 b8 b9 b10) w' []) hX (B.trans A) (fun i e he => nil_no he) rfl rfl rfl rfl ⟨b1, b2, b3, b4, b5, b6, b7, b8, b9, b10, rfl, (hA.now A).bare⟩
abbrev nz : List UInt8 × Int := ([], 0)
def nfc (x : List UInt8 × Int) : List SV := [.str x.1, .int .i64 x.2]
def x5 : List (List UInt8 × Int) := [([65, 68, 68], 1), ([83, 85, 66], 2), ([88, 79, 82], 3), ([65, 78, 68], 4), ([79, 82], 5)]
theorem tyN : (∀ x, (nfc x).length = 2) ∧ (∀ x, inL 0 (nfc x) = true) ∧ (∀ x, ∃ vs, denL [] (nfc x) = some vs) := ⟨fun _ => rfl, fun _ => rfl, fun _ => ⟨_, rfl⟩⟩
theorem tyR : (∀ x, (rwc x).length = 20) ∧ (∀ x, inL 0 (rwc x) = true) ∧ (∀ x, ∃ vs, denL [] (rwc x) = some vs) := ⟨fun _ => rfl, fun _ => rfl, fun _ => ⟨_, rfl⟩⟩
def tm (r : Rw) : List UInt8 × List UInt8 × In × List Int := (r.nm, r.wd, r.ins, r.ps)
def RowsIn (lo : Nat) (L : List Rw) : Amb := fun w ks => ∀ r ∈ L, LiesAt r.pa r.ps w ks ∧ ∀ q, r.pa = some q → lo ≤ q.block
theorem RowsIn.ok {lo : Nat} {L : List Rw} : Amb.OK (RowsIn lo L) := fun w ks w' ks' h m hk r hr => ⟨(h r hr).1.go m hk, (h r hr).2⟩
def insF (op fn : Int) : In := ⟨op, 0, 0, 0, 0, 0, 0, 0, 0, fn, false, false, false, 0, 0, 0, false⟩
abbrev xr1 (x : List UInt8 × Int) (b1 : Nat) : Rw := ⟨x.1, [], insF 3 x.2, some ⟨b1, 0, none⟩, [4, 3], 2⟩
abbrev xr2 (x : List UInt8 × Int) (b2 : Nat) : Rw := ⟨x.1, [], insF 3 x.2, some ⟨b2, 0, none⟩, [4, 5], 2⟩
def xcomp : List (List UInt8 × List UInt8 × In × List Int) := x5.flatMap fun x => [(x.1, [], insF 3 x.2, [4, 3]), (x.1, [], insF 3 x.2, [4, 5])]
structure XC (lo : Nat) (z : List Rw × Nat) (w : World) (ks : List Nat) : Prop where
 le : z.2 ≤ 5
 tm : z.1.map tm = xcomp.take (2 * z.2)
 rw : RowsIn lo z.1 w ks
theorem XC.len {lo : Nat} {z : List Rw × Nat} {w : World} {ks : List Nat} (h : XC lo z w ks) : z.1.length = 2 * z.2 := by
 have h1 := congrArg List.length h.tm
 rw [List.length_map, List.length_take] at h1
 have h2 : xcomp.length = 10 := by decide
 have := h.le
 omega
theorem lies_of {lo b : Nat} {cs : List SV} {l : List (Nat × List SV)} {w : World} {ks : List Nat} (ps : List Int) (h : Acc lo l w ks) (hm : (b, ps.map (SV.int .i64 ·)) ∈ l) : LiesAt (some ⟨b, 0, none⟩) ps w ks ∧ ∀ q, (some (⟨b, 0, none⟩ : Addr)) = some q → lo ≤ q.block := by
 obtain ⟨h1, vs, h2, h3, h4, h5⟩ := h _ hm
 have : ∀ ps : List Int, denL [] (ps.map (SV.int .i64 ·)) = some (ps.map (Value.int .i64)) := by
  intro ps
  induction ps with
  | nil => rfl
  | cons p ps ih => rw [List.map_cons]; unfold denL; rw [ih]; rfl
 rw [this] at h2
 cases h2
 exact ⟨.inr ⟨b, rfl, h3, h4, h5⟩, fun q hq => by cases hq; exact h1⟩
theorem XC.nx {lo b1 b2 : Nat} {z : List Rw × Nat} {w w1 : World} {ks ks1 : List Nat} {l : List (Nat × List SV)} (h : XC lo z w ks) (hk : (z.2 : Int) < 5) (hr : RowsIn lo z.1 w1 ks1) (hA : Acc lo [(b2, [.int .i64 4, .int .i64 5]), (b1, [.int .i64 4, .int .i64 3])] w1 ks1) : XC lo (z.1 ++ [xr1 (x5.getD ((z.2 : Int)).toNat nz) b1, xr2 (x5.getD ((z.2 : Int)).toNat nz) b2], z.2 + 1) w1 ks1 := by
 refine ⟨by have := h.le; show z.2 + 1 ≤ 5; omega, ?_, fun r hr' => ?_⟩
 ·show List.map _ (z.1 ++ _) = _
  rw [List.map_append, h.tm, Int.toNat_natCast]
  have : z.2 = 0 ∨ z.2 = 1 ∨ z.2 = 2 ∨ z.2 = 3 ∨ z.2 = 4 := by omega
  rcases this with e | e | e | e | e <;> rw [e] <;> rfl
 ·rcases List.mem_append.1 hr' with h1 | h1
  ·exact hr r h1
  ·simp only [List.mem_cons, List.mem_nil_iff, or_false] at h1
   rcases h1 with rfl | rfl
   ·exact lies_of (cs := []) [4, 3] hA (List.mem_cons_of_mem _ (List.mem_cons_self))
   ·exact lies_of (cs := []) [4, 5] hA (List.mem_cons_self)
theorem xcomp_ : FnR Tryz.prog 128 [] [] (fun x w w' => ∃ (L : List Rw) (b cp : Nat), x = .sla (some ⟨b, 0, none⟩) 10 cp ∧ (L.map tm = xcomp ∧ RowsIn w.heap.size L w' [b]) ∧ w.heap.size ≤ b ∧ Given 164 20 10 (fun zz => rwc (L.getD zz Rw.z)) b cp w') :=
 enterR (n := 36) (by kernel_rfl) Tryz.func128 rfl rfl rfl fun G w a h0 A => N9 13 A rfl rfl fun A => have A := A.asT nz nfc 2 tyN.1 tyN.2.1 tyN.2.2 x5 0 rfl; N9 17 A rfl rfl fun A => have A := A.nilRow 2 164 20 (fun zz => rwc (([] : List Rw).getD zz Rw.z)) rfl (fun z => ⟨_, rfl, rfl⟩); LOOPJ (fun (z : List Rw × Nat) => [(0, .sla none 0 0), (2, .sl 1 z.1.length 0), (12, .sl 0 5 5), (13, .int .i64 ((5 : Nat) : Int)), (14, .int .i64 (z.2 : Int))]) (fun (z : List Rw × Nat) => [some (.lst 2 5 (fun zz => nfc (x5.getD zz nz))), some (.row 164 20 z.1.length 0 (fun zz => rwc (z.1.getD zz Rw.z)))]) (fun z w1 ks1 => XC w.heap.size z w1 ks1) (fun z => 5 - z.2) ([], 0) (A.cut [0, 2, 12, 13, 14] rfl) ⟨by decide, rfl, fun r hr => by cases hr⟩ fun z G1 a1 w1 hJ hg A B => have hA : Acc w.heap.size [] w1 _ := Acc.nil; have hR := hJ.rw;
 N9 6 A rfl rfl fun A => forkD 15 A rfl
   (fun h1 A => N9 14 A rfl (ok_d (by omega) <| ok_d (by omega) <| okE_nil) fun A => N9 4 A rfl rfl fun A => have A := sy_sayD A 20 (.agg [.int .i64 3, .z9, .z9, .z9, .z9, .z9, .z9, .z9, .z9, .int .i64 ((x5.getD (((z.2 : Int)).toNat) nz).2), .bool false, .bool false, .bool false, .z9, .z9, .z9, .bool false]) rfl (fun _ => rfl); N9 9 A rfl rfl fun A => BSCI [.int .i64 4, .int .i64 3] (X := ⟨_, true⟩) hX RowsIn.ok B hA hR A rfl rfl rfl rfl fun b1 B hA hR A =>
 N9 4 A rfl rfl fun A => BSCI [.int .i64 4, .int .i64 5] (X := ⟨_, true⟩) hX RowsIn.ok B hA hR A rfl rfl rfl rfl fun b2 B hA hR A =>
 N9 2 A rfl rfl fun A => have A := A.asT Rw.z rwc 20 tyR.1 tyR.2.1 tyR.2.2 [xr1 (x5.getD (((z.2 : Int)).toNat) nz) b1, xr2 (x5.getD (((z.2 : Int)).toNat) nz) b2] 4 rfl; q_eff A rfl (aplE hX ((z.1 ++ [xr1 (x5.getD (((z.2 : Int)).toNat) nz) b1, xr2 (x5.getD (((z.2 : Int)).toNat) nz) b2]).length) (fun zz => rwc ((z.1 ++ [xr1 (x5.getD (((z.2 : Int)).toNat) nz) b1, xr2 (x5.getD (((z.2 : Int)).toNat) nz) b2]).getD zz Rw.z)) rfl rfl rfl rfl (Nat.le_refl _) (by have := hJ.len; have := hJ.le; omega) (by decide) List.length_append (fun k hk => by show rwc _ = rwc _; rw [getD_app_l hk]) (fun k hk => by show rwc _ = rwc _; rw [getD_app_r]) (fun z => ⟨_, rfl, rfl⟩) (fun k hk => ⟨_, rfl, okE_nil⟩)) fun A =>
 N9 8 A rfl (ok_d (by omega) <| okE_nil) fun A => ⟨(z.1 ++ [xr1 (x5.getD (((z.2 : Int)).toNat) nz) b1, xr2 (x5.getD (((z.2 : Int)).toNat) nz) b2], z.2 + 1), _, (by have := h1; show _ - _ < _ - _; omega), (hJ.nx (l := []) h1 (RowsIn.ok _ _ _ _ hR A.mix fun b hb => A.keys_own b ((keys_pick (H := [some (.lst 2 5 (fun zz => nfc (x5.getD zz nz))), none, some (.blk [.str ((x5.getD (((z.2 : Int)).toNat) nz).1), .int .i64 ((x5.getD (((z.2 : Int)).toNat) nz).2)]), some (.blk [.int .i64 3, .z9, .z9, .z9, .z9, .z9, .z9, .z9, .z9, .int .i64 ((x5.getD (((z.2 : Int)).toNat) nz).2), .bool false, .bool false, .bool false, .z9, .z9, .z9, .bool false]), some (.lst 20 ([xr1 (x5.getD (((z.2 : Int)).toNat) nz) b1, xr2 (x5.getD (((z.2 : Int)).toNat) nz) b2].length) (fun zz => rwc ([xr1 (x5.getD (((z.2 : Int)).toNat) nz) b1, xr2 (x5.getD (((z.2 : Int)).toNat) nz) b2].getD zz Rw.z))), some (.row 164 20 ((z.1 ++ [xr1 (x5.getD (((z.2 : Int)).toNat) nz) b1, xr2 (x5.getD (((z.2 : Int)).toNat) nz) b2]).length) 0 (fun zz => rwc ((z.1 ++ [xr1 (x5.getD (((z.2 : Int)).toNat) nz) b1, xr2 (x5.getD (((z.2 : Int)).toNat) nz) b2]).getD zz Rw.z)))]) (m := [0, 5]) A.mem.len rfl rfl) b hb)) (hA.go A.mix fun b hb => A.keys_own b ((keys_pick (H := [some (.lst 2 5 (fun zz => nfc (x5.getD zz nz))), none, some (.blk [.str ((x5.getD (((z.2 : Int)).toNat) nz).1), .int .i64 ((x5.getD (((z.2 : Int)).toNat) nz).2)]), some (.blk [.int .i64 3, .z9, .z9, .z9, .z9, .z9, .z9, .z9, .z9, .int .i64 ((x5.getD (((z.2 : Int)).toNat) nz).2), .bool false, .bool false, .bool false, .z9, .z9, .z9, .bool false]), some (.lst 20 ([xr1 (x5.getD (((z.2 : Int)).toNat) nz) b1, xr2 (x5.getD (((z.2 : Int)).toNat) nz) b2].length) (fun zz => rwc ([xr1 (x5.getD (((z.2 : Int)).toNat) nz) b1, xr2 (x5.getD (((z.2 : Int)).toNat) nz) b2].getD zz Rw.z))), some (.row 164 20 ((z.1 ++ [xr1 (x5.getD (((z.2 : Int)).toNat) nz) b1, xr2 (x5.getD (((z.2 : Int)).toNat) nz) b2]).length) 0 (fun zz => rwc ((z.1 ++ [xr1 (x5.getD (((z.2 : Int)).toNat) nz) b1, xr2 (x5.getD (((z.2 : Int)).toNat) nz) b2]).getD zz Rw.z)))]) (m := [0, 5]) A.mem.len rfl rfl) b hb))), ((B.trans A).cut [0, 2, 12, 13, 14] rfl).mv 0 [0, 5] rfl rfl rfl rfl (by simp only [List.length_nil] at h0; omega)⟩)
   (fun h1 A => N9 10 A rfl rfl fun A => (have e5 : z.2 = 5 := (by have := hJ.le; omega); have e : z.1.length = 10 := (by have := hJ.len; omega); match A.giveRow 1 0 (by omega) rfl rfl rfl with | ⟨b, cp, A2, hG, ho, hk⟩ => RETR (J := fun x w w' => ∃ (L : List Rw) (b cp : Nat), x = .sla (some ⟨b, 0, none⟩) 10 cp ∧ (L.map tm = xcomp ∧ RowsIn w.heap.size L w' [b]) ∧ w.heap.size ≤ b ∧ Given 164 20 10 (fun zz => rwc (L.getD zz Rw.z)) b cp w') hX (B.trans A2) (fun i e he => nil_no he) rfl rfl rfl rfl ⟨z.1, b, cp, (by show SV.sla _ z.1.length cp = _; rw [e]), ⟨(by have h2 := hJ.tm; rw [e5] at h2; exact h2), (RowsIn.ok _ _ _ _ hJ.rw A.mix fun b2 hb => by have : b2 = b := (by simpa using hb); rw [this]; exact ho)⟩, lo_of B (fun i e he => nil_no he) ho, (by rw [← e]; exact hG)⟩))
def xothR (b1 b2 b3 b4 b5 b6 b7 b8 b9 : Nat) : List Rw := [⟨[77, 79, 86], [], ⟨1, 0, 0, 0, 0, 0, 0, 0, 0, 0, false, false, false, 0, 0, 0, false⟩, some ⟨b1, 0, none⟩, [1, 5], 2⟩, ⟨[77, 79, 86], [], ⟨2, 0, 0, 0, 0, 0, 0, 0, 0, 0, false, false, false, 0, 0, 0, false⟩, some ⟨b2, 0, none⟩, [1, 2], 2⟩, ⟨[77, 79, 86, 42], [], ⟨4, 0, 0, 0, 0, 0, 0, 0, 0, 0, false, false, false, 0, 0, 0, false⟩, some ⟨b3, 0, none⟩, [1, 6], 2⟩, ⟨[77, 79, 86, 42], [], ⟨5, 0, 0, 0, 0, 0, 0, 0, 0, 0, false, false, false, 0, 0, 0, false⟩, some ⟨b4, 0, none⟩, [6, 2], 2⟩, ⟨[77, 79, 86, 42], [], ⟨5, 0, 0, 0, 0, 0, 0, 0, 0, 0, false, false, false, 0, 0, 0, false⟩, some ⟨b5, 0, none⟩, [6, 5], 2⟩, ⟨[88, 67, 72, 71, 42], [], ⟨6, 0, 0, 0, 0, 0, 0, 0, 0, 6, true, false, true, 0, 0, 0, false⟩, some ⟨b6, 0, none⟩, [4, 6], 2⟩, ⟨[88, 65, 68, 68, 42], [], ⟨6, 0, 0, 0, 0, 0, 0, 0, 0, 1, true, false, true, 0, 0, 0, false⟩, some ⟨b7, 0, none⟩, [6, 4], 2⟩, ⟨[77, 70, 69, 78, 67, 69], [], ⟨7, 0, 0, 0, 0, 0, 0, 0, 0, 0, false, false, false, 3, 3, 0, false⟩, none, [], 0⟩, ⟨[74, 90], [], ⟨9, 0, 0, 0, 0, 0, 0, 0, 0, 0, false, false, false, 0, 0, 0, true⟩, some ⟨b8, 0, none⟩, [2, 7], 2⟩, ⟨[74, 78, 90], [], ⟨9, 0, 0, 0, 0, 0, 0, 0, 0, 0, false, false, false, 0, 0, 0, false⟩, some ⟨b9, 0, none⟩, [2, 7], 2⟩]
def xothT : List (List UInt8 × List UInt8 × In × List Int) := [([77, 79, 86], [], ⟨1, 0, 0, 0, 0, 0, 0, 0, 0, 0, false, false, false, 0, 0, 0, false⟩, [1, 5]), ([77, 79, 86], [], ⟨2, 0, 0, 0, 0, 0, 0, 0, 0, 0, false, false, false, 0, 0, 0, false⟩, [1, 2]), ([77, 79, 86, 42], [], ⟨4, 0, 0, 0, 0, 0, 0, 0, 0, 0, false, false, false, 0, 0, 0, false⟩, [1, 6]), ([77, 79, 86, 42], [], ⟨5, 0, 0, 0, 0, 0, 0, 0, 0, 0, false, false, false, 0, 0, 0, false⟩, [6, 2]), ([77, 79, 86, 42], [], ⟨5, 0, 0, 0, 0, 0, 0, 0, 0, 0, false, false, false, 0, 0, 0, false⟩, [6, 5]), ([88, 67, 72, 71, 42], [], ⟨6, 0, 0, 0, 0, 0, 0, 0, 0, 6, true, false, true, 0, 0, 0, false⟩, [4, 6]), ([88, 65, 68, 68, 42], [], ⟨6, 0, 0, 0, 0, 0, 0, 0, 0, 1, true, false, true, 0, 0, 0, false⟩, [6, 4]), ([77, 70, 69, 78, 67, 69], [], ⟨7, 0, 0, 0, 0, 0, 0, 0, 0, 0, false, false, false, 3, 3, 0, false⟩, []), ([74, 90], [], ⟨9, 0, 0, 0, 0, 0, 0, 0, 0, 0, false, false, false, 0, 0, 0, true⟩, [2, 7]), ([74, 78, 90], [], ⟨9, 0, 0, 0, 0, 0, 0, 0, 0, 0, false, false, false, 0, 0, 0, false⟩, [2, 7])]
def x86T : List (List UInt8 × List UInt8 × In × List Int) := xcomp ++ xothT
theorem xoth_rows {b1 b2 b3 b4 b5 b6 b7 b8 b9 b10 lo lo2 : Nat} {w : World} {ks : List Nat} (h : Acc lo (xothL b1 b2 b3 b4 b5 b6 b7 b8 b9 b10) w ks) (hlo : lo2 ≤ lo) : RowsIn lo2 (xothR b1 b2 b3 b4 b5 b6 b7 b8 b9) w ks := by
 intro r hr
 unfold xothR at hr
 simp only [List.mem_cons, List.mem_nil_iff, or_false] at hr
 rcases hr with rfl | rfl | rfl | rfl | rfl | rfl | rfl | rfl | rfl | rfl
 ·have q := lies_of (b := b1) (cs := []) [1, 5] h (by show _ ∈ xothL b1 b2 b3 b4 b5 b6 b7 b8 b9 b10; unfold xothL; simp); exact ⟨q.1, fun z hz => Nat.le_trans hlo (q.2 z hz)⟩
 ·have q := lies_of (b := b2) (cs := []) [1, 2] h (by show _ ∈ xothL b1 b2 b3 b4 b5 b6 b7 b8 b9 b10; unfold xothL; simp); exact ⟨q.1, fun z hz => Nat.le_trans hlo (q.2 z hz)⟩
 ·have q := lies_of (b := b3) (cs := []) [1, 6] h (by show _ ∈ xothL b1 b2 b3 b4 b5 b6 b7 b8 b9 b10; unfold xothL; simp); exact ⟨q.1, fun z hz => Nat.le_trans hlo (q.2 z hz)⟩
 ·have q := lies_of (b := b4) (cs := []) [6, 2] h (by show _ ∈ xothL b1 b2 b3 b4 b5 b6 b7 b8 b9 b10; unfold xothL; simp); exact ⟨q.1, fun z hz => Nat.le_trans hlo (q.2 z hz)⟩
 ·have q := lies_of (b := b5) (cs := []) [6, 5] h (by show _ ∈ xothL b1 b2 b3 b4 b5 b6 b7 b8 b9 b10; unfold xothL; simp); exact ⟨q.1, fun z hz => Nat.le_trans hlo (q.2 z hz)⟩
 ·have q := lies_of (b := b6) (cs := []) [4, 6] h (by show _ ∈ xothL b1 b2 b3 b4 b5 b6 b7 b8 b9 b10; unfold xothL; simp); exact ⟨q.1, fun z hz => Nat.le_trans hlo (q.2 z hz)⟩
 ·have q := lies_of (b := b7) (cs := []) [6, 4] h (by show _ ∈ xothL b1 b2 b3 b4 b5 b6 b7 b8 b9 b10; unfold xothL; simp); exact ⟨q.1, fun z hz => Nat.le_trans hlo (q.2 z hz)⟩
 ·exact ⟨.inl ⟨rfl, rfl⟩, fun q hq => by cases hq⟩
 ·have q := lies_of (b := b8) (cs := []) [2, 7] h (by show _ ∈ xothL b1 b2 b3 b4 b5 b6 b7 b8 b9 b10; unfold xothL; simp); exact ⟨q.1, fun z hz => Nat.le_trans hlo (q.2 z hz)⟩
 ·have q := lies_of (b := b9) (cs := []) [2, 7] h (by show _ ∈ xothL b1 b2 b3 b4 b5 b6 b7 b8 b9 b10; unfold xothL; simp); exact ⟨q.1, fun z hz => Nat.le_trans hlo (q.2 z hz)⟩
theorem rows_keys {lo b1 : Nat} {L : List Rw} {w : World} {ks : List Nat} (h : RowsIn lo L w [b1]) (hk : ∀ b, ks.contains b = true → b < lo ∨ b = b1) : RowsIn lo L w ks := fun r hr => by
 obtain ⟨h1, h2⟩ := h r hr
 refine ⟨?_, h2⟩
 rcases h1 with h1 | ⟨b, e, q1, q2, q3⟩
 ·exact .inl h1
 ·refine .inr ⟨b, e, q1, ?_, q3⟩
  cases hc : ks.contains b with
  | false => rfl
  | true =>
   have h3 := h2 _ e
   simp only at h3
   rcases hk b hc with h4 | h4
   ·omega
   ·rw [h4] at q2; simp at q2
theorem acc_keys {lo : Nat} {l : List (Nat × List SV)} {w : World} {ks : List Nat} (h : Acc lo l w []) (hk : ∀ b, ks.contains b = true → b < lo) : Acc lo l w ks := fun p hp => by
 obtain ⟨h1, vs, h2, h3, h4, h5⟩ := h p hp
 refine ⟨h1, vs, h2, h3, ?_, h5⟩
 cases hc : ks.contains p.1 with
 | false => rfl
 | true => have := hk _ hc; omega
theorem xoth_den (b1 b2 b3 b4 b5 b6 b7 b8 b9 b10 : Nat) : denL [] ((xothR b1 b2 b3 b4 b5 b6 b7 b8 b9).flatMap rwc) = denL [] [.str [77, 79, 86], .str [], .int .i64 1, .z9, .z9, .z9, .z9, .z9, .z9, .z9, .z9, .z9, .ff, .ff, .ff, .z9, .z9, .z9, .ff, .sla (some ⟨b1, 0, none⟩) 2 2, .str [77, 79, 86], .str [], .int .i64 2, .z9, .z9, .z9, .z9, .z9, .z9, .z9, .z9, .z9, .ff, .ff, .ff, .z9, .z9, .z9, .ff, .sla (some ⟨b2, 0, none⟩) 2 2, .str [77, 79, 86, 42], .str [], .int .i64 4, .z9, .z9, .z9, .z9, .z9, .z9, .z9, .z9, .z9, .ff, .ff, .ff, .z9, .z9, .z9, .ff, .sla (some ⟨b3, 0, none⟩) 2 2, .str [77, 79, 86, 42], .str [], .int .i64 5, .z9, .z9, .z9, .z9, .z9, .z9, .z9, .z9, .z9, .ff, .ff, .ff, .z9, .z9, .z9, .ff, .sla (some ⟨b4, 0, none⟩) 2 2, .str [77, 79, 86, 42], .str [], .int .i64 5, .z9, .z9, .z9, .z9, .z9, .z9, .z9, .z9, .z9, .ff, .ff, .ff, .z9, .z9, .z9, .ff, .sla (some ⟨b5, 0, none⟩) 2 2, .str [88, 67, 72, 71, 42], .str [], .int .i64 6, .z9, .z9, .z9, .z9, .z9, .z9, .z9, .z9, .int .i64 6, .tt, .ff, .tt, .z9, .z9, .z9, .ff, .sla (some ⟨b6, 0, none⟩) 2 2, .str [88, 65, 68, 68, 42], .str [], .int .i64 6, .z9, .z9, .z9, .z9, .z9, .z9, .z9, .z9, .int .i64 1, .tt, .ff, .tt, .z9, .z9, .z9, .ff, .sla (some ⟨b7, 0, none⟩) 2 2, .str [77, 70, 69, 78, 67, 69], .str [], .int .i64 7, .z9, .z9, .z9, .z9, .z9, .z9, .z9, .z9, .z9, .ff, .ff, .ff, .int .i64 3, .int .i64 3, .z9, .ff, .sla none 0 0, .str [74, 90], .str [], .int .i64 9, .z9, .z9, .z9, .z9, .z9, .z9, .z9, .z9, .z9, .ff, .ff, .ff, .z9, .z9, .z9, .tt, .sla (some ⟨b8, 0, none⟩) 2 2, .str [74, 78, 90], .str [], .int .i64 9, .z9, .z9, .z9, .z9, .z9, .z9, .z9, .z9, .z9, .ff, .ff, .ff, .z9, .z9, .z9, .ff, .sla (some ⟨b9, 0, none⟩) 2 2] := by rfl
theorem RowsIn.mono {lo lo2 : Nat} {L : List Rw} {w : World} {ks : List Nat} (h : RowsIn lo L w ks) (hl : lo2 ≤ lo) : RowsIn lo2 L w ks := fun r hr => ⟨(h r hr).1, fun q hq => Nat.le_trans hl ((h r hr).2 q hq)⟩
theorem RowsIn.app {lo : Nat} {L R : List Rw} {w : World} {ks : List Nat} (h : RowsIn lo L w ks) (h2 : RowsIn lo R w ks) : RowsIn lo (L ++ R) w ks := fun r hr => by
 rcases List.mem_append.1 hr with h3 | h3
 ·exact h r h3
 ·exact h2 r h3
theorem RowsIn.one {lo b : Nat} {L : List Rw} {w w' : World} {ks : List Nat} (h : RowsIn lo L w ks) (h2 : RowsIn lo L w [b]) (m : Mix ks w w') : RowsIn lo L w' [b] := fun r hr => by
 refine ⟨?_, (h r hr).2⟩
 rcases (h r hr).1.go m (ks' := []) (fun b hb => by cases hb) with h1 | ⟨q, e, q1, _, q3⟩
 ·exact .inl h1
 ·rcases (h2 r hr).1 with h3 | ⟨q', e', _, q2', _⟩
  ·rw [h3.1] at e; cases e
  ·rw [e] at e'; cases e'; exact .inr ⟨q, e, q1, q2', q3⟩
theorem Given.mix {e s m b cp : Nat} {f : Nat → List SV} {w w' : World} {ks : List Nat} (h : Given e s m f b cp w) (mx : Mix ks w w') (hk : ks.contains b = false) : Given e s m f b cp w' := by
 obtain ⟨h1, xs, h2, h3⟩ := h
 exact ⟨h1, xs, h2, own_mix h3 mx (fun k hk2 => by cases hk2; exact hk)⟩
section
variable {n : Nat} {ks : List Nat} {G0 : Gr} {w0 : World} {T : List (Nat × SV)} {H : Hp} {G : Gr} {a : Act} {w : World} {Q : Exit → Act → World → Prop} {K : List Fr} {ops : Array Oper} {o : Oper} {rest : List Oper}
theorem CALLOTH (A : Sy n T H ks G0 w0 G a w) (h1 : callS n ops T o = some (129, []))
  (k : ∀ b1 b2 b3 b4 b5 b6 b7 b8 b9 b10 vs a' w', denL [] ((xothR b1 b2 b3 b4 b5 b6 b7 b8 b9).flatMap rwc) = some vs → Lies b10 0 vs w' (keys H G) → RowsIn w.heap.size (xothR b1 b2 b3 b4 b5 b6 b7 b8 b9) w' (keys H G) → Sy n (extS T o.dst (.sla (some ⟨b10, 0, none⟩) 10 10)) H ks G0 w0 G a' w' → Goal Tryz.prog Q K (.ops ops rest) a' w') : Goal Tryz.prog Q K (.ops ops (o :: rest)) a w := by
 refine CALLR [] xoth_ A h1 rfl rfl rfl rfl fun x a' w' hJ hk A' => ?_
 obtain ⟨b1, b2, b3, b4, b5, b6, b7, b8, b9, b10, rfl, hA⟩ := hJ
 have hA := acc_keys hA hk
 obtain ⟨_, vs, q1, q2⟩ := hA _ List.mem_cons_self
 exact k b1 b2 b3 b4 b5 b6 b7 b8 b9 b10 vs a' w' ((xoth_den b1 b2 b3 b4 b5 b6 b7 b8 b9 b10).trans q1) q2 (xoth_rows hA (Nat.le_refl _)) A'
end
theorem xregs_   : Fn Tryz.prog 99 [] [] (Rt (.agg [.str [82, 65, 88], .str [82, 66, 88], .str [82, 67, 88], .str [82, 68, 88], .str [82, 83, 73], .str [82, 68, 73], .str [82, 56], .str [82, 57]]) []) :=
 enterM (n := 2) (by kernel_rfl) Tryz.func99 rfl rfl rfl fun G w a h0 A => N9 12 A rfl rfl fun A => R9 A rfl h0 rfl rfl rfl
theorem xlang_ : FnR Tryz.prog 96 [] [] (fun x w w' => ∃ (L : List Rw) (b cp : Nat), x = .agg [.str [82, 65, 88], .str [82, 66, 88], .str [82, 67, 88], .str [82, 68, 88], .str [82, 83, 73], .str [82, 68, 73], .str [82, 56], .str [82, 57], .str [66], .str [87], .str [76], .str [81], .str [36], .str [], .str [], .str [], .sla (some ⟨b, 0, none⟩) 20 cp] ∧ (L.map tm = x86T ∧ RowsIn w.heap.size L w' [b]) ∧ w.heap.size ≤ b ∧ Given 164 20 20 (fun zz => rwc (L.getD zz Rw.z)) b cp w') :=
 enterR (n := 7) (by kernel_rfl) Tryz.func96 rfl rfl rfl fun G w a h0 A => N9 7 A rfl rfl fun A => C9 [] (xregs_ ) A rfl fun A => N9 1 A rfl rfl fun A => have hz := A.mix.size; CALLROW (t := 3) (F := fun (L : List Rw) zz => rwc (L.getD zz Rw.z)) (R := fun L b w w' => L.map tm = xcomp ∧ RowsIn w.heap.size L w' [b]) xcomp_ A rfl rfl fun L b1 cp1 a1 w1 G1 hR hlo hk A => have hl : L.length = 10 := (by have q := congrArg List.length hR.1; rw [List.length_map] at q; exact q); have hI := (rows_keys hR.2 hk).mono hz; have B := A; have A := B.base;
 CALLOTH A rfl fun c1 c2 c3 c4 c5 c6 c7 c8 c9 c10 vs a2 w2 hv hL hO A => have hI := RowsIn.ok _ _ _ _ hI A.mix A.keys_own; have hO := hO.mono B.mix.size; have B := B.trans A; have A := A.base; have A := A.adoptL Rw.z rwc 20 tyR.1 tyR.2.1 tyR.2.2 (xothR c1 c2 c3 c4 c5 c6 c7 c8 c9) hL hv 4 rfl;
 q_eff A rfl (aplE hX 20 (fun zz => rwc ((L ++ (xothR c1 c2 c3 c4 c5 c6 c7 c8 c9)).getD zz Rw.z)) rfl rfl rfl rfl (Nat.le_refl _) (by decide) (show 10 ≤ 1000000 by decide) rfl (fun k hk => by show rwc _ = rwc _; rw [getD_app_l (by omega)]) (fun k hk => by show rwc ((L ++ _).getD (10 + k) Rw.z) = rwc _; rw [show 10 + k = L.length + k by omega, getD_app_r]) (fun z => ⟨_, rfl, rfl⟩) (fun k hk => ⟨_, rfl, okE_nil⟩)) fun A => match A.giveRow 3 5 (by decide) rfl rfl rfl with | ⟨b, cp, A2, hG, ho, hkb⟩ => (have hW := hI.app hO; have h1 := RowsIn.ok _ _ _ _ hW A2.mix A2.keys_own; have h2 := RowsIn.ok _ _ _ [b] hW A2.mix (fun b2 hb => by have : b2 = b := (by simpa using hb); rw [this]; exact ho); have hbl := lo_of B (fun i e he => nil_no he) ho; have B := B.trans A2; have A := A2.base;
 N9 5 A rfl rfl fun A => RETR (J := fun x w w' => ∃ (L : List Rw) (b cp : Nat), x = .agg [.str [82, 65, 88], .str [82, 66, 88], .str [82, 67, 88], .str [82, 68, 88], .str [82, 83, 73], .str [82, 68, 73], .str [82, 56], .str [82, 57], .str [66], .str [87], .str [76], .str [81], .str [36], .str [], .str [], .str [], .sla (some ⟨b, 0, none⟩) 20 cp] ∧ (L.map tm = x86T ∧ RowsIn w.heap.size L w' [b]) ∧ w.heap.size ≤ b ∧ Given 164 20 20 (fun zz => rwc (L.getD zz Rw.z)) b cp w') hX (B.trans A) (fun i e he => nil_no he) rfl rfl rfl rfl ⟨L ++ (xothR c1 c2 c3 c4 c5 c6 c7 c8 c9), b, cp, rfl, ⟨by rw [List.map_append, hR.1]; rfl, h1.one h2 A.mix⟩, hbl, hG.mix A.mix hkb⟩)
end Go.Proofs.YtjkppaijicjpoaaGreatDoor
namespace Go.Proofs.YtjkppaijicjpoaaGreatDoor
open Go.RowKit
set_option linter.unusedVariables false
set_option linter.unusedSimpArgs false
set_option maxRecDepth 100000
set_option maxHeartbeats 2000000
def x86G : Lg := ⟨[82, 65, 88], [82, 66, 88], [82, 67, 88], [82, 68, 88], [82, 83, 73], [82, 68, 73], [82, 56], [82, 57], [66], [87], [76], [81], [36], [], [], []⟩
section
variable {g : Lg} {q : List UInt8} {L : List Rw} {ws : List Tk} {s : Ps}
theorem tm_mem {r : Rw} {T : List (List UInt8 × List UInt8 × In × List Int)} (h : L.map tm = T) (hr : r ∈ L) : tm r ∈ T := by rw [← h]; exact List.mem_map_of_mem hr
end
end Go.Proofs.YtjkppaijicjpoaaGreatDoor
namespace Go.Proofs.YtjkppaijicjpoaaGreatDoor
open Go.RowKit
set_option linter.unusedVariables false
set_option linter.unusedSimpArgs false
set_option linter.unusedSectionVars false
def cn (r : Rw) : Rw := ⟨r.nm, r.wd, r.ins, none, r.ps, 0⟩
def rwOf (x : List UInt8 × List UInt8 × In × List Int) : Rw := ⟨x.1, x.2.1, x.2.2.1, none, x.2.2.2, 0⟩
theorem cn_tm {L : List Rw} {T : List (List UInt8 × List UInt8 × In × List Int)} (h : L.map tm = T) : L.map cn = T.map rwOf := by rw [← h, List.map_map]; rfl
section
variable {g : Lg} {q : List UInt8} {L R : List Rw} {ws : List Tk} {s z : Ps} {k : Nat} {t : Tk} {x : Int}
end
def x86C : List Rw := x86T.map rwOf
end Go.Proofs.YtjkppaijicjpoaaGreatDoor
namespace Go.Proofs.YtjkppaijicjpoaaGreatDoor
open Go.RowKit
set_option linter.unusedVariables false
set_option linter.unusedSimpArgs false
set_option maxRecDepth 100000
set_option maxHeartbeats 2000000
set_option simprocs false

section
variable {g : Lg} {L : List Rw} {i : In} {lb : List UInt8}
theorem cn_find : ∀ (L : List Rw), (L.map cn).find? (rowP i) = (L.find? (rowP i)).map cn
 | [] => rfl
 | r :: L => by
  rw [List.map_cons, List.find?_cons, List.find?_cons]
  have e : rowP i (cn r) = rowP i r := rfl
  rw [e]
  split
  ·rfl
  ·exact cn_find L
theorem cn_rowR : rowR (L.map cn) i = cn (rowR L i) := by
 unfold rowR; rw [cn_find]; cases L.find? (rowP i) <;> rfl
theorem cn_rowQ : rowQ (L.map cn) i = rowQ L i := by
 unfold rowQ; rw [cn_find]; cases L.find? (rowP i) <;> rfl
theorem cn_prP : prP g (L.map cn) i lb = prP g L i lb := by
 unfold prP; rw [cn_rowR, cn_rowQ]; rfl
theorem x86_pr (h : L.map tm = x86T) : prP x86G L i lb = prP x86G x86C i lb := by
 have := cn_prP (g := x86G) (L := L) (i := i) (lb := lb)
 rw [cn_tm h] at this
 exact this.symm
end
theorem xprint_ (i : In) (lb : List UInt8) (os : List (Nat × Obj)) (hM : ∀ w ks, Gl os w ks → ∃ m, w.cell? ⟨1, 0, none⟩ = some (.int .i64 m)) (hT : ∀ w ks, Gl os w ks → Lib.TabIs Tryz.prog w "internal/strconv.uint64pow10" .u64 Lib.pow10Tab) (hE : ∀ w ks, Gl os w ks → ∃ ev, w.cell? ⟨4, 0, none⟩ = some ev ∧ (ev = .nilIface ∨ ∃ te pe, ev = .iface te pe)) (hp : ∀ L : List Rw, L.map tm = x86T → PrOK x86G L i lb) : FnI (Gl os) Tryz.prog 71 [.agg (inQ9 i), .str lb] [] (Rt (.tup [.str ((prP x86G x86C i lb).1), .int .i64 ((prP x86G x86C i lb).2)]) []) :=
 enterI (n := 12) (by kernel_rfl) Tryz.func71 rfl rfl rfl fun G w a h0 hI A => N9 8 A rfl rfl fun A => any_in 8 hmo rfl A fun A => any_at (rs := [0, 1, 2]) (by kernel_rfl) (by decide) (fc9 ⟨any_agg (t := 6) (l := [.str [82, 65, 88], .str [82, 66, 88], .str [82, 67, 88], .str [82, 68, 88], .str [82, 83, 73], .str [82, 68, 73], .str [82, 56], .str [82, 57], .str [66], .str [87], .str [76], .str [81], .str [36], .str [], .str [], .str []]) (F := fun (L : List Rw) zz => rwc (L.getD zz Rw.z)) (R := fun L b w w' => L.map tm = x86T ∧ RowsIn w.heap.size L w' [b]) rfl xlang_ A rfl rfl fun L b cp a1 w1 G1 hR hlo hkk A => have hl20 : L.length = 20 := (by have q := congrArg List.length hR.1; rw [List.length_map] at q; exact q.trans (by decide +kernel)); have hRI := rows_keys hR.2 hkk; have B0 := A; have A := A.base; have A := A.rowAs 1 L.length (fun zz => rwc (L.getD zz Rw.z)) rfl hl20 (fun _ _ => rfl) (fun z => ⟨_, rfl, rfl⟩); have A := A.say 6 (.agg [.str [82, 65, 88], .str [82, 66, 88], .str [82, 67, 88], .str [82, 68, 88], .str [82, 83, 73], .str [82, 68, 73], .str [82, 56], .str [82, 57], .str [66], .str [87], .str [76], .str [81], .str [36], .str [], .str [], .str [], .sl 1 L.length 0]) rfl (by rw [hl20] <;> rfl); have A := A.freeze 1 rfl; have hTb := RowsIn.ok.now A hRI; have B := B0.trans A; have A := A.base; have hI2 : PrI os L _ _ := ⟨fun r hr => (hTb r hr).1, Gl.ok.now B hI⟩; any_at (rs := [1, 2]) (by kernel_rfl) (by decide) (fc9 ⟨aV9 (.agg (inQ9 i)) rfl A rfl rfl fun A => any_at (rs := [2]) (by kernel_rfl) (by decide) (fc9 ⟨aV9 (.str lb) rfl A rfl rfl fun A => any_at (rs := [3]) (by kernel_rfl) (by decide) (fc9 ⟨any_eff (x := .tup [.str ((prP x86G L i lb).1), .int .i64 ((prP x86G L i lb).2)]) (H' := [some (.blk (inQ9 i)), some (lQ9 L)]) rfl A rfl (callIE [1] PrI.ok hI2 (lprint_ x86G L 0 i lb os hM hT hE (hp L hR.1)) rfl rfl rfl rfl rfl rfl rfl) fun A => any_at (rs := [4, 5]) (by kernel_rfl) (by decide) (fc9 ⟨aV9 (.str ((prP x86G L i lb).1)) rfl A rfl rfl fun A => any_at (rs := [5]) (by kernel_rfl) (by decide) (fc9 ⟨aV9 (.int .i64 ((prP x86G L i lb).2)) rfl A rfl rfl fun A => any_at (rs := [6]) (by kernel_rfl) (by decide) (fc9 ⟨aV9 (.str ((prP x86G L i lb).1)) rfl A rfl rfl fun A => any_at (rs := [7]) (by kernel_rfl) (by decide) (fc9 ⟨aV9 (.int .i64 ((prP x86G L i lb).2)) rfl A rfl rfl fun A => any_end (by kernel_rfl) (N9 2 A rfl rfl fun A => R9 (B.trans A) rfl h0 rfl (by rw [← x86_pr hR.1] <;> rfl) rfl),
         (fn9)⟩),
        (fn9)⟩),
       (fn9)⟩),
      (fc9 ⟨aV9 (.int .i64 ((prP x86G L i lb).2)) rfl A rfl rfl fun A => any_at (rs := [4]) (by kernel_rfl) (by decide) (fc9 ⟨aV9 (.str ((prP x86G L i lb).1)) rfl A rfl rfl fun A => any_at (rs := [6]) (by kernel_rfl) (by decide) (fc9 ⟨aV9 (.str ((prP x86G L i lb).1)) rfl A rfl rfl fun A => any_at (rs := [7]) (by kernel_rfl) (by decide) (fc9 ⟨aV9 (.int .i64 ((prP x86G L i lb).2)) rfl A rfl rfl fun A => any_end (by kernel_rfl) (N9 2 A rfl rfl fun A => R9 (B.trans A) rfl h0 rfl (by rw [← x86_pr hR.1] <;> rfl) rfl),
         (fn9)⟩),
        (fn9)⟩),
       (fn9)⟩),
      (fn9)⟩)⟩),
     (fn9)⟩),
    (fn9)⟩),
   (fc9 ⟨aV9 (.str lb) rfl A rfl rfl fun A => any_at (rs := [1]) (by kernel_rfl) (by decide) (fc9 ⟨aV9 (.agg (inQ9 i)) rfl A rfl rfl fun A => any_at (rs := [3]) (by kernel_rfl) (by decide) (fc9 ⟨any_eff (x := .tup [.str ((prP x86G L i lb).1), .int .i64 ((prP x86G L i lb).2)]) (H' := [some (.blk (inQ9 i)), some (lQ9 L)]) rfl A rfl (callIE [1] PrI.ok hI2 (lprint_ x86G L 0 i lb os hM hT hE (hp L hR.1)) rfl rfl rfl rfl rfl rfl rfl) fun A => any_at (rs := [4, 5]) (by kernel_rfl) (by decide) (fc9 ⟨aV9 (.str ((prP x86G L i lb).1)) rfl A rfl rfl fun A => any_at (rs := [5]) (by kernel_rfl) (by decide) (fc9 ⟨aV9 (.int .i64 ((prP x86G L i lb).2)) rfl A rfl rfl fun A => any_at (rs := [6]) (by kernel_rfl) (by decide) (fc9 ⟨aV9 (.str ((prP x86G L i lb).1)) rfl A rfl rfl fun A => any_at (rs := [7]) (by kernel_rfl) (by decide) (fc9 ⟨aV9 (.int .i64 ((prP x86G L i lb).2)) rfl A rfl rfl fun A => any_end (by kernel_rfl) (N9 2 A rfl rfl fun A => R9 (B.trans A) rfl h0 rfl (by rw [← x86_pr hR.1] <;> rfl) rfl),
         (fn9)⟩),
        (fn9)⟩),
       (fn9)⟩),
      (fc9 ⟨aV9 (.int .i64 ((prP x86G L i lb).2)) rfl A rfl rfl fun A => any_at (rs := [4]) (by kernel_rfl) (by decide) (fc9 ⟨aV9 (.str ((prP x86G L i lb).1)) rfl A rfl rfl fun A => any_at (rs := [6]) (by kernel_rfl) (by decide) (fc9 ⟨aV9 (.str ((prP x86G L i lb).1)) rfl A rfl rfl fun A => any_at (rs := [7]) (by kernel_rfl) (by decide) (fc9 ⟨aV9 (.int .i64 ((prP x86G L i lb).2)) rfl A rfl rfl fun A => any_end (by kernel_rfl) (N9 2 A rfl rfl fun A => R9 (B.trans A) rfl h0 rfl (by rw [← x86_pr hR.1] <;> rfl) rfl),
         (fn9)⟩),
        (fn9)⟩),
       (fn9)⟩),
      (fn9)⟩)⟩),
     (fn9)⟩),
    (fn9)⟩),
   (fn9)⟩)⟩),
  (fc9 ⟨aV9 (.agg (inQ9 i)) rfl A rfl rfl fun A => any_at (rs := [0, 2]) (by kernel_rfl) (by decide) (fc9 ⟨any_agg (t := 6) (l := [.str [82, 65, 88], .str [82, 66, 88], .str [82, 67, 88], .str [82, 68, 88], .str [82, 83, 73], .str [82, 68, 73], .str [82, 56], .str [82, 57], .str [66], .str [87], .str [76], .str [81], .str [36], .str [], .str [], .str []]) (F := fun (L : List Rw) zz => rwc (L.getD zz Rw.z)) (R := fun L b w w' => L.map tm = x86T ∧ RowsIn w.heap.size L w' [b]) rfl xlang_ A rfl rfl fun L b cp a1 w1 G1 hR hlo hkk A => have hl20 : L.length = 20 := (by have q := congrArg List.length hR.1; rw [List.length_map] at q; exact q.trans (by decide +kernel)); have hRI := rows_keys hR.2 hkk; have B0 := A; have A := A.base; have A := A.rowAs 1 L.length (fun zz => rwc (L.getD zz Rw.z)) rfl hl20 (fun _ _ => rfl) (fun z => ⟨_, rfl, rfl⟩); have A := A.say 6 (.agg [.str [82, 65, 88], .str [82, 66, 88], .str [82, 67, 88], .str [82, 68, 88], .str [82, 83, 73], .str [82, 68, 73], .str [82, 56], .str [82, 57], .str [66], .str [87], .str [76], .str [81], .str [36], .str [], .str [], .str [], .sl 1 L.length 0]) rfl (by rw [hl20] <;> rfl); have A := A.freeze 1 rfl; have hTb := RowsIn.ok.now A hRI; have B := B0.trans A; have A := A.base; have hI2 : PrI os L _ _ := ⟨fun r hr => (hTb r hr).1, Gl.ok.now B hI⟩; any_at (rs := [2]) (by kernel_rfl) (by decide) (fc9 ⟨aV9 (.str lb) rfl A rfl rfl fun A => any_at (rs := [3]) (by kernel_rfl) (by decide) (fc9 ⟨any_eff (x := .tup [.str ((prP x86G L i lb).1), .int .i64 ((prP x86G L i lb).2)]) (H' := [some (.blk (inQ9 i)), some (lQ9 L)]) rfl A rfl (callIE [1] PrI.ok hI2 (lprint_ x86G L 0 i lb os hM hT hE (hp L hR.1)) rfl rfl rfl rfl rfl rfl rfl) fun A => any_at (rs := [4, 5]) (by kernel_rfl) (by decide) (fc9 ⟨aV9 (.str ((prP x86G L i lb).1)) rfl A rfl rfl fun A => any_at (rs := [5]) (by kernel_rfl) (by decide) (fc9 ⟨aV9 (.int .i64 ((prP x86G L i lb).2)) rfl A rfl rfl fun A => any_at (rs := [6]) (by kernel_rfl) (by decide) (fc9 ⟨aV9 (.str ((prP x86G L i lb).1)) rfl A rfl rfl fun A => any_at (rs := [7]) (by kernel_rfl) (by decide) (fc9 ⟨aV9 (.int .i64 ((prP x86G L i lb).2)) rfl A rfl rfl fun A => any_end (by kernel_rfl) (N9 2 A rfl rfl fun A => R9 (B.trans A) rfl h0 rfl (by rw [← x86_pr hR.1] <;> rfl) rfl),
         (fn9)⟩),
        (fn9)⟩),
       (fn9)⟩),
      (fc9 ⟨aV9 (.int .i64 ((prP x86G L i lb).2)) rfl A rfl rfl fun A => any_at (rs := [4]) (by kernel_rfl) (by decide) (fc9 ⟨aV9 (.str ((prP x86G L i lb).1)) rfl A rfl rfl fun A => any_at (rs := [6]) (by kernel_rfl) (by decide) (fc9 ⟨aV9 (.str ((prP x86G L i lb).1)) rfl A rfl rfl fun A => any_at (rs := [7]) (by kernel_rfl) (by decide) (fc9 ⟨aV9 (.int .i64 ((prP x86G L i lb).2)) rfl A rfl rfl fun A => any_end (by kernel_rfl) (N9 2 A rfl rfl fun A => R9 (B.trans A) rfl h0 rfl (by rw [← x86_pr hR.1] <;> rfl) rfl),
         (fn9)⟩),
        (fn9)⟩),
       (fn9)⟩),
      (fn9)⟩)⟩),
     (fn9)⟩),
    (fn9)⟩),
   (fc9 ⟨aV9 (.str lb) rfl A rfl rfl fun A => any_at (rs := [0]) (by kernel_rfl) (by decide) (fc9 ⟨any_agg (t := 6) (l := [.str [82, 65, 88], .str [82, 66, 88], .str [82, 67, 88], .str [82, 68, 88], .str [82, 83, 73], .str [82, 68, 73], .str [82, 56], .str [82, 57], .str [66], .str [87], .str [76], .str [81], .str [36], .str [], .str [], .str []]) (F := fun (L : List Rw) zz => rwc (L.getD zz Rw.z)) (R := fun L b w w' => L.map tm = x86T ∧ RowsIn w.heap.size L w' [b]) rfl xlang_ A rfl rfl fun L b cp a1 w1 G1 hR hlo hkk A => have hl20 : L.length = 20 := (by have q := congrArg List.length hR.1; rw [List.length_map] at q; exact q.trans (by decide +kernel)); have hRI := rows_keys hR.2 hkk; have B0 := A; have A := A.base; have A := A.rowAs 1 L.length (fun zz => rwc (L.getD zz Rw.z)) rfl hl20 (fun _ _ => rfl) (fun z => ⟨_, rfl, rfl⟩); have A := A.say 6 (.agg [.str [82, 65, 88], .str [82, 66, 88], .str [82, 67, 88], .str [82, 68, 88], .str [82, 83, 73], .str [82, 68, 73], .str [82, 56], .str [82, 57], .str [66], .str [87], .str [76], .str [81], .str [36], .str [], .str [], .str [], .sl 1 L.length 0]) rfl (by rw [hl20] <;> rfl); have A := A.freeze 1 rfl; have hTb := RowsIn.ok.now A hRI; have B := B0.trans A; have A := A.base; have hI2 : PrI os L _ _ := ⟨fun r hr => (hTb r hr).1, Gl.ok.now B hI⟩; any_at (rs := [3]) (by kernel_rfl) (by decide) (fc9 ⟨any_eff (x := .tup [.str ((prP x86G L i lb).1), .int .i64 ((prP x86G L i lb).2)]) (H' := [some (.blk (inQ9 i)), some (lQ9 L)]) rfl A rfl (callIE [1] PrI.ok hI2 (lprint_ x86G L 0 i lb os hM hT hE (hp L hR.1)) rfl rfl rfl rfl rfl rfl rfl) fun A => any_at (rs := [4, 5]) (by kernel_rfl) (by decide) (fc9 ⟨aV9 (.str ((prP x86G L i lb).1)) rfl A rfl rfl fun A => any_at (rs := [5]) (by kernel_rfl) (by decide) (fc9 ⟨aV9 (.int .i64 ((prP x86G L i lb).2)) rfl A rfl rfl fun A => any_at (rs := [6]) (by kernel_rfl) (by decide) (fc9 ⟨aV9 (.str ((prP x86G L i lb).1)) rfl A rfl rfl fun A => any_at (rs := [7]) (by kernel_rfl) (by decide) (fc9 ⟨aV9 (.int .i64 ((prP x86G L i lb).2)) rfl A rfl rfl fun A => any_end (by kernel_rfl) (N9 2 A rfl rfl fun A => R9 (B.trans A) rfl h0 rfl (by rw [← x86_pr hR.1] <;> rfl) rfl),
         (fn9)⟩),
        (fn9)⟩),
       (fn9)⟩),
      (fc9 ⟨aV9 (.int .i64 ((prP x86G L i lb).2)) rfl A rfl rfl fun A => any_at (rs := [4]) (by kernel_rfl) (by decide) (fc9 ⟨aV9 (.str ((prP x86G L i lb).1)) rfl A rfl rfl fun A => any_at (rs := [6]) (by kernel_rfl) (by decide) (fc9 ⟨aV9 (.str ((prP x86G L i lb).1)) rfl A rfl rfl fun A => any_at (rs := [7]) (by kernel_rfl) (by decide) (fc9 ⟨aV9 (.int .i64 ((prP x86G L i lb).2)) rfl A rfl rfl fun A => any_end (by kernel_rfl) (N9 2 A rfl rfl fun A => R9 (B.trans A) rfl h0 rfl (by rw [← x86_pr hR.1] <;> rfl) rfl),
         (fn9)⟩),
        (fn9)⟩),
       (fn9)⟩),
      (fn9)⟩)⟩),
     (fn9)⟩),
    (fn9)⟩),
   (fn9)⟩)⟩),
  (fc9 ⟨aV9 (.str lb) rfl A rfl rfl fun A => any_at (rs := [0, 1]) (by kernel_rfl) (by decide) (fc9 ⟨any_agg (t := 6) (l := [.str [82, 65, 88], .str [82, 66, 88], .str [82, 67, 88], .str [82, 68, 88], .str [82, 83, 73], .str [82, 68, 73], .str [82, 56], .str [82, 57], .str [66], .str [87], .str [76], .str [81], .str [36], .str [], .str [], .str []]) (F := fun (L : List Rw) zz => rwc (L.getD zz Rw.z)) (R := fun L b w w' => L.map tm = x86T ∧ RowsIn w.heap.size L w' [b]) rfl xlang_ A rfl rfl fun L b cp a1 w1 G1 hR hlo hkk A => have hl20 : L.length = 20 := (by have q := congrArg List.length hR.1; rw [List.length_map] at q; exact q.trans (by decide +kernel)); have hRI := rows_keys hR.2 hkk; have B0 := A; have A := A.base; have A := A.rowAs 1 L.length (fun zz => rwc (L.getD zz Rw.z)) rfl hl20 (fun _ _ => rfl) (fun z => ⟨_, rfl, rfl⟩); have A := A.say 6 (.agg [.str [82, 65, 88], .str [82, 66, 88], .str [82, 67, 88], .str [82, 68, 88], .str [82, 83, 73], .str [82, 68, 73], .str [82, 56], .str [82, 57], .str [66], .str [87], .str [76], .str [81], .str [36], .str [], .str [], .str [], .sl 1 L.length 0]) rfl (by rw [hl20] <;> rfl); have A := A.freeze 1 rfl; have hTb := RowsIn.ok.now A hRI; have B := B0.trans A; have A := A.base; have hI2 : PrI os L _ _ := ⟨fun r hr => (hTb r hr).1, Gl.ok.now B hI⟩; any_at (rs := [1]) (by kernel_rfl) (by decide) (fc9 ⟨aV9 (.agg (inQ9 i)) rfl A rfl rfl fun A => any_at (rs := [3]) (by kernel_rfl) (by decide) (fc9 ⟨any_eff (x := .tup [.str ((prP x86G L i lb).1), .int .i64 ((prP x86G L i lb).2)]) (H' := [some (.blk (inQ9 i)), some (lQ9 L)]) rfl A rfl (callIE [1] PrI.ok hI2 (lprint_ x86G L 0 i lb os hM hT hE (hp L hR.1)) rfl rfl rfl rfl rfl rfl rfl) fun A => any_at (rs := [4, 5]) (by kernel_rfl) (by decide) (fc9 ⟨aV9 (.str ((prP x86G L i lb).1)) rfl A rfl rfl fun A => any_at (rs := [5]) (by kernel_rfl) (by decide) (fc9 ⟨aV9 (.int .i64 ((prP x86G L i lb).2)) rfl A rfl rfl fun A => any_at (rs := [6]) (by kernel_rfl) (by decide) (fc9 ⟨aV9 (.str ((prP x86G L i lb).1)) rfl A rfl rfl fun A => any_at (rs := [7]) (by kernel_rfl) (by decide) (fc9 ⟨aV9 (.int .i64 ((prP x86G L i lb).2)) rfl A rfl rfl fun A => any_end (by kernel_rfl) (N9 2 A rfl rfl fun A => R9 (B.trans A) rfl h0 rfl (by rw [← x86_pr hR.1] <;> rfl) rfl),
         (fn9)⟩),
        (fn9)⟩),
       (fn9)⟩),
      (fc9 ⟨aV9 (.int .i64 ((prP x86G L i lb).2)) rfl A rfl rfl fun A => any_at (rs := [4]) (by kernel_rfl) (by decide) (fc9 ⟨aV9 (.str ((prP x86G L i lb).1)) rfl A rfl rfl fun A => any_at (rs := [6]) (by kernel_rfl) (by decide) (fc9 ⟨aV9 (.str ((prP x86G L i lb).1)) rfl A rfl rfl fun A => any_at (rs := [7]) (by kernel_rfl) (by decide) (fc9 ⟨aV9 (.int .i64 ((prP x86G L i lb).2)) rfl A rfl rfl fun A => any_end (by kernel_rfl) (N9 2 A rfl rfl fun A => R9 (B.trans A) rfl h0 rfl (by rw [← x86_pr hR.1] <;> rfl) rfl),
         (fn9)⟩),
        (fn9)⟩),
       (fn9)⟩),
      (fn9)⟩)⟩),
     (fn9)⟩),
    (fn9)⟩),
   (fc9 ⟨aV9 (.agg (inQ9 i)) rfl A rfl rfl fun A => any_at (rs := [0]) (by kernel_rfl) (by decide) (fc9 ⟨any_agg (t := 6) (l := [.str [82, 65, 88], .str [82, 66, 88], .str [82, 67, 88], .str [82, 68, 88], .str [82, 83, 73], .str [82, 68, 73], .str [82, 56], .str [82, 57], .str [66], .str [87], .str [76], .str [81], .str [36], .str [], .str [], .str []]) (F := fun (L : List Rw) zz => rwc (L.getD zz Rw.z)) (R := fun L b w w' => L.map tm = x86T ∧ RowsIn w.heap.size L w' [b]) rfl xlang_ A rfl rfl fun L b cp a1 w1 G1 hR hlo hkk A => have hl20 : L.length = 20 := (by have q := congrArg List.length hR.1; rw [List.length_map] at q; exact q.trans (by decide +kernel)); have hRI := rows_keys hR.2 hkk; have B0 := A; have A := A.base; have A := A.rowAs 1 L.length (fun zz => rwc (L.getD zz Rw.z)) rfl hl20 (fun _ _ => rfl) (fun z => ⟨_, rfl, rfl⟩); have A := A.say 6 (.agg [.str [82, 65, 88], .str [82, 66, 88], .str [82, 67, 88], .str [82, 68, 88], .str [82, 83, 73], .str [82, 68, 73], .str [82, 56], .str [82, 57], .str [66], .str [87], .str [76], .str [81], .str [36], .str [], .str [], .str [], .sl 1 L.length 0]) rfl (by rw [hl20] <;> rfl); have A := A.freeze 1 rfl; have hTb := RowsIn.ok.now A hRI; have B := B0.trans A; have A := A.base; have hI2 : PrI os L _ _ := ⟨fun r hr => (hTb r hr).1, Gl.ok.now B hI⟩; any_at (rs := [3]) (by kernel_rfl) (by decide) (fc9 ⟨any_eff (x := .tup [.str ((prP x86G L i lb).1), .int .i64 ((prP x86G L i lb).2)]) (H' := [some (.blk (inQ9 i)), some (lQ9 L)]) rfl A rfl (callIE [1] PrI.ok hI2 (lprint_ x86G L 0 i lb os hM hT hE (hp L hR.1)) rfl rfl rfl rfl rfl rfl rfl) fun A => any_at (rs := [4, 5]) (by kernel_rfl) (by decide) (fc9 ⟨aV9 (.str ((prP x86G L i lb).1)) rfl A rfl rfl fun A => any_at (rs := [5]) (by kernel_rfl) (by decide) (fc9 ⟨aV9 (.int .i64 ((prP x86G L i lb).2)) rfl A rfl rfl fun A => any_at (rs := [6]) (by kernel_rfl) (by decide) (fc9 ⟨aV9 (.str ((prP x86G L i lb).1)) rfl A rfl rfl fun A => any_at (rs := [7]) (by kernel_rfl) (by decide) (fc9 ⟨aV9 (.int .i64 ((prP x86G L i lb).2)) rfl A rfl rfl fun A => any_end (by kernel_rfl) (N9 2 A rfl rfl fun A => R9 (B.trans A) rfl h0 rfl (by rw [← x86_pr hR.1] <;> rfl) rfl),
         (fn9)⟩),
        (fn9)⟩),
       (fn9)⟩),
      (fc9 ⟨aV9 (.int .i64 ((prP x86G L i lb).2)) rfl A rfl rfl fun A => any_at (rs := [4]) (by kernel_rfl) (by decide) (fc9 ⟨aV9 (.str ((prP x86G L i lb).1)) rfl A rfl rfl fun A => any_at (rs := [6]) (by kernel_rfl) (by decide) (fc9 ⟨aV9 (.str ((prP x86G L i lb).1)) rfl A rfl rfl fun A => any_at (rs := [7]) (by kernel_rfl) (by decide) (fc9 ⟨aV9 (.int .i64 ((prP x86G L i lb).2)) rfl A rfl rfl fun A => any_end (by kernel_rfl) (N9 2 A rfl rfl fun A => R9 (B.trans A) rfl h0 rfl (by rw [← x86_pr hR.1] <;> rfl) rfl),
         (fn9)⟩),
        (fn9)⟩),
       (fn9)⟩),
      (fn9)⟩)⟩),
     (fn9)⟩),
    (fn9)⟩),
   (fn9)⟩)⟩),
  (fn9)⟩)⟩)⟩)
end Go.Proofs.YtjkppaijicjpoaaGreatDoor
namespace Go.Proofs.YtjkppaijicjpoaaGreatDoor

end Go.Proofs.YtjkppaijicjpoaaGreatDoor
namespace Go.Proofs.YtjkppaijicjpoaaGreatDoor
open Go.Shelf Go.RowKit
set_option linter.unusedVariables false
def laysGrow_ren : Go.Shelf.Ren := ⟨fun | 4 => 177 | n => n, fun | 22 => 134 | 25 => 164 | n => n, fun | n => n⟩
theorem laysGrow : Go.Proofs.Lays8.n4 Tryz.prog laysGrow_ren := {
 mixed := by kernel_rfl
 f4 := ⟨"slices.Grow[[]belated/lang.Row,belated/lang.Row]", by decide, Tryz.func177.trans (congrArg some (by kernel_rfl))⟩
 t0 := Tryz.underlying0
 a0 := Tryz.isAgg0
 z0 := Tryz.sizeOf0
 v0 := Tryz.zeroValue0
 t3 := Tryz.underlying3
 a3 := Tryz.isAgg3
 z3 := Tryz.sizeOf3
 v3 := Tryz.zeroValue3
 t4 := Tryz.underlying4
 a4 := Tryz.isAgg4
 z4 := Tryz.sizeOf4
 v4 := Tryz.zeroValue4
 t9 := Tryz.underlying9
 a9 := Tryz.isAgg9
 z9 := Tryz.sizeOf9
 v9 := Tryz.zeroValue9
 t20 := Tryz.underlying20
 a20 := Tryz.isAgg20
 z20 := Tryz.sizeOf20
 v20 := Tryz.zeroValue20
 t22 := Tryz.underlying134
 a22 := Tryz.isAgg134
 z22 := Tryz.sizeOf134
 v22 := Tryz.zeroValue134 }
theorem rowInfo : ∃ ti z, Tryz.prog.info? 164 = some ti ∧ ti.zero = some z ∧ z.cells.size = 20 ∧ ti.size = 20 ∧ ti.bytes ≤ 100000 := by
 have h : (Tryz.prog.info? 164).map (fun ti => (ti.zero.map (fun z => z.cells.size), ti.size, Nat.ble ti.bytes 100000)) = some (some 20, 20, true) := by kernel_rfl
 cases e : Tryz.prog.info? 164 with
 | none => rw [e] at h; cases h
 | some ti =>
  rw [e] at h
  simp only [Option.map_some, Option.some.injEq, Prod.mk.injEq] at h
  obtain ⟨h1, h2, h3⟩ := h
  cases ez : ti.zero with
  | none => rw [ez] at h1; cases h1
  | some z =>
   rw [ez] at h1
   simp only [Option.map_some, Option.some.injEq] at h1
   exact ⟨ti, z, rfl, ez, h1, h2, Nat.le_of_ble_eq_true h3⟩
theorem grow_ (k : Nat) (h0 : 0 < k) (hk : k ≤ 1000000) : FnR Tryz.prog 177 [.sla none 0 0, .int .i64 k] [] (fun x w w' => ∃ (L : List Rw) (b cp : Nat), x = .sla (some ⟨b, 0, none⟩) 0 cp ∧ L = [] ∧ w.heap.size ≤ b ∧ Given 164 20 0 (fun zz => rwc (L.getD zz Rw.z)) b cp w') := by
 refine ⟨by kernel_rfl, fun G w vs hM hv => ?_⟩
 have hv' : some [Value.slice none 0 0, .int .i64 k] = some vs := hv
 cases hv'
 obtain ⟨ti, z, e1, e2, e3, e4, e5⟩ := rowInfo
 have hc := Any8.slices_Grow_grow laysGrow ti z e1 e2 (by omega) none 0 0 k [] w (Nat.le_refl _) (by omega) (by
  have : (0 + k) * ti.bytes ≤ 1000000 * 100000 := Nat.mul_le_mul (by omega) e5
  omega) (by omega) (by simp) (fun _ => rfl) (fun a ha => by cases ha)
 refine hc.mono ?_
 rintro e w' ⟨rfl, rfl⟩
 have hge := grownCap_ge w (0 + k) 0 164
 refine ⟨.sla (some ⟨w.heap.size, 0, none⟩) 0 (grownCap w (0 + k) 0 164), _, rfl, rfl, ((Grow.refl w).drew).alloc _, [], w.heap.size, _, rfl, rfl, Nat.le_refl _, fun k => ⟨_, rfl, rfl⟩, [], rfl, ?_⟩
 refine World.ownsRow_made w.drew _ _ (Nat.zero_le _) (grownCap_le_maxLen w (0 + k) 0 164 (by unfold maxLen; omega)) ?_
 show (([] : List Value).toArray ++ Builtin.zeroCells z.cells (0 + k - 0) ++ Builtin.zeroCells z.cells (grownCap w (0 + k) 0 164 - (0 + k))).size = _
 simp only [Array.size_append, List.size_toArray, List.length_nil, size_zeroCells, e3]
 omega
end Go.Proofs.YtjkppaijicjpoaaGreatDoor
namespace Go.Proofs.YtjkppaijicjpoaaGreatDoor
open Go.RowKit
set_option linter.unusedVariables false
set_option linter.unusedSimpArgs false
set_option maxRecDepth 100000
set_option maxHeartbeats 2000000
set_option simprocs false
def r5 : List (List UInt8 × Int) := [([97, 100, 100], 1), ([115, 117, 98], 2), ([120, 111, 114], 3), ([97, 110, 100], 4), ([111, 114], 5)]
theorem r5_len : ∀ k, (r5.getD k nz).1.length ≤ 3
 | 0 => by decide
 | 1 => by decide
 | 2 => by decide
 | 3 => by decide
 | 4 => by decide
 | k + 5 => by simp [r5, List.getD]
abbrev rr1 (x : List UInt8 × Int) (b1 : Nat) : Rw := ⟨x.1, [], insF 3 x.2, some ⟨b1, 0, none⟩, [1, 2, 3], 3⟩
abbrev rr2 (x : List UInt8 × Int) (b2 : Nat) : Rw := ⟨x.1 ++ [105], [], insF 3 x.2, some ⟨b2, 0, none⟩, [1, 2, 5], 3⟩
def rcomp : List (List UInt8 × List UInt8 × In × List Int) := r5.flatMap fun x => [(x.1, [], insF 3 x.2, [1, 2, 3]), (x.1 ++ [105], [], insF 3 x.2, [1, 2, 5])]
structure RC (lo : Nat) (z : List Rw × Nat) (w : World) (ks : List Nat) : Prop where
 le : z.2 ≤ 5
 tm : z.1.map tm = rcomp.take (2 * z.2)
 rw : RowsIn lo z.1 w ks
theorem RC.len {lo : Nat} {z : List Rw × Nat} {w : World} {ks : List Nat} (h : RC lo z w ks) : z.1.length = 2 * z.2 := by
 have h1 := congrArg List.length h.tm
 rw [List.length_map, List.length_take] at h1
 have h2 : rcomp.length = 10 := by decide
 have := h.le
 omega
theorem RC.nx {lo b1 b2 : Nat} {z : List Rw × Nat} {w w1 : World} {ks ks1 : List Nat} {l : List (Nat × List SV)} (h : RC lo z w ks) (hk : (z.2 : Int) < 5) (hr : RowsIn lo z.1 w1 ks1) (hA : Acc lo [(b2, [.int .i64 1, .int .i64 2, .int .i64 5]), (b1, [.int .i64 1, .int .i64 2, .int .i64 3])] w1 ks1) : RC lo (z.1 ++ [rr1 (r5.getD ((z.2 : Int)).toNat nz) b1, rr2 (r5.getD ((z.2 : Int)).toNat nz) b2], z.2 + 1) w1 ks1 := by
 refine ⟨by have := h.le; show z.2 + 1 ≤ 5; omega, ?_, fun r hr' => ?_⟩
 ·show List.map _ (z.1 ++ _) = _
  rw [List.map_append, h.tm, Int.toNat_natCast]
  have : z.2 = 0 ∨ z.2 = 1 ∨ z.2 = 2 ∨ z.2 = 3 ∨ z.2 = 4 := by omega
  rcases this with e | e | e | e | e <;> rw [e] <;> rfl
 ·rcases List.mem_append.1 hr' with h1 | h1
  ·exact hr r h1
  ·simp only [List.mem_cons, List.mem_nil_iff, or_false] at h1
   rcases h1 with rfl | rfl
   ·exact lies_of (cs := []) [1, 2, 3] hA (List.mem_cons_of_mem _ (List.mem_cons_self))
   ·exact lies_of (cs := []) [1, 2, 5] hA (List.mem_cons_self)
theorem rcomp_ : FnR Tryz.prog 141 [] [] (fun x w w' => ∃ (L : List Rw) (b cp : Nat), x = .sla (some ⟨b, 0, none⟩) 10 cp ∧ (L.map tm = rcomp ∧ RowsIn w.heap.size L w' [b]) ∧ w.heap.size ≤ b ∧ Given 164 20 10 (fun zz => rwc (L.getD zz Rw.z)) b cp w') :=
 enterR (n := 37) (by kernel_rfl) Tryz.func141 rfl rfl rfl fun G w a h0 A => N9 13 A rfl rfl fun A => have A := A.asT nz nfc 2 tyN.1 tyN.2.1 tyN.2.2 r5 0 rfl; N9 17 A rfl rfl fun A => have A := A.nilRow 2 164 20 (fun zz => rwc (([] : List Rw).getD zz Rw.z)) rfl (fun z => ⟨_, rfl, rfl⟩); LOOPJ (fun (z : List Rw × Nat) => [(0, .sla none 0 0), (2, .sl 1 z.1.length 0), (12, .sl 0 5 5), (13, .int .i64 ((5 : Nat) : Int)), (14, .int .i64 (z.2 : Int))]) (fun (z : List Rw × Nat) => [some (.lst 2 5 (fun zz => nfc (r5.getD zz nz))), some (.row 164 20 z.1.length 0 (fun zz => rwc (z.1.getD zz Rw.z)))]) (fun z w1 ks1 => RC w.heap.size z w1 ks1) (fun z => 5 - z.2) ([], 0) (A.cut [0, 2, 12, 13, 14] rfl) ⟨by decide, rfl, fun r hr => by cases hr⟩ fun z G1 a1 w1 hJ hg A B => have hA : Acc w.heap.size [] w1 _ := Acc.nil; have hR := hJ.rw;
 N9 6 A rfl rfl fun A => forkD 15 A rfl
   (fun h1 A => N9 14 A rfl (ok_d (by omega) <| ok_d (by omega) <| okE_nil) fun A => N9 4 A rfl rfl fun A => have A := sy_sayD A 20 (.agg [.int .i64 3, .z9, .z9, .z9, .z9, .z9, .z9, .z9, .z9, .int .i64 ((r5.getD (((z.2 : Int)).toNat) nz).2), .bool false, .bool false, .bool false, .z9, .z9, .z9, .bool false]) rfl (fun _ => rfl); N9 9 A rfl rfl fun A => BSCI [.int .i64 1, .int .i64 2, .int .i64 3] (X := ⟨_, true⟩) hX RowsIn.ok B hA hR A rfl rfl rfl rfl fun b1 B hA hR A =>
 N9 5 A rfl (ok_d (by have q := r5_len ((z.2 : Int)).toNat; (try simp only [List.length_append, List.length_cons, List.length_nil]); omega) <| okE_nil) fun A => BSCI [.int .i64 1, .int .i64 2, .int .i64 5] (X := ⟨_, true⟩) hX RowsIn.ok B hA hR A rfl rfl rfl rfl fun b2 B hA hR A =>
 N9 2 A rfl rfl fun A => have A := A.asT Rw.z rwc 20 tyR.1 tyR.2.1 tyR.2.2 [rr1 (r5.getD (((z.2 : Int)).toNat) nz) b1, rr2 (r5.getD (((z.2 : Int)).toNat) nz) b2] 4 rfl; q_eff A rfl (aplE hX ((z.1 ++ [rr1 (r5.getD (((z.2 : Int)).toNat) nz) b1, rr2 (r5.getD (((z.2 : Int)).toNat) nz) b2]).length) (fun zz => rwc ((z.1 ++ [rr1 (r5.getD (((z.2 : Int)).toNat) nz) b1, rr2 (r5.getD (((z.2 : Int)).toNat) nz) b2]).getD zz Rw.z)) rfl rfl rfl rfl (Nat.le_refl _) (by have := hJ.len; have := hJ.le; omega) (by decide) List.length_append (fun k hk => by show rwc _ = rwc _; rw [getD_app_l hk]) (fun k hk => by show rwc _ = rwc _; rw [getD_app_r]) (fun z => ⟨_, rfl, rfl⟩) (fun k hk => ⟨_, rfl, okE_nil⟩)) fun A =>
 N9 8 A rfl (ok_d (by omega) <| okE_nil) fun A => ⟨(z.1 ++ [rr1 (r5.getD (((z.2 : Int)).toNat) nz) b1, rr2 (r5.getD (((z.2 : Int)).toNat) nz) b2], z.2 + 1), _, (by have := h1; show _ - _ < _ - _; omega), (hJ.nx (l := []) h1 (RowsIn.ok _ _ _ _ hR A.mix fun b hb => A.keys_own b ((keys_pick (H := [some (.lst 2 5 (fun zz => nfc (r5.getD zz nz))), none, some (.blk [.str ((r5.getD (((z.2 : Int)).toNat) nz).1), .int .i64 ((r5.getD (((z.2 : Int)).toNat) nz).2)]), some (.blk [.int .i64 3, .z9, .z9, .z9, .z9, .z9, .z9, .z9, .z9, .int .i64 ((r5.getD (((z.2 : Int)).toNat) nz).2), .bool false, .bool false, .bool false, .z9, .z9, .z9, .bool false]), some (.lst 20 ([rr1 (r5.getD (((z.2 : Int)).toNat) nz) b1, rr2 (r5.getD (((z.2 : Int)).toNat) nz) b2].length) (fun zz => rwc ([rr1 (r5.getD (((z.2 : Int)).toNat) nz) b1, rr2 (r5.getD (((z.2 : Int)).toNat) nz) b2].getD zz Rw.z))), some (.row 164 20 ((z.1 ++ [rr1 (r5.getD (((z.2 : Int)).toNat) nz) b1, rr2 (r5.getD (((z.2 : Int)).toNat) nz) b2]).length) 0 (fun zz => rwc ((z.1 ++ [rr1 (r5.getD (((z.2 : Int)).toNat) nz) b1, rr2 (r5.getD (((z.2 : Int)).toNat) nz) b2]).getD zz Rw.z)))]) (m := [0, 5]) A.mem.len rfl rfl) b hb)) (hA.go A.mix fun b hb => A.keys_own b ((keys_pick (H := [some (.lst 2 5 (fun zz => nfc (r5.getD zz nz))), none, some (.blk [.str ((r5.getD (((z.2 : Int)).toNat) nz).1), .int .i64 ((r5.getD (((z.2 : Int)).toNat) nz).2)]), some (.blk [.int .i64 3, .z9, .z9, .z9, .z9, .z9, .z9, .z9, .z9, .int .i64 ((r5.getD (((z.2 : Int)).toNat) nz).2), .bool false, .bool false, .bool false, .z9, .z9, .z9, .bool false]), some (.lst 20 ([rr1 (r5.getD (((z.2 : Int)).toNat) nz) b1, rr2 (r5.getD (((z.2 : Int)).toNat) nz) b2].length) (fun zz => rwc ([rr1 (r5.getD (((z.2 : Int)).toNat) nz) b1, rr2 (r5.getD (((z.2 : Int)).toNat) nz) b2].getD zz Rw.z))), some (.row 164 20 ((z.1 ++ [rr1 (r5.getD (((z.2 : Int)).toNat) nz) b1, rr2 (r5.getD (((z.2 : Int)).toNat) nz) b2]).length) 0 (fun zz => rwc ((z.1 ++ [rr1 (r5.getD (((z.2 : Int)).toNat) nz) b1, rr2 (r5.getD (((z.2 : Int)).toNat) nz) b2]).getD zz Rw.z)))]) (m := [0, 5]) A.mem.len rfl rfl) b hb))), ((B.trans A).cut [0, 2, 12, 13, 14] rfl).mv 0 [0, 5] rfl rfl rfl rfl (by simp only [List.length_nil] at h0; omega)⟩)
   (fun h1 A => N9 10 A rfl rfl fun A => (have e5 : z.2 = 5 := (by have := hJ.le; omega); have e : z.1.length = 10 := (by have := hJ.len; omega); match A.giveRow 1 0 (by omega) rfl rfl rfl with | ⟨b, cp, A2, hG, ho, hk⟩ => RETR (J := fun x w w' => ∃ (L : List Rw) (b cp : Nat), x = .sla (some ⟨b, 0, none⟩) 10 cp ∧ (L.map tm = rcomp ∧ RowsIn w.heap.size L w' [b]) ∧ w.heap.size ≤ b ∧ Given 164 20 10 (fun zz => rwc (L.getD zz Rw.z)) b cp w') hX (B.trans A2) (fun i e he => nil_no he) rfl rfl rfl rfl ⟨z.1, b, cp, (by show SV.sla _ z.1.length cp = _; rw [e]), ⟨(by have h2 := hJ.tm; rw [e5] at h2; exact h2), (RowsIn.ok _ _ _ _ hJ.rw A.mix fun b2 hb => by have : b2 = b := (by simpa using hb); rw [this]; exact ho)⟩, lo_of B (fun i e he => nil_no he) ho, (by rw [← e]; exact hG)⟩))
abbrev sz : List UInt8 × Bool × Bool := ([], false, false)
def sfc (x : List UInt8 × Bool × Bool) : List SV := [.str x.1, .bool x.2.1, .bool x.2.2]
theorem tyS : (∀ x, (sfc x).length = 3) ∧ (∀ x, inL 0 (sfc x) = true) ∧ (∀ x, ∃ vs, denL [] (sfc x) = some vs) := ⟨fun _ => rfl, fun _ => rfl, fun _ => ⟨_, rfl⟩⟩
def a2 : List (List UInt8 × Int) := [([97, 109, 111, 115, 119, 97, 112, 46, 42], 6), ([97, 109, 111, 97, 100, 100, 46, 42], 1)]
def s4 : List (List UInt8 × Bool × Bool) := [([], false, false), ([46, 97, 113], true, false), ([46, 114, 108], false, true), ([46, 97, 113, 46, 114, 108], true, true)]
theorem a2_len : ∀ k, (a2.getD k nz).1.length ≤ 100
 | 0 => by decide
 | 1 => by decide
 | k + 2 => by simp [a2, List.getD]
theorem s4_len : ∀ k, (s4.getD k sz).1.length ≤ 100
 | 0 => by decide
 | 1 => by decide
 | 2 => by decide
 | 3 => by decide
 | k + 4 => by simp [s4, List.getD]
def insA (x : List UInt8 × Int) (y : List UInt8 × Bool × Bool) : In := ⟨6, 0, 0, 0, 0, 0, 0, 0, 0, x.2, y.2.1, false, y.2.2, 0, 0, 0, false⟩
abbrev ra1 (x : List UInt8 × Int) (y : List UInt8 × Bool × Bool) (b1 : Nat) : Rw := ⟨x.1 ++ y.1, [], insA x y, some ⟨b1, 0, none⟩, [1, 2, 6], 3⟩
def ratom : List (List UInt8 × List UInt8 × In × List Int) := a2.flatMap fun x => s4.map fun y => (x.1 ++ y.1, [], insA x y, [1, 2, 6])
structure RA (lo n : Nat) (L : List Rw) (w : World) (ks : List Nat) : Prop where
 tm : L.map tm = ratom.take n
 rw : RowsIn lo L w ks
theorem RA.len {lo n : Nat} {L : List Rw} {w : World} {ks : List Nat} (h : RA lo n L w ks) : L.length ≤ 8 ∧ (n ≤ 8 → L.length = n) := by
 have h1 := congrArg List.length h.tm
 rw [List.length_map, List.length_take] at h1
 have h2 : ratom.length = 8 := by decide
 omega
theorem RA.nx {lo b1 k j : Nat} {L : List Rw} {w w1 : World} {ks ks1 : List Nat} (h : RA lo (4 * k + j) L w ks) (hk : k < 2) (hj : j < 4) (hr : RowsIn lo L w1 ks1) (hA : Acc lo [(b1, [.int .i64 1, .int .i64 2, .int .i64 6])] w1 ks1) : RA lo (4 * k + (j + 1)) (L ++ [ra1 (a2.getD ((k : Int)).toNat nz) (s4.getD ((j : Int)).toNat sz) b1]) w1 ks1 := by
 refine ⟨?_, fun r hr' => ?_⟩
 ·rw [List.map_append, h.tm, Int.toNat_natCast, Int.toNat_natCast]
  have q1 : k = 0 ∨ k = 1 := by omega
  have q2 : j = 0 ∨ j = 1 ∨ j = 2 ∨ j = 3 := by omega
  rcases q1 with e | e <;> rcases q2 with e2 | e2 | e2 | e2 <;> rw [e, e2] <;> rfl
 ·rcases List.mem_append.1 hr' with h1 | h1
  ·exact hr r h1
  ·simp only [List.mem_cons, List.mem_nil_iff, or_false] at h1
   subst h1
   exact lies_of (cs := []) [1, 2, 6] hA List.mem_cons_self
theorem ratom_ : FnR Tryz.prog 142 [] [] (fun x w w' => ∃ (L : List Rw) (b cp : Nat), x = .sla (some ⟨b, 0, none⟩) 8 cp ∧ (L.map tm = ratom ∧ RowsIn w.heap.size L w' [b]) ∧ w.heap.size ≤ b ∧ Given 164 20 8 (fun zz => rwc (L.getD zz Rw.z)) b cp w') :=
 enterR (n := 50) (by kernel_rfl) Tryz.func142 rfl rfl rfl fun G w a h0 A => N9 10 A rfl rfl fun A => have A := A.asT nz nfc 2 tyN.1 tyN.2.1 tyN.2.2 a2 0 rfl; N9 6 A rfl rfl fun A => have A := sy_sayD A 12 (.agg [.str [], .bool false, .bool false]) rfl (fun _ => rfl); N9 1 A rfl rfl fun A => have A := sy_sayD A 13 (.agg [.str [46, 97, 113], .bool true, .bool false]) rfl (fun _ => rfl); N9 1 A rfl rfl fun A => have A := sy_sayD A 14 (.agg [.str [46, 114, 108], .bool false, .bool true]) rfl (fun _ => rfl); N9 1 A rfl rfl fun A => have A := sy_sayD A 15 (.agg [.str [46, 97, 113, 46, 114, 108], .bool true, .bool true]) rfl (fun _ => rfl); N9 1 A rfl rfl fun A => have A := A.asT sz sfc 3 tyS.1 tyS.2.1 tyS.2.2 s4 1 rfl; N9 17 A rfl rfl fun A => have A := A.nilRow 3 164 20 (fun zz => rwc (([] : List Rw).getD zz Rw.z)) rfl (fun z => ⟨_, rfl, rfl⟩); LOOPJ (fun (z : List Rw × Nat) => [(0, .sla none 0 0), (2, .sl 1 4 4), (3, .sl 2 z.1.length 0), (17, .sl 0 2 2), (18, .int .i64 ((2 : Nat) : Int)), (19, .int .i64 (z.2 : Int))]) (fun (z : List Rw × Nat) => [some (.lst 2 2 (fun zz => nfc (a2.getD zz nz))), some (.lst 3 4 (fun zz => sfc (s4.getD zz sz))), some (.row 164 20 z.1.length 0 (fun zz => rwc (z.1.getD zz Rw.z)))]) (fun z w1 ks1 => z.2 ≤ 2 ∧ RA w.heap.size (4 * z.2) z.1 w1 ks1) (fun z => 2 - z.2) ([], 0) (A.cut [0, 2, 3, 17, 18, 19] rfl) ⟨by decide, ⟨rfl, fun r hr => by cases hr⟩⟩ fun z G1 a1 w1 hJ hg A B => have hz2 := hJ.1; have hR := hJ.2.rw;
 N9 6 A rfl rfl fun A => forkD 20 A rfl
   (fun h1 A => N9 14 A rfl (ok_d (by omega) <| ok_d (by omega) <| okE_nil) fun A => N9 7 A rfl rfl fun A => have hR := RowsIn.ok _ _ _ _ hR A.mix A.keys_own; LOOPJ (fun (y : List Rw × Nat) => [(0, .sla none 0 0), (2, .sl 1 4 4), (3, .sl 2 y.1.length 0), (5, .ptr 3 0), (17, .sl 0 2 2), (18, .int .i64 ((2 : Nat) : Int)), (19, .int .i64 (z.2 : Int)), (23, .sl 1 4 4), (24, .int .i64 ((4 : Nat) : Int)), (25, .int .i64 (y.2 : Int))]) (fun (y : List Rw × Nat) => [some (.lst 2 2 (fun zz => nfc (a2.getD zz nz))), some (.lst 3 4 (fun zz => sfc (s4.getD zz sz))), some (.row 164 20 y.1.length 0 (fun zz => rwc (y.1.getD zz Rw.z))), some (.blk [.str ((a2.getD (((z.2 : Int)).toNat) nz).1), .int .i64 ((a2.getD (((z.2 : Int)).toNat) nz).2)])]) (fun y w1 ks1 => y.2 ≤ 4 ∧ RA w.heap.size (4 * z.2 + y.2) y.1 w1 ks1) (fun y => 4 - y.2) (z.1, 0) ((B.trans A).cut [0, 2, 3, 5, 17, 18, 19, 23, 24, 25] rfl) ⟨Nat.zero_le 4, ⟨hJ.2.tm, hR⟩⟩ fun y G1 a1 w1 hJ hg A B => have hA : Acc w.heap.size [] w1 _ := Acc.nil; have hR := hJ.2.rw;
 N9 6 A rfl rfl fun A => forkD 26 A rfl
     (fun h2 A => N9 14 A rfl (ok_d (by omega) <| ok_d (by omega) <| okE_nil) fun A => N9 8 A rfl rfl fun A => have A := sy_sayD A 35 (.agg [.int .i64 6, .z9, .z9, .z9, .z9, .z9, .z9, .z9, .z9, .int .i64 ((a2.getD (((z.2 : Int)).toNat) nz).2), .bool ((s4.getD (((y.2 : Int)).toNat) sz).2.1), .bool false, .bool ((s4.getD (((y.2 : Int)).toNat) sz).2.2), .z9, .z9, .z9, .bool false]) rfl (fun _ => rfl); N9 12 A rfl (ok_d (by have q := a2_len ((z.2 : Int)).toNat; have q2 := s4_len ((y.2 : Int)).toNat; (try simp only [List.length_append, List.length_cons, List.length_nil]); omega) <| okE_nil) fun A => BSCI [.int .i64 1, .int .i64 2, .int .i64 6] (X := ⟨_, true⟩) hX RowsIn.ok B hA hR A rfl rfl rfl rfl fun b1 B hA hR A =>
 N9 2 A rfl rfl fun A => have A := A.asT Rw.z rwc 20 tyR.1 tyR.2.1 tyR.2.2 [ra1 (a2.getD (((z.2 : Int)).toNat) nz) (s4.getD (((y.2 : Int)).toNat) sz) b1] 6 rfl; q_eff A rfl (aplE hX ((y.1 ++ [ra1 (a2.getD (((z.2 : Int)).toNat) nz) (s4.getD (((y.2 : Int)).toNat) sz) b1]).length) (fun zz => rwc ((y.1 ++ [ra1 (a2.getD (((z.2 : Int)).toNat) nz) (s4.getD (((y.2 : Int)).toNat) sz) b1]).getD zz Rw.z)) rfl rfl rfl rfl (Nat.le_refl _) (by have := hJ.2.len; have := hJ.1; omega) (by decide) List.length_append (fun k hk => by show rwc _ = rwc _; rw [getD_app_l hk]) (fun k hk => by show rwc _ = rwc _; rw [getD_app_r]) (fun z => ⟨_, rfl, rfl⟩) (fun k hk => ⟨_, rfl, okE_nil⟩)) fun A =>
 N9 8 A rfl (ok_d (by omega) <| okE_nil) fun A => ⟨(y.1 ++ [ra1 (a2.getD (((z.2 : Int)).toNat) nz) (s4.getD (((y.2 : Int)).toNat) sz) b1], y.2 + 1), _, (by have := h2; show _ - _ < _ - _; omega), ⟨by have := h2; show y.2 + 1 ≤ 4; omega, hJ.2.nx (by omega) (by omega) (RowsIn.ok _ _ _ _ hR A.mix fun b hb => A.keys_own b ((keys_pick (H := [some (.lst 2 2 (fun zz => nfc (a2.getD zz nz))), some (.lst 3 4 (fun zz => sfc (s4.getD zz sz))), none, some (.blk [.str ((a2.getD (((z.2 : Int)).toNat) nz).1), .int .i64 ((a2.getD (((z.2 : Int)).toNat) nz).2)]), some (.blk [.str ((s4.getD (((y.2 : Int)).toNat) sz).1), .bool ((s4.getD (((y.2 : Int)).toNat) sz).2.1), .bool ((s4.getD (((y.2 : Int)).toNat) sz).2.2)]), some (.blk [.int .i64 6, .z9, .z9, .z9, .z9, .z9, .z9, .z9, .z9, .int .i64 ((a2.getD (((z.2 : Int)).toNat) nz).2), .bool ((s4.getD (((y.2 : Int)).toNat) sz).2.1), .bool false, .bool ((s4.getD (((y.2 : Int)).toNat) sz).2.2), .z9, .z9, .z9, .bool false]), some (.lst 20 ([ra1 (a2.getD (((z.2 : Int)).toNat) nz) (s4.getD (((y.2 : Int)).toNat) sz) b1].length) (fun zz => rwc ([ra1 (a2.getD (((z.2 : Int)).toNat) nz) (s4.getD (((y.2 : Int)).toNat) sz) b1].getD zz Rw.z))), some (.row 164 20 ((y.1 ++ [ra1 (a2.getD (((z.2 : Int)).toNat) nz) (s4.getD (((y.2 : Int)).toNat) sz) b1]).length) 0 (fun zz => rwc ((y.1 ++ [ra1 (a2.getD (((z.2 : Int)).toNat) nz) (s4.getD (((y.2 : Int)).toNat) sz) b1]).getD zz Rw.z)))]) (m := [0, 1, 7, 3]) A.mem.len rfl rfl) b hb)) (hA.go A.mix fun b hb => A.keys_own b ((keys_pick (H := [some (.lst 2 2 (fun zz => nfc (a2.getD zz nz))), some (.lst 3 4 (fun zz => sfc (s4.getD zz sz))), none, some (.blk [.str ((a2.getD (((z.2 : Int)).toNat) nz).1), .int .i64 ((a2.getD (((z.2 : Int)).toNat) nz).2)]), some (.blk [.str ((s4.getD (((y.2 : Int)).toNat) sz).1), .bool ((s4.getD (((y.2 : Int)).toNat) sz).2.1), .bool ((s4.getD (((y.2 : Int)).toNat) sz).2.2)]), some (.blk [.int .i64 6, .z9, .z9, .z9, .z9, .z9, .z9, .z9, .z9, .int .i64 ((a2.getD (((z.2 : Int)).toNat) nz).2), .bool ((s4.getD (((y.2 : Int)).toNat) sz).2.1), .bool false, .bool ((s4.getD (((y.2 : Int)).toNat) sz).2.2), .z9, .z9, .z9, .bool false]), some (.lst 20 ([ra1 (a2.getD (((z.2 : Int)).toNat) nz) (s4.getD (((y.2 : Int)).toNat) sz) b1].length) (fun zz => rwc ([ra1 (a2.getD (((z.2 : Int)).toNat) nz) (s4.getD (((y.2 : Int)).toNat) sz) b1].getD zz Rw.z))), some (.row 164 20 ((y.1 ++ [ra1 (a2.getD (((z.2 : Int)).toNat) nz) (s4.getD (((y.2 : Int)).toNat) sz) b1]).length) 0 (fun zz => rwc ((y.1 ++ [ra1 (a2.getD (((z.2 : Int)).toNat) nz) (s4.getD (((y.2 : Int)).toNat) sz) b1]).getD zz Rw.z)))]) (m := [0, 1, 7, 3]) A.mem.len rfl rfl) b hb))⟩, ((B.trans A).cut [0, 2, 3, 5, 17, 18, 19, 23, 24, 25] rfl).mv 0 [0, 1, 7, 3] rfl rfl rfl rfl (by simp only [List.length_nil] at h0; omega)⟩)
     (fun h2 A => N9 8 A rfl (ok_d (by omega) <| okE_nil) fun A => ⟨(y.1, z.2 + 1), _, (by have := h1; show _ - _ < _ - _; omega), ⟨by have := h1; show z.2 + 1 ≤ 2; omega, ⟨(by have q := hJ.2.tm; have q1 := hJ.1; rw [show 4 * z.2 + y.2 = 4 * (z.2 + 1) by omega] at q; exact q), RowsIn.ok _ _ _ _ hJ.2.rw A.mix fun b hb => A.keys_own b ((keys_pick (H := [some (.lst 2 2 (fun zz => nfc (a2.getD zz nz))), some (.lst 3 4 (fun zz => sfc (s4.getD zz sz))), some (.row 164 20 y.1.length 0 (fun zz => rwc (y.1.getD zz Rw.z))), some (.blk [.str ((a2.getD (((z.2 : Int)).toNat) nz).1), .int .i64 ((a2.getD (((z.2 : Int)).toNat) nz).2)])]) (m := [0, 1, 2]) A.mem.len rfl rfl) b hb)⟩⟩, ((B.trans A).cut [0, 2, 3, 17, 18, 19] rfl).mv 0 [0, 1, 2] rfl rfl rfl rfl (by simp only [List.length_nil] at h0; omega)⟩))
   (fun h1 A => N9 10 A rfl rfl fun A => (have e5 : z.2 = 2 := (by have := hJ.1; omega); have e : z.1.length = 8 := (by have := hJ.2.len; omega); match A.giveRow 2 0 (by omega) rfl rfl rfl with | ⟨b, cp, A2, hG, ho, hk⟩ => RETR (J := fun x w w' => ∃ (L : List Rw) (b cp : Nat), x = .sla (some ⟨b, 0, none⟩) 8 cp ∧ (L.map tm = ratom ∧ RowsIn w.heap.size L w' [b]) ∧ w.heap.size ≤ b ∧ Given 164 20 8 (fun zz => rwc (L.getD zz Rw.z)) b cp w') hX (B.trans A2) (fun i e he => nil_no he) rfl rfl rfl rfl ⟨z.1, b, cp, (by show SV.sla _ z.1.length cp = _; rw [e]), ⟨(by have h2 := hJ.2.tm; rw [e5] at h2; exact h2), (RowsIn.ok _ _ _ _ hJ.2.rw A.mix fun b2 hb => by have : b2 = b := (by simpa using hb); rw [this]; exact ho)⟩, lo_of B (fun i e he => nil_no he) ho, (by rw [← e]; exact hG)⟩))
section
variable {P : Program} {n : Nat} {ks : List Nat} {G0 : Gr} {w0 : World} {T : List (Nat × SV)} {H : Hp} {G : Gr} {a : Act} {w w' : World} {Q : Exit → Act → World → Prop} {K : List Fr} {ops : Array Oper} {o : Oper} {rest : List Oper} {c : Code}
theorem RND {q : Nat} (h : Goal P Q (.lp (Code.rounds P c (wpK P Q K) q) :: K) (.code c) a w) : Code.rounds P c (wpK P Q K) (q + 1) a w := h
theorem UNR (q : Nat) (h : Code.rounds P c (wpK P Q K) q a w) : Goal P Q K (.code (.loop c)) a w := wp_loop_rounds q h
theorem CALLROWA {β : Type} {e s m t f : Nat} {az : List SV} {F : β → Nat → List SV} {R : β → Nat → World → World → Prop} (hf : FnR P f az [] (fun x w w' => ∃ (L : β) (b cp : Nat), x = .sla (some ⟨b, 0, none⟩) m cp ∧ R L b w w' ∧ w.heap.size ≤ b ∧ Given e s m (F L) b cp w')) (A : Sy n T H ks G0 w0 G a w) (hd : o.dst = some t) (h1 : callS n ops T o = some (f, az)) (h2 : renL [] az = some az)
  (k : ∀ L b cp a' w' G', R L b w w' → w.heap.size ≤ b → (∀ k, (keys (H ++ [some (.row e s m 0 (F L))]) G').contains k = true → k < w.heap.size ∨ k = b) → Sy n ((t, .sl H.length m 0) :: extS T o.dst (.sla (some ⟨b, 0, none⟩) m cp)) (H ++ [some (.row e s m 0 (F L))]) ks G0 w0 G' a' w' → Goal P Q K (.ops ops rest) a' w') : Goal P Q K (.ops ops (o :: rest)) a w := by
 refine CALLR [] hf A h1 h2 rfl rfl rfl fun x a' w' hJ hk A' => ?_
 obtain ⟨L, b, cp, rfl, hR, hlo, hg⟩ := hJ
 have hl : look (extS T o.dst (.sla (some ⟨b, 0, none⟩) m cp)) t = some (.sla (some ⟨b, 0, none⟩) m cp) := by rw [hd]; simp [extS, look, Nat.beq_refl]
 have A2 := A'.takeRow t hg (fun i e L q1 q2 q3 => by
  have := A.mem.ent i e q1
  rw [q2] at this
  have := EntOK.lt this q3
  omega) (Nat.le_trans A.mix.size hlo) hl
 refine k L b cp a' w' _ hR hlo (fun k hk' => ?_) A2
 obtain ⟨i, e', M, q1, q2, q3, q4⟩ := mem_keys.1 hk'
 have hlen := A.mem.len
 by_cases hi : i < H.length
 ·rw [List.getElem?_append_left hi] at q1
  rw [List.getElem?_append_left (by omega)] at q3
  exact .inl (hk k (mem_keys.2 ⟨i, e', M, q1, q2, q3, q4⟩))
 ·right
  have hi2 : i = G.length := by
   have := (List.getElem?_eq_some_iff.1 q3).1
   simp at this
   omega
  subst hi2
  rw [List.getElem?_append_right (Nat.le_refl _)] at q3
  simp at q3
  rw [← q4, ← q3]
end
theorem ix_p {i o s m k : Nat} (j : Nat) {q : Nat} (hq : o + j * s + k = q) : ∀ G, den G (.ix (.ptr i o) s m (j : Int) k) = den G (.ptr i q) := fun G => by
 subst hq
 unfold den
 cases hG : G[i]? with
 | none => unfold den; rw [hG]
 | some p => cases p with
  | none => unfold den; rw [hG]
  | some L => unfold den; rw [hG]; simp [Nat.add_assoc]
theorem concat_ (L1 L2 L3 : List Rw) (c1 c2 c3 : Nat) (l1 : L1.length = 10) (l12 : (L1 ++ L2).length = 18) : Fn Tryz.prog 140 [.sl 0 3 3] [some (.blk [.sl 1 10 c1, .sl 2 8 c2, .sl 3 7 c3]), some (.lst 20 10 (fun zz => rwc (L1.getD zz Rw.z))), some (.lst 20 8 (fun zz => rwc (L2.getD zz Rw.z))), some (.lst 20 7 (fun zz => rwc (L3.getD zz Rw.z)))] (Rt (.sl 4 25 0) [some (.blk [.sl 1 10 c1, .sl 2 8 c2, .sl 3 7 c3]), some (.lst 20 10 (fun zz => rwc (L1.getD zz Rw.z))), some (.lst 20 8 (fun zz => rwc (L2.getD zz Rw.z))), some (.lst 20 7 (fun zz => rwc (L3.getD zz Rw.z))), some (.row 164 20 25 0 (fun zz => rwc (((L1 ++ L2) ++ L3).getD zz Rw.z)))]) :=
 enterM (n := 36) (by kernel_rfl) Tryz.func140 rfl rfl rfl fun G w a h0 A => N9 15 A rfl rfl fun A => have A := sy_sayD A 10 (.int .i64 3) rfl (fun _ => rfl); N9 1 A rfl rfl fun A => N9 3 A rfl rfl fun A => UNR 4 (RND (have A := A.cut [0, 2, 3, 9, 10, 11] rfl;
 N9 6 A rfl rfl fun A => forkD 12 A rfl
   (fun h1 A => N9 8 A rfl (ok_d (by omega) <| okE_nil) fun A => have A := sy_sayD A 13 (.ptr 0 0) rfl (ix_p 0 rfl); N9 7 A rfl rfl fun A => N9 2 A rfl rfl fun A => have A := sy_sayD A 17 (.int .i64 10) rfl (fun _ => rfl); N9 1 A rfl (ok_d (by omega) <| okE_nil) fun A => have A := sy_sayD A 18 (.int .i64 10) rfl (fun _ => rfl); N9 6 A rfl rfl fun A => N9 3 A rfl rfl fun A => forkD 20 A rfl
    (fun h2 A => absurd h2 (by decide))
    (fun h2 A => N9 6 A rfl (ok_d (by omega) <| okE_nil) fun A => have A := sy_sayD A 22 (.int .i64 1) rfl (fun _ => rfl); N9 1 A rfl rfl fun A => N9 1 A rfl rfl fun A => RND (have A := A.cut [0, 2, 3, 9, 10, 11] rfl;
 N9 6 A rfl rfl fun A => forkD 12 A rfl
     (fun h3 A => N9 8 A rfl (ok_d (by omega) <| okE_nil) fun A => have A := sy_sayD A 13 (.ptr 0 1) rfl (ix_p 1 rfl); N9 7 A rfl rfl fun A => N9 2 A rfl rfl fun A => have A := sy_sayD A 17 (.int .i64 8) rfl (fun _ => rfl); N9 1 A rfl (ok_d (by omega) <| okE_nil) fun A => have A := sy_sayD A 18 (.int .i64 18) rfl (fun _ => rfl); N9 6 A rfl rfl fun A => N9 3 A rfl rfl fun A => forkD 20 A rfl
      (fun h4 A => absurd h4 (by decide))
      (fun h4 A => N9 6 A rfl (ok_d (by omega) <| okE_nil) fun A => have A := sy_sayD A 22 (.int .i64 2) rfl (fun _ => rfl); N9 1 A rfl rfl fun A => N9 1 A rfl rfl fun A => RND (have A := A.cut [0, 2, 3, 9, 10, 11] rfl;
 N9 6 A rfl rfl fun A => forkD 12 A rfl
       (fun h5 A => N9 8 A rfl (ok_d (by omega) <| okE_nil) fun A => have A := sy_sayD A 13 (.ptr 0 2) rfl (ix_p 2 rfl); N9 7 A rfl rfl fun A => N9 2 A rfl rfl fun A => have A := sy_sayD A 17 (.int .i64 7) rfl (fun _ => rfl); N9 1 A rfl (ok_d (by omega) <| okE_nil) fun A => have A := sy_sayD A 18 (.int .i64 25) rfl (fun _ => rfl); N9 6 A rfl rfl fun A => N9 3 A rfl rfl fun A => forkD 20 A rfl
        (fun h6 A => absurd h6 (by decide))
        (fun h6 A => N9 6 A rfl (ok_d (by omega) <| okE_nil) fun A => have A := sy_sayD A 22 (.int .i64 3) rfl (fun _ => rfl); N9 1 A rfl rfl fun A => N9 1 A rfl rfl fun A => RND (have A := A.cut [0, 2, 3, 9, 10, 11] rfl;
 N9 6 A rfl rfl fun A => forkD 12 A rfl
         (fun h7 A => absurd h7 (by decide))
         (fun h7 A => N9 6 A rfl rfl fun A => CALLROWA (t := 24) (F := fun (L : List Rw) zz => rwc (L.getD zz Rw.z)) (R := fun L b w w' => L = []) (grow_ 25 (by decide) (by decide)) A rfl rfl rfl fun L b1 cp1 a1 w1 G1 hR hlo hk A =>
 N9 8 A rfl rfl fun A => have A := sy_sayD A 26 (.int .i64 3) rfl (fun _ => rfl); N9 1 A rfl rfl fun A => N9 3 A rfl rfl fun A => UNR 4 (RND (have A := A.cut [2, 6, 25, 26, 27] rfl;
 N9 6 A rfl rfl fun A => forkD 28 A rfl
           (fun h8 A => N9 8 A rfl (ok_d (by omega) <| okE_nil) fun A => have A := sy_sayD A 29 (.ptr 0 0) rfl (ix_p 0 rfl); N9 7 A rfl rfl fun A => q_eff A rfl (aplE hX 10 (fun zz => rwc (L1.getD zz Rw.z)) rfl rfl rfl rfl (Nat.le_refl _) (by decide) (show 10 ≤ 1000000 by decide) rfl (fun k hk => absurd hk (Nat.not_lt_zero k)) (fun k hk => by show rwc (L1.getD (0 + k) Rw.z) = rwc _; rw [Nat.zero_add]) (fun z => ⟨_, rfl, rfl⟩) (fun k hk => ⟨_, rfl, okE_nil⟩)) fun A =>
 N9 6 A rfl (ok_d (by omega) <| okE_nil) fun A => have A := sy_sayD A 34 (.int .i64 1) rfl (fun _ => rfl); N9 1 A rfl rfl fun A => N9 1 A rfl rfl fun A => RND (have A := A.cut [2, 6, 25, 26, 27] rfl;
 N9 6 A rfl rfl fun A => forkD 28 A rfl
            (fun h9 A => N9 8 A rfl (ok_d (by omega) <| okE_nil) fun A => have A := sy_sayD A 29 (.ptr 0 1) rfl (ix_p 1 rfl); N9 7 A rfl rfl fun A => q_eff A rfl (aplE hX 18 (fun zz => rwc ((L1 ++ L2).getD zz Rw.z)) rfl rfl rfl rfl (Nat.le_refl _) (by decide) (show 8 ≤ 1000000 by decide) rfl (fun k hk => by show rwc _ = rwc _; rw [getD_app_l (by rw [l1]; exact hk)]) (fun k hk => by show rwc ((L1 ++ L2).getD (10 + k) Rw.z) = rwc _; rw [show 10 + k = L1.length + k by rw [l1], getD_app_r]) (fun z => ⟨_, rfl, rfl⟩) (fun k hk => ⟨_, rfl, okE_nil⟩)) fun A =>
 N9 6 A rfl (ok_d (by omega) <| okE_nil) fun A => have A := sy_sayD A 34 (.int .i64 2) rfl (fun _ => rfl); N9 1 A rfl rfl fun A => N9 1 A rfl rfl fun A => RND (have A := A.cut [2, 6, 25, 26, 27] rfl;
 N9 6 A rfl rfl fun A => forkD 28 A rfl
             (fun h10 A => N9 8 A rfl (ok_d (by omega) <| okE_nil) fun A => have A := sy_sayD A 29 (.ptr 0 2) rfl (ix_p 2 rfl); N9 7 A rfl rfl fun A => q_eff A rfl (aplE hX 25 (fun zz => rwc (((L1 ++ L2) ++ L3).getD zz Rw.z)) rfl rfl rfl rfl (Nat.le_refl _) (by decide) (show 7 ≤ 1000000 by decide) rfl (fun k hk => by show rwc _ = rwc _; rw [getD_app_l (by rw [l12]; exact hk)]) (fun k hk => by show rwc (((L1 ++ L2) ++ L3).getD (18 + k) Rw.z) = rwc _; rw [show 18 + k = (L1 ++ L2).length + k by rw [l12], getD_app_r]) (fun z => ⟨_, rfl, rfl⟩) (fun k hk => ⟨_, rfl, okE_nil⟩)) fun A =>
 N9 6 A rfl (ok_d (by omega) <| okE_nil) fun A => have A := sy_sayD A 34 (.int .i64 3) rfl (fun _ => rfl); N9 1 A rfl rfl fun A => N9 1 A rfl rfl fun A => RND (have A := A.cut [2, 6, 25, 26, 27] rfl;
 N9 6 A rfl rfl fun A => forkD 28 A rfl
              (fun h11 A => absurd h11 (by decide))
              (fun h11 A => N9 10 A rfl rfl fun A => RET hX [7] A ⟨rfl, rfl⟩ rfl rfl rfl rfl rfl rfl rfl rfl h0)))
             (fun h10 A => absurd (by decide) h10)))
            (fun h9 A => absurd (by decide) h9)))
           (fun h8 A => absurd (by decide) h8)))))))
       (fun h5 A => absurd (by decide) h5))))
     (fun h3 A => absurd (by decide) h3))))
   (fun h1 A => absurd (by decide) h1)))
abbrev rothL (b1 b2 b3 b4 b5 b6 b7 b8 : Nat) : List (Nat × List SV) := [(b8, [.str [108, 105], .str [], .int .i64 1, .z9, .z9, .z9, .z9, .z9, .z9, .z9, .z9, .z9, .ff, .ff, .ff, .z9, .z9, .z9, .ff, .sla (some ⟨b1, 0, none⟩) 2 2, .str [109, 118], .str [], .int .i64 2, .z9, .z9, .z9, .z9, .z9, .z9, .z9, .z9, .z9, .ff, .ff, .ff, .z9, .z9, .z9, .ff, .sla (some ⟨b2, 0, none⟩) 2 2, .str [108, 42], .str [], .int .i64 4, .z9, .z9, .z9, .z9, .z9, .z9, .z9, .z9, .z9, .ff, .ff, .ff, .z9, .z9, .z9, .ff, .sla (some ⟨b3, 0, none⟩) 2 2, .str [115, 42], .str [], .int .i64 5, .z9, .z9, .z9, .z9, .z9, .z9, .z9, .z9, .z9, .ff, .ff, .ff, .z9, .z9, .z9, .ff, .sla (some ⟨b4, 0, none⟩) 2 2, .str [102, 101, 110, 99, 101], .str [], .int .i64 7, .z9, .z9, .z9, .z9, .z9, .z9, .z9, .z9, .z9, .ff, .ff, .ff, .z9, .z9, .z9, .ff, .sla (some ⟨b5, 0, none⟩) 2 2, .str [98, 101, 113, 122], .str [], .int .i64 9, .z9, .z9, .z9, .z9, .z9, .z9, .z9, .z9, .z9, .ff, .ff, .ff, .z9, .z9, .z9, .tt, .sla (some ⟨b6, 0, none⟩) 2 2, .str [98, 110, 101, 122], .str [], .int .i64 9, .z9, .z9, .z9, .z9, .z9, .z9, .z9, .z9, .z9, .ff, .ff, .ff, .z9, .z9, .z9, .ff, .sla (some ⟨b7, 0, none⟩) 2 2]), (b7, [.int .i64 2, .int .i64 7]), (b6, [.int .i64 2, .int .i64 7]), (b5, [.int .i64 8, .int .i64 9]), (b4, [.int .i64 2, .int .i64 6]), (b3, [.int .i64 1, .int .i64 6]), (b2, [.int .i64 1, .int .i64 2]), (b1, [.int .i64 1, .int .i64 5])]
theorem roth_ : FnR Tryz.prog 143 [] [] (fun x w w' => ∃ b1 b2 b3 b4 b5 b6 b7 b8 : Nat, x = .sla (some ⟨b8, 0, none⟩) 7 7 ∧ Acc w.heap.size (rothL b1 b2 b3 b4 b5 b6 b7 b8) w' []) :=
 enterR (n := 23) (by kernel_rfl) Tryz.func143 rfl rfl rfl fun G w a h0 A => have B := A; have hA : Acc w.heap.size [] w _ := Acc.nil; N9 8 A rfl rfl fun A => BSCA [.int .i64 1, .int .i64 5] (X := ⟨_, true⟩) hX B hA A rfl rfl rfl rfl fun b1 B hA A =>
 N9 2 A rfl rfl fun A => BSCA [.int .i64 1, .int .i64 2] (X := ⟨_, true⟩) hX B hA A rfl rfl rfl rfl fun b2 B hA A =>
 N9 2 A rfl rfl fun A => BSCA [.int .i64 1, .int .i64 6] (X := ⟨_, true⟩) hX B hA A rfl rfl rfl rfl fun b3 B hA A =>
 N9 2 A rfl rfl fun A => BSCA [.int .i64 2, .int .i64 6] (X := ⟨_, true⟩) hX B hA A rfl rfl rfl rfl fun b4 B hA A =>
 N9 2 A rfl rfl fun A => BSCA [.int .i64 8, .int .i64 9] (X := ⟨_, true⟩) hX B hA A rfl rfl rfl rfl fun b5 B hA A =>
 N9 2 A rfl rfl fun A => BSCA [.int .i64 2, .int .i64 7] (X := ⟨_, true⟩) hX B hA A rfl rfl rfl rfl fun b6 B hA A =>
 N9 2 A rfl rfl fun A => BSCA [.int .i64 2, .int .i64 7] (X := ⟨_, true⟩) hX B hA A rfl rfl rfl rfl fun b7 B hA A =>
 N9 1 A rfl rfl fun A => BSCA [.str [108, 105], .str [], .int .i64 1, .z9, .z9, .z9, .z9, .z9, .z9, .z9, .z9, .z9, .ff, .ff, .ff, .z9, .z9, .z9, .ff, .sla (some ⟨b1, 0, none⟩) 2 2, .str [109, 118], .str [], .int .i64 2, .z9, .z9, .z9, .z9, .z9, .z9, .z9, .z9, .z9, .ff, .ff, .ff, .z9, .z9, .z9, .ff, .sla (some ⟨b2, 0, none⟩) 2 2, .str [108, 42], .str [], .int .i64 4, .z9, .z9, .z9, .z9, .z9, .z9, .z9, .z9, .z9, .ff, .ff, .ff, .z9, .z9, .z9, .ff, .sla (some ⟨b3, 0, none⟩) 2 2, .str [115, 42], .str [], .int .i64 5, .z9, .z9, .z9, .z9, .z9, .z9, .z9, .z9, .z9, .ff, .ff, .ff, .z9, .z9, .z9, .ff, .sla (some ⟨b4, 0, none⟩) 2 2, .str [102, 101, 110, 99, 101], .str [], .int .i64 7, .z9, .z9, .z9, .z9, .z9, .z9, .z9, .z9, .z9, .ff, .ff, .ff, .z9, .z9, .z9, .ff, .sla (some ⟨b5, 0, none⟩) 2 2, .str [98, 101, 113, 122], .str [], .int .i64 9, .z9, .z9, .z9, .z9, .z9, .z9, .z9, .z9, .z9, .ff, .ff, .ff, .z9, .z9, .z9, .tt, .sla (some ⟨b6, 0, none⟩) 2 2, .str [98, 110, 101, 122], .str [], .int .i64 9, .z9, .z9, .z9, .z9, .z9, .z9, .z9, .z9, .z9, .ff, .ff, .ff, .z9, .z9, .z9, .ff, .sla (some ⟨b7, 0, none⟩) 2 2] (X := ⟨_, true⟩) hX B hA A rfl rfl rfl rfl fun b8 B hA A =>
 N9 4 A rfl rfl fun A => RETR (J := fun x w w' => ∃ b1 b2 b3 b4 b5 b6 b7 b8 : Nat, x = .sla (some ⟨b8, 0, none⟩) 7 7 ∧ Acc w.heap.size (rothL b1 b2 b3 b4 b5 b6 b7 b8) w' []) hX (B.trans A) (fun i e he => nil_no he) rfl rfl rfl rfl ⟨b1, b2, b3, b4, b5, b6, b7, b8, rfl, (hA.now A).bare⟩
def rothR (b1 b2 b3 b4 b5 b6 b7 : Nat) : List Rw := [⟨[108, 105], [], ⟨1, 0, 0, 0, 0, 0, 0, 0, 0, 0, false, false, false, 0, 0, 0, false⟩, some ⟨b1, 0, none⟩, [1, 5], 2⟩, ⟨[109, 118], [], ⟨2, 0, 0, 0, 0, 0, 0, 0, 0, 0, false, false, false, 0, 0, 0, false⟩, some ⟨b2, 0, none⟩, [1, 2], 2⟩, ⟨[108, 42], [], ⟨4, 0, 0, 0, 0, 0, 0, 0, 0, 0, false, false, false, 0, 0, 0, false⟩, some ⟨b3, 0, none⟩, [1, 6], 2⟩, ⟨[115, 42], [], ⟨5, 0, 0, 0, 0, 0, 0, 0, 0, 0, false, false, false, 0, 0, 0, false⟩, some ⟨b4, 0, none⟩, [2, 6], 2⟩, ⟨[102, 101, 110, 99, 101], [], ⟨7, 0, 0, 0, 0, 0, 0, 0, 0, 0, false, false, false, 0, 0, 0, false⟩, some ⟨b5, 0, none⟩, [8, 9], 2⟩, ⟨[98, 101, 113, 122], [], ⟨9, 0, 0, 0, 0, 0, 0, 0, 0, 0, false, false, false, 0, 0, 0, true⟩, some ⟨b6, 0, none⟩, [2, 7], 2⟩, ⟨[98, 110, 101, 122], [], ⟨9, 0, 0, 0, 0, 0, 0, 0, 0, 0, false, false, false, 0, 0, 0, false⟩, some ⟨b7, 0, none⟩, [2, 7], 2⟩]
def rothT : List (List UInt8 × List UInt8 × In × List Int) := [([108, 105], [], ⟨1, 0, 0, 0, 0, 0, 0, 0, 0, 0, false, false, false, 0, 0, 0, false⟩, [1, 5]), ([109, 118], [], ⟨2, 0, 0, 0, 0, 0, 0, 0, 0, 0, false, false, false, 0, 0, 0, false⟩, [1, 2]), ([108, 42], [], ⟨4, 0, 0, 0, 0, 0, 0, 0, 0, 0, false, false, false, 0, 0, 0, false⟩, [1, 6]), ([115, 42], [], ⟨5, 0, 0, 0, 0, 0, 0, 0, 0, 0, false, false, false, 0, 0, 0, false⟩, [2, 6]), ([102, 101, 110, 99, 101], [], ⟨7, 0, 0, 0, 0, 0, 0, 0, 0, 0, false, false, false, 0, 0, 0, false⟩, [8, 9]), ([98, 101, 113, 122], [], ⟨9, 0, 0, 0, 0, 0, 0, 0, 0, 0, false, false, false, 0, 0, 0, true⟩, [2, 7]), ([98, 110, 101, 122], [], ⟨9, 0, 0, 0, 0, 0, 0, 0, 0, 0, false, false, false, 0, 0, 0, false⟩, [2, 7])]
def riscvT : List (List UInt8 × List UInt8 × In × List Int) := (rcomp ++ ratom) ++ rothT
theorem roth_rows {b1 b2 b3 b4 b5 b6 b7 b8 lo lo2 : Nat} {w : World} {ks : List Nat} (h : Acc lo (rothL b1 b2 b3 b4 b5 b6 b7 b8) w ks) (hlo : lo2 ≤ lo) : RowsIn lo2 (rothR b1 b2 b3 b4 b5 b6 b7) w ks := by
 intro r hr
 unfold rothR at hr
 simp only [List.mem_cons, List.mem_nil_iff, or_false] at hr
 rcases hr with rfl | rfl | rfl | rfl | rfl | rfl | rfl
 ·have q := lies_of (b := b1) (cs := []) [1, 5] h (by show _ ∈ rothL b1 b2 b3 b4 b5 b6 b7 b8; unfold rothL; simp); exact ⟨q.1, fun z hz => Nat.le_trans hlo (q.2 z hz)⟩
 ·have q := lies_of (b := b2) (cs := []) [1, 2] h (by show _ ∈ rothL b1 b2 b3 b4 b5 b6 b7 b8; unfold rothL; simp); exact ⟨q.1, fun z hz => Nat.le_trans hlo (q.2 z hz)⟩
 ·have q := lies_of (b := b3) (cs := []) [1, 6] h (by show _ ∈ rothL b1 b2 b3 b4 b5 b6 b7 b8; unfold rothL; simp); exact ⟨q.1, fun z hz => Nat.le_trans hlo (q.2 z hz)⟩
 ·have q := lies_of (b := b4) (cs := []) [2, 6] h (by show _ ∈ rothL b1 b2 b3 b4 b5 b6 b7 b8; unfold rothL; simp); exact ⟨q.1, fun z hz => Nat.le_trans hlo (q.2 z hz)⟩
 ·have q := lies_of (b := b5) (cs := []) [8, 9] h (by show _ ∈ rothL b1 b2 b3 b4 b5 b6 b7 b8; unfold rothL; simp); exact ⟨q.1, fun z hz => Nat.le_trans hlo (q.2 z hz)⟩
 ·have q := lies_of (b := b6) (cs := []) [2, 7] h (by show _ ∈ rothL b1 b2 b3 b4 b5 b6 b7 b8; unfold rothL; simp); exact ⟨q.1, fun z hz => Nat.le_trans hlo (q.2 z hz)⟩
 ·have q := lies_of (b := b7) (cs := []) [2, 7] h (by show _ ∈ rothL b1 b2 b3 b4 b5 b6 b7 b8; unfold rothL; simp); exact ⟨q.1, fun z hz => Nat.le_trans hlo (q.2 z hz)⟩
theorem roth_den (b1 b2 b3 b4 b5 b6 b7 b8 : Nat) : denL [] ((rothR b1 b2 b3 b4 b5 b6 b7).flatMap rwc) = denL [] [.str [108, 105], .str [], .int .i64 1, .z9, .z9, .z9, .z9, .z9, .z9, .z9, .z9, .z9, .ff, .ff, .ff, .z9, .z9, .z9, .ff, .sla (some ⟨b1, 0, none⟩) 2 2, .str [109, 118], .str [], .int .i64 2, .z9, .z9, .z9, .z9, .z9, .z9, .z9, .z9, .z9, .ff, .ff, .ff, .z9, .z9, .z9, .ff, .sla (some ⟨b2, 0, none⟩) 2 2, .str [108, 42], .str [], .int .i64 4, .z9, .z9, .z9, .z9, .z9, .z9, .z9, .z9, .z9, .ff, .ff, .ff, .z9, .z9, .z9, .ff, .sla (some ⟨b3, 0, none⟩) 2 2, .str [115, 42], .str [], .int .i64 5, .z9, .z9, .z9, .z9, .z9, .z9, .z9, .z9, .z9, .ff, .ff, .ff, .z9, .z9, .z9, .ff, .sla (some ⟨b4, 0, none⟩) 2 2, .str [102, 101, 110, 99, 101], .str [], .int .i64 7, .z9, .z9, .z9, .z9, .z9, .z9, .z9, .z9, .z9, .ff, .ff, .ff, .z9, .z9, .z9, .ff, .sla (some ⟨b5, 0, none⟩) 2 2, .str [98, 101, 113, 122], .str [], .int .i64 9, .z9, .z9, .z9, .z9, .z9, .z9, .z9, .z9, .z9, .ff, .ff, .ff, .z9, .z9, .z9, .tt, .sla (some ⟨b6, 0, none⟩) 2 2, .str [98, 110, 101, 122], .str [], .int .i64 9, .z9, .z9, .z9, .z9, .z9, .z9, .z9, .z9, .z9, .ff, .ff, .ff, .z9, .z9, .z9, .ff, .sla (some ⟨b7, 0, none⟩) 2 2] := by rfl
section
variable {n : Nat} {ks : List Nat} {G0 : Gr} {w0 : World} {T : List (Nat × SV)} {H : Hp} {G : Gr} {a : Act} {w : World} {Q : Exit → Act → World → Prop} {K : List Fr} {ops : Array Oper} {o : Oper} {rest : List Oper}
theorem CALLROTH (A : Sy n T H ks G0 w0 G a w) (h1 : callS n ops T o = some (143, []))
  (k : ∀ b1 b2 b3 b4 b5 b6 b7 b8 vs a' w', denL [] ((rothR b1 b2 b3 b4 b5 b6 b7).flatMap rwc) = some vs → Lies b8 0 vs w' (keys H G) → RowsIn w.heap.size (rothR b1 b2 b3 b4 b5 b6 b7) w' (keys H G) → Sy n (extS T o.dst (.sla (some ⟨b8, 0, none⟩) 7 7)) H ks G0 w0 G a' w' → Goal Tryz.prog Q K (.ops ops rest) a' w') : Goal Tryz.prog Q K (.ops ops (o :: rest)) a w := by
 refine CALLR [] roth_ A h1 rfl rfl rfl rfl fun x a' w' hJ hk A' => ?_
 obtain ⟨b1, b2, b3, b4, b5, b6, b7, b8, rfl, hA⟩ := hJ
 have hA := acc_keys hA hk
 obtain ⟨_, vs, q1, q2⟩ := hA _ List.mem_cons_self
 exact k b1 b2 b3 b4 b5 b6 b7 b8 vs a' w' ((roth_den b1 b2 b3 b4 b5 b6 b7 b8).trans q1) q2 (roth_rows hA (Nat.le_refl _)) A'
end
theorem rregs_   : Fn Tryz.prog 102 [] [] (Rt (.agg [.str [97, 48], .str [97, 49], .str [97, 50], .str [97, 51], .str [97, 52], .str [97, 53], .str [97, 54], .str [97, 55]]) []) :=
 enterM (n := 2) (by kernel_rfl) Tryz.func102 rfl rfl rfl fun G w a h0 A => N9 12 A rfl rfl fun A => R9 A rfl h0 rfl rfl rfl
theorem rlang_ : FnR Tryz.prog 101 [] [] (fun x w w' => ∃ (L : List Rw) (b cp : Nat), x = .agg [.str [97, 48], .str [97, 49], .str [97, 50], .str [97, 51], .str [97, 52], .str [97, 53], .str [97, 54], .str [97, 55], .str [98], .str [104], .str [119], .str [100], .str [], .str [114], .str [119], .str [114, 119], .sla (some ⟨b, 0, none⟩) 25 cp] ∧ (L.map tm = riscvT ∧ RowsIn w.heap.size L w' [b]) ∧ w.heap.size ≤ b ∧ Given 164 20 25 (fun zz => rwc (L.getD zz Rw.z)) b cp w') :=
 enterR (n := 10) (by kernel_rfl) Tryz.func101 rfl rfl rfl fun G w a h0 A => N9 7 A rfl rfl fun A => C9 [] (rregs_ ) A rfl fun A => N9 2 A rfl rfl fun A => have hz := A.mix.size; CALLROW (t := 4) (F := fun (L : List Rw) zz => rwc (L.getD zz Rw.z)) (R := fun L b w w' => L.map tm = rcomp ∧ RowsIn w.heap.size L w' [b]) rcomp_ A rfl rfl fun L1 b1 cp1 a1 w1 G1 hR1 hlo hk A => have l1 : L1.length = 10 := (by have q := congrArg List.length hR1.1; rw [List.length_map] at q; exact q); have hI := (rows_keys hR1.2 hk).mono hz; have B := A; have A := B.base;
 have hz := Nat.le_trans B.mix.size A.mix.size; CALLROW (t := 5) (F := fun (L : List Rw) zz => rwc (L.getD zz Rw.z)) (R := fun L b w w' => L.map tm = ratom ∧ RowsIn w.heap.size L w' [b]) ratom_ A rfl rfl fun L2 b2 cp2 a2_ w2 G2 hR2 hlo hk A => have l2 : L2.length = 8 := (by have q := congrArg List.length hR2.1; rw [List.length_map] at q; exact q); have hI2 := (rows_keys hR2.2 hk).mono hz; have hI := (RowsIn.ok _ _ _ _ hI A.mix A.keys_own).app hI2; have l12 : (L1 ++ L2).length = 18 := (by rw [List.length_append, l1, l2]); have B := B.trans A; have A := A.base;
 have hz := Nat.le_trans B.mix.size A.mix.size; CALLROTH A rfl fun c1 c2 c3 c4 c5 c6 c7 c8 vs a3 w3 hv hL hO A => have hI := (RowsIn.ok _ _ _ _ hI A.mix A.keys_own).app (hO.mono hz); have B := B.trans A; have A := A.base; have A := A.adoptL Rw.z rwc 20 tyR.1 tyR.2.1 tyR.2.2 (rothR c1 c2 c3 c4 c5 c6 c7) hL hv 6 rfl;
 N9 1 A rfl rfl fun A => have A := A.freeze 1 rfl; have A := A.freeze 2 rfl; C9 [4, 1, 2, 3] (concat_ L1 L2 (rothR c1 c2 c3 c4 c5 c6 c7) 0 0 7 l1 l12) A rfl fun A => match A.giveRow 5 8 (by decide) rfl rfl rfl with | ⟨b, cp, A2, hG, ho, hkb⟩ => (have h1 := RowsIn.ok _ _ _ _ hI A2.mix A2.keys_own; have h2 := RowsIn.ok _ _ _ [b] hI A2.mix (fun b2 hb => by have : b2 = b := (by simpa using hb); rw [this]; exact ho); have hbl := lo_of B (fun i e he => nil_no he) ho; have B := B.trans A2; have A := A2.base;
 N9 5 A rfl rfl fun A => RETR (J := fun x w w' => ∃ (L : List Rw) (b cp : Nat), x = .agg [.str [97, 48], .str [97, 49], .str [97, 50], .str [97, 51], .str [97, 52], .str [97, 53], .str [97, 54], .str [97, 55], .str [98], .str [104], .str [119], .str [100], .str [], .str [114], .str [119], .str [114, 119], .sla (some ⟨b, 0, none⟩) 25 cp] ∧ (L.map tm = riscvT ∧ RowsIn w.heap.size L w' [b]) ∧ w.heap.size ≤ b ∧ Given 164 20 25 (fun zz => rwc (L.getD zz Rw.z)) b cp w') hX (B.trans A) (fun i e he => nil_no he) rfl rfl rfl rfl ⟨(L1 ++ L2) ++ (rothR c1 c2 c3 c4 c5 c6 c7), b, cp, rfl, ⟨by rw [List.map_append, List.map_append, hR1.1, hR2.1]; rfl, h1.one h2 A.mix⟩, hbl, hG.mix A.mix hkb⟩)
end Go.Proofs.YtjkppaijicjpoaaGreatDoor
namespace Go.Proofs.YtjkppaijicjpoaaGreatDoor
open Go.RowKit
set_option linter.unusedVariables false
set_option linter.unusedSimpArgs false
set_option linter.unusedSectionVars false
set_option maxRecDepth 100000
set_option maxHeartbeats 2000000
section
variable {g : Lg} {L : List Rw} {i : In} {lb : List UInt8} {r : Rw}
theorem sound_of (h : wrongI i = false) : sound0 i.op i.dst i.ra i.rb i.imm i.loc i.off i.ix i.sz i.fn i.acq i.weak i.rel i.pred i.succ i.to_ i.zero = true := by
 cases hs : sound0 i.op i.dst i.ra i.rb i.imm i.loc i.off i.ix i.sz i.fn i.acq i.weak i.rel i.pred i.succ i.to_ i.zero with
 | true => rfl
 | false =>
  exfalso
  unfold wrongI Right0 at h
  rw [hs, Bool.not_false, Bool.or_true, if_pos rfl] at h
  exact absurd h (by decide)
theorem acc_loc (h : isAccess0 i.op i.dst i.ra i.rb i.imm i.loc i.off i.ix i.sz i.fn i.acq i.weak i.rel i.pred i.succ i.to_ i.zero = true) : 0 ≤ i.loc ∧ i.loc < 3 := by
 unfold isAccess0 at h
 split at h
 ·split at h
  ·omega
  ·cases h
 ·cases h
theorem snd_loc (h : wrongI i = false) (ho : i.op = 4 ∨ i.op = 5 ∨ i.op = 6) : 0 ≤ i.loc ∧ i.loc < 3 := by
 have hs := sound_of h
 unfold sound0 at hs
 rw [if_neg (by omega), if_neg (by omega), if_neg (by omega)] at hs
 rcases ho with ho | ho | ho
 ·rw [if_pos ho] at hs
  split at hs
  ·rw [Bool.and_eq_true] at hs; exact acc_loc hs.1
  ·cases hs
 ·rw [if_neg (by omega), if_pos ho] at hs
  split at hs
  ·exact acc_loc hs
  ·cases hs
 ·rw [if_neg (by omega), if_neg (by omega), if_pos ho] at hs
  split at hs
  ·split at hs
   ·rw [Bool.and_eq_true] at hs; exact acc_loc hs.1
   ·cases hs
  ·cases hs
theorem snd_fen (h : wrongI i = false) (ho : i.op = 7) : (1 ≤ i.pred ∧ i.pred ≤ 3) ∧ (1 ≤ i.succ ∧ i.succ ≤ 3) := by
 have hs := sound_of h
 unfold sound0 at hs
 rw [if_neg (by omega), if_neg (by omega), if_neg (by omega), if_neg (by omega), if_neg (by omega), if_neg (by omega), if_pos ho] at hs
 split at hs
 ·next hp =>
  simp only [Bool.or_eq_true, beq_iff_eq] at hp hs
  omega
 ·cases hs
theorem wstep_op (i J : In) (p : Int) : (wStep i J p).op = J.op := by
 unfold wStep
 repeat' split
 all_goals rfl
theorem lay_op (r : Rw) (i : In) : (r.lay i).op = r.ins.op := by
 have : ∀ (l : List Int) (J : In), (l.foldl (wStep i) J).op = J.op := by
  intro l
  induction l with
  | nil => intro J; rfl
  | cons p l ih => intro J; rw [List.foldl_cons, ih, wstep_op]
 exact this r.ps (bare r.ins)
theorem row_op (h : rowQ L i = true) : i.op = (rowR L i).ins.op := by
 unfold rowQ at h
 unfold rowR
 cases hf : L.find? (rowP i) with
 | none => rw [hf] at h; cases h
 | some r =>
  have := List.find?_some hf
  unfold rowP at this
  rw [Bool.and_eq_true] at this
  have h2 := this.1
  unfold eqIn at h2
  rw [Bool.and_eq_true, beq_iff_eq, lay_op] at h2
  exact h2.1.symm
end
def prB (g : Lg) (T : List (List UInt8 × List UInt8 × In × List Int)) : Bool := T.all fun x =>
 decide (x.1.length ≤ 1000) && decide (Lib.countB (S x.1) (S [42]) ≤ 1000) && decide (x.2.2.2.length ≤ 4) && decide (x.2.1.length ≤ 1000) &&
 ((List.range 4).all fun k => decide ((Lib.replace x.1 [42] (g.let.getD k []) 1).length ≤ 1000)) &&
 (x.2.2.2.all fun p => (!(p == 6) || (x.2.2.1.op == 4 || (x.2.2.1.op == 5 || x.2.2.1.op == 6))) && (!(p == 8 || p == 9) || x.2.2.1.op == 7))
theorem lens_le {B : Nat} : ∀ (l : List (List UInt8)), (∀ x ∈ l, x.length ≤ B) → Lib.lens l ≤ l.length * B
 | [], _ => by simp [Lib.lens]
 | x :: l, h => by
  have h1 := lens_le l (fun y hy => h y (List.mem_cons_of_mem _ hy))
  have h2 := h x List.mem_cons_self
  have e : Lib.lens (x :: l) = x.length + Lib.lens l := by simp [Lib.lens]
  rw [e, List.length_cons, Nat.add_mul]; omega
theorem join_le {B : Nat} (l : List (List UInt8)) (h : ∀ x ∈ l, x.length ≤ B) : (Lib.join l [44]).length ≤ l.length * (B + 1) := by
 cases l with
 | nil => exact Nat.zero_le _
 | cons x l =>
  rw [Lib.join_length]
  have := lens_le (x :: l) h
  rw [Nat.mul_add, List.length_cons] at *
  simp only [List.length_cons, List.length_nil]
  omega
theorem x86_prB : prB x86G x86T = true := by decide +kernel
theorem get3_le {a b c : List UInt8} {B : Nat} (ha : a.length ≤ B) (hb : b.length ≤ B) (hc : c.length ≤ B) (k : Nat) : ([a, b, c].getD k []).length ≤ B := by
 by_cases h : k < 3
 ·have : k = 0 ∨ k = 1 ∨ k = 2 := by omega
  rcases this with rfl | rfl | rfl
  ·exact ha
  ·exact hb
  ·exact hc
 ·rw [List.getD_eq_getElem?_getD, List.getElem?_eq_none (by simpa using h)]; exact Nat.zero_le _
structure LgL (g : Lg) : Prop where
 lg : LgOK g
 lt : ∀ k, ([g.l0, g.l1, g.l2, g.l3].getD k []).length ≤ 1000
 f0 : g.f0.length ≤ 1000
 f1 : g.f1.length ≤ 1000
 f2 : g.f2.length ≤ 1000
structure InR (i : In) : Prop where
 im : -9223372036854775808 ≤ i.imm ∧ i.imm ≤ 9223372036854775807
 of_ : -9223372036854775808 ≤ i.off ∧ i.off ≤ 9223372036854775807
section
variable {g : Lg} {L : List Rw} {i : In} {lb : List UInt8} {r : Rw}
theorem mem_le (hg : LgL g) (hi : InR i) : (memT g i).length ≤ 1100 := by
 have q1 := hg.lg.rg i.ix
 have q2 := Lib.itoa_length_le i.off hi.of_.1 hi.of_.2
 have q3 := get3_le (a := [120]) (b := [121]) (c := [122]) (B := 1) (by decide) (by decide) (by decide) (i.loc).toNat
 unfold memT memB memA
 split <;> split <;> (simp only [List.length_append, List.length_cons, List.length_nil]; omega)
theorem opd_le (hg : LgL g) (hi : InR i) (hw : r.wd.length ≤ 1000) (p : Int) : (opdT g r p i lb).length ≤ 2000 + lb.length := by
 have q1 := hg.lg.rg (regP p i).1
 have q2 := Lib.itoa_length_le i.imm hi.im.1 hi.im.2
 have q3 := hg.lg.im
 have q4 := mem_le hg hi
 have q5 := get3_le hg.f0 hg.f1 hg.f2 (i.pred - 1).toNat
 have q6 := get3_le hg.f0 hg.f1 hg.f2 (i.succ - 1).toNat
 unfold opdT
 split
 ·omega
 split
 ·rw [List.length_append]; omega
 split
 ·omega
 split
 ·omega
 split
 ·omega
 split
 ·omega
 ·omega
theorem pr_ok {T : List (List UInt8 × List UInt8 × In × List Int)} (hm : L.map tm = T) (hg : LgL g) (hB : prB g T = true) (hn : T.length ≤ 1000) (hi : InR i) (hl : lb.length ≤ 100000) : PrOK g L i lb := by
 have hlen : L.length ≤ 1000 := by have := congrArg List.length hm; rw [List.length_map] at this; omega
 have htab : ∀ r ∈ L, r.nm.length ≤ 1000 ∧ Lib.countB (S r.nm) (S [42]) ≤ 1000 ∧ r.ps.length ≤ 4 ∧ r.wd.length ≤ 1000 ∧ (∀ k, k < 4 → (Lib.replace r.nm [42] (g.let.getD k []) 1).length ≤ 1000) ∧ ∀ p ∈ r.ps, (p = 6 → r.ins.op = 4 ∨ r.ins.op = 5 ∨ r.ins.op = 6) ∧ (p = 8 ∨ p = 9 → r.ins.op = 7) := fun r hr => by
  have := (List.all_eq_true.1 hB) _ (tm_mem hm hr)
  simp only [Bool.and_eq_true, decide_eq_true_eq] at this
  obtain ⟨⟨⟨⟨⟨h1, h2⟩, h3⟩, h4⟩, h5⟩, h6⟩ := this
  refine ⟨h1, h2, h3, h4, fun k hk => ?_, fun p hp => ?_⟩
  ·have := (List.all_eq_true.1 h5) k (List.mem_range.2 hk)
   exact of_decide_eq_true this
  ·have := (List.all_eq_true.1 h6) p hp
   simp only [Bool.and_eq_true, Bool.or_eq_true, Bool.not_eq_true', beq_iff_eq, beq_eq_false_iff_ne, Bool.or_eq_false_iff] at this
   obtain ⟨a1, a2⟩ := this
   refine ⟨fun e => ?_, fun e => ?_⟩
   ·rcases a1 with a1 | a1
    ·exact absurd e a1
    ·exact a1
   ·rcases a2 with a2 | a2
    ·rcases e with e | e
     ·exact absurd e a2.1
     ·exact absurd e a2.2
    ·exact a2
 have hz : ∀ k, (L.getD k Rw.z) ∈ L ∨ L.getD k Rw.z = Rw.z := fun k => by
  by_cases h : k < L.length
  ·left; rw [List.getD_eq_getElem?_getD, List.getElem?_eq_getElem h]; exact List.getElem_mem h
  ·right; rw [List.getD_eq_getElem?_getD, List.getElem?_eq_none (by omega)]; rfl
 have hr : rowR L i ∈ L ∨ rowR L i = Rw.z := by
  unfold rowR
  cases hf : L.find? (rowP i) with
  | none => exact .inr rfl
  | some r => exact .inl (List.mem_of_find?_eq_some hf)
 have hz0 : Rw.z.nm = [] ∧ Rw.z.ps = [] ∧ Rw.z.wd = [] := ⟨rfl, rfl, rfl⟩
 have hnl : (nameR g (rowR L i).nm i.sz).length ≤ 1000 := by
  unfold nameR
  split
  ·next hk =>
   rcases hr with hr | hr
   ·exact (htab _ hr).2.2.2.2.1 _ hk
   ·rw [hr, hz0.1]
    have : szK i.sz = 0 ∨ szK i.sz = 1 ∨ szK i.sz = 2 ∨ szK i.sz = 3 := by omega
    have e : ∀ y : List UInt8, (Lib.replace [] [42] y 1) = [] := fun y => by
     unfold Lib.replace
     split
     ·rfl
     ·have hc : Lib.index [] [42] = -1 := by decide
      cases Lib.replaceNum [] [42] 1 with
      | zero => rfl
      | succ k => unfold Lib.replaceK; rw [hc]; rfl
    rw [e]; exact Nat.zero_le _
  ·rcases hr with hr | hr
   ·exact (htab _ hr).1
   ·rw [hr, hz0.1]; exact Nat.zero_le _
 refine ⟨hg.lg, hg.lt, fun k => ?_, by omega, hi.im, ?_, fun hw hq k hk => ?_, by omega, ?_⟩
 ·rcases hz k with h | h
  ·have := (htab _ h).2.2.1; omega
  ·rw [h, hz0.2.1]; exact Nat.zero_le _
 ·rcases hr with hr | hr
  ·exact ⟨(htab _ hr).1, (htab _ hr).2.1⟩
  ·rw [hr, hz0.1]; exact ⟨Nat.zero_le _, by decide⟩
 ·have hmem := row_mem hq
  have hop := row_op hq
  have hp : (rowR L i).ps.getD k 0 ∈ (rowR L i).ps := by rw [List.getD_eq_getElem?_getD, List.getElem?_eq_getElem hk]; exact List.getElem_mem hk
  obtain ⟨h6, h89⟩ := (htab _ hmem).2.2.2.2.2 _ hp
  refine ⟨fun e => ⟨snd_loc hw (by rw [hop]; exact h6 e), hi.of_⟩, fun e => (snd_fen hw (by rw [hop]; exact h89 (.inl e))).1, fun e => (snd_fen hw (by rw [hop]; exact h89 (.inr e))).2⟩
 ·have hps : (rowR L i).ps.length ≤ 4 ∧ (rowR L i).wd.length ≤ 1000 := by
   rcases hr with hr | hr
   ·exact ⟨(htab _ hr).2.2.1, (htab _ hr).2.2.2.1⟩
   ·rw [hr]; exact ⟨Nat.zero_le _, Nat.zero_le _⟩
  have h1 := join_le (B := 2000 + lb.length) (opsT g (rowR L i) i lb) (fun x hx => by
   unfold opsT at hx
   obtain ⟨p, _, rfl⟩ := List.mem_map.1 hx
   exact opd_le hg hi hps.2 p)
  have h2 : (opsT g (rowR L i) i lb).length ≤ 4 := by unfold opsT; rw [List.length_map]; exact hps.1
  have h3 : (opsT g (rowR L i) i lb).length * (2000 + lb.length + 1) ≤ 4 * (2000 + lb.length + 1) := Nat.mul_le_mul_right _ h2
  omega
end
theorem x86_lg : LgL x86G := by
 refine ⟨⟨fun r => ?_, by decide⟩, fun k => ?_, by decide, by decide, by decide⟩
 ·unfold regnm0
  split
  ·exact Nat.zero_le _
  ·next h =>
   have : (r).toNat = 0 ∨ (r).toNat = 1 ∨ (r).toNat = 2 ∨ (r).toNat = 3 ∨ (r).toNat = 4 ∨ (r).toNat = 5 ∨ (r).toNat = 6 ∨ (r).toNat = 7 := by
    simp only [Bool.or_eq_true, decide_eq_true_eq] at h; omega
   rcases this with e | e | e | e | e | e | e | e <;> rw [e] <;> decide
 ·by_cases h : k < 4
  ·have : k = 0 ∨ k = 1 ∨ k = 2 ∨ k = 3 := by omega
   rcases this with rfl | rfl | rfl | rfl <;> decide
  ·rw [List.getD_eq_getElem?_getD, List.getElem?_eq_none (by simpa using h)]; decide
theorem x86_prok {L : List Rw} {i : In} {lb : List UInt8} (hi : InR i) (hl : lb.length ≤ 100000) (hm : L.map tm = x86T) : PrOK x86G L i lb := pr_ok hm x86_lg x86_prB (by decide +kernel) hi hl
end Go.Proofs.YtjkppaijicjpoaaGreatDoor
namespace Go.Proofs.YtjkppaijicjpoaaGreatDoor
open Go.RowKit
set_option linter.unusedVariables false
set_option linter.unusedSimpArgs false
set_option maxRecDepth 100000
set_option maxHeartbeats 2000000
set_option simprocs false
def riscvG : Lg := ⟨[97, 48], [97, 49], [97, 50], [97, 51], [97, 52], [97, 53], [97, 54], [97, 55], [98], [104], [119], [100], [], [114], [119], [114, 119]⟩
def riscvC : List Rw := riscvT.map rwOf
theorem riscv_pr {L : List Rw} {i : In} {lb : List UInt8} (h : L.map tm = riscvT) : prP riscvG L i lb = prP riscvG riscvC i lb := by
 have := cn_prP (g := riscvG) (L := L) (i := i) (lb := lb)
 rw [cn_tm h] at this
 exact this.symm
theorem riscv_lg : LgL riscvG := by
 refine ⟨⟨fun r => ?_, by decide⟩, fun k => ?_, by decide, by decide, by decide⟩
 ·unfold regnm0
  split
  ·exact Nat.zero_le _
  ·next h =>
   have : (r).toNat = 0 ∨ (r).toNat = 1 ∨ (r).toNat = 2 ∨ (r).toNat = 3 ∨ (r).toNat = 4 ∨ (r).toNat = 5 ∨ (r).toNat = 6 ∨ (r).toNat = 7 := by
    simp only [Bool.or_eq_true, decide_eq_true_eq] at h; omega
   rcases this with e | e | e | e | e | e | e | e <;> rw [e] <;> decide
 ·by_cases h : k < 4
  ·have : k = 0 ∨ k = 1 ∨ k = 2 ∨ k = 3 := by omega
   rcases this with rfl | rfl | rfl | rfl <;> decide
  ·rw [List.getD_eq_getElem?_getD, List.getElem?_eq_none (by simpa using h)]; decide
theorem riscv_prok {L : List Rw} {i : In} {lb : List UInt8} (hi : InR i) (hl : lb.length ≤ 100000) (hm : L.map tm = riscvT) : PrOK riscvG L i lb := pr_ok hm riscv_lg (by decide +kernel) (by decide +kernel) hi hl
theorem vprint_ (i : In) (lb : List UInt8) (os : List (Nat × Obj)) (hM : ∀ w ks, Gl os w ks → ∃ m, w.cell? ⟨1, 0, none⟩ = some (.int .i64 m)) (hT : ∀ w ks, Gl os w ks → Lib.TabIs Tryz.prog w "internal/strconv.uint64pow10" .u64 Lib.pow10Tab) (hE : ∀ w ks, Gl os w ks → ∃ ev, w.cell? ⟨4, 0, none⟩ = some ev ∧ (ev = .nilIface ∨ ∃ te pe, ev = .iface te pe)) (hp : ∀ L : List Rw, L.map tm = riscvT → PrOK riscvG L i lb) : FnI (Gl os) Tryz.prog 74 [.agg (inQ9 i), .str lb] [] (Rt (.tup [.str ((prP riscvG riscvC i lb).1), .int .i64 ((prP riscvG riscvC i lb).2)]) []) :=
 enterI (n := 12) (by kernel_rfl) Tryz.func74 rfl rfl rfl fun G w a h0 hI A => N9 8 A rfl rfl fun A => any_in 8 hmo rfl A fun A => any_at (rs := [0, 1, 2]) (by kernel_rfl) (by decide) (fc9 ⟨any_agg (t := 6) (l := [.str [97, 48], .str [97, 49], .str [97, 50], .str [97, 51], .str [97, 52], .str [97, 53], .str [97, 54], .str [97, 55], .str [98], .str [104], .str [119], .str [100], .str [], .str [114], .str [119], .str [114, 119]]) (F := fun (L : List Rw) zz => rwc (L.getD zz Rw.z)) (R := fun L b w w' => L.map tm = riscvT ∧ RowsIn w.heap.size L w' [b]) rfl rlang_ A rfl rfl fun L b cp a1 w1 G1 hR hlo hkk A => have hl20 : L.length = 25 := (by have q := congrArg List.length hR.1; rw [List.length_map] at q; exact q.trans (by decide +kernel)); have hRI := rows_keys hR.2 hkk; have B0 := A; have A := A.base; have A := A.rowAs 1 L.length (fun zz => rwc (L.getD zz Rw.z)) rfl hl20 (fun _ _ => rfl) (fun z => ⟨_, rfl, rfl⟩); have A := A.say 6 (.agg [.str [97, 48], .str [97, 49], .str [97, 50], .str [97, 51], .str [97, 52], .str [97, 53], .str [97, 54], .str [97, 55], .str [98], .str [104], .str [119], .str [100], .str [], .str [114], .str [119], .str [114, 119], .sl 1 L.length 0]) rfl (by rw [hl20] <;> rfl); have A := A.freeze 1 rfl; have hTb := RowsIn.ok.now A hRI; have B := B0.trans A; have A := A.base; have hI2 : PrI os L _ _ := ⟨fun r hr => (hTb r hr).1, Gl.ok.now B hI⟩; any_at (rs := [1, 2]) (by kernel_rfl) (by decide) (fc9 ⟨aV9 (.agg (inQ9 i)) rfl A rfl rfl fun A => any_at (rs := [2]) (by kernel_rfl) (by decide) (fc9 ⟨aV9 (.str lb) rfl A rfl rfl fun A => any_at (rs := [3]) (by kernel_rfl) (by decide) (fc9 ⟨any_eff (x := .tup [.str ((prP riscvG L i lb).1), .int .i64 ((prP riscvG L i lb).2)]) (H' := [some (.blk (inQ9 i)), some (lQ9 L)]) rfl A rfl (callIE [1] PrI.ok hI2 (lprint_ riscvG L 0 i lb os hM hT hE (hp L hR.1)) rfl rfl rfl rfl rfl rfl rfl) fun A => any_at (rs := [4, 5]) (by kernel_rfl) (by decide) (fc9 ⟨aV9 (.str ((prP riscvG L i lb).1)) rfl A rfl rfl fun A => any_at (rs := [5]) (by kernel_rfl) (by decide) (fc9 ⟨aV9 (.int .i64 ((prP riscvG L i lb).2)) rfl A rfl rfl fun A => any_at (rs := [6]) (by kernel_rfl) (by decide) (fc9 ⟨aV9 (.str ((prP riscvG L i lb).1)) rfl A rfl rfl fun A => any_at (rs := [7]) (by kernel_rfl) (by decide) (fc9 ⟨aV9 (.int .i64 ((prP riscvG L i lb).2)) rfl A rfl rfl fun A => any_end (by kernel_rfl) (N9 2 A rfl rfl fun A => R9 (B.trans A) rfl h0 rfl (by rw [← riscv_pr hR.1] <;> rfl) rfl),
         (fn9)⟩),
        (fn9)⟩),
       (fn9)⟩),
      (fc9 ⟨aV9 (.int .i64 ((prP riscvG L i lb).2)) rfl A rfl rfl fun A => any_at (rs := [4]) (by kernel_rfl) (by decide) (fc9 ⟨aV9 (.str ((prP riscvG L i lb).1)) rfl A rfl rfl fun A => any_at (rs := [6]) (by kernel_rfl) (by decide) (fc9 ⟨aV9 (.str ((prP riscvG L i lb).1)) rfl A rfl rfl fun A => any_at (rs := [7]) (by kernel_rfl) (by decide) (fc9 ⟨aV9 (.int .i64 ((prP riscvG L i lb).2)) rfl A rfl rfl fun A => any_end (by kernel_rfl) (N9 2 A rfl rfl fun A => R9 (B.trans A) rfl h0 rfl (by rw [← riscv_pr hR.1] <;> rfl) rfl),
         (fn9)⟩),
        (fn9)⟩),
       (fn9)⟩),
      (fn9)⟩)⟩),
     (fn9)⟩),
    (fn9)⟩),
   (fc9 ⟨aV9 (.str lb) rfl A rfl rfl fun A => any_at (rs := [1]) (by kernel_rfl) (by decide) (fc9 ⟨aV9 (.agg (inQ9 i)) rfl A rfl rfl fun A => any_at (rs := [3]) (by kernel_rfl) (by decide) (fc9 ⟨any_eff (x := .tup [.str ((prP riscvG L i lb).1), .int .i64 ((prP riscvG L i lb).2)]) (H' := [some (.blk (inQ9 i)), some (lQ9 L)]) rfl A rfl (callIE [1] PrI.ok hI2 (lprint_ riscvG L 0 i lb os hM hT hE (hp L hR.1)) rfl rfl rfl rfl rfl rfl rfl) fun A => any_at (rs := [4, 5]) (by kernel_rfl) (by decide) (fc9 ⟨aV9 (.str ((prP riscvG L i lb).1)) rfl A rfl rfl fun A => any_at (rs := [5]) (by kernel_rfl) (by decide) (fc9 ⟨aV9 (.int .i64 ((prP riscvG L i lb).2)) rfl A rfl rfl fun A => any_at (rs := [6]) (by kernel_rfl) (by decide) (fc9 ⟨aV9 (.str ((prP riscvG L i lb).1)) rfl A rfl rfl fun A => any_at (rs := [7]) (by kernel_rfl) (by decide) (fc9 ⟨aV9 (.int .i64 ((prP riscvG L i lb).2)) rfl A rfl rfl fun A => any_end (by kernel_rfl) (N9 2 A rfl rfl fun A => R9 (B.trans A) rfl h0 rfl (by rw [← riscv_pr hR.1] <;> rfl) rfl),
         (fn9)⟩),
        (fn9)⟩),
       (fn9)⟩),
      (fc9 ⟨aV9 (.int .i64 ((prP riscvG L i lb).2)) rfl A rfl rfl fun A => any_at (rs := [4]) (by kernel_rfl) (by decide) (fc9 ⟨aV9 (.str ((prP riscvG L i lb).1)) rfl A rfl rfl fun A => any_at (rs := [6]) (by kernel_rfl) (by decide) (fc9 ⟨aV9 (.str ((prP riscvG L i lb).1)) rfl A rfl rfl fun A => any_at (rs := [7]) (by kernel_rfl) (by decide) (fc9 ⟨aV9 (.int .i64 ((prP riscvG L i lb).2)) rfl A rfl rfl fun A => any_end (by kernel_rfl) (N9 2 A rfl rfl fun A => R9 (B.trans A) rfl h0 rfl (by rw [← riscv_pr hR.1] <;> rfl) rfl),
         (fn9)⟩),
        (fn9)⟩),
       (fn9)⟩),
      (fn9)⟩)⟩),
     (fn9)⟩),
    (fn9)⟩),
   (fn9)⟩)⟩),
  (fc9 ⟨aV9 (.agg (inQ9 i)) rfl A rfl rfl fun A => any_at (rs := [0, 2]) (by kernel_rfl) (by decide) (fc9 ⟨any_agg (t := 6) (l := [.str [97, 48], .str [97, 49], .str [97, 50], .str [97, 51], .str [97, 52], .str [97, 53], .str [97, 54], .str [97, 55], .str [98], .str [104], .str [119], .str [100], .str [], .str [114], .str [119], .str [114, 119]]) (F := fun (L : List Rw) zz => rwc (L.getD zz Rw.z)) (R := fun L b w w' => L.map tm = riscvT ∧ RowsIn w.heap.size L w' [b]) rfl rlang_ A rfl rfl fun L b cp a1 w1 G1 hR hlo hkk A => have hl20 : L.length = 25 := (by have q := congrArg List.length hR.1; rw [List.length_map] at q; exact q.trans (by decide +kernel)); have hRI := rows_keys hR.2 hkk; have B0 := A; have A := A.base; have A := A.rowAs 1 L.length (fun zz => rwc (L.getD zz Rw.z)) rfl hl20 (fun _ _ => rfl) (fun z => ⟨_, rfl, rfl⟩); have A := A.say 6 (.agg [.str [97, 48], .str [97, 49], .str [97, 50], .str [97, 51], .str [97, 52], .str [97, 53], .str [97, 54], .str [97, 55], .str [98], .str [104], .str [119], .str [100], .str [], .str [114], .str [119], .str [114, 119], .sl 1 L.length 0]) rfl (by rw [hl20] <;> rfl); have A := A.freeze 1 rfl; have hTb := RowsIn.ok.now A hRI; have B := B0.trans A; have A := A.base; have hI2 : PrI os L _ _ := ⟨fun r hr => (hTb r hr).1, Gl.ok.now B hI⟩; any_at (rs := [2]) (by kernel_rfl) (by decide) (fc9 ⟨aV9 (.str lb) rfl A rfl rfl fun A => any_at (rs := [3]) (by kernel_rfl) (by decide) (fc9 ⟨any_eff (x := .tup [.str ((prP riscvG L i lb).1), .int .i64 ((prP riscvG L i lb).2)]) (H' := [some (.blk (inQ9 i)), some (lQ9 L)]) rfl A rfl (callIE [1] PrI.ok hI2 (lprint_ riscvG L 0 i lb os hM hT hE (hp L hR.1)) rfl rfl rfl rfl rfl rfl rfl) fun A => any_at (rs := [4, 5]) (by kernel_rfl) (by decide) (fc9 ⟨aV9 (.str ((prP riscvG L i lb).1)) rfl A rfl rfl fun A => any_at (rs := [5]) (by kernel_rfl) (by decide) (fc9 ⟨aV9 (.int .i64 ((prP riscvG L i lb).2)) rfl A rfl rfl fun A => any_at (rs := [6]) (by kernel_rfl) (by decide) (fc9 ⟨aV9 (.str ((prP riscvG L i lb).1)) rfl A rfl rfl fun A => any_at (rs := [7]) (by kernel_rfl) (by decide) (fc9 ⟨aV9 (.int .i64 ((prP riscvG L i lb).2)) rfl A rfl rfl fun A => any_end (by kernel_rfl) (N9 2 A rfl rfl fun A => R9 (B.trans A) rfl h0 rfl (by rw [← riscv_pr hR.1] <;> rfl) rfl),
         (fn9)⟩),
        (fn9)⟩),
       (fn9)⟩),
      (fc9 ⟨aV9 (.int .i64 ((prP riscvG L i lb).2)) rfl A rfl rfl fun A => any_at (rs := [4]) (by kernel_rfl) (by decide) (fc9 ⟨aV9 (.str ((prP riscvG L i lb).1)) rfl A rfl rfl fun A => any_at (rs := [6]) (by kernel_rfl) (by decide) (fc9 ⟨aV9 (.str ((prP riscvG L i lb).1)) rfl A rfl rfl fun A => any_at (rs := [7]) (by kernel_rfl) (by decide) (fc9 ⟨aV9 (.int .i64 ((prP riscvG L i lb).2)) rfl A rfl rfl fun A => any_end (by kernel_rfl) (N9 2 A rfl rfl fun A => R9 (B.trans A) rfl h0 rfl (by rw [← riscv_pr hR.1] <;> rfl) rfl),
         (fn9)⟩),
        (fn9)⟩),
       (fn9)⟩),
      (fn9)⟩)⟩),
     (fn9)⟩),
    (fn9)⟩),
   (fc9 ⟨aV9 (.str lb) rfl A rfl rfl fun A => any_at (rs := [0]) (by kernel_rfl) (by decide) (fc9 ⟨any_agg (t := 6) (l := [.str [97, 48], .str [97, 49], .str [97, 50], .str [97, 51], .str [97, 52], .str [97, 53], .str [97, 54], .str [97, 55], .str [98], .str [104], .str [119], .str [100], .str [], .str [114], .str [119], .str [114, 119]]) (F := fun (L : List Rw) zz => rwc (L.getD zz Rw.z)) (R := fun L b w w' => L.map tm = riscvT ∧ RowsIn w.heap.size L w' [b]) rfl rlang_ A rfl rfl fun L b cp a1 w1 G1 hR hlo hkk A => have hl20 : L.length = 25 := (by have q := congrArg List.length hR.1; rw [List.length_map] at q; exact q.trans (by decide +kernel)); have hRI := rows_keys hR.2 hkk; have B0 := A; have A := A.base; have A := A.rowAs 1 L.length (fun zz => rwc (L.getD zz Rw.z)) rfl hl20 (fun _ _ => rfl) (fun z => ⟨_, rfl, rfl⟩); have A := A.say 6 (.agg [.str [97, 48], .str [97, 49], .str [97, 50], .str [97, 51], .str [97, 52], .str [97, 53], .str [97, 54], .str [97, 55], .str [98], .str [104], .str [119], .str [100], .str [], .str [114], .str [119], .str [114, 119], .sl 1 L.length 0]) rfl (by rw [hl20] <;> rfl); have A := A.freeze 1 rfl; have hTb := RowsIn.ok.now A hRI; have B := B0.trans A; have A := A.base; have hI2 : PrI os L _ _ := ⟨fun r hr => (hTb r hr).1, Gl.ok.now B hI⟩; any_at (rs := [3]) (by kernel_rfl) (by decide) (fc9 ⟨any_eff (x := .tup [.str ((prP riscvG L i lb).1), .int .i64 ((prP riscvG L i lb).2)]) (H' := [some (.blk (inQ9 i)), some (lQ9 L)]) rfl A rfl (callIE [1] PrI.ok hI2 (lprint_ riscvG L 0 i lb os hM hT hE (hp L hR.1)) rfl rfl rfl rfl rfl rfl rfl) fun A => any_at (rs := [4, 5]) (by kernel_rfl) (by decide) (fc9 ⟨aV9 (.str ((prP riscvG L i lb).1)) rfl A rfl rfl fun A => any_at (rs := [5]) (by kernel_rfl) (by decide) (fc9 ⟨aV9 (.int .i64 ((prP riscvG L i lb).2)) rfl A rfl rfl fun A => any_at (rs := [6]) (by kernel_rfl) (by decide) (fc9 ⟨aV9 (.str ((prP riscvG L i lb).1)) rfl A rfl rfl fun A => any_at (rs := [7]) (by kernel_rfl) (by decide) (fc9 ⟨aV9 (.int .i64 ((prP riscvG L i lb).2)) rfl A rfl rfl fun A => any_end (by kernel_rfl) (N9 2 A rfl rfl fun A => R9 (B.trans A) rfl h0 rfl (by rw [← riscv_pr hR.1] <;> rfl) rfl),
         (fn9)⟩),
        (fn9)⟩),
       (fn9)⟩),
      (fc9 ⟨aV9 (.int .i64 ((prP riscvG L i lb).2)) rfl A rfl rfl fun A => any_at (rs := [4]) (by kernel_rfl) (by decide) (fc9 ⟨aV9 (.str ((prP riscvG L i lb).1)) rfl A rfl rfl fun A => any_at (rs := [6]) (by kernel_rfl) (by decide) (fc9 ⟨aV9 (.str ((prP riscvG L i lb).1)) rfl A rfl rfl fun A => any_at (rs := [7]) (by kernel_rfl) (by decide) (fc9 ⟨aV9 (.int .i64 ((prP riscvG L i lb).2)) rfl A rfl rfl fun A => any_end (by kernel_rfl) (N9 2 A rfl rfl fun A => R9 (B.trans A) rfl h0 rfl (by rw [← riscv_pr hR.1] <;> rfl) rfl),
         (fn9)⟩),
        (fn9)⟩),
       (fn9)⟩),
      (fn9)⟩)⟩),
     (fn9)⟩),
    (fn9)⟩),
   (fn9)⟩)⟩),
  (fc9 ⟨aV9 (.str lb) rfl A rfl rfl fun A => any_at (rs := [0, 1]) (by kernel_rfl) (by decide) (fc9 ⟨any_agg (t := 6) (l := [.str [97, 48], .str [97, 49], .str [97, 50], .str [97, 51], .str [97, 52], .str [97, 53], .str [97, 54], .str [97, 55], .str [98], .str [104], .str [119], .str [100], .str [], .str [114], .str [119], .str [114, 119]]) (F := fun (L : List Rw) zz => rwc (L.getD zz Rw.z)) (R := fun L b w w' => L.map tm = riscvT ∧ RowsIn w.heap.size L w' [b]) rfl rlang_ A rfl rfl fun L b cp a1 w1 G1 hR hlo hkk A => have hl20 : L.length = 25 := (by have q := congrArg List.length hR.1; rw [List.length_map] at q; exact q.trans (by decide +kernel)); have hRI := rows_keys hR.2 hkk; have B0 := A; have A := A.base; have A := A.rowAs 1 L.length (fun zz => rwc (L.getD zz Rw.z)) rfl hl20 (fun _ _ => rfl) (fun z => ⟨_, rfl, rfl⟩); have A := A.say 6 (.agg [.str [97, 48], .str [97, 49], .str [97, 50], .str [97, 51], .str [97, 52], .str [97, 53], .str [97, 54], .str [97, 55], .str [98], .str [104], .str [119], .str [100], .str [], .str [114], .str [119], .str [114, 119], .sl 1 L.length 0]) rfl (by rw [hl20] <;> rfl); have A := A.freeze 1 rfl; have hTb := RowsIn.ok.now A hRI; have B := B0.trans A; have A := A.base; have hI2 : PrI os L _ _ := ⟨fun r hr => (hTb r hr).1, Gl.ok.now B hI⟩; any_at (rs := [1]) (by kernel_rfl) (by decide) (fc9 ⟨aV9 (.agg (inQ9 i)) rfl A rfl rfl fun A => any_at (rs := [3]) (by kernel_rfl) (by decide) (fc9 ⟨any_eff (x := .tup [.str ((prP riscvG L i lb).1), .int .i64 ((prP riscvG L i lb).2)]) (H' := [some (.blk (inQ9 i)), some (lQ9 L)]) rfl A rfl (callIE [1] PrI.ok hI2 (lprint_ riscvG L 0 i lb os hM hT hE (hp L hR.1)) rfl rfl rfl rfl rfl rfl rfl) fun A => any_at (rs := [4, 5]) (by kernel_rfl) (by decide) (fc9 ⟨aV9 (.str ((prP riscvG L i lb).1)) rfl A rfl rfl fun A => any_at (rs := [5]) (by kernel_rfl) (by decide) (fc9 ⟨aV9 (.int .i64 ((prP riscvG L i lb).2)) rfl A rfl rfl fun A => any_at (rs := [6]) (by kernel_rfl) (by decide) (fc9 ⟨aV9 (.str ((prP riscvG L i lb).1)) rfl A rfl rfl fun A => any_at (rs := [7]) (by kernel_rfl) (by decide) (fc9 ⟨aV9 (.int .i64 ((prP riscvG L i lb).2)) rfl A rfl rfl fun A => any_end (by kernel_rfl) (N9 2 A rfl rfl fun A => R9 (B.trans A) rfl h0 rfl (by rw [← riscv_pr hR.1] <;> rfl) rfl),
         (fn9)⟩),
        (fn9)⟩),
       (fn9)⟩),
      (fc9 ⟨aV9 (.int .i64 ((prP riscvG L i lb).2)) rfl A rfl rfl fun A => any_at (rs := [4]) (by kernel_rfl) (by decide) (fc9 ⟨aV9 (.str ((prP riscvG L i lb).1)) rfl A rfl rfl fun A => any_at (rs := [6]) (by kernel_rfl) (by decide) (fc9 ⟨aV9 (.str ((prP riscvG L i lb).1)) rfl A rfl rfl fun A => any_at (rs := [7]) (by kernel_rfl) (by decide) (fc9 ⟨aV9 (.int .i64 ((prP riscvG L i lb).2)) rfl A rfl rfl fun A => any_end (by kernel_rfl) (N9 2 A rfl rfl fun A => R9 (B.trans A) rfl h0 rfl (by rw [← riscv_pr hR.1] <;> rfl) rfl),
         (fn9)⟩),
        (fn9)⟩),
       (fn9)⟩),
      (fn9)⟩)⟩),
     (fn9)⟩),
    (fn9)⟩),
   (fc9 ⟨aV9 (.agg (inQ9 i)) rfl A rfl rfl fun A => any_at (rs := [0]) (by kernel_rfl) (by decide) (fc9 ⟨any_agg (t := 6) (l := [.str [97, 48], .str [97, 49], .str [97, 50], .str [97, 51], .str [97, 52], .str [97, 53], .str [97, 54], .str [97, 55], .str [98], .str [104], .str [119], .str [100], .str [], .str [114], .str [119], .str [114, 119]]) (F := fun (L : List Rw) zz => rwc (L.getD zz Rw.z)) (R := fun L b w w' => L.map tm = riscvT ∧ RowsIn w.heap.size L w' [b]) rfl rlang_ A rfl rfl fun L b cp a1 w1 G1 hR hlo hkk A => have hl20 : L.length = 25 := (by have q := congrArg List.length hR.1; rw [List.length_map] at q; exact q.trans (by decide +kernel)); have hRI := rows_keys hR.2 hkk; have B0 := A; have A := A.base; have A := A.rowAs 1 L.length (fun zz => rwc (L.getD zz Rw.z)) rfl hl20 (fun _ _ => rfl) (fun z => ⟨_, rfl, rfl⟩); have A := A.say 6 (.agg [.str [97, 48], .str [97, 49], .str [97, 50], .str [97, 51], .str [97, 52], .str [97, 53], .str [97, 54], .str [97, 55], .str [98], .str [104], .str [119], .str [100], .str [], .str [114], .str [119], .str [114, 119], .sl 1 L.length 0]) rfl (by rw [hl20] <;> rfl); have A := A.freeze 1 rfl; have hTb := RowsIn.ok.now A hRI; have B := B0.trans A; have A := A.base; have hI2 : PrI os L _ _ := ⟨fun r hr => (hTb r hr).1, Gl.ok.now B hI⟩; any_at (rs := [3]) (by kernel_rfl) (by decide) (fc9 ⟨any_eff (x := .tup [.str ((prP riscvG L i lb).1), .int .i64 ((prP riscvG L i lb).2)]) (H' := [some (.blk (inQ9 i)), some (lQ9 L)]) rfl A rfl (callIE [1] PrI.ok hI2 (lprint_ riscvG L 0 i lb os hM hT hE (hp L hR.1)) rfl rfl rfl rfl rfl rfl rfl) fun A => any_at (rs := [4, 5]) (by kernel_rfl) (by decide) (fc9 ⟨aV9 (.str ((prP riscvG L i lb).1)) rfl A rfl rfl fun A => any_at (rs := [5]) (by kernel_rfl) (by decide) (fc9 ⟨aV9 (.int .i64 ((prP riscvG L i lb).2)) rfl A rfl rfl fun A => any_at (rs := [6]) (by kernel_rfl) (by decide) (fc9 ⟨aV9 (.str ((prP riscvG L i lb).1)) rfl A rfl rfl fun A => any_at (rs := [7]) (by kernel_rfl) (by decide) (fc9 ⟨aV9 (.int .i64 ((prP riscvG L i lb).2)) rfl A rfl rfl fun A => any_end (by kernel_rfl) (N9 2 A rfl rfl fun A => R9 (B.trans A) rfl h0 rfl (by rw [← riscv_pr hR.1] <;> rfl) rfl),
         (fn9)⟩),
        (fn9)⟩),
       (fn9)⟩),
      (fc9 ⟨aV9 (.int .i64 ((prP riscvG L i lb).2)) rfl A rfl rfl fun A => any_at (rs := [4]) (by kernel_rfl) (by decide) (fc9 ⟨aV9 (.str ((prP riscvG L i lb).1)) rfl A rfl rfl fun A => any_at (rs := [6]) (by kernel_rfl) (by decide) (fc9 ⟨aV9 (.str ((prP riscvG L i lb).1)) rfl A rfl rfl fun A => any_at (rs := [7]) (by kernel_rfl) (by decide) (fc9 ⟨aV9 (.int .i64 ((prP riscvG L i lb).2)) rfl A rfl rfl fun A => any_end (by kernel_rfl) (N9 2 A rfl rfl fun A => R9 (B.trans A) rfl h0 rfl (by rw [← riscv_pr hR.1] <;> rfl) rfl),
         (fn9)⟩),
        (fn9)⟩),
       (fn9)⟩),
      (fn9)⟩)⟩),
     (fn9)⟩),
    (fn9)⟩),
   (fn9)⟩)⟩),
  (fn9)⟩)⟩)⟩)
end Go.Proofs.YtjkppaijicjpoaaGreatDoor
namespace Go.Proofs.YtjkppaijicjpoaaGreatDoor.Ar
open Go.RowKit
set_option linter.unusedVariables false
set_option linter.unusedSimpArgs false
set_option maxRecDepth 100000
set_option maxHeartbeats 2000000
set_option simprocs false
section
variable {P : Program} {n : Nat} {ks : List Nat} {G0 : Gr} {w0 : World} {T : List (Nat × SV)} {H : Hp} {G : Gr} {a : Act} {w w' : World} {Q : Exit → Act → World → Prop} {K : List Fr} {ops : Array Oper} {o : Oper} {rest : List Oper} {c : Code}
theorem RND {q : Nat} (h : Goal P Q (.lp (Code.rounds P c (wpK P Q K) q) :: K) (.code c) a w) : Code.rounds P c (wpK P Q K) (q + 1) a w := h
theorem UNR (q : Nat) (h : Code.rounds P c (wpK P Q K) q a w) : Goal P Q K (.code (.loop c)) a w := wp_loop_rounds q h
theorem CALLROWA {β : Type} {e s m t f : Nat} {az : List SV} {F : β → Nat → List SV} {R : β → Nat → World → World → Prop} (hf : FnR P f az [] (fun x w w' => ∃ (L : β) (b cp : Nat), x = .sla (some ⟨b, 0, none⟩) m cp ∧ R L b w w' ∧ w.heap.size ≤ b ∧ Given e s m (F L) b cp w')) (A : Sy n T H ks G0 w0 G a w) (hd : o.dst = some t) (h1 : callS n ops T o = some (f, az)) (h2 : renL [] az = some az)
  (k : ∀ L b cp a' w' G', R L b w w' → w.heap.size ≤ b → (∀ k, (keys (H ++ [some (.row e s m 0 (F L))]) G').contains k = true → k < w.heap.size ∨ k = b) → Sy n ((t, .sl H.length m 0) :: extS T o.dst (.sla (some ⟨b, 0, none⟩) m cp)) (H ++ [some (.row e s m 0 (F L))]) ks G0 w0 G' a' w' → Goal P Q K (.ops ops rest) a' w') : Goal P Q K (.ops ops (o :: rest)) a w := by
 refine CALLR [] hf A h1 h2 rfl rfl rfl fun x a' w' hJ hk A' => ?_
 obtain ⟨L, b, cp, rfl, hR, hlo, hg⟩ := hJ
 have hl : look (extS T o.dst (.sla (some ⟨b, 0, none⟩) m cp)) t = some (.sla (some ⟨b, 0, none⟩) m cp) := by rw [hd]; simp [extS, look, Nat.beq_refl]
 have A2 := A'.takeRow t hg (fun i e L q1 q2 q3 => by
  have := A.mem.ent i e q1
  rw [q2] at this
  have := EntOK.lt this q3
  omega) (Nat.le_trans A.mix.size hlo) hl
 refine k L b cp a' w' _ hR hlo (fun k hk' => ?_) A2
 obtain ⟨i, e', M, q1, q2, q3, q4⟩ := mem_keys.1 hk'
 have hlen := A.mem.len
 by_cases hi : i < H.length
 ·rw [List.getElem?_append_left hi] at q1
  rw [List.getElem?_append_left (by omega)] at q3
  exact .inl (hk k (mem_keys.2 ⟨i, e', M, q1, q2, q3, q4⟩))
 ·right
  have hi2 : i = G.length := by
   have := (List.getElem?_eq_some_iff.1 q3).1
   simp at this
   omega
  subst hi2
  rw [List.getElem?_append_right (Nat.le_refl _)] at q3
  simp at q3
  rw [← q4, ← q3]
end
theorem ix_p {i o s m k : Nat} (j : Nat) {q : Nat} (hq : o + j * s + k = q) : ∀ G, den G (.ix (.ptr i o) s m (j : Int) k) = den G (.ptr i q) := fun G => by
 subst hq
 unfold den
 cases hG : G[i]? with
 | none => unfold den; rw [hG]
 | some p => cases p with
  | none => unfold den; rw [hG]
  | some L => unfold den; rw [hG]; simp [Nat.add_assoc]
theorem concat5_ (L1 L2 L3 L4 L5 : List Rw) (c1 c2 c3 c4 c5 : Nat) (l1 : L1.length = 10) (l12 : (L1 ++ L2).length = 15) (l13 : ((L1 ++ L2) ++ L3).length = 23) (l14 : (((L1 ++ L2) ++ L3) ++ L4).length = 26) : Fn Tryz.prog 140 [.sl 0 5 5] [some (.blk [.sl 1 10 c1, .sl 2 5 c2, .sl 3 8 c3, .sl 4 3 c4, .sl 5 5 c5]), some (.lst 20 10 (fun zz => rwc (L1.getD zz Rw.z))), some (.lst 20 5 (fun zz => rwc (L2.getD zz Rw.z))), some (.lst 20 8 (fun zz => rwc (L3.getD zz Rw.z))), some (.lst 20 3 (fun zz => rwc (L4.getD zz Rw.z))), some (.lst 20 5 (fun zz => rwc (L5.getD zz Rw.z)))] (Rt (.sl 6 31 0) [some (.blk [.sl 1 10 c1, .sl 2 5 c2, .sl 3 8 c3, .sl 4 3 c4, .sl 5 5 c5]), some (.lst 20 10 (fun zz => rwc (L1.getD zz Rw.z))), some (.lst 20 5 (fun zz => rwc (L2.getD zz Rw.z))), some (.lst 20 8 (fun zz => rwc (L3.getD zz Rw.z))), some (.lst 20 3 (fun zz => rwc (L4.getD zz Rw.z))), some (.lst 20 5 (fun zz => rwc (L5.getD zz Rw.z))), some (.row 164 20 31 0 (fun zz => rwc (((((L1 ++ L2) ++ L3) ++ L4) ++ L5).getD zz Rw.z)))]) :=
 enterM (n := 36) (by kernel_rfl) Tryz.func140 rfl rfl rfl fun G w a h0 A => N9 15 A rfl rfl fun A => have A := sy_sayD A 10 (.int .i64 5) rfl (fun _ => rfl); N9 1 A rfl rfl fun A => N9 3 A rfl rfl fun A => UNR 6 (RND (have A := A.cut [0, 2, 3, 9, 10, 11] rfl;
 N9 6 A rfl rfl fun A => forkD 12 A rfl
   (fun h1 A => N9 8 A rfl (ok_d (by omega) <| okE_nil) fun A => have A := sy_sayD A 13 (.ptr 0 0) rfl (ix_p 0 rfl); N9 7 A rfl rfl fun A => N9 2 A rfl rfl fun A => have A := sy_sayD A 17 (.int .i64 10) rfl (fun _ => rfl); N9 1 A rfl (ok_d (by omega) <| okE_nil) fun A => have A := sy_sayD A 18 (.int .i64 10) rfl (fun _ => rfl); N9 6 A rfl rfl fun A => N9 3 A rfl rfl fun A => forkD 20 A rfl
    (fun h2 A => absurd h2 (by decide))
    (fun h2 A => N9 6 A rfl (ok_d (by omega) <| okE_nil) fun A => have A := sy_sayD A 22 (.int .i64 1) rfl (fun _ => rfl); N9 1 A rfl rfl fun A => N9 1 A rfl rfl fun A => RND (have A := A.cut [0, 2, 3, 9, 10, 11] rfl;
 N9 6 A rfl rfl fun A => forkD 12 A rfl
     (fun h3 A => N9 8 A rfl (ok_d (by omega) <| okE_nil) fun A => have A := sy_sayD A 13 (.ptr 0 1) rfl (ix_p 1 rfl); N9 7 A rfl rfl fun A => N9 2 A rfl rfl fun A => have A := sy_sayD A 17 (.int .i64 5) rfl (fun _ => rfl); N9 1 A rfl (ok_d (by omega) <| okE_nil) fun A => have A := sy_sayD A 18 (.int .i64 15) rfl (fun _ => rfl); N9 6 A rfl rfl fun A => N9 3 A rfl rfl fun A => forkD 20 A rfl
      (fun h4 A => absurd h4 (by decide))
      (fun h4 A => N9 6 A rfl (ok_d (by omega) <| okE_nil) fun A => have A := sy_sayD A 22 (.int .i64 2) rfl (fun _ => rfl); N9 1 A rfl rfl fun A => N9 1 A rfl rfl fun A => RND (have A := A.cut [0, 2, 3, 9, 10, 11] rfl;
 N9 6 A rfl rfl fun A => forkD 12 A rfl
       (fun h5 A => N9 8 A rfl (ok_d (by omega) <| okE_nil) fun A => have A := sy_sayD A 13 (.ptr 0 2) rfl (ix_p 2 rfl); N9 7 A rfl rfl fun A => N9 2 A rfl rfl fun A => have A := sy_sayD A 17 (.int .i64 8) rfl (fun _ => rfl); N9 1 A rfl (ok_d (by omega) <| okE_nil) fun A => have A := sy_sayD A 18 (.int .i64 23) rfl (fun _ => rfl); N9 6 A rfl rfl fun A => N9 3 A rfl rfl fun A => forkD 20 A rfl
        (fun h6 A => absurd h6 (by decide))
        (fun h6 A => N9 6 A rfl (ok_d (by omega) <| okE_nil) fun A => have A := sy_sayD A 22 (.int .i64 3) rfl (fun _ => rfl); N9 1 A rfl rfl fun A => N9 1 A rfl rfl fun A => RND (have A := A.cut [0, 2, 3, 9, 10, 11] rfl;
 N9 6 A rfl rfl fun A => forkD 12 A rfl
         (fun h7 A => N9 8 A rfl (ok_d (by omega) <| okE_nil) fun A => have A := sy_sayD A 13 (.ptr 0 3) rfl (ix_p 3 rfl); N9 7 A rfl rfl fun A => N9 2 A rfl rfl fun A => have A := sy_sayD A 17 (.int .i64 3) rfl (fun _ => rfl); N9 1 A rfl (ok_d (by omega) <| okE_nil) fun A => have A := sy_sayD A 18 (.int .i64 26) rfl (fun _ => rfl); N9 6 A rfl rfl fun A => N9 3 A rfl rfl fun A => forkD 20 A rfl
          (fun h8 A => absurd h8 (by decide))
          (fun h8 A => N9 6 A rfl (ok_d (by omega) <| okE_nil) fun A => have A := sy_sayD A 22 (.int .i64 4) rfl (fun _ => rfl); N9 1 A rfl rfl fun A => N9 1 A rfl rfl fun A => RND (have A := A.cut [0, 2, 3, 9, 10, 11] rfl;
 N9 6 A rfl rfl fun A => forkD 12 A rfl
           (fun h9 A => N9 8 A rfl (ok_d (by omega) <| okE_nil) fun A => have A := sy_sayD A 13 (.ptr 0 4) rfl (ix_p 4 rfl); N9 7 A rfl rfl fun A => N9 2 A rfl rfl fun A => have A := sy_sayD A 17 (.int .i64 5) rfl (fun _ => rfl); N9 1 A rfl (ok_d (by omega) <| okE_nil) fun A => have A := sy_sayD A 18 (.int .i64 31) rfl (fun _ => rfl); N9 6 A rfl rfl fun A => N9 3 A rfl rfl fun A => forkD 20 A rfl
            (fun h10 A => absurd h10 (by decide))
            (fun h10 A => N9 6 A rfl (ok_d (by omega) <| okE_nil) fun A => have A := sy_sayD A 22 (.int .i64 5) rfl (fun _ => rfl); N9 1 A rfl rfl fun A => N9 1 A rfl rfl fun A => RND (have A := A.cut [0, 2, 3, 9, 10, 11] rfl;
 N9 6 A rfl rfl fun A => forkD 12 A rfl
             (fun h11 A => absurd h11 (by decide))
             (fun h11 A => N9 6 A rfl rfl fun A => CALLROWA (t := 24) (F := fun (L : List Rw) zz => rwc (L.getD zz Rw.z)) (R := fun L b w w' => L = []) (grow_ 31 (by decide) (by decide)) A rfl rfl rfl fun L b1 cp1 a1 w1 G1 hR hlo hk A =>
 N9 8 A rfl rfl fun A => have A := sy_sayD A 26 (.int .i64 5) rfl (fun _ => rfl); N9 1 A rfl rfl fun A => N9 3 A rfl rfl fun A => UNR 6 (RND (have A := A.cut [2, 6, 25, 26, 27] rfl;
 N9 6 A rfl rfl fun A => forkD 28 A rfl
               (fun h12 A => N9 8 A rfl (ok_d (by omega) <| okE_nil) fun A => have A := sy_sayD A 29 (.ptr 0 0) rfl (ix_p 0 rfl); N9 7 A rfl rfl fun A => q_eff A rfl (aplE hX 10 (fun zz => rwc (L1.getD zz Rw.z)) rfl rfl rfl rfl (Nat.le_refl _) (by decide) (show 10 ≤ 1000000 by decide) rfl (fun k hk => absurd hk (Nat.not_lt_zero k)) (fun k hk => by show rwc (L1.getD (0 + k) Rw.z) = rwc _; rw [Nat.zero_add]) (fun z => ⟨_, rfl, rfl⟩) (fun k hk => ⟨_, rfl, okE_nil⟩)) fun A =>
 N9 6 A rfl (ok_d (by omega) <| okE_nil) fun A => have A := sy_sayD A 34 (.int .i64 1) rfl (fun _ => rfl); N9 1 A rfl rfl fun A => N9 1 A rfl rfl fun A => RND (have A := A.cut [2, 6, 25, 26, 27] rfl;
 N9 6 A rfl rfl fun A => forkD 28 A rfl
                (fun h13 A => N9 8 A rfl (ok_d (by omega) <| okE_nil) fun A => have A := sy_sayD A 29 (.ptr 0 1) rfl (ix_p 1 rfl); N9 7 A rfl rfl fun A => q_eff A rfl (aplE hX 15 (fun zz => rwc ((L1 ++ L2).getD zz Rw.z)) rfl rfl rfl rfl (Nat.le_refl _) (by decide) (show 5 ≤ 1000000 by decide) rfl (fun k hk => by show rwc _ = rwc _; rw [getD_app_l (by rw [l1]; exact hk)]) (fun k hk => by show rwc ((L1 ++ L2).getD (10 + k) Rw.z) = rwc _; rw [show 10 + k = L1.length + k by rw [l1], getD_app_r]) (fun z => ⟨_, rfl, rfl⟩) (fun k hk => ⟨_, rfl, okE_nil⟩)) fun A =>
 N9 6 A rfl (ok_d (by omega) <| okE_nil) fun A => have A := sy_sayD A 34 (.int .i64 2) rfl (fun _ => rfl); N9 1 A rfl rfl fun A => N9 1 A rfl rfl fun A => RND (have A := A.cut [2, 6, 25, 26, 27] rfl;
 N9 6 A rfl rfl fun A => forkD 28 A rfl
                 (fun h14 A => N9 8 A rfl (ok_d (by omega) <| okE_nil) fun A => have A := sy_sayD A 29 (.ptr 0 2) rfl (ix_p 2 rfl); N9 7 A rfl rfl fun A => q_eff A rfl (aplE hX 23 (fun zz => rwc (((L1 ++ L2) ++ L3).getD zz Rw.z)) rfl rfl rfl rfl (Nat.le_refl _) (by decide) (show 8 ≤ 1000000 by decide) rfl (fun k hk => by show rwc _ = rwc _; rw [getD_app_l (by rw [l12]; exact hk)]) (fun k hk => by show rwc (((L1 ++ L2) ++ L3).getD (15 + k) Rw.z) = rwc _; rw [show 15 + k = (L1 ++ L2).length + k by rw [l12], getD_app_r]) (fun z => ⟨_, rfl, rfl⟩) (fun k hk => ⟨_, rfl, okE_nil⟩)) fun A =>
 N9 6 A rfl (ok_d (by omega) <| okE_nil) fun A => have A := sy_sayD A 34 (.int .i64 3) rfl (fun _ => rfl); N9 1 A rfl rfl fun A => N9 1 A rfl rfl fun A => RND (have A := A.cut [2, 6, 25, 26, 27] rfl;
 N9 6 A rfl rfl fun A => forkD 28 A rfl
                  (fun h15 A => N9 8 A rfl (ok_d (by omega) <| okE_nil) fun A => have A := sy_sayD A 29 (.ptr 0 3) rfl (ix_p 3 rfl); N9 7 A rfl rfl fun A => q_eff A rfl (aplE hX 26 (fun zz => rwc ((((L1 ++ L2) ++ L3) ++ L4).getD zz Rw.z)) rfl rfl rfl rfl (Nat.le_refl _) (by decide) (show 3 ≤ 1000000 by decide) rfl (fun k hk => by show rwc _ = rwc _; rw [getD_app_l (by rw [l13]; exact hk)]) (fun k hk => by show rwc ((((L1 ++ L2) ++ L3) ++ L4).getD (23 + k) Rw.z) = rwc _; rw [show 23 + k = ((L1 ++ L2) ++ L3).length + k by rw [l13], getD_app_r]) (fun z => ⟨_, rfl, rfl⟩) (fun k hk => ⟨_, rfl, okE_nil⟩)) fun A =>
 N9 6 A rfl (ok_d (by omega) <| okE_nil) fun A => have A := sy_sayD A 34 (.int .i64 4) rfl (fun _ => rfl); N9 1 A rfl rfl fun A => N9 1 A rfl rfl fun A => RND (have A := A.cut [2, 6, 25, 26, 27] rfl;
 N9 6 A rfl rfl fun A => forkD 28 A rfl
                   (fun h16 A => N9 8 A rfl (ok_d (by omega) <| okE_nil) fun A => have A := sy_sayD A 29 (.ptr 0 4) rfl (ix_p 4 rfl); N9 7 A rfl rfl fun A => q_eff A rfl (aplE hX 31 (fun zz => rwc (((((L1 ++ L2) ++ L3) ++ L4) ++ L5).getD zz Rw.z)) rfl rfl rfl rfl (Nat.le_refl _) (by decide) (show 5 ≤ 1000000 by decide) rfl (fun k hk => by show rwc _ = rwc _; rw [getD_app_l (by rw [l14]; exact hk)]) (fun k hk => by show rwc (((((L1 ++ L2) ++ L3) ++ L4) ++ L5).getD (26 + k) Rw.z) = rwc _; rw [show 26 + k = (((L1 ++ L2) ++ L3) ++ L4).length + k by rw [l14], getD_app_r]) (fun z => ⟨_, rfl, rfl⟩) (fun k hk => ⟨_, rfl, okE_nil⟩)) fun A =>
 N9 6 A rfl (ok_d (by omega) <| okE_nil) fun A => have A := sy_sayD A 34 (.int .i64 5) rfl (fun _ => rfl); N9 1 A rfl rfl fun A => N9 1 A rfl rfl fun A => RND (have A := A.cut [2, 6, 25, 26, 27] rfl;
 N9 6 A rfl rfl fun A => forkD 28 A rfl
                    (fun h17 A => absurd h17 (by decide))
                    (fun h17 A => N9 10 A rfl rfl fun A => RET hX [11] A ⟨rfl, rfl⟩ rfl rfl rfl rfl rfl rfl rfl rfl h0)))
                   (fun h16 A => absurd (by decide) h16)))
                  (fun h15 A => absurd (by decide) h15)))
                 (fun h14 A => absurd (by decide) h14)))
                (fun h13 A => absurd (by decide) h13)))
               (fun h12 A => absurd (by decide) h12)))))))
           (fun h9 A => absurd (by decide) h9))))
         (fun h7 A => absurd (by decide) h7))))
       (fun h5 A => absurd (by decide) h5))))
     (fun h3 A => absurd (by decide) h3))))
   (fun h1 A => absurd (by decide) h1)))
end Go.Proofs.YtjkppaijicjpoaaGreatDoor.Ar
namespace Go.Proofs.YtjkppaijicjpoaaGreatDoor
open Go.RowKit
set_option linter.unusedVariables false
set_option linter.unusedSimpArgs false
set_option maxRecDepth 100000
set_option maxHeartbeats 2000000
set_option simprocs false
theorem aregs_   : Fn Tryz.prog 104 [] [] (Rt (.agg [.str [88, 48], .str [88, 49], .str [88, 50], .str [88, 51], .str [88, 52], .str [88, 53], .str [88, 54], .str [88, 55]]) []) :=
 enterM (n := 2) (by kernel_rfl) Tryz.func104 rfl rfl rfl fun G w a h0 A => N9 12 A rfl rfl fun A => R9 A rfl h0 rfl rfl rfl
end Go.Proofs.YtjkppaijicjpoaaGreatDoor
namespace Go.Proofs.YtjkppaijicjpoaaGreatDoor.Ar
open Go.RowKit
set_option linter.unusedVariables false
set_option linter.unusedSimpArgs false
set_option maxRecDepth 100000
set_option maxHeartbeats 2000000
set_option simprocs false
def c5 : List (List UInt8 × Int) := [([65, 68, 68], 1), ([83, 85, 66], 2), ([69, 79, 82], 3), ([65, 78, 68], 4), ([79, 82, 82], 5)]
abbrev cr1 (x : List UInt8 × Int) (b1 : Nat) : Rw := ⟨x.1, [], insF 3 x.2, some ⟨b1, 0, none⟩, [1, 2, 3], 3⟩
abbrev cr2 (x : List UInt8 × Int) (b2 : Nat) : Rw := ⟨x.1, [], insF 3 x.2, some ⟨b2, 0, none⟩, [1, 2, 5], 3⟩
def acomp : List (List UInt8 × List UInt8 × In × List Int) := c5.flatMap fun x => [(x.1, [], insF 3 x.2, [1, 2, 3]), (x.1, [], insF 3 x.2, [1, 2, 5])]
structure AC (lo : Nat) (z : List Rw × Nat) (w : World) (ks : List Nat) : Prop where
 le : z.2 ≤ 5
 tm : z.1.map tm = acomp.take (2 * z.2)
 rw : RowsIn lo z.1 w ks
theorem AC.len {lo : Nat} {z : List Rw × Nat} {w : World} {ks : List Nat} (h : AC lo z w ks) : z.1.length = 2 * z.2 := by
 have h1 := congrArg List.length h.tm
 rw [List.length_map, List.length_take] at h1
 have h2 : acomp.length = 10 := by decide
 have := h.le
 omega
theorem AC.nx {lo b1 b2 : Nat} {z : List Rw × Nat} {w w1 : World} {ks ks1 : List Nat} {l : List (Nat × List SV)} (h : AC lo z w ks) (hk : (z.2 : Int) < 5) (hr : RowsIn lo z.1 w1 ks1) (hA : Acc lo [(b2, [.int .i64 1, .int .i64 2, .int .i64 5]), (b1, [.int .i64 1, .int .i64 2, .int .i64 3])] w1 ks1) : AC lo (z.1 ++ [cr1 (c5.getD ((z.2 : Int)).toNat nz) b1, cr2 (c5.getD ((z.2 : Int)).toNat nz) b2], z.2 + 1) w1 ks1 := by
 refine ⟨by have := h.le; show z.2 + 1 ≤ 5; omega, ?_, fun r hr' => ?_⟩
 ·show List.map _ (z.1 ++ _) = _
  rw [List.map_append, h.tm, Int.toNat_natCast]
  have : z.2 = 0 ∨ z.2 = 1 ∨ z.2 = 2 ∨ z.2 = 3 ∨ z.2 = 4 := by omega
  rcases this with e | e | e | e | e <;> rw [e] <;> rfl
 ·rcases List.mem_append.1 hr' with h1 | h1
  ·exact hr r h1
  ·simp only [List.mem_cons, List.mem_nil_iff, or_false] at h1
   rcases h1 with rfl | rfl
   ·exact lies_of (cs := []) [1, 2, 3] hA (List.mem_cons_of_mem _ (List.mem_cons_self))
   ·exact lies_of (cs := []) [1, 2, 5] hA (List.mem_cons_self)
theorem acomp_ : FnR Tryz.prog 144 [] [] (fun x w w' => ∃ (L : List Rw) (b cp : Nat), x = .sla (some ⟨b, 0, none⟩) 10 cp ∧ (L.map tm = acomp ∧ RowsIn w.heap.size L w' [b]) ∧ w.heap.size ≤ b ∧ Given 164 20 10 (fun zz => rwc (L.getD zz Rw.z)) b cp w') :=
 enterR (n := 36) (by kernel_rfl) Tryz.func144 rfl rfl rfl fun G w a h0 A => N9 13 A rfl rfl fun A => have A := A.asT nz nfc 2 tyN.1 tyN.2.1 tyN.2.2 c5 0 rfl; N9 17 A rfl rfl fun A => have A := A.nilRow 2 164 20 (fun zz => rwc (([] : List Rw).getD zz Rw.z)) rfl (fun z => ⟨_, rfl, rfl⟩); LOOPJ (fun (z : List Rw × Nat) => [(0, .sla none 0 0), (2, .sl 1 z.1.length 0), (12, .sl 0 5 5), (13, .int .i64 ((5 : Nat) : Int)), (14, .int .i64 (z.2 : Int))]) (fun (z : List Rw × Nat) => [some (.lst 2 5 (fun zz => nfc (c5.getD zz nz))), some (.row 164 20 z.1.length 0 (fun zz => rwc (z.1.getD zz Rw.z)))]) (fun z w1 ks1 => AC w.heap.size z w1 ks1) (fun z => 5 - z.2) ([], 0) (A.cut [0, 2, 12, 13, 14] rfl) ⟨by decide, rfl, fun r hr => by cases hr⟩ fun z G1 a1 w1 hJ hg A B => have hA : Acc w.heap.size [] w1 _ := Acc.nil; have hR := hJ.rw;
 N9 6 A rfl rfl fun A => forkD 15 A rfl
   (fun h1 A => N9 14 A rfl (ok_d (by omega) <| ok_d (by omega) <| okE_nil) fun A => N9 4 A rfl rfl fun A => have A := sy_sayD A 20 (.agg [.int .i64 3, .z9, .z9, .z9, .z9, .z9, .z9, .z9, .z9, .int .i64 ((c5.getD (((z.2 : Int)).toNat) nz).2), .bool false, .bool false, .bool false, .z9, .z9, .z9, .bool false]) rfl (fun _ => rfl); N9 9 A rfl rfl fun A => BSCI [.int .i64 1, .int .i64 2, .int .i64 3] (X := ⟨_, true⟩) hX RowsIn.ok B hA hR A rfl rfl rfl rfl fun b1 B hA hR A =>
 N9 4 A rfl rfl fun A => BSCI [.int .i64 1, .int .i64 2, .int .i64 5] (X := ⟨_, true⟩) hX RowsIn.ok B hA hR A rfl rfl rfl rfl fun b2 B hA hR A =>
 N9 2 A rfl rfl fun A => have A := A.asT Rw.z rwc 20 tyR.1 tyR.2.1 tyR.2.2 [cr1 (c5.getD (((z.2 : Int)).toNat) nz) b1, cr2 (c5.getD (((z.2 : Int)).toNat) nz) b2] 4 rfl; q_eff A rfl (aplE hX ((z.1 ++ [cr1 (c5.getD (((z.2 : Int)).toNat) nz) b1, cr2 (c5.getD (((z.2 : Int)).toNat) nz) b2]).length) (fun zz => rwc ((z.1 ++ [cr1 (c5.getD (((z.2 : Int)).toNat) nz) b1, cr2 (c5.getD (((z.2 : Int)).toNat) nz) b2]).getD zz Rw.z)) rfl rfl rfl rfl (Nat.le_refl _) (by have := hJ.len; have := hJ.le; omega) (by decide) List.length_append (fun k hk => by show rwc _ = rwc _; rw [getD_app_l hk]) (fun k hk => by show rwc _ = rwc _; rw [getD_app_r]) (fun z => ⟨_, rfl, rfl⟩) (fun k hk => ⟨_, rfl, okE_nil⟩)) fun A =>
 N9 8 A rfl (ok_d (by omega) <| okE_nil) fun A => ⟨(z.1 ++ [cr1 (c5.getD (((z.2 : Int)).toNat) nz) b1, cr2 (c5.getD (((z.2 : Int)).toNat) nz) b2], z.2 + 1), _, (by have := h1; show _ - _ < _ - _; omega), (hJ.nx (l := []) h1 (RowsIn.ok _ _ _ _ hR A.mix fun b hb => A.keys_own b ((keys_pick (H := [some (.lst 2 5 (fun zz => nfc (c5.getD zz nz))), none, some (.blk [.str ((c5.getD (((z.2 : Int)).toNat) nz).1), .int .i64 ((c5.getD (((z.2 : Int)).toNat) nz).2)]), some (.blk [.int .i64 3, .z9, .z9, .z9, .z9, .z9, .z9, .z9, .z9, .int .i64 ((c5.getD (((z.2 : Int)).toNat) nz).2), .bool false, .bool false, .bool false, .z9, .z9, .z9, .bool false]), some (.lst 20 ([cr1 (c5.getD (((z.2 : Int)).toNat) nz) b1, cr2 (c5.getD (((z.2 : Int)).toNat) nz) b2].length) (fun zz => rwc ([cr1 (c5.getD (((z.2 : Int)).toNat) nz) b1, cr2 (c5.getD (((z.2 : Int)).toNat) nz) b2].getD zz Rw.z))), some (.row 164 20 ((z.1 ++ [cr1 (c5.getD (((z.2 : Int)).toNat) nz) b1, cr2 (c5.getD (((z.2 : Int)).toNat) nz) b2]).length) 0 (fun zz => rwc ((z.1 ++ [cr1 (c5.getD (((z.2 : Int)).toNat) nz) b1, cr2 (c5.getD (((z.2 : Int)).toNat) nz) b2]).getD zz Rw.z)))]) (m := [0, 5]) A.mem.len rfl rfl) b hb)) (hA.go A.mix fun b hb => A.keys_own b ((keys_pick (H := [some (.lst 2 5 (fun zz => nfc (c5.getD zz nz))), none, some (.blk [.str ((c5.getD (((z.2 : Int)).toNat) nz).1), .int .i64 ((c5.getD (((z.2 : Int)).toNat) nz).2)]), some (.blk [.int .i64 3, .z9, .z9, .z9, .z9, .z9, .z9, .z9, .z9, .int .i64 ((c5.getD (((z.2 : Int)).toNat) nz).2), .bool false, .bool false, .bool false, .z9, .z9, .z9, .bool false]), some (.lst 20 ([cr1 (c5.getD (((z.2 : Int)).toNat) nz) b1, cr2 (c5.getD (((z.2 : Int)).toNat) nz) b2].length) (fun zz => rwc ([cr1 (c5.getD (((z.2 : Int)).toNat) nz) b1, cr2 (c5.getD (((z.2 : Int)).toNat) nz) b2].getD zz Rw.z))), some (.row 164 20 ((z.1 ++ [cr1 (c5.getD (((z.2 : Int)).toNat) nz) b1, cr2 (c5.getD (((z.2 : Int)).toNat) nz) b2]).length) 0 (fun zz => rwc ((z.1 ++ [cr1 (c5.getD (((z.2 : Int)).toNat) nz) b1, cr2 (c5.getD (((z.2 : Int)).toNat) nz) b2]).getD zz Rw.z)))]) (m := [0, 5]) A.mem.len rfl rfl) b hb))), ((B.trans A).cut [0, 2, 12, 13, 14] rfl).mv 0 [0, 5] rfl rfl rfl rfl (by simp only [List.length_nil] at h0; omega)⟩)
   (fun h1 A => N9 10 A rfl rfl fun A => (have e5 : z.2 = 5 := (by have := hJ.le; omega); have e : z.1.length = 10 := (by have := hJ.len; omega); match A.giveRow 1 0 (by omega) rfl rfl rfl with | ⟨b, cp, A2, hG, ho, hk⟩ => RETR (J := fun x w w' => ∃ (L : List Rw) (b cp : Nat), x = .sla (some ⟨b, 0, none⟩) 10 cp ∧ (L.map tm = acomp ∧ RowsIn w.heap.size L w' [b]) ∧ w.heap.size ≤ b ∧ Given 164 20 10 (fun zz => rwc (L.getD zz Rw.z)) b cp w') hX (B.trans A2) (fun i e he => nil_no he) rfl rfl rfl rfl ⟨z.1, b, cp, (by show SV.sla _ z.1.length cp = _; rw [e]), ⟨(by have h2 := hJ.tm; rw [e5] at h2; exact h2), (RowsIn.ok _ _ _ _ hJ.rw A.mix fun b2 hb => by have : b2 = b := (by simpa using hb); rw [this]; exact ho)⟩, lo_of B (fun i e he => nil_no he) ho, (by rw [← e]; exact hG)⟩))
end Go.Proofs.YtjkppaijicjpoaaGreatDoor.Ar
namespace Go.Proofs.YtjkppaijicjpoaaGreatDoor.Ar
open Go.RowKit
set_option linter.unusedVariables false
set_option linter.unusedSimpArgs false
set_option maxRecDepth 100000
set_option maxHeartbeats 2000000
set_option simprocs false
abbrev sz : List UInt8 × Bool × Bool := ([], false, false)
def sfc (x : List UInt8 × Bool × Bool) : List SV := [.str x.1, .bool x.2.1, .bool x.2.2]
theorem tyS : (∀ x, (sfc x).length = 3) ∧ (∀ x, inL 0 (sfc x) = true) ∧ (∀ x, ∃ vs, denL [] (sfc x) = some vs) := ⟨fun _ => rfl, fun _ => rfl, fun _ => ⟨_, rfl⟩⟩
def a2 : List (List UInt8 × Int) := [([83, 87, 80], 6), ([76, 68, 65, 68, 68], 1)]
def s4 : List (List UInt8 × Bool × Bool) := [([], false, false), ([65], true, false), ([76], false, true), ([65, 76], true, true)]
theorem a2_len : ∀ k, (a2.getD k nz).1.length ≤ 100
 | 0 => by decide
 | 1 => by decide
 | k + 2 => by simp [a2, List.getD]
theorem s4_len : ∀ k, (s4.getD k sz).1.length ≤ 100
 | 0 => by decide
 | 1 => by decide
 | 2 => by decide
 | 3 => by decide
 | k + 4 => by simp [s4, List.getD]
def insA (x : List UInt8 × Int) (y : List UInt8 × Bool × Bool) : In := ⟨6, 0, 0, 0, 0, 0, 0, 0, 0, x.2, y.2.1, false, y.2.2, 0, 0, 0, false⟩
abbrev aa1 (x : List UInt8 × Int) (y : List UInt8 × Bool × Bool) (b1 : Nat) : Rw := ⟨(x.1 ++ y.1) ++ [42], [], insA x y, some ⟨b1, 0, none⟩, [2, 1, 6], 3⟩
def aatom : List (List UInt8 × List UInt8 × In × List Int) := a2.flatMap fun x => s4.map fun y => ((x.1 ++ y.1) ++ [42], [], insA x y, [2, 1, 6])
structure AA (lo n : Nat) (L : List Rw) (w : World) (ks : List Nat) : Prop where
 tm : L.map tm = aatom.take n
 rw : RowsIn lo L w ks
theorem AA.len {lo n : Nat} {L : List Rw} {w : World} {ks : List Nat} (h : AA lo n L w ks) : L.length ≤ 8 ∧ (n ≤ 8 → L.length = n) := by
 have h1 := congrArg List.length h.tm
 rw [List.length_map, List.length_take] at h1
 have h2 : aatom.length = 8 := by decide
 omega
theorem AA.nx {lo b1 k j : Nat} {L : List Rw} {w w1 : World} {ks ks1 : List Nat} (h : AA lo (4 * k + j) L w ks) (hk : k < 2) (hj : j < 4) (hr : RowsIn lo L w1 ks1) (hA : Acc lo [(b1, [.int .i64 2, .int .i64 1, .int .i64 6])] w1 ks1) : AA lo (4 * k + (j + 1)) (L ++ [aa1 (a2.getD ((k : Int)).toNat nz) (s4.getD ((j : Int)).toNat sz) b1]) w1 ks1 := by
 refine ⟨?_, fun r hr' => ?_⟩
 ·rw [List.map_append, h.tm, Int.toNat_natCast, Int.toNat_natCast]
  have q1 : k = 0 ∨ k = 1 := by omega
  have q2 : j = 0 ∨ j = 1 ∨ j = 2 ∨ j = 3 := by omega
  rcases q1 with e | e <;> rcases q2 with e2 | e2 | e2 | e2 <;> rw [e, e2] <;> rfl
 ·rcases List.mem_append.1 hr' with h1 | h1
  ·exact hr r h1
  ·simp only [List.mem_cons, List.mem_nil_iff, or_false] at h1
   subst h1
   exact lies_of (cs := []) [2, 1, 6] hA List.mem_cons_self
theorem aatom_ : FnR Tryz.prog 146 [] [] (fun x w w' => ∃ (L : List Rw) (b cp : Nat), x = .sla (some ⟨b, 0, none⟩) 8 cp ∧ (L.map tm = aatom ∧ RowsIn w.heap.size L w' [b]) ∧ w.heap.size ≤ b ∧ Given 164 20 8 (fun zz => rwc (L.getD zz Rw.z)) b cp w') :=
 enterR (n := 51) (by kernel_rfl) Tryz.func146 rfl rfl rfl fun G w a h0 A => N9 10 A rfl rfl fun A => have A := A.asT nz nfc 2 tyN.1 tyN.2.1 tyN.2.2 a2 0 rfl; N9 6 A rfl rfl fun A => have A := sy_sayD A 12 (.agg [.str [], .bool false, .bool false]) rfl (fun _ => rfl); N9 1 A rfl rfl fun A => have A := sy_sayD A 13 (.agg [.str [65], .bool true, .bool false]) rfl (fun _ => rfl); N9 1 A rfl rfl fun A => have A := sy_sayD A 14 (.agg [.str [76], .bool false, .bool true]) rfl (fun _ => rfl); N9 1 A rfl rfl fun A => have A := sy_sayD A 15 (.agg [.str [65, 76], .bool true, .bool true]) rfl (fun _ => rfl); N9 1 A rfl rfl fun A => have A := A.asT sz sfc 3 tyS.1 tyS.2.1 tyS.2.2 s4 1 rfl; N9 17 A rfl rfl fun A => have A := A.nilRow 3 164 20 (fun zz => rwc (([] : List Rw).getD zz Rw.z)) rfl (fun z => ⟨_, rfl, rfl⟩); LOOPJ (fun (z : List Rw × Nat) => [(0, .sla none 0 0), (2, .sl 1 4 4), (3, .sl 2 z.1.length 0), (17, .sl 0 2 2), (18, .int .i64 ((2 : Nat) : Int)), (19, .int .i64 (z.2 : Int))]) (fun (z : List Rw × Nat) => [some (.lst 2 2 (fun zz => nfc (a2.getD zz nz))), some (.lst 3 4 (fun zz => sfc (s4.getD zz sz))), some (.row 164 20 z.1.length 0 (fun zz => rwc (z.1.getD zz Rw.z)))]) (fun z w1 ks1 => z.2 ≤ 2 ∧ AA w.heap.size (4 * z.2) z.1 w1 ks1) (fun z => 2 - z.2) ([], 0) (A.cut [0, 2, 3, 17, 18, 19] rfl) ⟨by decide, ⟨rfl, fun r hr => by cases hr⟩⟩ fun z G1 a1 w1 hJ hg A B => have hz2 := hJ.1; have hR := hJ.2.rw;
 N9 6 A rfl rfl fun A => forkD 20 A rfl
   (fun h1 A => N9 14 A rfl (ok_d (by omega) <| ok_d (by omega) <| okE_nil) fun A => N9 7 A rfl rfl fun A => have hR := RowsIn.ok _ _ _ _ hR A.mix A.keys_own; LOOPJ (fun (y : List Rw × Nat) => [(0, .sla none 0 0), (2, .sl 1 4 4), (3, .sl 2 y.1.length 0), (5, .ptr 3 0), (17, .sl 0 2 2), (18, .int .i64 ((2 : Nat) : Int)), (19, .int .i64 (z.2 : Int)), (23, .sl 1 4 4), (24, .int .i64 ((4 : Nat) : Int)), (25, .int .i64 (y.2 : Int))]) (fun (y : List Rw × Nat) => [some (.lst 2 2 (fun zz => nfc (a2.getD zz nz))), some (.lst 3 4 (fun zz => sfc (s4.getD zz sz))), some (.row 164 20 y.1.length 0 (fun zz => rwc (y.1.getD zz Rw.z))), some (.blk [.str ((a2.getD (((z.2 : Int)).toNat) nz).1), .int .i64 ((a2.getD (((z.2 : Int)).toNat) nz).2)])]) (fun y w1 ks1 => y.2 ≤ 4 ∧ AA w.heap.size (4 * z.2 + y.2) y.1 w1 ks1) (fun y => 4 - y.2) (z.1, 0) ((B.trans A).cut [0, 2, 3, 5, 17, 18, 19, 23, 24, 25] rfl) ⟨Nat.zero_le 4, ⟨hJ.2.tm, hR⟩⟩ fun y G1 a1 w1 hJ hg A B => have hA : Acc w.heap.size [] w1 _ := Acc.nil; have hR := hJ.2.rw;
 N9 6 A rfl rfl fun A => forkD 26 A rfl
     (fun h2 A => N9 14 A rfl (ok_d (by omega) <| ok_d (by omega) <| okE_nil) fun A => N9 8 A rfl rfl fun A => have A := sy_sayD A 35 (.agg [.int .i64 6, .z9, .z9, .z9, .z9, .z9, .z9, .z9, .z9, .int .i64 ((a2.getD (((z.2 : Int)).toNat) nz).2), .bool ((s4.getD (((y.2 : Int)).toNat) sz).2.1), .bool false, .bool ((s4.getD (((y.2 : Int)).toNat) sz).2.2), .z9, .z9, .z9, .bool false]) rfl (fun _ => rfl); N9 13 A rfl (ok_d (by have q := a2_len ((z.2 : Int)).toNat; have q2 := s4_len ((y.2 : Int)).toNat; (try simp only [List.length_append, List.length_cons, List.length_nil]); omega) <| ok_d (by have q := a2_len ((z.2 : Int)).toNat; have q2 := s4_len ((y.2 : Int)).toNat; (try simp only [List.length_append, List.length_cons, List.length_nil]); omega) <| okE_nil) fun A => BSCI [.int .i64 2, .int .i64 1, .int .i64 6] (X := ⟨_, true⟩) hX RowsIn.ok B hA hR A rfl rfl rfl rfl fun b1 B hA hR A =>
 N9 2 A rfl rfl fun A => have A := A.asT Rw.z rwc 20 tyR.1 tyR.2.1 tyR.2.2 [aa1 (a2.getD (((z.2 : Int)).toNat) nz) (s4.getD (((y.2 : Int)).toNat) sz) b1] 6 rfl; q_eff A rfl (aplE hX ((y.1 ++ [aa1 (a2.getD (((z.2 : Int)).toNat) nz) (s4.getD (((y.2 : Int)).toNat) sz) b1]).length) (fun zz => rwc ((y.1 ++ [aa1 (a2.getD (((z.2 : Int)).toNat) nz) (s4.getD (((y.2 : Int)).toNat) sz) b1]).getD zz Rw.z)) rfl rfl rfl rfl (Nat.le_refl _) (by have := hJ.2.len; have := hJ.1; omega) (by decide) List.length_append (fun k hk => by show rwc _ = rwc _; rw [getD_app_l hk]) (fun k hk => by show rwc _ = rwc _; rw [getD_app_r]) (fun z => ⟨_, rfl, rfl⟩) (fun k hk => ⟨_, rfl, okE_nil⟩)) fun A =>
 N9 8 A rfl (ok_d (by omega) <| okE_nil) fun A => ⟨(y.1 ++ [aa1 (a2.getD (((z.2 : Int)).toNat) nz) (s4.getD (((y.2 : Int)).toNat) sz) b1], y.2 + 1), _, (by have := h2; show _ - _ < _ - _; omega), ⟨by have := h2; show y.2 + 1 ≤ 4; omega, hJ.2.nx (by omega) (by omega) (RowsIn.ok _ _ _ _ hR A.mix fun b hb => A.keys_own b ((keys_pick (H := [some (.lst 2 2 (fun zz => nfc (a2.getD zz nz))), some (.lst 3 4 (fun zz => sfc (s4.getD zz sz))), none, some (.blk [.str ((a2.getD (((z.2 : Int)).toNat) nz).1), .int .i64 ((a2.getD (((z.2 : Int)).toNat) nz).2)]), some (.blk [.str ((s4.getD (((y.2 : Int)).toNat) sz).1), .bool ((s4.getD (((y.2 : Int)).toNat) sz).2.1), .bool ((s4.getD (((y.2 : Int)).toNat) sz).2.2)]), some (.blk [.int .i64 6, .z9, .z9, .z9, .z9, .z9, .z9, .z9, .z9, .int .i64 ((a2.getD (((z.2 : Int)).toNat) nz).2), .bool ((s4.getD (((y.2 : Int)).toNat) sz).2.1), .bool false, .bool ((s4.getD (((y.2 : Int)).toNat) sz).2.2), .z9, .z9, .z9, .bool false]), some (.lst 20 ([aa1 (a2.getD (((z.2 : Int)).toNat) nz) (s4.getD (((y.2 : Int)).toNat) sz) b1].length) (fun zz => rwc ([aa1 (a2.getD (((z.2 : Int)).toNat) nz) (s4.getD (((y.2 : Int)).toNat) sz) b1].getD zz Rw.z))), some (.row 164 20 ((y.1 ++ [aa1 (a2.getD (((z.2 : Int)).toNat) nz) (s4.getD (((y.2 : Int)).toNat) sz) b1]).length) 0 (fun zz => rwc ((y.1 ++ [aa1 (a2.getD (((z.2 : Int)).toNat) nz) (s4.getD (((y.2 : Int)).toNat) sz) b1]).getD zz Rw.z)))]) (m := [0, 1, 7, 3]) A.mem.len rfl rfl) b hb)) (hA.go A.mix fun b hb => A.keys_own b ((keys_pick (H := [some (.lst 2 2 (fun zz => nfc (a2.getD zz nz))), some (.lst 3 4 (fun zz => sfc (s4.getD zz sz))), none, some (.blk [.str ((a2.getD (((z.2 : Int)).toNat) nz).1), .int .i64 ((a2.getD (((z.2 : Int)).toNat) nz).2)]), some (.blk [.str ((s4.getD (((y.2 : Int)).toNat) sz).1), .bool ((s4.getD (((y.2 : Int)).toNat) sz).2.1), .bool ((s4.getD (((y.2 : Int)).toNat) sz).2.2)]), some (.blk [.int .i64 6, .z9, .z9, .z9, .z9, .z9, .z9, .z9, .z9, .int .i64 ((a2.getD (((z.2 : Int)).toNat) nz).2), .bool ((s4.getD (((y.2 : Int)).toNat) sz).2.1), .bool false, .bool ((s4.getD (((y.2 : Int)).toNat) sz).2.2), .z9, .z9, .z9, .bool false]), some (.lst 20 ([aa1 (a2.getD (((z.2 : Int)).toNat) nz) (s4.getD (((y.2 : Int)).toNat) sz) b1].length) (fun zz => rwc ([aa1 (a2.getD (((z.2 : Int)).toNat) nz) (s4.getD (((y.2 : Int)).toNat) sz) b1].getD zz Rw.z))), some (.row 164 20 ((y.1 ++ [aa1 (a2.getD (((z.2 : Int)).toNat) nz) (s4.getD (((y.2 : Int)).toNat) sz) b1]).length) 0 (fun zz => rwc ((y.1 ++ [aa1 (a2.getD (((z.2 : Int)).toNat) nz) (s4.getD (((y.2 : Int)).toNat) sz) b1]).getD zz Rw.z)))]) (m := [0, 1, 7, 3]) A.mem.len rfl rfl) b hb))⟩, ((B.trans A).cut [0, 2, 3, 5, 17, 18, 19, 23, 24, 25] rfl).mv 0 [0, 1, 7, 3] rfl rfl rfl rfl (by simp only [List.length_nil] at h0; omega)⟩)
     (fun h2 A => N9 8 A rfl (ok_d (by omega) <| okE_nil) fun A => ⟨(y.1, z.2 + 1), _, (by have := h1; show _ - _ < _ - _; omega), ⟨by have := h1; show z.2 + 1 ≤ 2; omega, ⟨(by have q := hJ.2.tm; have q1 := hJ.1; rw [show 4 * z.2 + y.2 = 4 * (z.2 + 1) by omega] at q; exact q), RowsIn.ok _ _ _ _ hJ.2.rw A.mix fun b hb => A.keys_own b ((keys_pick (H := [some (.lst 2 2 (fun zz => nfc (a2.getD zz nz))), some (.lst 3 4 (fun zz => sfc (s4.getD zz sz))), some (.row 164 20 y.1.length 0 (fun zz => rwc (y.1.getD zz Rw.z))), some (.blk [.str ((a2.getD (((z.2 : Int)).toNat) nz).1), .int .i64 ((a2.getD (((z.2 : Int)).toNat) nz).2)])]) (m := [0, 1, 2]) A.mem.len rfl rfl) b hb)⟩⟩, ((B.trans A).cut [0, 2, 3, 17, 18, 19] rfl).mv 0 [0, 1, 2] rfl rfl rfl rfl (by simp only [List.length_nil] at h0; omega)⟩))
   (fun h1 A => N9 10 A rfl rfl fun A => (have e5 : z.2 = 2 := (by have := hJ.1; omega); have e : z.1.length = 8 := (by have := hJ.2.len; omega); match A.giveRow 2 0 (by omega) rfl rfl rfl with | ⟨b, cp, A2, hG, ho, hk⟩ => RETR (J := fun x w w' => ∃ (L : List Rw) (b cp : Nat), x = .sla (some ⟨b, 0, none⟩) 8 cp ∧ (L.map tm = aatom ∧ RowsIn w.heap.size L w' [b]) ∧ w.heap.size ≤ b ∧ Given 164 20 8 (fun zz => rwc (L.getD zz Rw.z)) b cp w') hX (B.trans A2) (fun i e he => nil_no he) rfl rfl rfl rfl ⟨z.1, b, cp, (by show SV.sla _ z.1.length cp = _; rw [e]), ⟨(by have h2 := hJ.2.tm; rw [e5] at h2; exact h2), (RowsIn.ok _ _ _ _ hJ.2.rw A.mix fun b2 hb => by have : b2 = b := (by simpa using hb); rw [this]; exact ho)⟩, lo_of B (fun i e he => nil_no he) ho, (by rw [← e]; exact hG)⟩))
end Go.Proofs.YtjkppaijicjpoaaGreatDoor.Ar
namespace Go.Proofs.YtjkppaijicjpoaaGreatDoor.Ar
open Go.RowKit
set_option linter.unusedVariables false
set_option linter.unusedSimpArgs false
set_option maxRecDepth 100000
set_option maxHeartbeats 2000000
set_option simprocs false
abbrev fz : List UInt8 × Int × Int := ([], 0, 0)
def ffc (x : List UInt8 × Int × Int) : List SV := [.str x.1, .int .i64 x.2.1, .int .i64 x.2.2]
theorem tyF : (∀ x, (ffc x).length = 3) ∧ (∀ x, inL 0 (ffc x) = true) ∧ (∀ x, ∃ vs, denL [] (ffc x) = some vs) := ⟨fun _ => rfl, fun _ => rfl, fun _ => ⟨_, rfl⟩⟩
def f3 : List (List UInt8 × Int × Int) := [([83, 89], 3, 3), ([76, 68], 1, 3), ([83, 84], 2, 2)]
def insN (x : List UInt8 × Int × Int) : In := ⟨7, 0, 0, 0, 0, 0, 0, 0, 0, 0, false, false, false, x.2.1, x.2.2, 0, false⟩
abbrev fr1 (x : List UInt8 × Int × Int) (b1 : Nat) : Rw := ⟨[68, 77, 66], x.1, insN x, some ⟨b1, 0, none⟩, [10], 1⟩
def afen : List (List UInt8 × List UInt8 × In × List Int) := f3.map fun x => ([68, 77, 66], x.1, insN x, [10])
structure AF (lo : Nat) (z : List Rw × Nat) (w : World) (ks : List Nat) : Prop where
 le : z.2 ≤ 3
 tm : z.1.map tm = afen.take z.2
 rw : RowsIn lo z.1 w ks
theorem AF.len {lo : Nat} {z : List Rw × Nat} {w : World} {ks : List Nat} (h : AF lo z w ks) : z.1.length = z.2 := by
 have h1 := congrArg List.length h.tm
 rw [List.length_map, List.length_take] at h1
 have h2 : afen.length = 3 := by decide
 have := h.le
 omega
theorem AF.nx {lo b1 : Nat} {z : List Rw × Nat} {w w1 : World} {ks ks1 : List Nat} {l : List (Nat × List SV)} (h : AF lo z w ks) (hk : (z.2 : Int) < 3) (hr : RowsIn lo z.1 w1 ks1) (hA : Acc lo [(b1, [.int .i64 10])] w1 ks1) : AF lo (z.1 ++ [fr1 (f3.getD ((z.2 : Int)).toNat fz) b1], z.2 + 1) w1 ks1 := by
 refine ⟨by have := h.le; show z.2 + 1 ≤ 3; omega, ?_, fun r hr' => ?_⟩
 ·show List.map _ (z.1 ++ _) = _
  rw [List.map_append, h.tm, Int.toNat_natCast]
  have : z.2 = 0 ∨ z.2 = 1 ∨ z.2 = 2 := by omega
  rcases this with e | e | e <;> rw [e] <;> rfl
 ·rcases List.mem_append.1 hr' with h1 | h1
  ·exact hr r h1
  ·simp only [List.mem_cons, List.mem_nil_iff, or_false] at h1
   subst h1
   exact lies_of (cs := []) [10] hA List.mem_cons_self
theorem afen_ : FnR Tryz.prog 147 [] [] (fun x w w' => ∃ (L : List Rw) (b cp : Nat), x = .sla (some ⟨b, 0, none⟩) 3 cp ∧ (L.map tm = afen ∧ RowsIn w.heap.size L w' [b]) ∧ w.heap.size ≤ b ∧ Given 164 20 3 (fun zz => rwc (L.getD zz Rw.z)) b cp w') :=
 enterR (n := 31) (by kernel_rfl) Tryz.func147 rfl rfl rfl fun G w a h0 A => N9 11 A rfl rfl fun A => have A := A.asT fz ffc 3 tyF.1 tyF.2.1 tyF.2.2 f3 0 rfl; N9 17 A rfl rfl fun A => have A := A.nilRow 2 164 20 (fun zz => rwc (([] : List Rw).getD zz Rw.z)) rfl (fun z => ⟨_, rfl, rfl⟩); LOOPJ (fun (z : List Rw × Nat) => [(0, .sla none 0 0), (2, .sl 1 z.1.length 0), (10, .sl 0 3 3), (11, .int .i64 ((3 : Nat) : Int)), (12, .int .i64 (z.2 : Int))]) (fun (z : List Rw × Nat) => [some (.lst 3 3 (fun zz => ffc (f3.getD zz fz))), some (.row 164 20 z.1.length 0 (fun zz => rwc (z.1.getD zz Rw.z)))]) (fun z w1 ks1 => AF w.heap.size z w1 ks1) (fun z => 3 - z.2) ([], 0) (A.cut [0, 2, 10, 11, 12] rfl) ⟨by decide, rfl, fun r hr => by cases hr⟩ fun z G1 a1 w1 hJ hg A B => have hA : Acc w.heap.size [] w1 _ := Acc.nil; have hR := hJ.rw;
 N9 6 A rfl rfl fun A => forkD 13 A rfl
   (fun h1 A => N9 14 A rfl (ok_d (by omega) <| ok_d (by omega) <| okE_nil) fun A => N9 6 A rfl rfl fun A => have A := sy_sayD A 20 (.agg [.int .i64 7, .z9, .z9, .z9, .z9, .z9, .z9, .z9, .z9, .z9, .bool false, .bool false, .bool false, .int .i64 ((f3.getD (((z.2 : Int)).toNat) fz).2.1), .int .i64 ((f3.getD (((z.2 : Int)).toNat) fz).2.2), .z9, .bool false]) rfl (fun _ => rfl); N9 9 A rfl rfl fun A => BSCI [.int .i64 10] (X := ⟨_, true⟩) hX RowsIn.ok B hA hR A rfl rfl rfl rfl fun b1 B hA hR A =>
 N9 2 A rfl rfl fun A => have A := A.asT Rw.z rwc 20 tyR.1 tyR.2.1 tyR.2.2 [fr1 (f3.getD (((z.2 : Int)).toNat) fz) b1] 4 rfl; q_eff A rfl (aplE hX ((z.1 ++ [fr1 (f3.getD (((z.2 : Int)).toNat) fz) b1]).length) (fun zz => rwc ((z.1 ++ [fr1 (f3.getD (((z.2 : Int)).toNat) fz) b1]).getD zz Rw.z)) rfl rfl rfl rfl (Nat.le_refl _) (by have := hJ.len; have := hJ.le; omega) (by decide) List.length_append (fun k hk => by show rwc _ = rwc _; rw [getD_app_l hk]) (fun k hk => by show rwc _ = rwc _; rw [getD_app_r]) (fun z => ⟨_, rfl, rfl⟩) (fun k hk => ⟨_, rfl, okE_nil⟩)) fun A =>
 N9 8 A rfl (ok_d (by omega) <| okE_nil) fun A => ⟨(z.1 ++ [fr1 (f3.getD (((z.2 : Int)).toNat) fz) b1], z.2 + 1), _, (by have := h1; show _ - _ < _ - _; omega), (hJ.nx (l := []) h1 (RowsIn.ok _ _ _ _ hR A.mix fun b hb => A.keys_own b ((keys_pick (H := [some (.lst 3 3 (fun zz => ffc (f3.getD zz fz))), none, some (.blk [.str ((f3.getD (((z.2 : Int)).toNat) fz).1), .int .i64 ((f3.getD (((z.2 : Int)).toNat) fz).2.1), .int .i64 ((f3.getD (((z.2 : Int)).toNat) fz).2.2)]), some (.blk [.int .i64 7, .z9, .z9, .z9, .z9, .z9, .z9, .z9, .z9, .z9, .bool false, .bool false, .bool false, .int .i64 ((f3.getD (((z.2 : Int)).toNat) fz).2.1), .int .i64 ((f3.getD (((z.2 : Int)).toNat) fz).2.2), .z9, .bool false]), some (.lst 20 ([fr1 (f3.getD (((z.2 : Int)).toNat) fz) b1].length) (fun zz => rwc ([fr1 (f3.getD (((z.2 : Int)).toNat) fz) b1].getD zz Rw.z))), some (.row 164 20 ((z.1 ++ [fr1 (f3.getD (((z.2 : Int)).toNat) fz) b1]).length) 0 (fun zz => rwc ((z.1 ++ [fr1 (f3.getD (((z.2 : Int)).toNat) fz) b1]).getD zz Rw.z)))]) (m := [0, 5]) A.mem.len rfl rfl) b hb)) (hA.go A.mix fun b hb => A.keys_own b ((keys_pick (H := [some (.lst 3 3 (fun zz => ffc (f3.getD zz fz))), none, some (.blk [.str ((f3.getD (((z.2 : Int)).toNat) fz).1), .int .i64 ((f3.getD (((z.2 : Int)).toNat) fz).2.1), .int .i64 ((f3.getD (((z.2 : Int)).toNat) fz).2.2)]), some (.blk [.int .i64 7, .z9, .z9, .z9, .z9, .z9, .z9, .z9, .z9, .z9, .bool false, .bool false, .bool false, .int .i64 ((f3.getD (((z.2 : Int)).toNat) fz).2.1), .int .i64 ((f3.getD (((z.2 : Int)).toNat) fz).2.2), .z9, .bool false]), some (.lst 20 ([fr1 (f3.getD (((z.2 : Int)).toNat) fz) b1].length) (fun zz => rwc ([fr1 (f3.getD (((z.2 : Int)).toNat) fz) b1].getD zz Rw.z))), some (.row 164 20 ((z.1 ++ [fr1 (f3.getD (((z.2 : Int)).toNat) fz) b1]).length) 0 (fun zz => rwc ((z.1 ++ [fr1 (f3.getD (((z.2 : Int)).toNat) fz) b1]).getD zz Rw.z)))]) (m := [0, 5]) A.mem.len rfl rfl) b hb))), ((B.trans A).cut [0, 2, 10, 11, 12] rfl).mv 0 [0, 5] rfl rfl rfl rfl (by simp only [List.length_nil] at h0; omega)⟩)
   (fun h1 A => N9 10 A rfl rfl fun A => (have e5 : z.2 = 3 := (by have := hJ.le; omega); have e : z.1.length = 3 := (by have := hJ.len; omega); match A.giveRow 1 0 (by omega) rfl rfl rfl with | ⟨b, cp, A2, hG, ho, hk⟩ => RETR (J := fun x w w' => ∃ (L : List Rw) (b cp : Nat), x = .sla (some ⟨b, 0, none⟩) 3 cp ∧ (L.map tm = afen ∧ RowsIn w.heap.size L w' [b]) ∧ w.heap.size ≤ b ∧ Given 164 20 3 (fun zz => rwc (L.getD zz Rw.z)) b cp w') hX (B.trans A2) (fun i e he => nil_no he) rfl rfl rfl rfl ⟨z.1, b, cp, (by show SV.sla _ z.1.length cp = _; rw [e]), ⟨(by have h2 := hJ.tm; rw [e5] at h2; exact h2), (RowsIn.ok _ _ _ _ hJ.rw A.mix fun b2 hb => by have : b2 = b := (by simpa using hb); rw [this]; exact ho)⟩, lo_of B (fun i e he => nil_no he) ho, (by rw [← e]; exact hG)⟩))
end Go.Proofs.YtjkppaijicjpoaaGreatDoor.Ar
namespace Go.Proofs.YtjkppaijicjpoaaGreatDoor.Ar
open Go.RowKit
set_option linter.unusedVariables false
set_option linter.unusedSimpArgs false
set_option maxRecDepth 100000
set_option maxHeartbeats 2000000
set_option simprocs false
abbrev aaccL (b1 b2 b3 : Nat) : List (Nat × List SV) := [(b3, [.str [76, 68, 82, 42], .str [], .int .i64 4, .z9, .z9, .z9, .z9, .z9, .z9, .z9, .z9, .z9, .ff, .ff, .ff, .z9, .z9, .z9, .ff, .sla (some ⟨b1, 0, none⟩) 2 2, .str [76, 68, 65, 82, 42], .str [], .int .i64 4, .z9, .z9, .z9, .z9, .z9, .z9, .z9, .z9, .z9, .tt, .ff, .ff, .z9, .z9, .z9, .ff, .sla (some ⟨b1, 0, none⟩) 2 2, .str [76, 68, 65, 80, 82, 42], .str [], .int .i64 4, .z9, .z9, .z9, .z9, .z9, .z9, .z9, .z9, .z9, .ff, .tt, .ff, .z9, .z9, .z9, .ff, .sla (some ⟨b1, 0, none⟩) 2 2, .str [83, 84, 82, 42], .str [], .int .i64 5, .z9, .z9, .z9, .z9, .z9, .z9, .z9, .z9, .z9, .ff, .ff, .ff, .z9, .z9, .z9, .ff, .sla (some ⟨b2, 0, none⟩) 2 2, .str [83, 84, 76, 82, 42], .str [], .int .i64 5, .z9, .z9, .z9, .z9, .z9, .z9, .z9, .z9, .z9, .ff, .ff, .tt, .z9, .z9, .z9, .ff, .sla (some ⟨b2, 0, none⟩) 2 2]), (b2, [.int .i64 2, .int .i64 6]), (b1, [.int .i64 1, .int .i64 6])]
theorem aacc_ : FnR Tryz.prog 145 [] [] (fun x w w' => ∃ b1 b2 b3 : Nat, x = .sla (some ⟨b3, 0, none⟩) 5 5 ∧ Acc w.heap.size (aaccL b1 b2 b3) w' []) :=
 enterR (n := 21) (by kernel_rfl) Tryz.func145 rfl rfl rfl fun G w a h0 A => have B := A; have hA : Acc w.heap.size [] w _ := Acc.nil; N9 7 A rfl rfl fun A => BSCA [.int .i64 1, .int .i64 6] (X := ⟨_, true⟩) hX B hA A rfl rfl rfl rfl fun b1 B hA A =>
 BSCA [.int .i64 2, .int .i64 6] (X := ⟨_, true⟩) hX B hA A rfl rfl rfl rfl fun b2 B hA A =>
 N9 21 A rfl rfl fun A => BSCA [.str [76, 68, 82, 42], .str [], .int .i64 4, .z9, .z9, .z9, .z9, .z9, .z9, .z9, .z9, .z9, .ff, .ff, .ff, .z9, .z9, .z9, .ff, .sla (some ⟨b1, 0, none⟩) 2 2, .str [76, 68, 65, 82, 42], .str [], .int .i64 4, .z9, .z9, .z9, .z9, .z9, .z9, .z9, .z9, .z9, .tt, .ff, .ff, .z9, .z9, .z9, .ff, .sla (some ⟨b1, 0, none⟩) 2 2, .str [76, 68, 65, 80, 82, 42], .str [], .int .i64 4, .z9, .z9, .z9, .z9, .z9, .z9, .z9, .z9, .z9, .ff, .tt, .ff, .z9, .z9, .z9, .ff, .sla (some ⟨b1, 0, none⟩) 2 2, .str [83, 84, 82, 42], .str [], .int .i64 5, .z9, .z9, .z9, .z9, .z9, .z9, .z9, .z9, .z9, .ff, .ff, .ff, .z9, .z9, .z9, .ff, .sla (some ⟨b2, 0, none⟩) 2 2, .str [83, 84, 76, 82, 42], .str [], .int .i64 5, .z9, .z9, .z9, .z9, .z9, .z9, .z9, .z9, .z9, .ff, .ff, .tt, .z9, .z9, .z9, .ff, .sla (some ⟨b2, 0, none⟩) 2 2] (X := ⟨_, true⟩) hX B hA A rfl rfl rfl rfl fun b3 B hA A =>
 N9 4 A rfl rfl fun A => RETR (J := fun x w w' => ∃ b1 b2 b3 : Nat, x = .sla (some ⟨b3, 0, none⟩) 5 5 ∧ Acc w.heap.size (aaccL b1 b2 b3) w' []) hX (B.trans A) (fun i e he => nil_no he) rfl rfl rfl rfl ⟨b1, b2, b3, rfl, (hA.now A).bare⟩
abbrev aothL (b1 b2 b3 b4 b5 : Nat) : List (Nat × List SV) := [(b5, [.str [77, 79, 86], .str [], .int .i64 1, .z9, .z9, .z9, .z9, .z9, .z9, .z9, .z9, .z9, .ff, .ff, .ff, .z9, .z9, .z9, .ff, .sla (some ⟨b1, 0, none⟩) 2 2, .str [77, 79, 86], .str [], .int .i64 2, .z9, .z9, .z9, .z9, .z9, .z9, .z9, .z9, .z9, .ff, .ff, .ff, .z9, .z9, .z9, .ff, .sla (some ⟨b2, 0, none⟩) 2 2, .str [73, 83, 66], .str [], .int .i64 8, .z9, .z9, .z9, .z9, .z9, .z9, .z9, .z9, .z9, .ff, .ff, .ff, .z9, .z9, .z9, .ff, .sla none 0 0, .str [67, 66, 90], .str [], .int .i64 9, .z9, .z9, .z9, .z9, .z9, .z9, .z9, .z9, .z9, .ff, .ff, .ff, .z9, .z9, .z9, .tt, .sla (some ⟨b3, 0, none⟩) 2 2, .str [67, 66, 78, 90], .str [], .int .i64 9, .z9, .z9, .z9, .z9, .z9, .z9, .z9, .z9, .z9, .ff, .ff, .ff, .z9, .z9, .z9, .ff, .sla (some ⟨b4, 0, none⟩) 2 2]), (b4, [.int .i64 2, .int .i64 7]), (b3, [.int .i64 2, .int .i64 7]), (b2, [.int .i64 1, .int .i64 2]), (b1, [.int .i64 1, .int .i64 5])]
theorem aoth_ : FnR Tryz.prog 148 [] [] (fun x w w' => ∃ b1 b2 b3 b4 b5 : Nat, x = .sla (some ⟨b5, 0, none⟩) 5 5 ∧ Acc w.heap.size (aothL b1 b2 b3 b4 b5) w' []) :=
 enterR (n := 16) (by kernel_rfl) Tryz.func148 rfl rfl rfl fun G w a h0 A => have B := A; have hA : Acc w.heap.size [] w _ := Acc.nil; N9 8 A rfl rfl fun A => BSCA [.int .i64 1, .int .i64 5] (X := ⟨_, true⟩) hX B hA A rfl rfl rfl rfl fun b1 B hA A =>
 N9 2 A rfl rfl fun A => BSCA [.int .i64 1, .int .i64 2] (X := ⟨_, true⟩) hX B hA A rfl rfl rfl rfl fun b2 B hA A =>
 N9 4 A rfl rfl fun A => BSCA [.int .i64 2, .int .i64 7] (X := ⟨_, true⟩) hX B hA A rfl rfl rfl rfl fun b3 B hA A =>
 N9 2 A rfl rfl fun A => BSCA [.int .i64 2, .int .i64 7] (X := ⟨_, true⟩) hX B hA A rfl rfl rfl rfl fun b4 B hA A =>
 N9 1 A rfl rfl fun A => BSCA [.str [77, 79, 86], .str [], .int .i64 1, .z9, .z9, .z9, .z9, .z9, .z9, .z9, .z9, .z9, .ff, .ff, .ff, .z9, .z9, .z9, .ff, .sla (some ⟨b1, 0, none⟩) 2 2, .str [77, 79, 86], .str [], .int .i64 2, .z9, .z9, .z9, .z9, .z9, .z9, .z9, .z9, .z9, .ff, .ff, .ff, .z9, .z9, .z9, .ff, .sla (some ⟨b2, 0, none⟩) 2 2, .str [73, 83, 66], .str [], .int .i64 8, .z9, .z9, .z9, .z9, .z9, .z9, .z9, .z9, .z9, .ff, .ff, .ff, .z9, .z9, .z9, .ff, .sla none 0 0, .str [67, 66, 90], .str [], .int .i64 9, .z9, .z9, .z9, .z9, .z9, .z9, .z9, .z9, .z9, .ff, .ff, .ff, .z9, .z9, .z9, .tt, .sla (some ⟨b3, 0, none⟩) 2 2, .str [67, 66, 78, 90], .str [], .int .i64 9, .z9, .z9, .z9, .z9, .z9, .z9, .z9, .z9, .z9, .ff, .ff, .ff, .z9, .z9, .z9, .ff, .sla (some ⟨b4, 0, none⟩) 2 2] (X := ⟨_, true⟩) hX B hA A rfl rfl rfl rfl fun b5 B hA A =>
 N9 4 A rfl rfl fun A => RETR (J := fun x w w' => ∃ b1 b2 b3 b4 b5 : Nat, x = .sla (some ⟨b5, 0, none⟩) 5 5 ∧ Acc w.heap.size (aothL b1 b2 b3 b4 b5) w' []) hX (B.trans A) (fun i e he => nil_no he) rfl rfl rfl rfl ⟨b1, b2, b3, b4, b5, rfl, (hA.now A).bare⟩
end Go.Proofs.YtjkppaijicjpoaaGreatDoor.Ar
namespace Go.Proofs.YtjkppaijicjpoaaGreatDoor.Ar
open Go.RowKit
set_option linter.unusedVariables false
set_option linter.unusedSimpArgs false
set_option maxRecDepth 100000
set_option maxHeartbeats 2000000
set_option simprocs false
def aaccR (b1 b2 : Nat) : List Rw := [⟨[76, 68, 82, 42], [], ⟨4, 0, 0, 0, 0, 0, 0, 0, 0, 0, false, false, false, 0, 0, 0, false⟩, some ⟨b1, 0, none⟩, [1, 6], 2⟩, ⟨[76, 68, 65, 82, 42], [], ⟨4, 0, 0, 0, 0, 0, 0, 0, 0, 0, true, false, false, 0, 0, 0, false⟩, some ⟨b1, 0, none⟩, [1, 6], 2⟩, ⟨[76, 68, 65, 80, 82, 42], [], ⟨4, 0, 0, 0, 0, 0, 0, 0, 0, 0, false, true, false, 0, 0, 0, false⟩, some ⟨b1, 0, none⟩, [1, 6], 2⟩, ⟨[83, 84, 82, 42], [], ⟨5, 0, 0, 0, 0, 0, 0, 0, 0, 0, false, false, false, 0, 0, 0, false⟩, some ⟨b2, 0, none⟩, [2, 6], 2⟩, ⟨[83, 84, 76, 82, 42], [], ⟨5, 0, 0, 0, 0, 0, 0, 0, 0, 0, false, false, true, 0, 0, 0, false⟩, some ⟨b2, 0, none⟩, [2, 6], 2⟩]
def aaccT : List (List UInt8 × List UInt8 × In × List Int) := [([76, 68, 82, 42], [], ⟨4, 0, 0, 0, 0, 0, 0, 0, 0, 0, false, false, false, 0, 0, 0, false⟩, [1, 6]), ([76, 68, 65, 82, 42], [], ⟨4, 0, 0, 0, 0, 0, 0, 0, 0, 0, true, false, false, 0, 0, 0, false⟩, [1, 6]), ([76, 68, 65, 80, 82, 42], [], ⟨4, 0, 0, 0, 0, 0, 0, 0, 0, 0, false, true, false, 0, 0, 0, false⟩, [1, 6]), ([83, 84, 82, 42], [], ⟨5, 0, 0, 0, 0, 0, 0, 0, 0, 0, false, false, false, 0, 0, 0, false⟩, [2, 6]), ([83, 84, 76, 82, 42], [], ⟨5, 0, 0, 0, 0, 0, 0, 0, 0, 0, false, false, true, 0, 0, 0, false⟩, [2, 6])]
theorem aacc_rows {b1 b2 b3 lo lo2 : Nat} {w : World} {ks : List Nat} (h : Acc lo (aaccL b1 b2 b3) w ks) (hlo : lo2 ≤ lo) : RowsIn lo2 (aaccR b1 b2) w ks := by
 intro r hr
 unfold aaccR at hr
 simp only [List.mem_cons, List.mem_nil_iff, or_false] at hr
 rcases hr with rfl | rfl | rfl | rfl | rfl
 ·have q := lies_of (b := b1) (cs := []) [1, 6] h (by show _ ∈ aaccL b1 b2 b3; unfold aaccL; simp); exact ⟨q.1, fun z hz => Nat.le_trans hlo (q.2 z hz)⟩
 ·have q := lies_of (b := b1) (cs := []) [1, 6] h (by show _ ∈ aaccL b1 b2 b3; unfold aaccL; simp); exact ⟨q.1, fun z hz => Nat.le_trans hlo (q.2 z hz)⟩
 ·have q := lies_of (b := b1) (cs := []) [1, 6] h (by show _ ∈ aaccL b1 b2 b3; unfold aaccL; simp); exact ⟨q.1, fun z hz => Nat.le_trans hlo (q.2 z hz)⟩
 ·have q := lies_of (b := b2) (cs := []) [2, 6] h (by show _ ∈ aaccL b1 b2 b3; unfold aaccL; simp); exact ⟨q.1, fun z hz => Nat.le_trans hlo (q.2 z hz)⟩
 ·have q := lies_of (b := b2) (cs := []) [2, 6] h (by show _ ∈ aaccL b1 b2 b3; unfold aaccL; simp); exact ⟨q.1, fun z hz => Nat.le_trans hlo (q.2 z hz)⟩
theorem aacc_den (b1 b2 b3 : Nat) : denL [] ((aaccR b1 b2).flatMap rwc) = denL [] [.str [76, 68, 82, 42], .str [], .int .i64 4, .z9, .z9, .z9, .z9, .z9, .z9, .z9, .z9, .z9, .ff, .ff, .ff, .z9, .z9, .z9, .ff, .sla (some ⟨b1, 0, none⟩) 2 2, .str [76, 68, 65, 82, 42], .str [], .int .i64 4, .z9, .z9, .z9, .z9, .z9, .z9, .z9, .z9, .z9, .tt, .ff, .ff, .z9, .z9, .z9, .ff, .sla (some ⟨b1, 0, none⟩) 2 2, .str [76, 68, 65, 80, 82, 42], .str [], .int .i64 4, .z9, .z9, .z9, .z9, .z9, .z9, .z9, .z9, .z9, .ff, .tt, .ff, .z9, .z9, .z9, .ff, .sla (some ⟨b1, 0, none⟩) 2 2, .str [83, 84, 82, 42], .str [], .int .i64 5, .z9, .z9, .z9, .z9, .z9, .z9, .z9, .z9, .z9, .ff, .ff, .ff, .z9, .z9, .z9, .ff, .sla (some ⟨b2, 0, none⟩) 2 2, .str [83, 84, 76, 82, 42], .str [], .int .i64 5, .z9, .z9, .z9, .z9, .z9, .z9, .z9, .z9, .z9, .ff, .ff, .tt, .z9, .z9, .z9, .ff, .sla (some ⟨b2, 0, none⟩) 2 2] := by rfl
section
variable {n : Nat} {ks : List Nat} {G0 : Gr} {w0 : World} {T : List (Nat × SV)} {H : Hp} {G : Gr} {a : Act} {w : World} {Q : Exit → Act → World → Prop} {K : List Fr} {ops : Array Oper} {o : Oper} {rest : List Oper}
theorem CALLACC (A : Sy n T H ks G0 w0 G a w) (h1 : callS n ops T o = some (145, []))
  (k : ∀ b1 b2 b3 vs a' w', denL [] ((aaccR b1 b2).flatMap rwc) = some vs → Lies b3 0 vs w' (keys H G) → RowsIn w.heap.size (aaccR b1 b2) w' (keys H G) → Sy n (extS T o.dst (.sla (some ⟨b3, 0, none⟩) 5 5)) H ks G0 w0 G a' w' → Goal Tryz.prog Q K (.ops ops rest) a' w') : Goal Tryz.prog Q K (.ops ops (o :: rest)) a w := by
 refine CALLR [] aacc_ A h1 rfl rfl rfl rfl fun x a' w' hJ hk A' => ?_
 obtain ⟨b1, b2, b3, rfl, hA⟩ := hJ
 have hA := acc_keys hA hk
 obtain ⟨_, vs, q1, q2⟩ := hA _ List.mem_cons_self
 exact k b1 b2 b3 vs a' w' ((aacc_den b1 b2 b3).trans q1) q2 (aacc_rows hA (Nat.le_refl _)) A'
end
def aothR (b1 b2 b3 b4 : Nat) : List Rw := [⟨[77, 79, 86], [], ⟨1, 0, 0, 0, 0, 0, 0, 0, 0, 0, false, false, false, 0, 0, 0, false⟩, some ⟨b1, 0, none⟩, [1, 5], 2⟩, ⟨[77, 79, 86], [], ⟨2, 0, 0, 0, 0, 0, 0, 0, 0, 0, false, false, false, 0, 0, 0, false⟩, some ⟨b2, 0, none⟩, [1, 2], 2⟩, ⟨[73, 83, 66], [], ⟨8, 0, 0, 0, 0, 0, 0, 0, 0, 0, false, false, false, 0, 0, 0, false⟩, none, [], 0⟩, ⟨[67, 66, 90], [], ⟨9, 0, 0, 0, 0, 0, 0, 0, 0, 0, false, false, false, 0, 0, 0, true⟩, some ⟨b3, 0, none⟩, [2, 7], 2⟩, ⟨[67, 66, 78, 90], [], ⟨9, 0, 0, 0, 0, 0, 0, 0, 0, 0, false, false, false, 0, 0, 0, false⟩, some ⟨b4, 0, none⟩, [2, 7], 2⟩]
def aothT : List (List UInt8 × List UInt8 × In × List Int) := [([77, 79, 86], [], ⟨1, 0, 0, 0, 0, 0, 0, 0, 0, 0, false, false, false, 0, 0, 0, false⟩, [1, 5]), ([77, 79, 86], [], ⟨2, 0, 0, 0, 0, 0, 0, 0, 0, 0, false, false, false, 0, 0, 0, false⟩, [1, 2]), ([73, 83, 66], [], ⟨8, 0, 0, 0, 0, 0, 0, 0, 0, 0, false, false, false, 0, 0, 0, false⟩, []), ([67, 66, 90], [], ⟨9, 0, 0, 0, 0, 0, 0, 0, 0, 0, false, false, false, 0, 0, 0, true⟩, [2, 7]), ([67, 66, 78, 90], [], ⟨9, 0, 0, 0, 0, 0, 0, 0, 0, 0, false, false, false, 0, 0, 0, false⟩, [2, 7])]
theorem aoth_rows {b1 b2 b3 b4 b5 lo lo2 : Nat} {w : World} {ks : List Nat} (h : Acc lo (aothL b1 b2 b3 b4 b5) w ks) (hlo : lo2 ≤ lo) : RowsIn lo2 (aothR b1 b2 b3 b4) w ks := by
 intro r hr
 unfold aothR at hr
 simp only [List.mem_cons, List.mem_nil_iff, or_false] at hr
 rcases hr with rfl | rfl | rfl | rfl | rfl
 ·have q := lies_of (b := b1) (cs := []) [1, 5] h (by show _ ∈ aothL b1 b2 b3 b4 b5; unfold aothL; simp); exact ⟨q.1, fun z hz => Nat.le_trans hlo (q.2 z hz)⟩
 ·have q := lies_of (b := b2) (cs := []) [1, 2] h (by show _ ∈ aothL b1 b2 b3 b4 b5; unfold aothL; simp); exact ⟨q.1, fun z hz => Nat.le_trans hlo (q.2 z hz)⟩
 ·exact ⟨.inl ⟨rfl, rfl⟩, fun q hq => by cases hq⟩
 ·have q := lies_of (b := b3) (cs := []) [2, 7] h (by show _ ∈ aothL b1 b2 b3 b4 b5; unfold aothL; simp); exact ⟨q.1, fun z hz => Nat.le_trans hlo (q.2 z hz)⟩
 ·have q := lies_of (b := b4) (cs := []) [2, 7] h (by show _ ∈ aothL b1 b2 b3 b4 b5; unfold aothL; simp); exact ⟨q.1, fun z hz => Nat.le_trans hlo (q.2 z hz)⟩
theorem aoth_den (b1 b2 b3 b4 b5 : Nat) : denL [] ((aothR b1 b2 b3 b4).flatMap rwc) = denL [] [.str [77, 79, 86], .str [], .int .i64 1, .z9, .z9, .z9, .z9, .z9, .z9, .z9, .z9, .z9, .ff, .ff, .ff, .z9, .z9, .z9, .ff, .sla (some ⟨b1, 0, none⟩) 2 2, .str [77, 79, 86], .str [], .int .i64 2, .z9, .z9, .z9, .z9, .z9, .z9, .z9, .z9, .z9, .ff, .ff, .ff, .z9, .z9, .z9, .ff, .sla (some ⟨b2, 0, none⟩) 2 2, .str [73, 83, 66], .str [], .int .i64 8, .z9, .z9, .z9, .z9, .z9, .z9, .z9, .z9, .z9, .ff, .ff, .ff, .z9, .z9, .z9, .ff, .sla none 0 0, .str [67, 66, 90], .str [], .int .i64 9, .z9, .z9, .z9, .z9, .z9, .z9, .z9, .z9, .z9, .ff, .ff, .ff, .z9, .z9, .z9, .tt, .sla (some ⟨b3, 0, none⟩) 2 2, .str [67, 66, 78, 90], .str [], .int .i64 9, .z9, .z9, .z9, .z9, .z9, .z9, .z9, .z9, .z9, .ff, .ff, .ff, .z9, .z9, .z9, .ff, .sla (some ⟨b4, 0, none⟩) 2 2] := by rfl
section
variable {n : Nat} {ks : List Nat} {G0 : Gr} {w0 : World} {T : List (Nat × SV)} {H : Hp} {G : Gr} {a : Act} {w : World} {Q : Exit → Act → World → Prop} {K : List Fr} {ops : Array Oper} {o : Oper} {rest : List Oper}
theorem CALLAOT (A : Sy n T H ks G0 w0 G a w) (h1 : callS n ops T o = some (148, []))
  (k : ∀ b1 b2 b3 b4 b5 vs a' w', denL [] ((aothR b1 b2 b3 b4).flatMap rwc) = some vs → Lies b5 0 vs w' (keys H G) → RowsIn w.heap.size (aothR b1 b2 b3 b4) w' (keys H G) → Sy n (extS T o.dst (.sla (some ⟨b5, 0, none⟩) 5 5)) H ks G0 w0 G a' w' → Goal Tryz.prog Q K (.ops ops rest) a' w') : Goal Tryz.prog Q K (.ops ops (o :: rest)) a w := by
 refine CALLR [] aoth_ A h1 rfl rfl rfl rfl fun x a' w' hJ hk A' => ?_
 obtain ⟨b1, b2, b3, b4, b5, rfl, hA⟩ := hJ
 have hA := acc_keys hA hk
 obtain ⟨_, vs, q1, q2⟩ := hA _ List.mem_cons_self
 exact k b1 b2 b3 b4 b5 vs a' w' ((aoth_den b1 b2 b3 b4 b5).trans q1) q2 (aoth_rows hA (Nat.le_refl _)) A'
end
def armT : List (List UInt8 × List UInt8 × In × List Int) := (((acomp ++ aaccT) ++ aatom) ++ afen) ++ aothT
theorem alang_ : FnR Tryz.prog 103 [] [] (fun x w w' => ∃ (L : List Rw) (b cp : Nat), x = .agg [.str [88, 48], .str [88, 49], .str [88, 50], .str [88, 51], .str [88, 52], .str [88, 53], .str [88, 54], .str [88, 55], .str [66], .str [72], .str [87], .str [], .str [35], .str [], .str [], .str [], .sla (some ⟨b, 0, none⟩) 31 cp] ∧ (L.map tm = armT ∧ RowsIn w.heap.size L w' [b]) ∧ w.heap.size ≤ b ∧ Given 164 20 31 (fun zz => rwc (L.getD zz Rw.z)) b cp w') :=
 enterR (n := 11) (by kernel_rfl) Tryz.func103 rfl rfl rfl fun G w a h0 A => N9 7 A rfl rfl fun A => C9 [] (aregs_ ) A rfl fun A => N9 1 A rfl rfl fun A => have hz := A.mix.size; CALLROW (t := 3) (F := fun (L : List Rw) zz => rwc (L.getD zz Rw.z)) (R := fun L b w w' => L.map tm = acomp ∧ RowsIn w.heap.size L w' [b]) acomp_ A rfl rfl fun L1 e1 cp1 a1_ w1 G1 hR1 hlo hk A => have l1 : L1.length = 10 := (by have q := congrArg List.length hR1.1; rw [List.length_map] at q; exact q); have hI := (rows_keys hR1.2 hk).mono hz; have B := A; have A := B.base; 
 have hz := Nat.le_trans B.mix.size A.mix.size; CALLACC A rfl fun p1 p2 p3 vp a2_ w2 hv hL hO A => have hI := (RowsIn.ok _ _ _ _ hI A.mix A.keys_own).app (hO.mono hz); have lx2 : (aaccR p1 p2).length = 5 := rfl; have l12 : (L1 ++ (aaccR p1 p2)).length = 15 := (by rw [List.length_append, l1, lx2]); have B := B.trans A; have A := A.base; have A := A.adoptL Rw.z rwc 20 tyR.1 tyR.2.1 tyR.2.2 (aaccR p1 p2) hL hv 4 rfl;
 have hz := Nat.le_trans B.mix.size A.mix.size; CALLROW (t := 5) (F := fun (L : List Rw) zz => rwc (L.getD zz Rw.z)) (R := fun L b w w' => L.map tm = aatom ∧ RowsIn w.heap.size L w' [b]) aatom_ A rfl rfl fun L3 e3 cp3 a3_ w3 G3 hR3 hlo hk A => have lx3 : L3.length = 8 := (by have q := congrArg List.length hR3.1; rw [List.length_map] at q; exact q); have hI2 := (rows_keys hR3.2 hk).mono hz; have hI := (RowsIn.ok _ _ _ _ hI A.mix A.keys_own).app hI2; have l13 : ((L1 ++ (aaccR p1 p2)) ++ L3).length = 23 := (by rw [List.length_append, l12, lx3]); have B := B.trans A; have A := A.base; 
 have hz := Nat.le_trans B.mix.size A.mix.size; CALLROW (t := 6) (F := fun (L : List Rw) zz => rwc (L.getD zz Rw.z)) (R := fun L b w w' => L.map tm = afen ∧ RowsIn w.heap.size L w' [b]) afen_ A rfl rfl fun L4 e4 cp4 a4_ w4 G4 hR4 hlo hk A => have lx4 : L4.length = 3 := (by have q := congrArg List.length hR4.1; rw [List.length_map] at q; exact q); have hI2 := (rows_keys hR4.2 hk).mono hz; have hI := (RowsIn.ok _ _ _ _ hI A.mix A.keys_own).app hI2; have l14 : (((L1 ++ (aaccR p1 p2)) ++ L3) ++ L4).length = 26 := (by rw [List.length_append, l13, lx4]); have B := B.trans A; have A := A.base; 
 have hz := Nat.le_trans B.mix.size A.mix.size; CALLAOT A rfl fun q1 q2 q3 q4 q5 vq a5_ w5 hv hL hO A => have hI := (RowsIn.ok _ _ _ _ hI A.mix A.keys_own).app (hO.mono hz); have lx5 : (aothR q1 q2 q3 q4).length = 5 := rfl; have l15 : ((((L1 ++ (aaccR p1 p2)) ++ L3) ++ L4) ++ (aothR q1 q2 q3 q4)).length = 31 := (by rw [List.length_append, l14, lx5]); have B := B.trans A; have A := A.base; have A := A.adoptL Rw.z rwc 20 tyR.1 tyR.2.1 tyR.2.2 (aothR q1 q2 q3 q4) hL hv 7 rfl;
 N9 1 A rfl rfl fun A => have A := A.freeze 1 rfl; have A := A.freeze 3 rfl; have A := A.freeze 4 rfl; C9 [6, 1, 2, 3, 4, 5] (concat5_ L1 (aaccR p1 p2) L3 L4 (aothR q1 q2 q3 q4) 0 5 0 0 5 l1 l12 l13 l14) A rfl fun A => match A.giveRow 7 9 (by decide) rfl rfl rfl with | ⟨b, cp, A2, hG, ho, hkb⟩ => (have h1 := RowsIn.ok _ _ _ _ hI A2.mix A2.keys_own; have h2 := RowsIn.ok _ _ _ [b] hI A2.mix (fun b2 hb => by have : b2 = b := (by simpa using hb); rw [this]; exact ho); have hbl := lo_of B (fun i e he => nil_no he) ho; have B := B.trans A2; have A := A2.base;
 N9 5 A rfl rfl fun A => RETR (J := fun x w w' => ∃ (L : List Rw) (b cp : Nat), x = .agg [.str [88, 48], .str [88, 49], .str [88, 50], .str [88, 51], .str [88, 52], .str [88, 53], .str [88, 54], .str [88, 55], .str [66], .str [72], .str [87], .str [], .str [35], .str [], .str [], .str [], .sla (some ⟨b, 0, none⟩) 31 cp] ∧ (L.map tm = armT ∧ RowsIn w.heap.size L w' [b]) ∧ w.heap.size ≤ b ∧ Given 164 20 31 (fun zz => rwc (L.getD zz Rw.z)) b cp w') hX (B.trans A) (fun i e he => nil_no he) rfl rfl rfl rfl ⟨((((L1 ++ (aaccR p1 p2)) ++ L3) ++ L4) ++ (aothR q1 q2 q3 q4)), b, cp, rfl, ⟨by rw [List.map_append, List.map_append, List.map_append, List.map_append, hR1.1, hR3.1, hR4.1]; rfl, h1.one h2 A.mix⟩, hbl, hG.mix A.mix hkb⟩)
end Go.Proofs.YtjkppaijicjpoaaGreatDoor.Ar
namespace Go.Proofs.YtjkppaijicjpoaaGreatDoor

end Go.Proofs.YtjkppaijicjpoaaGreatDoor
namespace Go.Proofs.YtjkppaijicjpoaaGreatDoor.Ar
open Go.RowKit
set_option linter.unusedVariables false
set_option linter.unusedSimpArgs false
set_option maxRecDepth 100000
set_option maxHeartbeats 2000000
set_option simprocs false
def armG : Lg := ⟨[88, 48], [88, 49], [88, 50], [88, 51], [88, 52], [88, 53], [88, 54], [88, 55], [66], [72], [87], [], [35], [], [], []⟩
def armC : List Rw := armT.map rwOf
theorem arm_pr {L : List Rw} {i : In} {lb : List UInt8} (h : L.map tm = armT) : prP armG L i lb = prP armG armC i lb := by
 have := cn_prP (g := armG) (L := L) (i := i) (lb := lb)
 rw [cn_tm h] at this
 exact this.symm
theorem arm_lg : LgL armG := by
 refine ⟨⟨fun r => ?_, by decide⟩, fun k => ?_, by decide, by decide, by decide⟩
 ·unfold regnm0
  split
  ·exact Nat.zero_le _
  ·next h =>
   have : (r).toNat = 0 ∨ (r).toNat = 1 ∨ (r).toNat = 2 ∨ (r).toNat = 3 ∨ (r).toNat = 4 ∨ (r).toNat = 5 ∨ (r).toNat = 6 ∨ (r).toNat = 7 := by
    simp only [Bool.or_eq_true, decide_eq_true_eq] at h; omega
   rcases this with e | e | e | e | e | e | e | e <;> rw [e] <;> decide
 ·by_cases h : k < 4
  ·have : k = 0 ∨ k = 1 ∨ k = 2 ∨ k = 3 := by omega
   rcases this with rfl | rfl | rfl | rfl <;> decide
  ·rw [List.getD_eq_getElem?_getD, List.getElem?_eq_none (by simpa using h)]; decide
theorem arm_prok {L : List Rw} {i : In} {lb : List UInt8} (hi : InR i) (hl : lb.length ≤ 100000) (hm : L.map tm = armT) : PrOK armG L i lb := pr_ok hm arm_lg (by decide +kernel) (by decide +kernel) hi hl
theorem aprint_ (i : In) (lb : List UInt8) (os : List (Nat × Obj)) (hM : ∀ w ks, Gl os w ks → ∃ m, w.cell? ⟨1, 0, none⟩ = some (.int .i64 m)) (hT : ∀ w ks, Gl os w ks → Lib.TabIs Tryz.prog w "internal/strconv.uint64pow10" .u64 Lib.pow10Tab) (hE : ∀ w ks, Gl os w ks → ∃ ev, w.cell? ⟨4, 0, none⟩ = some ev ∧ (ev = .nilIface ∨ ∃ te pe, ev = .iface te pe)) (hp : ∀ L : List Rw, L.map tm = armT → PrOK armG L i lb) : FnI (Gl os) Tryz.prog 77 [.agg (inQ9 i), .str lb] [] (Rt (.tup [.str ((prP armG armC i lb).1), .int .i64 ((prP armG armC i lb).2)]) []) :=
 enterI (n := 12) (by kernel_rfl) Tryz.func77 rfl rfl rfl fun G w a h0 hI A => N9 8 A rfl rfl fun A => any_in 8 hmo rfl A fun A => any_at (rs := [0, 1, 2]) (by kernel_rfl) (by decide) (fc9 ⟨any_agg (t := 6) (l := [.str [88, 48], .str [88, 49], .str [88, 50], .str [88, 51], .str [88, 52], .str [88, 53], .str [88, 54], .str [88, 55], .str [66], .str [72], .str [87], .str [], .str [35], .str [], .str [], .str []]) (F := fun (L : List Rw) zz => rwc (L.getD zz Rw.z)) (R := fun L b w w' => L.map tm = armT ∧ RowsIn w.heap.size L w' [b]) rfl alang_ A rfl rfl fun L b cp a1 w1 G1 hR hlo hkk A => have hl20 : L.length = 31 := (by have q := congrArg List.length hR.1; rw [List.length_map] at q; exact q.trans (by decide +kernel)); have hRI := rows_keys hR.2 hkk; have B0 := A; have A := A.base; have A := A.rowAs 1 L.length (fun zz => rwc (L.getD zz Rw.z)) rfl hl20 (fun _ _ => rfl) (fun z => ⟨_, rfl, rfl⟩); have A := A.say 6 (.agg [.str [88, 48], .str [88, 49], .str [88, 50], .str [88, 51], .str [88, 52], .str [88, 53], .str [88, 54], .str [88, 55], .str [66], .str [72], .str [87], .str [], .str [35], .str [], .str [], .str [], .sl 1 L.length 0]) rfl (by rw [hl20] <;> rfl); have A := A.freeze 1 rfl; have hTb := RowsIn.ok.now A hRI; have B := B0.trans A; have A := A.base; have hI2 : PrI os L _ _ := ⟨fun r hr => (hTb r hr).1, Gl.ok.now B hI⟩; any_at (rs := [1, 2]) (by kernel_rfl) (by decide) (fc9 ⟨aV9 (.agg (inQ9 i)) rfl A rfl rfl fun A => any_at (rs := [2]) (by kernel_rfl) (by decide) (fc9 ⟨aV9 (.str lb) rfl A rfl rfl fun A => any_at (rs := [3]) (by kernel_rfl) (by decide) (fc9 ⟨any_eff (x := .tup [.str ((prP armG L i lb).1), .int .i64 ((prP armG L i lb).2)]) (H' := [some (.blk (inQ9 i)), some (lQ9 L)]) rfl A rfl (callIE [1] PrI.ok hI2 (lprint_ armG L 0 i lb os hM hT hE (hp L hR.1)) rfl rfl rfl rfl rfl rfl rfl) fun A => any_at (rs := [4, 5]) (by kernel_rfl) (by decide) (fc9 ⟨aV9 (.str ((prP armG L i lb).1)) rfl A rfl rfl fun A => any_at (rs := [5]) (by kernel_rfl) (by decide) (fc9 ⟨aV9 (.int .i64 ((prP armG L i lb).2)) rfl A rfl rfl fun A => any_at (rs := [6]) (by kernel_rfl) (by decide) (fc9 ⟨aV9 (.str ((prP armG L i lb).1)) rfl A rfl rfl fun A => any_at (rs := [7]) (by kernel_rfl) (by decide) (fc9 ⟨aV9 (.int .i64 ((prP armG L i lb).2)) rfl A rfl rfl fun A => any_end (by kernel_rfl) (N9 2 A rfl rfl fun A => R9 (B.trans A) rfl h0 rfl (by rw [← arm_pr hR.1] <;> rfl) rfl),
         (fn9)⟩),
        (fn9)⟩),
       (fn9)⟩),
      (fc9 ⟨aV9 (.int .i64 ((prP armG L i lb).2)) rfl A rfl rfl fun A => any_at (rs := [4]) (by kernel_rfl) (by decide) (fc9 ⟨aV9 (.str ((prP armG L i lb).1)) rfl A rfl rfl fun A => any_at (rs := [6]) (by kernel_rfl) (by decide) (fc9 ⟨aV9 (.str ((prP armG L i lb).1)) rfl A rfl rfl fun A => any_at (rs := [7]) (by kernel_rfl) (by decide) (fc9 ⟨aV9 (.int .i64 ((prP armG L i lb).2)) rfl A rfl rfl fun A => any_end (by kernel_rfl) (N9 2 A rfl rfl fun A => R9 (B.trans A) rfl h0 rfl (by rw [← arm_pr hR.1] <;> rfl) rfl),
         (fn9)⟩),
        (fn9)⟩),
       (fn9)⟩),
      (fn9)⟩)⟩),
     (fn9)⟩),
    (fn9)⟩),
   (fc9 ⟨aV9 (.str lb) rfl A rfl rfl fun A => any_at (rs := [1]) (by kernel_rfl) (by decide) (fc9 ⟨aV9 (.agg (inQ9 i)) rfl A rfl rfl fun A => any_at (rs := [3]) (by kernel_rfl) (by decide) (fc9 ⟨any_eff (x := .tup [.str ((prP armG L i lb).1), .int .i64 ((prP armG L i lb).2)]) (H' := [some (.blk (inQ9 i)), some (lQ9 L)]) rfl A rfl (callIE [1] PrI.ok hI2 (lprint_ armG L 0 i lb os hM hT hE (hp L hR.1)) rfl rfl rfl rfl rfl rfl rfl) fun A => any_at (rs := [4, 5]) (by kernel_rfl) (by decide) (fc9 ⟨aV9 (.str ((prP armG L i lb).1)) rfl A rfl rfl fun A => any_at (rs := [5]) (by kernel_rfl) (by decide) (fc9 ⟨aV9 (.int .i64 ((prP armG L i lb).2)) rfl A rfl rfl fun A => any_at (rs := [6]) (by kernel_rfl) (by decide) (fc9 ⟨aV9 (.str ((prP armG L i lb).1)) rfl A rfl rfl fun A => any_at (rs := [7]) (by kernel_rfl) (by decide) (fc9 ⟨aV9 (.int .i64 ((prP armG L i lb).2)) rfl A rfl rfl fun A => any_end (by kernel_rfl) (N9 2 A rfl rfl fun A => R9 (B.trans A) rfl h0 rfl (by rw [← arm_pr hR.1] <;> rfl) rfl),
         (fn9)⟩),
        (fn9)⟩),
       (fn9)⟩),
      (fc9 ⟨aV9 (.int .i64 ((prP armG L i lb).2)) rfl A rfl rfl fun A => any_at (rs := [4]) (by kernel_rfl) (by decide) (fc9 ⟨aV9 (.str ((prP armG L i lb).1)) rfl A rfl rfl fun A => any_at (rs := [6]) (by kernel_rfl) (by decide) (fc9 ⟨aV9 (.str ((prP armG L i lb).1)) rfl A rfl rfl fun A => any_at (rs := [7]) (by kernel_rfl) (by decide) (fc9 ⟨aV9 (.int .i64 ((prP armG L i lb).2)) rfl A rfl rfl fun A => any_end (by kernel_rfl) (N9 2 A rfl rfl fun A => R9 (B.trans A) rfl h0 rfl (by rw [← arm_pr hR.1] <;> rfl) rfl),
         (fn9)⟩),
        (fn9)⟩),
       (fn9)⟩),
      (fn9)⟩)⟩),
     (fn9)⟩),
    (fn9)⟩),
   (fn9)⟩)⟩),
  (fc9 ⟨aV9 (.agg (inQ9 i)) rfl A rfl rfl fun A => any_at (rs := [0, 2]) (by kernel_rfl) (by decide) (fc9 ⟨any_agg (t := 6) (l := [.str [88, 48], .str [88, 49], .str [88, 50], .str [88, 51], .str [88, 52], .str [88, 53], .str [88, 54], .str [88, 55], .str [66], .str [72], .str [87], .str [], .str [35], .str [], .str [], .str []]) (F := fun (L : List Rw) zz => rwc (L.getD zz Rw.z)) (R := fun L b w w' => L.map tm = armT ∧ RowsIn w.heap.size L w' [b]) rfl alang_ A rfl rfl fun L b cp a1 w1 G1 hR hlo hkk A => have hl20 : L.length = 31 := (by have q := congrArg List.length hR.1; rw [List.length_map] at q; exact q.trans (by decide +kernel)); have hRI := rows_keys hR.2 hkk; have B0 := A; have A := A.base; have A := A.rowAs 1 L.length (fun zz => rwc (L.getD zz Rw.z)) rfl hl20 (fun _ _ => rfl) (fun z => ⟨_, rfl, rfl⟩); have A := A.say 6 (.agg [.str [88, 48], .str [88, 49], .str [88, 50], .str [88, 51], .str [88, 52], .str [88, 53], .str [88, 54], .str [88, 55], .str [66], .str [72], .str [87], .str [], .str [35], .str [], .str [], .str [], .sl 1 L.length 0]) rfl (by rw [hl20] <;> rfl); have A := A.freeze 1 rfl; have hTb := RowsIn.ok.now A hRI; have B := B0.trans A; have A := A.base; have hI2 : PrI os L _ _ := ⟨fun r hr => (hTb r hr).1, Gl.ok.now B hI⟩; any_at (rs := [2]) (by kernel_rfl) (by decide) (fc9 ⟨aV9 (.str lb) rfl A rfl rfl fun A => any_at (rs := [3]) (by kernel_rfl) (by decide) (fc9 ⟨any_eff (x := .tup [.str ((prP armG L i lb).1), .int .i64 ((prP armG L i lb).2)]) (H' := [some (.blk (inQ9 i)), some (lQ9 L)]) rfl A rfl (callIE [1] PrI.ok hI2 (lprint_ armG L 0 i lb os hM hT hE (hp L hR.1)) rfl rfl rfl rfl rfl rfl rfl) fun A => any_at (rs := [4, 5]) (by kernel_rfl) (by decide) (fc9 ⟨aV9 (.str ((prP armG L i lb).1)) rfl A rfl rfl fun A => any_at (rs := [5]) (by kernel_rfl) (by decide) (fc9 ⟨aV9 (.int .i64 ((prP armG L i lb).2)) rfl A rfl rfl fun A => any_at (rs := [6]) (by kernel_rfl) (by decide) (fc9 ⟨aV9 (.str ((prP armG L i lb).1)) rfl A rfl rfl fun A => any_at (rs := [7]) (by kernel_rfl) (by decide) (fc9 ⟨aV9 (.int .i64 ((prP armG L i lb).2)) rfl A rfl rfl fun A => any_end (by kernel_rfl) (N9 2 A rfl rfl fun A => R9 (B.trans A) rfl h0 rfl (by rw [← arm_pr hR.1] <;> rfl) rfl),
         (fn9)⟩),
        (fn9)⟩),
       (fn9)⟩),
      (fc9 ⟨aV9 (.int .i64 ((prP armG L i lb).2)) rfl A rfl rfl fun A => any_at (rs := [4]) (by kernel_rfl) (by decide) (fc9 ⟨aV9 (.str ((prP armG L i lb).1)) rfl A rfl rfl fun A => any_at (rs := [6]) (by kernel_rfl) (by decide) (fc9 ⟨aV9 (.str ((prP armG L i lb).1)) rfl A rfl rfl fun A => any_at (rs := [7]) (by kernel_rfl) (by decide) (fc9 ⟨aV9 (.int .i64 ((prP armG L i lb).2)) rfl A rfl rfl fun A => any_end (by kernel_rfl) (N9 2 A rfl rfl fun A => R9 (B.trans A) rfl h0 rfl (by rw [← arm_pr hR.1] <;> rfl) rfl),
         (fn9)⟩),
        (fn9)⟩),
       (fn9)⟩),
      (fn9)⟩)⟩),
     (fn9)⟩),
    (fn9)⟩),
   (fc9 ⟨aV9 (.str lb) rfl A rfl rfl fun A => any_at (rs := [0]) (by kernel_rfl) (by decide) (fc9 ⟨any_agg (t := 6) (l := [.str [88, 48], .str [88, 49], .str [88, 50], .str [88, 51], .str [88, 52], .str [88, 53], .str [88, 54], .str [88, 55], .str [66], .str [72], .str [87], .str [], .str [35], .str [], .str [], .str []]) (F := fun (L : List Rw) zz => rwc (L.getD zz Rw.z)) (R := fun L b w w' => L.map tm = armT ∧ RowsIn w.heap.size L w' [b]) rfl alang_ A rfl rfl fun L b cp a1 w1 G1 hR hlo hkk A => have hl20 : L.length = 31 := (by have q := congrArg List.length hR.1; rw [List.length_map] at q; exact q.trans (by decide +kernel)); have hRI := rows_keys hR.2 hkk; have B0 := A; have A := A.base; have A := A.rowAs 1 L.length (fun zz => rwc (L.getD zz Rw.z)) rfl hl20 (fun _ _ => rfl) (fun z => ⟨_, rfl, rfl⟩); have A := A.say 6 (.agg [.str [88, 48], .str [88, 49], .str [88, 50], .str [88, 51], .str [88, 52], .str [88, 53], .str [88, 54], .str [88, 55], .str [66], .str [72], .str [87], .str [], .str [35], .str [], .str [], .str [], .sl 1 L.length 0]) rfl (by rw [hl20] <;> rfl); have A := A.freeze 1 rfl; have hTb := RowsIn.ok.now A hRI; have B := B0.trans A; have A := A.base; have hI2 : PrI os L _ _ := ⟨fun r hr => (hTb r hr).1, Gl.ok.now B hI⟩; any_at (rs := [3]) (by kernel_rfl) (by decide) (fc9 ⟨any_eff (x := .tup [.str ((prP armG L i lb).1), .int .i64 ((prP armG L i lb).2)]) (H' := [some (.blk (inQ9 i)), some (lQ9 L)]) rfl A rfl (callIE [1] PrI.ok hI2 (lprint_ armG L 0 i lb os hM hT hE (hp L hR.1)) rfl rfl rfl rfl rfl rfl rfl) fun A => any_at (rs := [4, 5]) (by kernel_rfl) (by decide) (fc9 ⟨aV9 (.str ((prP armG L i lb).1)) rfl A rfl rfl fun A => any_at (rs := [5]) (by kernel_rfl) (by decide) (fc9 ⟨aV9 (.int .i64 ((prP armG L i lb).2)) rfl A rfl rfl fun A => any_at (rs := [6]) (by kernel_rfl) (by decide) (fc9 ⟨aV9 (.str ((prP armG L i lb).1)) rfl A rfl rfl fun A => any_at (rs := [7]) (by kernel_rfl) (by decide) (fc9 ⟨aV9 (.int .i64 ((prP armG L i lb).2)) rfl A rfl rfl fun A => any_end (by kernel_rfl) (N9 2 A rfl rfl fun A => R9 (B.trans A) rfl h0 rfl (by rw [← arm_pr hR.1] <;> rfl) rfl),
         (fn9)⟩),
        (fn9)⟩),
       (fn9)⟩),
      (fc9 ⟨aV9 (.int .i64 ((prP armG L i lb).2)) rfl A rfl rfl fun A => any_at (rs := [4]) (by kernel_rfl) (by decide) (fc9 ⟨aV9 (.str ((prP armG L i lb).1)) rfl A rfl rfl fun A => any_at (rs := [6]) (by kernel_rfl) (by decide) (fc9 ⟨aV9 (.str ((prP armG L i lb).1)) rfl A rfl rfl fun A => any_at (rs := [7]) (by kernel_rfl) (by decide) (fc9 ⟨aV9 (.int .i64 ((prP armG L i lb).2)) rfl A rfl rfl fun A => any_end (by kernel_rfl) (N9 2 A rfl rfl fun A => R9 (B.trans A) rfl h0 rfl (by rw [← arm_pr hR.1] <;> rfl) rfl),
         (fn9)⟩),
        (fn9)⟩),
       (fn9)⟩),
      (fn9)⟩)⟩),
     (fn9)⟩),
    (fn9)⟩),
   (fn9)⟩)⟩),
  (fc9 ⟨aV9 (.str lb) rfl A rfl rfl fun A => any_at (rs := [0, 1]) (by kernel_rfl) (by decide) (fc9 ⟨any_agg (t := 6) (l := [.str [88, 48], .str [88, 49], .str [88, 50], .str [88, 51], .str [88, 52], .str [88, 53], .str [88, 54], .str [88, 55], .str [66], .str [72], .str [87], .str [], .str [35], .str [], .str [], .str []]) (F := fun (L : List Rw) zz => rwc (L.getD zz Rw.z)) (R := fun L b w w' => L.map tm = armT ∧ RowsIn w.heap.size L w' [b]) rfl alang_ A rfl rfl fun L b cp a1 w1 G1 hR hlo hkk A => have hl20 : L.length = 31 := (by have q := congrArg List.length hR.1; rw [List.length_map] at q; exact q.trans (by decide +kernel)); have hRI := rows_keys hR.2 hkk; have B0 := A; have A := A.base; have A := A.rowAs 1 L.length (fun zz => rwc (L.getD zz Rw.z)) rfl hl20 (fun _ _ => rfl) (fun z => ⟨_, rfl, rfl⟩); have A := A.say 6 (.agg [.str [88, 48], .str [88, 49], .str [88, 50], .str [88, 51], .str [88, 52], .str [88, 53], .str [88, 54], .str [88, 55], .str [66], .str [72], .str [87], .str [], .str [35], .str [], .str [], .str [], .sl 1 L.length 0]) rfl (by rw [hl20] <;> rfl); have A := A.freeze 1 rfl; have hTb := RowsIn.ok.now A hRI; have B := B0.trans A; have A := A.base; have hI2 : PrI os L _ _ := ⟨fun r hr => (hTb r hr).1, Gl.ok.now B hI⟩; any_at (rs := [1]) (by kernel_rfl) (by decide) (fc9 ⟨aV9 (.agg (inQ9 i)) rfl A rfl rfl fun A => any_at (rs := [3]) (by kernel_rfl) (by decide) (fc9 ⟨any_eff (x := .tup [.str ((prP armG L i lb).1), .int .i64 ((prP armG L i lb).2)]) (H' := [some (.blk (inQ9 i)), some (lQ9 L)]) rfl A rfl (callIE [1] PrI.ok hI2 (lprint_ armG L 0 i lb os hM hT hE (hp L hR.1)) rfl rfl rfl rfl rfl rfl rfl) fun A => any_at (rs := [4, 5]) (by kernel_rfl) (by decide) (fc9 ⟨aV9 (.str ((prP armG L i lb).1)) rfl A rfl rfl fun A => any_at (rs := [5]) (by kernel_rfl) (by decide) (fc9 ⟨aV9 (.int .i64 ((prP armG L i lb).2)) rfl A rfl rfl fun A => any_at (rs := [6]) (by kernel_rfl) (by decide) (fc9 ⟨aV9 (.str ((prP armG L i lb).1)) rfl A rfl rfl fun A => any_at (rs := [7]) (by kernel_rfl) (by decide) (fc9 ⟨aV9 (.int .i64 ((prP armG L i lb).2)) rfl A rfl rfl fun A => any_end (by kernel_rfl) (N9 2 A rfl rfl fun A => R9 (B.trans A) rfl h0 rfl (by rw [← arm_pr hR.1] <;> rfl) rfl),
         (fn9)⟩),
        (fn9)⟩),
       (fn9)⟩),
      (fc9 ⟨aV9 (.int .i64 ((prP armG L i lb).2)) rfl A rfl rfl fun A => any_at (rs := [4]) (by kernel_rfl) (by decide) (fc9 ⟨aV9 (.str ((prP armG L i lb).1)) rfl A rfl rfl fun A => any_at (rs := [6]) (by kernel_rfl) (by decide) (fc9 ⟨aV9 (.str ((prP armG L i lb).1)) rfl A rfl rfl fun A => any_at (rs := [7]) (by kernel_rfl) (by decide) (fc9 ⟨aV9 (.int .i64 ((prP armG L i lb).2)) rfl A rfl rfl fun A => any_end (by kernel_rfl) (N9 2 A rfl rfl fun A => R9 (B.trans A) rfl h0 rfl (by rw [← arm_pr hR.1] <;> rfl) rfl),
         (fn9)⟩),
        (fn9)⟩),
       (fn9)⟩),
      (fn9)⟩)⟩),
     (fn9)⟩),
    (fn9)⟩),
   (fc9 ⟨aV9 (.agg (inQ9 i)) rfl A rfl rfl fun A => any_at (rs := [0]) (by kernel_rfl) (by decide) (fc9 ⟨any_agg (t := 6) (l := [.str [88, 48], .str [88, 49], .str [88, 50], .str [88, 51], .str [88, 52], .str [88, 53], .str [88, 54], .str [88, 55], .str [66], .str [72], .str [87], .str [], .str [35], .str [], .str [], .str []]) (F := fun (L : List Rw) zz => rwc (L.getD zz Rw.z)) (R := fun L b w w' => L.map tm = armT ∧ RowsIn w.heap.size L w' [b]) rfl alang_ A rfl rfl fun L b cp a1 w1 G1 hR hlo hkk A => have hl20 : L.length = 31 := (by have q := congrArg List.length hR.1; rw [List.length_map] at q; exact q.trans (by decide +kernel)); have hRI := rows_keys hR.2 hkk; have B0 := A; have A := A.base; have A := A.rowAs 1 L.length (fun zz => rwc (L.getD zz Rw.z)) rfl hl20 (fun _ _ => rfl) (fun z => ⟨_, rfl, rfl⟩); have A := A.say 6 (.agg [.str [88, 48], .str [88, 49], .str [88, 50], .str [88, 51], .str [88, 52], .str [88, 53], .str [88, 54], .str [88, 55], .str [66], .str [72], .str [87], .str [], .str [35], .str [], .str [], .str [], .sl 1 L.length 0]) rfl (by rw [hl20] <;> rfl); have A := A.freeze 1 rfl; have hTb := RowsIn.ok.now A hRI; have B := B0.trans A; have A := A.base; have hI2 : PrI os L _ _ := ⟨fun r hr => (hTb r hr).1, Gl.ok.now B hI⟩; any_at (rs := [3]) (by kernel_rfl) (by decide) (fc9 ⟨any_eff (x := .tup [.str ((prP armG L i lb).1), .int .i64 ((prP armG L i lb).2)]) (H' := [some (.blk (inQ9 i)), some (lQ9 L)]) rfl A rfl (callIE [1] PrI.ok hI2 (lprint_ armG L 0 i lb os hM hT hE (hp L hR.1)) rfl rfl rfl rfl rfl rfl rfl) fun A => any_at (rs := [4, 5]) (by kernel_rfl) (by decide) (fc9 ⟨aV9 (.str ((prP armG L i lb).1)) rfl A rfl rfl fun A => any_at (rs := [5]) (by kernel_rfl) (by decide) (fc9 ⟨aV9 (.int .i64 ((prP armG L i lb).2)) rfl A rfl rfl fun A => any_at (rs := [6]) (by kernel_rfl) (by decide) (fc9 ⟨aV9 (.str ((prP armG L i lb).1)) rfl A rfl rfl fun A => any_at (rs := [7]) (by kernel_rfl) (by decide) (fc9 ⟨aV9 (.int .i64 ((prP armG L i lb).2)) rfl A rfl rfl fun A => any_end (by kernel_rfl) (N9 2 A rfl rfl fun A => R9 (B.trans A) rfl h0 rfl (by rw [← arm_pr hR.1] <;> rfl) rfl),
         (fn9)⟩),
        (fn9)⟩),
       (fn9)⟩),
      (fc9 ⟨aV9 (.int .i64 ((prP armG L i lb).2)) rfl A rfl rfl fun A => any_at (rs := [4]) (by kernel_rfl) (by decide) (fc9 ⟨aV9 (.str ((prP armG L i lb).1)) rfl A rfl rfl fun A => any_at (rs := [6]) (by kernel_rfl) (by decide) (fc9 ⟨aV9 (.str ((prP armG L i lb).1)) rfl A rfl rfl fun A => any_at (rs := [7]) (by kernel_rfl) (by decide) (fc9 ⟨aV9 (.int .i64 ((prP armG L i lb).2)) rfl A rfl rfl fun A => any_end (by kernel_rfl) (N9 2 A rfl rfl fun A => R9 (B.trans A) rfl h0 rfl (by rw [← arm_pr hR.1] <;> rfl) rfl),
         (fn9)⟩),
        (fn9)⟩),
       (fn9)⟩),
      (fn9)⟩)⟩),
     (fn9)⟩),
    (fn9)⟩),
   (fn9)⟩)⟩),
  (fn9)⟩)⟩)⟩)
end Go.Proofs.YtjkppaijicjpoaaGreatDoor.Ar
namespace Go.Proofs.YtjkppaijicjpoaaGreatDoor
open Go.RowKit
set_option linter.unusedVariables false
set_option linter.unusedSimpArgs false
set_option maxRecDepth 100000
set_option maxHeartbeats 2000000
set_option simprocs false
def labL (k : Int) : List UInt8 := [76] ++ Lib.itoa k
theorem labL_len (k : Int) (h1 : -9223372036854775808 ≤ k) (h2 : k ≤ 9223372036854775807) : (labL k).length ≤ 22 := by
 have := Lib.itoa_length_le k h1 h2
 unfold labL; rw [List.length_append]; show 1 + _ ≤ _; omega
def GC (os : List (Nat × Obj)) (cs : List Cde) : Amb := fun w ks => Gl os w ks ∧ CodesAt cs w ks
theorem GC.ok {os : List (Nat × Obj)} {cs : List Cde} : Amb.OK (GC os cs) := fun w ks w' ks' h m hk => ⟨Gl.ok _ _ _ _ h.1 m hk, CodesAt.ok _ _ _ _ h.2 m hk⟩
def okI (i : In) : Prop := InR i ∧ -9223372036854775808 ≤ i.to_ ∧ i.to_ ≤ 9223372036854775807
def prAll (pe : In → Int) (cs : List Cde) : Bool := cs.all fun c => c.l.all fun i => pe i == 0
structure Q1 (pe : In → Int) (cs : List Cde) (i : Nat) : Prop where
 le : i ≤ cs.length
 ok : ∀ j, j < i → ((cs.getD j Cde.z).l.all fun i => pe i == 0) = true
structure Q2 (pe : In → Int) (c : Cde) (k : Nat) : Prop where
 le : k ≤ c.l.length
 ok : ∀ j, j < k → pe (c.l.getD j In.z) = 0
section
variable {pe : In → Int} {cs : List Cde} {c : Cde} {i k : Nat}
theorem in_at (h : (k : Int) < ((c.l.length : Nat) : Int)) : c.l.getD ((k : Int)).toNat In.z ∈ c.l := by
 rw [Int.toNat_natCast, List.getD_eq_getElem?_getD, List.getElem?_eq_getElem (by omega)]; exact List.getElem_mem _
theorem cd_at (h : (i : Int) < ((cs.length : Nat) : Int)) : cs.getD ((i : Int)).toNat Cde.z ∈ cs := by
 rw [Int.toNat_natCast, List.getD_eq_getElem?_getD, List.getElem?_eq_getElem (by omega)]; exact List.getElem_mem _
theorem Q2.i0 : Q2 pe c 0 := ⟨Nat.zero_le _, fun j hj => by omega⟩
theorem Q2.nx (h : Q2 pe c k) (h1 : (k : Int) < ((c.l.length : Nat) : Int)) (h2 : pe (c.l.getD ((k : Int)).toNat In.z) = 0) : Q2 pe c (k + 1) := ⟨by omega, fun j hj => by
 by_cases e : j = k
 ·subst e; rw [Int.toNat_natCast] at h2; exact h2
 ·exact h.ok j (by omega)⟩
theorem Q2.good (h : Q2 pe c k) (h1 : ¬ (k : Int) < ((c.l.length : Nat) : Int)) : (c.l.all fun i => pe i == 0) = true := by
 rw [List.all_eq_true]
 intro i hi
 obtain ⟨j, hj, rfl⟩ := List.mem_iff_getElem.1 hi
 have := h.ok j (by omega)
 rw [List.getD_eq_getElem?_getD, List.getElem?_eq_getElem hj] at this
 exact beq_iff_eq.2 this
theorem Q1.i0 : Q1 pe cs 0 := ⟨Nat.zero_le _, fun j hj => by omega⟩
theorem Q1.nx (h : Q1 pe cs i) (h1 : (i : Int) < ((cs.length : Nat) : Int)) (h2 : ((cs.getD ((i : Int)).toNat Cde.z).l.all fun i => pe i == 0) = true) : Q1 pe cs (i + 1) := ⟨by omega, fun j hj => by
 by_cases e : j = i
 ·subst e; rw [Int.toNat_natCast] at h2; exact h2
 ·exact h.ok j (by omega)⟩
theorem Q1.good (h : Q1 pe cs i) (h1 : ¬ (i : Int) < ((cs.length : Nat) : Int)) : prAll pe cs = true := by
 unfold prAll
 rw [List.all_eq_true]
 intro c hc
 obtain ⟨j, hj, rfl⟩ := List.mem_iff_getElem.1 hc
 have := h.ok j (by omega)
 rw [List.getD_eq_getElem?_getD, List.getElem?_eq_getElem hj] at this
 exact this
theorem prAll_bad (h1 : (i : Int) < ((cs.length : Nat) : Int)) (h2 : (k : Int) < (((cs.getD ((i : Int)).toNat Cde.z).l.length : Nat) : Int)) (h3 : pe ((cs.getD ((i : Int)).toNat Cde.z).l.getD ((k : Int)).toNat In.z) ≠ 0) : prAll pe cs = false := by
 cases hq : prAll pe cs with
 | false => rfl
 | true =>
  unfold prAll at hq
  have e1 := List.all_eq_true.1 hq _ (cd_at h1)
  have e2 := List.all_eq_true.1 e1 _ (in_at h2)
  exact absurd (eq_of_beq e2) h3
end
theorem lab_ (k : Int) (os : List (Nat × Obj)) (hM : ∀ w ks, Gl os w ks → ∃ m, w.cell? ⟨1, 0, none⟩ = some (.int .i64 m)) (hT : ∀ w ks, Gl os w ks → Lib.TabIs Tryz.prog w "internal/strconv.uint64pow10" .u64 Lib.pow10Tab) (hE : ∀ w ks, Gl os w ks → ∃ ev, w.cell? ⟨4, 0, none⟩ = some ev ∧ (ev = .nilIface ∨ ∃ te pe, ev = .iface te pe)) (h1 : -9223372036854775808 ≤ k) (h2 : k ≤ 9223372036854775807) : FnI (Gl os) Tryz.prog 51 [.int .i64 k] [] (Rt (.str (labL k)) []) :=
 enterI (n := 6) (by kernel_rfl) Tryz.func51 rfl rfl rfl fun G w a h0 hI A => N9 8 A rfl rfl fun A => I9 [] Gl.ok hI (itoaI_ k os hM hT h1 h2) A rfl fun A => N9 5 A rfl (ok_d (by have := Lib.itoa_length_le k h1 h2; (try simp only [List.length_append, List.length_cons, List.length_nil]); omega) <| okE_nil) fun A => R9 A rfl h0 rfl rfl rfl
theorem printsAll_ (cs : List Cde) (cx : Nat) (tt : List UInt8) (f1 fp f3 : Nat) (pt : In → List UInt8 → List UInt8) (pe : In → List UInt8 → Int) (os : List (Nat × Obj)) (hM : ∀ w ks, Gl os w ks → ∃ m, w.cell? ⟨1, 0, none⟩ = some (.int .i64 m)) (hT : ∀ w ks, Gl os w ks → Lib.TabIs Tryz.prog w "internal/strconv.uint64pow10" .u64 Lib.pow10Tab) (hE : ∀ w ks, Gl os w ks → ∃ ev, w.cell? ⟨4, 0, none⟩ = some ev ∧ (ev = .nilIface ∨ ∃ te pe, ev = .iface te pe)) (hp : ∀ (i : In) (lb : List UInt8), InR i → lb.length ≤ 100000 → FnI (Gl os) Tryz.prog fp [.agg (insS i), .str lb] [] (Rt (.tup [.str (pt i lb), .int .i64 (pe i lb)]) [])) (hs : ∀ c ∈ cs, c.l.length ≤ 9223372036854775807) (hn : cs.length ≤ 9223372036854775807) (hR : ∀ c ∈ cs, ∀ i ∈ c.l, okI i) : FnI (GC os cs) Tryz.prog 26 [.agg [.str tt, .fn f1 [], .fn fp [], .fn f3 []], .sl 0 cs.length cx] [some (.lst 1 cs.length (fun zz => cdc (cs.getD zz Cde.z)))] (Rt (.bool (prAll (fun i => pe i (labL i.to_)) cs)) [some (.lst 1 cs.length (fun zz => cdc (cs.getD zz Cde.z)))]) :=
 enterI (n := 37) (by kernel_rfl) Tryz.func26 rfl rfl rfl fun G w a h0 hI A => N9 15 A rfl rfl fun A => LOOP1 (fun (i : Nat) => [(2, .ptr 1 0), (4, .ff), (11, .sl 0 cs.length cx), (12, .int .i64 ((cs.length : Nat) : Int)), (13, .int .i64 (i : Int))]) (fun (i : Nat) => [some (.lst 1 cs.length (fun zz => cdc (cs.getD zz Cde.z))), some (.blk [.str tt, .fn f1 [], .fn fp [], .fn f3 []])]) (fun (i : Nat) => Q1 (fun i => pe i (labL i.to_)) cs i) (fun (i : Nat) => cs.length - i) 0 Q1.i0 ((A.cut [2, 4, 11, 12, 13] rfl).trunc 2 rfl rfl rfl (by simp only [List.length_cons, List.length_nil] at h0; omega)) fun i hJ {G a w} A => N9 6 A rfl rfl fun A => forkD 14 A rfl
   (fun h1 A => N9 13 A rfl (ok_d (by (try have hy := len_at hs ((i : Int)).toNat); (try have := hK.le); (try have := hJ.le); omega) <| ok_d (by (try have hy := len_at hs ((i : Int)).toNat); (try have := hK.le); (try have := hJ.le); omega) <| okE_nil) fun A => N9 7 A rfl rfl fun A => LOOP1 (fun (k : Nat) => [(2, .ptr 1 0), (4, .ff), (11, .sl 0 cs.length cx), (12, .int .i64 ((cs.length : Nat) : Int)), (13, .int .i64 (i : Int)), (17, .sla ((cs.getD (((i : Int)).toNat) Cde.z).ao) ((cs.getD (((i : Int)).toNat) Cde.z).l.length) ((cs.getD (((i : Int)).toNat) Cde.z).cp)), (18, .int .i64 (((cs.getD (((i : Int)).toNat) Cde.z).l.length : Nat) : Int)), (19, .int .i64 (k : Int))]) (fun (k : Nat) => [some (.lst 1 cs.length (fun zz => cdc (cs.getD zz Cde.z))), some (.blk [.str tt, .fn f1 [], .fn fp [], .fn f3 []])]) (fun (k : Nat) => Q2 (fun i => pe i (labL i.to_)) (cs.getD ((i : Int)).toNat Cde.z) k) (fun (k : Nat) => (cs.getD ((i : Int)).toNat Cde.z).l.length - k) 0 Q2.i0 ((A.cut [2, 4, 11, 12, 13, 17, 18, 19] rfl).trunc 2 rfl rfl rfl (by simp only [List.length_cons, List.length_nil] at h0; omega)) fun k hK {G a w} A => N9 6 A rfl rfl fun A => forkD 20 A rfl
     (fun h2 A => N9 7 A rfl rfl fun A => ADOPTN (ao := (cs.getD (((i : Int)).toNat) Cde.z).ao) (s := 17) (m := (cs.getD (((i : Int)).toNat) Cde.z).l.length) (f := fun zz => insS ((cs.getD (((i : Int)).toNat) Cde.z).l.getD zz In.z)) hX 21 17 (hI.2.at (by omega)) (by omega) A rfl rfl rfl rfl rfl rfl (ok_d (by (try have hy := len_at hs ((i : Int)).toNat); (try have := hK.le); (try have := hJ.le); omega) <| okE_nil) fun A => N9 6 A rfl (ok_d (by (try have hy := len_at hs ((i : Int)).toNat); (try have := hK.le); (try have := hJ.le); omega) <| okE_nil) fun A => ANY hmo [.ptr 1 2, .fn fp [], .agg (inQ9 ((cs.getD (((i : Int)).toNat) Cde.z).l.getD (((k : Int)).toNat) In.z)), .ptr 3 15, .int .i64 (((cs.getD (((i : Int)).toNat) Cde.z).l.getD (((k : Int)).toNat) In.z).to_), .str (labL (((cs.getD (((i : Int)).toNat) Cde.z).l.getD (((k : Int)).toNat) In.z).to_)), .tup [.str (pt ((cs.getD (((i : Int)).toNat) Cde.z).l.getD (((k : Int)).toNat) In.z) (labL (((cs.getD (((i : Int)).toNat) Cde.z).l.getD (((k : Int)).toNat) In.z).to_))), .int .i64 (pe ((cs.getD (((i : Int)).toNat) Cde.z).l.getD (((k : Int)).toNat) In.z) (labL (((cs.getD (((i : Int)).toNat) Cde.z).l.getD (((k : Int)).toNat) In.z).to_)))], .tup [.str (pt ((cs.getD (((i : Int)).toNat) Cde.z).l.getD (((k : Int)).toNat) In.z) (labL (((cs.getD (((i : Int)).toNat) Cde.z).l.getD (((k : Int)).toNat) In.z).to_))), .int .i64 (pe ((cs.getD (((i : Int)).toNat) Cde.z).l.getD (((k : Int)).toNat) In.z) (labL (((cs.getD (((i : Int)).toNat) Cde.z).l.getD (((k : Int)).toNat) In.z).to_)))], .str (pt ((cs.getD (((i : Int)).toNat) Cde.z).l.getD (((k : Int)).toNat) In.z) (labL (((cs.getD (((i : Int)).toNat) Cde.z).l.getD (((k : Int)).toNat) In.z).to_))), .int .i64 (pe ((cs.getD (((i : Int)).toNat) Cde.z).l.getD (((k : Int)).toNat) In.z) (labL (((cs.getD (((i : Int)).toNat) Cde.z).l.getD (((k : Int)).toNat) In.z).to_))), .str (pt ((cs.getD (((i : Int)).toNat) Cde.z).l.getD (((k : Int)).toNat) In.z) (labL (((cs.getD (((i : Int)).toNat) Cde.z).l.getD (((k : Int)).toNat) In.z).to_))), .int .i64 (pe ((cs.getD (((i : Int)).toNat) Cde.z).l.getD (((k : Int)).toNat) In.z) (labL (((cs.getD (((i : Int)).toNat) Cde.z).l.getD (((k : Int)).toNat) In.z).to_)))] [] [] 0 [([], [], [some (.lst 1 cs.length (fun zz => cdc (cs.getD zz Cde.z))), some (.blk [.str tt, .fn f1 [], .fn fp [], .fn f3 []]), some (.lst 17 ((cs.getD (((i : Int)).toNat) Cde.z).l.length) (fun zz => insS ((cs.getD (((i : Int)).toNat) Cde.z).l.getD zz In.z))), some (.blk (inQ9 ((cs.getD (((i : Int)).toNat) Cde.z).l.getD (((k : Int)).toNat) In.z)))])] [[true, true, true, true, true, true, true, true, true, true, true, true]] A rfl rfl rfl rfl (by kernel_rfl) rfl (by kernel_rfl) ⟨⟨oV9 0 rfl rfl, ⟨oV9 0 rfl rfl, ⟨oV9 0 rfl rfl, ⟨oV9 0 rfl rfl, ⟨oV9 0 rfl rfl, ⟨⟨_, _, _, _, 0, rfl, rfl, rfl, rfl, eff_at (callIE [] GC.ok hI (FnI.mono (lab_ (((cs.getD (((i : Int)).toNat) Cde.z).l.getD (((k : Int)).toNat) In.z).to_) os hM hT hE (hR _ (cd_at h1) _ (in_at h2)).2.1 (hR _ (cd_at h1) _ (in_at h2)).2.2) fun _ _ q => q.1) rfl rfl rfl rfl rfl rfl rfl) rfl⟩, ⟨⟨_, _, _, _, 0, rfl, rfl, rfl, rfl, eff_at (callIE [] GC.ok hI (FnI.mono (hp ((cs.getD (((i : Int)).toNat) Cde.z).l.getD (((k : Int)).toNat) In.z) (labL (((cs.getD (((i : Int)).toNat) Cde.z).l.getD (((k : Int)).toNat) In.z).to_)) (hR _ (cd_at h1) _ (in_at h2)).1 (Nat.le_trans (labL_len _ (hR _ (cd_at h1) _ (in_at h2)).2.1 (hR _ (cd_at h1) _ (in_at h2)).2.2) (by decide))) fun _ _ q => q.1) rfl rfl rfl rfl rfl rfl rfl) rfl⟩, ⟨oV9 0 rfl rfl, ⟨oV9 0 rfl rfl, ⟨oV9 0 rfl rfl, ⟨oV9 0 rfl rfl, ⟨oV9 0 rfl rfl, trivial⟩⟩⟩⟩⟩⟩⟩⟩⟩⟩⟩⟩, trivial⟩ fun A => N9 7 A rfl rfl fun A => forkN 34 A rfl
      (fun h3 A => N9 7 A rfl rfl fun A => R9 A rfl h0 rfl (by rw [prAll_bad (pe := (fun i => pe i (labL i.to_))) h1 h2 h3]; rfl) rfl)
      (fun h3 A => N9 8 A rfl (ok_d (by (try have hy := len_at hs ((i : Int)).toNat); (try have := hK.le); (try have := hJ.le); omega) <| okE_nil) fun A => ⟨k + 1, _, (by omega), (hK.nx h2 h3), ((A.cut [2, 4, 11, 12, 13, 17, 18, 19] rfl).trunc 2 rfl rfl rfl (by simp only [List.length_cons, List.length_nil] at h0; omega))⟩))
     (fun h2 A => N9 8 A rfl (ok_d (by (try have hy := len_at hs ((i : Int)).toNat); (try have := hK.le); (try have := hJ.le); omega) <| okE_nil) fun A => ⟨i + 1, _, (by omega), (hJ.nx h1 (hK.good h2)), ((A.cut [2, 4, 11, 12, 13] rfl).trunc 2 rfl rfl rfl (by simp only [List.length_cons, List.length_nil] at h0; omega))⟩))
   (fun h1 A => N9 9 A rfl rfl fun A => R9 A rfl h0 rfl (by rw [hJ.good h1]; rfl) rfl)
theorem langs_   : Fn Tryz.prog 47 [] [] (Rt (.sl 0 3 3) [some (.blk [.str [88, 56, 54], .fn 70 [], .fn 71 [], .fn 72 [], .str [82, 73, 83, 67, 86], .fn 73 [], .fn 74 [], .fn 75 [], .str [65, 82, 77], .fn 76 [], .fn 77 [], .fn 78 []])]) :=
 enterM (n := 5) (by kernel_rfl) Tryz.func47 rfl rfl rfl fun G w a h0 A => N9 15 A rfl rfl fun A => RET hX [0] A ⟨rfl, rfl⟩ rfl rfl rfl rfl rfl rfl rfl rfl h0
theorem langOf1   : Fn Tryz.prog 23 [.int .i64 1] [] (Rt (.tup [.agg [.str [88, 56, 54], .fn 70 [], .fn 71 [], .fn 72 []], .tt]) []) :=
 enterM (n := 16) (by kernel_rfl) Tryz.func23 rfl rfl rfl fun G w a h0 A => N9 17 A rfl rfl fun A => fork 9 A rfl
  (fun h1 A => absurd h1 (by decide))
  (fun h1 A => N9 5 A rfl rfl fun A => C9 [] langs_ A rfl fun A => N9 2 A rfl (ok_d (by decide) <| okE_nil) fun A => have A := sy_sayD A 13 (.int .i64 0) rfl (fun _ => rfl); N9 1 A rfl (ok_d (by decide) <| okE_nil) fun A => have A := sy_sayD A 14 (.ptr 1 0) rfl (ix_ptr 0 rfl); N9 6 A rfl rfl fun A => R9 A rfl h0 rfl rfl rfl)
theorem langOf2   : Fn Tryz.prog 23 [.int .i64 2] [] (Rt (.tup [.agg [.str [82, 73, 83, 67, 86], .fn 73 [], .fn 74 [], .fn 75 []], .tt]) []) :=
 enterM (n := 16) (by kernel_rfl) Tryz.func23 rfl rfl rfl fun G w a h0 A => N9 17 A rfl rfl fun A => fork 9 A rfl
  (fun h1 A => absurd h1 (by decide))
  (fun h1 A => N9 5 A rfl rfl fun A => C9 [] langs_ A rfl fun A => N9 2 A rfl (ok_d (by decide) <| okE_nil) fun A => have A := sy_sayD A 13 (.int .i64 1) rfl (fun _ => rfl); N9 1 A rfl (ok_d (by decide) <| okE_nil) fun A => have A := sy_sayD A 14 (.ptr 1 4) rfl (ix_ptr 1 rfl); N9 6 A rfl rfl fun A => R9 A rfl h0 rfl rfl rfl)
theorem langOf3   : Fn Tryz.prog 23 [.int .i64 3] [] (Rt (.tup [.agg [.str [65, 82, 77], .fn 76 [], .fn 77 [], .fn 78 []], .tt]) []) :=
 enterM (n := 16) (by kernel_rfl) Tryz.func23 rfl rfl rfl fun G w a h0 A => N9 17 A rfl rfl fun A => fork 9 A rfl
  (fun h1 A => absurd h1 (by decide))
  (fun h1 A => N9 5 A rfl rfl fun A => C9 [] langs_ A rfl fun A => N9 2 A rfl (ok_d (by decide) <| okE_nil) fun A => have A := sy_sayD A 13 (.int .i64 2) rfl (fun _ => rfl); N9 1 A rfl (ok_d (by decide) <| okE_nil) fun A => have A := sy_sayD A 14 (.ptr 1 8) rfl (ix_ptr 2 rfl); N9 6 A rfl rfl fun A => R9 A rfl h0 rfl rfl rfl)
theorem langOf0 (ar : Int) (ha : ¬ (1 ≤ ar ∧ ar ≤ 3)) : Fn Tryz.prog 23 [.int .i64 ar] [] (Rt (.tup [.agg [.str [], .v .nilFunc, .v .nilFunc, .v .nilFunc], .ff]) []) :=
 enterM (n := 16) (by kernel_rfl) Tryz.func23 rfl rfl rfl fun G w a h0 A => N9 17 A rfl rfl fun A => fork 9 A rfl
  (fun h1 A => N9 9 A rfl rfl fun A => R9 A rfl h0 rfl rfl rfl)
  (fun h1 A => absurd h1 (by simp only [Bool.or_eq_false_iff, decide_eq_false_iff_not]; omega))
def quan0 (qu : Int) : List UInt8 := if qu = 1 then [101, 120, 105, 115, 116, 115] else if qu = 2 then [126, 32, 101, 120, 105, 115, 116, 115] else if qu = 3 then [102, 111, 114, 97, 108, 108] else []
theorem quan_ (qu : Int)  : Fn Tryz.prog 27 [.int .i64 qu] [] (Rt (.str (quan0 qu)) []) :=
 enterM (n := 10) (by kernel_rfl) Tryz.func27 rfl rfl rfl fun G w a h0 A => N9 18 A rfl rfl fun A => forkE 4 A rfl
  (fun h1 A => N9 7 A rfl rfl fun A => R9 A rfl h0 rfl (by simp only [oneS, nb, nbL, nbH, quan0, if_pos h1]) rfl)
  (fun h1 A => N9 7 A rfl rfl fun A => forkE 6 A rfl
   (fun h2 A => N9 7 A rfl rfl fun A => R9 A rfl h0 rfl (by simp only [oneS, nb, nbL, nbH, quan0, if_neg (h1), if_pos h2]) rfl)
   (fun h2 A => N9 7 A rfl rfl fun A => forkE 8 A rfl
    (fun h3 A => N9 7 A rfl rfl fun A => R9 A rfl h0 rfl (by simp only [oneS, nb, nbL, nbH, quan0, if_neg (h1), if_neg (h2), if_pos h3]) rfl)
    (fun h3 A => N9 10 A rfl rfl fun A => R9 A rfl h0 rfl (by simp only [oneS, nb, nbL, nbH, quan0, if_neg (h1), if_neg (h2), if_neg (h3)]) rfl)))
end Go.Proofs.YtjkppaijicjpoaaGreatDoor
namespace Go.Proofs.YtjkppaijicjpoaaGreatDoor
open Go.RowKit
set_option linter.unusedVariables false
set_option linter.unusedSimpArgs false
set_option linter.unusedSectionVars false
section
variable {P : Program} {n : Nat} {ks : List Nat} {G0 : Gr} {w0 : World} {T : List (Nat × SV)} {H : Hp} {G : Gr} {a : Act} {w w' : World} {ops : Array Oper} {o : Oper} {rest : List Oper} {Q : Exit → Act → World → Prop} {K : List Fr}
end
def RdAt (ao : Option Addr) (l : List Int) (w : World) (ks : List Nat) : Prop :=
 l = [] ∨ ∃ b o, ao = some ⟨b, o, none⟩ ∧ b < w.heap.size ∧ ks.contains b = false ∧ w.rangeAt b o (l.map (Value.int .i64))
theorem RdAt.at {ao : Option Addr} {x : Int} {l : List Int} {w : World} {ks : List Nat} (h : RdAt ao (x :: l) w ks) : ∃ b o, ao = some ⟨b, o, none⟩ := by
 rcases h with h | ⟨b, o, h1, _⟩
 ·cases h
 ·exact ⟨b, o, h1⟩
section
variable {P : Program} {Y : Tb} {n : Nat} {ks : List Nat} {G0 : Gr} {w0 : World} {T : List (Nat × SV)} {H : Hp} {ops : Array Oper} {o : Oper} {rest : List Oper} {Q : Exit → Act → World → Prop} {K : List Fr}
end
section
variable {P : Program} {n : Nat} {ks : List Nat} {G0 : Gr} {w0 : World} {T : List (Nat × SV)} {H : Hp} {ops : Array Oper} {o : Oper}
theorem arrE {x y : Operand} {t e m s i q k : Nat} {cs : List SV} {p2 : Nat} (hop : o.op = .slice t x (some y) none none) (hg : guardS ops T o.guard = some .run) (hx : evS T x = some (.ptr i q)) (hy : evS T y = some (.int .i64 (k : Int))) (hb : H[i]? = some (some (.blk cs))) (ht : arrB P t m e s = true) (hk : k ≤ m) (h2 : (if m = k then q else q + k * s) = p2) :
  EffOK P n ops ks G0 w0 T H o (.sp (.ptr i p2) (m - k) (m - k)) H := fun G a w A => by
 subst h2
 have hw := gd_run (gd := none) A hg
 obtain ⟨d, op, ty, pos, af, gd⟩ := o
 simp only at hop
 subst hop
 have hvx := A.ev hx
 have hvy := A.ev hy
 obtain ⟨L, vs, hL, _, _⟩ := A.mem.ent i _ hb
 have hG : G[i]? = some (some L) := by
  cases hq : G[i]? with
  | none => rw [hq] at hL; cases hL
  | some p => rw [hq] at hL; simp at hL; rw [hL]
 unfold den at hvx hvy
 rw [hG] at hvx
 simp only [Option.some.injEq] at hvx hvy
 obtain ⟨hu, hsz⟩ := arr_facts ht
 refine does_val (v := .slice (some ⟨L.b, L.pre.length + (if m = k then q else q + k * s), none⟩) (m - k) (m - k)) (w' := w) hw ?_ ⟨[], ?_, by simpa using A.ms⟩
 ·have hsb : (Instr.sliceBounds false m m (some (.int .i64 (k : Int))) none none).run P w = .ok (k, m, m) w := by
   simp [Instr.sliceBounds, run_sliceBound (P := P) w .i64 (k : Int) m _ (by omega) (by omega)]
  unfold execOp
  simp only [← hvx, ← hvy, Option.map_some, Option.map_none, Instr.sliceAt, Sem.run_bind, run_underlying hu, Instr.sureAddr, Sem.run_pure, hsb, Result.andThen_ok, run_size hsz]
  by_cases hc : m = k
  ·simp [hc]
  ·simp [hc, Addr.add_mid, Nat.add_assoc]
 ·rw [List.append_nil]
  unfold den
  have : den G (.ptr i (if m = k then q else q + k * s)) = some (.pointer (some ⟨L.b, L.pre.length + (if m = k then q else q + k * s), none⟩)) := by unfold den; rw [hG]
  rw [this]; rfl
end
end Go.Proofs.YtjkppaijicjpoaaGreatDoor
