/- CorePlays, part 6: the engine, contracts, theory. -/
import Derived.Test.YtjkppaijicjpoaaGreatDoorCorePlaysP5
import Derived.WalkSmall
import Derived.ProofKit
import Derived.OpenShut
import Derived.ChangeOld
import Derived.Deep.Slices
import Derived.Lib.LaidTab
namespace Go.Proofs.YtjkppaijicjpoaaGreatDoor
open Go.RowKit
set_option linter.unusedVariables false
set_option linter.unusedSimpArgs false
set_option maxRecDepth 100000
set_option maxHeartbeats 2000000
set_option simprocs false
def rowZ (r : Nat → Int) : Nat → Bool
 | 0 => ((r 0 == 0) && ((r 1 == 0) && ((r 2 == 0) && ((r 3 == 0) && ((r 4 == 0) && ((r 5 == 0) && ((r 6 == 0) && (r 7 == 0))))))))
 | 1 => ((r 8 == 0) && ((r 9 == 0) && ((r 10 == 0) && ((r 11 == 0) && ((r 12 == 0) && ((r 13 == 0) && ((r 14 == 0) && (r 15 == 0))))))))
 | _ => ((r 16 == 0) && ((r 17 == 0) && ((r 18 == 0) && ((r 19 == 0) && ((r 20 == 0) && ((r 21 == 0) && ((r 22 == 0) && (r 23 == 0))))))))
def setO (r : Nat → Int) (k : Nat) : Bool := (List.range (3 - k)).any fun j => !(rowZ r (k + j))
structure SoI (r : Nat → Int) (k j : Nat) : Prop where
 le : j ≤ 3 - k
 ok : ∀ q, q < j → rowZ r (k + q) = true
theorem SoI.i0 {r : Nat → Int} {k : Nat} : SoI r k 0 := ⟨Nat.zero_le _, fun q hq => by omega⟩
theorem SoI.nx {r : Nat → Int} {k j : Nat} (h : SoI r k j) (h1 : j < 3 - k) (h2 : (!(rowZ r (k + j))) = false) : SoI r k (j + 1) := ⟨by omega, fun q hq => by
 by_cases e : q = j
 ·subst e; cases hz : rowZ r (k + q) with
  | true => rfl
  | false => rw [hz] at h2; cases h2
 ·exact h.ok q (by omega)⟩
theorem SoI.good {r : Nat → Int} {k j : Nat} (h : SoI r k j) (h1 : ¬ j < 3 - k) : setO r k = false := by
 unfold setO
 rw [List.any_eq_false]
 intro q hq
 have := h.ok q (by have := List.mem_range.1 hq; omega)
 rw [this]; decide
theorem setO_bad {r : Nat → Int} {k j : Nat} (h1 : j < 3 - k) (h2 : (!(rowZ r (k + j))) = true) : setO r k = true := by
 unfold setO
 rw [List.any_eq_true]
 exact ⟨j, List.mem_range.2 h1, h2⟩
theorem setsO1 (ar : Int) (nm : List UInt8) (mi r : Nat → Int) (cs : List Cde) (cx : Nat) (qu : Int) (kd : List Cn) (ck : Nat) (hk : cs.length = 1) : Fn Tryz.prog 29 [.agg (tsQ9 ar nm mi r (.sl 0 cs.length cx) qu (.sl 1 kd.length ck))] [some (.lst 1 cs.length (fun zz => cdc (cs.getD zz Cde.z))), some (.lst 5 kd.length (fun zz => cc (kd.getD zz Cn.z)))] (Rt (.bool (setO r 1)) [some (.lst 1 cs.length (fun zz => cdc (cs.getD zz Cde.z))), some (.lst 5 kd.length (fun zz => cc (kd.getD zz Cn.z)))]) :=
 enterM (n := 19) (by kernel_rfl) Tryz.func29 rfl rfl rfl fun G w a h0 A => N9 13 A rfl rfl fun A => have A := sy_sayD A 8 (.int .i64 1) rfl (fun _ => by rw [hk]; rfl); q_eff A rfl (arrE (m := 3) (s := 8) (e := 23) (k := 1) rfl rfl rfl rfl rfl (by kernel_rfl) (by decide) rfl) fun A => N9 5 A rfl rfl fun A => LOOP1 (fun (j : Nat) => [(2, .ff), (9, .sp (.ptr 2 13) 2 2), (10, .int .i64 ((2 : Nat) : Int)), (11, .int .i64 (j : Int))]) (fun (j : Nat) => [some (.lst 1 cs.length (fun zz => cdc (cs.getD zz Cde.z))), some (.lst 5 kd.length (fun zz => cc (kd.getD zz Cn.z))), some (.blk (tsQ9 ar nm mi r (.sl 0 cs.length cx) qu (.sl 1 kd.length ck)))]) (fun (j : Nat) => SoI r 1 j) (fun (j : Nat) => 2 - j) 0 SoI.i0 ((A.cut [2, 9, 10, 11] rfl).trunc 3 rfl rfl rfl (by simp only [List.length_cons, List.length_nil] at h0; omega)) fun j hJ {G a w} A => N9 6 A rfl rfl fun A => forkD 12 A rfl
   (fun h1 A => N9 7 A rfl rfl fun A => Decidable.byCases (p := j = 0) (fun e0 => have A := A.say 11 (.int .i64 0) rfl (by rw [e0]; rfl); N9 1 A rfl (ok_d (by (try have := hJ.le); omega) <| okE_nil) fun A => have A := sy_sayD A 13 (.ptr 2 13) rfl (ix_ptr 0 rfl); N9 12 A rfl rfl fun A => fork 17 A rfl
     (fun h2 A => N9 7 A rfl rfl fun A => R9 A rfl h0 rfl (by rw [setO_bad (k := 1) (j := 0) (by decide) h2]; rfl) rfl)
     (fun h2 A => N9 8 A rfl (ok_d (by (try have := hJ.le); omega) <| okE_nil) fun A => ⟨j + 1, _, (by omega), (hJ.nx (by omega) (by rw [e0]; exact h2)), ((A.cut [2, 9, 10, 11] rfl).trunc 3 rfl rfl rfl (by simp only [List.length_cons, List.length_nil] at h0; omega)).sayT (by rw [e0]; rfl)⟩)) fun ne0 => (have e1 : j = 1 := (by omega); have A := A.say 11 (.int .i64 1) rfl (by rw [e1]; rfl); N9 1 A rfl (ok_d (by (try have := hJ.le); omega) <| okE_nil) fun A => have A := sy_sayD A 13 (.ptr 2 21) rfl (ix_ptr 1 rfl); N9 12 A rfl rfl fun A => fork 17 A rfl
     (fun h3 A => N9 7 A rfl rfl fun A => R9 A rfl h0 rfl (by rw [setO_bad (k := 1) (j := 1) (by decide) h3]; rfl) rfl)
     (fun h3 A => N9 8 A rfl (ok_d (by (try have := hJ.le); omega) <| okE_nil) fun A => ⟨j + 1, _, (by omega), (hJ.nx (by omega) (by rw [e1]; exact h3)), ((A.cut [2, 9, 10, 11] rfl).trunc 3 rfl rfl rfl (by simp only [List.length_cons, List.length_nil] at h0; omega)).sayT (by rw [e1]; rfl)⟩)))
   (fun h1 A => N9 9 A rfl rfl fun A => R9 A rfl h0 rfl (by rw [hJ.good (by omega)]; rfl) rfl)
theorem setsO2 (ar : Int) (nm : List UInt8) (mi r : Nat → Int) (cs : List Cde) (cx : Nat) (qu : Int) (kd : List Cn) (ck : Nat) (hk : cs.length = 2) : Fn Tryz.prog 29 [.agg (tsQ9 ar nm mi r (.sl 0 cs.length cx) qu (.sl 1 kd.length ck))] [some (.lst 1 cs.length (fun zz => cdc (cs.getD zz Cde.z))), some (.lst 5 kd.length (fun zz => cc (kd.getD zz Cn.z)))] (Rt (.bool (setO r 2)) [some (.lst 1 cs.length (fun zz => cdc (cs.getD zz Cde.z))), some (.lst 5 kd.length (fun zz => cc (kd.getD zz Cn.z)))]) :=
 enterM (n := 19) (by kernel_rfl) Tryz.func29 rfl rfl rfl fun G w a h0 A => N9 13 A rfl rfl fun A => have A := sy_sayD A 8 (.int .i64 2) rfl (fun _ => by rw [hk]; rfl); q_eff A rfl (arrE (m := 3) (s := 8) (e := 23) (k := 2) rfl rfl rfl rfl rfl (by kernel_rfl) (by decide) rfl) fun A => N9 5 A rfl rfl fun A => LOOP1 (fun (j : Nat) => [(2, .ff), (9, .sp (.ptr 2 21) 1 1), (10, .int .i64 ((1 : Nat) : Int)), (11, .int .i64 (j : Int))]) (fun (j : Nat) => [some (.lst 1 cs.length (fun zz => cdc (cs.getD zz Cde.z))), some (.lst 5 kd.length (fun zz => cc (kd.getD zz Cn.z))), some (.blk (tsQ9 ar nm mi r (.sl 0 cs.length cx) qu (.sl 1 kd.length ck)))]) (fun (j : Nat) => SoI r 2 j) (fun (j : Nat) => 1 - j) 0 SoI.i0 ((A.cut [2, 9, 10, 11] rfl).trunc 3 rfl rfl rfl (by simp only [List.length_cons, List.length_nil] at h0; omega)) fun j hJ {G a w} A => N9 6 A rfl rfl fun A => forkD 12 A rfl
   (fun h1 A => N9 7 A rfl rfl fun A => (have e0 : j = 0 := (by omega); have A := A.say 11 (.int .i64 0) rfl (by rw [e0]; rfl); N9 1 A rfl (ok_d (by (try have := hJ.le); omega) <| okE_nil) fun A => have A := sy_sayD A 13 (.ptr 2 21) rfl (ix_ptr 0 rfl); N9 12 A rfl rfl fun A => fork 17 A rfl
     (fun h2 A => N9 7 A rfl rfl fun A => R9 A rfl h0 rfl (by rw [setO_bad (k := 2) (j := 0) (by decide) h2]; rfl) rfl)
     (fun h2 A => N9 8 A rfl (ok_d (by (try have := hJ.le); omega) <| okE_nil) fun A => ⟨j + 1, _, (by omega), (hJ.nx (by omega) (by rw [e0]; exact h2)), ((A.cut [2, 9, 10, 11] rfl).trunc 3 rfl rfl rfl (by simp only [List.length_cons, List.length_nil] at h0; omega)).sayT (by rw [e0]; rfl)⟩)))
   (fun h1 A => N9 9 A rfl rfl fun A => R9 A rfl h0 rfl (by rw [hJ.good (by omega)]; rfl) rfl)
theorem setsO3 (ar : Int) (nm : List UInt8) (mi r : Nat → Int) (cs : List Cde) (cx : Nat) (qu : Int) (kd : List Cn) (ck : Nat) (hk : cs.length = 3) : Fn Tryz.prog 29 [.agg (tsQ9 ar nm mi r (.sl 0 cs.length cx) qu (.sl 1 kd.length ck))] [some (.lst 1 cs.length (fun zz => cdc (cs.getD zz Cde.z))), some (.lst 5 kd.length (fun zz => cc (kd.getD zz Cn.z)))] (Rt (.bool (setO r 3)) [some (.lst 1 cs.length (fun zz => cdc (cs.getD zz Cde.z))), some (.lst 5 kd.length (fun zz => cc (kd.getD zz Cn.z)))]) :=
 enterM (n := 19) (by kernel_rfl) Tryz.func29 rfl rfl rfl fun G w a h0 A => N9 13 A rfl rfl fun A => have A := sy_sayD A 8 (.int .i64 3) rfl (fun _ => by rw [hk]; rfl); q_eff A rfl (arrE (m := 3) (s := 8) (e := 23) (k := 3) rfl rfl rfl rfl rfl (by kernel_rfl) (by decide) rfl) fun A => N9 5 A rfl rfl fun A => LOOP1 (fun (j : Nat) => [(2, .ff), (9, .sp (.ptr 2 5) 0 0), (10, .int .i64 ((0 : Nat) : Int)), (11, .int .i64 (j : Int))]) (fun (j : Nat) => [some (.lst 1 cs.length (fun zz => cdc (cs.getD zz Cde.z))), some (.lst 5 kd.length (fun zz => cc (kd.getD zz Cn.z))), some (.blk (tsQ9 ar nm mi r (.sl 0 cs.length cx) qu (.sl 1 kd.length ck)))]) (fun (j : Nat) => SoI r 3 j) (fun (j : Nat) => 0 - j) 0 SoI.i0 ((A.cut [2, 9, 10, 11] rfl).trunc 3 rfl rfl rfl (by simp only [List.length_cons, List.length_nil] at h0; omega)) fun j hJ {G a w} A => N9 6 A rfl rfl fun A => forkD 12 A rfl
   (fun h1 A => N9 7 A rfl rfl fun A => absurd h1 (by omega))
   (fun h1 A => N9 9 A rfl rfl fun A => R9 A rfl h0 rfl (by rw [hJ.good (by omega)]; rfl) rfl)
theorem bel_ (p q : Int)  : Fn Tryz.prog 87 [.int .i64 p, .int .i64 q] [] (Rt (.bool ((decide (0 ≤ p)) && (decide (p < q)))) []) :=
 enterM (n := 12) (by kernel_rfl) Tryz.func87 rfl rfl rfl fun G w a h0 A => N9 18 A rfl rfl fun A => R9 A rfl h0 rfl rfl rfl
def nod0 (kd th rg lc vl : Int) : Bool := if kd = 1 then if ((decide (0 ≤ th)) && (decide (th < 3))) = true then ((decide (0 ≤ rg)) && (decide (rg < 8))) && (lc == 0) else false else if kd = 2 then (((decide (0 ≤ lc)) && (decide (lc < 3))) && (th == 0)) && (rg == 0) else if kd = 3 then ((kd == kd) && ((th == 0) && ((rg == 0) && ((lc == 0) && (vl == 0))))) else if kd = 4 then ((kd == kd) && ((th == 0) && ((rg == 0) && ((lc == 0) && (vl == 0))))) else if kd = 5 then ((kd == kd) && ((th == 0) && ((rg == 0) && ((lc == 0) && (vl == 0))))) else false
theorem nod_ (kd th rg lc vl : Int)  : Fn Tryz.prog 52 [.agg [.int .i64 kd, .int .i64 th, .int .i64 rg, .int .i64 lc, .int .i64 vl]] [] (Rt (.bool (nod0 kd th rg lc vl)) []) :=
 enterM (n := 44) (by kernel_rfl) Tryz.func52 rfl rfl rfl fun G w a h0 A => N9 20 A rfl rfl fun A => forkE 5 A rfl
  (fun h1 A => N9 5 A rfl rfl fun A => C9 [] (bel_ th 3) A rfl fun A => N9 1 A rfl rfl fun A => fork 10 A rfl
   (fun h2 A => N9 2 A rfl rfl fun A => C9 [] (bel_ rg 8) A rfl fun A => N9 10 A rfl rfl fun A => R9 A rfl h0 rfl (by simp only [oneS, nb, nbL, nbH, nod0, if_pos h1, if_pos h2]) rfl)
   (fun h2 A => N9 13 A rfl rfl fun A => R9 A rfl h0 rfl (by simp only [oneS, nb, nbL, nbH, nod0, if_pos h1, if_neg (ne_true_of_eq_false h2)]) rfl))
  (fun h1 A => N9 7 A rfl rfl fun A => forkE 20 A rfl
   (fun h3 A => N9 5 A rfl rfl fun A => C9 [] (bel_ lc 3) A rfl fun A => N9 14 A rfl rfl fun A => R9 A rfl h0 rfl (by simp only [oneS, nb, nbL, nbH, nod0, if_neg (h1), if_pos h3]) rfl)
   (fun h3 A => N9 8 A rfl rfl fun A => forkE 35 A rfl
    (fun h4 A => N9 15 A rfl rfl fun A => R9 A rfl h0 rfl (by simp only [oneS, nb, nbL, nbH, nod0, if_neg (h1), if_neg (h3), if_pos h4]) rfl)
    (fun h4 A => N9 7 A rfl rfl fun A => forkE 35 A rfl
     (fun h5 A => N9 15 A rfl rfl fun A => R9 A rfl h0 rfl (by simp only [oneS, nb, nbL, nbH, nod0, if_neg (h1), if_neg (h3), if_neg (h4), if_pos h5]) rfl)
     (fun h5 A => N9 6 A rfl rfl fun A => forkE 35 A rfl
      (fun h6 A => N9 12 A rfl rfl fun A => R9 A rfl h0 rfl (by simp only [oneS, nb, nbL, nbH, nod0, if_neg (h1), if_neg (h3), if_neg (h4), if_neg (h5), if_pos h6]) rfl)
      (fun h6 A => N9 10 A rfl rfl fun A => R9 A rfl h0 rfl (by simp only [oneS, nb, nbL, nbH, nod0, if_neg (h1), if_neg (h3), if_neg (h4), if_neg (h5), if_neg (h6)]) rfl)))))
def pts0 (kd : Int) : Int := if kd = 3 then 1 else if kd = 4 then 2 else if kd = 5 then 2 else 0
theorem pts_ (kd : Int)  : Fn Tryz.prog 53 [.int .i64 kd] [] (Rt (.int .i64 (pts0 kd)) []) :=
 enterM (n := 9) (by kernel_rfl) Tryz.func53 rfl rfl rfl fun G w a h0 A => N9 18 A rfl rfl fun A => forkE 4 A rfl
  (fun h1 A => N9 7 A rfl rfl fun A => R9 A rfl h0 rfl (by simp only [oneS, nb, nbL, nbH, pts0, if_pos h1]) rfl)
  (fun h1 A => N9 8 A rfl rfl fun A => forkE 6 A rfl
   (fun h2 A => N9 10 A rfl rfl fun A => R9 A rfl h0 rfl (by simp only [oneS, nb, nbL, nbH, pts0, if_neg (h1), if_pos h2]) rfl)
   (fun h2 A => N9 6 A rfl rfl fun A => forkE 6 A rfl
    (fun h3 A => N9 7 A rfl rfl fun A => R9 A rfl h0 rfl (by simp only [oneS, nb, nbL, nbH, pts0, if_neg (h1), if_neg (h2), if_pos h3]) rfl)
    (fun h3 A => N9 10 A rfl rfl fun A => R9 A rfl h0 rfl (by simp only [oneS, nb, nbL, nbH, pts0, if_neg (h1), if_neg (h2), if_neg (h3)]) rfl)))
def nodC (c : Cn) : Bool := nod0 c.k c.t c.r c.l c.v
def rgo : List Cn → Int → Bool
 | [], h => h == 1
 | c :: l, h => if nodC c = false ∨ h < pts0 c.k then false else rgo l (h + (1 - pts0 c.k))
def rgt (l : List Cn) : Bool := if ((l.length : Nat) : Int) > 32 then false else rgo l 0
theorem pts_rng (k : Int) : 0 ≤ pts0 k ∧ pts0 k ≤ 2 := by unfold pts0; split <;> (try split) <;> (try split) <;> omega
structure RgI (kd : List Cn) (i : Nat) (h : Int) : Prop where
 le : i ≤ kd.length
 h0 : 0 ≤ h
 h1 : h ≤ i
 eq : rgo kd 0 = rgo (kd.drop i) h
section
variable {kd : List Cn} {i : Nat} {h : Int}
theorem RgI.i0 : RgI kd 0 0 := ⟨Nat.zero_le _, by omega, by omega, by rw [List.drop_zero]⟩
theorem RgI.at (hI : RgI kd i h) (h1 : (i : Int) < ((kd.length : Nat) : Int)) : rgo kd 0 = if nodC (kd.getD ((i : Int)).toNat Cn.z) = false ∨ h < pts0 (kd.getD ((i : Int)).toNat Cn.z).k then false else rgo (kd.drop (i + 1)) (h + (1 - pts0 (kd.getD ((i : Int)).toNat Cn.z).k)) := by
 have hi : i < kd.length := by omega
 have e : (kd.getD ((i : Int)).toNat Cn.z) = kd[i] := by rw [Int.toNat_natCast, List.getD_eq_getElem?_getD, List.getElem?_eq_getElem hi]; rfl
 rw [hI.eq, List.drop_eq_getElem_cons hi, rgo, e]
theorem RgI.b1 (hI : RgI kd i h) (h1 : (i : Int) < ((kd.length : Nat) : Int)) (h2 : (!(nodC (kd.getD ((i : Int)).toNat Cn.z))) = true) : rgo kd 0 = false := by
 rw [hI.at h1, if_pos (.inl (by cases hq : nodC (kd.getD ((i : Int)).toNat Cn.z); rfl; rw [hq] at h2; cases h2))]
theorem RgI.b2 (hI : RgI kd i h) (h1 : (i : Int) < ((kd.length : Nat) : Int)) (h2 : h < pts0 (kd.getD ((i : Int)).toNat Cn.z).k) : rgo kd 0 = false := by rw [hI.at h1, if_pos (.inr h2)]
theorem RgI.nx (hI : RgI kd i h) (h1 : (i : Int) < ((kd.length : Nat) : Int)) (h2 : (!(nodC (kd.getD ((i : Int)).toNat Cn.z))) = false) (h3 : ¬ h < pts0 (kd.getD ((i : Int)).toNat Cn.z).k) : RgI kd (i + 1) (h + (1 - pts0 (kd.getD ((i : Int)).toNat Cn.z).k)) := by
 have hn : nodC (kd.getD ((i : Int)).toNat Cn.z) = true := by cases hq : nodC (kd.getD ((i : Int)).toNat Cn.z); (rw [hq] at h2; cases h2); rfl
 have hp := pts_rng (kd.getD ((i : Int)).toNat Cn.z).k
 have k0 := hI.h0; have k1 := hI.h1
 refine ⟨by omega, by omega, by omega, ?_⟩
 rw [hI.at h1, if_neg (by rintro (e | e); rw [hn] at e; cases e; exact h3 e)]
theorem RgI.fi (hI : RgI kd i h) (h1 : ¬ (i : Int) < ((kd.length : Nat) : Int)) : rgo kd 0 = (h == 1) := by
 rw [hI.eq, List.drop_eq_nil_of_le (by omega), rgo]
end
theorem cRight_ (kd : List Cn) (ck : Nat)  : Fn Tryz.prog 28 [.sl 0 kd.length ck] [some (.lst 5 kd.length (fun zz => cc (kd.getD zz Cn.z)))] (Rt (.bool (rgt kd)) [some (.lst 5 kd.length (fun zz => cc (kd.getD zz Cn.z)))]) :=
 enterM (n := 34) (by kernel_rfl) Tryz.func28 rfl rfl rfl fun G w a h0 A => N9 13 A rfl rfl fun A => forkD 8 A rfl
  (fun h1 A => N9 7 A rfl rfl fun A => R9 A rfl h0 rfl (by unfold rgt; rw [if_pos h1]; rfl) rfl)
  (fun h1 A => N9 17 A rfl rfl fun A => LOOP2 (fun (i : Nat) (h : Int) => [(2, .ff), (3, .int .i64 h), (9, .sl 0 kd.length ck), (10, .int .i64 ((kd.length : Nat) : Int)), (11, .int .i64 (i : Int))]) (fun (i : Nat) (h : Int) => [some (.lst 5 kd.length (fun zz => cc (kd.getD zz Cn.z)))]) (fun (i : Nat) (h : Int) => RgI kd i h) (fun (i : Nat) (h : Int) => kd.length - i) 0 0 RgI.i0 ((A.cut [2, 3, 9, 10, 11] rfl).trunc 1 rfl rfl rfl (by simp only [List.length_cons, List.length_nil] at h0; omega)) fun i h hJ {G a w} A => N9 6 A rfl rfl fun A => forkD 12 A rfl
    (fun h2 A => N9 15 A rfl (ok_d (by (try have hp := pts_rng (kd.getD ((i : Int)).toNat Cn.z).k); (try have := hJ.le); (try have := hJ.h0); (try have := hJ.h1); omega) <| ok_d (by (try have hp := pts_rng (kd.getD ((i : Int)).toNat Cn.z).k); (try have := hJ.le); (try have := hJ.h0); (try have := hJ.h1); omega) <| okE_nil) fun A => N9 2 A rfl rfl fun A => C9 [] (nod_ (kd.getD (((i : Int)).toNat) Cn.z).k (kd.getD (((i : Int)).toNat) Cn.z).t (kd.getD (((i : Int)).toNat) Cn.z).r (kd.getD (((i : Int)).toNat) Cn.z).l (kd.getD (((i : Int)).toNat) Cn.z).v) A rfl fun A => N9 2 A rfl rfl fun A => fork 18 A rfl
     (fun h3 A => N9 15 A rfl rfl fun A => R9 A rfl h0 rfl (by unfold rgt; rw [if_neg h1, hJ.b1 h2 h3]; rfl) rfl)
     (fun h3 A => N9 3 A rfl rfl fun A => C9 [] (pts_ ((kd.getD (((i : Int)).toNat) Cn.z).k)) A rfl fun A => N9 4 A rfl rfl fun A => forkD 24 A rfl
      (fun h4 A => N9 7 A rfl rfl fun A => R9 A rfl h0 rfl (by unfold rgt; rw [if_neg h1, hJ.b2 h2 h4]; rfl) rfl)
      (fun h4 A => N9 7 A rfl rfl fun A => C9 [] (pts_ ((kd.getD (((i : Int)).toNat) Cn.z).k)) A rfl fun A => N9 6 A rfl (ok_d (by (try have hp := pts_rng (kd.getD ((i : Int)).toNat Cn.z).k); (try have := hJ.le); (try have := hJ.h0); (try have := hJ.h1); omega) <| ok_d (by (try have hp := pts_rng (kd.getD ((i : Int)).toNat Cn.z).k); (try have := hJ.le); (try have := hJ.h0); (try have := hJ.h1); omega) <| okE_nil) fun A => N9 4 A rfl (ok_d (by (try have hp := pts_rng (kd.getD ((i : Int)).toNat Cn.z).k); (try have := hJ.le); (try have := hJ.h0); (try have := hJ.h1); omega) <| okE_nil) fun A => ⟨i + 1, h + (1 - pts0 (kd.getD ((i : Int)).toNat Cn.z).k), _, (by omega), (hJ.nx h2 h3 h4), ((A.cut [2, 3, 9, 10, 11] rfl).trunc 1 rfl rfl rfl (by simp only [List.length_cons, List.length_nil] at h0; omega))⟩)))
    (fun h2 A => N9 11 A rfl rfl fun A => R9 A rfl h0 rfl (by unfold rgt; rw [if_neg h1, hJ.fi h2]; rfl) rfl))
theorem setsOA (ar : Int) (nm : List UInt8) (mi r : Nat → Int) (cs : List Cde) (cx : Nat) (qu : Int) (kd : List Cn) (ck : Nat) (h : 1 ≤ cs.length ∧ cs.length ≤ 3) : Fn Tryz.prog 29 [.agg (tsQ9 ar nm mi r (.sl 0 cs.length cx) qu (.sl 1 kd.length ck))] [some (.lst 1 cs.length (fun zz => cdc (cs.getD zz Cde.z))), some (.lst 5 kd.length (fun zz => cc (kd.getD zz Cn.z)))] (Rt (.bool (setO r cs.length)) [some (.lst 1 cs.length (fun zz => cdc (cs.getD zz Cde.z))), some (.lst 5 kd.length (fun zz => cc (kd.getD zz Cn.z)))]) := by
 have e : cs.length = 1 ∨ cs.length = 2 ∨ cs.length = 3 := by omega
 rcases e with e | e | e
 ·have := setsO1 ar nm mi r cs cx qu kd ck e
  rw [show setO r cs.length = setO r 1 by rw [e]]
  exact this
 ·have := setsO2 ar nm mi r cs cx qu kd ck e
  rw [show setO r cs.length = setO r 2 by rw [e]]
  exact this
 ·have := setsO3 ar nm mi r cs cx qu kd ck e
  rw [show setO r cs.length = setO r 3 by rw [e]]
  exact this
theorem ck_len {cs : List Cde} (h : ckE cs = 0) : 1 ≤ cs.length ∧ cs.length ≤ 3 := by
 unfold ckE at h
 split at h
 ·cases h
 ·next hh => simp only [Bool.or_eq_true, decide_eq_true_eq] at hh; omega
def litC (pe : In → Int) (nm : List UInt8) (cs : List Cde) (qu : Int) (kd : List Cn) (r : Nat → Int) : Int :=
 if (nm.length : Int) > 16 then 40 else if oneN nm = false then 40 else if ckE cs ≠ 0 then ckE cs else if prAll pe cs = false then 36 else
 if quan0 qu = [] then 22 else if rgt kd = false then 22 else if setO r cs.length = true then 1 else 0
theorem litCheck1 (nm : List UInt8) (mi r : Nat → Int) (cs : List Cde) (cx : Nat) (qu : Int) (kd : List Cn) (ck : Nat) (os : List (Nat × Obj)) (hM : ∀ w ks, Gl os w ks → ∃ m, w.cell? ⟨1, 0, none⟩ = some (.int .i64 m)) (hT : ∀ w ks, Gl os w ks → Lib.TabIs Tryz.prog w "internal/strconv.uint64pow10" .u64 Lib.pow10Tab) (hE : ∀ w ks, Gl os w ks → ∃ ev, w.cell? ⟨4, 0, none⟩ = some ev ∧ (ev = .nilIface ∨ ∃ te pe, ev = .iface te pe)) (hs : ∀ c ∈ cs, c.l.length ≤ 9223372036854775807) (hR : ∀ c ∈ cs, ∀ i ∈ c.l, okI i) (hn : cs.length ≤ 9223372036854775807) : FnI (GC os cs) Tryz.prog 7 [.agg (tsQ9 1 nm mi r (.sl 0 cs.length cx) qu (.sl 1 kd.length ck))] [some (.lst 1 cs.length (fun zz => cdc (cs.getD zz Cde.z))), some (.lst 5 kd.length (fun zz => cc (kd.getD zz Cn.z)))] (Rt (.int .i64 (litC (fun i => (fun (i : In) (lb : List UInt8) => (prP x86G x86C i lb).2) i (labL i.to_)) nm cs qu kd r)) [some (.lst 1 cs.length (fun zz => cdc (cs.getD zz Cde.z))), some (.lst 5 kd.length (fun zz => cc (kd.getD zz Cn.z)))]) :=
 enterI (n := 53) (by kernel_rfl) Tryz.func7 rfl rfl rfl fun G w a h0 hI A => N9 10 A rfl rfl fun A => C9 [] langOf1 A rfl fun A => N9 26 A rfl rfl fun A => forkD 20 A rfl
  (fun h1 A => N9 14 A rfl rfl fun A => R9 A rfl h0 rfl (by unfold litC; rw [if_pos h1]; rfl) rfl)
  (fun h1 A => N9 2 A rfl rfl fun A => I9 [] GC.ok hI (FnI.mono (isName_ nm os hM hE) fun _ _ q => q.1) A rfl fun A => N9 4 A rfl rfl fun A => fork 25 A rfl
   (fun h2 A => N9 7 A rfl rfl fun A => R9 A rfl h0 rfl (by unfold litC; rw [if_neg h1]; rw [if_pos (by revert h2; cases oneN nm <;> simp)]; rfl) rfl)
   (fun h2 A => N9 8 A rfl rfl fun A => I9 [0] GC.ok hI (FnI.mono (uCheck_ cs cx hs (fun h8 h3 => ucc_ cs cx (fun c hc => Nat.le_trans (bad1_le h8 c hc) (by decide)) (by omega))) fun _ _ q => q.2) A rfl fun A => N9 15 A rfl rfl fun A => forkN 34 A rfl
    (fun h3 A => N9 8 A rfl rfl fun A => R9 A rfl h0 rfl (by unfold litC; rw [if_neg h1]; rw [if_neg (by revert h2; cases oneN nm <;> simp)]; rw [if_pos h3]; rfl) rfl)
    (fun h3 A => N9 9 A rfl rfl fun A => I9 [0] GC.ok hI (printsAll_ cs cx [88, 56, 54] 70 71 72 (fun i lb => (prP x86G x86C i lb).1) (fun i lb => (prP x86G x86C i lb).2) os hM hT hE (fun i lb hi hl => xprint_ i lb os hM hT hE (fun L hL => x86_prok hi hl hL)) hs hn hR) A rfl fun A => N9 3 A rfl rfl fun A => fork 40 A rfl
     (fun h4 A => N9 7 A rfl rfl fun A => R9 A rfl h0 rfl (by unfold litC; rw [if_neg h1]; rw [if_neg (by revert h2; cases oneN nm <;> simp)]; rw [if_neg (not_not_intro h3)]; rw [if_pos (by revert h4; cases prAll _ cs <;> simp)]; rfl) rfl)
     (fun h4 A => N9 8 A rfl rfl fun A => C9 [] (quan_ qu) A rfl fun A => N9 2 A rfl rfl fun A => forkE 45 A rfl
      (fun h5 A => N9 14 A rfl rfl fun A => R9 A rfl h0 rfl (by unfold litC; rw [if_neg h1]; rw [if_neg (by revert h2; cases oneN nm <;> simp)]; rw [if_neg (not_not_intro h3)]; rw [if_neg (by revert h4; cases prAll _ cs <;> simp)]; rw [if_pos h5]; rfl) rfl)
      (fun h5 A => N9 2 A rfl rfl fun A => C9 [1] (cRight_ kd ck) A rfl fun A => N9 4 A rfl rfl fun A => fork 50 A rfl
       (fun h6 A => N9 7 A rfl rfl fun A => R9 A rfl h0 rfl (by unfold litC; rw [if_neg h1]; rw [if_neg (by revert h2; cases oneN nm <;> simp)]; rw [if_neg (not_not_intro h3)]; rw [if_neg (by revert h4; cases prAll _ cs <;> simp)]; rw [if_neg h5]; rw [if_pos (by revert h6; cases rgt kd <;> simp)]; rfl) rfl)
       (fun h6 A => N9 7 A rfl rfl fun A => C9 [0, 1] (setsOA 1 nm mi r cs cx qu kd ck (ck_len h3)) A rfl fun A => N9 2 A rfl rfl fun A => fork 52 A rfl
        (fun h7 A => N9 7 A rfl rfl fun A => R9 A rfl h0 rfl (by unfold litC; rw [if_neg h1]; rw [if_neg (by revert h2; cases oneN nm <;> simp)]; rw [if_neg (not_not_intro h3)]; rw [if_neg (by revert h4; cases prAll _ cs <;> simp)]; rw [if_neg h5]; rw [if_neg (by revert h6; cases rgt kd <;> simp)]; rw [if_pos h7]; rfl) rfl)
        (fun h7 A => N9 9 A rfl rfl fun A => R9 A rfl h0 rfl (by unfold litC; rw [if_neg h1]; rw [if_neg (by revert h2; cases oneN nm <;> simp)]; rw [if_neg (not_not_intro h3)]; rw [if_neg (by revert h4; cases prAll _ cs <;> simp)]; rw [if_neg h5]; rw [if_neg (by revert h6; cases rgt kd <;> simp)]; rw [if_neg (by rw [h7]; decide)]; rfl) rfl)))))))
theorem litCheck2 (nm : List UInt8) (mi r : Nat → Int) (cs : List Cde) (cx : Nat) (qu : Int) (kd : List Cn) (ck : Nat) (os : List (Nat × Obj)) (hM : ∀ w ks, Gl os w ks → ∃ m, w.cell? ⟨1, 0, none⟩ = some (.int .i64 m)) (hT : ∀ w ks, Gl os w ks → Lib.TabIs Tryz.prog w "internal/strconv.uint64pow10" .u64 Lib.pow10Tab) (hE : ∀ w ks, Gl os w ks → ∃ ev, w.cell? ⟨4, 0, none⟩ = some ev ∧ (ev = .nilIface ∨ ∃ te pe, ev = .iface te pe)) (hs : ∀ c ∈ cs, c.l.length ≤ 9223372036854775807) (hR : ∀ c ∈ cs, ∀ i ∈ c.l, okI i) (hn : cs.length ≤ 9223372036854775807) : FnI (GC os cs) Tryz.prog 7 [.agg (tsQ9 2 nm mi r (.sl 0 cs.length cx) qu (.sl 1 kd.length ck))] [some (.lst 1 cs.length (fun zz => cdc (cs.getD zz Cde.z))), some (.lst 5 kd.length (fun zz => cc (kd.getD zz Cn.z)))] (Rt (.int .i64 (litC (fun i => (fun (i : In) (lb : List UInt8) => (prP riscvG riscvC i lb).2) i (labL i.to_)) nm cs qu kd r)) [some (.lst 1 cs.length (fun zz => cdc (cs.getD zz Cde.z))), some (.lst 5 kd.length (fun zz => cc (kd.getD zz Cn.z)))]) :=
 enterI (n := 53) (by kernel_rfl) Tryz.func7 rfl rfl rfl fun G w a h0 hI A => N9 10 A rfl rfl fun A => C9 [] langOf2 A rfl fun A => N9 26 A rfl rfl fun A => forkD 20 A rfl
  (fun h1 A => N9 14 A rfl rfl fun A => R9 A rfl h0 rfl (by unfold litC; rw [if_pos h1]; rfl) rfl)
  (fun h1 A => N9 2 A rfl rfl fun A => I9 [] GC.ok hI (FnI.mono (isName_ nm os hM hE) fun _ _ q => q.1) A rfl fun A => N9 4 A rfl rfl fun A => fork 25 A rfl
   (fun h2 A => N9 7 A rfl rfl fun A => R9 A rfl h0 rfl (by unfold litC; rw [if_neg h1]; rw [if_pos (by revert h2; cases oneN nm <;> simp)]; rfl) rfl)
   (fun h2 A => N9 8 A rfl rfl fun A => I9 [0] GC.ok hI (FnI.mono (uCheck_ cs cx hs (fun h8 h3 => ucc_ cs cx (fun c hc => Nat.le_trans (bad1_le h8 c hc) (by decide)) (by omega))) fun _ _ q => q.2) A rfl fun A => N9 15 A rfl rfl fun A => forkN 34 A rfl
    (fun h3 A => N9 8 A rfl rfl fun A => R9 A rfl h0 rfl (by unfold litC; rw [if_neg h1]; rw [if_neg (by revert h2; cases oneN nm <;> simp)]; rw [if_pos h3]; rfl) rfl)
    (fun h3 A => N9 9 A rfl rfl fun A => I9 [0] GC.ok hI (printsAll_ cs cx [82, 73, 83, 67, 86] 73 74 75 (fun i lb => (prP riscvG riscvC i lb).1) (fun i lb => (prP riscvG riscvC i lb).2) os hM hT hE (fun i lb hi hl => vprint_ i lb os hM hT hE (fun L hL => riscv_prok hi hl hL)) hs hn hR) A rfl fun A => N9 3 A rfl rfl fun A => fork 40 A rfl
     (fun h4 A => N9 7 A rfl rfl fun A => R9 A rfl h0 rfl (by unfold litC; rw [if_neg h1]; rw [if_neg (by revert h2; cases oneN nm <;> simp)]; rw [if_neg (not_not_intro h3)]; rw [if_pos (by revert h4; cases prAll _ cs <;> simp)]; rfl) rfl)
     (fun h4 A => N9 8 A rfl rfl fun A => C9 [] (quan_ qu) A rfl fun A => N9 2 A rfl rfl fun A => forkE 45 A rfl
      (fun h5 A => N9 14 A rfl rfl fun A => R9 A rfl h0 rfl (by unfold litC; rw [if_neg h1]; rw [if_neg (by revert h2; cases oneN nm <;> simp)]; rw [if_neg (not_not_intro h3)]; rw [if_neg (by revert h4; cases prAll _ cs <;> simp)]; rw [if_pos h5]; rfl) rfl)
      (fun h5 A => N9 2 A rfl rfl fun A => C9 [1] (cRight_ kd ck) A rfl fun A => N9 4 A rfl rfl fun A => fork 50 A rfl
       (fun h6 A => N9 7 A rfl rfl fun A => R9 A rfl h0 rfl (by unfold litC; rw [if_neg h1]; rw [if_neg (by revert h2; cases oneN nm <;> simp)]; rw [if_neg (not_not_intro h3)]; rw [if_neg (by revert h4; cases prAll _ cs <;> simp)]; rw [if_neg h5]; rw [if_pos (by revert h6; cases rgt kd <;> simp)]; rfl) rfl)
       (fun h6 A => N9 7 A rfl rfl fun A => C9 [0, 1] (setsOA 2 nm mi r cs cx qu kd ck (ck_len h3)) A rfl fun A => N9 2 A rfl rfl fun A => fork 52 A rfl
        (fun h7 A => N9 7 A rfl rfl fun A => R9 A rfl h0 rfl (by unfold litC; rw [if_neg h1]; rw [if_neg (by revert h2; cases oneN nm <;> simp)]; rw [if_neg (not_not_intro h3)]; rw [if_neg (by revert h4; cases prAll _ cs <;> simp)]; rw [if_neg h5]; rw [if_neg (by revert h6; cases rgt kd <;> simp)]; rw [if_pos h7]; rfl) rfl)
        (fun h7 A => N9 9 A rfl rfl fun A => R9 A rfl h0 rfl (by unfold litC; rw [if_neg h1]; rw [if_neg (by revert h2; cases oneN nm <;> simp)]; rw [if_neg (not_not_intro h3)]; rw [if_neg (by revert h4; cases prAll _ cs <;> simp)]; rw [if_neg h5]; rw [if_neg (by revert h6; cases rgt kd <;> simp)]; rw [if_neg (by rw [h7]; decide)]; rfl) rfl)))))))
theorem litCheck3 (nm : List UInt8) (mi r : Nat → Int) (cs : List Cde) (cx : Nat) (qu : Int) (kd : List Cn) (ck : Nat) (os : List (Nat × Obj)) (hM : ∀ w ks, Gl os w ks → ∃ m, w.cell? ⟨1, 0, none⟩ = some (.int .i64 m)) (hT : ∀ w ks, Gl os w ks → Lib.TabIs Tryz.prog w "internal/strconv.uint64pow10" .u64 Lib.pow10Tab) (hE : ∀ w ks, Gl os w ks → ∃ ev, w.cell? ⟨4, 0, none⟩ = some ev ∧ (ev = .nilIface ∨ ∃ te pe, ev = .iface te pe)) (hs : ∀ c ∈ cs, c.l.length ≤ 9223372036854775807) (hR : ∀ c ∈ cs, ∀ i ∈ c.l, okI i) (hn : cs.length ≤ 9223372036854775807) : FnI (GC os cs) Tryz.prog 7 [.agg (tsQ9 3 nm mi r (.sl 0 cs.length cx) qu (.sl 1 kd.length ck))] [some (.lst 1 cs.length (fun zz => cdc (cs.getD zz Cde.z))), some (.lst 5 kd.length (fun zz => cc (kd.getD zz Cn.z)))] (Rt (.int .i64 (litC (fun i => (fun (i : In) (lb : List UInt8) => (prP Ar.armG Ar.armC i lb).2) i (labL i.to_)) nm cs qu kd r)) [some (.lst 1 cs.length (fun zz => cdc (cs.getD zz Cde.z))), some (.lst 5 kd.length (fun zz => cc (kd.getD zz Cn.z)))]) :=
 enterI (n := 53) (by kernel_rfl) Tryz.func7 rfl rfl rfl fun G w a h0 hI A => N9 10 A rfl rfl fun A => C9 [] langOf3 A rfl fun A => N9 26 A rfl rfl fun A => forkD 20 A rfl
  (fun h1 A => N9 14 A rfl rfl fun A => R9 A rfl h0 rfl (by unfold litC; rw [if_pos h1]; rfl) rfl)
  (fun h1 A => N9 2 A rfl rfl fun A => I9 [] GC.ok hI (FnI.mono (isName_ nm os hM hE) fun _ _ q => q.1) A rfl fun A => N9 4 A rfl rfl fun A => fork 25 A rfl
   (fun h2 A => N9 7 A rfl rfl fun A => R9 A rfl h0 rfl (by unfold litC; rw [if_neg h1]; rw [if_pos (by revert h2; cases oneN nm <;> simp)]; rfl) rfl)
   (fun h2 A => N9 8 A rfl rfl fun A => I9 [0] GC.ok hI (FnI.mono (uCheck_ cs cx hs (fun h8 h3 => ucc_ cs cx (fun c hc => Nat.le_trans (bad1_le h8 c hc) (by decide)) (by omega))) fun _ _ q => q.2) A rfl fun A => N9 15 A rfl rfl fun A => forkN 34 A rfl
    (fun h3 A => N9 8 A rfl rfl fun A => R9 A rfl h0 rfl (by unfold litC; rw [if_neg h1]; rw [if_neg (by revert h2; cases oneN nm <;> simp)]; rw [if_pos h3]; rfl) rfl)
    (fun h3 A => N9 9 A rfl rfl fun A => I9 [0] GC.ok hI (printsAll_ cs cx [65, 82, 77] 76 77 78 (fun i lb => (prP Ar.armG Ar.armC i lb).1) (fun i lb => (prP Ar.armG Ar.armC i lb).2) os hM hT hE (fun i lb hi hl => Ar.aprint_ i lb os hM hT hE (fun L hL => Ar.arm_prok hi hl hL)) hs hn hR) A rfl fun A => N9 3 A rfl rfl fun A => fork 40 A rfl
     (fun h4 A => N9 7 A rfl rfl fun A => R9 A rfl h0 rfl (by unfold litC; rw [if_neg h1]; rw [if_neg (by revert h2; cases oneN nm <;> simp)]; rw [if_neg (not_not_intro h3)]; rw [if_pos (by revert h4; cases prAll _ cs <;> simp)]; rfl) rfl)
     (fun h4 A => N9 8 A rfl rfl fun A => C9 [] (quan_ qu) A rfl fun A => N9 2 A rfl rfl fun A => forkE 45 A rfl
      (fun h5 A => N9 14 A rfl rfl fun A => R9 A rfl h0 rfl (by unfold litC; rw [if_neg h1]; rw [if_neg (by revert h2; cases oneN nm <;> simp)]; rw [if_neg (not_not_intro h3)]; rw [if_neg (by revert h4; cases prAll _ cs <;> simp)]; rw [if_pos h5]; rfl) rfl)
      (fun h5 A => N9 2 A rfl rfl fun A => C9 [1] (cRight_ kd ck) A rfl fun A => N9 4 A rfl rfl fun A => fork 50 A rfl
       (fun h6 A => N9 7 A rfl rfl fun A => R9 A rfl h0 rfl (by unfold litC; rw [if_neg h1]; rw [if_neg (by revert h2; cases oneN nm <;> simp)]; rw [if_neg (not_not_intro h3)]; rw [if_neg (by revert h4; cases prAll _ cs <;> simp)]; rw [if_neg h5]; rw [if_pos (by revert h6; cases rgt kd <;> simp)]; rfl) rfl)
       (fun h6 A => N9 7 A rfl rfl fun A => C9 [0, 1] (setsOA 3 nm mi r cs cx qu kd ck (ck_len h3)) A rfl fun A => N9 2 A rfl rfl fun A => fork 52 A rfl
        (fun h7 A => N9 7 A rfl rfl fun A => R9 A rfl h0 rfl (by unfold litC; rw [if_neg h1]; rw [if_neg (by revert h2; cases oneN nm <;> simp)]; rw [if_neg (not_not_intro h3)]; rw [if_neg (by revert h4; cases prAll _ cs <;> simp)]; rw [if_neg h5]; rw [if_neg (by revert h6; cases rgt kd <;> simp)]; rw [if_pos h7]; rfl) rfl)
        (fun h7 A => N9 9 A rfl rfl fun A => R9 A rfl h0 rfl (by unfold litC; rw [if_neg h1]; rw [if_neg (by revert h2; cases oneN nm <;> simp)]; rw [if_neg (not_not_intro h3)]; rw [if_neg (by revert h4; cases prAll _ cs <;> simp)]; rw [if_neg h5]; rw [if_neg (by revert h6; cases rgt kd <;> simp)]; rw [if_neg (by rw [h7]; decide)]; rfl) rfl)))))))
theorem litCheck0 (ar : Int) (nm : List UInt8) (mi r : Nat → Int) (cs : List Cde) (cx : Nat) (qu : Int) (kd : List Cn) (ck : Nat) (ha : ¬ (1 ≤ ar ∧ ar ≤ 3)) : Fn Tryz.prog 7 [.agg (tsQ9 ar nm mi r (.sl 0 cs.length cx) qu (.sl 1 kd.length ck))] [some (.lst 1 cs.length (fun zz => cdc (cs.getD zz Cde.z))), some (.lst 5 kd.length (fun zz => cc (kd.getD zz Cn.z)))] (Rt (.int .i64 36) [some (.lst 1 cs.length (fun zz => cdc (cs.getD zz Cde.z))), some (.lst 5 kd.length (fun zz => cc (kd.getD zz Cn.z)))]) :=
 enterM (n := 53) (by kernel_rfl) Tryz.func7 rfl rfl rfl fun G w a h0 A => N9 10 A rfl rfl fun A => C9 [] (langOf0 ar ha) A rfl fun A => N9 10 A rfl rfl fun A => N9 12 A rfl rfl fun A => R9 A rfl h0 rfl rfl rfl
end Go.Proofs.YtjkppaijicjpoaaGreatDoor
namespace Go.Proofs.YtjkppaijicjpoaaGreatDoor
set_option linter.unusedSimpArgs false
set_option linter.unusedVariables false
set_option maxRecDepth 100000
open Go.ChangeShapes Go.WideShapes Go.ChangeAt Go.RowKit Go.Deep
theorem wf_rng {n : Int} (h : (Lit.int .i64 n).wf = true) : -9223372036854775808 ≤ n ∧ n ≤ 9223372036854775807 := by
 have h' : (decide ((IntKind.i64).min ≤ n) && decide (n ≤ (IntKind.i64).max)) = true := h
 rw [Bool.and_eq_true, decide_eq_true_eq, decide_eq_true_eq, show (IntKind.i64).min = -9223372036854775808 from rfl, show (IntKind.i64).max = 9223372036854775807 from rfl] at h'
 exact h'
def insC (i : In) : Array Value := #[.int .i64 i.op, .int .i64 i.dst, .int .i64 i.ra, .int .i64 i.rb, .int .i64 i.imm, .int .i64 i.loc, .int .i64 i.off, .int .i64 i.ix, .int .i64 i.sz, .int .i64 i.fn, .bool i.acq, .bool i.weak, .bool i.rel, .int .i64 i.pred, .int .i64 i.succ, .int .i64 i.to_, .bool i.zero]
def inE (i : In) : List Value := (insC i).toList
def insT (k : Nat) : Nat := if k == 10 || k == 11 || k == 12 || k == 16 then 4 else 3
def insFs (P : Program) : Option (Array Field) := match P.underlying 56 with | some (.struct fs) => some fs | _ => none
def insFB (P : Program) : Bool := match insFs P with | some fs => (List.range 17).all (fun k => match fs[k]? with | some f => f.offset == k && f.type == insT k | none => false) | none => false
theorem insFB_true : insFB Tryz.prog = true := by kernel_rfl
theorem ins_fields : ∃ fs : Array Field, Tryz.prog.underlying 56 = some (.struct fs) ∧ ∀ k, k < 17 → ∃ f, fs[k]? = some f ∧ f.offset = k ∧ f.type = insT k := by
 have h := insFB_true
 unfold insFB at h
 cases hq : insFs Tryz.prog with
 | none => simp [hq] at h
 | some fs =>
  rw [hq] at h
  refine ⟨fs, ?_, fun k hk => ?_⟩
  ·unfold insFs at hq
   split at hq
   ·rename_i fs' he; rw [he]; cases hq; rfl
   ·cases hq
  ·have h1 := List.all_eq_true.1 h k (List.mem_range.2 hk)
   cases hf : fs[k]? with
   | none => simp [hf] at h1
   | some f => rw [hf] at h1; simp only [Bool.and_eq_true, beq_iff_eq] at h1; exact ⟨f, rfl, h1.1, h1.2⟩
theorem int_cells : Tryz.prog.cellsOf 3 = 1 := by kernel_rfl
theorem bool_cells : Tryz.prog.cellsOf 4 = 1 := by kernel_rfl
theorem take_one {l : List Value} {k : Nat} {v : Value} (h : (l.drop k).take 1 = [v]) : l[k]? = some v := by
 have := congrArg (fun l => l[0]?) h
 simpa using this
section
variable {H : Type} {enc : TypeId × Value → H} {W : World} {base : Nat} {spare : Nat → Bool} {held : Bool} {base' : Nat}
theorem open_inL (cs : List Value) (n : Nat) (x : DataW H × List MemPlace) (h : DataW.trod enc Tryz.prog W base' spare held n 56 cs = some x) (hl : cs.length = 17) : ∃ i : In, cs = inE i ∧ okI i := by
 obtain ⟨fs, hu, hfs⟩ := ins_fields
 obtain ⟨xs, n, _, _, _, hlen, hx⟩ := DataW.trod_struct hu h
 have int : ∀ k, k < 17 → insT k = 3 → ∃ m : Int, cs[k]? = some (.int .i64 m) ∧ -9223372036854775808 ≤ m ∧ m ≤ 9223372036854775807 := fun k hk ht => by
  obtain ⟨f, hf1, ho, hty⟩ := hfs k hk
  have h1 := hx k f hf1
  have hl := (Array.getElem?_eq_some_iff.1 hf1).1
  rw [ho, hty, ht, int_cells, List.getElem?_eq_getElem (by omega)] at h1
  obtain ⟨m, h2, _, h3⟩ := DataW.trod_int Tryz.underlying3 h1
  exact ⟨m, take_one h2, wf_rng h3⟩
 have bool : ∀ k, k < 17 → insT k = 4 → ∃ b : Bool, cs[k]? = some (.bool b) := fun k hk ht => by
  obtain ⟨f, hf1, ho, hty⟩ := hfs k hk
  have h1 := hx k f hf1
  have hl := (Array.getElem?_eq_some_iff.1 hf1).1
  rw [ho, hty, ht, bool_cells, List.getElem?_eq_getElem (by omega)] at h1
  obtain ⟨m, h2, _⟩ := DataW.trod_bool Tryz.underlying4 h1
  exact ⟨m, take_one h2⟩
 obtain ⟨c0, h0, w0⟩ := int 0 (by decide) rfl
 obtain ⟨c1, h1, w1⟩ := int 1 (by decide) rfl
 obtain ⟨c2, h2, w2⟩ := int 2 (by decide) rfl
 obtain ⟨c3, h3, w3⟩ := int 3 (by decide) rfl
 obtain ⟨c4, h4, w4⟩ := int 4 (by decide) rfl
 obtain ⟨c5, h5, w5⟩ := int 5 (by decide) rfl
 obtain ⟨c6, h6, w6⟩ := int 6 (by decide) rfl
 obtain ⟨c7, h7, w7⟩ := int 7 (by decide) rfl
 obtain ⟨c8, h8, w8⟩ := int 8 (by decide) rfl
 obtain ⟨c9, h9, w9⟩ := int 9 (by decide) rfl
 obtain ⟨c10, h10⟩ := bool 10 (by decide) rfl
 obtain ⟨c11, h11⟩ := bool 11 (by decide) rfl
 obtain ⟨c12, h12⟩ := bool 12 (by decide) rfl
 obtain ⟨c13, h13, w13⟩ := int 13 (by decide) rfl
 obtain ⟨c14, h14, w14⟩ := int 14 (by decide) rfl
 obtain ⟨c15, h15, w15⟩ := int 15 (by decide) rfl
 obtain ⟨c16, h16⟩ := bool 16 (by decide) rfl
 refine ⟨⟨c0, c1, c2, c3, c4, c5, c6, c7, c8, c9, c10, c11, c12, c13, c14, c15, c16⟩, ?_, ⟨w4, w6⟩, w15⟩
 apply List.ext_getElem?
 intro k
 by_cases hk : k < 17
 ·have : k = 0 ∨ k = 1 ∨ k = 2 ∨ k = 3 ∨ k = 4 ∨ k = 5 ∨ k = 6 ∨ k = 7 ∨ k = 8 ∨ k = 9 ∨ k = 10 ∨ k = 11 ∨ k = 12 ∨ k = 13 ∨ k = 14 ∨ k = 15 ∨ k = 16 := by omega
  rcases this with rfl | rfl | rfl | rfl | rfl | rfl | rfl | rfl | rfl | rfl | rfl | rfl | rfl | rfl | rfl | rfl | rfl
  ·exact h0
  ·exact h1
  ·exact h2
  ·exact h3
  ·exact h4
  ·exact h5
  ·exact h6
  ·exact h7
  ·exact h8
  ·exact h9
  ·exact h10
  ·exact h11
  ·exact h12
  ·exact h13
  ·exact h14
  ·exact h15
  ·exact h16
 ·rw [List.getElem?_eq_none (by omega), List.getElem?_eq_none (by simp [inE, insC]; omega)]
theorem weights_mem {P : Program} {e : Nat} {d : DataW H} : ∀ {l : List (DataW H)}, d ∈ l → (DataW.weightsAll P e l).all (· ≤ reachBytes) = true → (d.weights P e).all (· ≤ reachBytes) = true
 | [], h, _ => by cases h
 | x :: l, h, hw => by
  unfold DataW.weightsAll at hw
  rw [List.all_append, Bool.and_eq_true] at hw
  rcases List.mem_cons.1 h with rfl | h
  ·exact hw.1
  ·exact weights_mem h hw.2
theorem each_at {P : Program} {t : Nat} {d : DataW H} : ∀ {ts : List Nat} {l : List (DataW H)} {i : Nat}, ts[i]? = some t → l[i]? = some d → (DataW.weightsEach P ts l).all (· ≤ reachBytes) = true → (d.weights P t).all (· ≤ reachBytes) = true
 | [], _, _, h, _, _ => by simp at h
 | _ :: _, [], _, _, h, _ => by simp at h
 | t' :: ts, x :: l, i, h1, h2, hw => by
  unfold DataW.weightsEach at hw
  rw [List.all_append, Bool.and_eq_true] at hw
  cases i with
  | zero => simp at h1 h2; subst h1; subst h2; exact hw.1
  | succ i => exact each_at (by simpa using h1) (by simpa using h2) hw.2
theorem open_listT {α : Type} [Inhabited α] {en : α → List Value} {Q : α → Prop} {t e s fuel : Nat} {cells : List Value} {x : DataW H × List MemPlace} (ht : Tryz.prog.underlying t = some (.slice e)) (hc : Tryz.prog.cellsOf e = s) (h0 : 0 < s)
  (hel : ∀ cs n x, DataW.trod enc Tryz.prog W base' spare held n e cs = some x → cs.length = s → (x.1.weights Tryz.prog e).all (· ≤ reachBytes) = true → ∃ y : α, cs = en y ∧ Q y)
  (hf : DataW.trod enc Tryz.prog W base' spare held fuel t cells = some x) (hwt : (x.1.weights Tryz.prog t).all (· ≤ reachBytes) = true) :
  ∃ (ao : Option Addr) (l : List α) (cap : Nat), cells = [.slice ao l.length cap] ∧ (l.length ≤ 9223372036854775807 ∧ l.length * Tryz.prog.bytesOf e ≤ reachBytes) ∧ Sl en s W.heap.size W (.slice ao l.length cap) l ∧ ∀ y ∈ l, Q y := by
 rcases open_slice ht hf with ⟨hcs, _⟩ | ⟨a, len0, cap0, m, n, D, Pl, hcs, hb, hl, hm, hmm, hxe, hx⟩
 ·exact ⟨none, [], 0, hcs, by simp, Sl.nil, fun y hy => by cases hy⟩
 ·have hlm : len0 ≤ m := by rw [hmm]; split <;> omega
  have hml : maxLen = 9223372036854775807 := rfl
  rw [hxe] at hwt
  unfold DataW.weights at hwt
  rw [ht] at hwt
  simp only [List.all_cons, List.all_append, Bool.and_eq_true, decide_eq_true_eq, List.length_map, List.length_range] at hwt
  have hbl : len0 * Tryz.prog.bytesOf e ≤ reachBytes := Nat.le_trans (Nat.mul_le_mul_right _ (Nat.le_add_right _ _)) hwt.1
  rw [hc] at hx
  obtain ⟨Y, hY⟩ := choose_lt (α := α) (n := len0) (p := fun i y => Q y ∧ (en y).length = s ∧ ∀ k, k < s → W.cell? ((a.add (i * s)).add k) = (en y)[k]?) (fun i hi => by
   obtain ⟨cs', h1, h2⟩ := hx i (by omega)
   obtain ⟨_, hlen, hcell⟩ := World.cells?_some h1
   obtain ⟨y, rfl, hq⟩ := hel cs' n _ h2 hlen (weights_mem (l := (List.range len0).map D) (List.mem_map.2 ⟨i, List.mem_range.2 hi, rfl⟩) hwt.2.1)
   exact ⟨y, hq, hlen, hcell⟩)
  have hlen : ((List.range len0).map Y).length = len0 := by simp
  refine ⟨some a, (List.range len0).map Y, cap0, by rw [hlen]; exact hcs, by rw [hlen]; exact ⟨by omega, hbl⟩, ⟨some a, cap0, by rw [hlen], by rw [hlen]; exact hl, fun j x hj => ?_⟩, fun y hy => ?_⟩
  ·have hjl : j < len0 := by have := (List.getElem?_eq_some_iff.1 hj).1; simpa using this
   have hxe : x = Y j := by simp [hjl] at hj; exact hj.symm
   subst hxe
   obtain ⟨_, hyl, hcell⟩ := hY j hjl
   obtain ⟨b, o, spot⟩ := a
   obtain ⟨_, hy0, hcell0⟩ := hY 0 (by omega)
   have h00 := hcell0 0 h0
   rw [List.getElem?_eq_getElem (by omega)] at h00
   have hspot : spot = none := by simpa [Addr.add] using World.cell?_spot h00
   subst hspot
   refine ⟨b, o, rfl, ?_, fun k u hu => ?_⟩
   ·have := World.block_lt_of_cell? W _ h00
    rw [Addr.add_mid, Addr.add_mid] at this
    exact this
   ·have hk : k < s := by have := (List.getElem?_eq_some_iff.1 hu).1; omega
    have := hcell k hk
    rw [hu, Addr.add_mid, Addr.add_mid] at this
    exact this
  ·obtain ⟨i, hi, rfl⟩ := List.mem_map.1 hy
   exact (hY i (by simpa using hi)).1
def cdV (c : Cde) : List Value := [.slice c.ao c.l.length c.cp]
instance : Inhabited Cde := ⟨Cde.z⟩
instance : Inhabited In := ⟨In.z⟩
structure CdOK (W : World) (c : Cde) : Prop where
 sl : Sl inE 17 W.heap.size W (.slice c.ao c.l.length c.cp) c.l
 le : c.l.length ≤ 9223372036854775807
 wl : c.l.length * 120 ≤ reachBytes
 ok : ∀ i ∈ c.l, okI i
theorem open_cdL (cs : List Value) (n : Nat) (x : DataW H × List MemPlace) (h : DataW.trod enc Tryz.prog W base' spare held n 38 cs = some x) (hl : cs.length = 1) (hwt : (x.1.weights Tryz.prog 38).all (· ≤ reachBytes) = true) : ∃ c : Cde, cs = cdV c ∧ CdOK W c := by
 obtain ⟨ao, l, cap, h1, h2, h3, h4⟩ := open_listT (t := 38) (e := 56) (s := 17) (by kernel_rfl) (by kernel_rfl) (by omega) (fun cs n x h hl _ => open_inL cs n x h hl) h hwt
 rw [show Tryz.prog.bytesOf 56 = 120 by kernel_rfl] at h2
 exact ⟨⟨ao, l, cap⟩, h1, h3, h2.1, h2.2, h4⟩
def AI (enc : TypeId × Value → H) (W : World) (base' : Nat) (spare : Nat → Bool) (held : Bool) (t s : Nat) : Prop := Tryz.prog.cellsOf t = s ∧ ∀ (cs : List Value) (n : Nat) (x : DataW H × List MemPlace), DataW.trod enc Tryz.prog W base' spare held n t cs = some x → ∀ k, k < s → ∃ m : Int, cs[k]? = some (.int .i64 m) ∧ -9223372036854775808 ≤ m ∧ m ≤ 9223372036854775807
theorem AI.int : AI enc W base' spare held 3 1 := ⟨by kernel_rfl, fun cs n x h k hk => by
 obtain ⟨m, h2, _, h3⟩ := DataW.trod_int Tryz.underlying3 h
 obtain rfl : k = 0 := by omega
 exact ⟨m, by rw [h2]; rfl, wf_rng h3⟩⟩
theorem sub_at {cs : List Value} {o s j : Nat} (hj : j < s) : ((cs.drop o).take s)[j]? = cs[o + j]? := by
 rw [List.getElem?_take_of_lt hj, List.getElem?_drop]
theorem AI.arr {t n e s : Nat} (ht : Tryz.prog.underlying t = some (.array n e)) (hc : Tryz.prog.cellsOf t = n * s) (h0 : 0 < s) (he : AI enc W base' spare held e s) : AI enc W base' spare held t (n * s) := ⟨hc, fun cs f x h k hk => by
 obtain ⟨xs, m, _, _, _, hxl, hx⟩ := DataW.trod_array ht h
 have hi : k / s < n := (Nat.div_lt_iff_lt_mul h0).2 hk
 have h1 := hx (k / s) hi
 rw [he.1, List.getElem?_eq_getElem (by omega)] at h1
 obtain ⟨z, h2, h3⟩ := he.2 _ _ _ h1 (k % s) (Nat.mod_lt _ h0)
 rw [sub_at (Nat.mod_lt _ h0)] at h2
 have e : k / s * s + k % s = k := by rw [Nat.mul_comm]; exact Nat.div_add_mod k s
 rw [e] at h2
 exact ⟨z, h2, h3⟩⟩
def fldAt (P : Program) (t i : Nat) : Option (Nat × Nat) := match P.underlying t with | some (.struct fs) => (fs[i]?).map fun f => (f.offset, f.type) | _ => none
theorem fld {t i o u fuel : Nat} {cs : List Value} {x : DataW H × List MemPlace} (h : DataW.trod enc Tryz.prog W base' spare held fuel t cs = some x) (h1 : fldAt Tryz.prog t i = some (o, u)) : ∃ n z, DataW.trod enc Tryz.prog W base' spare held n u ((cs.drop o).take (Tryz.prog.cellsOf u)) = some z := by
 unfold fldAt at h1
 split at h1
 ·next fs hu =>
  obtain ⟨xs, m, _, _, _, hxl, hx⟩ := DataW.trod_struct hu h
  obtain ⟨f, hf1, hf2⟩ := Option.map_eq_some_iff.1 h1
  cases hf2
  have h5 := hx i f hf1
  have hil := (Array.getElem?_eq_some_iff.1 hf1).1
  rw [List.getElem?_eq_getElem (by omega)] at h5
  exact ⟨m, _, h5⟩
 ·cases h1
theorem AI.str {t s : Nat} (hc : Tryz.prog.cellsOf t = s) (hf : ∀ k, k < s → ∃ i o u z, fldAt Tryz.prog t i = some (o, u) ∧ AI enc W base' spare held u z ∧ o ≤ k ∧ k < o + z) : AI enc W base' spare held t s := ⟨hc, fun cs n x h k hk => by
 obtain ⟨i, o, u, z, h1, h2, h3, h4⟩ := hf k hk
 obtain ⟨m, z', h5⟩ := fld h h1
 rw [h2.1] at h5
 obtain ⟨q, h6, h7⟩ := h2.2 _ _ _ h5 (k - o) (by omega)
 rw [sub_at (by omega), show o + (k - o) = k by omega] at h6
 exact ⟨q, h6, h7⟩⟩
theorem AI.cond : AI enc W base' spare held 67 5 := by
 refine AI.str (by kernel_rfl) fun k hk => ?_
 have : k = 0 ∨ k = 1 ∨ k = 2 ∨ k = 3 ∨ k = 4 := by omega
 rcases this with rfl | rfl | rfl | rfl | rfl
 ·exact ⟨0, 0, 3, 1, by kernel_rfl, AI.int, by omega, by omega⟩
 ·exact ⟨1, 1, 3, 1, by kernel_rfl, AI.int, by omega, by omega⟩
 ·exact ⟨2, 2, 3, 1, by kernel_rfl, AI.int, by omega, by omega⟩
 ·exact ⟨3, 3, 3, 1, by kernel_rfl, AI.int, by omega, by omega⟩
 ·exact ⟨4, 4, 3, 1, by kernel_rfl, AI.int, by omega, by omega⟩
def ccV (c : Cn) : List Value := [.int .i64 c.k, .int .i64 c.t, .int .i64 c.r, .int .i64 c.l, .int .i64 c.v]
def wfC (c : Cn) : Prop := -9223372036854775808 ≤ c.v ∧ c.v ≤ 9223372036854775807
instance : Inhabited Cn := ⟨Cn.z⟩
theorem open_cnL (cs : List Value) (n : Nat) (x : DataW H × List MemPlace) (h : DataW.trod enc Tryz.prog W base' spare held n 67 cs = some x) (hl : cs.length = 5) : ∃ y : Cn, cs = ccV y ∧ wfC y := by
 have A := AI.cond.2 cs n x h
 obtain ⟨a, ha, _⟩ := A 0 (by omega)
 obtain ⟨b, hb, _⟩ := A 1 (by omega)
 obtain ⟨c, hc, _⟩ := A 2 (by omega)
 obtain ⟨d, hd, _⟩ := A 3 (by omega)
 obtain ⟨e, he, h5⟩ := A 4 (by omega)
 refine ⟨⟨a, b, c, d, e⟩, ?_, h5⟩
 match cs, hl, ha, hb, hc, hd, he with
 | [u0, u1, u2, u3, u4], _, ha, hb, hc, hd, he => simp at ha hb hc hd he; subst ha hb hc hd he; rfl
theorem fldW {t i o u fuel : Nat} {cs : List Value} {x : DataW H × List MemPlace} (h : DataW.trod enc Tryz.prog W base' spare held fuel t cs = some x) (hwt : (x.1.weights Tryz.prog t).all (· ≤ reachBytes) = true) (h1 : fldAt Tryz.prog t i = some (o, u)) : ∃ n z, DataW.trod enc Tryz.prog W base' spare held n u ((cs.drop o).take (Tryz.prog.cellsOf u)) = some z ∧ (z.1.weights Tryz.prog u).all (· ≤ reachBytes) = true := by
 unfold fldAt at h1
 split at h1
 ·next fs hu =>
  obtain ⟨xs, m, _, hxe, _, hxl, hx⟩ := DataW.trod_struct hu h
  obtain ⟨f, hf1, hf2⟩ := Option.map_eq_some_iff.1 h1
  cases hf2
  have h5 := hx i f hf1
  have hil := (Array.getElem?_eq_some_iff.1 hf1).1
  rw [List.getElem?_eq_getElem (by omega)] at h5
  refine ⟨m, _, h5, ?_⟩
  rw [hxe] at hwt
  unfold DataW.weights at hwt
  rw [hu] at hwt
  exact each_at (i := i) (by rw [List.getElem?_map]; simp [hf1]) (by rw [List.getElem?_map, List.getElem?_eq_getElem (by omega)]; rfl) hwt
 ·cases h1
structure Ts where (ar : Int) (nm : List UInt8) (mi r : Nat → Int) (bo : BO) (cs : List Cde) (cx : Nat) (qu : Int) (co : BO) (kd : List Cn) (ck : Nat)
def tsV (y : Ts) : List Value := [.int .i64 y.ar, .string (S y.nm), .int .i64 (y.mi 0), .int .i64 (y.mi 1), .int .i64 (y.mi 2), .int .i64 (y.r 0), .int .i64 (y.r 1), .int .i64 (y.r 2), .int .i64 (y.r 3), .int .i64 (y.r 4), .int .i64 (y.r 5), .int .i64 (y.r 6), .int .i64 (y.r 7), .int .i64 (y.r 8), .int .i64 (y.r 9), .int .i64 (y.r 10), .int .i64 (y.r 11), .int .i64 (y.r 12), .int .i64 (y.r 13), .int .i64 (y.r 14), .int .i64 (y.r 15), .int .i64 (y.r 16), .int .i64 (y.r 17), .int .i64 (y.r 18), .int .i64 (y.r 19), .int .i64 (y.r 20), .int .i64 (y.r 21), .int .i64 (y.r 22), .int .i64 (y.r 23), .slice (adB y.bo) y.cs.length y.cx, .int .i64 y.qu, .slice (adB y.co) y.kd.length y.ck]
structure TsOK (W : World) (y : Ts) : Prop where
 codes : Sl cdV 1 W.heap.size W (.slice (adB y.bo) y.cs.length y.cx) y.cs
 conds : Sl ccV 5 W.heap.size W (.slice (adB y.co) y.kd.length y.ck) y.kd
 code : ∀ c ∈ y.cs, CdOK W c
 cond : ∀ c ∈ y.kd, wfC c
 le : y.cs.length ≤ 9223372036854775807
 lk : y.kd.length ≤ 9223372036854775807
 ln : y.nm.length ≤ 9223372036854775807
 wc : y.cs.length * 24 ≤ reachBytes
 wk : y.kd.length * 40 ≤ reachBytes
 wn : y.nm.length ≤ reachBytes
 ar : -9223372036854775808 ≤ y.ar ∧ y.ar ≤ 9223372036854775807
 qu : -9223372036854775808 ≤ y.qu ∧ y.qu ≤ 9223372036854775807
 mi : ∀ k, k < 3 → -9223372036854775808 ≤ y.mi k ∧ y.mi k ≤ 9223372036854775807
 r : ∀ k, k < 24 → -9223372036854775808 ≤ y.r k ∧ y.r k ≤ 9223372036854775807
def tsTs : List Nat := [3, 9, 3, 3, 3, 3, 3, 3, 3, 3, 3, 3, 3, 3, 3, 3, 3, 3, 3, 3, 3, 3, 3, 3, 3, 3, 3, 3, 3, 25, 3, 26]
theorem ts_types : Tryz.prog.cellTypes Tryz.prog.depth 28 = some tsTs := by kernel_rfl
theorem slice_spot {t e n cap : Nat} {ao : Option Addr} (ht : Tryz.prog.underlying t = some (.slice e)) (hv : Cell.okWide Tryz.prog W .any base t (.slice ao n cap)) : ∃ bo : BO, ao = adB bo := by
 cases ao with
 | none => exact ⟨none, rfl⟩
 | some a =>
  simp only [Cell.okWide, ht, Cell.ok] at hv
  obtain ⟨b, o, s⟩ := a
  have : s = none := hv.2.2.2.1
  subst this
  exact ⟨some (b, o), rfl⟩
def isStr (P : Program) (t : Nat) : Bool := match P.underlying t with | some (.struct _) => true | _ => false
theorem str_of {t : Nat} (h : isStr Tryz.prog t = true) : ∃ fs, Tryz.prog.underlying t = some (.struct fs) := by
 unfold isStr at h
 split at h
 ·next fs he => exact ⟨fs, he⟩
 ·cases h
theorem open_test {v : Value} {d : DataW H} {ps : List MemPlace} (hv : Value.okWide Tryz.prog W .any base 28 v) (h : DataW.Trod enc Tryz.prog W base' spare held 28 v d ps) (hwt : (d.weights Tryz.prog 28).all (· ≤ reachBytes) = true) : ∃ y : Ts, v = .agg (tsV y).toArray ∧ TsOK W y := by
 obtain ⟨fs, hu⟩ := str_of (t := 28) (by kernel_rfl)
 simp only [Value.okWide, hu] at hv
 obtain ⟨ca, rfl, hsz, ts, hts, _, hrow⟩ := hv
 rw [ts_types] at hts
 cases hts
 rw [show Tryz.prog.cellsOf 28 = 32 by kernel_rfl] at hsz
 obtain ⟨fuel, hf⟩ := h
 have hcl : ∀ k : Nat, ca[k]? = ca.toList[k]? := fun k => by simp
 have hf : DataW.trod enc Tryz.prog W base' spare held fuel 28 ca.toList = some (d, ps) := by simpa [Value.cells] using hf
 have hl : ca.toList.length = 32 := by simpa using hsz
 have one : ∀ (i o u s : Nat), fldAt Tryz.prog 28 i = some (o, u) → AI enc W base' spare held u s → ∀ k, k < s → ∃ m : Int, ca.toList[o + k]? = some (.int .i64 m) ∧ -9223372036854775808 ≤ m ∧ m ≤ 9223372036854775807 := fun i o u s h1 h2 k hk => by
  obtain ⟨n, z, h3⟩ := fld hf h1
  rw [h2.1] at h3
  obtain ⟨m, h4, h5⟩ := h2.2 _ _ _ h3 k hk
  rw [sub_at hk] at h4
  exact ⟨m, h4, h5⟩
 obtain ⟨ar, h0, har⟩ := one 0 0 3 1 (by kernel_rfl) AI.int 0 (by decide)
 obtain ⟨qu, h30, hqu⟩ := one 5 30 3 1 (by kernel_rfl) AI.int 0 (by decide)
 obtain ⟨mi, hmi⟩ := choose_lt (α := Int) (n := 3) (one 2 2 22 3 (by kernel_rfl) (AI.arr (n := 3) (s := 1) (e := 3) (by kernel_rfl) (by kernel_rfl) (by decide) AI.int))
 obtain ⟨r, hr⟩ := choose_lt (α := Int) (n := 24) (one 3 5 24 24 (by kernel_rfl) (AI.arr (n := 3) (s := 8) (e := 23) (by kernel_rfl) (by kernel_rfl) (by decide) (AI.arr (n := 8) (s := 1) (e := 3) (by kernel_rfl) (by kernel_rfl) (by decide) AI.int)))
 obtain ⟨n1, z1, hn, hwn⟩ := fldW hf hwt (i := 1) (o := 1) (u := 9) (by kernel_rfl)
 obtain ⟨nm, hnm, hnx, hln⟩ := DataW.trod_string (by kernel_rfl) hn
 rw [show Tryz.prog.cellsOf 9 = 1 by kernel_rfl] at hnm
 have h1 := take_one hnm
 obtain ⟨n2, z2, hc, hwc⟩ := fldW hf hwt (i := 4) (o := 29) (u := 25) (by kernel_rfl)
 obtain ⟨ao, cs, cx, hc1, hle, hsl, hcd⟩ := open_listT (t := 25) (e := 38) (s := 1) (by kernel_rfl) (by kernel_rfl) (by omega) open_cdL hc hwc
 rw [show Tryz.prog.cellsOf 25 = 1 by kernel_rfl] at hc1
 have h29 := take_one hc1
 obtain ⟨n3, z3, hk, hwk⟩ := fldW hf hwt (i := 6) (o := 31) (u := 26) (by kernel_rfl)
 obtain ⟨ao', kd, ck, hk1, hlk, hsk, hkd⟩ := open_listT (t := 26) (e := 67) (s := 5) (by kernel_rfl) (by kernel_rfl) (by omega) (fun cs n x h hl _ => open_cnL cs n x h hl) hk hwk
 rw [show Tryz.prog.bytesOf 38 = 24 by kernel_rfl] at hle
 rw [show Tryz.prog.bytesOf 67 = 40 by kernel_rfl] at hlk
 rw [hnx] at hwn
 rw [show Tryz.prog.cellsOf 26 = 1 by kernel_rfl] at hk1
 have h31 := take_one hk1
 obtain ⟨u, hu1, hu2⟩ := hrow 29 _ ((hcl 29).trans h29)
 cases hu1
 obtain ⟨bo, rfl⟩ := slice_spot (e := 38) (by kernel_rfl) hu2
 obtain ⟨u, hu3, hu4⟩ := hrow 31 _ ((hcl 31).trans h31)
 cases hu3
 obtain ⟨co, rfl⟩ := slice_spot (e := 67) (by kernel_rfl) hu4
 refine ⟨⟨ar, nm.data.toList, mi, r, bo, cs, cx, qu, co, kd, ck⟩, ?_, hsl, hsk, hcd, hkd, hle.1, hlk.1, ?_, hle.2, hlk.2, (by unfold DataW.weights at hwn; simpa using hwn), har, hqu, fun k hk => (hmi k hk).2, fun k hk => (hr k hk).2⟩
 ·have e : ca.toList = tsV ⟨ar, nm.data.toList, mi, r, bo, cs, cx, qu, co, kd, ck⟩ := by
   apply List.ext_getElem?
   intro k
   by_cases hk : k < 32
   ·have : k = 0 ∨ k = 1 ∨ k = 2 ∨ k = 3 ∨ k = 4 ∨ k = 5 ∨ k = 6 ∨ k = 7 ∨ k = 8 ∨ k = 9 ∨ k = 10 ∨ k = 11 ∨ k = 12 ∨ k = 13 ∨ k = 14 ∨ k = 15 ∨ k = 16 ∨ k = 17 ∨ k = 18 ∨ k = 19 ∨ k = 20 ∨ k = 21 ∨ k = 22 ∨ k = 23 ∨ k = 24 ∨ k = 25 ∨ k = 26 ∨ k = 27 ∨ k = 28 ∨ k = 29 ∨ k = 30 ∨ k = 31 := by omega
    rcases this with rfl | rfl | rfl | rfl | rfl | rfl | rfl | rfl | rfl | rfl | rfl | rfl | rfl | rfl | rfl | rfl | rfl | rfl | rfl | rfl | rfl | rfl | rfl | rfl | rfl | rfl | rfl | rfl | rfl | rfl | rfl | rfl
    ·exact h0
    ·exact h1
    ·exact (hmi 0 (by decide)).1
    ·exact (hmi 1 (by decide)).1
    ·exact (hmi 2 (by decide)).1
    ·exact (hr 0 (by decide)).1
    ·exact (hr 1 (by decide)).1
    ·exact (hr 2 (by decide)).1
    ·exact (hr 3 (by decide)).1
    ·exact (hr 4 (by decide)).1
    ·exact (hr 5 (by decide)).1
    ·exact (hr 6 (by decide)).1
    ·exact (hr 7 (by decide)).1
    ·exact (hr 8 (by decide)).1
    ·exact (hr 9 (by decide)).1
    ·exact (hr 10 (by decide)).1
    ·exact (hr 11 (by decide)).1
    ·exact (hr 12 (by decide)).1
    ·exact (hr 13 (by decide)).1
    ·exact (hr 14 (by decide)).1
    ·exact (hr 15 (by decide)).1
    ·exact (hr 16 (by decide)).1
    ·exact (hr 17 (by decide)).1
    ·exact (hr 18 (by decide)).1
    ·exact (hr 19 (by decide)).1
    ·exact (hr 20 (by decide)).1
    ·exact (hr 21 (by decide)).1
    ·exact (hr 22 (by decide)).1
    ·exact (hr 23 (by decide)).1
    ·exact h29
    ·exact h30
    ·exact h31
   ·rw [List.getElem?_eq_none (by omega), List.getElem?_eq_none (by simp [tsV]; omega)]
  rw [← e]
 ·have hml : maxLen = 9223372036854775807 := rfl
  show nm.data.toList.length ≤ _
  have e2 : nm.data.toList.length = nm.size := Array.length_toList
  rw [e2]
  exact hln
end
end Go.Proofs.YtjkppaijicjpoaaGreatDoor
namespace Go.Proofs.YtjkppaijicjpoaaGreatDoor
open Go.ChangeShapes Go.WideShapes Go.ChangeAt Go.RowKit
set_option linter.unusedVariables false
set_option linter.unusedSimpArgs false
set_option maxRecDepth 100000
def tsS (y : Ts) : SV := .agg (tsQ9 y.ar y.nm y.mi y.r (.sl 0 y.cs.length y.cx) y.qu (.sl 1 y.kd.length y.ck))
def tsH (y : Ts) : Hp := [some (.lst 1 y.cs.length (fun zz => cdc (y.cs.getD zz Cde.z))), some (.lst 5 y.kd.length (fun zz => cc (y.kd.getD zz Cn.z)))]
def tsG (y : Ts) : Gr := [locB y.bo, locB y.co]
section
variable {W : World} {y : Ts}
theorem ts_l1 (h : TsOK W y) : den (tsG y) (.sl 0 y.cs.length y.cx) = some (.slice (adB y.bo) y.cs.length y.cx) ∧ EntOK (tsG y) W (locB y.bo) (.lst 1 y.cs.length (fun zz => cdc (y.cs.getD zz Cde.z))) :=
 (lst_of (bo := y.bo) (enc := cdV) (f := fun zz => cdc (y.cs.getD zz Cde.z)) h.codes (Nat.le_refl _) (fun k x hx => by show denL [] (cdc (y.cs.getD k Cde.z)) = _; rw [List.getD_eq_getElem?_getD, hx]; rfl) (fun k => ⟨_, rfl⟩)).2 [] [locB y.co]
theorem ts_l2 (h : TsOK W y) : den (tsG y) (.sl 1 y.kd.length y.ck) = some (.slice (adB y.co) y.kd.length y.ck) ∧ EntOK (tsG y) W (locB y.co) (.lst 5 y.kd.length (fun zz => cc (y.kd.getD zz Cn.z))) :=
 (lst_of (bo := y.co) (enc := ccV) (f := fun zz => cc (y.kd.getD zz Cn.z)) h.conds (Nat.le_refl _) (fun k x hx => by show denL [] (cc (y.kd.getD k Cn.z)) = _; rw [List.getD_eq_getElem?_getD, hx]; rfl) (fun k => ⟨_, rfl⟩)).2 [locB y.bo] []
theorem ts_ro : ∀ (i : Nat) (e : Ent), (tsH y)[i]? = some (some e) → e.mut = false := fun i e he => by
 match i, he with
 | 0, he => cases he; rfl
 | 1, he => cases he; rfl
 | n + 2, he => simp [tsH] at he
theorem ts_mem (h : TsOK W y) : Mem (tsH y) (tsG y) W := ⟨rfl, fun i e he => by
  match i, he with
  | 0, he => cases he; exact (ts_l1 h).2
  | 1, he => cases he; exact (ts_l2 h).2
  | n + 2, he => simp [tsH] at he, fun i j e f L M _ hi _ hm _ _ _ => by rw [ts_ro i e hi] at hm; cases hm⟩
theorem ts_den (h : TsOK W y) : denL (tsG y) [tsS y] = some [.agg (tsV y).toArray] := by
 have e1 := (ts_l1 h).1
 have e2 := (ts_l2 h).1
 generalize tsG y = G at e1 e2
 unfold tsS tsV
 simp only [denL, den, Option.map_some] at e1 e2 ⊢
 rw [e1, e2]
 rfl
theorem ts_codes (h : TsOK W y) {ks : List Nat} (hk : ∀ b, ks.contains b = false) : CodesAt y.cs W ks := fun c hc => by
 obtain ⟨ao, cap, hv, hlc, he⟩ := (h.code c hc).sl
 injection hv with q1 q2 q3
 refine ⟨fun k => ⟨_, rfl⟩, ?_⟩
 by_cases h0 : c.l.length = 0
 ·exact .inl h0
 ·obtain ⟨b, o, e, hb, _⟩ := he 0 c.l[0] (List.getElem?_eq_getElem (by omega))
  refine .inr ⟨b, o, q1.trans e, hb, hk b, fun k hkl => ?_⟩
  obtain ⟨b', o', e', _, hr⟩ := he k c.l[k] (List.getElem?_eq_getElem hkl)
  rw [e] at e'
  cases e'
  exact ⟨inE c.l[k], (by show denL [] (insS (c.l.getD k In.z)) = _; rw [List.getD_eq_getElem?_getD, List.getElem?_eq_getElem hkl]; rfl), hr⟩
theorem tab_fac (h : Lib.TabIs Tryz.prog W "internal/strconv.uint64pow10" .u64 Lib.pow10Tab) : ∃ (g : Nat) (o : Obj), W.heap[g]? = some o ∧ ∀ w : World, w.heap[g]? = some o → Lib.TabIs Tryz.prog w "internal/strconv.uint64pow10" .u64 Lib.pow10Tab := by
 unfold Lib.TabIs World.var? at h
 cases hg : Tryz.prog.globalNamed "internal/strconv.uint64pow10" with
 | none => rw [hg] at h; simp at h
 | some g =>
  rw [hg] at h
  cases ho : W.heap[g]? with
  | none => simp [ho] at h
  | some o =>
   refine ⟨g, o, ho, fun w hw => ?_⟩
   unfold Lib.TabIs World.var?
   rw [hg]
   simp only [Option.bind_some, ho, hw] at h ⊢
   exact h
theorem cell_fac {b k : Nat} {v : Value} (h : W.cell? ⟨b, k, none⟩ = some v) : ∃ o, W.heap[b]? = some o ∧ ∀ w : World, w.heap[b]? = some o → w.cell? ⟨b, k, none⟩ = some v := by
 cases ho : W.heap[b]? with
 | none => unfold World.cell? at h; simp [ho] at h
 | some o =>
  refine ⟨o, rfl, fun w hw => ?_⟩
  unfold World.cell? at h ⊢
  simp only [ho, hw] at h ⊢
  exact h
end
end Go.Proofs.YtjkppaijicjpoaaGreatDoor
namespace Go.Proofs.YtjkppaijicjpoaaGreatDoor.Mc
open Go.RowKit
set_option linter.unusedVariables false
set_option linter.unusedSimpArgs false
set_option maxRecDepth 100000
set_option maxHeartbeats 2000000
def prX (ar : Int) : In → Int := fun i => if ar = 1 then (prP x86G x86C i (labL i.to_)).2 else if ar = 2 then (prP riscvG riscvC i (labL i.to_)).2 else (prP Ar.armG Ar.armC i (labL i.to_)).2
def chkV (ar : Int) (nm : List UInt8) (cs : List Cde) (qu : Int) (kd : List Cn) (r : Nat → Int) : Int := if 1 ≤ ar ∧ ar ≤ 3 then litC (prX ar) nm cs qu kd r else 36
theorem litCheck_ (ar : Int) (nm : List UInt8) (mi r : Nat → Int) (cs : List Cde) (cx : Nat) (qu : Int) (kd : List Cn) (ck : Nat) (os : List (Nat × Obj)) (hM : ∀ w ks, Gl os w ks → ∃ m, w.cell? ⟨1, 0, none⟩ = some (.int .i64 m)) (hT : ∀ w ks, Gl os w ks → Lib.TabIs Tryz.prog w "internal/strconv.uint64pow10" .u64 Lib.pow10Tab) (hE : ∀ w ks, Gl os w ks → ∃ ev, w.cell? ⟨4, 0, none⟩ = some ev ∧ (ev = .nilIface ∨ ∃ te pe, ev = .iface te pe)) (hs : ∀ c ∈ cs, c.l.length ≤ 9223372036854775807) (hR : ∀ c ∈ cs, ∀ i ∈ c.l, okI i) (hn : cs.length ≤ 9223372036854775807) : FnI (GC os cs) Tryz.prog 7 [.agg (tsQ9 ar nm mi r (.sl 0 cs.length cx) qu (.sl 1 kd.length ck))] [some (.lst 1 cs.length (fun zz => cdc (cs.getD zz Cde.z))), some (.lst 5 kd.length (fun zz => cc (kd.getD zz Cn.z)))] (Rt (.int .i64 (chkV ar nm cs qu kd r)) [some (.lst 1 cs.length (fun zz => cdc (cs.getD zz Cde.z))), some (.lst 5 kd.length (fun zz => cc (kd.getD zz Cn.z)))]) := by
 by_cases h : 1 ≤ ar ∧ ar ≤ 3
 ·have hc : ar = 1 ∨ ar = 2 ∨ ar = 3 := by omega
  unfold chkV
  rw [if_pos h]
  rcases hc with rfl | rfl | rfl
  ·exact litCheck1 nm mi r cs cx qu kd ck os hM hT hE hs hR hn
  ·exact litCheck2 nm mi r cs cx qu kd ck os hM hT hE hs hR hn
  ·exact litCheck3 nm mi r cs cx qu kd ck os hM hT hE hs hR hn
 ·unfold chkV
  rw [if_neg h]
  exact (litCheck0 ar nm mi r cs cx qu kd ck h).toI
theorem chk0 {ar : Int} {nm : List UInt8} {cs : List Cde} {qu : Int} {kd : List Cn} {r : Nat → Int} (h : chkV ar nm cs qu kd r = 0) : ckE cs = 0 ∧ kd.length ≤ 32 := by
 unfold chkV at h
 split at h
 ·unfold litC at h
  split at h
  ·omega
  split at h
  ·omega
  split at h
  ·next hh => exact absurd h hh
  ·next hh =>
   refine ⟨Decidable.not_not.1 hh, ?_⟩
   split at h
   ·omega
   split at h
   ·omega
   split at h
   ·omega
   ·next hr =>
    have hr : rgt kd = true := by simpa using hr
    unfold rgt at hr
    split at hr
    ·cases hr
    ·omega
 ·omega
section
variable {W : World} {y : Ts}
theorem lst_G {G : Gr} {p : Option Loc} {s n : Nat} {f : Nat → List SV} (h : EntOK [] W p (.lst s n f)) : EntOK G W p (.lst s n f) := h
theorem call_ofTX {f : Nat} {x : SV} {v : Value} {ex : List SV} {Hx : Hp} {Gx : Gr} {vx : List Value} (hx : ∀ G : Gr, den G x = some v) (hO : TsOK W y) (hT0 : Lib.TabIs Tryz.prog W "internal/strconv.uint64pow10" .u64 Lib.pow10Tab) (m0 : Int) (hm : W.cell? ⟨1, 0, none⟩ = some (.int .i64 m0)) (ev : Value) (he : W.cell? ⟨4, 0, none⟩ = some ev) (hev : ev = .nilIface ∨ ∃ te pe, ev = .iface te pe)
  (hlen : Hx.length = Gx.length) (hMx : ∀ (i : Nat) (e : Ent), Hx[i]? = some (some e) → ∃ s n f, e = .lst s n f ∧ EntOK [] W ((Gx[i]?).getD none) (.lst s n f)) (hdx : denL (tsG y ++ Gx) ex = some vx)
  (h : ∀ (os : List (Nat × Obj)) (hM : ∀ w ks, Gl os w ks → ∃ m, w.cell? ⟨1, 0, none⟩ = some (.int .i64 m)) (hT : ∀ w ks, Gl os w ks → Lib.TabIs Tryz.prog w "internal/strconv.uint64pow10" .u64 Lib.pow10Tab) (hE : ∀ w ks, Gl os w ks → ∃ ev, w.cell? ⟨4, 0, none⟩ = some ev ∧ (ev = .nilIface ∨ ∃ te pe, ev = .iface te pe)), FnI (GC os y.cs) Tryz.prog f (tsS y :: ex) (tsH y ++ Hx) (Rt x (tsH y ++ Hx))) : Calls Tryz.prog f (.agg (tsV y).toArray :: vx).toArray W fun e W' => e = .returned v ∧ Grow W W' := by
 have hl2 : (tsH y).length = (tsG y).length := rfl
 have hro : ∀ (i : Nat) (e : Ent), (tsH y ++ Hx)[i]? = some (some e) → e.mut = false := fun i e hi => by
  by_cases q : i < (tsH y).length
  ·rw [List.getElem?_append_left q] at hi; exact ts_ro i e hi
  ·rw [List.getElem?_append_right (by omega)] at hi
   obtain ⟨s, n, f, rfl, _⟩ := hMx _ e hi
   rfl
 have hMem : Mem (tsH y ++ Hx) (tsG y ++ Gx) W := by
  refine mem_ro (by rw [List.length_append, List.length_append, hl2, hlen]) fun i e hi => ⟨hro i e hi, ?_⟩
  by_cases q : i < (tsH y).length
  ·rw [List.getElem?_append_left q] at hi
   rw [List.getElem?_append_left (by omega)]
   have := ((ts_mem hO).ent i e hi).more Gx
   exact this
  ·rw [List.getElem?_append_right (by omega)] at hi
   rw [List.getElem?_append_right (by omega), ← hl2]
   obtain ⟨s, n, f, rfl, h2⟩ := hMx _ e hi
   exact lst_G h2
 obtain ⟨g5, o5, k5, c5⟩ := tab_fac hT0
 obtain ⟨o0, k0, c0⟩ := cell_fac hm
 obtain ⟨o1, k1, c1⟩ := cell_fac he
 have hk : ∀ k, (keys (tsH y ++ Hx) (tsG y ++ Gx)).contains k = false := fun k => keysN hro k
 have hk0 : ∀ k, (keys (tsH y) (tsG y)).contains k = false := fun k => keysN ts_ro k
 have hG : Gl [(1, o0), (4, o1), (g5, o5)] W (keys (tsH y ++ Hx) (tsG y ++ Gx)) := fun p hp => by
  simp only [List.mem_cons, List.not_mem_nil, or_false] at hp
  rcases hp with rfl | rfl | rfl
  ·exact ⟨k0, hk _⟩
  ·exact ⟨k1, hk _⟩
  ·exact ⟨k5, hk _⟩
 have hcodes : CodesAt y.cs W (keys (tsH y ++ Hx) (tsG y ++ Gx)) := CodesAt.ok _ _ _ _ (ts_codes hO hk0) (Mix.refl _ _) (fun b hb => by rw [hk b] at hb; cases hb)
 have hf := h [(1, o0), (4, o1), (g5, o5)] (fun w ks hg => ⟨m0, c0 w (hg (1, o0) (by simp)).1⟩) (fun w ks hg => c5 w (hg (g5, o5) (by simp)).1) (fun w ks hg => ⟨ev, c1 w (hg (4, o1) (by simp)).1, hev⟩)
 have hden : denL (tsG y ++ Gx) (tsS y :: ex) = some (.agg (tsV y).toArray :: vx) := by
  have h1 := denL_mono Gx [tsS y] (ts_den hO)
  obtain ⟨v1, ws, e1, e2, e3⟩ := denL_cons h1
  cases e2
  cases e3
  exact denL_mk e1 hdx
 refine Calls.mono (hf.2 (tsG y ++ Gx) W _ hMem ⟨hG, hcodes⟩ hden) fun e W' hp => ?_
 obtain ⟨v', F, h1, h2, _, h4⟩ := post_ro hp hro
 rw [hx] at h1
 cases h1
 exact ⟨h2, h4⟩
end
end Go.Proofs.YtjkppaijicjpoaaGreatDoor.Mc
namespace Go.Proofs.YtjkppaijicjpoaaGreatDoor.Mc
open Go.RowKit
set_option linter.unusedVariables false
set_option linter.unusedSimpArgs false
set_option maxRecDepth 100000
set_option maxHeartbeats 2000000
/- numbers as texts -/
def dv (l : List UInt8) : Nat := l.foldl (fun a c => a * 10 + (c.toNat - 48)) 0
def w1 (s : Th) : List (List UInt8 × UInt8) := [(Lib.itoa ((s.at_ : Nat) : Int), 32), (Lib.itoa (s.r 0), 32), (Lib.itoa (s.r 1), 32), (Lib.itoa (s.r 2), 32), (Lib.itoa (s.r 3), 32), (Lib.itoa (s.r 4), 32), (Lib.itoa (s.r 5), 32), (Lib.itoa (s.r 6), 32), (Lib.itoa (s.r 7), 59)]
end Go.Proofs.YtjkppaijicjpoaaGreatDoor.Mc
namespace Go.Proofs.YtjkppaijicjpoaaGreatDoor.Mc
open Go.RowKit
set_option linter.unusedVariables false
set_option linter.unusedSimpArgs false
set_option maxRecDepth 100000
set_option maxHeartbeats 2000000
theorem l_all {cs cs' : List Cde} (hl : cs'.length = cs.length) (he : ∀ k, k < cs.length → (cs'.getD k Cde.z).l = (cs.getD k Cde.z).l) : ∀ k, (cs'.getD k Cde.z).l = (cs.getD k Cde.z).l := fun k => by
 by_cases hk : k < cs.length
 ·exact he k hk
 ·rw [List.getD_eq_getElem?_getD, List.getD_eq_getElem?_getD, List.getElem?_eq_none (by omega), List.getElem?_eq_none (by omega)]
theorem map_l {cs cs' : List Cde} (hl : cs'.length = cs.length) (he : ∀ k, k < cs.length → (cs'.getD k Cde.z).l = (cs.getD k Cde.z).l) : cs'.map (·.l) = cs.map (·.l) := by
 refine List.ext_getElem (by simp [hl]) fun k h1 h2 => ?_
 rw [List.length_map] at h1 h2
 have := he k h2
 rw [List.getD_eq_getElem?_getD, List.getD_eq_getElem?_getD, List.getElem?_eq_getElem h1, List.getElem?_eq_getElem h2] at this
 simpa using this
theorem badC_l {c d : Cde} (h : c.l = d.l) : badC c = badC d := by unfold badC; rw [h]
theorem cnt_l {cs cs' : List Cde} (h : cs'.map (·.l) = cs.map (·.l)) (p : In → Bool) : cntA p cs' = cntA p cs := by
 unfold cntA
 have e : ∀ x : List Cde, (x.map fun c => cntI p c.l) = (x.map (·.l)).map (cntI p) := fun x => by rw [List.map_map]; rfl
 rw [e, e, h]
theorem ckE_l {cs cs' : List Cde} (hl : cs'.length = cs.length) (he : ∀ k, k < cs.length → (cs'.getD k Cde.z).l = (cs.getD k Cde.z).l) (h : ckE cs = 0) : ckE cs' = 0 := by
 have hA := l_all hl he
 have hm := map_l hl he
 have e1 : bad1 cs' = bad1 cs := by unfold bad1; rw [hl]; congr 1; funext k; rw [hA k]
 have e2 : bad2 cs' = bad2 cs := by unfold bad2; rw [hl]; congr 1; funext k; rw [badC_l (hA k)]
 have e3 : cntEr cs' = cntEr cs := by unfold cntEr; rw [cnt_l hm, cnt_l hm]
 unfold ckE at h ⊢
 rw [hl, e1, e2, e3]
 revert h
 split
 ·exact id
 ·split
  ·exact id
  ·split
   ·next k _ => rw [badC_l (hA k), hA k]; exact id
   ·exact id
theorem TWIN {P : Program} {n : Nat} {ks : List Nat} {G0 : Gr} {w0 : World} {T : List (Nat × SV)} {H : Hp} {G : Gr} {a : Act} {w : World} {Q : Exit → Act → World → Prop} {K : List Fr} {ops : Array Oper} {o : Oper} {rest : List Oper} {f : Nat} {args az : List SV} {pre : World → Prop} {t : Nat} {cs : List Cde} {kd : List Cn} {ar qu : Int} {nm : List UInt8} {mi r : Nat → Int} {H' l : Hp} (m : List Nat) (hf : FnW P f args H' [] pre (TwJ cs kd ar nm mi r qu)) (A : Sy n T H ks G0 w0 G a w) (hp : pre w) (h1 : callS n ops T o = some (f, az)) (h2 : renL m args = some az) (h3 : renH m H' = some l) (h4 : pickH H m = some l) (h5 : ndB m = true) (hd : o.dst = some t)
  (k : ∀ (ao1 ao2 : Option Addr) (cp1 cp2 : Nat) (cs' : List Cde) {a' w'}, cs'.length = cs.length → (∀ k, k < cs.length → (cs'.getD k Cde.z).l = (cs.getD k Cde.z).l) → (LstAt ao1 1 cs'.length (fun zz => cdc (cs'.getD zz Cde.z)) w' [] ∧ CodesAt cs' w' []) → Sy n ((t, .agg (tsQ9 ar nm mi r (.sla ao1 cs'.length cp1) qu (.sla ao2 kd.length cp2))) :: T) H ks G0 w0 G a' w' → Goal P Q K (.ops ops rest) a' w') : Goal P Q K (.ops ops (o :: rest)) a w := by
 refine CALLW m hf A hp Off.nil (fun b h => by cases h) h1 h2 h3 h4 h5 fun {x a' w'} hm hJ A' => ?_
 obtain ⟨ao1, ao2, cp1, cp2, cs', hx, hl, he, hK⟩ := hJ
 have h0 := hK [] (fun b h => by cases h)
 rw [← hl] at hx h0
 subst hx
 rw [hd] at A'
 exact k ao1 ao2 cp1 cp2 cs' hl he h0 A'
theorem codes_bare {cs : List Cde} {w : World} {ks : List Nat} (h : CodesAt cs w ks) : CodesAt cs w [] := CodesAt.ok _ _ _ _ h (Mix.refl _ _) (fun b hb => by cases hb)
end Go.Proofs.YtjkppaijicjpoaaGreatDoor.Mc
namespace Go.Proofs.YtjkppaijicjpoaaGreatDoor.Mc
open Go.RowKit
set_option linter.unusedVariables false
set_option linter.unusedSimpArgs false
set_option maxRecDepth 100000
set_option maxHeartbeats 2000000
def mutB (H : Hp) : Bool := H.all fun x => match x with | some e => e.mut | none => true
theorem keys_lt {H : Hp} {G : Gr} {w : World} (h : Mem H G w) {b : Nat} (hb : (keys H G).contains b = true) : b < w.heap.size := by
 obtain ⟨i, e, L, h1, h2, h3, h4⟩ := mem_keys.1 hb
 have := h.ent i e h1
 rw [h3] at this
 rw [← h4]; exact EntOK.lt this (mut_full h2)
def ImmLt (H : Hp) (G : Gr) (N : Nat) : Prop := ∀ (i : Nat) (e : Ent) (L : Loc), H[i]? = some (some e) → e.mut = false → G[i]? = some (some L) → ¬ e.empty → L.b < N
theorem ltN {H0 H : Hp} {G0 G : Gr} {w0 : World} (k : Nat) (hM : Mem H0 G0 w0) (hp : ∃ F, G = G0 ++ F) (ht : H.take k = H0.take k) (hm : mutB (H.drop k) = true) : ImmLt H G w0.heap.size := fun i e L h1 h2 h3 h4 => by
 by_cases hi : i < k
 ·have h5 : H0[i]? = some (some e) := by
   have : (H.take k)[i]? = (H0.take k)[i]? := by rw [ht]
   rw [List.getElem?_take_of_lt hi, List.getElem?_take_of_lt hi] at this
   rw [← this]; exact h1
  obtain ⟨F, rfl⟩ := hp
  rw [List.getElem?_append_left (by rw [← hM.len]; exact (List.getElem?_eq_some_iff.1 h5).1)] at h3
  have h6 := hM.ent i e h5
  rw [h3] at h6
  exact EntOK.lt h6 h4
 ·exfalso
  have h5 : (H.drop k)[i - k]? = some (some e) := by rw [List.getElem?_drop, show k + (i - k) = i by omega]; exact h1
  have := List.all_eq_true.1 hm _ (List.mem_of_getElem? h5)
  simp only at this; rw [h2] at this; cases this
section
variable {cs cs2 : List Cde} {ts : List Th} {tr z : List Tr} {N nn : Nat} {w w' : World} {ks : List Nat}
theorem JT.off {H : Hp} {G : Gr} (h : JT cs ts tr N w (keys H G)) (hlt : ImmLt H G N) {j : Nat} (hj : j < tr.length) : Off H G (tr.getD j Tr.z).bl := fun i e L q1 q2 q3 => by
 cases hz : (tr.getD j Tr.z).bl.contains L.b with
 | false => rfl
 | true =>
  obtain ⟨h1, h2⟩ := h.lo j hj _ hz
  cases hm : e.mut with
  | true => rw [mem_keys.2 ⟨i, e, L, q1, hm, q2, rfl⟩] at h2; cases h2
  | false => have := hlt i e L q1 hm q2 q3; omega
theorem JT.mixo (h : JT cs ts tr N w ks) {bs : List Nat} (m : Mix bs w w') (hd : ∀ k, k < tr.length → ∀ b, (tr.getD k Tr.z).bl.contains b = true → bs.contains b = false) : JT cs ts tr N w' ks := ⟨fun k hk => outT_mix (h.out k hk) m (hd k hk), h.len, h.lo, h.ap⟩
theorem JT.get (h : JT cs ts tr N w ks) {j : Nat} (hj : j < tr.length) {s : Th} (e : ts.getD j Th.z = s) {L : Loc} (eL : (tr.getD j Tr.z).L = L) : OutT L (thC (.sla (cs.getD j Cde.z).ao (cs.getD j Cde.z).l.length (cs.getD j Cde.z).cp) s.r ((s.at_ : Nat) : Int)) (tr.getD j Tr.z).pb (tr.getD j Tr.z).ps w := by
 subst e; subst eL; exact h.out j hj
theorem JT.look2 (h : JT cs ts tr N w ks) (hc2 : CodesAt cs2 w ks) (hc : CodesAt cs w ks) (hn : tr.length = nn) (hl : nn ≤ cs.length) (heq : ∀ k, k < nn → (cs2.getD k Cde.z).l = (cs.getD k Cde.z).l) (hL : ∀ k, k < nn → (tr.getD k Tr.z).L = (z.getD k Tr.z).L) : LkI cs2 ts nn (fun k => (z.getD k Tr.z).L.b) (fun k => (z.getD k Tr.z).L.pre.length) (fun k => (cs.getD k Cde.z).ao) (fun k => (cs.getD k Cde.z).cp) (fun k => pbV (tr.getD k Tr.z).pb (tr.getD k Tr.z).ps.length) w ks :=
 ⟨hc2, fun k hk => by
  rw [heq k hk]
  have h1 := (h.out k (by omega)).lst (h.lo k (by omega) _ (by simp)).2
  rw [hL k hk] at h1
  exact ⟨h1, hc.at (by omega)⟩⟩
theorem codes_on (hC : CodesAt cs w ks) {n : Nat} {T : List (Nat × SV)} {H : Hp} {G0 G : Gr} {a : Act} (A : Sy n T H ks G0 w G a w') {k : Nat} (hk : k < cs.length) {bs : List Nat} (hb : ∀ b, bs.contains b = true → w.heap.size ≤ b) : CdAt (cs.getD k Cde.z).ao (cs.getD k Cde.z).l w' bs :=
 LstAt.ok _ _ _ _ (hC.at hk) A.mix fun b h => .inr (hb b h)
theorem JT.one (jt : JT cs ts tr N w ks) (ln : tr.length = nn) (hl : ∀ k, k < nn → (tr.getD k Tr.z).L = (z.getD k Tr.z).L) {j : Nat} (hj : j < nn) (hts : ts.length = nn) (hN : N ≤ w.heap.size) (hks : ∀ b, ks.contains b = true → b < w.heap.size) {s' : Th} {x : SV} (m : Mix (tr.getD j Tr.z).bl w w') (hJ : ThJ (tr.getD j Tr.z).L (cs.getD j Cde.z).l (cs.getD j Cde.z).ao (cs.getD j Cde.z).cp s' (tr.getD j Tr.z).pb x w w') :
  ∃ tr', JT cs (ts.set j s') tr' N w' ks ∧ tr'.length = nn ∧ ∀ k, k < nn → (tr'.getD k Tr.z).L = (z.getD k Tr.z).L := by
 obtain ⟨pb, ps, h⟩ := jt.set (by omega) (by omega) hN hks m hJ
 refine ⟨_, h, by rw [List.length_set]; exact ln, fun k hk => ?_⟩
 by_cases e : k = j
 ·subst e; rw [gd_eq (by omega)]; exact hl k hk
 ·rw [gd_ne e]; exact hl k hk
end
theorem GIVEL {P : Program} {n : Nat} {ks : List Nat} {G0 : Gr} {w0 : World} {T : List (Nat × SV)} {H : Hp} {G : Gr} {a : Act} {w : World} {Q : Prop} (i t : Nat) {cs : List SV} {vs : List Value} {H' : Hp} (A : Sy n T H ks G0 w0 G a w) (hi : lg H i = some (some (.blk cs))) (hc : denL [] cs = some vs) (ht : look T t = some (.ptr i 0)) (hH : stH H i none = H')
  (k : ∀ L : Loc, Sy n ((t, adr L.b L.pre.length) :: T) H' ks G0 w0 G a w → Blk w L.b (L.pre ++ vs ++ L.post).toArray L.t → (keys H' G).contains L.b = false → Off H' G [L.b] → (ks.contains L.b = true ∨ w0.heap.size ≤ L.b) → G[i]? = some (some L) → Q) : Q := by
 subst hH
 rw [lg_is] at hi
 obtain ⟨L, us, p1, p2, p3⟩ := A.mem.ent i _ hi
 have hGi : G[i]? = some (some L) := by
  cases hz : G[i]? with
  | none => rw [hz] at p1; cases p1
  | some p => rw [hz] at p1; simp only [Option.getD_some] at p1; rw [p1]
 have hu : us = vs := by
  have : denL G cs = some vs := by simpa using denL_mono G cs hc
  rw [this] at p2; exact (Option.some.inj p2).symm
 subst hu
 have hold : ∀ (j : Nat) (e : Ent), (stH H i none)[j]? = some (some e) → j ≠ i ∧ H[j]? = some (some e) := by
  intro j e h
  rw [stH_is] at h
  by_cases hj : j = i
  ·subst hj; rw [List.getElem?_set_self (List.getElem?_eq_some_iff.1 hi).1] at h; cases h
  ·rw [List.getElem?_set_ne (Ne.symm hj)] at h; exact ⟨hj, h⟩
 have hoff : Off (stH H i none) G [L.b] := fun j e M q1 q2 q3 => by
  obtain ⟨k1, k2⟩ := hold j e q1
  have := A.mem.sep i j _ e L M (Ne.symm k1) hi k2 rfl hGi q2 q3
  simp [Ne.symm this]
 refine k L ((A.hide i).slotEq t ht (by unfold den; rw [hGi]; rfl)) p3 ?_ hoff (A.own i _ L hi rfl hGi) hGi
 cases hz : (keys (stH H i none) G).contains L.b with
 | false => rfl
 | true =>
  obtain ⟨j, e, M, g1, g2, g3, g4⟩ := mem_keys.1 hz
  have := hoff j e M g1 g3 (mut_full g2)
  rw [g4] at this
  simp at this
theorem denL_ptr {G : Gr} {i : Nat} {L : Loc} (h : G[i]? = some (some L)) : denL G [adr L.b L.pre.length] = denL G [.ptr i 0] := by
 unfold denL denL den; rw [h]; rfl
theorem keys_app {H : Hp} {G F : Gr} {r : Hp} (hl : H.length = G.length) {b : Nat} (h : (keys H G).contains b = true) : (keys (H ++ r) (G ++ F)).contains b = true := by
 obtain ⟨i, e, L, h1, h2, h3, h4⟩ := mem_keys.1 h
 have hi := (List.getElem?_eq_some_iff.1 h1).1
 exact mem_keys.2 ⟨i, e, L, by rw [List.getElem?_append_left hi]; exact h1, h2, by rw [List.getElem?_append_left (by omega)]; exact h3, h4⟩
section
variable {n : Nat} {ks : List Nat} {G0 : Gr} {w0 : World} {T : List (Nat × SV)} {H : Hp} {G : Gr} {a : Act} {w : World} {ops : Array Oper} {o : Oper} {rest : List Oper} {Q : Exit → Act → World → Prop} {K : List Fr} {cs cs2 : List Cde} {ts : List Th} {tr z : List Tr} {nn : Nat}
theorem PLAINJ (A : Sy n T H ks G0 w0 G a w) (jt : JT cs ts tr w0.heap.size w (keys H G)) (ln : tr.length = nn) (hl : ∀ k, k < nn → (tr.getD k Tr.z).L = (z.getD k Tr.z).L) {j : Nat} (hj : j < nn) (hts : ts.length = nn) (hcs : nn ≤ cs.length) (hC : CodesAt cs w0 ks) (hc : RCd (cs.getD j Cde.z).l) (hlt : ImmLt H G w0.heap.size) {s : Th} (hs : ts.getD j Th.z = s) (hat : s.at_ ≤ (cs.getD j Cde.z).l.length)
  (h1 : callS n ops T o = some (10, [adr (z.getD j Tr.z).L.b (z.getD j Tr.z).L.pre.length]))
  (k : ∀ tr' {a' w' x}, JT cs (ts.set j (setl (cs.getD j Cde.z).l s)) tr' w0.heap.size w' (keys H G) → tr'.length = nn → (∀ k, k < nn → (tr'.getD k Tr.z).L = (z.getD k Tr.z).L) → Sy n (extS T o.dst x) H ks G0 w0 G a' w' → Goal Tryz.prog Q K (.ops ops rest) a' w') : Goal Tryz.prog Q K (.ops ops (o :: rest)) a w := by
 have hjl : j < tr.length := by omega
 have eL := hl j hj
 rw [← eL] at h1
 have hlo : ∀ b, (tr.getD j Tr.z).bl.contains b = true → w0.heap.size ≤ b := fun b hb => (jt.lo j hjl b hb).1
 refine CALLW [] (tPlain_ (cs.getD j Cde.z).l (cs.getD j Cde.z).ao (cs.getD j Cde.z).cp s (tr.getD j Tr.z).L (tr.getD j Tr.z).pb (tr.getD j Tr.z).ps hc hat (by have := jt.len j hjl; rw [hs] at this; exact this)) A ⟨jt.get hjl hs rfl, codes_on hC A (by omega) hlo⟩ (jt.off hlt hjl) (fun b hb => .inr (hlo b hb)) h1 rfl rfl rfl rfl fun {x a' w'} hm hJ A' => ?_
 obtain ⟨tr', g1, g2, g3⟩ := jt.one ln hl hj hts A.mix.size (fun b hb => keys_lt A.mem hb) hm hJ
 exact k tr' g1 g2 g3 A'
theorem STEPJ {fuel i : Nat} {listed : Array Bool} (A : Sy n T H ks G0 w0 G a w) (jt : JT cs ts tr w0.heap.size w (keys H G)) (ln : tr.length = nn) (hl : ∀ k, k < nn → (tr.getD k Tr.z).L = (z.getD k Tr.z).L) {j : Nat} (hj : j < nn) (hts : ts.length = nn) (hcs : nn ≤ cs.length) (hC : CodesAt cs w0 ks) (hc : RCd (cs.getD j Cde.z).l) (hlt : ImmLt H G w0.heap.size) (old : Int) {s : Th} (hs : ts.getD j Th.z = s) (hat : s.at_ < (cs.getD j Cde.z).l.length) (ho : ops[i]? = some o)
  (h1 : callS n ops T o = some (13, [adr (z.getD j Tr.z).L.b (z.getD j Tr.z).L.pre.length, .int .i64 old]))
  (k : ∀ tr' {a' w' x}, JT cs (ts.set j ⟨s.at_ + 1, paR s.r ((cs.getD j Cde.z).l.getD (((s.at_ : Nat) : Int)).toNat In.z) old⟩) tr' w0.heap.size w' (keys H G) → tr'.length = nn → (∀ k, k < nn → (tr'.getD k Tr.z).L = (z.getD k Tr.z).L) → Sy n (extS T o.dst x) H ks G0 w0 G a' w' → wpAny Tryz.prog .any ops Q fuel (listed.setIfInBounds i true) a' w') : wpOp Tryz.prog ops Q i (wpAny Tryz.prog .any ops Q fuel (listed.setIfInBounds i true)) a w := by
 have hjl : j < tr.length := by omega
 have eL := hl j hj
 rw [← eL] at h1
 have hlo : ∀ b, (tr.getD j Tr.z).bl.contains b = true → w0.heap.size ≤ b := fun b hb => (jt.lo j hjl b hb).1
 refine any_callW [] ho (tStep_ (cs.getD j Cde.z).l (cs.getD j Cde.z).ao (cs.getD j Cde.z).cp s (tr.getD j Tr.z).L (tr.getD j Tr.z).pb (tr.getD j Tr.z).ps old hc hat (by have := jt.len j hjl; rw [hs] at this; exact this)) A ⟨jt.get hjl hs rfl, codes_on hC A (by omega) hlo⟩ (jt.off hlt hjl) (fun b hb => .inr (hlo b hb)) h1 rfl rfl rfl rfl fun {x a' w'} hm hJ A' => ?_
 obtain ⟨tr', g1, g2, g3⟩ := jt.one ln hl hj hts A.mix.size (fun b hb => keys_lt A.mem hb) hm hJ
 exact k tr' g1 g2 g3 A'
theorem NEWTJ {nB : Nat} {TB : List (Nat × SV)} {Gr_ : Gr} {aB : Act} {wr : World} {rg : Nat → Rg} {cells : List SV} (t : Nat) (B : Sy nB TB H ks G0 w0 Gr_ aB wr) (A : Sy n T (H ++ [some (.blk cells)]) (keys H Gr_) Gr_ wr G a w) (hz : JT cs (iniL cs rg) z w0.heap.size wr (keys H Gr_)) (hk : z.length < cs.length) (hC : CodesAt cs w0 ks) (hc : RCd (cs.getD z.length Cde.z).l) (hlt : ImmLt (H ++ [none]) G w0.heap.size)
  (hce : cells = thC (.sla (cs.getD z.length Cde.z).ao (cs.getD z.length Cde.z).l.length (cs.getD z.length Cde.z).cp) (rg z.length) 0 ++ [.sla none 0 0]) (ht : look T t = some (.ptr H.length 0))
  (h1 : ∀ L : Loc, callS n ops ((t, adr L.b L.pre.length) :: T) o = some (10, [adr L.b L.pre.length]))
  (k : ∀ L pb ps {a' w' x}, JT cs (iniL cs rg) (z ++ [⟨L, pb, ps⟩]) w0.heap.size w' (keys (H ++ [none]) G) → G[H.length]? = some (some L) → Sy n (extS ((t, adr L.b L.pre.length) :: T) o.dst x) (H ++ [none]) ks G0 w0 G a' w' → Goal Tryz.prog Q K (.ops ops rest) a' w') : Goal Tryz.prog Q K (.ops ops (o :: rest)) a w := by
 subst hce
 have hlB := B.mem.len
 have hst : stH (H ++ [some (Ent.blk (thC (.sla (cs.getD z.length Cde.z).ao (cs.getD z.length Cde.z).l.length (cs.getD z.length Cde.z).cp) (rg z.length) 0 ++ [.sla none 0 0]))]) H.length none = H ++ [none] := by rw [stH_is]; simp
 have hlg : lg (H ++ [some (Ent.blk (thC (.sla (cs.getD z.length Cde.z).ao (cs.getD z.length Cde.z).l.length (cs.getD z.length Cde.z).cp) (rg z.length) 0 ++ [.sla none 0 0]))]) H.length = some (some (.blk (thC (.sla (cs.getD z.length Cde.z).ao (cs.getD z.length Cde.z).l.length (cs.getD z.length Cde.z).cp) (rg z.length) 0 ++ [.sla none 0 0]))) := by rw [lg_is]; simp
 refine GIVEL (P := Tryz.prog) H.length t (vs := [.slice (cs.getD z.length Cde.z).ao (cs.getD z.length Cde.z).l.length (cs.getD z.length Cde.z).cp, .int .i64 (rg z.length 0), .int .i64 (rg z.length 1), .int .i64 (rg z.length 2), .int .i64 (rg z.length 3), .int .i64 (rg z.length 4), .int .i64 (rg z.length 5), .int .i64 (rg z.length 6), .int .i64 (rg z.length 7), .z9, .slice none 0 0]) A hlg rfl ht hst fun L A2 hbk hnk hoff hown hGi => ?_
 have hkz : (keys H Gr_).contains L.b = false := by
  cases hq : (keys H Gr_).contains L.b with
  | false => rfl
  | true =>
   obtain ⟨F, hF⟩ := A2.pre
   have := keys_app (r := [none]) (F := F) hlB hq
   rw [← hF, hnk] at this; cases this
 have hwr : wr.heap.size ≤ L.b := hown.elim (fun h => by rw [hkz] at h; cases h) id
 have hN := B.mix.size
 have hz1 := JT.ok.now A2 hz
 have hbl : ∀ k, k < z.length → ∀ b, (z.getD k Tr.z).bl.contains b = true → [L.b].contains b = false := fun k hk' b hb => by
  have := outT_lt (hz.out k hk') b hb
  have : b ≠ L.b := by omega
  simp [this]
 have hlo : ∀ b, [L.b].contains b = true → w0.heap.size ≤ b := fun b hb => by
  have : b = L.b := by simpa using hb
  omega
 have A3 := B.trans A2
 refine CALLW [] (tPlain_ (cs.getD z.length Cde.z).l (cs.getD z.length Cde.z).ao (cs.getD z.length Cde.z).cp ⟨0, rg z.length⟩ L none [] hc (Nat.zero_le _) (Nat.zero_le _)) A3 ⟨⟨⟨_, rfl, hbk⟩, rfl, fun q h => by cases h⟩, codes_on hC A3 hk hlo⟩ hoff (fun b hb => .inr (hlo b hb)) (h1 L) rfl rfl rfl rfl fun {x a' w'} hm hJ A' => ?_
 obtain ⟨pb, ps, j1, j2, j3⟩ := hJ
 have hz2 := hz1.mixo hm hbl
 refine k L pb ps (hz2.add (t := ⟨L, pb, ps⟩) ?_ ?_ (fun b hb => ?_) (fun q hq b hb => ?_)) hGi A'
 ·show OutT L _ pb ps w'
  rw [iniL_at hk]; exact j1
 ·rw [iniL_at hk]; exact j2
 ·rw [List.contains_cons, Bool.or_eq_true] at hb
  rcases hb with hb | hb
  ·have : b = L.b := by simpa using hb
   subst this
   exact ⟨by omega, hnk⟩
  ·rcases j3 b hb with q | q
   ·have : b = L.b := by simpa [pbB] using q
    subst this
    exact ⟨by omega, hnk⟩
   ·have hw := A3.mix.size
    refine ⟨by omega, ?_⟩
    cases hq : (keys (H ++ [none]) G).contains b with
    | false => rfl
    | true => have := keys_lt A2.mem hq; omega
 ·have hbo := outT_lt (hz.out q hq) b hb
  have hb2 := outT_lt (hz1.out q hq) b hb
  cases hx : (Tr.mk L pb ps).bl.contains b with
  | false => rfl
  | true =>
   rw [List.contains_cons, Bool.or_eq_true] at hx
   rcases hx with hx | hx
   ·have : b = L.b := by simpa using hx
    omega
   ·rcases j3 b hx with q | q
    ·have : b = L.b := by simpa [pbB] using q
     omega
    ·omega
end
theorem setTh_end {cs : List Cde} {ts : List Th} {j old : Int} (h : (ts.getD j.toNat Th.z).at_ = (cs.getD j.toNat Cde.z).l.length) : setTh cs ts j old = ts := by
 unfold setTh paT
 rw [if_pos h]
 apply List.ext_getElem?
 intro i
 by_cases e : i = j.toNat
 ·subst e
  by_cases hl : j.toNat < ts.length
  ·rw [List.getElem?_set_self hl, List.getD_eq_getElem?_getD, List.getElem?_eq_getElem hl]; rfl
  ·rw [List.getElem?_eq_none (by rw [List.length_set]; omega), List.getElem?_eq_none (by omega)]
 ·rw [List.getElem?_set_ne (Ne.symm e)]
theorem setTh_can {cs2 : List Cde} {ts : List Th} {j old : Int} {l : List In} (he : (cs2.getD j.toNat Cde.z).l = l) (h : (ts.getD j.toNat Th.z).at_ < l.length) : (ts.set j.toNat ⟨(ts.getD j.toNat Th.z).at_ + 1, paR (ts.getD j.toNat Th.z).r (l.getD (((ts.getD j.toNat Th.z).at_ : Nat) : Int).toNat In.z) old⟩).set j.toNat (setl l ⟨(ts.getD j.toNat Th.z).at_ + 1, paR (ts.getD j.toNat Th.z).r (l.getD (((ts.getD j.toNat Th.z).at_ : Nat) : Int).toNat In.z) old⟩) = setTh cs2 ts j old := by
 unfold setTh paT
 rw [he, if_neg (by omega), List.set_set]; rfl
theorem cPassC_ (cs : List Cde) (ts : List Th) (nn : Nat) (th old : Int) (hC : CoreOK cs ts nn) (hth : 0 ≤ th ∧ th < ((nn : Nat) : Int)) (h : (ts.getD th.toNat Th.z).at_ < (cs.getD th.toNat Cde.z).l.length) : FnI (CodesAt cs) Tryz.prog 12 [.ptr 0 0, .int .i64 th, .int .i64 old] [some (.blk [.sl 1 nn 0]), some (.row 89 10 nn 0 (fun zz => rnT (cs.getD zz Cde.z) (ts.getD zz Th.z)))] (Rt .tt [some (.blk [.sl 1 nn 0]), some (.row 89 10 nn 0 (fun zz => rnT (cs.getD zz Cde.z) ((setTh cs ts th old).getD zz Th.z)))]) :=
 fnI_ff (cPassI_ cs ts nn th old hC hth) (fun {G} => congrArg (fun b => some (Value.bool b)) (isT h))
theorem cPassE_ (cs : List Cde) (ts : List Th) (nn : Nat) (th old : Int) (hC : CoreOK cs ts nn) (hth : 0 ≤ th ∧ th < ((nn : Nat) : Int)) (h : ¬ (ts.getD th.toNat Th.z).at_ < (cs.getD th.toNat Cde.z).l.length) : FnI (CodesAt cs) Tryz.prog 12 [.ptr 0 0, .int .i64 th, .int .i64 old] [some (.blk [.sl 1 nn 0]), some (.row 89 10 nn 0 (fun zz => rnT (cs.getD zz Cde.z) (ts.getD zz Th.z)))] (Rt .ff [some (.blk [.sl 1 nn 0]), some (.row 89 10 nn 0 (fun zz => rnT (cs.getD zz Cde.z) (ts.getD zz Th.z)))]) := by
 have ha := hC.a th.toNat (by have := hC.m; omega)
 have q := cPassI_ cs ts nn th old hC hth
 rw [setTh_end (isE ha h)] at q
 exact fnI_ff q (fun {G} => congrArg (fun b => some (Value.bool b)) (isF ha h))
theorem JT.as {cs : List Cde} {ts ts' : List Th} {tr : List Tr} {N : Nat} {w : World} {ks : List Nat} (h : JT cs ts tr N w ks) (e : ts = ts') : JT cs ts' tr N w ks := e ▸ h
theorem JT.mv {cs : List Cde} {ts : List Th} {tr : List Tr} {N : Nat} {w : World} {H H' l : Hp} {G : Gr} {m : List Nat} (h : JT cs ts tr N w (keys H G)) (hlen : H.length = G.length) (h1 : pickH H m = some l) (h2 : renH m H' = some l) : JT cs ts tr N w (keys H' (pickG m G)) := JT.ok _ _ _ _ h (Mix.refl _ _) (fun b hb => .inl (keys_pick hlen h1 h2 b hb))
theorem JT.take {cs : List Cde} {ts : List Th} {tr : List Tr} {N : Nat} {w : World} {H : Hp} {G : Gr} (k : Nat) (h : JT cs ts tr N w (keys H G)) : JT cs ts tr N w (keys (H.take k) (G.take k)) := JT.ok _ _ _ _ h (Mix.refl _ _) (fun b hb => .inl (by
 obtain ⟨i, e, L, h1, h2, h3, h4⟩ := mem_keys.1 hb
 rw [List.getElem?_take] at h1 h3
 split at h1
 ·next hi => rw [if_pos hi] at h3; exact mem_keys.2 ⟨i, e, L, h1, h2, h3, h4⟩
 ·cases h1))
theorem iniL_l {cs cs1 : List Cde} {rg : Nat → Rg} (hl : cs1.length = cs.length) (he : ∀ k, k < cs.length → (cs1.getD k Cde.z).l = (cs.getD k Cde.z).l) : iniL cs rg = iniL cs1 rg := by
 unfold iniL; rw [hl]; apply List.map_congr_left; intro k hk; rw [he k (List.mem_range.1 hk)]
theorem trA {z : List Tr} {t : Tr} {k : Nat} (h : k < z.length) : (z ++ [t]).getD k Tr.z = z.getD k Tr.z := by simp [List.getD, List.getElem?_append_left h]
theorem trN {z : List Tr} {t : Tr} : (z ++ [t]).getD z.length Tr.z = t := by simp [List.getD]
structure VW (cs cs2 : List Cde) (z : List Tr) (nn m N : Nat) (v : Nat × List Th × List Tr) (w : World) (ks : List Nat) : Prop where
 le : v.1 ≤ m
 ok : CoreOK cs2 v.2.1 nn
 jt : JT cs v.2.1 v.2.2 N w ks
 ln : v.2.2.length = nn
 hl : ∀ k, k < nn → (v.2.2.getD k Tr.z).L = (z.getD k Tr.z).L
end Go.Proofs.YtjkppaijicjpoaaGreatDoor.Mc
namespace Go.Proofs.YtjkppaijicjpoaaGreatDoor.Mc
open Go.RowKit
set_option linter.unusedVariables false
set_option linter.unusedSimpArgs false
set_option maxRecDepth 100000
set_option maxHeartbeats 2000000
set_option simprocs false
abbrev acS (a : Int × Int) : List SV := [.int .i64 a.1, .int .i64 a.2]
theorem nckL0 {a b : Int} (h : (!(a == 0) || decide (b > 100)) = false) : a = 0 ∧ b ≤ 100 := by
 simp at h; omega
theorem tcellT {cs : List Cde} {kd : List Cn} {ar : Int} {nm : List UInt8} {mi r : Nat → Int} {qu : Int} {cx ck k : Nat} (h : k < 3) : cellS ⟨X, true⟩ 23 (tsQ9 ar nm mi r (.sl 0 cs.length cx) qu (.sl 1 kd.length ck)) (5 + k * 8) = some (.agg [.int .i64 (r (8 * k + 0)), .int .i64 (r (8 * k + 1)), .int .i64 (r (8 * k + 2)), .int .i64 (r (8 * k + 3)), .int .i64 (r (8 * k + 4)), .int .i64 (r (8 * k + 5)), .int .i64 (r (8 * k + 6)), .int .i64 (r (8 * k + 7))]) := by
 match k, h with
 | 0, _ => rfl
 | 1, _ => rfl
 | 2, _ => rfl
theorem plays_ (ar : Int) (nm : List UInt8) (mi r : Nat → Int) (cs : List Cde) (cx : Nat) (qu : Int) (kd : List Cn) (ck : Nat) (g : List (Int × Int)) (cg : Nat) (os : List (Nat × Obj)) (hM : ∀ w ks, Gl os w ks → ∃ m, w.cell? ⟨1, 0, none⟩ = some (.int .i64 m)) (hT : ∀ w ks, Gl os w ks → Lib.TabIs Tryz.prog w "internal/strconv.uint64pow10" .u64 Lib.pow10Tab) (hE : ∀ w ks, Gl os w ks → ∃ ev, w.cell? ⟨4, 0, none⟩ = some ev ∧ (ev = .nilIface ∨ ∃ te pe, ev = .iface te pe)) (hs : ∀ c ∈ cs, c.l.length ≤ 9223372036854775807) (hR : ∀ c ∈ cs, ∀ i ∈ c.l, okI i) (hn : cs.length ≤ 9223372036854775807) : FnI (GC os cs) Tryz.prog 3 [.agg (tsQ9 ar nm mi r (.sl 0 cs.length cx) qu (.sl 1 kd.length ck)), .sl 2 g.length cg] [some (.lst 1 cs.length (fun zz => cdc (cs.getD zz Cde.z))), some (.lst 5 kd.length (fun zz => cc (kd.getD zz Cn.z))), some (.lst 2 g.length (fun zz => acS (g.getD zz (0, 0))))] (Rt (.tt) [some (.lst 1 cs.length (fun zz => cdc (cs.getD zz Cde.z))), some (.lst 5 kd.length (fun zz => cc (kd.getD zz Cn.z))), some (.lst 2 g.length (fun zz => acS (g.getD zz (0, 0))))]) :=
 enterI (n := 120) (by kernel_rfl) Tryz.func3 rfl rfl rfl fun G w a h0 hI A => N9 9 A rfl rfl fun A => C9 [] able_ A rfl fun A => N9 10 A rfl rfl fun A => I9 [0, 1] GC.ok hI (litCheck_ ar nm mi r cs cx qu kd ck os hM hT hE hs hR hn) A rfl fun A => N9 8 A rfl rfl fun A => fork 21 A rfl
  (fun h1 A => N9 7 A rfl rfl fun A => R9 A rfl h0 rfl rfl rfl)
  (fun h1 A => N9 4 A rfl rfl fun A => have hck := nckL0 h1; have hck0 := chk0 hck.1; N9 2 A rfl rfl fun A => TWIN [0, 1] (twin_ cs cx kd ck ar nm mi r qu hck0.1 (Nat.le_trans hck0.2 (by decide))) A (codes_bare (GC.ok.now A hI).2) rfl rfl rfl rfl rfl rfl fun ao1 ao2 cp1 cp2 cs1 {_ _} hl1 he1 hp1 A =>
 NEWC (H' := fun cs2 => [some (.lst 1 cs.length (fun zz => cdc (cs.getD zz Cde.z))), some (.lst 5 kd.length (fun zz => cc (kd.getD zz Cn.z))), some (.lst 2 g.length (fun zz => acS (g.getD zz (0, 0)))), some (.blk (tsQ9 ar nm mi r (.sl 0 cs.length cx) qu (.sl 1 kd.length ck))), some (.row 89 10 cs1.length 0 (fun zz => rnT (cs2.getD zz Cde.z) ((iniL cs1 (fun k j => r (8 * k + j))).getD zz Th.z))), some (.blk [.sl 4 cs1.length 0])]) (newCore_ cs1 ao1 cp1 (fun k j => r (8 * k + j)) ar qu (mi 0) (mi 1) (mi 2) nm ao2 kd.length cp2 (ckE_l hl1 he1 hck0.1)) A hp1 rfl rfl rfl (fun _ => rfl) fun cs2 {Gc ac wc} hok he2 hI2 A => have hnn := (rcd_of hck0.1).1; have hrc := (rcd_of hck0.1).2; have BL := A; have hCs := (GC.ok.now A hI).2; have h00 := h0; have A := BL.base; have h0 := BL.mem.len; have hMc := BL.mem; have hG6 : Gc.length = 6 := BL.mem.len.symm; have heq : ∀ k, k < cs1.length → (cs2.getD k Cde.z).l = (cs.getD k Cde.z).l := fun k hk => (he2 k hk).trans (he1 k (by omega)); have hle : cs1.length ≤ cs.length := (by omega);
 N9 15 A rfl rfl fun A => have A := A.nilRow 6 37 1 (fun zz => [.v (.pointer (some ⟨(([] : List Tr).getD zz Tr.z).L.b, (([] : List Tr).getD zz Tr.z).L.pre.length, none⟩))]) rfl (fun z => ⟨_, rfl, rfl⟩); LOOPJ (fun (z : List Tr) => [(1, .sl 2 g.length cg), (2, .ptr 3 0), (5, .ptr 5 0), (6, .sl 6 z.length 0), (7, .int .i64 (z.length : Int))]) (fun (z : List Tr) => [some (.lst 1 cs.length (fun zz => cdc (cs.getD zz Cde.z))), some (.lst 5 kd.length (fun zz => cc (kd.getD zz Cn.z))), some (.lst 2 g.length (fun zz => acS (g.getD zz (0, 0)))), some (.blk (tsQ9 ar nm mi r (.sl 0 cs.length cx) qu (.sl 1 kd.length ck))), some (.row 89 10 cs1.length 0 (fun zz => rnT (cs2.getD zz Cde.z) ((iniL cs1 (fun k j => r (8 * k + j))).getD zz Th.z))), some (.blk [.sl 4 cs1.length 0]), some (.row 37 1 z.length 0 (fun zz => [.v (.pointer (some ⟨(z.getD zz Tr.z).L.b, (z.getD zz Tr.z).L.pre.length, none⟩))]))]) (fun z w' ks => JT cs (iniL cs (fun k j => r (8 * k + j))) z wc.heap.size w' ks ∧ z.length ≤ cs.length) (fun z => cs.length - z.length) [] (A.cut [1, 2, 5, 6, 7] rfl) ⟨JT.i0, Nat.zero_le _⟩ fun z G a w hz hGl A B => have h0 := B.mem.len; N9 10 A rfl rfl fun A => forkD 29 A rfl
    (fun h2 A => N9 6 A rfl rfl fun A => have hkz : z.length < cs.length := (by omega); ANY hmo [.ptr 3 29, .sl 0 cs.length cx, .int .i64 (z.length : Int), .el 0 1 (z.length : Int) 0, .sla ((cs.getD (((z.length : Int)).toNat) Cde.z).ao) ((cs.getD (((z.length : Int)).toNat) Cde.z).l.length) ((cs.getD (((z.length : Int)).toNat) Cde.z).cp), .int .i64 (z.length : Int), .ptr 3 5, .ix (.ptr 3 5) 8 3 (z.length : Int) 0, .agg [.int .i64 (r (8 * z.length + 0)), .int .i64 (r (8 * z.length + 1)), .int .i64 (r (8 * z.length + 2)), .int .i64 (r (8 * z.length + 3)), .int .i64 (r (8 * z.length + 4)), .int .i64 (r (8 * z.length + 5)), .int .i64 (r (8 * z.length + 6)), .int .i64 (r (8 * z.length + 7))], .agg [.sla ((cs.getD (((z.length : Int)).toNat) Cde.z).ao) ((cs.getD (((z.length : Int)).toNat) Cde.z).l.length) ((cs.getD (((z.length : Int)).toNat) Cde.z).cp), .int .i64 (r (8 * z.length + 0)), .int .i64 (r (8 * z.length + 1)), .int .i64 (r (8 * z.length + 2)), .int .i64 (r (8 * z.length + 3)), .int .i64 (r (8 * z.length + 4)), .int .i64 (r (8 * z.length + 5)), .int .i64 (r (8 * z.length + 6)), .int .i64 (r (8 * z.length + 7)), .z9, .sla none 0 0], .ptr 7 0, .ptr 7 0] [10] [7] 1 [([], [7], [some (.lst 1 cs.length (fun zz => cdc (cs.getD zz Cde.z))), some (.lst 5 kd.length (fun zz => cc (kd.getD zz Cn.z))), some (.lst 2 g.length (fun zz => acS (g.getD zz (0, 0)))), some (.blk (tsQ9 ar nm mi r (.sl 0 cs.length cx) qu (.sl 1 kd.length ck))), some (.row 89 10 cs1.length 0 (fun zz => rnT (cs2.getD zz Cde.z) ((iniL cs1 (fun k j => r (8 * k + j))).getD zz Th.z))), some (.blk [.sl 4 cs1.length 0]), some (.row 37 1 z.length 0 (fun zz => [.v (.pointer (some ⟨(z.getD zz Tr.z).L.b, (z.getD zz Tr.z).L.pre.length, none⟩))])), none]), ([10], [], [some (.lst 1 cs.length (fun zz => cdc (cs.getD zz Cde.z))), some (.lst 5 kd.length (fun zz => cc (kd.getD zz Cn.z))), some (.lst 2 g.length (fun zz => acS (g.getD zz (0, 0)))), some (.blk (tsQ9 ar nm mi r (.sl 0 cs.length cx) qu (.sl 1 kd.length ck))), some (.row 89 10 cs1.length 0 (fun zz => rnT (cs2.getD zz Cde.z) ((iniL cs1 (fun k j => r (8 * k + j))).getD zz Th.z))), some (.blk [.sl 4 cs1.length 0]), some (.row 37 1 z.length 0 (fun zz => [.v (.pointer (some ⟨(z.getD zz Tr.z).L.b, (z.getD zz Tr.z).L.pre.length, none⟩))])), some (.blk [.sla ((cs.getD (((z.length : Int)).toNat) Cde.z).ao) ((cs.getD (((z.length : Int)).toNat) Cde.z).l.length) ((cs.getD (((z.length : Int)).toNat) Cde.z).cp), .int .i64 (r (8 * z.length + 0)), .int .i64 (r (8 * z.length + 1)), .int .i64 (r (8 * z.length + 2)), .int .i64 (r (8 * z.length + 3)), .int .i64 (r (8 * z.length + 4)), .int .i64 (r (8 * z.length + 5)), .int .i64 (r (8 * z.length + 6)), .int .i64 (r (8 * z.length + 7)), .z9, .sla none 0 0])])] [[true, true, true, true, true, true, true, true, true, true, true, false], [true, true, true, true, true, true, true, true, true, false, false, true]] A rfl rfl rfl rfl (by kernel_rfl) rfl (by kernel_rfl) ⟨⟨oV9 0 rfl rfl, ⟨oV9 0 rfl rfl, ⟨oV9 0 rfl rfl, ⟨oV9 0 rfl (ok_d (by omega) <| okE_nil), ⟨oV9 0 rfl (ok_d (by omega) <| okE_nil), ⟨oV9 0 rfl rfl, ⟨oV9 0 rfl rfl, ⟨oV9 0 rfl (ok_d (by omega) <| okE_nil), ⟨⟨_, _, _, _, 0, rfl, rfl, rfl, rfl, eff_at (ldixE (k := z.length) hX rfl rfl rfl rfl (tcellT (by omega))) rfl⟩, ⟨oV9 0 rfl rfl, ⟨⟨_, _, _, _, 1, rfl, rfl, rfl, rfl, new_at 7 (X := ⟨_, true⟩) hX rfl rfl (le0 h0 rfl) rfl rfl rfl rfl⟩, trivial⟩⟩⟩⟩⟩⟩⟩⟩⟩⟩⟩, ⟨⟨oV9 1 rfl rfl, ⟨oV9 1 rfl rfl, ⟨oV9 1 rfl rfl, ⟨oV9 1 rfl (ok_d (by omega) <| okE_nil), ⟨oV9 1 rfl (ok_d (by omega) <| okE_nil), ⟨oV9 1 rfl rfl, ⟨oV9 1 rfl rfl, ⟨oV9 1 rfl (ok_d (by omega) <| okE_nil), ⟨⟨_, _, _, _, 1, rfl, rfl, rfl, rfl, eff_at (ldixE (k := z.length) hX rfl rfl rfl rfl (tcellT (by omega))) rfl⟩, ⟨oV9 1 rfl rfl, trivial⟩⟩⟩⟩⟩⟩⟩⟩⟩⟩, trivial⟩⟩ fun A => N9 4 A rfl rfl fun A => NEWTJ (rg := (fun k j => r (8 * k + j))) 43 B A hz.1 hkz hCs (rcAt hrc hkz) (ltN 3 hMc (B.trans A).pre rfl rfl) rfl rfl (fun _ => rfl) fun L pb ps {a w x} hJ hGi B => have A := B.base; have h0 := B.mem.len;
 N9 6 A rfl rfl fun A => have A := A.cellEq 8 (cs' := [adr L.b L.pre.length]) rfl (denL_ptr (A.at_pre hGi)) rfl; APP1 hX (z.length + 1) (fun zz => [.v (.pointer (some ⟨((z ++ [Tr.mk L pb ps]).getD zz Tr.z).L.b, ((z ++ [Tr.mk L pb ps]).getD zz Tr.z).L.pre.length, none⟩))]) A rfl rfl rfl rfl (by omega) rfl (fun k hk => by show [_] = [_]; rw [trA hk]) (by show [_] = [_]; rw [trN]) (fun z => ⟨_, rfl, rfl⟩) fun A => have A := (A.rowAs 9 ((z ++ [Tr.mk L pb ps]).length) (fun zz => [.v (.pointer (some ⟨((z ++ [Tr.mk L pb ps]).getD zz Tr.z).L.b, ((z ++ [Tr.mk L pb ps]).getD zz Tr.z).L.pre.length, none⟩))]) rfl (by rw [List.length_append]; rfl) (fun q hq => rfl) (fun z => ⟨_, rfl, rfl⟩)).say 48 (.sl 9 ((z ++ [Tr.mk L pb ps]).length) 0) rfl (by rw [List.length_append] <;> rfl); N9 9 A rfl (ok_d (by omega) <| okE_nil) fun A => ⟨(z ++ [Tr.mk L pb ps]), _, (by rw [List.length_append]; show cs.length - (z.length + 1) < cs.length - z.length; omega), ⟨((JT.ok.now A hJ).mv (m := [0, 1, 2, 3, 4, 5, 9]) A.mem.len rfl rfl), (by rw [List.length_append]; show z.length + 1 ≤ cs.length; omega)⟩, (((sy_sayD (B.trans A) 7 (.int .i64 (((z ++ [Tr.mk L pb ps]).length : Nat) : Int)) rfl (fun _ => congrArg (fun b => some (Value.int .i64 b)) (by rw [List.length_append]; rfl))).cut [1, 2, 5, 6, 7] rfl).mv 6 [9] rfl rfl rfl rfl hG6)⟩)
    (fun h2 A => N9 5 A rfl rfl fun A => have hzn : z.length = cs1.length := (by have := hz.2; omega); have A := (A.rowAs 6 cs1.length (fun zz => [.v (.pointer (some ⟨(z.getD zz Tr.z).L.b, (z.getD zz Tr.z).L.pre.length, none⟩))]) rfl hzn.symm (fun _ _ => rfl) (fun z => ⟨_, rfl, rfl⟩)).say 6 (.sl 6 cs1.length 0) rfl (by rw [hzn]); have hz1 := (JT.ok.now A hz.1).as (iniL_l hl1 he1); have B := B.trans A; have A := B.base; have h0 := B.mem.len; have hLk := JT.look2 (z := z) hz1 (CodesAt.ok.now B hI2) (CodesAt.ok.now B hCs) hzn hle heq (fun _ _ => rfl);
 N9 3 A rfl rfl fun A => I9 [5, 4, 6] LkI.ok hLk (looks_ cs2 (iniL cs1 (fun k j => r (8 * k + j))) cs1.length (fun k => (z.getD k Tr.z).L.b) (fun k => (z.getD k Tr.z).L.pre.length) (fun k => (cs.getD k Cde.z).ao) (fun k => (cs.getD k Cde.z).cp) (fun k => pbV (z.getD k Tr.z).pb (z.getD k Tr.z).ps.length) hok (by omega)) A rfl fun A => N9 13 A rfl rfl fun A => LOOPJ (fun (v : Nat × List Th × List Tr) => [(1, .sl 2 g.length cg), (5, .ptr 5 0), (6, .sl 6 cs1.length 0), (9, .int .i64 (v.1 : Int))]) (fun (v : Nat × List Th × List Tr) => [some (.lst 1 cs.length (fun zz => cdc (cs.getD zz Cde.z))), some (.lst 5 kd.length (fun zz => cc (kd.getD zz Cn.z))), some (.lst 2 g.length (fun zz => acS (g.getD zz (0, 0)))), some (.blk (tsQ9 ar nm mi r (.sl 0 cs.length cx) qu (.sl 1 kd.length ck))), some (.row 89 10 cs1.length 0 (fun zz => rnT (cs2.getD zz Cde.z) (v.2.1.getD zz Th.z))), some (.blk [.sl 4 cs1.length 0]), some (.row 37 1 cs1.length 0 (fun zz => [.v (.pointer (some ⟨(z.getD zz Tr.z).L.b, (z.getD zz Tr.z).L.pre.length, none⟩))]))]) (fun v w' ks => VW cs cs2 z cs1.length g.length wc.heap.size v w' ks) (fun v => g.length - v.1) (0, (iniL cs1 (fun k j => r (8 * k + j))), z) ((B.trans A).cut [1, 5, 6, 9] rfl) ⟨Nat.zero_le _, hok, JT.ok.now A hz1, hzn, fun _ _ => rfl⟩ fun v G a w hv hGl A B => have h0 := B.mem.len; have hI2r := CodesAt.ok.now B hI2; have hLk := hv.jt.look2 (z := z) hI2r (CodesAt.ok.now B hCs) hv.ln hle heq hv.hl; N9 9 A rfl rfl fun A => forkD 56 A rfl
      (fun h3 A => N9 16 A rfl (ok_d (by omega) <| ok_d (by omega) <| okE_nil) fun A => GEM (0 ≤ (g.getD (((v.1 : Int)).toNat) (0, 0)).1)
       (fun hp0 => GEM ((g.getD (((v.1 : Int)).toNat) (0, 0)).1 < ((cs1.length : Nat) : Int))
       (fun hp1 => have hth : 0 ≤ (g.getD (((v.1 : Int)).toNat) (0, 0)).1 ∧ (g.getD (((v.1 : Int)).toNat) (0, 0)).1 < ((cs1.length : Nat) : Int) := ⟨hp0, hp1⟩; have hkn : ((g.getD (((v.1 : Int)).toNat) (0, 0)).1).toNat < cs1.length := (by omega); have hcj := rcAt hrc (show ((g.getD (((v.1 : Int)).toNat) (0, 0)).1).toNat < cs.length by omega); have hts := hv.ok.n.trans hv.ok.m; have hth8 : LstAt (some ⟨(z.getD ((g.getD (((v.1 : Int)).toNat) (0, 0)).1).toNat Tr.z).L.b, (z.getD ((g.getD (((v.1 : Int)).toNat) (0, 0)).1).toNat Tr.z).L.pre.length, none⟩) 11 1 (fun _ => thS (.sla (cs.getD ((g.getD (((v.1 : Int)).toNat) (0, 0)).1).toNat Cde.z).ao (cs2.getD ((g.getD (((v.1 : Int)).toNat) (0, 0)).1).toNat Cde.z).l.length (cs.getD ((g.getD (((v.1 : Int)).toNat) (0, 0)).1).toNat Cde.z).cp) (v.2.1.getD ((g.getD (((v.1 : Int)).toNat) (0, 0)).1).toNat Th.z).r (((v.2.1.getD ((g.getD (((v.1 : Int)).toNat) (0, 0)).1).toNat Th.z).at_ : Nat) : Int) (.v (pbV (v.2.2.getD ((g.getD (((v.1 : Int)).toNat) (0, 0)).1).toNat Tr.z).pb (v.2.2.getD ((g.getD (((v.1 : Int)).toNat) (0, 0)).1).toNat Tr.z).ps.length))) _ _ := (hLk.2 ((g.getD (((v.1 : Int)).toNat) (0, 0)).1).toNat hkn).1; GEM ((v.2.1.getD ((g.getD (((v.1 : Int)).toNat) (0, 0)).1).toNat Th.z).at_ < (cs2.getD ((g.getD (((v.1 : Int)).toNat) (0, 0)).1).toNat Cde.z).l.length)
       (fun hst => have hat : (v.2.1.getD ((g.getD (((v.1 : Int)).toNat) (0, 0)).1).toNat Th.z).at_ < (cs.getD ((g.getD (((v.1 : Int)).toNat) (0, 0)).1).toNat Cde.z).l.length := (by rw [← heq _ hkn]; exact hst); ANY hmo [.ptr 7 0, .int .i64 ((g.getD (((v.1 : Int)).toNat) (0, 0)).1), .tt, .tt, .ptr 7 0, .int .i64 ((g.getD (((v.1 : Int)).toNat) (0, 0)).1), .sl 6 cs1.length 0, .int .i64 ((cs1.length : Nat) : Int), .tt, .tt, .tt, .sl 6 cs1.length 0, .ptr 7 0, .int .i64 ((g.getD (((v.1 : Int)).toNat) (0, 0)).1), .el 6 1 ((g.getD (((v.1 : Int)).toNat) (0, 0)).1) 0, .v (.pointer (some ⟨(z.getD (((g.getD (((v.1 : Int)).toNat) (0, 0)).1).toNat) Tr.z).L.b, (z.getD (((g.getD (((v.1 : Int)).toNat) (0, 0)).1).toNat) Tr.z).L.pre.length, none⟩)), .v (.pointer (some ⟨(z.getD (((g.getD (((v.1 : Int)).toNat) (0, 0)).1).toNat) Tr.z).L.b, (z.getD (((g.getD (((v.1 : Int)).toNat) (0, 0)).1).toNat) Tr.z).L.pre.length, none⟩)), .v (.pointer (some ⟨(z.getD (((g.getD (((v.1 : Int)).toNat) (0, 0)).1).toNat) Tr.z).L.b, (z.getD (((g.getD (((v.1 : Int)).toNat) (0, 0)).1).toNat) Tr.z).L.pre.length + 9, none⟩)), .int .i64 (((v.2.1.getD ((g.getD (((v.1 : Int)).toNat) (0, 0)).1).toNat Th.z).at_ : Nat) : Int), .sl 6 cs1.length 0, .ptr 7 0, .int .i64 ((g.getD (((v.1 : Int)).toNat) (0, 0)).1), .el 6 1 ((g.getD (((v.1 : Int)).toNat) (0, 0)).1) 0, .v (.pointer (some ⟨(z.getD (((g.getD (((v.1 : Int)).toNat) (0, 0)).1).toNat) Tr.z).L.b, (z.getD (((g.getD (((v.1 : Int)).toNat) (0, 0)).1).toNat) Tr.z).L.pre.length, none⟩)), .v (.pointer (some ⟨(z.getD (((g.getD (((v.1 : Int)).toNat) (0, 0)).1).toNat) Tr.z).L.b, (z.getD (((g.getD (((v.1 : Int)).toNat) (0, 0)).1).toNat) Tr.z).L.pre.length, none⟩)), .v (.pointer (some ⟨(z.getD (((g.getD (((v.1 : Int)).toNat) (0, 0)).1).toNat) Tr.z).L.b, (z.getD (((g.getD (((v.1 : Int)).toNat) (0, 0)).1).toNat) Tr.z).L.pre.length + 0, none⟩)), .sla ((cs.getD ((g.getD (((v.1 : Int)).toNat) (0, 0)).1).toNat Cde.z).ao) ((cs2.getD ((g.getD (((v.1 : Int)).toNat) (0, 0)).1).toNat Cde.z).l.length) ((cs.getD ((g.getD (((v.1 : Int)).toNat) (0, 0)).1).toNat Cde.z).cp), .int .i64 (((cs2.getD ((g.getD (((v.1 : Int)).toNat) (0, 0)).1).toNat Cde.z).l.length : Nat) : Int), .tt, .tt, .tt] [] [] 0 [([], [], [some (.lst 1 cs.length (fun zz => cdc (cs.getD zz Cde.z))), some (.lst 5 kd.length (fun zz => cc (kd.getD zz Cn.z))), some (.lst 2 g.length (fun zz => acS (g.getD zz (0, 0)))), some (.blk (tsQ9 ar nm mi r (.sl 0 cs.length cx) qu (.sl 1 kd.length ck))), some (.row 89 10 cs1.length 0 (fun zz => rnT (cs2.getD zz Cde.z) (v.2.1.getD zz Th.z))), some (.blk [.sl 4 cs1.length 0]), some (.row 37 1 cs1.length 0 (fun zz => [.v (.pointer (some ⟨(z.getD zz Tr.z).L.b, (z.getD zz Tr.z).L.pre.length, none⟩))])), some (.blk [.int .i64 ((g.getD (((v.1 : Int)).toNat) (0, 0)).1), .int .i64 ((g.getD (((v.1 : Int)).toNat) (0, 0)).2)])])] [[true, true, true, true, true, true, true, true, true, true, true, true, true, true, true, true, true, true, true, true, true, true, true, true, true, true, true, true, true, true, true]] A rfl rfl rfl rfl (by kernel_rfl) rfl (by kernel_rfl) ⟨⟨oV9 0 rfl rfl, ⟨oV9 0 rfl rfl, ⟨⟨_, _, _, _, 0, rfl, rfl, rfl, rfl, eff_at (eff_say (x := .bool (decide (((g.getD (((v.1 : Int)).toNat) (0, 0)).1) ≥ 0))) (fun _ => congrArg (fun b => some (Value.bool b)) (decide_eq_true hp0)) (eff_auto (X := ⟨_, true⟩) (out := .val _ _) hX rfl rfl)) rfl⟩, ⟨oV9 0 rfl rfl, ⟨oV9 0 rfl rfl, ⟨oV9 0 rfl rfl, ⟨oV9 0 rfl rfl, ⟨oV9 0 rfl rfl, ⟨⟨_, _, _, _, 0, rfl, rfl, rfl, rfl, eff_at (eff_say (x := .bool (decide (((g.getD (((v.1 : Int)).toNat) (0, 0)).1) < ((cs1.length : Nat) : Int)))) (fun _ => congrArg (fun b => some (Value.bool b)) (decide_eq_true hp1)) (eff_auto (X := ⟨_, true⟩) (out := .val _ _) hX rfl rfl)) rfl⟩, ⟨oV9 0 rfl rfl, ⟨oV9 0 rfl rfl, ⟨oV9 0 rfl rfl, ⟨oV9 0 rfl rfl, ⟨oV9 0 rfl rfl, ⟨oV9 0 rfl (ok_d (by omega) <| okE_nil), ⟨oV9 0 rfl (ok_d (by omega) <| okE_nil), ⟨⟨_, _, _, _, 0, rfl, rfl, rfl, rfl, eff_at (nckV rfl rfl rfl) rfl⟩, ⟨⟨_, _, _, _, 0, rfl, rfl, rfl, rfl, eff_at (fadV rfl rfl rfl (by kernel_rfl)) rfl⟩, ⟨⟨_, _, _, _, 0, rfl, rfl, rfl, rfl, eff_at (ldV (q := 9) (v := .int .i64 (((v.2.1.getD ((g.getD (((v.1 : Int)).toNat) (0, 0)).1).toNat Th.z).at_ : Nat) : Int)) hX rfl rfl rfl hth8 rfl rfl rfl) rfl⟩, ⟨oV9 0 rfl rfl, ⟨oV9 0 rfl rfl, ⟨oV9 0 rfl rfl, ⟨oV9 0 rfl (ok_d (by omega) <| okE_nil), ⟨oV9 0 rfl (ok_d (by omega) <| okE_nil), ⟨⟨_, _, _, _, 0, rfl, rfl, rfl, rfl, eff_at (nckV rfl rfl rfl) rfl⟩, ⟨⟨_, _, _, _, 0, rfl, rfl, rfl, rfl, eff_at (fadV rfl rfl rfl (by kernel_rfl)) rfl⟩, ⟨⟨_, _, _, _, 0, rfl, rfl, rfl, rfl, eff_at (ldV (q := 0) (v := .sla ((cs.getD ((g.getD (((v.1 : Int)).toNat) (0, 0)).1).toNat Cde.z).ao) ((cs2.getD ((g.getD (((v.1 : Int)).toNat) (0, 0)).1).toNat Cde.z).l.length) ((cs.getD ((g.getD (((v.1 : Int)).toNat) (0, 0)).1).toNat Cde.z).cp)) hX rfl rfl rfl hth8 rfl rfl rfl) rfl⟩, ⟨oV9 0 rfl rfl, ⟨⟨_, _, _, _, 0, rfl, rfl, rfl, rfl, eff_at (eff_say (x := .bool (decide ((((v.2.1.getD ((g.getD (((v.1 : Int)).toNat) (0, 0)).1).toNat Th.z).at_ : Nat) : Int) < (((cs2.getD ((g.getD (((v.1 : Int)).toNat) (0, 0)).1).toNat Cde.z).l.length : Nat) : Int)))) (fun _ => congrArg (fun b => some (Value.bool b)) (decide_eq_true (Int.ofNat_lt.2 hst))) (eff_auto (X := ⟨_, true⟩) (out := .val _ _) hX rfl rfl)) rfl⟩, ⟨oV9 0 rfl rfl, ⟨oV9 0 rfl rfl, trivial⟩⟩⟩⟩⟩⟩⟩⟩⟩⟩⟩⟩⟩⟩⟩⟩⟩⟩⟩⟩⟩⟩⟩⟩⟩⟩⟩⟩⟩⟩⟩, trivial⟩ fun A => N9 9 A rfl rfl fun A => I9 [5, 4] CodesAt.ok hI2r (cPassC_ cs2 v.2.1 cs1.length ((g.getD (((v.1 : Int)).toNat) (0, 0)).1) ((g.getD (((v.1 : Int)).toNat) (0, 0)).2) hv.ok hth hst) A rfl fun A => N9 4 A rfl rfl fun A => forkN 100 A rfl
        (fun h4 A => absurd h4 (fun h => h rfl))
        (fun h4 A => N9 11 A rfl rfl fun A => have hj := JT.ok.now A hv.jt; have B := B.trans A; have A := B.base; have h0 := B.mem.len; have A := A.cut [1, 5, 6, 9, 10] rfl; ANYP 7 8 hmo [.sl 6 cs1.length 0, .ptr 7 0, .int .i64 ((g.getD (((v.1 : Int)).toNat) (0, 0)).1), .el 6 1 ((g.getD (((v.1 : Int)).toNat) (0, 0)).1) 0, .v (.pointer (some ⟨(z.getD (((g.getD (((v.1 : Int)).toNat) (0, 0)).1).toNat) Tr.z).L.b, (z.getD (((g.getD (((v.1 : Int)).toNat) (0, 0)).1).toNat) Tr.z).L.pre.length, none⟩)), .ptr 7 1, .int .i64 ((g.getD (((v.1 : Int)).toNat) (0, 0)).2), .tup []] [] [] 0 [([], [], [some (.lst 1 cs.length (fun zz => cdc (cs.getD zz Cde.z))), some (.lst 5 kd.length (fun zz => cc (kd.getD zz Cn.z))), some (.lst 2 g.length (fun zz => acS (g.getD zz (0, 0)))), some (.blk (tsQ9 ar nm mi r (.sl 0 cs.length cx) qu (.sl 1 kd.length ck))), some (.row 89 10 cs1.length 0 (fun zz => rnT (cs2.getD zz Cde.z) ((setTh cs2 v.2.1 ((g.getD (((v.1 : Int)).toNat) (0, 0)).1) ((g.getD (((v.1 : Int)).toNat) (0, 0)).2)).getD zz Th.z))), some (.blk [.sl 4 cs1.length 0]), some (.row 37 1 cs1.length 0 (fun zz => [.v (.pointer (some ⟨(z.getD zz Tr.z).L.b, (z.getD zz Tr.z).L.pre.length, none⟩))])), some (.blk [.int .i64 ((g.getD (((v.1 : Int)).toNat) (0, 0)).1), .int .i64 ((g.getD (((v.1 : Int)).toNat) (0, 0)).2)])])] [[true, true, true, true, true, true, true]] A rfl rfl rfl rfl (by kernel_rfl) rfl (by kernel_rfl) rfl (by kernel_rfl) (by kernel_rfl) ⟨⟨oV9 0 rfl rfl, ⟨oV9 0 rfl rfl, ⟨oV9 0 rfl rfl, ⟨oV9 0 rfl (ok_d (by omega) <| okE_nil), ⟨oV9 0 rfl (ok_d (by omega) <| okE_nil), ⟨oV9 0 rfl rfl, ⟨oV9 0 rfl rfl, trivial⟩⟩⟩⟩⟩⟩⟩, trivial⟩ fun fuel listed {_ _ _} hls hfu A => anyfuel (k := 1) hls hfu fun f => any_at (rs := [7]) (by kernel_rfl) (by decide) (fc9 ⟨STEPJ (z := z) (B.trans A) (JT.ok.now A hj) hv.ln hv.hl hkn hts hle hCs hcj (ltN 3 hMc (B.trans A).pre rfl rfl) (g.getD (((v.1 : Int)).toNat) (0, 0)).2 rfl hat rfl rfl fun tr1 {a w x} hj1 hn1 hl1 B => have A := B.base; have h0 := B.mem.len; any_end (by kernel_rfl) (N9 7 A rfl (ok_d (by omega) <| ok_d (by omega) <| okE_nil) fun A => PLAINJ (z := z) (B.trans A) (JT.ok.now A hj1) hn1 hl1 hkn (by rw [List.length_set]; exact hts) hle hCs hcj (ltN 3 hMc (B.trans A).pre rfl rfl) (gd_eq (by omega)) (Nat.succ_le_of_lt hat) rfl fun tr2 {a w x} hj2 hn2 hl2 B => have A := B.base; have h0 := B.mem.len; have hj3 := hj2.as (setTh_can (heq _ hkn) hat); have hok3 := hv.ok.set hth (g.getD (((v.1 : Int)).toNat) (0, 0)).2; have hLk := hj3.look2 (z := z) (CodesAt.ok.now B hI2) (CodesAt.ok.now B hCs) hn2 hle heq hl2;
 N9 6 A rfl rfl fun A => I9 [5, 4, 6] LkI.ok hLk (looks_ cs2 (setTh cs2 v.2.1 ((g.getD (((v.1 : Int)).toNat) (0, 0)).1) ((g.getD (((v.1 : Int)).toNat) (0, 0)).2)) cs1.length (fun k => (z.getD k Tr.z).L.b) (fun k => (z.getD k Tr.z).L.pre.length) (fun k => (cs.getD k Cde.z).ao) (fun k => (cs.getD k Cde.z).cp) (fun k => pbV (tr2.getD k Tr.z).pb (tr2.getD k Tr.z).ps.length) hok3 (by omega)) A rfl fun A => N9 12 A rfl (ok_d (by omega) <| okE_nil) fun A => ⟨(v.1 + 1, (setTh cs2 v.2.1 (g.getD (((v.1 : Int)).toNat) (0, 0)).1 (g.getD (((v.1 : Int)).toNat) (0, 0)).2), tr2), _, (by show g.length - (v.1 + 1) < g.length - v.1; omega), ⟨(by show v.1 + 1 ≤ g.length; omega), hok3, (JT.ok.now A hj3).take 7, hn2, hl2⟩, (((B.trans A).cut [1, 5, 6, 9] rfl).trunc 7 rfl rfl rfl (by omega)).sayT (by rfl)⟩), fn9⟩)))
       (fun hst => ANY hmo [.ptr 7 0, .int .i64 ((g.getD (((v.1 : Int)).toNat) (0, 0)).1), .tt, .tt, .ptr 7 0, .int .i64 ((g.getD (((v.1 : Int)).toNat) (0, 0)).1), .sl 6 cs1.length 0, .int .i64 ((cs1.length : Nat) : Int), .tt, .tt, .tt, .sl 6 cs1.length 0, .ptr 7 0, .int .i64 ((g.getD (((v.1 : Int)).toNat) (0, 0)).1), .el 6 1 ((g.getD (((v.1 : Int)).toNat) (0, 0)).1) 0, .v (.pointer (some ⟨(z.getD (((g.getD (((v.1 : Int)).toNat) (0, 0)).1).toNat) Tr.z).L.b, (z.getD (((g.getD (((v.1 : Int)).toNat) (0, 0)).1).toNat) Tr.z).L.pre.length, none⟩)), .v (.pointer (some ⟨(z.getD (((g.getD (((v.1 : Int)).toNat) (0, 0)).1).toNat) Tr.z).L.b, (z.getD (((g.getD (((v.1 : Int)).toNat) (0, 0)).1).toNat) Tr.z).L.pre.length, none⟩)), .v (.pointer (some ⟨(z.getD (((g.getD (((v.1 : Int)).toNat) (0, 0)).1).toNat) Tr.z).L.b, (z.getD (((g.getD (((v.1 : Int)).toNat) (0, 0)).1).toNat) Tr.z).L.pre.length + 9, none⟩)), .int .i64 (((v.2.1.getD ((g.getD (((v.1 : Int)).toNat) (0, 0)).1).toNat Th.z).at_ : Nat) : Int), .sl 6 cs1.length 0, .ptr 7 0, .int .i64 ((g.getD (((v.1 : Int)).toNat) (0, 0)).1), .el 6 1 ((g.getD (((v.1 : Int)).toNat) (0, 0)).1) 0, .v (.pointer (some ⟨(z.getD (((g.getD (((v.1 : Int)).toNat) (0, 0)).1).toNat) Tr.z).L.b, (z.getD (((g.getD (((v.1 : Int)).toNat) (0, 0)).1).toNat) Tr.z).L.pre.length, none⟩)), .v (.pointer (some ⟨(z.getD (((g.getD (((v.1 : Int)).toNat) (0, 0)).1).toNat) Tr.z).L.b, (z.getD (((g.getD (((v.1 : Int)).toNat) (0, 0)).1).toNat) Tr.z).L.pre.length, none⟩)), .v (.pointer (some ⟨(z.getD (((g.getD (((v.1 : Int)).toNat) (0, 0)).1).toNat) Tr.z).L.b, (z.getD (((g.getD (((v.1 : Int)).toNat) (0, 0)).1).toNat) Tr.z).L.pre.length + 0, none⟩)), .sla ((cs.getD ((g.getD (((v.1 : Int)).toNat) (0, 0)).1).toNat Cde.z).ao) ((cs2.getD ((g.getD (((v.1 : Int)).toNat) (0, 0)).1).toNat Cde.z).l.length) ((cs.getD ((g.getD (((v.1 : Int)).toNat) (0, 0)).1).toNat Cde.z).cp), .int .i64 (((cs2.getD ((g.getD (((v.1 : Int)).toNat) (0, 0)).1).toNat Cde.z).l.length : Nat) : Int), .ff, .ff, .ff] [] [] 0 [([], [], [some (.lst 1 cs.length (fun zz => cdc (cs.getD zz Cde.z))), some (.lst 5 kd.length (fun zz => cc (kd.getD zz Cn.z))), some (.lst 2 g.length (fun zz => acS (g.getD zz (0, 0)))), some (.blk (tsQ9 ar nm mi r (.sl 0 cs.length cx) qu (.sl 1 kd.length ck))), some (.row 89 10 cs1.length 0 (fun zz => rnT (cs2.getD zz Cde.z) (v.2.1.getD zz Th.z))), some (.blk [.sl 4 cs1.length 0]), some (.row 37 1 cs1.length 0 (fun zz => [.v (.pointer (some ⟨(z.getD zz Tr.z).L.b, (z.getD zz Tr.z).L.pre.length, none⟩))])), some (.blk [.int .i64 ((g.getD (((v.1 : Int)).toNat) (0, 0)).1), .int .i64 ((g.getD (((v.1 : Int)).toNat) (0, 0)).2)])])] [[true, true, true, true, true, true, true, true, true, true, true, true, true, true, true, true, true, true, true, true, true, true, true, true, true, true, true, true, true, true, true]] A rfl rfl rfl rfl (by kernel_rfl) rfl (by kernel_rfl) ⟨⟨oV9 0 rfl rfl, ⟨oV9 0 rfl rfl, ⟨⟨_, _, _, _, 0, rfl, rfl, rfl, rfl, eff_at (eff_say (x := .bool (decide (((g.getD (((v.1 : Int)).toNat) (0, 0)).1) ≥ 0))) (fun _ => congrArg (fun b => some (Value.bool b)) (decide_eq_true hp0)) (eff_auto (X := ⟨_, true⟩) (out := .val _ _) hX rfl rfl)) rfl⟩, ⟨oV9 0 rfl rfl, ⟨oV9 0 rfl rfl, ⟨oV9 0 rfl rfl, ⟨oV9 0 rfl rfl, ⟨oV9 0 rfl rfl, ⟨⟨_, _, _, _, 0, rfl, rfl, rfl, rfl, eff_at (eff_say (x := .bool (decide (((g.getD (((v.1 : Int)).toNat) (0, 0)).1) < ((cs1.length : Nat) : Int)))) (fun _ => congrArg (fun b => some (Value.bool b)) (decide_eq_true hp1)) (eff_auto (X := ⟨_, true⟩) (out := .val _ _) hX rfl rfl)) rfl⟩, ⟨oV9 0 rfl rfl, ⟨oV9 0 rfl rfl, ⟨oV9 0 rfl rfl, ⟨oV9 0 rfl rfl, ⟨oV9 0 rfl rfl, ⟨oV9 0 rfl (ok_d (by omega) <| okE_nil), ⟨oV9 0 rfl (ok_d (by omega) <| okE_nil), ⟨⟨_, _, _, _, 0, rfl, rfl, rfl, rfl, eff_at (nckV rfl rfl rfl) rfl⟩, ⟨⟨_, _, _, _, 0, rfl, rfl, rfl, rfl, eff_at (fadV rfl rfl rfl (by kernel_rfl)) rfl⟩, ⟨⟨_, _, _, _, 0, rfl, rfl, rfl, rfl, eff_at (ldV (q := 9) (v := .int .i64 (((v.2.1.getD ((g.getD (((v.1 : Int)).toNat) (0, 0)).1).toNat Th.z).at_ : Nat) : Int)) hX rfl rfl rfl hth8 rfl rfl rfl) rfl⟩, ⟨oV9 0 rfl rfl, ⟨oV9 0 rfl rfl, ⟨oV9 0 rfl rfl, ⟨oV9 0 rfl (ok_d (by omega) <| okE_nil), ⟨oV9 0 rfl (ok_d (by omega) <| okE_nil), ⟨⟨_, _, _, _, 0, rfl, rfl, rfl, rfl, eff_at (nckV rfl rfl rfl) rfl⟩, ⟨⟨_, _, _, _, 0, rfl, rfl, rfl, rfl, eff_at (fadV rfl rfl rfl (by kernel_rfl)) rfl⟩, ⟨⟨_, _, _, _, 0, rfl, rfl, rfl, rfl, eff_at (ldV (q := 0) (v := .sla ((cs.getD ((g.getD (((v.1 : Int)).toNat) (0, 0)).1).toNat Cde.z).ao) ((cs2.getD ((g.getD (((v.1 : Int)).toNat) (0, 0)).1).toNat Cde.z).l.length) ((cs.getD ((g.getD (((v.1 : Int)).toNat) (0, 0)).1).toNat Cde.z).cp)) hX rfl rfl rfl hth8 rfl rfl rfl) rfl⟩, ⟨oV9 0 rfl rfl, ⟨⟨_, _, _, _, 0, rfl, rfl, rfl, rfl, eff_at (eff_say (x := .bool (decide ((((v.2.1.getD ((g.getD (((v.1 : Int)).toNat) (0, 0)).1).toNat Th.z).at_ : Nat) : Int) < (((cs2.getD ((g.getD (((v.1 : Int)).toNat) (0, 0)).1).toNat Cde.z).l.length : Nat) : Int)))) (fun _ => congrArg (fun b => some (Value.bool b)) (decide_eq_false (fun h => hst (Int.ofNat_lt.1 h)))) (eff_auto (X := ⟨_, true⟩) (out := .val _ _) hX rfl rfl)) rfl⟩, ⟨oV9 0 rfl rfl, ⟨oV9 0 rfl rfl, trivial⟩⟩⟩⟩⟩⟩⟩⟩⟩⟩⟩⟩⟩⟩⟩⟩⟩⟩⟩⟩⟩⟩⟩⟩⟩⟩⟩⟩⟩⟩⟩, trivial⟩ fun A => N9 9 A rfl rfl fun A => I9 [5, 4] CodesAt.ok hI2r (cPassE_ cs2 v.2.1 cs1.length ((g.getD (((v.1 : Int)).toNat) (0, 0)).1) ((g.getD (((v.1 : Int)).toNat) (0, 0)).2) hv.ok hth hst) A rfl fun A => N9 4 A rfl rfl fun A => forkN 100 A rfl
        (fun h5 A => absurd h5 (fun h => h rfl))
        (fun h5 A => N9 16 A rfl rfl fun A => I9 [5, 4, 6] LkI.ok hLk (looks_ cs2 v.2.1 cs1.length (fun k => (z.getD k Tr.z).L.b) (fun k => (z.getD k Tr.z).L.pre.length) (fun k => (cs.getD k Cde.z).ao) (fun k => (cs.getD k Cde.z).cp) (fun k => pbV (v.2.2.getD k Tr.z).pb (v.2.2.getD k Tr.z).ps.length) hv.ok (by omega)) A rfl fun A => N9 12 A rfl (ok_d (by omega) <| okE_nil) fun A => ⟨(v.1 + 1, v.2.1, v.2.2), _, (by show g.length - (v.1 + 1) < g.length - v.1; omega), ⟨(by show v.1 + 1 ≤ g.length; omega), hv.ok, (JT.ok.now A hv.jt).take 7, hv.ln, hv.hl⟩, (((B.trans A).cut [1, 5, 6, 9] rfl).trunc 7 rfl rfl rfl (by omega)).sayT (by rfl)⟩)))
       (fun hp1 => ANY hmo [.ptr 7 0, .int .i64 ((g.getD (((v.1 : Int)).toNat) (0, 0)).1), .tt, .tt, .ptr 7 0, .int .i64 ((g.getD (((v.1 : Int)).toNat) (0, 0)).1), .sl 6 cs1.length 0, .int .i64 ((cs1.length : Nat) : Int), .ff, .ff, .ff, .tup [], .tup [], .tup [], .tup [], .tup [], .tup [], .tup [], .tup [], .tup [], .tup [], .tup [], .tup [], .tup [], .tup [], .tup [], .tup [], .tup [], .tup [], .ff, .ff] [] [] 0 [([], [], [some (.lst 1 cs.length (fun zz => cdc (cs.getD zz Cde.z))), some (.lst 5 kd.length (fun zz => cc (kd.getD zz Cn.z))), some (.lst 2 g.length (fun zz => acS (g.getD zz (0, 0)))), some (.blk (tsQ9 ar nm mi r (.sl 0 cs.length cx) qu (.sl 1 kd.length ck))), some (.row 89 10 cs1.length 0 (fun zz => rnT (cs2.getD zz Cde.z) (v.2.1.getD zz Th.z))), some (.blk [.sl 4 cs1.length 0]), some (.row 37 1 cs1.length 0 (fun zz => [.v (.pointer (some ⟨(z.getD zz Tr.z).L.b, (z.getD zz Tr.z).L.pre.length, none⟩))])), some (.blk [.int .i64 ((g.getD (((v.1 : Int)).toNat) (0, 0)).1), .int .i64 ((g.getD (((v.1 : Int)).toNat) (0, 0)).2)])])] [[true, true, true, true, true, true, true, true, true, true, true, true, true, true, true, true, true, true, true, true, true, true, true, true, true, true, true, true, true, true, true]] A rfl rfl rfl rfl (by kernel_rfl) rfl (by kernel_rfl) ⟨⟨oV9 0 rfl rfl, ⟨oV9 0 rfl rfl, ⟨⟨_, _, _, _, 0, rfl, rfl, rfl, rfl, eff_at (eff_say (x := .bool (decide (((g.getD (((v.1 : Int)).toNat) (0, 0)).1) ≥ 0))) (fun _ => congrArg (fun b => some (Value.bool b)) (decide_eq_true hp0)) (eff_auto (X := ⟨_, true⟩) (out := .val _ _) hX rfl rfl)) rfl⟩, ⟨oV9 0 rfl rfl, ⟨oV9 0 rfl rfl, ⟨oV9 0 rfl rfl, ⟨oV9 0 rfl rfl, ⟨oV9 0 rfl rfl, ⟨⟨_, _, _, _, 0, rfl, rfl, rfl, rfl, eff_at (eff_say (x := .bool (decide (((g.getD (((v.1 : Int)).toNat) (0, 0)).1) < ((cs1.length : Nat) : Int)))) (fun _ => congrArg (fun b => some (Value.bool b)) (decide_eq_false hp1)) (eff_auto (X := ⟨_, true⟩) (out := .val _ _) hX rfl rfl)) rfl⟩, ⟨oV9 0 rfl rfl, ⟨oV9 0 rfl rfl, ⟨oV9 0 rfl rfl, ⟨oV9 0 rfl rfl, ⟨oV9 0 rfl rfl, ⟨oV9 0 rfl rfl, ⟨oV9 0 rfl rfl, ⟨oV9 0 rfl rfl, ⟨oV9 0 rfl rfl, ⟨oV9 0 rfl rfl, ⟨oV9 0 rfl rfl, ⟨oV9 0 rfl rfl, ⟨oV9 0 rfl rfl, ⟨oV9 0 rfl rfl, ⟨oV9 0 rfl rfl, ⟨oV9 0 rfl rfl, ⟨oV9 0 rfl rfl, ⟨oV9 0 rfl rfl, ⟨oV9 0 rfl rfl, ⟨oV9 0 rfl rfl, ⟨oV9 0 rfl rfl, ⟨oV9 0 rfl rfl, trivial⟩⟩⟩⟩⟩⟩⟩⟩⟩⟩⟩⟩⟩⟩⟩⟩⟩⟩⟩⟩⟩⟩⟩⟩⟩⟩⟩⟩⟩⟩⟩, trivial⟩ fun A => N9 9 A rfl rfl fun A => I9 [5, 4] CodesAt.ok hI2r (cPassO_ cs2 v.2.1 cs1.length ((g.getD (((v.1 : Int)).toNat) (0, 0)).1) ((g.getD (((v.1 : Int)).toNat) (0, 0)).2) (by omega)) A rfl fun A => N9 4 A rfl rfl fun A => forkN 100 A rfl
        (fun h6 A => absurd h6 (fun h => h rfl))
        (fun h6 A => N9 16 A rfl rfl fun A => I9 [5, 4, 6] LkI.ok hLk (looks_ cs2 v.2.1 cs1.length (fun k => (z.getD k Tr.z).L.b) (fun k => (z.getD k Tr.z).L.pre.length) (fun k => (cs.getD k Cde.z).ao) (fun k => (cs.getD k Cde.z).cp) (fun k => pbV (v.2.2.getD k Tr.z).pb (v.2.2.getD k Tr.z).ps.length) hv.ok (by omega)) A rfl fun A => N9 12 A rfl (ok_d (by omega) <| okE_nil) fun A => ⟨(v.1 + 1, v.2.1, v.2.2), _, (by show g.length - (v.1 + 1) < g.length - v.1; omega), ⟨(by show v.1 + 1 ≤ g.length; omega), hv.ok, (JT.ok.now A hv.jt).take 7, hv.ln, hv.hl⟩, (((B.trans A).cut [1, 5, 6, 9] rfl).trunc 7 rfl rfl rfl (by omega)).sayT (by rfl)⟩)))
       (fun hp0 => ANY hmo [.ptr 7 0, .int .i64 ((g.getD (((v.1 : Int)).toNat) (0, 0)).1), .ff, .ff, .tup [], .tup [], .tup [], .tup [], .tup [], .ff, .ff, .tup [], .tup [], .tup [], .tup [], .tup [], .tup [], .tup [], .tup [], .tup [], .tup [], .tup [], .tup [], .tup [], .tup [], .tup [], .tup [], .tup [], .tup [], .ff, .ff] [] [] 0 [([], [], [some (.lst 1 cs.length (fun zz => cdc (cs.getD zz Cde.z))), some (.lst 5 kd.length (fun zz => cc (kd.getD zz Cn.z))), some (.lst 2 g.length (fun zz => acS (g.getD zz (0, 0)))), some (.blk (tsQ9 ar nm mi r (.sl 0 cs.length cx) qu (.sl 1 kd.length ck))), some (.row 89 10 cs1.length 0 (fun zz => rnT (cs2.getD zz Cde.z) (v.2.1.getD zz Th.z))), some (.blk [.sl 4 cs1.length 0]), some (.row 37 1 cs1.length 0 (fun zz => [.v (.pointer (some ⟨(z.getD zz Tr.z).L.b, (z.getD zz Tr.z).L.pre.length, none⟩))])), some (.blk [.int .i64 ((g.getD (((v.1 : Int)).toNat) (0, 0)).1), .int .i64 ((g.getD (((v.1 : Int)).toNat) (0, 0)).2)])])] [[true, true, true, true, true, true, true, true, true, true, true, true, true, true, true, true, true, true, true, true, true, true, true, true, true, true, true, true, true, true, true]] A rfl rfl rfl rfl (by kernel_rfl) rfl (by kernel_rfl) ⟨⟨oV9 0 rfl rfl, ⟨oV9 0 rfl rfl, ⟨⟨_, _, _, _, 0, rfl, rfl, rfl, rfl, eff_at (eff_say (x := .bool (decide (((g.getD (((v.1 : Int)).toNat) (0, 0)).1) ≥ 0))) (fun _ => congrArg (fun b => some (Value.bool b)) (decide_eq_false hp0)) (eff_auto (X := ⟨_, true⟩) (out := .val _ _) hX rfl rfl)) rfl⟩, ⟨oV9 0 rfl rfl, ⟨oV9 0 rfl rfl, ⟨oV9 0 rfl rfl, ⟨oV9 0 rfl rfl, ⟨oV9 0 rfl rfl, ⟨oV9 0 rfl rfl, ⟨oV9 0 rfl rfl, ⟨oV9 0 rfl rfl, ⟨oV9 0 rfl rfl, ⟨oV9 0 rfl rfl, ⟨oV9 0 rfl rfl, ⟨oV9 0 rfl rfl, ⟨oV9 0 rfl rfl, ⟨oV9 0 rfl rfl, ⟨oV9 0 rfl rfl, ⟨oV9 0 rfl rfl, ⟨oV9 0 rfl rfl, ⟨oV9 0 rfl rfl, ⟨oV9 0 rfl rfl, ⟨oV9 0 rfl rfl, ⟨oV9 0 rfl rfl, ⟨oV9 0 rfl rfl, ⟨oV9 0 rfl rfl, ⟨oV9 0 rfl rfl, ⟨oV9 0 rfl rfl, ⟨oV9 0 rfl rfl, ⟨oV9 0 rfl rfl, ⟨oV9 0 rfl rfl, trivial⟩⟩⟩⟩⟩⟩⟩⟩⟩⟩⟩⟩⟩⟩⟩⟩⟩⟩⟩⟩⟩⟩⟩⟩⟩⟩⟩⟩⟩⟩⟩, trivial⟩ fun A => N9 9 A rfl rfl fun A => I9 [5, 4] CodesAt.ok hI2r (cPassO_ cs2 v.2.1 cs1.length ((g.getD (((v.1 : Int)).toNat) (0, 0)).1) ((g.getD (((v.1 : Int)).toNat) (0, 0)).2) (by omega)) A rfl fun A => N9 4 A rfl rfl fun A => forkN 100 A rfl
        (fun h7 A => absurd h7 (fun h => h rfl))
        (fun h7 A => N9 16 A rfl rfl fun A => I9 [5, 4, 6] LkI.ok hLk (looks_ cs2 v.2.1 cs1.length (fun k => (z.getD k Tr.z).L.b) (fun k => (z.getD k Tr.z).L.pre.length) (fun k => (cs.getD k Cde.z).ao) (fun k => (cs.getD k Cde.z).cp) (fun k => pbV (v.2.2.getD k Tr.z).pb (v.2.2.getD k Tr.z).ps.length) hv.ok (by omega)) A rfl fun A => N9 12 A rfl (ok_d (by omega) <| okE_nil) fun A => ⟨(v.1 + 1, v.2.1, v.2.2), _, (by show g.length - (v.1 + 1) < g.length - v.1; omega), ⟨(by show v.1 + 1 ≤ g.length; omega), hv.ok, (JT.ok.now A hv.jt).take 7, hv.ln, hv.hl⟩, (((B.trans A).cut [1, 5, 6, 9] rfl).trunc 7 rfl rfl rfl (by omega)).sayT (by rfl)⟩)))
      (fun h3 A => N9 9 A rfl rfl fun A => R9 (BL.trans (B.trans A)) rfl h00 rfl rfl rfl)))
end Go.Proofs.YtjkppaijicjpoaaGreatDoor.Mc
namespace Go.Proofs.YtjkppaijicjpoaaGreatDoor.Mc
set_option linter.unusedSimpArgs false
set_option linter.unusedVariables false
set_option maxRecDepth 100000
open Go.ChangeShapes Go.WideShapes Go.ChangeAt Go.RowKit Go.Deep
def acV (a : Int × Int) : List Value := [.int .i64 a.1, .int .i64 a.2]
section
variable {H : Type} {enc : TypeId × Value → H} {W : World} {base : Nat} {spare : Nat → Bool} {held : Bool} {base' : Nat}
theorem AI.act : AI enc W base' spare held 44 2 := by
 refine AI.str (by kernel_rfl) fun k hk => ?_
 have : k = 0 ∨ k = 1 := by omega
 rcases this with rfl | rfl
 ·exact ⟨0, 0, 3, 1, by kernel_rfl, AI.int, by omega, by omega⟩
 ·exact ⟨1, 1, 3, 1, by kernel_rfl, AI.int, by omega, by omega⟩
theorem open_acL (cs : List Value) (n : Nat) (x : DataW H × List MemPlace) (h : DataW.trod enc Tryz.prog W base' spare held n 44 cs = some x) (hl : cs.length = 2) : ∃ y : Int × Int, cs = acV y ∧ True := by
 have A := AI.act.2 cs n x h
 obtain ⟨a, ha, _⟩ := A 0 (by omega)
 obtain ⟨b, hb, _⟩ := A 1 (by omega)
 refine ⟨(a, b), ?_, trivial⟩
 match cs, hl, ha, hb with
 | [u0, u1], _, ha, hb => simp at ha hb; subst ha hb; rfl
theorem slice_bo {t e n cap : Nat} {ao : Option Addr} (ht : Tryz.prog.underlying t = some (.slice e)) (hv : Value.okWide Tryz.prog W .any base t (.slice ao n cap)) : ∃ bo : BO, ao = adB bo := by
 cases ao with
 | none => exact ⟨none, rfl⟩
 | some a =>
  unfold Value.okWide at hv
  rw [ht] at hv
  simp only [Cell.okWide, ht, Cell.ok] at hv
  obtain ⟨b, o, s⟩ := a
  have : s = none := hv.2.2.2.1
  subst this
  exact ⟨some (b, o), rfl⟩
theorem open_acts {v : Value} {d : DataW H} {ps : List MemPlace} (hv : Value.okWide Tryz.prog W .any base 29 v) (h : DataW.Trod enc Tryz.prog W base' spare held 29 v d ps) (hwt : (d.weights Tryz.prog 29).all (· ≤ reachBytes) = true) : ∃ (bo : BO) (l : List (Int × Int)) (cap : Nat), v = .slice (adB bo) l.length cap ∧ l.length * 16 ≤ reachBytes ∧ Sl acV 2 W.heap.size W (.slice (adB bo) l.length cap) l := by
 obtain ⟨fuel, hf⟩ := h
 obtain ⟨ao, l, cap, h1, h2, h3, _⟩ := open_listT (α := Int × Int) (en := acV) (Q := fun _ => True) (t := 29) (e := 44) (s := 2) (by kernel_rfl) (by kernel_rfl) (by omega) (fun cs n x h hl _ => open_acL cs n x h hl) hf hwt
 rw [show Tryz.prog.bytesOf 44 = 16 by kernel_rfl] at h2
 have hu : Tryz.prog.underlying 29 = some (.slice 44) := by kernel_rfl
 obtain ⟨a0, len0, cap0, rfl⟩ := okWide_slice hu hv
 simp [Value.cells] at h1
 obtain ⟨rfl, rfl, rfl⟩ := h1
 obtain ⟨bo, rfl⟩ := slice_bo (t := 29) (e := 44) hu hv
 exact ⟨bo, l, _, rfl, h2.2, h3⟩
end
theorem lstA_of {bo : BO} {n cap : Nat} {w : World} {l : List (Int × Int)} (h : Sl acV 2 w.heap.size w (.slice (adB bo) n cap) l) : n = l.length ∧ ∀ (G F : Gr), den (G ++ locB bo :: F) (.sl G.length l.length cap) = some (.slice (adB bo) n cap) ∧ EntOK (G ++ locB bo :: F) w (locB bo) (.lst 2 l.length (fun zz => acS (l.getD zz (0, 0)))) := lst_of (f := fun zz => acS (l.getD zz (0, 0))) h (Nat.le_refl _) (fun k x hx => by show denL [] (acS (l.getD k (0, 0))) = _; rw [List.getD_eq_getElem?_getD, hx]; rfl) (fun k => ⟨_, rfl⟩)
end Go.Proofs.YtjkppaijicjpoaaGreatDoor.Mc
