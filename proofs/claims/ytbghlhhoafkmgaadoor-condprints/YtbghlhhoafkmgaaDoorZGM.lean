/- Conditions as texts, whatever the architecture. -/
import Derived.Test.YtbghlhhoafkmgaaDoorZGL
namespace Go.Proofs.YtbghlhhoafkmgaaDoor
open Go.RowKit
set_option linter.unusedVariables false
set_option linter.unusedSimpArgs false
set_option maxRecDepth 100000
set_option maxHeartbeats 2000000
set_option simprocs false
theorem rvregs_   : Fn Tryd.prog 58 [] [] (Rt (.agg [.str [97, 48], .str [97, 49], .str [97, 50], .str [97, 51], .str [97, 52], .str [97, 53], .str [97, 54], .str [97, 55]]) []) :=
 enterM (n := 2) (by kernel_rfl) Tryd.func58 rfl rfl rfl fun G w a h0 A => N2 hX 12 A rfl rfl fun A => RETN hX A rfl rfl rfl h0 rfl rfl rfl rfl rfl rfl
theorem rvname_ (r : Int)  : Fn Tryd.prog 44 [.int .i64 r] [] (Rt (.str (regnm0 [97, 48] [97, 49] [97, 50] [97, 51] [97, 52] [97, 53] [97, 54] [97, 55] r)) []) :=
 enterM (n := 6) (by kernel_rfl) Tryd.func44 rfl rfl rfl fun G w a h0 A => N2 hX 7 A rfl rfl fun A => CALL1 [] (rvregs_ ) A rfl rfl rfl rfl rfl rfl rfl fun A => N2 hX 1 A rfl rfl fun A => CALL1 [] (regnm_ [97, 48] [97, 49] [97, 50] [97, 51] [97, 52] [97, 53] [97, 54] [97, 55] r) A rfl rfl rfl rfl rfl rfl rfl fun A => N2 hX 4 A rfl rfl fun A => RETN hX A rfl rfl rfl h0 rfl rfl rfl rfl rfl rfl
def rvnm (k : Nat) : List UInt8 := regnm0 [97, 48] [97, 49] [97, 50] [97, 51] [97, 52] [97, 53] [97, 54] [97, 55] (k : Int)
theorem rvnm_ (k : Nat) (_ : k < 8) : Fn Tryd.prog 44 [.int .i64 (k : Int)] [] (Rt (.str (rvnm k)) []) := rvname_ (k : Int)
theorem amregs_   : Fn Tryd.prog 59 [] [] (Rt (.agg [.str [88, 48], .str [88, 49], .str [88, 50], .str [88, 51], .str [88, 52], .str [88, 53], .str [88, 54], .str [88, 55]]) []) :=
 enterM (n := 2) (by kernel_rfl) Tryd.func59 rfl rfl rfl fun G w a h0 A => N2 hX 12 A rfl rfl fun A => RETN hX A rfl rfl rfl h0 rfl rfl rfl rfl rfl rfl
theorem amname_ (r : Int)  : Fn Tryd.prog 45 [.int .i64 r] [] (Rt (.str (regnm0 [88, 48] [88, 49] [88, 50] [88, 51] [88, 52] [88, 53] [88, 54] [88, 55] r)) []) :=
 enterM (n := 6) (by kernel_rfl) Tryd.func45 rfl rfl rfl fun G w a h0 A => N2 hX 7 A rfl rfl fun A => CALL1 [] (amregs_ ) A rfl rfl rfl rfl rfl rfl rfl fun A => N2 hX 1 A rfl rfl fun A => CALL1 [] (regnm_ [88, 48] [88, 49] [88, 50] [88, 51] [88, 52] [88, 53] [88, 54] [88, 55] r) A rfl rfl rfl rfl rfl rfl rfl fun A => N2 hX 4 A rfl rfl fun A => RETN hX A rfl rfl rfl h0 rfl rfl rfl rfl rfl rfl
def amnm (k : Nat) : List UInt8 := regnm0 [88, 48] [88, 49] [88, 50] [88, 51] [88, 52] [88, 53] [88, 54] [88, 55] (k : Int)
theorem amnm_ (k : Nat) (_ : k < 8) : Fn Tryd.prog 45 [.int .i64 (k : Int)] [] (Rt (.str (amnm k)) []) := amname_ (k : Int)
theorem regn2_   : Fn Tryd.prog 27 [.int .i64 2] [] (Rt (.sl 0 8 0) [some (.row 9 1 8 0 (fun zz => [.str (((List.range 8).map rvnm).getD zz [])]))]) :=
 enterM (n := 13) (by kernel_rfl) Tryd.func27 rfl rfl rfl fun G w a h0 A => N2 hX 18 A rfl rfl fun A => forkE 4 A rfl
  (fun h1 A => absurd h1 (by decide))
  (fun h1 A => N2 hX 7 A rfl rfl fun A => forkE 7 A rfl
   (fun h2 A => N2 hX 3 A rfl rfl fun A => CALL1 [] (alln_ 44 rvnm rvnm_) A rfl rfl rfl rfl rfl rfl rfl fun A => N2 hX 4 A rfl rfl fun A => RET hX [0] A ⟨rfl, rfl⟩ rfl rfl rfl rfl rfl rfl rfl rfl h0)
   (fun h2 A => absurd rfl h2))
theorem regn3_   : Fn Tryd.prog 27 [.int .i64 3] [] (Rt (.sl 0 8 0) [some (.row 9 1 8 0 (fun zz => [.str (((List.range 8).map amnm).getD zz [])]))]) :=
 enterM (n := 13) (by kernel_rfl) Tryd.func27 rfl rfl rfl fun G w a h0 A => N2 hX 18 A rfl rfl fun A => forkE 4 A rfl
  (fun h1 A => absurd h1 (by decide))
  (fun h1 A => N2 hX 7 A rfl rfl fun A => forkE 7 A rfl
   (fun h2 A => absurd h2 (by decide))
   (fun h2 A => N2 hX 7 A rfl rfl fun A => forkE 10 A rfl
    (fun h3 A => N2 hX 3 A rfl rfl fun A => CALL1 [] (alln_ 45 amnm amnm_) A rfl rfl rfl rfl rfl rfl rfl fun A => N2 hX 4 A rfl rfl fun A => RET hX [0] A ⟨rfl, rfl⟩ rfl rfl rfl rfl rfl rfl rfl rfl h0)
    (fun h3 A => absurd rfl h3)))
theorem regn0_ (ar : Int) (g1 : ar ≠ 1) (g2 : ar ≠ 2) (g3 : ar ≠ 3) : Fn Tryd.prog 27 [.int .i64 ar] [] (Rt (.sla none 0 0) []) :=
 enterM (n := 13) (by kernel_rfl) Tryd.func27 rfl rfl rfl fun G w a h0 A => N2 hX 18 A rfl rfl fun A => forkE 4 A rfl
  (fun h1 A => absurd h1 g1)
  (fun h1 A => N2 hX 7 A rfl rfl fun A => forkE 7 A rfl
   (fun h2 A => absurd h2 g2)
   (fun h2 A => N2 hX 7 A rfl rfl fun A => forkE 10 A rfl
    (fun h3 A => absurd h3 g3)
    (fun h3 A => N2 hX 10 A rfl rfl fun A => RETN hX A rfl rfl rfl h0 rfl rfl rfl rfl rfl rfl)))
theorem printG_ (ar : Int) (nm : Nat → List UInt8) (L : List Cn) (n : Nat) (c : Nat) (b : Nat) (o : Obj) (hreg : Fn Tryd.prog 27 [.int .i64 ar] [] (Rt (.sl 0 8 0) [some (.row 9 1 8 0 (fun zz => [.str (((List.range 8).map nm).getD zz [])]))])) (hT : ∀ w : World, w.heap[b]? = some o → Lib.TabIs Tryd.prog w "internal/strconv.uint64pow10" .u64 Lib.pow10Tab) (hn : n ≤ L.length) (hN : n ≤ 1000000) (hr : right (L.take n) = true) (hv : ∀ q, -9223372036854775808 ≤ (L.getD q Cn.z).vl ∧ (L.getD q Cn.z).vl ≤ 9223372036854775807) (hl : ∀ i q, ((foldP ((List.range 8).map nm) ((L.take n).take i)).getD q pz).1.length ≤ 1000000) (qR : ∀ q, (((List.range 8).map nm).getD q []).length ≤ 100) : Fn Tryd.prog 15 [.int .i64 ar, .sl 0 n c] [some (.lst 5 L.length (fun zz => cc (L.getD zz Cn.z))), some (.fac b o)] (Rt (.tup [.str (((foldP ((List.range 8).map nm) (L.take n)).getD 0 pz).1), .int .i64 0]) [some (.lst 5 L.length (fun zz => cc (L.getD zz Cn.z))), some (.fac b o)]) :=
 enterM (n := 20) (by kernel_rfl) Tryd.func15 rfl rfl rfl fun G w a h0 A => N2 hX 9 A rfl rfl fun A => CALL1 [] hreg A rfl rfl rfl rfl rfl rfl rfl fun A => N2 hX 8 A rfl rfl fun A => NILR hX A rfl rfl (by omega) fun A => N2 hX 9 A rfl rfl fun A => CALL1 [0] (pright_ L n c hn) A rfl rfl rfl rfl rfl rfl rfl fun A => N2 hX 3 A rfl rfl fun A => fork 14 A rfl
  (fun h1 A => absurd h1 (by rw [hr]; decide))
  (fun h1 A => N2 hX 7 A rfl rfl fun A => CALL1 [0, 3, 2, 1] (foldp_ ((List.range 8).map nm) L n c b o hT hn hN hr hv hl qR (by simp)) A rfl rfl rfl rfl rfl rfl rfl fun A => N2 hX 13 A rfl rfl fun A => RETN hX A rfl rfl rfl h0 rfl rfl rfl rfl rfl rfl)
theorem printB_ (ar : Int) (nm : Nat → List UInt8) (L : List Cn) (n : Nat) (c : Nat) (b : Nat) (o : Obj) (hreg : Fn Tryd.prog 27 [.int .i64 ar] [] (Rt (.sl 0 8 0) [some (.row 9 1 8 0 (fun zz => [.str (((List.range 8).map nm).getD zz [])]))])) (hn : n ≤ L.length) (hr : right (L.take n) = false) : Fn Tryd.prog 15 [.int .i64 ar, .sl 0 n c] [some (.lst 5 L.length (fun zz => cc (L.getD zz Cn.z))), some (.fac b o)] (Rt (.tup [.str [], .int .i64 22]) [some (.lst 5 L.length (fun zz => cc (L.getD zz Cn.z))), some (.fac b o)]) :=
 enterM (n := 20) (by kernel_rfl) Tryd.func15 rfl rfl rfl fun G w a h0 A => N2 hX 9 A rfl rfl fun A => CALL1 [] hreg A rfl rfl rfl rfl rfl rfl rfl fun A => N2 hX 8 A rfl rfl fun A => NILR hX A rfl rfl (by omega) fun A => N2 hX 9 A rfl rfl fun A => CALL1 [0] (pright_ L n c hn) A rfl rfl rfl rfl rfl rfl rfl fun A => N2 hX 3 A rfl rfl fun A => fork 14 A rfl
  (fun h1 A => N2 hX 8 A rfl rfl fun A => RETN hX A rfl rfl rfl h0 rfl rfl rfl rfl rfl rfl)
  (fun h1 A => absurd h1 (by rw [hr]; decide))
theorem printX_ (ar : Int) (L : List Cn) (n : Nat) (c : Nat) (b : Nat) (o : Obj) (g1 : ar ≠ 1) (g2 : ar ≠ 2) (g3 : ar ≠ 3) : Fn Tryd.prog 15 [.int .i64 ar, .sl 0 n c] [some (.lst 5 L.length (fun zz => cc (L.getD zz Cn.z))), some (.fac b o)] (Rt (.tup [.str [], .int .i64 36]) [some (.lst 5 L.length (fun zz => cc (L.getD zz Cn.z))), some (.fac b o)]) :=
 enterM (n := 20) (by kernel_rfl) Tryd.func15 rfl rfl rfl fun G w a h0 A => N2 hX 9 A rfl rfl fun A => CALL1 [] (regn0_ ar g1 g2 g3) A rfl rfl rfl rfl rfl rfl rfl fun A => N2 hX 8 A rfl rfl fun A => q_eff A rfl (nilaE (e := 9) rfl rfl rfl rfl (by kernel_rfl)) fun A => N2 hX 10 A rfl rfl fun A => RETN hX A rfl rfl rfl h0 rfl rfl rfl rfl rfl rfl
theorem xnm_ok (ar : Int) (ha : ar = 1) : (∀ g : Int, 0 ≤ g → g < 8 → ((List.range 8).map xnm).getD (g).toNat [] = rname0 ar g) ∧ ∀ q, (((List.range 8).map xnm).getD q []).length ≤ 100 := by
  subst ha
  refine ⟨fun g h1 h2 => ?_, fun q => ?_⟩
  · have : g = 0 ∨ g = 1 ∨ g = 2 ∨ g = 3 ∨ g = 4 ∨ g = 5 ∨ g = 6 ∨ g = 7 := by omega
    rcases this with rfl | rfl | rfl | rfl | rfl | rfl | rfl | rfl <;> decide
  · by_cases h : q < 8
    · rw [nm_at h]
      have : q = 0 ∨ q = 1 ∨ q = 2 ∨ q = 3 ∨ q = 4 ∨ q = 5 ∨ q = 6 ∨ q = 7 := by omega
      rcases this with rfl | rfl | rfl | rfl | rfl | rfl | rfl | rfl <;> decide
    · rw [List.getD_eq_getElem?_getD, List.getElem?_eq_none (by simp; omega)]; decide
theorem rvnm_ok (ar : Int) (ha : ar = 2) : (∀ g : Int, 0 ≤ g → g < 8 → ((List.range 8).map rvnm).getD (g).toNat [] = rname0 ar g) ∧ ∀ q, (((List.range 8).map rvnm).getD q []).length ≤ 100 := by
  subst ha
  refine ⟨fun g h1 h2 => ?_, fun q => ?_⟩
  · have : g = 0 ∨ g = 1 ∨ g = 2 ∨ g = 3 ∨ g = 4 ∨ g = 5 ∨ g = 6 ∨ g = 7 := by omega
    rcases this with rfl | rfl | rfl | rfl | rfl | rfl | rfl | rfl <;> decide
  · by_cases h : q < 8
    · rw [nm_at h]
      have : q = 0 ∨ q = 1 ∨ q = 2 ∨ q = 3 ∨ q = 4 ∨ q = 5 ∨ q = 6 ∨ q = 7 := by omega
      rcases this with rfl | rfl | rfl | rfl | rfl | rfl | rfl | rfl <;> decide
    · rw [List.getD_eq_getElem?_getD, List.getElem?_eq_none (by simp; omega)]; decide
theorem amnm_ok (ar : Int) (ha : ar = 3) : (∀ g : Int, 0 ≤ g → g < 8 → ((List.range 8).map amnm).getD (g).toNat [] = rname0 ar g) ∧ ∀ q, (((List.range 8).map amnm).getD q []).length ≤ 100 := by
  subst ha
  refine ⟨fun g h1 h2 => ?_, fun q => ?_⟩
  · have : g = 0 ∨ g = 1 ∨ g = 2 ∨ g = 3 ∨ g = 4 ∨ g = 5 ∨ g = 6 ∨ g = 7 := by omega
    rcases this with rfl | rfl | rfl | rfl | rfl | rfl | rfl | rfl <;> decide
  · by_cases h : q < 8
    · rw [nm_at h]
      have : q = 0 ∨ q = 1 ∨ q = 2 ∨ q = 3 ∨ q = 4 ∨ q = 5 ∨ q = 6 ∨ q = 7 := by omega
      rcases this with rfl | rfl | rfl | rfl | rfl | rfl | rfl | rfl <;> decide
    · rw [List.getD_eq_getElem?_getD, List.getElem?_eq_none (by simp; omega)]; decide
def badA (ar : Int) : Bool := (decide (ar < 1)) || (decide (ar > 3))
def treeOf (L : List Cn) : Tr := (foldB L).getD 0 (.lf Cn.z)
def prT (ar : Int) (L : List Cn) : List UInt8 := if badA ar = true then [] else if (!(right L)) = true then [] else tx ar (treeOf L)
def prE (ar : Int) (L : List Cn) : Int := if badA ar = true then 36 else if (!(right L)) = true then 22 else 0
theorem pprintN (ar : Int) (nm : Nat → List UInt8) (L : List Cn) (c b : Nat) (o : Obj) (hreg : Fn Tryd.prog 27 [.int .i64 ar] [] (Rt (.sl 0 8 0) [some (.row 9 1 8 0 (fun zz => [.str (((List.range 8).map nm).getD zz [])]))])) (hT : ∀ w : World, w.heap[b]? = some o → Lib.TabIs Tryd.prog w "internal/strconv.uint64pow10" .u64 Lib.pow10Tab) (ha : badA ar = false) (hok : (∀ g : Int, 0 ≤ g → g < 8 → ((List.range 8).map nm).getD (g).toNat [] = rname0 ar g) ∧ ∀ q, (((List.range 8).map nm).getD q []).length ≤ 100) (hv : ∀ q, okV (L.getD q Cn.z).vl) (hN : L.length ≤ 1000000) : Fn Tryd.prog 15 [.int .i64 ar, .sl 0 L.length c] [some (.lst 5 L.length (fun zz => cc (L.getD zz Cn.z))), some (.fac b o)] (Rt (.tup [.str (prT ar L), .int .i64 (prE ar L)]) [some (.lst 5 L.length (fun zz => cc (L.getD zz Cn.z))), some (.fac b o)]) := by
  cases hr : right L with
  | true =>
    refine fn_asX (printG_ ar nm L L.length c b o hreg hT (Nat.le_refl _) hN (by rw [List.take_length]; exact hr) hv (fun i q => by rw [List.take_length]; exact foldP_len hok.1 hr hv i q) hok.2) fun _ => ?_
    have h := (tree_fin hok.1 hr hv).2.2
    have e1 : prT ar L = tx ar (treeOf L) := by unfold prT; rw [ha, hr]; rfl
    have e2 : prE ar L = 0 := by unfold prE; rw [ha, hr]; rfl
    rw [e1, e2, treeOf, h, List.take_length]
  | false =>
    refine fn_asX (printB_ ar nm L L.length c b o hreg (Nat.le_refl _) (by rw [List.take_length]; exact hr)) fun _ => ?_
    have e1 : prT ar L = [] := by unfold prT; rw [ha, hr]; rfl
    have e2 : prE ar L = 22 := by unfold prE; rw [ha, hr]; rfl
    rw [e1, e2]
theorem pprint_ (ar : Int) (L : List Cn) (c b : Nat) (o : Obj) (hT : ∀ w : World, w.heap[b]? = some o → Lib.TabIs Tryd.prog w "internal/strconv.uint64pow10" .u64 Lib.pow10Tab) (hv : ∀ q, okV (L.getD q Cn.z).vl) (hN : L.length ≤ 1000000) : Fn Tryd.prog 15 [.int .i64 ar, .sl 0 L.length c] [some (.lst 5 L.length (fun zz => cc (L.getD zz Cn.z))), some (.fac b o)] (Rt (.tup [.str (prT ar L), .int .i64 (prE ar L)]) [some (.lst 5 L.length (fun zz => cc (L.getD zz Cn.z))), some (.fac b o)]) := by
  by_cases h1 : ar = 1
  · subst h1; exact pprintN 1 xnm L c b o regn1_ hT rfl (xnm_ok 1 rfl) hv hN
  · by_cases h2 : ar = 2
    · subst h2; exact pprintN 2 rvnm L c b o regn2_ hT rfl (rvnm_ok 2 rfl) hv hN
    · by_cases h3 : ar = 3
      · subst h3; exact pprintN 3 amnm L c b o regn3_ hT rfl (amnm_ok 3 rfl) hv hN
      · refine fn_asX (printX_ ar L L.length c b o h1 h2 h3) fun _ => ?_
        have ha : badA ar = true := by unfold badA; simp; omega
        have e1 : prT ar L = [] := by unfold prT; rw [ha]; rfl
        have e2 : prE ar L = 36 := by unfold prE; rw [ha]; rfl
        rw [e1, e2]
end Go.Proofs.YtbghlhhoafkmgaaDoor
