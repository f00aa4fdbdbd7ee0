/- CondJudges, part 4: the engine, contracts, theory. -/
import Derived.Test.YtfdfjakafiglmaaDoorCondJudgesP3
import Derived.Lib.ItoaLen
import Derived.Test.YtfdfjakafiglmaaDoorChecked
import Derived.Lib.ConvBytes
import Derived.WideLaws
import Derived.Laws.AppendOwn
import Derived.Laws.OwnMore
import Derived.WalkSmall
import Derived.ProofKit
import Derived.OpenShut
import Derived.ChangeOld
import Derived.Deep.Slices
import Derived.Lib.LaidTab
namespace Go.Proofs.YtfdfjakafiglmaaDoor
open Go.RowKit
set_option linter.unusedVariables false
set_option linter.unusedSimpArgs false
set_option maxRecDepth 100000
set_option maxHeartbeats 2000000
set_option simprocs false
abbrev Pc := List UInt8 × Int
def pz : Pc := ([], 0)
theorem ap_len (ks : List Int) (t : List UInt8) (k : Int) : (apT ks t k).length ≤ t.length + 2 := by
  unfold apT; split
  · simp only [List.length_append, List.length_cons, List.length_nil]; omega
  · omega
theorem wr_f {R : List (List UInt8)} {l : List Pc} {j : Nat} {rg vl : Int} (ql : ∀ q, (l.getD q pz).1.length ≤ 1000000) (qR : ∀ q, (R.getD q []).length ≤ 100) (qv : -9223372036854775808 ≤ vl ∧ vl ≤ 9223372036854775807) : (l.getD ((((j : Nat) : Int) + 0).toNat) pz).1.length ≤ 1000000 ∧ (l.getD ((((j : Nat) : Int) + 1).toNat) pz).1.length ≤ 1000000 ∧ (R.getD (rg).toNat []).length ≤ 100 ∧ (Lib.itoa vl).length ≤ 21 ∧ (apT [4, 5] (l.getD ((((j : Nat) : Int) + 0).toNat) pz).1 (l.getD ((((j : Nat) : Int) + 0).toNat) pz).2).length ≤ 1000002 ∧ (apT [5] (l.getD ((((j : Nat) : Int) + 0).toNat) pz).1 (l.getD ((((j : Nat) : Int) + 0).toNat) pz).2).length ≤ 1000002 ∧ (apT [4, 5] (l.getD ((((j : Nat) : Int) + 1).toNat) pz).1 (l.getD ((((j : Nat) : Int) + 1).toNat) pz).2).length ≤ 1000002 ∧ (apT [5] (l.getD ((((j : Nat) : Int) + 1).toNat) pz).1 (l.getD ((((j : Nat) : Int) + 1).toNat) pz).2).length ≤ 1000002 := by
  have h0 := ql ((((j : Nat) : Int) + 0).toNat); have h1 := ql ((((j : Nat) : Int) + 1).toNat)
  exact ⟨h0, h1, qR _, Lib.itoa_length_le vl qv.1 qv.2, Nat.le_trans (ap_len _ _ _) (by omega), Nat.le_trans (ap_len _ _ _) (by omega), Nat.le_trans (ap_len _ _ _) (by omega), Nat.le_trans (ap_len _ _ _) (by omega)⟩
theorem wr_l (lc : Int) (h : 0 ≤ lc ∧ lc < 3) : ([[120], [121], [122]].getD (lc).toNat ([] : List UInt8)).length ≤ 1 := by
  have : (lc).toNat = 0 ∨ (lc).toNat = 1 ∨ (lc).toNat = 2 := by omega
  rcases this with e | e | e <;> rw [e] <;> decide
def wr0 (R : List (List UInt8)) (kd : Int) (th : Int) (rg : Int) (lc : Int) (vl : Int) (l : List Pc) (j : Nat) (k : Nat) : List UInt8 := if kd = 1 then ((((Lib.itoa th) ++ [58]) ++ (R.getD ((rg).toNat) [])) ++ [61]) ++ (Lib.itoa vl) else if kd = 2 then (([[120], [121], [122]].getD (lc).toNat []) ++ [61]) ++ (Lib.itoa vl) else if kd = 3 then [126] ++ (apT [4, 5] ((l.getD ((((j : Nat) : Int) + 0).toNat) pz).1) ((l.getD ((((j : Nat) : Int) + 0).toNat) pz).2)) else if kd = 4 then ((((apT [5] ((l.getD ((((j : Nat) : Int) + 0).toNat) pz).1) ((l.getD ((((j : Nat) : Int) + 0).toNat) pz).2)) ++ [32]) ++ [47, 92]) ++ [32]) ++ (apT [4, 5] ((l.getD ((((j : Nat) : Int) + 1).toNat) pz).1) ((l.getD ((((j : Nat) : Int) + 1).toNat) pz).2)) else (((((l.getD ((((j : Nat) : Int) + 0).toNat) pz).1) ++ [32]) ++ [92, 47]) ++ [32]) ++ (apT [5] ((l.getD ((((j : Nat) : Int) + 1).toNat) pz).1) ((l.getD ((((j : Nat) : Int) + 1).toNat) pz).2))
theorem wr_ (R : List (List UInt8)) (kd : Int) (th : Int) (rg : Int) (lc : Int) (vl : Int) (l : List Pc) (j : Nat) (k : Nat) (b : Nat) (o : Obj) (hT : ∀ w : World, w.heap[b]? = some o → Lib.TabIs Tryd.prog w "internal/strconv.uint64pow10" .u64 Lib.pow10Tab) (hk : j + k ≤ l.length) (q1 : kd = 1 → 0 ≤ th ∧ th < 3 ∧ 0 ≤ rg ∧ rg < 8) (q2 : kd = 2 → 0 ≤ lc ∧ lc < 3) (q3 : kd = 3 → 1 ≤ k) (q4 : kd ≠ 1 → kd ≠ 2 → kd ≠ 3 → 2 ≤ k) (qv : -9223372036854775808 ≤ vl ∧ vl ≤ 9223372036854775807) (ql : ∀ q, (l.getD q pz).1.length ≤ 1000000) (qR : ∀ q, (R.getD q []).length ≤ 100) (hR : 8 ≤ R.length) : Fn Tryd.prog 34 [.sl 0 R.length 8, .agg [.int .i64 kd, .int .i64 th, .int .i64 rg, .int .i64 lc, .int .i64 vl], .st 1 2 j k 0] [some (.row 9 1 R.length 8 (fun zz => [.str (R.getD zz [])])), some (.row 64 2 l.length 0 (fun zz => [.str (l.getD zz pz).1, .int .i64 (l.getD zz pz).2])), some (.fac b o)] (Rt (.str (wr0 R kd th rg lc vl l j k)) [some (.row 9 1 R.length 8 (fun zz => [.str (R.getD zz [])])), some (.row 64 2 l.length 0 (fun zz => [.str (l.getD zz pz).1, .int .i64 (l.getD zz pz).2])), some (.fac b o)]) :=
 enterM (n := 75) (by kernel_rfl) Tryd.func34 rfl rfl rfl fun G w a h0 A => N hX 20 A rfl rfl fun A => forkE 9 A rfl
  (fun h1 A => N hX 2 A rfl rfl fun A => DRAWN hX hmo [] [(2, .str (Lib.itoa th), [some (.row 9 1 R.length 8 (fun zz => [.str (R.getD zz [])])), some (.row 64 2 l.length 0 (fun zz => [.str (l.getD zz pz).1, .int .i64 (l.getD zz pz).2])), some (.fac b o), some (.blk [.int .i64 kd, .int .i64 th, .int .i64 rg, .int .i64 lc, .int .i64 vl])]), (13, .str (Lib.itoa vl), [some (.row 9 1 R.length 8 (fun zz => [.str (R.getD zz [])])), some (.row 64 2 l.length 0 (fun zz => [.str (l.getD zz pz).1, .int .i64 (l.getD zz pz).2])), some (.fac b o), some (.blk [.int .i64 kd, .int .i64 th, .int .i64 rg, .int .i64 lc, .int .i64 vl])])] A rfl (ok_d (by have hz := wr_f (j := j) (rg := rg) ql qR qv; have := Lib.itoa_length_le th (by omega) (by omega); (try simp only [List.length_append, List.length_cons, List.length_nil]); omega) <| ok_d (by have hz := wr_f (j := j) (rg := rg) ql qR qv; have := Lib.itoa_length_le th (by omega) (by omega); (try simp only [List.length_append, List.length_cons, List.length_nil]); omega) <| ok_d (by have hz := wr_f (j := j) (rg := rg) ql qR qv; have := Lib.itoa_length_le th (by omega) (by omega); (try simp only [List.length_append, List.length_cons, List.length_nil]); omega) <| ok_d (by have hz := wr_f (j := j) (rg := rg) ql qR qv; have := Lib.itoa_length_le th (by omega) (by omega); (try simp only [List.length_append, List.length_cons, List.length_nil]); omega) <| ok_d (by have hz := wr_f (j := j) (rg := rg) ql qR qv; have := Lib.itoa_length_le th (by omega) (by omega); (try simp only [List.length_append, List.length_cons, List.length_nil]); omega) <| ok_d (by have hz := wr_f (j := j) (rg := rg) ql qR qv; have := Lib.itoa_length_le th (by omega) (by omega); (try simp only [List.length_append, List.length_cons, List.length_nil]); omega) <| ok_d (by have hz := wr_f (j := j) (rg := rg) ql qR qv; have := Lib.itoa_length_le th (by omega) (by omega); (try simp only [List.length_append, List.length_cons, List.length_nil]); omega) <| ok_d (by have hz := wr_f (j := j) (rg := rg) ql qR qv; have := Lib.itoa_length_le th (by omega) (by omega); (try simp only [List.length_append, List.length_cons, List.length_nil]); omega) <| ok_d (by have hz := wr_f (j := j) (rg := rg) ql qR qv; have := Lib.itoa_length_le th (by omega) (by omega); (try simp only [List.length_append, List.length_cons, List.length_nil]); omega) <| ok_d (by have hz := wr_f (j := j) (rg := rg) ql qR qv; have := Lib.itoa_length_le th (by omega) (by omega); (try simp only [List.length_append, List.length_cons, List.length_nil]); omega) <| ok_d (by have hz := wr_f (j := j) (rg := rg) ql qR qv; have := Lib.itoa_length_le th (by omega) (by omega); (try simp only [List.length_append, List.length_cons, List.length_nil]); omega) <| ok_d (by have hz := wr_f (j := j) (rg := rg) ql qR qv; have := Lib.itoa_length_le th (by omega) (by omega); (try simp only [List.length_append, List.length_cons, List.length_nil]); omega) <| ok_d (by have hz := wr_f (j := j) (rg := rg) ql qR qv; have := Lib.itoa_length_le th (by omega) (by omega); (try simp only [List.length_append, List.length_cons, List.length_nil]); omega) <| okE_nil) rfl rfl (by kernel_rfl) ⟨callE [2] (fn_itoa b o hT th (by omega) (by omega)) rfl rfl rfl rfl rfl rfl rfl, ⟨callE [2] (fn_itoa b o hT vl (by omega) (by omega)) rfl rfl rfl rfl rfl rfl rfl, trivial⟩⟩ trivial fun A => N hX 2 A rfl rfl fun A => RETN hX A rfl rfl rfl h0 rfl rfl rfl rfl (by simp only [oneS, nb, nbL, nbH, wr0, if_pos h1]) rfl)
  (fun h1 A => N hX 7 A rfl rfl fun A => forkE 26 A rfl
   (fun h2 A => N hX 2 A rfl rfl fun A => DRAWN hX hmo [] [(0, .sl 4 3 3, [some (.row 9 1 R.length 8 (fun zz => [.str (R.getD zz [])])), some (.row 64 2 l.length 0 (fun zz => [.str (l.getD zz pz).1, .int .i64 (l.getD zz pz).2])), some (.fac b o), some (.blk [.int .i64 kd, .int .i64 th, .int .i64 rg, .int .i64 lc, .int .i64 vl]), some (.blk [.str [120], .str [121], .str [122]])]), (8, .str (Lib.itoa vl), [some (.row 9 1 R.length 8 (fun zz => [.str (R.getD zz [])])), some (.row 64 2 l.length 0 (fun zz => [.str (l.getD zz pz).1, .int .i64 (l.getD zz pz).2])), some (.fac b o), some (.blk [.int .i64 kd, .int .i64 th, .int .i64 rg, .int .i64 lc, .int .i64 vl]), some (.blk [.str [120], .str [121], .str [122]])])] A rfl (ok_d (by omega) <| ok_d (by omega) <| ok_d (by omega) <| ok_d (by omega) <| ok_d (by have hz := wr_f (j := j) (rg := rg) ql qR qv; have hx := wr_l lc (by omega); (try simp only [List.length_append, List.length_cons, List.length_nil]); omega) <| ok_d (by have hz := wr_f (j := j) (rg := rg) ql qR qv; have hx := wr_l lc (by omega); (try simp only [List.length_append, List.length_cons, List.length_nil]); omega) <| ok_d (by have hz := wr_f (j := j) (rg := rg) ql qR qv; have hx := wr_l lc (by omega); (try simp only [List.length_append, List.length_cons, List.length_nil]); omega) <| okE_nil) rfl rfl (by kernel_rfl) ⟨callE [] locs_ rfl rfl rfl rfl rfl rfl rfl, ⟨callE [2] (fn_itoa b o hT vl (by omega) (by omega)) rfl rfl rfl rfl rfl rfl rfl, trivial⟩⟩ trivial fun A => N hX 2 A rfl rfl fun A => RETN hX A rfl rfl rfl h0 rfl rfl rfl rfl (by simp only [oneS, nb, nbL, nbH, wr0, if_neg (h1), if_pos h2]) rfl)
   (fun h2 A => N hX 7 A rfl rfl fun A => forkE 38 A rfl
    (fun h3 A => N hX 7 A rfl (ok_d (by have hz := wr_f (j := j) (rg := rg) ql qR qv; (try simp only [List.length_append, List.length_cons, List.length_nil]); omega) <| ok_d (by have hz := wr_f (j := j) (rg := rg) ql qR qv; (try simp only [List.length_append, List.length_cons, List.length_nil]); omega) <| okE_nil) fun A => CALL1 [4] (ap45_ ((l.getD ((((j : Nat) : Int) + 0).toNat) pz).1) ((l.getD ((((j : Nat) : Int) + 0).toNat) pz).2) (by have hz := wr_f (j := j) (rg := rg) ql qR qv; (try simp only [List.length_append, List.length_cons, List.length_nil]); omega)) A rfl rfl rfl rfl rfl rfl rfl fun A => N hX 5 A rfl (ok_d (by have hz := wr_f (j := j) (rg := rg) ql qR qv; (try simp only [List.length_append, List.length_cons, List.length_nil]); omega) <| okE_nil) fun A => RETN hX A rfl rfl rfl h0 rfl rfl rfl rfl (by simp only [oneS, nb, nbL, nbH, wr0, if_neg (h1), if_neg (h2), if_pos h3]) rfl)
    (fun h3 A => N hX 7 A rfl rfl fun A => forkE 46 A rfl
     (fun h4 A => N hX 2 A rfl rfl fun A => ANY hmo [.st 1 2 j k 0, .el 1 2 (((j : Nat) : Int) + 0) 0, .agg [.str ((l.getD ((((j : Nat) : Int) + 0).toNat) pz).1), .int .i64 ((l.getD ((((j : Nat) : Int) + 0).toNat) pz).2)], .sl 4 1 1, .str (apT [5] ((l.getD ((((j : Nat) : Int) + 0).toNat) pz).1) ((l.getD ((((j : Nat) : Int) + 0).toNat) pz).2)), .str ((apT [5] ((l.getD ((((j : Nat) : Int) + 0).toNat) pz).1) ((l.getD ((((j : Nat) : Int) + 0).toNat) pz).2)) ++ [32]), .str (((apT [5] ((l.getD ((((j : Nat) : Int) + 0).toNat) pz).1) ((l.getD ((((j : Nat) : Int) + 0).toNat) pz).2)) ++ [32]) ++ [47, 92]), .str ((((apT [5] ((l.getD ((((j : Nat) : Int) + 0).toNat) pz).1) ((l.getD ((((j : Nat) : Int) + 0).toNat) pz).2)) ++ [32]) ++ [47, 92]) ++ [32]), .st 1 2 j k 0, .el 1 2 (((j : Nat) : Int) + 1) 0, .agg [.str ((l.getD ((((j : Nat) : Int) + 1).toNat) pz).1), .int .i64 ((l.getD ((((j : Nat) : Int) + 1).toNat) pz).2)], .sl 5 2 2, .str (apT [4, 5] ((l.getD ((((j : Nat) : Int) + 1).toNat) pz).1) ((l.getD ((((j : Nat) : Int) + 1).toNat) pz).2)), .str (((((apT [5] ((l.getD ((((j : Nat) : Int) + 0).toNat) pz).1) ((l.getD ((((j : Nat) : Int) + 0).toNat) pz).2)) ++ [32]) ++ [47, 92]) ++ [32]) ++ (apT [4, 5] ((l.getD ((((j : Nat) : Int) + 1).toNat) pz).1) ((l.getD ((((j : Nat) : Int) + 1).toNat) pz).2))), .str (((((apT [5] ((l.getD ((((j : Nat) : Int) + 0).toNat) pz).1) ((l.getD ((((j : Nat) : Int) + 0).toNat) pz).2)) ++ [32]) ++ [47, 92]) ++ [32]) ++ (apT [4, 5] ((l.getD ((((j : Nat) : Int) + 1).toNat) pz).1) ((l.getD ((((j : Nat) : Int) + 1).toNat) pz).2)))] [3, 4, 11, 12] [4, 5] 2 [([], [4, 5], [some (.row 9 1 R.length 8 (fun zz => [.str (R.getD zz [])])), some (.row 64 2 l.length 0 (fun zz => [.str (l.getD zz pz).1, .int .i64 (l.getD zz pz).2])), some (.fac b o), some (.blk [.int .i64 kd, .int .i64 th, .int .i64 rg, .int .i64 lc, .int .i64 vl]), none, none]), ([3], [5], [some (.row 9 1 R.length 8 (fun zz => [.str (R.getD zz [])])), some (.row 64 2 l.length 0 (fun zz => [.str (l.getD zz pz).1, .int .i64 (l.getD zz pz).2])), some (.fac b o), some (.blk [.int .i64 kd, .int .i64 th, .int .i64 rg, .int .i64 lc, .int .i64 vl]), some (.blk [.int .i64 5]), none]), ([11], [4], [some (.row 9 1 R.length 8 (fun zz => [.str (R.getD zz [])])), some (.row 64 2 l.length 0 (fun zz => [.str (l.getD zz pz).1, .int .i64 (l.getD zz pz).2])), some (.fac b o), some (.blk [.int .i64 kd, .int .i64 th, .int .i64 rg, .int .i64 lc, .int .i64 vl]), none, some (.blk [.int .i64 4, .int .i64 5])]), ([3, 4], [5], [some (.row 9 1 R.length 8 (fun zz => [.str (R.getD zz [])])), some (.row 64 2 l.length 0 (fun zz => [.str (l.getD zz pz).1, .int .i64 (l.getD zz pz).2])), some (.fac b o), some (.blk [.int .i64 kd, .int .i64 th, .int .i64 rg, .int .i64 lc, .int .i64 vl]), some (.blk [.int .i64 5]), none]), ([3, 11], [], [some (.row 9 1 R.length 8 (fun zz => [.str (R.getD zz [])])), some (.row 64 2 l.length 0 (fun zz => [.str (l.getD zz pz).1, .int .i64 (l.getD zz pz).2])), some (.fac b o), some (.blk [.int .i64 kd, .int .i64 th, .int .i64 rg, .int .i64 lc, .int .i64 vl]), some (.blk [.int .i64 5]), some (.blk [.int .i64 4, .int .i64 5])]), ([3, 4, 11], [], [some (.row 9 1 R.length 8 (fun zz => [.str (R.getD zz [])])), some (.row 64 2 l.length 0 (fun zz => [.str (l.getD zz pz).1, .int .i64 (l.getD zz pz).2])), some (.fac b o), some (.blk [.int .i64 kd, .int .i64 th, .int .i64 rg, .int .i64 lc, .int .i64 vl]), some (.blk [.int .i64 5]), some (.blk [.int .i64 4, .int .i64 5])]), ([3, 4, 11, 12], [], [some (.row 9 1 R.length 8 (fun zz => [.str (R.getD zz [])])), some (.row 64 2 l.length 0 (fun zz => [.str (l.getD zz pz).1, .int .i64 (l.getD zz pz).2])), some (.fac b o), some (.blk [.int .i64 kd, .int .i64 th, .int .i64 rg, .int .i64 lc, .int .i64 vl]), some (.blk [.int .i64 5]), some (.blk [.int .i64 4, .int .i64 5])])] [[true, true, true, true, false, false, false, false, true, true, true, true, false, false, false], [true, true, true, false, true, false, false, false, true, true, true, true, false, false, false], [true, true, true, true, false, false, false, false, true, true, true, false, false, false, false], [true, true, false, false, false, true, true, true, true, true, true, true, false, false, false], [true, true, true, false, true, false, false, false, true, true, true, false, false, false, false], [true, true, false, false, false, true, true, true, true, true, true, false, true, false, false], [true, true, false, false, false, true, true, true, true, true, false, false, false, true, true]] A rfl rfl rfl rfl (by kernel_rfl) rfl (by kernel_rfl) ⟨⟨⟨_, _, _, _, 0, rfl, rfl, rfl, rfl, eff_at (eff_auto (X := ⟨_, true⟩) (out := .val _ _) hX rfl rfl) rfl⟩, ⟨⟨_, _, _, _, 0, rfl, rfl, rfl, rfl, eff_at (eff_auto (X := ⟨_, true⟩) (out := .val _ _) hX rfl (ok_d (by have hz := wr_f (j := j) (rg := rg) ql qR qv; (try simp only [List.length_append, List.length_cons, List.length_nil]); omega) <| okE_nil)) rfl⟩, ⟨⟨_, _, _, _, 0, rfl, rfl, rfl, rfl, eff_at (eff_auto (X := ⟨_, true⟩) (out := .val _ _) hX rfl (ok_d (by have hz := wr_f (j := j) (rg := rg) ql qR qv; (try simp only [List.length_append, List.length_cons, List.length_nil]); omega) <| okE_nil)) rfl⟩, ⟨⟨_, _, _, _, 1, rfl, rfl, rfl, rfl, new_at 4 (X := ⟨_, true⟩) hX rfl rfl (le0 h0 rfl) rfl rfl rfl rfl⟩, ⟨⟨_, _, _, _, 0, rfl, rfl, rfl, rfl, eff_at (eff_auto (X := ⟨_, true⟩) (out := .val _ _) hX rfl rfl) rfl⟩, ⟨⟨_, _, _, _, 0, rfl, rfl, rfl, rfl, eff_at (eff_auto (X := ⟨_, true⟩) (out := .val _ _) hX rfl (ok_d (by have hz := wr_f (j := j) (rg := rg) ql qR qv; (try simp only [List.length_append, List.length_cons, List.length_nil]); omega) <| okE_nil)) rfl⟩, ⟨⟨_, _, _, _, 0, rfl, rfl, rfl, rfl, eff_at (eff_auto (X := ⟨_, true⟩) (out := .val _ _) hX rfl (ok_d (by have hz := wr_f (j := j) (rg := rg) ql qR qv; (try simp only [List.length_append, List.length_cons, List.length_nil]); omega) <| okE_nil)) rfl⟩, ⟨⟨_, _, _, _, 2, rfl, rfl, rfl, rfl, new_at 5 (X := ⟨_, true⟩) hX rfl rfl (le0 h0 rfl) rfl rfl rfl rfl⟩, trivial⟩⟩⟩⟩⟩⟩⟩⟩, ⟨⟨⟨_, _, _, _, 1, rfl, rfl, rfl, rfl, eff_at (eff_auto (X := ⟨_, true⟩) (out := .val _ _) hX rfl rfl) rfl⟩, ⟨⟨_, _, _, _, 1, rfl, rfl, rfl, rfl, eff_at (eff_auto (X := ⟨_, true⟩) (out := .val _ _) hX rfl (ok_d (by have hz := wr_f (j := j) (rg := rg) ql qR qv; (try simp only [List.length_append, List.length_cons, List.length_nil]); omega) <| okE_nil)) rfl⟩, ⟨⟨_, _, _, _, 1, rfl, rfl, rfl, rfl, eff_at (eff_auto (X := ⟨_, true⟩) (out := .val _ _) hX rfl (ok_d (by have hz := wr_f (j := j) (rg := rg) ql qR qv; (try simp only [List.length_append, List.length_cons, List.length_nil]); omega) <| okE_nil)) rfl⟩, ⟨⟨_, _, _, _, 3, rfl, rfl, rfl, rfl, eff_at (callE [4] (ap5_ ((l.getD ((((j : Nat) : Int) + 0).toNat) pz).1) ((l.getD ((((j : Nat) : Int) + 0).toNat) pz).2) (by have hz := wr_f (j := j) (rg := rg) ql qR qv; (try simp only [List.length_append, List.length_cons, List.length_nil]); omega)) rfl rfl rfl rfl rfl rfl rfl) rfl⟩, ⟨⟨_, _, _, _, 1, rfl, rfl, rfl, rfl, eff_at (eff_auto (X := ⟨_, true⟩) (out := .val _ _) hX rfl rfl) rfl⟩, ⟨⟨_, _, _, _, 1, rfl, rfl, rfl, rfl, eff_at (eff_auto (X := ⟨_, true⟩) (out := .val _ _) hX rfl (ok_d (by have hz := wr_f (j := j) (rg := rg) ql qR qv; (try simp only [List.length_append, List.length_cons, List.length_nil]); omega) <| okE_nil)) rfl⟩, ⟨⟨_, _, _, _, 1, rfl, rfl, rfl, rfl, eff_at (eff_auto (X := ⟨_, true⟩) (out := .val _ _) hX rfl (ok_d (by have hz := wr_f (j := j) (rg := rg) ql qR qv; (try simp only [List.length_append, List.length_cons, List.length_nil]); omega) <| okE_nil)) rfl⟩, ⟨⟨_, _, _, _, 4, rfl, rfl, rfl, rfl, new_at 5 (X := ⟨_, true⟩) hX rfl rfl (le0 h0 rfl) rfl rfl rfl rfl⟩, trivial⟩⟩⟩⟩⟩⟩⟩⟩, ⟨⟨⟨_, _, _, _, 2, rfl, rfl, rfl, rfl, eff_at (eff_auto (X := ⟨_, true⟩) (out := .val _ _) hX rfl rfl) rfl⟩, ⟨⟨_, _, _, _, 2, rfl, rfl, rfl, rfl, eff_at (eff_auto (X := ⟨_, true⟩) (out := .val _ _) hX rfl (ok_d (by have hz := wr_f (j := j) (rg := rg) ql qR qv; (try simp only [List.length_append, List.length_cons, List.length_nil]); omega) <| okE_nil)) rfl⟩, ⟨⟨_, _, _, _, 2, rfl, rfl, rfl, rfl, eff_at (eff_auto (X := ⟨_, true⟩) (out := .val _ _) hX rfl (ok_d (by have hz := wr_f (j := j) (rg := rg) ql qR qv; (try simp only [List.length_append, List.length_cons, List.length_nil]); omega) <| okE_nil)) rfl⟩, ⟨⟨_, _, _, _, 4, rfl, rfl, rfl, rfl, new_at 4 (X := ⟨_, true⟩) hX rfl rfl (le0 h0 rfl) rfl rfl rfl rfl⟩, ⟨⟨_, _, _, _, 2, rfl, rfl, rfl, rfl, eff_at (eff_auto (X := ⟨_, true⟩) (out := .val _ _) hX rfl rfl) rfl⟩, ⟨⟨_, _, _, _, 2, rfl, rfl, rfl, rfl, eff_at (eff_auto (X := ⟨_, true⟩) (out := .val _ _) hX rfl (ok_d (by have hz := wr_f (j := j) (rg := rg) ql qR qv; (try simp only [List.length_append, List.length_cons, List.length_nil]); omega) <| okE_nil)) rfl⟩, ⟨⟨_, _, _, _, 2, rfl, rfl, rfl, rfl, eff_at (eff_auto (X := ⟨_, true⟩) (out := .val _ _) hX rfl (ok_d (by have hz := wr_f (j := j) (rg := rg) ql qR qv; (try simp only [List.length_append, List.length_cons, List.length_nil]); omega) <| okE_nil)) rfl⟩, trivial⟩⟩⟩⟩⟩⟩⟩, ⟨⟨⟨_, _, _, _, 3, rfl, rfl, rfl, rfl, eff_at (eff_auto (X := ⟨_, true⟩) (out := .val _ _) hX rfl rfl) rfl⟩, ⟨⟨_, _, _, _, 3, rfl, rfl, rfl, rfl, eff_at (eff_auto (X := ⟨_, true⟩) (out := .val _ _) hX rfl (ok_d (by have hz := wr_f (j := j) (rg := rg) ql qR qv; (try simp only [List.length_append, List.length_cons, List.length_nil]); omega) <| okE_nil)) rfl⟩, ⟨⟨_, _, _, _, 3, rfl, rfl, rfl, rfl, eff_at (eff_auto (X := ⟨_, true⟩) (out := .val _ _) hX rfl (ok_d (by have hz := wr_f (j := j) (rg := rg) ql qR qv; (try simp only [List.length_append, List.length_cons, List.length_nil]); omega) <| okE_nil)) rfl⟩, ⟨⟨_, _, _, _, 3, rfl, rfl, rfl, rfl, eff_at (eff_auto (X := ⟨_, true⟩) (out := .val _ _) hX rfl (ok_d (by have hz := wr_f (j := j) (rg := rg) ql qR qv; (try simp only [List.length_append, List.length_cons, List.length_nil]); omega) <| okE_nil)) rfl⟩, ⟨⟨_, _, _, _, 3, rfl, rfl, rfl, rfl, eff_at (eff_auto (X := ⟨_, true⟩) (out := .val _ _) hX rfl (ok_d (by have hz := wr_f (j := j) (rg := rg) ql qR qv; (try simp only [List.length_append, List.length_cons, List.length_nil]); omega) <| okE_nil)) rfl⟩, ⟨⟨_, _, _, _, 3, rfl, rfl, rfl, rfl, eff_at (eff_auto (X := ⟨_, true⟩) (out := .val _ _) hX rfl rfl) rfl⟩, ⟨⟨_, _, _, _, 3, rfl, rfl, rfl, rfl, eff_at (eff_auto (X := ⟨_, true⟩) (out := .val _ _) hX rfl (ok_d (by have hz := wr_f (j := j) (rg := rg) ql qR qv; (try simp only [List.length_append, List.length_cons, List.length_nil]); omega) <| okE_nil)) rfl⟩, ⟨⟨_, _, _, _, 3, rfl, rfl, rfl, rfl, eff_at (eff_auto (X := ⟨_, true⟩) (out := .val _ _) hX rfl (ok_d (by have hz := wr_f (j := j) (rg := rg) ql qR qv; (try simp only [List.length_append, List.length_cons, List.length_nil]); omega) <| okE_nil)) rfl⟩, ⟨⟨_, _, _, _, 5, rfl, rfl, rfl, rfl, new_at 5 (X := ⟨_, true⟩) hX rfl rfl (le0 h0 rfl) rfl rfl rfl rfl⟩, trivial⟩⟩⟩⟩⟩⟩⟩⟩⟩, ⟨⟨⟨_, _, _, _, 4, rfl, rfl, rfl, rfl, eff_at (eff_auto (X := ⟨_, true⟩) (out := .val _ _) hX rfl rfl) rfl⟩, ⟨⟨_, _, _, _, 4, rfl, rfl, rfl, rfl, eff_at (eff_auto (X := ⟨_, true⟩) (out := .val _ _) hX rfl (ok_d (by have hz := wr_f (j := j) (rg := rg) ql qR qv; (try simp only [List.length_append, List.length_cons, List.length_nil]); omega) <| okE_nil)) rfl⟩, ⟨⟨_, _, _, _, 4, rfl, rfl, rfl, rfl, eff_at (eff_auto (X := ⟨_, true⟩) (out := .val _ _) hX rfl (ok_d (by have hz := wr_f (j := j) (rg := rg) ql qR qv; (try simp only [List.length_append, List.length_cons, List.length_nil]); omega) <| okE_nil)) rfl⟩, ⟨⟨_, _, _, _, 5, rfl, rfl, rfl, rfl, eff_at (callE [4] (ap5_ ((l.getD ((((j : Nat) : Int) + 0).toNat) pz).1) ((l.getD ((((j : Nat) : Int) + 0).toNat) pz).2) (by have hz := wr_f (j := j) (rg := rg) ql qR qv; (try simp only [List.length_append, List.length_cons, List.length_nil]); omega)) rfl rfl rfl rfl rfl rfl rfl) rfl⟩, ⟨⟨_, _, _, _, 4, rfl, rfl, rfl, rfl, eff_at (eff_auto (X := ⟨_, true⟩) (out := .val _ _) hX rfl rfl) rfl⟩, ⟨⟨_, _, _, _, 4, rfl, rfl, rfl, rfl, eff_at (eff_auto (X := ⟨_, true⟩) (out := .val _ _) hX rfl (ok_d (by have hz := wr_f (j := j) (rg := rg) ql qR qv; (try simp only [List.length_append, List.length_cons, List.length_nil]); omega) <| okE_nil)) rfl⟩, ⟨⟨_, _, _, _, 4, rfl, rfl, rfl, rfl, eff_at (eff_auto (X := ⟨_, true⟩) (out := .val _ _) hX rfl (ok_d (by have hz := wr_f (j := j) (rg := rg) ql qR qv; (try simp only [List.length_append, List.length_cons, List.length_nil]); omega) <| okE_nil)) rfl⟩, trivial⟩⟩⟩⟩⟩⟩⟩, ⟨⟨⟨_, _, _, _, 5, rfl, rfl, rfl, rfl, eff_at (eff_auto (X := ⟨_, true⟩) (out := .val _ _) hX rfl rfl) rfl⟩, ⟨⟨_, _, _, _, 5, rfl, rfl, rfl, rfl, eff_at (eff_auto (X := ⟨_, true⟩) (out := .val _ _) hX rfl (ok_d (by have hz := wr_f (j := j) (rg := rg) ql qR qv; (try simp only [List.length_append, List.length_cons, List.length_nil]); omega) <| okE_nil)) rfl⟩, ⟨⟨_, _, _, _, 5, rfl, rfl, rfl, rfl, eff_at (eff_auto (X := ⟨_, true⟩) (out := .val _ _) hX rfl (ok_d (by have hz := wr_f (j := j) (rg := rg) ql qR qv; (try simp only [List.length_append, List.length_cons, List.length_nil]); omega) <| okE_nil)) rfl⟩, ⟨⟨_, _, _, _, 5, rfl, rfl, rfl, rfl, eff_at (eff_auto (X := ⟨_, true⟩) (out := .val _ _) hX rfl (ok_d (by have hz := wr_f (j := j) (rg := rg) ql qR qv; (try simp only [List.length_append, List.length_cons, List.length_nil]); omega) <| okE_nil)) rfl⟩, ⟨⟨_, _, _, _, 5, rfl, rfl, rfl, rfl, eff_at (eff_auto (X := ⟨_, true⟩) (out := .val _ _) hX rfl (ok_d (by have hz := wr_f (j := j) (rg := rg) ql qR qv; (try simp only [List.length_append, List.length_cons, List.length_nil]); omega) <| okE_nil)) rfl⟩, ⟨⟨_, _, _, _, 5, rfl, rfl, rfl, rfl, eff_at (eff_auto (X := ⟨_, true⟩) (out := .val _ _) hX rfl rfl) rfl⟩, ⟨⟨_, _, _, _, 5, rfl, rfl, rfl, rfl, eff_at (eff_auto (X := ⟨_, true⟩) (out := .val _ _) hX rfl (ok_d (by have hz := wr_f (j := j) (rg := rg) ql qR qv; (try simp only [List.length_append, List.length_cons, List.length_nil]); omega) <| okE_nil)) rfl⟩, ⟨⟨_, _, _, _, 5, rfl, rfl, rfl, rfl, eff_at (eff_auto (X := ⟨_, true⟩) (out := .val _ _) hX rfl (ok_d (by have hz := wr_f (j := j) (rg := rg) ql qR qv; (try simp only [List.length_append, List.length_cons, List.length_nil]); omega) <| okE_nil)) rfl⟩, ⟨⟨_, _, _, _, 6, rfl, rfl, rfl, rfl, eff_at (callE [5] (ap45_ ((l.getD ((((j : Nat) : Int) + 1).toNat) pz).1) ((l.getD ((((j : Nat) : Int) + 1).toNat) pz).2) (by have hz := wr_f (j := j) (rg := rg) ql qR qv; (try simp only [List.length_append, List.length_cons, List.length_nil]); omega)) rfl rfl rfl rfl rfl rfl rfl) rfl⟩, trivial⟩⟩⟩⟩⟩⟩⟩⟩⟩, ⟨⟨⟨_, _, _, _, 6, rfl, rfl, rfl, rfl, eff_at (eff_auto (X := ⟨_, true⟩) (out := .val _ _) hX rfl rfl) rfl⟩, ⟨⟨_, _, _, _, 6, rfl, rfl, rfl, rfl, eff_at (eff_auto (X := ⟨_, true⟩) (out := .val _ _) hX rfl (ok_d (by have hz := wr_f (j := j) (rg := rg) ql qR qv; (try simp only [List.length_append, List.length_cons, List.length_nil]); omega) <| okE_nil)) rfl⟩, ⟨⟨_, _, _, _, 6, rfl, rfl, rfl, rfl, eff_at (eff_auto (X := ⟨_, true⟩) (out := .val _ _) hX rfl (ok_d (by have hz := wr_f (j := j) (rg := rg) ql qR qv; (try simp only [List.length_append, List.length_cons, List.length_nil]); omega) <| okE_nil)) rfl⟩, ⟨⟨_, _, _, _, 6, rfl, rfl, rfl, rfl, eff_at (eff_auto (X := ⟨_, true⟩) (out := .val _ _) hX rfl (ok_d (by have hz := wr_f (j := j) (rg := rg) ql qR qv; (try simp only [List.length_append, List.length_cons, List.length_nil]); omega) <| okE_nil)) rfl⟩, ⟨⟨_, _, _, _, 6, rfl, rfl, rfl, rfl, eff_at (eff_auto (X := ⟨_, true⟩) (out := .val _ _) hX rfl (ok_d (by have hz := wr_f (j := j) (rg := rg) ql qR qv; (try simp only [List.length_append, List.length_cons, List.length_nil]); omega) <| okE_nil)) rfl⟩, ⟨⟨_, _, _, _, 6, rfl, rfl, rfl, rfl, eff_at (eff_auto (X := ⟨_, true⟩) (out := .val _ _) hX rfl rfl) rfl⟩, ⟨⟨_, _, _, _, 6, rfl, rfl, rfl, rfl, eff_at (eff_auto (X := ⟨_, true⟩) (out := .val _ _) hX rfl (ok_d (by have hz := wr_f (j := j) (rg := rg) ql qR qv; (try simp only [List.length_append, List.length_cons, List.length_nil]); omega) <| okE_nil)) rfl⟩, ⟨⟨_, _, _, _, 6, rfl, rfl, rfl, rfl, eff_at (eff_auto (X := ⟨_, true⟩) (out := .val _ _) hX rfl (ok_d (by have hz := wr_f (j := j) (rg := rg) ql qR qv; (try simp only [List.length_append, List.length_cons, List.length_nil]); omega) <| okE_nil)) rfl⟩, ⟨⟨_, _, _, _, 6, rfl, rfl, rfl, rfl, eff_at (eff_auto (X := ⟨_, true⟩) (out := .val _ _) hX rfl rfl) rfl⟩, trivial⟩⟩⟩⟩⟩⟩⟩⟩⟩, trivial⟩⟩⟩⟩⟩⟩⟩ fun A => N hX 2 A rfl rfl fun A => RETN hX A rfl rfl rfl h0 rfl rfl rfl rfl (by simp only [oneS, nb, nbL, nbH, wr0, if_neg (h1), if_neg (h2), if_neg (h3), if_pos h4]) rfl)
     (fun h4 A => N hX 5 A rfl rfl fun A => DRAWN hX hmo [] [(11, .str (apT [5] ((l.getD ((((j : Nat) : Int) + 1).toNat) pz).1) ((l.getD ((((j : Nat) : Int) + 1).toNat) pz).2)), [some (.row 9 1 R.length 8 (fun zz => [.str (R.getD zz [])])), some (.row 64 2 l.length 0 (fun zz => [.str (l.getD zz pz).1, .int .i64 (l.getD zz pz).2])), some (.fac b o), some (.blk [.int .i64 kd, .int .i64 th, .int .i64 rg, .int .i64 lc, .int .i64 vl]), some (.blk [.int .i64 5])])] A rfl (ok_d (by have hz := wr_f (j := j) (rg := rg) ql qR qv; (try simp only [List.length_append, List.length_cons, List.length_nil]); omega) <| ok_d (by have hz := wr_f (j := j) (rg := rg) ql qR qv; (try simp only [List.length_append, List.length_cons, List.length_nil]); omega) <| ok_d (by have hz := wr_f (j := j) (rg := rg) ql qR qv; (try simp only [List.length_append, List.length_cons, List.length_nil]); omega) <| ok_d (by have hz := wr_f (j := j) (rg := rg) ql qR qv; (try simp only [List.length_append, List.length_cons, List.length_nil]); omega) <| ok_d (by have hz := wr_f (j := j) (rg := rg) ql qR qv; (try simp only [List.length_append, List.length_cons, List.length_nil]); omega) <| ok_d (by have hz := wr_f (j := j) (rg := rg) ql qR qv; (try simp only [List.length_append, List.length_cons, List.length_nil]); omega) <| ok_d (by have hz := wr_f (j := j) (rg := rg) ql qR qv; (try simp only [List.length_append, List.length_cons, List.length_nil]); omega) <| ok_d (by have hz := wr_f (j := j) (rg := rg) ql qR qv; (try simp only [List.length_append, List.length_cons, List.length_nil]); omega) <| ok_d (by have hz := wr_f (j := j) (rg := rg) ql qR qv; (try simp only [List.length_append, List.length_cons, List.length_nil]); omega) <| ok_d (by have hz := wr_f (j := j) (rg := rg) ql qR qv; (try simp only [List.length_append, List.length_cons, List.length_nil]); omega) <| ok_d (by have hz := wr_f (j := j) (rg := rg) ql qR qv; (try simp only [List.length_append, List.length_cons, List.length_nil]); omega) <| ok_d (by have hz := wr_f (j := j) (rg := rg) ql qR qv; (try simp only [List.length_append, List.length_cons, List.length_nil]); omega) <| ok_d (by have hz := wr_f (j := j) (rg := rg) ql qR qv; (try simp only [List.length_append, List.length_cons, List.length_nil]); omega) <| ok_d (by have hz := wr_f (j := j) (rg := rg) ql qR qv; (try simp only [List.length_append, List.length_cons, List.length_nil]); omega) <| ok_d (by have hz := wr_f (j := j) (rg := rg) ql qR qv; (try simp only [List.length_append, List.length_cons, List.length_nil]); omega) <| ok_d (by have hz := wr_f (j := j) (rg := rg) ql qR qv; (try simp only [List.length_append, List.length_cons, List.length_nil]); omega) <| ok_d (by have hz := wr_f (j := j) (rg := rg) ql qR qv; (try simp only [List.length_append, List.length_cons, List.length_nil]); omega) <| ok_d (by have hz := wr_f (j := j) (rg := rg) ql qR qv; (try simp only [List.length_append, List.length_cons, List.length_nil]); omega) <| ok_d (by have hz := wr_f (j := j) (rg := rg) ql qR qv; (try simp only [List.length_append, List.length_cons, List.length_nil]); omega) <| ok_d (by have hz := wr_f (j := j) (rg := rg) ql qR qv; (try simp only [List.length_append, List.length_cons, List.length_nil]); omega) <| ok_d (by have hz := wr_f (j := j) (rg := rg) ql qR qv; (try simp only [List.length_append, List.length_cons, List.length_nil]); omega) <| ok_d (by have hz := wr_f (j := j) (rg := rg) ql qR qv; (try simp only [List.length_append, List.length_cons, List.length_nil]); omega) <| ok_d (by have hz := wr_f (j := j) (rg := rg) ql qR qv; (try simp only [List.length_append, List.length_cons, List.length_nil]); omega) <| ok_d (by have hz := wr_f (j := j) (rg := rg) ql qR qv; (try simp only [List.length_append, List.length_cons, List.length_nil]); omega) <| okE_nil) rfl rfl (by kernel_rfl) ⟨trivial, ⟨callE [4] (ap5_ ((l.getD ((((j : Nat) : Int) + 1).toNat) pz).1) ((l.getD ((((j : Nat) : Int) + 1).toNat) pz).2) (by have hz := wr_f (j := j) (rg := rg) ql qR qv; (try simp only [List.length_append, List.length_cons, List.length_nil]); omega)) rfl rfl rfl rfl rfl rfl rfl, trivial⟩⟩ trivial fun A => N hX 2 A rfl rfl fun A => RETN hX A rfl rfl rfl h0 rfl rfl rfl rfl (by simp only [oneS, nb, nbL, nbH, wr0, if_neg (h1), if_neg (h2), if_neg (h3), if_neg (h4)]) rfl))))
theorem pone_ (R : List (List UInt8)) (kd : Int) (th : Int) (rg : Int) (lc : Int) (vl : Int) (l : List Pc) (j : Nat) (k : Nat) (b : Nat) (o : Obj) (hT : ∀ w : World, w.heap[b]? = some o → Lib.TabIs Tryd.prog w "internal/strconv.uint64pow10" .u64 Lib.pow10Tab) (hk : j + k ≤ l.length) (q1 : kd = 1 → 0 ≤ th ∧ th < 3 ∧ 0 ≤ rg ∧ rg < 8) (q2 : kd = 2 → 0 ≤ lc ∧ lc < 3) (q3 : kd = 3 → 1 ≤ k) (q4 : kd ≠ 1 → kd ≠ 2 → kd ≠ 3 → 2 ≤ k) (qv : -9223372036854775808 ≤ vl ∧ vl ≤ 9223372036854775807) (ql : ∀ q, (l.getD q pz).1.length ≤ 1000000) (qR : ∀ q, (R.getD q []).length ≤ 100) (hR : 8 ≤ R.length) : Fn Tryd.prog 33 [.agg [.int .i64 kd, .int .i64 th, .int .i64 rg, .int .i64 lc, .int .i64 vl], .st 2 2 j k 0, .ptr 0 0] [some (.blk [.sl 1 R.length 8]), some (.row 9 1 R.length 8 (fun zz => [.str (R.getD zz [])])), some (.row 64 2 l.length 0 (fun zz => [.str (l.getD zz pz).1, .int .i64 (l.getD zz pz).2])), some (.fac b o)] (Rt (.agg [.str (wr0 R kd th rg lc vl l j k), .int .i64 kd]) [some (.blk [.sl 1 R.length 8]), some (.row 9 1 R.length 8 (fun zz => [.str (R.getD zz [])])), some (.row 64 2 l.length 0 (fun zz => [.str (l.getD zz pz).1, .int .i64 (l.getD zz pz).2])), some (.fac b o)]) :=
 enterM (n := 13) (by kernel_rfl) Tryd.func33 rfl rfl rfl fun G w a h0 A => N hX 7 A rfl rfl fun A => DRAWN hX hmo [] [(3, .str (wr0 R kd th rg lc vl l j k), [some (.blk [.sl 1 R.length 8]), some (.row 9 1 R.length 8 (fun zz => [.str (R.getD zz [])])), some (.row 64 2 l.length 0 (fun zz => [.str (l.getD zz pz).1, .int .i64 (l.getD zz pz).2])), some (.fac b o), some (.blk [.int .i64 kd, .int .i64 th, .int .i64 rg, .int .i64 lc, .int .i64 vl]), some (.blk [.str [], .int .i64 0])])] A rfl rfl rfl rfl (by kernel_rfl) ⟨callE [1, 2, 3] (wr_ R kd th rg lc vl l j k b o hT hk q1 q2 q3 q4 qv ql qR hR) rfl rfl rfl rfl rfl rfl rfl, ⟨trivial, trivial⟩⟩ trivial fun A => N hX 2 A rfl rfl fun A => RETN hX A rfl rfl rfl h0 rfl rfl rfl rfl rfl rfl
end Go.Proofs.YtfdfjakafiglmaaDoor
namespace Go.Proofs.YtfdfjakafiglmaaDoor
open Go.RowKit
set_option linter.unusedVariables false
set_option linter.unusedSimpArgs false
set_option linter.unusedSectionVars false
abbrev Amb := World → List Nat → Prop
def Amb.OK (I : Amb) : Prop := ∀ w ks w' ks', I w ks → Mix ks w w' → (∀ b, ks'.contains b = true → ks.contains b = true ∨ w.heap.size ≤ b) → I w' ks'
section
variable {P : Program} {X : Tx} {n : Nat} {ks : List Nat} {G0 : Gr} {w0 : World} {T : List (Nat × SV)} {H : Hp} {G : Gr} {a : Act} {w : World} {ops : Array Oper} {o : Oper} {rest : List Oper} {Q : Exit → Act → World → Prop} {K : List Fr} {I : Amb}
end
def LiesAt (ao : Option Addr) (ps : List Int) (w : World) (ks : List Nat) : Prop :=
  (ao = none ∧ ps = []) ∨ ∃ b, ao = some ⟨b, 0, none⟩ ∧ b < w.heap.size ∧ ks.contains b = false ∧ w.rangeAt b 0 (ps.map (Value.int .i64))
theorem LiesAt.go {ao : Option Addr} {ps : List Int} {w w' : World} {ks ks' : List Nat} (h : LiesAt ao ps w ks) (m : Mix ks w w') (hk : ∀ b, ks'.contains b = true → ks.contains b = true ∨ w.heap.size ≤ b) : LiesAt ao ps w' ks' := by
  rcases h with h | ⟨b, h1, h2, h3, h4⟩
  · exact .inl h
  · refine .inr ⟨b, h1, Nat.lt_of_lt_of_le h2 m.size, ?_, range_mix h4 m h2 h3⟩
    cases hc : ks'.contains b with
    | false => rfl
    | true =>
      rcases hk b hc with h5 | h5
      · rw [h5] at h3; cases h3
      · omega
section
variable {P : Program} {n : Nat} {ks : List Nat} {G0 : Gr} {w0 : World} {T : List (Nat × SV)} {H : Hp} {G : Gr} {a : Act} {w : World} {Q : Exit → Act → World → Prop} {K : List Fr} {pos : Pos}
end
def Lies (b o : Nat) (vs : List Value) (w : World) (ks : List Nat) : Prop := b < w.heap.size ∧ ks.contains b = false ∧ w.rangeAt b o vs
theorem Lies.go {b o : Nat} {vs : List Value} {w w' : World} {ks ks' : List Nat} (h : Lies b o vs w ks) (m : Mix ks w w') (hk : ∀ b, ks'.contains b = true → ks.contains b = true ∨ w.heap.size ≤ b) : Lies b o vs w' ks' := by
  obtain ⟨h1, h2, h3⟩ := h
  refine ⟨Nat.lt_of_lt_of_le h1 m.size, ?_, range_mix h3 m h1 h2⟩
  cases hc : ks'.contains b with
  | false => rfl
  | true =>
    rcases hk b hc with h5 | h5
    · rw [h5] at h2; cases h2
    · omega
section
variable {P : Program} {n : Nat} {ks : List Nat} {G0 : Gr} {w0 : World} {T : List (Nat × SV)} {H : Hp} {G : Gr} {a : Act} {w : World} {Q : Exit → Act → World → Prop} {K : List Fr} {pos : Pos} {ops : Array Oper} {o : Oper} {rest : List Oper}
end
section
variable {P : Program} {n : Nat} {ks : List Nat} {G0 : Gr} {w0 : World} {T : List (Nat × SV)} {H : Hp} {G : Gr} {a : Act} {w : World} {Q : Exit → Act → World → Prop} {K : List Fr} {pos : Pos} {ops : Array Oper} {o : Oper} {rest : List Oper}
end
def Gl (os : List (Nat × Obj)) : Amb := fun w ks => ∀ p ∈ os, w.heap[p.1]? = some p.2 ∧ ks.contains p.1 = false
theorem Gl.ok {os : List (Nat × Obj)} : Amb.OK (Gl os) := fun w ks w' ks' h m hk p hp => by
  obtain ⟨h1, h2⟩ := h p hp
  have hl : p.1 < w.heap.size := (Array.getElem?_eq_some_iff.1 h1).1
  refine ⟨by rw [m.block p.1 hl h2]; exact h1, ?_⟩
  cases hc : ks'.contains p.1 with
  | false => rfl
  | true =>
    rcases hk _ hc with h3 | h3
    · rw [h3] at h2; cases h2
    · omega
section
variable {P : Program} {n : Nat} {ks : List Nat} {G0 : Gr} {w0 : World} {I : Amb}
end
theorem LiesAt.ok {ao : Option Addr} {ps : List Int} : Amb.OK (LiesAt ao ps) := fun w ks w' ks' h m hk => h.go m hk
end Go.Proofs.YtfdfjakafiglmaaDoor
namespace Go.Proofs.YtfdfjakafiglmaaDoor
set_option linter.unusedVariables false

end Go.Proofs.YtfdfjakafiglmaaDoor
namespace Go.Proofs.YtfdfjakafiglmaaDoor
set_option linter.unusedVariables false
set_option linter.unusedSimpArgs false
open Go.RowKit
section
variable {P : Program} {ops : Array Oper} {a : Act} {w : World} {K : Value → World → Prop} {d : Option Tmp} {ty : TypeId} {pos : String} {af : Array Edge} {gd : Option (Nat × Bool)} {v : Value}
end
section
variable {P : Program} {w : World} {t : TypeId} {x y : Operand} {k : IntKind} {a b : Int}
end
end Go.Proofs.YtfdfjakafiglmaaDoor
namespace Go.Proofs.YtfdfjakafiglmaaDoor
open Go.RowKit
set_option linter.unusedVariables false
set_option linter.unusedSimpArgs false
set_option linter.unusedSectionVars false
section
variable {P : Program} {n : Nat} {ks : List Nat} {G0 : Gr} {w0 : World} {T : List (Nat × SV)} {H : Hp} {G : Gr} {w : World} {ops : Array Oper} {o : Oper}
end
section
variable {P : Program} {n : Nat} {ks : List Nat} {G0 : Gr} {w0 : World} {T : List (Nat × SV)} {H : Hp} {G : Gr} {a : Act} {w : World} {Q : Exit → Act → World → Prop} {K : List Fr} {ops : Array Oper} {o : Oper} {rest : List Oper} {I : Amb}
end
theorem flat_rep (n : Nat) : flatV (fun _ => [.str []]) n = some (List.replicate n (.string (S []))) := by
  induction n with
  | zero => rfl
  | succ n ih =>
    unfold flatV
    rw [ih]
    show some (List.replicate n (Value.string (S [])) ++ [Value.string (S [])]) = _
    rw [List.replicate_succ', ]
section
variable {P : Program} {n : Nat} {ks : List Nat} {G0 : Gr} {w0 : World} {T : List (Nat × SV)} {H : Hp} {ops : Array Oper} {o : Oper}
theorem mkE {x y : Operand} {t e m i : Nat} {ti : TypeInfo} (hg : guardS ops T o.guard = some .run) (hop : o.op = .makeSlice t x y) (hx : evS T x = some (.int .i64 ((m : Nat) : Int))) (hy : evS T y = some (.int .i64 ((m : Nat) : Int))) (ht : P.underlying t = some (.slice e)) (hti : P.info? e = some ti) (hz : ti.zero = some (.string (S []))) (hs : ti.size = 1) (hb : ti.bytes ≤ 1000) (hm : m ≤ 1000000) (hi : H.length = i) : EffOK P n ops ks G0 w0 T H o (.sl i m m) (H ++ [some (.row e 1 m m fun _ => [.str []])]) := fun G a w A => by
  have hw := gd_run (gd := none) A hg
  obtain ⟨d, op, ty, ps, af, gd⟩ := o
  simp only at hop
  subst hop
  subst hi
  have h1 := A.ev hx
  have h2 := A.ev hy
  simp only [den, Option.some.injEq] at h1 h2
  have hmul : ti.bytes * m ≤ 1000 * 1000000 := Nat.mul_le_mul hb hm
  obtain ⟨w', hr, ho, hgb⟩ := run_makeSlice_full (P := P) w 0 t e ti _ 1 ht hti hz hs .i64 .i64 m (by omega) (by omega) (by unfold maxLen; omega) (Nat.zero_le _)
  have hgr : Grow w w' := ⟨hgb.os, hgb.tape, hgb.output, hgb.size, fun k hk => hgb.block k hk (by simp)⟩
  refine does_val (v := .slice (some ⟨w.heap.size, 0, none⟩) m m) (w' := w') hw ?_ ⟨[some ⟨w.heap.size, [], [], e⟩], ?_, ?_⟩
  · unfold execOp
    simp only [h1.symm, h2.symm, Sem.run_bind, hr, Sem.run_pure, Result.andThen_ok]
  · unfold den
    rw [List.getElem?_append_right (by rw [A.mem.len]; exact Nat.le_refl _), A.mem.len]
    simp [rm]
  · refine (A.newBlk (g := w.heap.size) (t := e) (en := .row e 1 m m fun _ => [.str []]) rfl hgr ⟨fun k => ⟨_, rfl, rfl⟩, fun L hL => by cases hL; rfl, _, flat_rep m, ?_⟩ rfl).ms
    have hc : (madeCells (Value.cells (.string (S []))) (m * 1)).toList = List.replicate m (.string (S [])) := by
      unfold madeCells
      apply List.ext_getElem
      · simp
      · intro k h1 h2
        simp [Value.cells, Nat.mod_one]
    rw [hc] at ho
    simpa [rm] using ho
theorem mkE' {x y : Operand} {t e m i : Nat} (f : Nat → List SV) (hf : ∀ j, f j = [.str []]) (hg : guardS ops T o.guard = some .run) (hop : o.op = .makeSlice t x y) (hx : evS T x = some (.int .i64 ((m : Nat) : Int))) (hy : evS T y = some (.int .i64 ((m : Nat) : Int))) (ht : P.underlying t = some (.slice e)) (hst : ∃ ti, P.info? e = some ti ∧ ti.zero = some (.string (S [])) ∧ ti.size = 1 ∧ ti.bytes ≤ 1000) (hm : m ≤ 1000000) (hi : H.length = i) : EffOK P n ops ks G0 w0 T H o (.sl i m m) (H ++ [some (.row e 1 m m f)]) := by
  have : f = fun _ => [.str []] := funext hf
  subst this
  obtain ⟨ti, hti, hz, hs, hb⟩ := hst
  exact mkE hg hop hx hy ht hti hz hs hb hm hi
end
end Go.Proofs.YtfdfjakafiglmaaDoor
namespace Go.Proofs.YtfdfjakafiglmaaDoor
open Go.RowKit
set_option linter.unusedVariables false
set_option linter.unusedSimpArgs false
set_option maxRecDepth 100000
set_option maxHeartbeats 2000000
set_option simprocs false
def regnm0 (s0 : List UInt8) (s1 : List UInt8) (s2 : List UInt8) (s3 : List UInt8) (s4 : List UInt8) (s5 : List UInt8) (s6 : List UInt8) (s7 : List UInt8) (r : Int) : List UInt8 := if ((decide (r < 0)) || (decide (r ≥ 8))) = true then [] else [s0, s1, s2, s3, s4, s5, s6, s7].getD (r).toNat []
theorem regnm_ (s0 : List UInt8) (s1 : List UInt8) (s2 : List UInt8) (s3 : List UInt8) (s4 : List UInt8) (s5 : List UInt8) (s6 : List UInt8) (s7 : List UInt8) (r : Int)  : Fn Tryd.prog 60 [.agg [.str s0, .str s1, .str s2, .str s3, .str s4, .str s5, .str s6, .str s7], .int .i64 r] [] (Rt (.str (regnm0 s0 s1 s2 s3 s4 s5 s6 s7 r)) []) :=
 enterM (n := 14) (by kernel_rfl) Tryd.func60 rfl rfl rfl fun G w a h0 A => N hX 17 A rfl rfl fun A => fork 10 A rfl
  (fun h1 A => N hX 7 A rfl rfl fun A => RETN hX A rfl rfl rfl h0 rfl rfl rfl rfl (by simp only [oneS, nb, nbL, nbH, regnm0, if_pos h1]) rfl)
  (fun h1 A => N hX 12 A rfl (ok_d (by have hz := h1; simp only [Bool.or_eq_false_iff, decide_eq_false_iff_not] at hz; omega) <| ok_d (by have hz := h1; simp only [Bool.or_eq_false_iff, decide_eq_false_iff_not] at hz; omega) <| okE_nil) fun A => RETN hX A rfl rfl rfl h0 rfl rfl rfl rfl (by simp only [oneS, nb, nbL, nbH, regnm0, if_neg (ne_true_of_eq_false h1)]) rfl)
theorem xregs_   : Fn Tryd.prog 59 [] [] (Rt (.agg [.str [82, 65, 88], .str [82, 66, 88], .str [82, 67, 88], .str [82, 68, 88], .str [82, 83, 73], .str [82, 68, 73], .str [82, 56], .str [82, 57]]) []) :=
 enterM (n := 2) (by kernel_rfl) Tryd.func59 rfl rfl rfl fun G w a h0 A => N hX 12 A rfl rfl fun A => RETN hX A rfl rfl rfl h0 rfl rfl rfl rfl rfl rfl
theorem xnam_ (r : Int)  : Fn Tryd.prog 42 [.int .i64 r] [] (Rt (.str (regnm0 [82, 65, 88] [82, 66, 88] [82, 67, 88] [82, 68, 88] [82, 83, 73] [82, 68, 73] [82, 56] [82, 57] r)) []) :=
 enterM (n := 6) (by kernel_rfl) Tryd.func42 rfl rfl rfl fun G w a h0 A => N hX 7 A rfl rfl fun A => CALL1 [] (xregs_ ) A rfl rfl rfl rfl rfl rfl rfl fun A => N hX 1 A rfl rfl fun A => CALL1 [] (regnm_ [82, 65, 88] [82, 66, 88] [82, 67, 88] [82, 68, 88] [82, 83, 73] [82, 68, 73] [82, 56] [82, 57] r) A rfl rfl rfl rfl rfl rfl rfl fun A => N hX 4 A rfl rfl fun A => RETN hX A rfl rfl rfl h0 rfl rfl rfl rfl rfl rfl
def nfX (r : Int) : List UInt8 := regnm0 [82, 65, 88] [82, 66, 88] [82, 67, 88] [82, 68, 88] [82, 83, 73] [82, 68, 73] [82, 56] [82, 57] r
theorem xname_ (r : Int) : Fn Tryd.prog 42 [.int .i64 r] [] (Rt (.str (nfX r)) []) := xnam_ r
theorem nfX_len (x : Int) : (nfX x).length ≤ 20 := by
  unfold nfX regnm0; split
  · decide
  · next h =>
    have : x = 0 ∨ x = 1 ∨ x = 2 ∨ x = 3 ∨ x = 4 ∨ x = 5 ∨ x = 6 ∨ x = 7 := by revert h; simp only [Bool.or_eq_true, decide_eq_true_eq]; omega
    rcases this with e | e | e | e | e | e | e | e <;> subst e <;> decide
def rgA (nf : Int → List UInt8) (k j : Nat) : List UInt8 := if j < k then nf j else []
theorem rgA_ne {nf : Int → List UInt8} {k j : Nat} (h : j ≠ k) : rgA nf (k + 1) j = rgA nf k j := by
  unfold rgA
  by_cases hj : j < k
  · rw [if_pos hj, if_pos (by omega)]
  · rw [if_neg hj, if_neg (by omega)]
theorem rgA_at {nf : Int → List UInt8} {k : Nat} : rgA nf (k + 1) k = nf k := by unfold rgA; rw [if_pos (by omega)]
def rgL (nf : Int → List UInt8) : List (List UInt8) := [nf 0, nf 1, nf 2, nf 3, nf 4, nf 5, nf 6, nf 7]
theorem rgA_8 {nf : Int → List UInt8} (j : Nat) (h : j < 8) : (rgL nf).getD j [] = rgA nf 8 j := by
  have : j = 0 ∨ j = 1 ∨ j = 2 ∨ j = 3 ∨ j = 4 ∨ j = 5 ∨ j = 6 ∨ j = 7 := by omega
  rcases this with e | e | e | e | e | e | e | e <;> subst e <;> rfl
theorem strInfo : ∃ ti, Tryd.prog.info? 9 = some ti ∧ ti.zero = some (.string (S [])) ∧ ti.size = 1 ∧ ti.bytes ≤ 1000 := by
  have h : (Tryd.prog.info? 9).map (fun ti => (ti.zero, ti.size, ti.bytes)) = some (some (.string (S [])), 1, 16) := by kernel_rfl
  cases e : Tryd.prog.info? 9 with
  | none => rw [e] at h; cases h
  | some ti =>
    rw [e] at h
    simp only [Option.map_some, Option.some.injEq, Prod.mk.injEq] at h
    exact ⟨ti, rfl, h.1, h.2.1, by omega⟩
theorem regnX_   : Fn Tryd.prog 41 [.fn 42 []] [] (Rt (.sl 0 8 8) [some (.row 9 1 8 8 (fun zz => [.str ((rgL nfX).getD zz [])]))]) :=
 enterM (n := 19) (by kernel_rfl) Tryd.func41 rfl rfl rfl fun G w a h0 A => N hX 7 A rfl rfl fun A => q_eff A rfl (mkE' (m := 8) (fun j => [.str (rgA nfX 0 j)]) (fun j => by show [SV.str (rgA nfX 0 j)] = _; unfold rgA; rw [if_neg (by omega)]) rfl rfl rfl rfl (by kernel_rfl) strInfo (by omega) rfl) fun A => N hX 12 A rfl rfl fun A => LOOP1 (fun (k : Nat) => [(0, .fn 42 []), (2, .sla none 0 0), (3, .sl 0 8 8), (7, .int .i64 ((8 : Nat) : Int)), (8, .int .i64 (k : Int))]) (fun (k : Nat) => [some (.row 9 1 8 8 (fun j => [.str (rgA nfX k j)]))]) (fun (k : Nat) => k ≤ 8 ∧ True) (fun (k : Nat) => 8 - k) 0 ⟨by omega, trivial⟩ ((A.cut [0, 2, 3, 7, 8] rfl).trunc 1 rfl rfl rfl (by simp only [List.length_cons, List.length_nil] at h0; omega)) fun k hI {G a w} A => N hX 6 A rfl rfl fun A => forkD 9 A rfl
   (fun h1 A => N hX 16 A rfl rfl fun A => CALL1 [] (xname_ (k : Int)) A rfl rfl rfl rfl rfl rfl rfl fun A => N hX 1 A rfl (ok_d (by have := hI.1; omega) <| okE_nil) fun A => STR (i := 0) (e := 9) (s := 1) (m := 8) (c := 8) hX k (fun j => [.str (rgA nfX (k + 1) j)]) A rfl rfl (Int.toNat_natCast k) (by omega) (fun z hz => by show [SV.str _] = [SV.str _]; rw [rgA_ne hz]) (by show _ = some [SV.str _]; rw [rgA_at]; rfl) fun A => N hX 7 A rfl (ok_d (by have := hI.1; omega) <| okE_nil) fun A => ⟨k + 1, _, (by omega), ⟨by omega, trivial⟩, ((A.cut [0, 2, 3, 7, 8] rfl).trunc 1 rfl rfl rfl (by simp only [List.length_cons, List.length_nil] at h0; omega))⟩)
   (fun h1 A => N hX 10 A rfl rfl fun A => have A := A.rowAs 0 8 (fun zz => [.str ((rgL nfX).getD zz [])]) rfl rfl (fun j hj => by show [SV.str _] = [SV.str (rgA nfX k j)]; rw [show k = 8 by have := hI.1; omega, rgA_8 j hj]) (fun z => ⟨_, rfl, rfl⟩); RET hX [0] A ⟨rfl, rfl⟩ rfl rfl rfl rfl rfl rfl rfl rfl h0)
theorem regs1_   : Fn Tryd.prog 31 [.int .i64 1] [] (Rt (.sl 0 8 8) [some (.row 9 1 8 8 (fun zz => [.str ((rgL nfX).getD zz [])]))]) :=
 enterM (n := 13) (by kernel_rfl) Tryd.func31 rfl rfl rfl fun G w a h0 A => N hX 18 A rfl rfl fun A => forkE 4 A rfl
  (fun h1 A => N hX 3 A rfl rfl fun A => CALL1 [] regnX_ A rfl rfl rfl rfl rfl rfl rfl fun A => N hX 4 A rfl rfl fun A => RET hX [0] A ⟨rfl, rfl⟩ rfl rfl rfl rfl rfl rfl rfl rfl h0)
  (fun h1 A => absurd rfl h1)
def stepP (R : List (List UInt8)) (c : Cn) (l : List Pc) : List Pc := l.take (((l.length : Nat) : Int) - parts0 c.kd).toNat ++ [(wr0 R c.kd c.th c.rg c.lc c.vl l (((l.length : Nat) : Int) - parts0 c.kd).toNat (l.length - (((l.length : Nat) : Int) - parts0 c.kd).toNat), c.kd)]
def foldP (R : List (List UInt8)) (cs : List Cn) : List Pc := cs.foldl (fun l c => stepP R c l) []
structure FI (R : List (List UInt8)) (cs : List Cn) (l : List Pc) (i : Nat) : Prop where
  lb : ∃ lb, EI oz cs lb i ∧ lb.length = l.length
  eq : l = foldP R (cs.take i)
theorem stepP_len {R : List (List UInt8)} {c : Cn} {l : List Pc} (h : 0 ≤ parts0 c.kd) : (stepP R c l).length = (((l.length : Nat) : Int) - parts0 c.kd).toNat + 1 := by
  unfold stepP; rw [List.length_append, List.length_take, List.length_cons, List.length_nil]; omega
section
variable {R : List (List UInt8)} {L : List Cn} {n i : Nat} {l : List Pc}
theorem FI.i0 (hr : right (L.take n) = true) : FI R (L.take n) [] 0 := ⟨⟨[], EI.i0 hr, rfl⟩, by simp [foldP]⟩
theorem FI.kn (hI : FI R (L.take n) l i) (hn : n ≤ L.length) (h1 : (i : Int) < ((n : Nat) : Int)) : ¬ (L.getD ((i : Int)).toNat Cn.z).n < 0 ∧ (L.getD ((i : Int)).toNat Cn.z).n ≤ (l.length : Int) ∧ (L.getD ((i : Int)).toNat Cn.z).n = parts0 (L.getD ((i : Int)).toNat Cn.z).kd ∧ (((L.getD ((i : Int)).toNat Cn.z).kd = 1 ∧ (L.getD ((i : Int)).toNat Cn.z).n = 0 ∧ 0 ≤ (L.getD ((i : Int)).toNat Cn.z).th ∧ (L.getD ((i : Int)).toNat Cn.z).th < 3 ∧ 0 ≤ (L.getD ((i : Int)).toNat Cn.z).rg ∧ (L.getD ((i : Int)).toNat Cn.z).rg < 8) ∨ ((L.getD ((i : Int)).toNat Cn.z).kd = 2 ∧ (L.getD ((i : Int)).toNat Cn.z).n = 0 ∧ 0 ≤ (L.getD ((i : Int)).toNat Cn.z).lc ∧ (L.getD ((i : Int)).toNat Cn.z).lc < 3) ∨ ((L.getD ((i : Int)).toNat Cn.z).kd = 3 ∧ (L.getD ((i : Int)).toNat Cn.z).n = 1) ∨ ((L.getD ((i : Int)).toNat Cn.z).kd = 4 ∧ (L.getD ((i : Int)).toNat Cn.z).n = 2) ∨ ((L.getD ((i : Int)).toNat Cn.z).kd = 5 ∧ (L.getD ((i : Int)).toNat Cn.z).n = 2)) ∧ l.length ≤ i := by
  obtain ⟨lb, h2, h3⟩ := hI.lb
  have := h2.kn hn h1
  rw [h3] at this
  exact this
theorem FI.nx (hI : FI R (L.take n) l i) (hr : right (L.take n) = true) (hn : n ≤ L.length) (h1 : (i : Int) < ((n : Nat) : Int)) : FI R (L.take n) (stepP R (L.getD ((i : Int)).toNat Cn.z) l) (i + 1) := by
  obtain ⟨lb, h2, h3⟩ := hI.lb
  have k := h2.kn hn h1
  refine ⟨⟨_, h2.nx hr hn h1, ?_⟩, ?_⟩
  · rw [← fold_st (p := oz) (l := lb) k.1 k.2.1 k.2.2.1 rfl, stepP_len (by omega), List.length_append, List.length_take, List.length_cons, List.length_nil, h3]; omega
  · have hi : i < (L.take n).length := by simp; omega
    rw [List.take_succ_eq_append_getElem hi, foldP, List.foldl_append, ← foldP, ← hI.eq]
    have e : (L.take n)[i] = (L.getD ((i : Int)).toNat Cn.z) := by simp [List.getD, show i < L.length by omega]
    rw [e]; rfl
theorem FI.fi (hI : FI R (L.take n) l i) (hr : right (L.take n) = true) (hn : n ≤ L.length) (h1 : ¬ (i : Int) < ((n : Nat) : Int)) : l.length = 1 ∧ l = foldP R (L.take n) := by
  obtain ⟨lb, h2, h3⟩ := hI.lb
  have := h2.fi hr hn h1
  have he := hI.eq
  rw [List.take_of_length_le (by simp; omega)] at he
  exact ⟨by omega, he⟩
theorem FI.sm (hI : FI R (L.take n) l i) (hl : ∀ i q, ((foldP R ((L.take n).take i)).getD q pz).1.length ≤ 1000000) : ∀ q, (l.getD q pz).1.length ≤ 1000000 := fun q => by rw [hI.eq]; exact hl i q
theorem papp1 {k : Nat} {x : Pc} (h : k ≤ l.length) : (l.take k ++ [x]).getD k pz = x := by
  have := getD_app_1 (l := l.take k) (x := x) (d := pz)
  rw [List.length_take, Nat.min_eq_left h] at this; exact this
end
theorem foldp_ (R : List (List UInt8)) (L : List Cn) (n : Nat) (c : Nat) (b : Nat) (o : Obj) (hT : ∀ w : World, w.heap[b]? = some o → Lib.TabIs Tryd.prog w "internal/strconv.uint64pow10" .u64 Lib.pow10Tab) (hn : n ≤ L.length) (hN : n ≤ 1000000) (hr : right (L.take n) = true) (hv : ∀ q, -9223372036854775808 ≤ (L.getD q Cn.z).vl ∧ (L.getD q Cn.z).vl ≤ 9223372036854775807) (hl : ∀ i q, ((foldP R ((L.take n).take i)).getD q pz).1.length ≤ 1000000) (qR : ∀ q, (R.getD q []).length ≤ 100) (hR : 8 ≤ R.length) : Fn Tryd.prog 32 [.sl 0 n c, .fn 33 [.ptr 1 0]] [some (.lst 5 L.length (fun zz => cc (L.getD zz Cn.z))), some (.blk [.sl 2 R.length 8]), some (.row 9 1 R.length 8 (fun zz => [.str (R.getD zz [])])), some (.fac b o)] (Rt (.agg [.str (((foldP R (L.take n)).getD 0 pz).1), .int .i64 (((foldP R (L.take n)).getD 0 pz).2)]) [some (.lst 5 L.length (fun zz => cc (L.getD zz Cn.z))), some (.blk [.sl 2 R.length 8]), some (.row 9 1 R.length 8 (fun zz => [.str (R.getD zz [])])), some (.fac b o)]) :=
 enterM (n := 36) (by kernel_rfl) Tryd.func32 rfl rfl rfl fun G w a h0 A => N hX 19 A rfl rfl fun A => have A := A.nilRow 5 64 2 (fun zz => [.str (([] : List Pc).getD zz pz).1, .int .i64 (([] : List Pc).getD zz pz).2]) rfl (fun z => ⟨_, rfl, rfl⟩); LOOP2 (fun (l : List Pc) (i : Nat) => [(1, .fn 33 [.ptr 1 0]), (4, .ptr 4 0), (5, .sl 5 l.length 0), (9, .sl 0 n c), (10, .int .i64 ((n : Nat) : Int)), (11, .int .i64 (i : Int))]) (fun (l : List Pc) (i : Nat) => [some (.lst 5 L.length (fun zz => cc (L.getD zz Cn.z))), some (.blk [.sl 2 R.length 8]), some (.row 9 1 R.length 8 (fun zz => [.str (R.getD zz [])])), some (.fac b o), some (.blk [.str [], .int .i64 0]), some (.row 64 2 l.length 0 (fun zz => [.str (l.getD zz pz).1, .int .i64 (l.getD zz pz).2]))]) (fun (l : List Pc) (i : Nat) => FI R (L.take n) l i) (fun (l : List Pc) (i : Nat) => n - i) [] 0 (FI.i0 hr) ((A.cut [1, 4, 5, 9, 10, 11] rfl).trunc 6 rfl rfl rfl (by simp only [List.length_cons, List.length_nil] at h0; omega)) fun l i hI {G a w} A => N hX 6 A rfl rfl fun A => forkD 12 A rfl
   (fun h1 A => N hX 14 A rfl (ok_d (by have hq := hI.kn hn h1; omega) <| ok_d (by have hq := hI.kn hn h1; omega) <| okE_nil) fun A => N hX 5 A rfl rfl fun A => CALL1 [] (parts_ ((L.getD (((i : Int)).toNat) Cn.z).kd)) A rfl rfl rfl rfl rfl rfl rfl fun A => N hX 4 A rfl (ok_d (by have hq := hI.kn hn h1; omega) <| okE_nil) fun A => DRAWN hX hmo [] [(8, .agg [.str (wr0 R ((L.getD (((i : Int)).toNat) Cn.z).kd) ((L.getD (((i : Int)).toNat) Cn.z).th) ((L.getD (((i : Int)).toNat) Cn.z).rg) ((L.getD (((i : Int)).toNat) Cn.z).lc) ((L.getD (((i : Int)).toNat) Cn.z).vl) l ((((l.length : Nat) : Int) - (parts0 ((L.getD (((i : Int)).toNat) Cn.z).kd))).toNat) (l.length - (((l.length : Nat) : Int) - (parts0 ((L.getD (((i : Int)).toNat) Cn.z).kd))).toNat)), .int .i64 ((L.getD (((i : Int)).toNat) Cn.z).kd)], [some (.lst 5 L.length (fun zz => cc (L.getD zz Cn.z))), some (.blk [.sl 2 R.length 8]), some (.row 9 1 R.length 8 (fun zz => [.str (R.getD zz [])])), some (.fac b o), some (.blk [.str [], .int .i64 0]), some (.row 64 2 l.length 0 (fun zz => [.str (l.getD zz pz).1, .int .i64 (l.getD zz pz).2])), some (.blk [.int .i64 ((L.getD (((i : Int)).toNat) Cn.z).kd), .int .i64 ((L.getD (((i : Int)).toNat) Cn.z).th), .int .i64 ((L.getD (((i : Int)).toNat) Cn.z).rg), .int .i64 ((L.getD (((i : Int)).toNat) Cn.z).lc), .int .i64 ((L.getD (((i : Int)).toNat) Cn.z).vl)])]), (10, .sl 8 (((((l.length : Nat) : Int) - (parts0 ((L.getD (((i : Int)).toNat) Cn.z).kd))).toNat) + 1) 0, [some (.lst 5 L.length (fun zz => cc (L.getD zz Cn.z))), some (.blk [.sl 2 R.length 8]), some (.row 9 1 R.length 8 (fun zz => [.str (R.getD zz [])])), some (.fac b o), some (.blk [.str [], .int .i64 0]), none, some (.blk [.int .i64 ((L.getD (((i : Int)).toNat) Cn.z).kd), .int .i64 ((L.getD (((i : Int)).toNat) Cn.z).th), .int .i64 ((L.getD (((i : Int)).toNat) Cn.z).rg), .int .i64 ((L.getD (((i : Int)).toNat) Cn.z).lc), .int .i64 ((L.getD (((i : Int)).toNat) Cn.z).vl)]), some (.blk [.str (wr0 R ((L.getD (((i : Int)).toNat) Cn.z).kd) ((L.getD (((i : Int)).toNat) Cn.z).th) ((L.getD (((i : Int)).toNat) Cn.z).rg) ((L.getD (((i : Int)).toNat) Cn.z).lc) ((L.getD (((i : Int)).toNat) Cn.z).vl) l ((((l.length : Nat) : Int) - (parts0 ((L.getD (((i : Int)).toNat) Cn.z).kd))).toNat) (l.length - (((l.length : Nat) : Int) - (parts0 ((L.getD (((i : Int)).toNat) Cn.z).kd))).toNat)), .int .i64 ((L.getD (((i : Int)).toNat) Cn.z).kd)]), some (.row 64 2 (((((l.length : Nat) : Int) - (parts0 ((L.getD (((i : Int)).toNat) Cn.z).kd))).toNat) + 1) 0 (fun zz => [.str ((l.take ((((l.length : Nat) : Int) - (parts0 ((L.getD (((i : Int)).toNat) Cn.z).kd))).toNat) ++ [(wr0 R ((L.getD (((i : Int)).toNat) Cn.z).kd) ((L.getD (((i : Int)).toNat) Cn.z).th) ((L.getD (((i : Int)).toNat) Cn.z).rg) ((L.getD (((i : Int)).toNat) Cn.z).lc) ((L.getD (((i : Int)).toNat) Cn.z).vl) l ((((l.length : Nat) : Int) - (parts0 ((L.getD (((i : Int)).toNat) Cn.z).kd))).toNat) (l.length - (((l.length : Nat) : Int) - (parts0 ((L.getD (((i : Int)).toNat) Cn.z).kd))).toNat), (L.getD (((i : Int)).toNat) Cn.z).kd)]).getD zz pz).1, .int .i64 ((l.take ((((l.length : Nat) : Int) - (parts0 ((L.getD (((i : Int)).toNat) Cn.z).kd))).toNat) ++ [(wr0 R ((L.getD (((i : Int)).toNat) Cn.z).kd) ((L.getD (((i : Int)).toNat) Cn.z).th) ((L.getD (((i : Int)).toNat) Cn.z).rg) ((L.getD (((i : Int)).toNat) Cn.z).lc) ((L.getD (((i : Int)).toNat) Cn.z).vl) l ((((l.length : Nat) : Int) - (parts0 ((L.getD (((i : Int)).toNat) Cn.z).kd))).toNat) (l.length - (((l.length : Nat) : Int) - (parts0 ((L.getD (((i : Int)).toNat) Cn.z).kd))).toNat), (L.getD (((i : Int)).toNat) Cn.z).kd)]).getD zz pz).2]))])] A rfl (ok_d (by show 0 ≤ ((l.length : Nat) : Int) - (parts0 ((L.getD (((i : Int)).toNat) Cn.z).kd)) ∧ ((l.length : Nat) : Int) - (parts0 ((L.getD (((i : Int)).toNat) Cn.z).kd)) ≤ ((l.length : Nat) : Int); exact (by have hq := hI.kn hn h1; omega)) <| ok_d (by show 0 ≤ ((l.length : Nat) : Int) - (parts0 ((L.getD (((i : Int)).toNat) Cn.z).kd)) ∧ ((l.length : Nat) : Int) - (parts0 ((L.getD (((i : Int)).toNat) Cn.z).kd)) ≤ ((l.length : Nat) : Int); exact (by have hq := hI.kn hn h1; omega)) <| ok_d (by show 0 ≤ ((l.length : Nat) : Int) - (parts0 ((L.getD (((i : Int)).toNat) Cn.z).kd)) ∧ ((l.length : Nat) : Int) - (parts0 ((L.getD (((i : Int)).toNat) Cn.z).kd)) ≤ ((l.length : Nat) : Int); exact (by have hq := hI.kn hn h1; omega)) <| ok_d (by have hq := hI.kn hn h1; omega) <| okE_nil) rfl rfl (by kernel_rfl) ⟨callE [1, 2, 5, 3] (pone_ R ((L.getD (((i : Int)).toNat) Cn.z).kd) ((L.getD (((i : Int)).toNat) Cn.z).th) ((L.getD (((i : Int)).toNat) Cn.z).rg) ((L.getD (((i : Int)).toNat) Cn.z).lc) ((L.getD (((i : Int)).toNat) Cn.z).vl) l ((((l.length : Nat) : Int) - (parts0 ((L.getD (((i : Int)).toNat) Cn.z).kd))).toNat) (l.length - (((l.length : Nat) : Int) - (parts0 ((L.getD (((i : Int)).toNat) Cn.z).kd))).toNat) b o hT (by have hq := hI.kn hn h1; omega) (by have hq := hI.kn hn h1; omega) (by have hq := hI.kn hn h1; omega) (by have hq := hI.kn hn h1; omega) (by have hq := hI.kn hn h1; omega) (hv _) (hI.sm hl) qR hR) rfl rfl rfl rfl rfl rfl rfl, ⟨trivial, ⟨eff_shrink (e := 64) (s := 2) 5 ((((l.length : Nat) : Int) - (parts0 ((L.getD (((i : Int)).toNat) Cn.z).kd))).toNat) rfl (by have hq := hI.kn hn h1; omega) (appE (i := 5) (e := 64) (s := 2) hX (((((l.length : Nat) : Int) - (parts0 ((L.getD (((i : Int)).toNat) Cn.z).kd))).toNat) + 1) (fun zz => [.str ((l.take ((((l.length : Nat) : Int) - (parts0 ((L.getD (((i : Int)).toNat) Cn.z).kd))).toNat) ++ [(wr0 R ((L.getD (((i : Int)).toNat) Cn.z).kd) ((L.getD (((i : Int)).toNat) Cn.z).th) ((L.getD (((i : Int)).toNat) Cn.z).rg) ((L.getD (((i : Int)).toNat) Cn.z).lc) ((L.getD (((i : Int)).toNat) Cn.z).vl) l ((((l.length : Nat) : Int) - (parts0 ((L.getD (((i : Int)).toNat) Cn.z).kd))).toNat) (l.length - (((l.length : Nat) : Int) - (parts0 ((L.getD (((i : Int)).toNat) Cn.z).kd))).toNat), (L.getD (((i : Int)).toNat) Cn.z).kd)]).getD zz pz).1, .int .i64 ((l.take ((((l.length : Nat) : Int) - (parts0 ((L.getD (((i : Int)).toNat) Cn.z).kd))).toNat) ++ [(wr0 R ((L.getD (((i : Int)).toNat) Cn.z).kd) ((L.getD (((i : Int)).toNat) Cn.z).th) ((L.getD (((i : Int)).toNat) Cn.z).rg) ((L.getD (((i : Int)).toNat) Cn.z).lc) ((L.getD (((i : Int)).toNat) Cn.z).vl) l ((((l.length : Nat) : Int) - (parts0 ((L.getD (((i : Int)).toNat) Cn.z).kd))).toNat) (l.length - (((l.length : Nat) : Int) - (parts0 ((L.getD (((i : Int)).toNat) Cn.z).kd))).toNat), (L.getD (((i : Int)).toNat) Cn.z).kd)]).getD zz pz).2]) rfl rfl rfl rfl (by have hq := hI.kn hn h1; omega) rfl (fun q hq => by show [SV.str _, SV.int _ _] = [SV.str _, SV.int _ _]; rw [getD_app_l (by rw [List.length_take]; have hq := hI.kn hn h1; omega), getD_take hq]) (by show [SV.str _, SV.int _ _] = _; rw [papp1 (by have hq := hI.kn hn h1; omega)]) (fun z => ⟨_, rfl, rfl⟩)), trivial⟩⟩⟩ trivial fun A => N hX 6 A rfl (ok_d (by have hq := hI.kn hn h1; omega) <| okE_nil) fun A => ⟨stepP R (L.getD ((i : Int)).toNat Cn.z) l, i + 1, _, (by omega), (hI.nx hr hn h1), ((((A.rowAs 8 (stepP R (L.getD ((i : Int)).toNat Cn.z) l).length (fun zz => [.str ((stepP R (L.getD ((i : Int)).toNat Cn.z) l).getD zz pz).1, .int .i64 ((stepP R (L.getD ((i : Int)).toNat Cn.z) l).getD zz pz).2]) rfl (stepP_len (R := R) (c := (L.getD ((i : Int)).toNat Cn.z)) (l := l) (by have hq := hI.kn hn h1; omega)) (fun q hq => rfl) (fun z => ⟨_, rfl, rfl⟩)).say 5 (.sl 8 (stepP R (L.getD ((i : Int)).toNat Cn.z) l).length 0) rfl (by rw [(stepP_len (R := R) (c := (L.getD ((i : Int)).toNat Cn.z)) (l := l) (by have hq := hI.kn hn h1; omega))])).cut [1, 4, 5, 9, 10, 11] rfl).mv 4 [4, 8] rfl rfl rfl rfl (by simp only [List.length_cons, List.length_nil] at h0; omega))⟩)
   (fun h1 A => N hX 12 A rfl (ok_d (by have hq := (hI.fi hr hn h1).1; omega) <| ok_d (by have hq := (hI.fi hr hn h1).1; omega) <| okE_nil) fun A => RETN hX A rfl rfl rfl h0 rfl rfl rfl rfl (by rw [← (hI.fi hr hn h1).2]; rfl) rfl)
theorem rgL_len {nf : Int → List UInt8} (h : ∀ x, (nf x).length ≤ 20) (q : Nat) : ((rgL nf).getD q []).length ≤ 100 := by
  by_cases hq : q < 8
  · have : q = 0 ∨ q = 1 ∨ q = 2 ∨ q = 3 ∨ q = 4 ∨ q = 5 ∨ q = 6 ∨ q = 7 := by omega
    rcases this with e | e | e | e | e | e | e | e <;> subst e <;> exact Nat.le_trans (h _) (by decide)
  · rw [List.getD_eq_getElem?_getD, List.getElem?_eq_none (by show 8 ≤ q; omega)]; decide
theorem print1_ (L : List Cn) (n : Nat) (c : Nat) (b : Nat) (o : Obj) (hT : ∀ w : World, w.heap[b]? = some o → Lib.TabIs Tryd.prog w "internal/strconv.uint64pow10" .u64 Lib.pow10Tab) (hn : n ≤ L.length) (hN : n ≤ 1000000) (hr : right (L.take n) = true) (hv : ∀ q, -9223372036854775808 ≤ (L.getD q Cn.z).vl ∧ (L.getD q Cn.z).vl ≤ 9223372036854775807) (hl : ∀ i q, ((foldP (rgL nfX) ((L.take n).take i)).getD q pz).1.length ≤ 1000000) : Fn Tryd.prog 20 [.int .i64 1, .sl 0 n c] [some (.lst 5 L.length (fun zz => cc (L.getD zz Cn.z))), some (.fac b o)] (Rt (.tup [.str (((foldP (rgL nfX) (L.take n)).getD 0 pz).1), .int .i64 0]) [some (.lst 5 L.length (fun zz => cc (L.getD zz Cn.z))), some (.fac b o)]) :=
 enterM (n := 20) (by kernel_rfl) Tryd.func20 rfl rfl rfl fun G w a h0 A => N hX 9 A rfl rfl fun A => CALL1 [] regs1_ A rfl rfl rfl rfl rfl rfl rfl fun A => N hX 8 A rfl rfl fun A => NILR hX A rfl rfl (by omega) fun A => N hX 9 A rfl rfl fun A => CALL1 [0] (pright_ L n c hn) A rfl rfl rfl rfl rfl rfl rfl fun A => N hX 3 A rfl rfl fun A => fork 14 A rfl
  (fun h1 A => absurd h1 (by rw [hr]; decide))
  (fun h1 A => N hX 7 A rfl rfl fun A => CALL1 [0, 3, 2, 1] (foldp_ (rgL nfX) L n c b o hT hn hN hr hv hl (rgL_len nfX_len) (by decide)) A rfl rfl rfl rfl rfl rfl rfl fun A => N hX 13 A rfl rfl fun A => RETN hX A rfl rfl rfl h0 rfl rfl rfl rfl rfl rfl)
theorem fn_asX {P : Program} {f : Nat} {az : List SV} {H H2 : Hp} {x y : SV} (h : Fn P f az H (Rt x H2)) (e : ∀ G, den G x = den G y) : Fn P f az H (Rt y H2) :=
  ⟨h.1, fun G w vs hM hv => Calls.mono (h.2 G w vs hM hv) fun e' w' ⟨x', H', F, v, ⟨q1, q2⟩, r⟩ => by subst q1; subst q2; exact ⟨y, _, F, v, ⟨rfl, rfl⟩, by rw [← e]; exact r.1, r.2⟩⟩
def aC : Cn := ⟨2, 0, 0, 0, 1⟩
def nC : Cn := ⟨3, 0, 0, 0, 0⟩
def oA : O := fun k => if k = 24 then 1 else 0
theorem tyC : (∀ x, (cc x).length = 5) ∧ (∀ x, inL 0 (cc x) = true) ∧ (∀ x, ∃ vs, denL [] (cc x) = some vs) := ⟨fun _ => rfl, fun _ => rfl, fun _ => ⟨_, rfl⟩⟩
theorem tyO : (∀ x, (oc x).length = 27) ∧ (∀ x, inL 0 (oc x) = true) ∧ (∀ x, ∃ vs, denL [] (oc x) = some vs) := ⟨fun _ => rfl, fun _ => rfl, fun _ => ⟨_, rfl⟩⟩
theorem itoa1 : Lib.itoa 1 = [49] := by unfold Lib.itoa; rw [if_neg (by decide)]; show Lib.decDigits 1 = _; unfold Lib.decDigits; rfl
theorem fp0 (R : List (List UInt8)) : foldP R [] = [] := rfl
theorem fp1 (R : List (List UInt8)) : foldP R [aC] = [([120, 61, 49], 2)] := by
  show stepP R aC [] = _
  have : wr0 R aC.kd aC.th aC.rg aC.lc aC.vl [] 0 0 = [120, 61] ++ Lib.itoa 1 := rfl
  show [] ++ [(wr0 R aC.kd aC.th aC.rg aC.lc aC.vl [] 0 0, 2)] = _
  rw [this, itoa1]; rfl
theorem fp2 (R : List (List UInt8)) : foldP R [aC, nC] = [([126, 120, 61, 49], 3)] := by
  have : foldP R [aC, nC] = stepP R nC (foldP R [aC]) := rfl
  rw [this, fp1]; rfl
theorem fpl (R : List (List UInt8)) : ∀ i q, ((foldP R (([aC, nC].take 2).take i)).getD q pz).1.length ≤ 1000000 := by
  intro i q
  have hi : ([aC, nC].take 2).take i = [] ∨ ([aC, nC].take 2).take i = [aC] ∨ ([aC, nC].take 2).take i = [aC, nC] := by
    rcases i with _ | _ | i
    · exact .inl rfl
    · exact .inr (.inl rfl)
    · exact .inr (.inr (List.take_of_length_le (by simp)))
  rcases hi with h | h | h <;> rw [h]
  · rw [fp0]; show (pz.1).length ≤ _; decide
  · rw [fp1]; rcases q with _ | q
    · decide
    · show (pz.1).length ≤ _; decide
  · rw [fp2]; rcases q with _ | q
    · decide
    · show (pz.1).length ≤ _; decide
theorem vA : ∀ q, -9223372036854775808 ≤ ([aC, nC].getD q Cn.z).vl ∧ ([aC, nC].getD q Cn.z).vl ≤ 9223372036854775807 := fun q => by
  rcases q with _ | _ | q
  · decide
  · decide
  · show -9223372036854775808 ≤ Cn.z.vl ∧ Cn.z.vl ≤ 9223372036854775807; decide
theorem printA_ (b : Nat) (o : Obj) (hT : ∀ w : World, w.heap[b]? = some o → Lib.TabIs Tryd.prog w "internal/strconv.uint64pow10" .u64 Lib.pow10Tab) : Fn Tryd.prog 20 [.int .i64 1, .sl 0 2 2] [some (.lst 5 ([aC, nC].length) (fun zz => cc ([aC, nC].getD zz Cn.z))), some (.fac b o)] (Rt (.tup [.str [126, 120, 61, 49], .int .i64 0]) [some (.lst 5 ([aC, nC].length) (fun zz => cc ([aC, nC].getD zz Cn.z))), some (.fac b o)]) :=
  fn_asX (print1_ [aC, nC] 2 2 b o hT (by decide) (by decide) rfl vA (fpl _)) fun _ => by rw [show ([aC, nC] : List Cn).take 2 = [aC, nC] from rfl, fp2]; rfl
theorem canA : ∀ y ∈ [oz, oA], Can y := fun y hy => by
  rcases List.mem_cons.1 hy with rfl | hy
  · intro k hk; rfl
  · rcases List.mem_cons.1 hy with rfl | hy
    · intro k hk; exact if_neg (by omega)
    · cases hy
theorem judgeA_ : Fn Tryd.prog 18 [.int .i64 1, .sl 0 1 1, .sl 1 2 2] [some (.lst 5 ([aC].length) (fun zz => cc ([aC].getD zz Cn.z))), some (.lst 27 ([oz, oA].length) (fun zz => oc ([oz, oA].getD zz oz)))] (Rt (.tup [.agg [.tt, .tt, .int .i64 0, .int .i64 0, .int .i64 0, .int .i64 0, .int .i64 0, .int .i64 0, .int .i64 0, .int .i64 0, .int .i64 0, .int .i64 0, .int .i64 0, .int .i64 0, .int .i64 0, .int .i64 0, .int .i64 0, .int .i64 0, .int .i64 0, .int .i64 0, .int .i64 0, .int .i64 0, .int .i64 0, .int .i64 0, .int .i64 0, .int .i64 0, .int .i64 1, .int .i64 0, .int .i64 0, .int .i64 2], .int .i64 0]) [some (.lst 5 ([aC].length) (fun zz => cc ([aC].getD zz Cn.z))), some (.lst 27 ([oz, oA].length) (fun zz => oc ([oz, oA].getD zz oz)))]) :=
  fn_asX (pjudge_ 1 [aC] 1 1 [oz, oA] 2 (by decide) (by decide) (by decide) canA) fun _ => rfl
theorem rightA_ : Fn Tryd.prog 9 [.sl 0 1 1] [some (.lst 5 ([aC].length) (fun zz => cc ([aC].getD zz Cn.z)))] (Rt .tt [some (.lst 5 ([aC].length) (fun zz => cc ([aC].getD zz Cn.z)))]) := fn_asX (pright_ [aC] 1 1 (by decide)) fun _ => rfl
theorem able_ (b : Nat) (o : Obj) (hT : ∀ w : World, w.heap[b]? = some o → Lib.TabIs Tryd.prog w "internal/strconv.uint64pow10" .u64 Lib.pow10Tab) : Fn Tryd.prog 8 [] [some (.fac b o)] (Rt (.tt) [some (.fac b o)]) :=
 enterM (n := 55) (by kernel_rfl) Tryd.func8 rfl rfl rfl fun G w a h0 A => N hX 17 A rfl rfl fun A => have A := A.asT Cn.z cc 5 tyC.1 tyC.2.1 tyC.2.2 [aC, nC] 2 rfl; CALL1 [2, 0] (printA_ b o hT) A rfl rfl rfl rfl rfl rfl rfl fun A => N hX 15 A rfl rfl fun A => have A := A.asT Cn.z cc 5 tyC.1 tyC.2.1 tyC.2.2 [aC] 3 rfl; have A := A.asT oz oc 27 tyO.1 tyO.2.1 tyO.2.2 [oz, oA] 4 rfl; CALL1 [3, 4] judgeA_ A rfl rfl rfl rfl rfl rfl rfl fun A => N hX 13 A rfl rfl fun A => forkE 26 A rfl
  (fun h1 A => N hX 4 A rfl rfl fun A => forkE 30 A rfl
   (fun h2 A => N hX 4 A rfl rfl fun A => forkE 34 A rfl
    (fun h3 A => N hX 9 A rfl rfl fun A => forkE 43 A rfl
     (fun h4 A => N hX 7 A rfl (ok_d (by omega) <| ok_d (by omega) <| okE_nil) fun A => forkE 50 A rfl
      (fun h5 A => N hX 2 A rfl rfl fun A => have A := A.asT Cn.z cc 5 tyC.1 tyC.2.1 tyC.2.2 [aC] 6 rfl; CALL1 [6] rightA_ A rfl rfl rfl rfl rfl rfl rfl fun A => N hX 5 A rfl rfl fun A => RETN hX A rfl rfl rfl h0 rfl rfl rfl rfl rfl rfl)
      (fun h5 A => absurd rfl h5))
     (fun h4 A => absurd rfl h4))
    (fun h3 A => absurd rfl h3))
   (fun h2 A => absurd rfl h2))
  (fun h1 A => absurd rfl h1)
theorem pjudgeF_ (qu : Int) (cs : List Cn) (c : Nat) (os : List O) (c2 : Nat) (hN : cs.length ≤ 1000000) (hs : os.length ≤ 1000000) (ho : ∀ y ∈ os, Can y) : Fn Tryd.prog 18 [.int .i64 qu, .sl 0 cs.length c, .sl 1 os.length c2] [some (.lst 5 cs.length (fun zz => cc (cs.getD zz Cn.z))), some (.lst 27 os.length (fun zz => oc (os.getD zz oz)))] (Rt (.tup [.agg [.bool (jH qu cs os), .bool (jW qu cs os), .int .i64 ((jO qu cs os) 0), .int .i64 ((jO qu cs os) 1), .int .i64 ((jO qu cs os) 2), .int .i64 ((jO qu cs os) 3), .int .i64 ((jO qu cs os) 4), .int .i64 ((jO qu cs os) 5), .int .i64 ((jO qu cs os) 6), .int .i64 ((jO qu cs os) 7), .int .i64 ((jO qu cs os) 8), .int .i64 ((jO qu cs os) 9), .int .i64 ((jO qu cs os) 10), .int .i64 ((jO qu cs os) 11), .int .i64 ((jO qu cs os) 12), .int .i64 ((jO qu cs os) 13), .int .i64 ((jO qu cs os) 14), .int .i64 ((jO qu cs os) 15), .int .i64 ((jO qu cs os) 16), .int .i64 ((jO qu cs os) 17), .int .i64 ((jO qu cs os) 18), .int .i64 ((jO qu cs os) 19), .int .i64 ((jO qu cs os) 20), .int .i64 ((jO qu cs os) 21), .int .i64 ((jO qu cs os) 22), .int .i64 ((jO qu cs os) 23), .int .i64 ((jO qu cs os) 24), .int .i64 ((jO qu cs os) 25), .int .i64 ((jO qu cs os) 26), .int .i64 (jN qu cs os)], .int .i64 (jE qu cs)]) [some (.lst 5 cs.length (fun zz => cc (cs.getD zz Cn.z))), some (.lst 27 os.length (fun zz => oc (os.getD zz oz)))]) :=
  fn_asX (pjudge_ qu cs cs.length c os c2 (Nat.le_refl _) hN hs ho) fun _ => by rw [List.take_length]
theorem judges_ (qu : Int) (cs : List Cn) (c : Nat) (os : List O) (c2 : Nat) (b : Nat) (o : Obj) (hT : ∀ w : World, w.heap[b]? = some o → Lib.TabIs Tryd.prog w "internal/strconv.uint64pow10" .u64 Lib.pow10Tab) (ho : ∀ y ∈ os, Can y) : Fn Tryd.prog 5 [.int .i64 qu, .sl 0 cs.length c, .sl 1 os.length c2] [some (.lst 5 cs.length (fun zz => cc (cs.getD zz Cn.z))), some (.lst 27 os.length (fun zz => oc (os.getD zz oz))), some (.fac b o)] (Rt (.tt) [some (.lst 5 cs.length (fun zz => cc (cs.getD zz Cn.z))), some (.lst 27 os.length (fun zz => oc (os.getD zz oz))), some (.fac b o)]) :=
 enterM (n := 47) (by kernel_rfl) Tryd.func5 rfl rfl rfl fun G w a h0 A => N hX 8 A rfl rfl fun A => CALL1 [2] (able_ b o hT) A rfl rfl rfl rfl rfl rfl rfl fun A => N hX 19 A rfl rfl fun A => fork 20 A rfl
  (fun h1 A => N hX 7 A rfl rfl fun A => RETN hX A rfl rfl rfl h0 rfl rfl rfl rfl rfl rfl)
  (fun h1 A => N hX 8 A rfl rfl fun A => APPL hX (cs.length) (fun zz => cc (cs.getD zz Cn.z)) A rfl rfl rfl rfl (Nat.le_refl _) (by simp only [Bool.or_eq_false_iff, decide_eq_false_iff_not] at h1; omega) (by simp only [Bool.or_eq_false_iff, decide_eq_false_iff_not] at h1; omega) (by rw [Nat.zero_add]) (fun k hk => by omega) (fun k hk => by show cc _ = cc _; rw [Nat.zero_add]) (fun z => ⟨_, rfl, rfl⟩) (fun k hk => ⟨_, rfl, okE_nil⟩) fun A => N hX 2 A rfl rfl fun A => APPL hX (os.length) (fun zz => oc (os.getD zz oz)) A rfl rfl rfl rfl (Nat.le_refl _) (by simp only [Bool.or_eq_false_iff, decide_eq_false_iff_not] at h1; omega) (by simp only [Bool.or_eq_false_iff, decide_eq_false_iff_not] at h1; omega) (by rw [Nat.zero_add]) (fun k hk => by omega) (fun k hk => by show oc _ = oc _; rw [Nat.zero_add]) (fun z => ⟨_, rfl, rfl⟩) (fun k hk => ⟨_, rfl, okE_nil⟩) fun A => have A := A.freeze 4 rfl; have A := A.freeze 6 rfl; CALL1 [4, 6] (pjudgeF_ qu cs 0 os 0 (by simp only [Bool.or_eq_false_iff, decide_eq_false_iff_not] at h1; omega) (by simp only [Bool.or_eq_false_iff, decide_eq_false_iff_not] at h1; omega) ho) A rfl rfl rfl rfl rfl rfl rfl fun A => N hX 13 A rfl rfl fun A => CALL1 [0, 1] (rjudge_ qu cs os c c2 (by simp only [Bool.or_eq_false_iff, decide_eq_false_iff_not] at h1; omega) (by simp only [Bool.or_eq_false_iff, decide_eq_false_iff_not] at h1; omega)) A rfl rfl rfl rfl rfl rfl rfl fun A => N hX 22 A rfl rfl fun A => RETN hX A rfl rfl rfl h0 rfl rfl rfl rfl (by simp only [beq_self_eq_true, Bool.and_self]; rfl) rfl)
end Go.Proofs.YtfdfjakafiglmaaDoor
namespace Go.Proofs.YtfdfjakafiglmaaDoor
open Go.RowKit
set_option linter.unusedVariables false
set_option linter.unusedSimpArgs false
theorem mem_ro {H : Hp} {G : Gr} {w : World} (hl : H.length = G.length) (h : ∀ (i : Nat) (e : Ent), H[i]? = some (some e) → e.mut = false ∧ EntOK G w ((G[i]?).getD none) e) : Mem H G w :=
  ⟨hl, fun i e he => (h i e he).2, fun i j e f L M _ he _ hm => by rw [(h i e he).1] at hm; cases hm⟩
theorem lst_of {α : Type} {enc : α → List Value} {f : Nat → List SV} {s B n cap : Nat} {w : World} {l : List α} {bo : Option (Nat × Nat)} (h : Sl enc s B w (.slice (bo.map fun x => ⟨x.1, x.2, none⟩) n cap) l) (hB : B ≤ w.heap.size)
    (hf : ∀ k x, l[k]? = some x → denL [] (f k) = some (enc x)) (htot : ∀ k, ∃ vs, denL [] (f k) = some vs) :
    n = l.length ∧ ∀ (G F : Gr), den (G ++ (bo.map fun x => (⟨x.1, List.replicate x.2 undef, [], 0⟩ : Loc)) :: F) (.sl G.length l.length cap) = some (.slice (bo.map fun x => ⟨x.1, x.2, none⟩) n cap) ∧ EntOK (G ++ (bo.map fun x => (⟨x.1, List.replicate x.2 undef, [], 0⟩ : Loc)) :: F) w (bo.map fun x => (⟨x.1, List.replicate x.2 undef, [], 0⟩ : Loc)) (.lst s l.length f) := by
  obtain ⟨ao, cap', hv, hlc, he⟩ := h
  simp only [Value.slice.injEq] at hv
  obtain ⟨rfl, rfl, rfl⟩ := hv
  refine ⟨rfl, fun G F => ⟨?_, htot, ?_⟩⟩
  · unfold den
    rw [List.getElem?_append_right (Nat.le_refl _)]
    cases bo <;> simp [rm]
  · cases bo with
    | none =>
      left
      cases l with
      | nil => rfl
      | cons x l => obtain ⟨b, o, h1, _⟩ := he 0 x rfl; cases h1
    | some x =>
      obtain ⟨b, o⟩ := x
      cases hl : l with
      | nil => left; rfl
      | cons y l' =>
        right
        have hb : b < B := by
          obtain ⟨b', o', h1, h2, _⟩ := he 0 y (by rw [hl]; rfl)
          cases h1; exact h2
        refine ⟨_, rfl, (by show b < _; omega), fun k hk => ?_⟩
        have hk' : k < l.length := by rw [hl]; exact hk
        obtain ⟨b', o', h1, h2, h3⟩ := he k l[k] (by simp [hk'])
        cases h1
        exact ⟨_, hf k l[k] (by simp [hk']), by simpa using h3⟩
theorem post_ro {x : SV} {H H2 : Hp} {G : Gr} {w w' : World} {e : Ending} (h : Post (Rt x H2) H G w e w') (hro : ∀ (i : Nat) (e : Ent), H[i]? = some (some e) → e.mut = false) : ∃ v F, den (G ++ F) x = some v ∧ e = .returned v ∧ Mem H2 (G ++ F) w' ∧ Grow w w' := by
  obtain ⟨y, H', F, v, ⟨rfl, rfl⟩, h1, h2, h3, hmix, _⟩ := h
  have hk : ∀ k, (keys H G).contains k = false := fun k => by
    cases hc : (keys H G).contains k with
    | false => rfl
    | true =>
      obtain ⟨i, e', L, q1, q2, _⟩ := mem_keys.1 hc
      rw [hro i e' q1] at q2; cases q2
  exact ⟨v, F, h1, h2, h3, ⟨hmix.os, hmix.tape, hmix.output, hmix.size, fun k hk' => hmix.block k hk' (hk k)⟩⟩
end Go.Proofs.YtfdfjakafiglmaaDoor
namespace Go.Proofs.YtfdfjakafiglmaaDoor
set_option linter.unusedSimpArgs false
set_option linter.unusedVariables false
set_option maxRecDepth 100000
open Go.ChangeShapes Go.WideShapes Go.ChangeAt Go.RowKit Go.Deep
section
variable {H : Type} {enc : TypeId × Value → H} {W : World} {base : Nat} {spare : Nat → Bool} {held : Bool} {base' : Nat}
theorem open_list {α : Type} [Inhabited α] {en : α → List Value} {Q : α → Prop} {t e s : Nat} {v : Value} {d : DataW H} {ps : List MemPlace} (ht : Tryd.prog.underlying t = some (.slice e)) (hc : Tryd.prog.cellsOf e = s) (h0 : 0 < s)
    (hel : ∀ cs n x, DataW.trod enc Tryd.prog W base' spare held n e cs = some x → cs.length = s → ∃ y : α, cs = en y ∧ Q y)
    (hv : Value.okWide Tryd.prog W .any base t v) (h : DataW.Trod enc Tryd.prog W base' spare held t v d ps) :
    ∃ (ao : Option Addr) (l : List α) (cap : Nat), v = .slice ao l.length cap ∧ l.length ≤ maxLen ∧ Sl en s W.heap.size W v l ∧ ∀ y ∈ l, Q y := by
  obtain ⟨a0, len0, cap0, rfl⟩ := okWide_slice ht hv
  obtain ⟨fuel, hf⟩ := h
  rcases open_slice ht hf with ⟨hcs, _⟩ | ⟨a, len, cap, m, n, D, Pl, hcs, hb, hl, hm, hmm, _, hx⟩
  · simp [Value.cells] at hcs
    obtain ⟨rfl, rfl, rfl⟩ := hcs
    exact ⟨none, [], 0, rfl, by simp, Sl.nil, fun y hy => by cases hy⟩
  · simp [Value.cells] at hcs
    obtain ⟨rfl, rfl, rfl⟩ := hcs
    have hlm : len0 ≤ m := by rw [hmm]; split <;> omega
    rw [hc] at hx
    obtain ⟨Y, hY⟩ := choose_lt (α := α) (n := len0) (p := fun i y => Q y ∧ (en y).length = s ∧ ∀ k, k < s → W.cell? ((a.add (i * s)).add k) = (en y)[k]?) (fun i hi => by
      obtain ⟨cs', h1, h2⟩ := hx i (by omega)
      obtain ⟨_, hlen, hcell⟩ := World.cells?_some h1
      obtain ⟨y, rfl, hq⟩ := hel cs' n _ h2 hlen
      exact ⟨y, hq, hlen, hcell⟩)
    have hlen : ((List.range len0).map Y).length = len0 := by simp
    refine ⟨some a, (List.range len0).map Y, cap0, by rw [hlen], by rw [hlen]; omega, ⟨some a, cap0, by rw [hlen], by rw [hlen]; exact hl, fun j x hj => ?_⟩, fun y hy => ?_⟩
    · have hjl : j < len0 := by have := (List.getElem?_eq_some_iff.1 hj).1; simpa using this
      have hxe : x = Y j := by simp [hjl] at hj; exact hj.symm
      subst hxe
      obtain ⟨_, hyl, hcell⟩ := hY j hjl
      obtain ⟨b, o, spot⟩ := a
      obtain ⟨_, hy0, hcell0⟩ := hY 0 (by omega)
      have h00 := hcell0 0 h0
      rw [List.getElem?_eq_getElem (by omega)] at h00
      have hspot : spot = none := by simpa [Addr.add] using World.cell?_spot h00
      subst hspot
      refine ⟨b, o, rfl, ?_, fun k u hu => ?_⟩
      · have := World.block_lt_of_cell? W _ h00
        rw [Addr.add_mid, Addr.add_mid] at this
        exact this
      · have hk : k < s := by have := (List.getElem?_eq_some_iff.1 hu).1; omega
        have := hcell k hk
        rw [hu, Addr.add_mid, Addr.add_mid] at this
        exact this
    · obtain ⟨i, hi, rfl⟩ := List.mem_map.1 hy
      exact (hY i (by simpa using hi)).1
theorem slice_bo {t e n cap : Nat} {ao : Option Addr} (ht : Tryd.prog.underlying t = some (.slice e)) (hv : Value.okWide Tryd.prog W .any base t (.slice ao n cap)) : ∃ bo : Option (Nat × Nat), ao = bo.map fun x => ⟨x.1, x.2, none⟩ := by
  cases ao with
  | none => exact ⟨none, rfl⟩
  | some a =>
    unfold Value.okWide at hv
    rw [ht] at hv
    simp only [Cell.okWide, ht, Cell.ok] at hv
    obtain ⟨b, o, s⟩ := a
    have : s = none := hv.2.2.2.1
    subst this
    exact ⟨some (b, o), rfl⟩
def AI (enc : TypeId × Value → H) (W : World) (base' : Nat) (spare : Nat → Bool) (held : Bool) (t s : Nat) : Prop := Tryd.prog.cellsOf t = s ∧ ∀ (cs : List Value) (n : Nat) (x : DataW H × List MemPlace), DataW.trod enc Tryd.prog W base' spare held n t cs = some x → ∀ k, k < s → ∃ m : Int, cs[k]? = some (.int .i64 m) ∧ -9223372036854775808 ≤ m ∧ m ≤ 9223372036854775807
theorem wf_rng {n : Int} (h : (Lit.int .i64 n).wf = true) : -9223372036854775808 ≤ n ∧ n ≤ 9223372036854775807 := by
  have h' : (decide ((IntKind.i64).min ≤ n) && decide (n ≤ (IntKind.i64).max)) = true := h
  rw [Bool.and_eq_true, decide_eq_true_eq, decide_eq_true_eq, show (IntKind.i64).min = -9223372036854775808 from rfl, show (IntKind.i64).max = 9223372036854775807 from rfl] at h'
  exact h'
theorem AI.int : AI enc W base' spare held 3 1 := ⟨by kernel_rfl, fun cs n x h k hk => by
  obtain ⟨m, h2, _, h3⟩ := DataW.trod_int Tryd.underlying3 h
  obtain rfl : k = 0 := by omega
  exact ⟨m, by rw [h2]; rfl, wf_rng h3⟩⟩
theorem sub_at {cs : List Value} {o s j : Nat} (hj : j < s) : ((cs.drop o).take s)[j]? = cs[o + j]? := by
  rw [List.getElem?_take_of_lt hj, List.getElem?_drop]
theorem AI.arr {t n e s : Nat} (ht : Tryd.prog.underlying t = some (.array n e)) (hc : Tryd.prog.cellsOf t = n * s) (h0 : 0 < s) (he : AI enc W base' spare held e s) : AI enc W base' spare held t (n * s) := ⟨hc, fun cs f x h k hk => by
  obtain ⟨xs, m, _, _, _, hxl, hx⟩ := DataW.trod_array ht h
  have hi : k / s < n := (Nat.div_lt_iff_lt_mul h0).2 hk
  have h1 := hx (k / s) hi
  rw [he.1, List.getElem?_eq_getElem (by omega)] at h1
  obtain ⟨z, h2, h3⟩ := he.2 _ _ _ h1 (k % s) (Nat.mod_lt _ h0)
  rw [sub_at (Nat.mod_lt _ h0)] at h2
  have e : k / s * s + k % s = k := by rw [Nat.mul_comm]; exact Nat.div_add_mod k s
  rw [e] at h2
  exact ⟨z, h2, h3⟩⟩
def fldAt (P : Program) (t i : Nat) : Option (Nat × Nat) := match P.underlying t with | some (.struct fs) => (fs[i]?).map fun f => (f.offset, f.type) | _ => none
theorem AI.str {t s : Nat} {fs : Array Field} (hu : Tryd.prog.underlying t = some (.struct fs)) (hc : Tryd.prog.cellsOf t = s) (hf : ∀ k, k < s → ∃ i o u z, fldAt Tryd.prog t i = some (o, u) ∧ AI enc W base' spare held u z ∧ o ≤ k ∧ k < o + z) : AI enc W base' spare held t s := ⟨hc, fun cs n x h k hk => by
  obtain ⟨i, o, u, z, h1, h2, h3, h4⟩ := hf k hk
  obtain ⟨xs, m, _, _, _, hxl, hx⟩ := DataW.trod_struct hu h
  unfold fldAt at h1
  rw [hu] at h1
  obtain ⟨f, hf1, hf2⟩ := Option.map_eq_some_iff.1 h1
  cases hf2
  have h5 := hx i f hf1
  have hil := (Array.getElem?_eq_some_iff.1 hf1).1
  rw [h2.1, List.getElem?_eq_getElem (by omega)] at h5
  obtain ⟨q, h6, h7⟩ := h2.2 _ _ _ h5 (k - f.offset) (by omega)
  rw [sub_at (by omega), show f.offset + (k - f.offset) = k by omega] at h6
  exact ⟨q, h6, h7⟩⟩
def isStr (P : Program) (t : Nat) : Bool := match P.underlying t with | some (.struct _) => true | _ => false
theorem str_of {t : Nat} (h : isStr Tryd.prog t = true) : ∃ fs, Tryd.prog.underlying t = some (.struct fs) := by
  unfold isStr at h
  split at h
  · next fs he => exact ⟨fs, he⟩
  · cases h
theorem AI.cond : AI enc W base' spare held 30 5 := by
  obtain ⟨fs, hu⟩ := str_of (t := 30) (by kernel_rfl)
  refine AI.str hu (by kernel_rfl) fun k hk => ?_
  have : k = 0 ∨ k = 1 ∨ k = 2 ∨ k = 3 ∨ k = 4 := by omega
  rcases this with rfl | rfl | rfl | rfl | rfl
  · exact ⟨0, 0, 3, 1, by kernel_rfl, AI.int, by omega, by omega⟩
  · exact ⟨1, 1, 3, 1, by kernel_rfl, AI.int, by omega, by omega⟩
  · exact ⟨2, 2, 3, 1, by kernel_rfl, AI.int, by omega, by omega⟩
  · exact ⟨3, 3, 3, 1, by kernel_rfl, AI.int, by omega, by omega⟩
  · exact ⟨4, 4, 3, 1, by kernel_rfl, AI.int, by omega, by omega⟩
theorem AI.out : AI enc W base' spare held 26 27 := by
  obtain ⟨fs, hu⟩ := str_of (t := 26) (by kernel_rfl)
  refine AI.str hu (by kernel_rfl) fun k hk => ?_
  by_cases h : k < 24
  · exact ⟨0, 0, 23, 3 * 8, by kernel_rfl, AI.arr (n := 3) (e := 22) (s := 8) (by kernel_rfl) (by kernel_rfl) (by omega) (AI.arr (n := 8) (e := 3) (s := 1) (by kernel_rfl) (by kernel_rfl) (by omega) AI.int), by omega, by omega⟩
  · exact ⟨1, 24, 24, 3 * 1, by kernel_rfl, AI.arr (n := 3) (e := 3) (s := 1) (by kernel_rfl) (by kernel_rfl) (by omega) AI.int, by omega, by omega⟩
def ccV (c : Cn) : List Value := [.int .i64 c.kd, .int .i64 c.th, .int .i64 c.rg, .int .i64 c.lc, .int .i64 c.vl]
def ocV (p : O) : List Value := (List.range 27).map fun k => .int .i64 (p k)
def wfC (c : Cn) : Prop := -9223372036854775808 ≤ c.vl ∧ c.vl ≤ 9223372036854775807
instance : Inhabited Cn := ⟨Cn.z⟩
theorem open_cnL (cs : List Value) (n : Nat) (x : DataW H × List MemPlace) (h : DataW.trod enc Tryd.prog W base' spare held n 30 cs = some x) (hl : cs.length = 5) : ∃ y : Cn, cs = ccV y ∧ wfC y := by
  have A := AI.cond.2 cs n x h
  obtain ⟨a, ha, _⟩ := A 0 (by omega)
  obtain ⟨b, hb, _⟩ := A 1 (by omega)
  obtain ⟨c, hc, _⟩ := A 2 (by omega)
  obtain ⟨d, hd, _⟩ := A 3 (by omega)
  obtain ⟨e, he, h5⟩ := A 4 (by omega)
  refine ⟨⟨a, b, c, d, e⟩, ?_, h5⟩
  match cs, hl, ha, hb, hc, hd, he with
  | [u0, u1, u2, u3, u4], _, ha, hb, hc, hd, he => simp at ha hb hc hd he; subst ha hb hc hd he; rfl
theorem out_of {cs : List Value} (hl : cs.length = 27) (A : ∀ k, k < 27 → ∃ m : Int, cs[k]? = some (.int .i64 m) ∧ -9223372036854775808 ≤ m ∧ m ≤ 9223372036854775807) : ∃ y : O, cs = ocV y ∧ Can y := by
  obtain ⟨f, hf⟩ := choose_lt (α := Int) (n := 27) (p := fun k m => cs[k]? = some (.int .i64 m)) fun k hk => by obtain ⟨m, h, _⟩ := A k hk; exact ⟨m, h⟩
  refine ⟨fun k => if k < 27 then f k else 0, ?_, fun k hk => if_neg (by omega)⟩
  apply List.ext_getElem?
  intro k
  by_cases hk : k < 27
  · rw [hf k hk, ocV, List.getElem?_map, List.getElem?_range hk]; simp [hk]
  · rw [List.getElem?_eq_none (by omega), List.getElem?_eq_none (by simp [ocV]; omega)]
theorem open_ocL (cs : List Value) (n : Nat) (x : DataW H × List MemPlace) (h : DataW.trod enc Tryd.prog W base' spare held n 26 cs = some x) (hl : cs.length = 27) : ∃ y : O, cs = ocV y ∧ Can y := out_of hl (AI.out.2 cs n x h)
theorem open_conds {v : Value} {d : DataW H} {ps : List MemPlace} (hv : Value.okWide Tryd.prog W .any base 27 v) (h : DataW.Trod enc Tryd.prog W base' spare held 27 v d ps) :
    ∃ (bo : Option (Nat × Nat)) (l : List Cn) (cap : Nat), v = .slice (bo.map fun x => ⟨x.1, x.2, none⟩) l.length cap ∧ Sl ccV 5 W.heap.size W v l ∧ ∀ y ∈ l, wfC y := by
  obtain ⟨ao, l, cap, rfl, _, hs, hq⟩ := open_list (t := 27) (e := 30) (s := 5) (by kernel_rfl) (by kernel_rfl) (by omega) open_cnL hv h
  obtain ⟨bo, rfl⟩ := slice_bo (t := 27) (e := 30) (by kernel_rfl) hv
  exact ⟨bo, l, cap, rfl, hs, hq⟩
theorem open_outs {v : Value} {d : DataW H} {ps : List MemPlace} (hv : Value.okWide Tryd.prog W .any base 36 v) (h : DataW.Trod enc Tryd.prog W base' spare held 36 v d ps) :
    ∃ (bo : Option (Nat × Nat)) (l : List O) (cap : Nat), v = .slice (bo.map fun x => ⟨x.1, x.2, none⟩) l.length cap ∧ Sl ocV 27 W.heap.size W v l ∧ ∀ y ∈ l, Can y := by
  obtain ⟨ao, l, cap, rfl, _, hs, hq⟩ := open_list (t := 36) (e := 26) (s := 27) (by kernel_rfl) (by kernel_rfl) (by omega) open_ocL hv h
  obtain ⟨bo, rfl⟩ := slice_bo (t := 36) (e := 26) (by kernel_rfl) hv
  exact ⟨bo, l, cap, rfl, hs, hq⟩
end
theorem tab_fac {W : World} (h : Lib.TabIs Tryd.prog W "internal/strconv.uint64pow10" .u64 Lib.pow10Tab) : ∃ o, W.heap[0]? = some o ∧ ∀ w : World, w.heap[0]? = some o → Lib.TabIs Tryd.prog w "internal/strconv.uint64pow10" .u64 Lib.pow10Tab := by
  have hg : Tryd.prog.globalNamed "internal/strconv.uint64pow10" = some 0 := by kernel_rfl
  cases ho : W.heap[0]? with
  | none => unfold Lib.TabIs World.var? at h; rw [hg] at h; simp [ho] at h
  | some o =>
    refine ⟨o, rfl, fun w hw => ?_⟩
    unfold Lib.TabIs World.var? at h ⊢
    rw [hg] at h ⊢
    simp only [Option.bind_some, ho, hw] at h ⊢
    exact h
theorem lstC_of {bo : Option (Nat × Nat)} {n cap : Nat} {w : World} {l : List Cn} (h : Sl ccV 5 w.heap.size w (.slice (bo.map fun x => ⟨x.1, x.2, none⟩) n cap) l) : n = l.length ∧ ∀ (G F : Gr), den (G ++ (bo.map fun x => (⟨x.1, List.replicate x.2 undef, [], 0⟩ : Loc)) :: F) (.sl G.length l.length cap) = some (.slice (bo.map fun x => ⟨x.1, x.2, none⟩) n cap) ∧ EntOK (G ++ (bo.map fun x => (⟨x.1, List.replicate x.2 undef, [], 0⟩ : Loc)) :: F) w (bo.map fun x => (⟨x.1, List.replicate x.2 undef, [], 0⟩ : Loc)) (.lst 5 l.length (fun zz => cc (l.getD zz Cn.z))) := lst_of (f := fun zz => cc (l.getD zz Cn.z)) h (Nat.le_refl _) (fun k x hx => by show denL [] (cc (l.getD k Cn.z)) = _; rw [List.getD_eq_getElem?_getD, hx]; rfl) (fun k => ⟨_, rfl⟩)
theorem lstO_of {bo : Option (Nat × Nat)} {n cap : Nat} {w : World} {l : List O} (h : Sl ocV 27 w.heap.size w (.slice (bo.map fun x => ⟨x.1, x.2, none⟩) n cap) l) : n = l.length ∧ ∀ (G F : Gr), den (G ++ (bo.map fun x => (⟨x.1, List.replicate x.2 undef, [], 0⟩ : Loc)) :: F) (.sl G.length l.length cap) = some (.slice (bo.map fun x => ⟨x.1, x.2, none⟩) n cap) ∧ EntOK (G ++ (bo.map fun x => (⟨x.1, List.replicate x.2 undef, [], 0⟩ : Loc)) :: F) w (bo.map fun x => (⟨x.1, List.replicate x.2 undef, [], 0⟩ : Loc)) (.lst 27 l.length (fun zz => oc (l.getD zz oz))) := lst_of (f := fun zz => oc (l.getD zz oz)) h (Nat.le_refl _) (fun k x hx => by show denL [] (oc (l.getD k oz)) = _; rw [List.getD_eq_getElem?_getD, hx]; rfl) (fun k => ⟨_, rfl⟩)
end Go.Proofs.YtfdfjakafiglmaaDoor
