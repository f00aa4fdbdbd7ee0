/- The reference of chapter 8: a verdict. -/
import Derived.Test.YtbghlhhoafkmgaaDoorCondJudgesP4
import Derived.Shelf.Strconv.Itoa3
import Derived.Test.YtbghlhhoafkmgaaDoorProg
import Derived.Lib.ItoaLen
import Derived.WalkSmall
import Derived.ProofKit
import Derived.OpenShut
import Derived.ChangeOld
import Derived.Deep.Slices
import Derived.Lib.LaidTab
namespace Go.Proofs.YtbghlhhoafkmgaaDoor
open Go.RowKit
set_option linter.unusedVariables false
set_option linter.unusedSimpArgs false
set_option maxRecDepth 100000
set_option maxHeartbeats 2000000
set_option simprocs false
theorem jwt {b c : Bool} (h : (b && (!c)) = true) : c = false := by rw [Bool.and_eq_true] at h; cases c <;> simp at h ⊢
theorem ins_len (l : List O) (x : O) : (insO l x).length ≤ l.length + 1 := by unfold insO putO; split <;> simp <;> omega
theorem fold_len : ∀ (os l : List O), (os.foldl insO l).length ≤ l.length + os.length
  | [], l => by simp
  | x :: os, l => by have h1 := fold_len os (insO l x); have h2 := ins_len l x; simp only [List.foldl_cons, List.length_cons]; omega
theorem sort_len (os : List O) : (sortO os).length ≤ os.length := by have := fold_len os []; simpa [sortO] using this
def jF (qu : Int) (cs : List Cn) (l : List O) : Option O := l.find? fun p => evalB p cs == (!(qu == 3))
structure JI (qu : Int) (cs : List Cn) (os : List O) (i : Nat) (wt : Bool) (o : O) : Prop where
  le : i ≤ (sortO os).length
  eq : (wt = false ∧ o = oz ∧ jF qu cs (sortO os) = jF qu cs ((sortO os).drop i)) ∨ (wt = true ∧ jF qu cs (sortO os) = some o)
section
variable {qu : Int} {cs : List Cn} {os : List O} {i : Nat} {wt : Bool} {o : O}
theorem JI.init : JI qu cs os 0 false oz := ⟨Nat.zero_le _, .inl ⟨rfl, rfl, by simp⟩⟩
theorem JI.at (hI : JI qu cs os i wt o) (h3 : (decide ((i : Int) < ((((sortO os).length : Nat)) : Int)) && (!wt)) = true) : wt = false ∧ o = oz ∧ jF qu cs (sortO os) = if (evalB ((sortO os).getD ((i : Int)).toNat oz) cs == (!(qu == 3))) = true then some ((sortO os).getD ((i : Int)).toNat oz) else jF qu cs ((sortO os).drop (i + 1)) := by
  have hw := jwt h3
  have hl := jlt h3
  rcases hI.eq with ⟨h1, h2, h4⟩ | ⟨h1, _⟩
  · have hi : i < (sortO os).length := by omega
    have e : (sortO os).drop i = (sortO os)[i] :: (sortO os).drop (i + 1) := List.drop_eq_getElem_cons hi
    have hg : ((sortO os).getD ((i : Int)).toNat oz) = (sortO os)[i] := by simp [List.getD, hi]
    refine ⟨hw, h2, ?_⟩
    rw [h4, e, hg, jF, List.find?_cons]
    cases hb : (evalB (sortO os)[i] cs == (!(qu == 3))) <;> rfl
  · rw [hw] at h1; cases h1
theorem JI.yes (hI : JI qu cs os i wt o) (h3 : (decide ((i : Int) < ((((sortO os).length : Nat)) : Int)) && (!wt)) = true) (h4 : evalB ((sortO os).getD ((i : Int)).toNat oz) cs = (!(qu == 3))) : JI qu cs os (i + 1) true ((sortO os).getD ((i : Int)).toNat oz) :=
  ⟨by have := jlt h3; omega, .inr ⟨rfl, by rw [(hI.at h3).2.2, if_pos (by rw [h4]; simp)]⟩⟩
theorem JI.no (hI : JI qu cs os i wt o) (h3 : (decide ((i : Int) < ((((sortO os).length : Nat)) : Int)) && (!wt)) = true) (h4 : evalB ((sortO os).getD ((i : Int)).toNat oz) cs ≠ (!(qu == 3))) : JI qu cs os (i + 1) wt o :=
  ⟨by have := jlt h3; omega, .inl ⟨(hI.at h3).1, (hI.at h3).2.1, by rw [(hI.at h3).2.2, if_neg (by simpa using h4)]⟩⟩
theorem JI.done (hI : JI qu cs os i wt o) (h3 : (decide ((i : Int) < ((((sortO os).length : Nat)) : Int)) && (!wt)) = false) : (jF qu cs (sortO os)).isSome = wt ∧ (jF qu cs (sortO os)).getD oz = o := by
  rcases hI.eq with ⟨h1, h2, h4⟩ | ⟨h1, h4⟩
  · have hi : ¬ (i : Int) < (((sortO os).length : Nat) : Int) := fun h => by rw [h1, decide_eq_true h] at h3; cases h3
    rw [h4, List.drop_eq_nil_of_le (by omega), h1, h2]; exact ⟨rfl, rfl⟩
  · rw [h4, h1]; exact ⟨rfl, rfl⟩
end
def jOK (qu : Int) (cs : List Cn) : Bool := !((decide (qu < 1)) || (decide (qu > 3))) && right cs
def jE (qu : Int) (cs : List Cn) : Int := if ((decide (qu < 1)) || (decide (qu > 3))) = true then 1 else if right cs = true then 0 else 22
def jW (qu : Int) (cs : List Cn) (os : List O) : Bool := jOK qu cs && (jF qu cs (sortO os)).isSome
def jO (qu : Int) (cs : List Cn) (os : List O) : O := if jOK qu cs = true then (jF qu cs (sortO os)).getD oz else oz
def jH (qu : Int) (cs : List Cn) (os : List O) : Bool := jOK qu cs && (jW qu cs os == (qu == 1))
def jN (qu : Int) (cs : List Cn) (os : List O) : Int := if jOK qu cs = true then (((sortO os).length : Nat) : Int) else 0
theorem j_not {qu : Int} {cs : List Cn} {os : List O} (h : jOK qu cs = false) : jW qu cs os = false ∧ jO qu cs os = oz ∧ jH qu cs os = false ∧ jN qu cs os = 0 := by
  unfold jH jW jO jN; rw [h]; exact ⟨rfl, rfl, rfl, rfl⟩
theorem j0 {qu : Int} {cs : List Cn} {os : List O} (h1 : ((decide (qu < 1)) || (decide (qu > 3))) = true) : jE qu cs = 1 ∧ jW qu cs os = false ∧ jO qu cs os = oz ∧ jH qu cs os = false ∧ jN qu cs os = 0 := by
  refine ⟨by unfold jE; rw [if_pos h1], j_not ?_⟩
  unfold jOK; rw [h1]; rfl
theorem j1 {qu : Int} {cs : List Cn} {os : List O} (h1 : ((decide (qu < 1)) || (decide (qu > 3))) = false) (h2 : (!(right cs)) = true) : jE qu cs = 22 ∧ jW qu cs os = false ∧ jO qu cs os = oz ∧ jH qu cs os = false ∧ jN qu cs os = 0 := by
  have h3 : right cs = false := by cases h : right cs <;> simp [h] at h2 ⊢
  refine ⟨by unfold jE; rw [if_neg (by rw [h1]; simp), if_neg (by rw [h3]; simp)], j_not ?_⟩
  unfold jOK; rw [h3]; simp
theorem j2 {qu : Int} {cs : List Cn} {os : List O} {i : Nat} {wt : Bool} {o : O} (h1 : ((decide (qu < 1)) || (decide (qu > 3))) = false) (h2 : (!(right cs)) = false) (hI : JI qu cs os i wt o) (h3 : (decide ((i : Int) < ((((sortO os).length : Nat)) : Int)) && (!wt)) = false) : jE qu cs = 0 ∧ jW qu cs os = wt ∧ jO qu cs os = o ∧ jH qu cs os = (wt == (qu == 1)) ∧ jN qu cs os = (((sortO os).length : Nat) : Int) := by
  have h4 := right_of h2
  have hk : jOK qu cs = true := by unfold jOK; rw [h1, h4]; rfl
  have hw : jW qu cs os = wt := by unfold jW; rw [hk, Bool.true_and, (hI.done h3).1]
  refine ⟨by unfold jE; rw [if_neg (by rw [h1]; simp), if_pos h4], hw, by unfold jO; rw [if_pos hk, (hI.done h3).2], by unfold jH; rw [hk, Bool.true_and, hw], by unfold jN; rw [if_pos hk]⟩
theorem rjudge_ (qu : Int) (cs : List Cn) (os : List O) (c1 c2 : Nat) (hc : cs.length < 100000) (ho : os.length ≤ 1000000) : Fn Tryd.prog 22 [.int .i64 qu, .sl 0 cs.length c1, .sl 1 os.length c2] [some (.lst 5 cs.length (fun k => [.int .i64 (cs.getD k Cn.z).kd, .int .i64 (cs.getD k Cn.z).th, .int .i64 (cs.getD k Cn.z).rg, .int .i64 (cs.getD k Cn.z).lc, .int .i64 (cs.getD k Cn.z).vl])), some (.lst 27 os.length (fun z => oc ((os).getD z oz)))] (Rt (.tup [.agg [.bool (jH qu cs os), .bool (jW qu cs os), .int .i64 (jO qu cs os 0), .int .i64 (jO qu cs os 1), .int .i64 (jO qu cs os 2), .int .i64 (jO qu cs os 3), .int .i64 (jO qu cs os 4), .int .i64 (jO qu cs os 5), .int .i64 (jO qu cs os 6), .int .i64 (jO qu cs os 7), .int .i64 (jO qu cs os 8), .int .i64 (jO qu cs os 9), .int .i64 (jO qu cs os 10), .int .i64 (jO qu cs os 11), .int .i64 (jO qu cs os 12), .int .i64 (jO qu cs os 13), .int .i64 (jO qu cs os 14), .int .i64 (jO qu cs os 15), .int .i64 (jO qu cs os 16), .int .i64 (jO qu cs os 17), .int .i64 (jO qu cs os 18), .int .i64 (jO qu cs os 19), .int .i64 (jO qu cs os 20), .int .i64 (jO qu cs os 21), .int .i64 (jO qu cs os 22), .int .i64 (jO qu cs os 23), .int .i64 (jO qu cs os 24), .int .i64 (jO qu cs os 25), .int .i64 (jO qu cs os 26), .int .i64 (jN qu cs os)], .int .i64 (jE qu cs)]) [some (.lst 5 cs.length (fun k => [.int .i64 (cs.getD k Cn.z).kd, .int .i64 (cs.getD k Cn.z).th, .int .i64 (cs.getD k Cn.z).rg, .int .i64 (cs.getD k Cn.z).lc, .int .i64 (cs.getD k Cn.z).vl])), some (.lst 27 os.length (fun z => oc ((os).getD z oz)))]) :=
 enterM (n := 62) (by kernel_rfl) Tryd.func22 rfl rfl rfl fun G w a h0 A => N hX 17 A rfl rfl fun A => fork 17 A rfl
  (fun h1 A => N hX 9 A rfl rfl fun A => RETN hX A rfl rfl rfl h0 rfl rfl rfl rfl (by have h := j0 (cs := cs) (os := os) h1; rw [h.1, h.2.1, h.2.2.1, h.2.2.2.1, h.2.2.2.2]; rfl) rfl)
  (fun h1 A => N hX 6 A rfl rfl fun A => CALL1 [0] (rright_ cs c1 hc) A rfl rfl rfl rfl rfl rfl rfl fun A => N hX 10 A rfl rfl fun A => fork 22 A rfl
   (fun h2 A => N hX 9 A rfl rfl fun A => RETN hX A rfl rfl rfl h0 rfl rfl rfl rfl (by have h := j1 (os := os) h1 h2; rw [h.1, h.2.1, h.2.2.1, h.2.2.2.1, h.2.2.2.2]; rfl) rfl)
   (fun h2 A => N hX 6 A rfl rfl fun A => CALL1 [1] (rsort_ os c2 ho) A rfl rfl rfl rfl rfl rfl rfl fun A => N hX 19 A rfl rfl fun A => have A := A.asH (H' := [some (.lst 5 cs.length (fun k => [.int .i64 (cs.getD k Cn.z).kd, .int .i64 (cs.getD k Cn.z).th, .int .i64 (cs.getD k Cn.z).rg, .int .i64 (cs.getD k Cn.z).lc, .int .i64 (cs.getD k Cn.z).vl])), some (.lst 27 os.length (fun z => oc ((os).getD z oz))), some (.blk [.ff, .ff, .int .i64 0, .int .i64 0, .int .i64 0, .int .i64 0, .int .i64 0, .int .i64 0, .int .i64 0, .int .i64 0, .int .i64 0, .int .i64 0, .int .i64 0, .int .i64 0, .int .i64 0, .int .i64 0, .int .i64 0, .int .i64 0, .int .i64 0, .int .i64 0, .int .i64 0, .int .i64 0, .int .i64 0, .int .i64 0, .int .i64 0, .int .i64 0, .int .i64 0, .int .i64 0, .int .i64 0, .int .i64 0]), some (.row 26 27 ((sortO os).length) 0 (fun z => oc ((sortO os).getD z oz))), some (.blk [.ff, .bool false, .int .i64 (oz 0), .int .i64 (oz 1), .int .i64 (oz 2), .int .i64 (oz 3), .int .i64 (oz 4), .int .i64 (oz 5), .int .i64 (oz 6), .int .i64 (oz 7), .int .i64 (oz 8), .int .i64 (oz 9), .int .i64 (oz 10), .int .i64 (oz 11), .int .i64 (oz 12), .int .i64 (oz 13), .int .i64 (oz 14), .int .i64 (oz 15), .int .i64 (oz 16), .int .i64 (oz 17), .int .i64 (oz 18), .int .i64 (oz 19), .int .i64 (oz 20), .int .i64 (oz 21), .int .i64 (oz 22), .int .i64 (oz 23), .int .i64 (oz 24), .int .i64 (oz 25), .int .i64 (oz 26), .int .i64 (((sortO os).length : Nat) : Int)])]) rfl; LOOP3 (fun (i : Nat) (wt : Bool) (o : O) => [(0, .int .i64 qu), (1, .sl 0 cs.length c1), (6, .ptr 2 0), (7, .int .i64 0), (9, .sl 3 ((sortO os).length) 0), (10, .ptr 4 0), (11, .int .i64 (i : Int))]) (fun (i : Nat) (wt : Bool) (o : O) => [some (.lst 5 cs.length (fun k => [.int .i64 (cs.getD k Cn.z).kd, .int .i64 (cs.getD k Cn.z).th, .int .i64 (cs.getD k Cn.z).rg, .int .i64 (cs.getD k Cn.z).lc, .int .i64 (cs.getD k Cn.z).vl])), some (.lst 27 os.length (fun z => oc ((os).getD z oz))), some (.blk [.ff, .ff, .int .i64 0, .int .i64 0, .int .i64 0, .int .i64 0, .int .i64 0, .int .i64 0, .int .i64 0, .int .i64 0, .int .i64 0, .int .i64 0, .int .i64 0, .int .i64 0, .int .i64 0, .int .i64 0, .int .i64 0, .int .i64 0, .int .i64 0, .int .i64 0, .int .i64 0, .int .i64 0, .int .i64 0, .int .i64 0, .int .i64 0, .int .i64 0, .int .i64 0, .int .i64 0, .int .i64 0, .int .i64 0]), some (.row 26 27 ((sortO os).length) 0 (fun z => oc ((sortO os).getD z oz))), some (.blk [.ff, .bool wt, .int .i64 (o 0), .int .i64 (o 1), .int .i64 (o 2), .int .i64 (o 3), .int .i64 (o 4), .int .i64 (o 5), .int .i64 (o 6), .int .i64 (o 7), .int .i64 (o 8), .int .i64 (o 9), .int .i64 (o 10), .int .i64 (o 11), .int .i64 (o 12), .int .i64 (o 13), .int .i64 (o 14), .int .i64 (o 15), .int .i64 (o 16), .int .i64 (o 17), .int .i64 (o 18), .int .i64 (o 19), .int .i64 (o 20), .int .i64 (o 21), .int .i64 (o 22), .int .i64 (o 23), .int .i64 (o 24), .int .i64 (o 25), .int .i64 (o 26), .int .i64 (((sortO os).length : Nat) : Int)])]) (fun (i : Nat) (wt : Bool) (o : O) => JI qu cs os i wt o) (fun (i : Nat) (wt : Bool) (o : O) => (sortO os).length - i) 0 false oz JI.init ((A.cut [0, 1, 6, 7, 9, 10, 11] rfl).trunc 5 rfl rfl rfl (by simp only [List.length_cons, List.length_nil] at h0; omega)) fun i wt o hI {G a w} A => N hX 14 A rfl rfl fun A => fork 37 A rfl
     (fun h3 A => N hX 12 A rfl (ok_d (by have := hI.le; have := sort_len os; have := jlt h3; omega) <| ok_d (by have := hI.le; have := sort_len os; have := jlt h3; omega) <| okE_nil) fun A => CALL1 [0] (reval_ ((sortO os).getD (((i : Int)).toNat) oz) cs c1 hc) A rfl rfl rfl rfl rfl rfl rfl fun A => N hX 5 A rfl rfl fun A => forkE 48 A rfl
      (fun h4 A => N hX 17 A rfl (ok_d (by have := hI.le; have := sort_len os; have := jlt h3; omega) <| ok_d (by have := hI.le; have := sort_len os; have := jlt h3; omega) <| okE_nil) fun A => N hX 5 A rfl (ok_d (by have := hI.le; have := sort_len os; have := jlt h3; omega) <| okE_nil) fun A => ⟨i + 1, true, ((sortO os).getD ((i : Int)).toNat oz), _, (by have := jlt h3; omega), (hI.yes h3 h4), (((A.asH (H' := [some (.lst 5 cs.length (fun k => [.int .i64 (cs.getD k Cn.z).kd, .int .i64 (cs.getD k Cn.z).th, .int .i64 (cs.getD k Cn.z).rg, .int .i64 (cs.getD k Cn.z).lc, .int .i64 (cs.getD k Cn.z).vl])), some (.lst 27 os.length (fun z => oc ((os).getD z oz))), some (.blk [.ff, .ff, .int .i64 0, .int .i64 0, .int .i64 0, .int .i64 0, .int .i64 0, .int .i64 0, .int .i64 0, .int .i64 0, .int .i64 0, .int .i64 0, .int .i64 0, .int .i64 0, .int .i64 0, .int .i64 0, .int .i64 0, .int .i64 0, .int .i64 0, .int .i64 0, .int .i64 0, .int .i64 0, .int .i64 0, .int .i64 0, .int .i64 0, .int .i64 0, .int .i64 0, .int .i64 0, .int .i64 0, .int .i64 0]), some (.row 26 27 ((sortO os).length) 0 (fun z => oc ((sortO os).getD z oz))), some (.blk [.ff, .bool true, .int .i64 (((sortO os).getD ((i : Int)).toNat oz) 0), .int .i64 (((sortO os).getD ((i : Int)).toNat oz) 1), .int .i64 (((sortO os).getD ((i : Int)).toNat oz) 2), .int .i64 (((sortO os).getD ((i : Int)).toNat oz) 3), .int .i64 (((sortO os).getD ((i : Int)).toNat oz) 4), .int .i64 (((sortO os).getD ((i : Int)).toNat oz) 5), .int .i64 (((sortO os).getD ((i : Int)).toNat oz) 6), .int .i64 (((sortO os).getD ((i : Int)).toNat oz) 7), .int .i64 (((sortO os).getD ((i : Int)).toNat oz) 8), .int .i64 (((sortO os).getD ((i : Int)).toNat oz) 9), .int .i64 (((sortO os).getD ((i : Int)).toNat oz) 10), .int .i64 (((sortO os).getD ((i : Int)).toNat oz) 11), .int .i64 (((sortO os).getD ((i : Int)).toNat oz) 12), .int .i64 (((sortO os).getD ((i : Int)).toNat oz) 13), .int .i64 (((sortO os).getD ((i : Int)).toNat oz) 14), .int .i64 (((sortO os).getD ((i : Int)).toNat oz) 15), .int .i64 (((sortO os).getD ((i : Int)).toNat oz) 16), .int .i64 (((sortO os).getD ((i : Int)).toNat oz) 17), .int .i64 (((sortO os).getD ((i : Int)).toNat oz) 18), .int .i64 (((sortO os).getD ((i : Int)).toNat oz) 19), .int .i64 (((sortO os).getD ((i : Int)).toNat oz) 20), .int .i64 (((sortO os).getD ((i : Int)).toNat oz) 21), .int .i64 (((sortO os).getD ((i : Int)).toNat oz) 22), .int .i64 (((sortO os).getD ((i : Int)).toNat oz) 23), .int .i64 (((sortO os).getD ((i : Int)).toNat oz) 24), .int .i64 (((sortO os).getD ((i : Int)).toNat oz) 25), .int .i64 (((sortO os).getD ((i : Int)).toNat oz) 26), .int .i64 (((sortO os).length : Nat) : Int)])]) rfl).cut [0, 1, 6, 7, 9, 10, 11] rfl).trunc 5 rfl rfl rfl (by simp only [List.length_cons, List.length_nil] at h0; omega))⟩)
      (fun h4 A => N hX 9 A rfl (ok_d (by have := hI.le; have := sort_len os; have := jlt h3; omega) <| okE_nil) fun A => ⟨i + 1, wt, o, _, (by have := jlt h3; omega), (hI.no h3 h4), ((A.cut [0, 1, 6, 7, 9, 10, 11] rfl).trunc 5 rfl rfl rfl (by simp only [List.length_cons, List.length_nil] at h0; omega))⟩))
     (fun h3 A => N hX 22 A rfl rfl fun A => RETN hX A rfl rfl rfl h0 rfl rfl rfl rfl (by have h := j2 h1 h2 hI h3; rw [h.1, h.2.1, h.2.2.1, h.2.2.2.1, h.2.2.2.2]; rfl) rfl)))
end Go.Proofs.YtbghlhhoafkmgaaDoor
/- Both orders are one. -/
namespace Go.Proofs.YtbghlhhoafkmgaaDoor
open Go.RowKit
set_option linter.unusedVariables false
set_option linter.unusedSimpArgs false
set_option maxRecDepth 100000
set_option maxHeartbeats 2000000
set_option simprocs false
open Go.Sort
def Can (x : O) : Prop := ∀ k, 27 ≤ k → x k = 0
theorem lx_both (p q : O) : ∀ (f i : Nat), lx p q f i = false → lx q p f i = false → ∀ k, i ≤ k → k < i + f → p k = q k
  | 0, i, _, _, k, h1, h2 => by omega
  | f + 1, i, h1, h2, k, k1, k2 => by
    unfold lx at h1 h2
    by_cases e : p i = q i
    · rw [if_pos e] at h1
      rw [if_pos e.symm] at h2
      by_cases hk : k = i
      · subst hk; exact e
      · exact lx_both p q f (i + 1) h1 h2 k (by omega) (by omega)
    · rw [if_neg e] at h1
      rw [if_neg (fun h => e h.symm)] at h2
      have := of_decide_eq_false h1
      have := of_decide_eq_false h2
      omega
theorem lt_tri {x y : O} (hx : Can x) (hy : Can y) (h1 : lessO x y = false) (h2 : lessO y x = false) : x = y := by
  funext k
  by_cases hk : k < 27
  · exact lx_both x y 27 0 h1 h2 k (by omega) (by omega)
  · rw [hx k (by omega), hy k (by omega)]
theorem eqO_at {x y : O} (h : eqO x y = true) : ∀ k, k < 27 → x k = y k := by
  unfold eqO at h
  simp only [Bool.and_eq_true, beq_iff_eq] at h
  intro k hk
  have : k = 0 ∨ k = 1 ∨ k = 2 ∨ k = 3 ∨ k = 4 ∨ k = 5 ∨ k = 6 ∨ k = 7 ∨ k = 8 ∨ k = 9 ∨ k = 10 ∨ k = 11 ∨ k = 12 ∨ k = 13 ∨ k = 14 ∨ k = 15 ∨ k = 16 ∨ k = 17 ∨ k = 18 ∨ k = 19 ∨ k = 20 ∨ k = 21 ∨ k = 22 ∨ k = 23 ∨ k = 24 ∨ k = 25 ∨ k = 26 := by omega
  obtain ⟨e0, e1, e2, e3, e4, e5, e6, e7, e8, e9, e10, e11, e12, e13, e14, e15, e16, e17, e18, e19, e20, e21, e22, e23, e24, e25, e26⟩ := h
  rcases this with rfl | rfl | rfl | rfl | rfl | rfl | rfl | rfl | rfl | rfl | rfl | rfl | rfl | rfl | rfl | rfl | rfl | rfl | rfl | rfl | rfl | rfl | rfl | rfl | rfl | rfl | rfl <;> assumption
theorem eqO_refl (x : O) : eqO x x = true := by
  unfold eqO
  simp only [beq_self_eq_true, Bool.and_self]
theorem eqO_eq {x y : O} (hx : Can x) (hy : Can y) (h : eqO x y = true) : x = y := by
  funext k
  by_cases hk : k < 27
  · exact eqO_at h k hk
  · rw [hx k (by omega), hy k (by omega)]
theorem less_irr (x : O) : lessO x x = false := lx_irr x 27 0
theorem less_asym {x y : O} (h : lessO x y = true) : lessO y x = false := by
  cases e : lessO y x with
  | false => rfl
  | true => have := swoO.trans x y x h e; rw [less_irr] at this; cases this
abbrev Srt (l : List O) : Prop := l.Pairwise fun x y => lessO x y = true
theorem srt_uni : ∀ {l m : List O}, Srt l → Srt m → (∀ x, x ∈ l ↔ x ∈ m) → l = m
  | [], [], _, _, _ => rfl
  | [], y :: m, _, _, h => by have := (h y).2 (by simp); simp at this
  | x :: l, [], _, _, h => by have := (h x).1 (by simp); simp at this
  | x :: l, y :: m, h1, h2, h => by
    have a1 := List.pairwise_cons.1 h1
    have a2 := List.pairwise_cons.1 h2
    have e : x = y := by
      have hx := (h x).1 (by simp)
      have hy := (h y).2 (by simp)
      rcases List.mem_cons.1 hx with rfl | hx
      · rfl
      · rcases List.mem_cons.1 hy with rfl | hy
        · rfl
        · have k1 := a2.1 x hx
          have k2 := a1.1 y hy
          rw [less_asym k1] at k2; cases k2
    subst e
    congr 1
    refine srt_uni a1.2 a2.2 fun z => ⟨fun hz => ?_, fun hz => ?_⟩
    · rcases List.mem_cons.1 ((h z).1 (by simp [hz])) with rfl | hz'
      · have := a1.1 z hz; rw [less_irr] at this; cases this
      · exact hz'
    · rcases List.mem_cons.1 ((h z).2 (by simp [hz])) with rfl | hz'
      · have := a2.1 z hz; rw [less_irr] at this; cases this
      · exact hz'
/-! the reference -/
theorem pos_split (l : List O) (x : O) : (∀ y ∈ l.take (posO l x), lessO y x = true) ∧ (posO l x < l.length → lessO (l.getD (posO l x) oz) x = false) := by
  induction l with
  | nil => exact ⟨fun y hy => by simp at hy, fun h => by simp at h⟩
  | cons a l ih =>
    unfold posO at ih ⊢
    rw [List.takeWhile_cons]
    cases e : lessO a x with
    | true =>
      simp only [if_true, List.length_cons]
      refine ⟨fun y hy => ?_, fun h => ?_⟩
      · rw [List.take_succ_cons] at hy
        rcases List.mem_cons.1 hy with rfl | hy
        · exact e
        · exact ih.1 y hy
      · exact ih.2 (by omega)
    | false =>
      simp only [Bool.false_eq_true, if_false, List.length_nil]
      exact ⟨fun y hy => by simp at hy, fun _ => e⟩
theorem ins_srt {l : List O} {x : O} (hl : Srt l) (hc : ∀ y ∈ l, Can y) (hx : Can x) : Srt (insO l x) ∧ ∀ y, y ∈ insO l x ↔ y ∈ l ∨ y = x := by
  have ⟨s1, s2⟩ := pos_split l x
  have hle : posO l x ≤ l.length := by unfold posO; exact (List.takeWhile_prefix _).length_le
  unfold insO
  split
  · next h =>
    rw [Bool.and_eq_true, decide_eq_true_eq] at h
    refine ⟨hl, fun y => ⟨.inl, fun hy => ?_⟩⟩
    rcases hy with hy | rfl
    · exact hy
    · have hm : l.getD (posO l y) oz ∈ l := by simp [List.getD, h.1]
      have := eqO_eq (hc _ hm) hx h.2
      rw [← this]; exact hm
  · next h =>
    have hgt : ∀ y ∈ l.drop (posO l x), lessO x y = true := by
      intro y hy
      have hlt : posO l x < l.length := by
        rcases Nat.lt_or_ge (posO l x) l.length with h | h
        · exact h
        · rw [List.drop_eq_nil_of_le h] at hy; cases hy
      have e : l.drop (posO l x) = l[posO l x] :: l.drop (posO l x + 1) := List.drop_eq_getElem_cons hlt
      have hg : l.getD (posO l x) oz = l[posO l x] := by simp [List.getD, hlt]
      have hm : l[posO l x] ∈ l := List.getElem_mem hlt
      have h3 := s2 hlt
      rw [hg] at h3 h
      have hd : lessO x l[posO l x] = true := by
        cases hh : lessO x l[posO l x] with
        | true => rfl
        | false =>
          have := lt_tri (hc _ hm) hx h3 hh
          exact absurd (by rw [this, eqO_refl, decide_eq_true hlt]; rfl) h
      rw [e] at hy
      rcases List.mem_cons.1 hy with rfl | hy
      · exact hd
      · have hp : (l.drop (posO l x)).Pairwise fun x y => lessO x y = true := hl.sublist (List.drop_sublist _ _)
        rw [e] at hp
        exact swoO.trans _ _ _ hd ((List.pairwise_cons.1 hp).1 y hy)
    unfold putO
    refine ⟨?_, fun y => ?_⟩
    · refine List.pairwise_append.2 ⟨hl.sublist (List.take_sublist _ _), List.pairwise_cons.2 ⟨hgt, hl.sublist (List.drop_sublist _ _)⟩, fun a ha b hb => ?_⟩
      rcases List.mem_cons.1 hb with rfl | hb
      · exact s1 a ha
      · exact swoO.trans _ _ _ (s1 a ha) (hgt b hb)
    · rw [List.mem_append, List.mem_cons]
      constructor
      · rintro (h | rfl | h)
        · exact .inl (List.mem_of_mem_take h)
        · exact .inr rfl
        · exact .inl (List.mem_of_mem_drop h)
      · rintro (h | rfl)
        · rw [← List.take_append_drop (posO l x) l] at h
          rcases List.mem_append.1 h with h | h
          · exact .inl h
          · exact .inr (.inr h)
        · exact .inr (.inl rfl)
theorem fold_srt : ∀ (os l : List O), Srt l → (∀ y ∈ l, Can y) → (∀ y ∈ os, Can y) → Srt (os.foldl insO l) ∧ ∀ y, y ∈ os.foldl insO l ↔ y ∈ l ∨ y ∈ os
  | [], l, h, _, _ => ⟨h, fun y => by simp⟩
  | x :: os, l, h, hc, ho => by
    have hi := ins_srt h hc (ho x (by simp))
    have hc' : ∀ y ∈ insO l x, Can y := fun y hy => ((hi.2 y).1 hy).elim (hc y) (fun e => e ▸ ho x (by simp))
    have := fold_srt os (insO l x) hi.1 hc' (fun y hy => ho y (by simp [hy]))
    refine ⟨this.1, fun y => ?_⟩
    rw [List.foldl_cons, this.2 y, hi.2 y, List.mem_cons]
    constructor
    · rintro ((h | h) | h)
      · exact .inl h
      · exact .inr (.inl h)
      · exact .inr (.inr h)
    · rintro (h | h | h)
      · exact .inl (.inl h)
      · exact .inl (.inr h)
      · exact .inr h
theorem sortO_srt {os : List O} (ho : ∀ y ∈ os, Can y) : Srt (sortO os) ∧ ∀ y, y ∈ sortO os ↔ y ∈ os := by
  have := fold_srt os [] List.Pairwise.nil (fun y hy => by cases hy) ho
  exact ⟨this.1, fun y => by rw [sortO, this.2 y]; simp⟩
/-! the program -/
theorem cA_srt {s : Array O} {n : Nat} (hs : SortedIn lessO 0 n s) (hc : ∀ i, i < n → Can (s[i]!)) : ∀ i, i ≤ n → Srt (cA s i) ∧ (∀ x, x ∈ cA s i ↔ ∃ p, p < i ∧ s[p]! = x) ∧ (0 < i → ∀ x ∈ cA s i, x = s[i - 1]! ∨ lessO x (s[i - 1]!) = true)
  | 0, _ => ⟨List.Pairwise.nil, fun x => by simp [cA], fun h => by omega⟩
  | i + 1, hi => by
    obtain ⟨h1, h2, h3⟩ := cA_srt hs hc i (by omega)
    cases hd : (decide (0 < i) && eqO (s[i]!) (s[i - 1]!)) with
    | true =>
      have hi0 := jlt hd
      have heq := eqO_eq (hc i (by omega)) (hc (i - 1) (by omega)) (jrt hd)
      rw [cA, if_pos hd]
      refine ⟨h1, fun x => ?_, fun _ x hx => ?_⟩
      · rw [h2 x]
        constructor
        · rintro ⟨p, hp, e⟩; exact ⟨p, by omega, e⟩
        · rintro ⟨p, hp, e⟩
          by_cases hpi : p = i
          · subst hpi; exact ⟨p - 1, by omega, by rw [← heq]; exact e⟩
          · exact ⟨p, by omega, e⟩
      · have := h3 hi0 x hx
        rw [Nat.add_sub_cancel, heq]; exact this
    | false =>
      rw [cA, if_neg (by rw [hd]; simp)]
      have hlt : 0 < i → lessO (s[i - 1]!) (s[i]!) = true := fun hi0 => by
        cases hh : lessO (s[i - 1]!) (s[i]!) with
        | true => rfl
        | false =>
          have := lt_tri (hc i (by omega)) (hc (i - 1) (by omega)) (hs (i - 1) i (by omega) (by omega) (by omega)) hh
          rw [this, eqO_refl, decide_eq_true hi0] at hd; cases hd
      have hall : ∀ x ∈ cA s i, lessO x (s[i]!) = true := fun x hx => by
        have hi0 : 0 < i := by
          rcases Nat.eq_zero_or_pos i with rfl | h
          · simp [cA] at hx
          · exact h
        rcases h3 hi0 x hx with rfl | h
        · exact hlt hi0
        · exact swoO.trans _ _ _ h (hlt hi0)
      refine ⟨List.pairwise_append.2 ⟨h1, List.pairwise_singleton _ _, fun a ha b hb => by simp at hb; subst hb; exact hall a ha⟩, fun x => ?_, fun _ x hx => ?_⟩
      · rw [List.mem_append, h2 x]
        constructor
        · rintro (⟨p, hp, e⟩ | h)
          · exact ⟨p, by omega, e⟩
          · simp at h; exact ⟨i, by omega, h.symm⟩
        · rintro ⟨p, hp, e⟩
          by_cases hpi : p = i
          · subst hpi; exact .inr (by simp [e])
          · exact .inl ⟨p, by omega, e⟩
      · rw [Nat.add_sub_cancel]
        rcases List.mem_append.1 hx with h | h
        · exact .inr (hall x h)
        · simp at h; exact .inl h
theorem sort_eq {os : List O} (ho : ∀ y ∈ os, Can y) : sortL os = sortO os := by
  have hq := pdq_sorts lessO swoO os.toArray 0 os.length (Go.Sort.bitsLen os.length) true true (Nat.zero_le _) (by simp) (.inl rfl)
  have hsz := ps_sz os
  unfold sortL
  generalize Go.Sort.pdq lessO os.toArray 0 os.length (Go.Sort.bitsLen os.length) true true = s at hq hsz ⊢
  have hp : s.toList.Perm os := by
    have := hq.1.2.2
    rw [Array.extract_eq_self_of_le (by omega), Array.extract_eq_self_of_le (by simp)] at this
    simpa using this
  have hget : ∀ i, i < os.length → s[i]! ∈ s.toList := fun i hi => by
    have : i < s.size := by omega
    rw [getElem!_pos s i this]
    simp
  have hc : ∀ i, i < os.length → Can (s[i]!) := fun i hi => ho _ (hp.mem_iff.1 (hget i hi))
  have hr := cA_srt hq.2 hc os.length (Nat.le_refl _)
  have ho2 := sortO_srt ho
  refine srt_uni hr.1 ho2.1 fun x => ?_
  rw [hr.2.1 x, ho2.2 x, ← hp.mem_iff]
  constructor
  · rintro ⟨p, hp', rfl⟩; exact hget p hp'
  · intro hx
    obtain ⟨p, hp', e⟩ := List.getElem_of_mem hx
    have hps : p < s.size := by simpa using hp'
    exact ⟨p, by omega, by rw [getElem!_pos s p hps]; simpa using e⟩

end Go.Proofs.YtbghlhhoafkmgaaDoor
/- Whether a row is a condition. -/
namespace Go.Proofs.YtbghlhhoafkmgaaDoor
open Go.RowKit
set_option linter.unusedVariables false
set_option linter.unusedSimpArgs false
set_option maxRecDepth 100000
set_option maxHeartbeats 2000000
set_option simprocs false
abbrev cc (c : Cn) : List SV := [.int .i64 c.kd, .int .i64 c.th, .int .i64 c.rg, .int .i64 c.lc, .int .i64 c.vl]
set_option simprocs true in
theorem nd_any (c : Cn) : (node0 c.kd c.th c.rg c.lc c.vl = true ∧ c.n = parts0 c.kd) ∨ (node0 c.kd c.th c.rg c.lc c.vl = false ∧ c.n = -1) := by
  unfold Cn.n one0 node0 parts0
  by_cases h1 : c.kd = 1
  · by_cases a1 : 0 ≤ c.th <;> by_cases a2 : c.th < 3 <;> by_cases a3 : 0 ≤ c.rg <;> by_cases a4 : c.rg < 8 <;> by_cases a5 : c.lc = 0 <;> simp [h1, a1, a2, a3, a4, a5]
  by_cases h2 : c.kd = 2
  · by_cases a1 : 0 ≤ c.lc <;> by_cases a2 : c.lc < 3 <;> by_cases a3 : c.th = 0 <;> by_cases a4 : c.rg = 0 <;> simp [h2, a1, a2, a3, a4]
  by_cases h3 : c.kd = 3
  · by_cases a1 : c.th = 0 <;> by_cases a2 : c.rg = 0 <;> by_cases a3 : c.lc = 0 <;> by_cases a4 : c.vl = 0 <;> simp [h3, a1, a2, a3, a4]
  by_cases h4 : c.kd = 4
  · by_cases a1 : c.th = 0 <;> by_cases a2 : c.rg = 0 <;> by_cases a3 : c.lc = 0 <;> by_cases a4 : c.vl = 0 <;> simp [h4, a1, a2, a3, a4]
  by_cases h5 : c.kd = 5
  · by_cases a1 : c.th = 0 <;> by_cases a2 : c.rg = 0 <;> by_cases a3 : c.lc = 0 <;> by_cases a4 : c.vl = 0 <;> simp [h5, a1, a2, a3, a4]
  simp [h1, h2, h3, h4, h5]
theorem parts_rng (k : Int) : 0 ≤ parts0 k ∧ parts0 k ≤ 2 := by unfold parts0; split <;> (try split) <;> (try split) <;> omega
theorem nd_t {c : Cn} (h : node0 c.kd c.th c.rg c.lc c.vl = true) : c.n = parts0 c.kd ∧ 0 ≤ parts0 c.kd ∧ parts0 c.kd ≤ 2 := by
  rcases nd_any c with h1 | h1
  · exact ⟨h1.2, parts_rng _⟩
  · rw [h] at h1; cases h1.1
theorem nd_f {c : Cn} (h : node0 c.kd c.th c.rg c.lc c.vl = false) : c.n < 0 := by
  rcases nd_any c with h1 | h1
  · rw [h] at h1; cases h1.1
  · omega
section
variable {L : List Cn} {n i : Nat} {hv : Int}
theorem RI.get (h : RI (L.take n) i hv) (hn : n ≤ L.length) (h1 : (i : Int) < ((n : Nat) : Int)) : (L.take n).getD ((i : Int)).toNat Cn.z = (L.getD ((i : Int)).toNat Cn.z) := getD_take (by omega)
theorem RI.b0 (h : ¬ ((n : Nat) : Int) > 32) (hn : n ≤ L.length) : RI (L.take n) 0 0 := by
  have hl : (L.take n).length = n := by simp; omega
  refine ⟨by omega, by omega, by omega, by omega, ?_⟩
  unfold right
  split
  · next hh =>
    have : n = 0 := by omega
    subst this
    rw [List.take_zero, List.drop_nil, rightGo]; rfl
  · rfl
theorem RI.bad (h : RI (L.take n) i hv) (hn : n ≤ L.length) (h1 : (i : Int) < ((n : Nat) : Int)) (h2 : (!(node0 (L.getD ((i : Int)).toNat Cn.z).kd (L.getD ((i : Int)).toNat Cn.z).th (L.getD ((i : Int)).toNat Cn.z).rg (L.getD ((i : Int)).toNat Cn.z).lc (L.getD ((i : Int)).toNat Cn.z).vl)) = true) : right (L.take n) = false := by
  have hl : (L.take n).length = n := by simp; omega
  have e := h.get hn h1
  have := nd_f (c := (L.getD ((i : Int)).toNat Cn.z)) (by revert h2; cases node0 (L.getD ((i : Int)).toNat Cn.z).kd (L.getD ((i : Int)).toNat Cn.z).th (L.getD ((i : Int)).toNat Cn.z).rg (L.getD ((i : Int)).toNat Cn.z).lc (L.getD ((i : Int)).toNat Cn.z).vl <;> simp)
  have ha := h.at (by rw [hl]; exact h1)
  rw [e, if_pos (.inl this)] at ha
  exact ha
theorem RI.bad2 (h : RI (L.take n) i hv) (hn : n ≤ L.length) (h1 : (i : Int) < ((n : Nat) : Int)) (h2 : (!(node0 (L.getD ((i : Int)).toNat Cn.z).kd (L.getD ((i : Int)).toNat Cn.z).th (L.getD ((i : Int)).toNat Cn.z).rg (L.getD ((i : Int)).toNat Cn.z).lc (L.getD ((i : Int)).toNat Cn.z).vl)) = false) (h3 : hv < parts0 (L.getD ((i : Int)).toNat Cn.z).kd) : right (L.take n) = false := by
  have hl : (L.take n).length = n := by simp; omega
  have e := h.get hn h1
  have hq := nd_t (c := (L.getD ((i : Int)).toNat Cn.z)) (by revert h2; cases node0 (L.getD ((i : Int)).toNat Cn.z).kd (L.getD ((i : Int)).toNat Cn.z).th (L.getD ((i : Int)).toNat Cn.z).rg (L.getD ((i : Int)).toNat Cn.z).lc (L.getD ((i : Int)).toNat Cn.z).vl <;> simp)
  have ha := h.at (by rw [hl]; exact h1)
  rw [e, if_pos (.inr (by omega))] at ha
  exact ha
theorem RI.go (h : RI (L.take n) i hv) (hn : n ≤ L.length) (h1 : (i : Int) < ((n : Nat) : Int)) (h2 : (!(node0 (L.getD ((i : Int)).toNat Cn.z).kd (L.getD ((i : Int)).toNat Cn.z).th (L.getD ((i : Int)).toNat Cn.z).rg (L.getD ((i : Int)).toNat Cn.z).lc (L.getD ((i : Int)).toNat Cn.z).vl)) = false) (h3 : ¬ hv < parts0 (L.getD ((i : Int)).toNat Cn.z).kd) : RI (L.take n) (i + 1) (hv + (1 - parts0 (L.getD ((i : Int)).toNat Cn.z).kd)) := by
  have hl : (L.take n).length = n := by simp; omega
  have e := h.get hn h1
  have hq := nd_t (c := (L.getD ((i : Int)).toNat Cn.z)) (by revert h2; cases node0 (L.getD ((i : Int)).toNat Cn.z).kd (L.getD ((i : Int)).toNat Cn.z).th (L.getD ((i : Int)).toNat Cn.z).rg (L.getD ((i : Int)).toNat Cn.z).lc (L.getD ((i : Int)).toNat Cn.z).vl <;> simp)
  have ha := h.at (by rw [hl]; exact h1)
  rw [e, if_neg (by omega)] at ha
  have k := h.2.2
  exact ⟨by omega, h.2.1, by omega, by omega, by rw [ha, hq.1]; congr 1; omega⟩
end
theorem pright_ (L : List Cn) (n : Nat) (c : Nat) (hn : n ≤ L.length) : Fn Tryd.prog 10 [.sl 0 n c] [some (.lst 5 L.length (fun zz => cc (L.getD zz Cn.z)))] (Rt (.bool (right (L.take n))) [some (.lst 5 L.length (fun zz => cc (L.getD zz Cn.z)))]) :=
 enterM (n := 34) (by kernel_rfl) Tryd.func10 rfl rfl rfl fun G w a h0 A => N hX 13 A rfl rfl fun A => forkD 8 A rfl
  (fun h1 A => N hX 7 A rfl rfl fun A => RETN hX A rfl rfl rfl h0 rfl rfl rfl rfl (by rw [show right (L.take n) = false by unfold right; rw [if_pos (by simp; omega)]]; rfl) rfl)
  (fun h1 A => N hX 17 A rfl rfl fun A => LOOP2 (fun (i : Nat) (hv : Int) => [(2, .ff), (3, .int .i64 hv), (9, .sl 0 n c), (10, .int .i64 ((n : Nat) : Int)), (11, .int .i64 (i : Int))]) (fun (i : Nat) (hv : Int) => [some (.lst 5 L.length (fun zz => cc (L.getD zz Cn.z)))]) (fun (i : Nat) (hv : Int) => RI (L.take n) i hv) (fun (i : Nat) (hv : Int) => n - i) 0 0 (RI.b0 h1 hn) ((A.cut [2, 3, 9, 10, 11] rfl).trunc 1 rfl rfl rfl (by simp only [List.length_cons, List.length_nil] at h0; omega)) fun i hv hI {G a w} A => N hX 6 A rfl rfl fun A => forkD 12 A rfl
    (fun h2 A => N hX 15 A rfl (ok_d (by have hq := hI.2.2; have hl : (L.take n).length = n := (by simp; omega); have h32 := hI.2.1; omega) <| ok_d (by have hq := hI.2.2; have hl : (L.take n).length = n := (by simp; omega); have h32 := hI.2.1; omega) <| okE_nil) fun A => N hX 2 A rfl rfl fun A => CALL1 [] (node_ ((L.getD (((i : Int)).toNat) Cn.z).kd) ((L.getD (((i : Int)).toNat) Cn.z).th) ((L.getD (((i : Int)).toNat) Cn.z).rg) ((L.getD (((i : Int)).toNat) Cn.z).lc) ((L.getD (((i : Int)).toNat) Cn.z).vl)) A rfl rfl rfl rfl rfl rfl rfl fun A => N hX 2 A rfl rfl fun A => fork 18 A rfl
     (fun h3 A => N hX 15 A rfl rfl fun A => RETN hX A rfl rfl rfl h0 rfl rfl rfl rfl (by rw [hI.bad hn h2 h3]; rfl) rfl)
     (fun h3 A => N hX 3 A rfl rfl fun A => CALL1 [] (parts_ ((L.getD (((i : Int)).toNat) Cn.z).kd)) A rfl rfl rfl rfl rfl rfl rfl fun A => N hX 4 A rfl rfl fun A => forkD 24 A rfl
      (fun h4 A => N hX 7 A rfl rfl fun A => RETN hX A rfl rfl rfl h0 rfl rfl rfl rfl (by rw [hI.bad2 hn h2 h3 h4]; rfl) rfl)
      (fun h4 A => N hX 7 A rfl rfl fun A => CALL1 [] (parts_ ((L.getD (((i : Int)).toNat) Cn.z).kd)) A rfl rfl rfl rfl rfl rfl rfl fun A => N hX 6 A rfl (ok_d (by have hq := hI.2.2; have hl : (L.take n).length = n := (by simp; omega); have h32 := hI.2.1; have hp := nd_t (c := (L.getD ((i : Int)).toNat Cn.z)) (by revert h3; cases node0 (L.getD ((i : Int)).toNat Cn.z).kd (L.getD ((i : Int)).toNat Cn.z).th (L.getD ((i : Int)).toNat Cn.z).rg (L.getD ((i : Int)).toNat Cn.z).lc (L.getD ((i : Int)).toNat Cn.z).vl <;> simp); omega) <| ok_d (by have hq := hI.2.2; have hl : (L.take n).length = n := (by simp; omega); have h32 := hI.2.1; have hp := nd_t (c := (L.getD ((i : Int)).toNat Cn.z)) (by revert h3; cases node0 (L.getD ((i : Int)).toNat Cn.z).kd (L.getD ((i : Int)).toNat Cn.z).th (L.getD ((i : Int)).toNat Cn.z).rg (L.getD ((i : Int)).toNat Cn.z).lc (L.getD ((i : Int)).toNat Cn.z).vl <;> simp); omega) <| okE_nil) fun A => N hX 4 A rfl (ok_d (by have hq := hI.2.2; have hl : (L.take n).length = n := (by simp; omega); have h32 := hI.2.1; have hp := nd_t (c := (L.getD ((i : Int)).toNat Cn.z)) (by revert h3; cases node0 (L.getD ((i : Int)).toNat Cn.z).kd (L.getD ((i : Int)).toNat Cn.z).th (L.getD ((i : Int)).toNat Cn.z).rg (L.getD ((i : Int)).toNat Cn.z).lc (L.getD ((i : Int)).toNat Cn.z).vl <;> simp); omega) <| okE_nil) fun A => ⟨i + 1, hv + (1 - parts0 (L.getD ((i : Int)).toNat Cn.z).kd), _, (by omega), (hI.go hn h2 h3 h4), ((A.cut [2, 3, 9, 10, 11] rfl).trunc 1 rfl rfl rfl (by simp only [List.length_cons, List.length_nil] at h0; omega))⟩)))
    (fun h2 A => N hX 11 A rfl rfl fun A => RETN hX A rfl rfl rfl h0 rfl rfl rfl rfl (by rw [hI.done (by rw [List.length_take, Nat.min_eq_left hn]; exact h2)]; rfl) rfl))
end Go.Proofs.YtbghlhhoafkmgaaDoor
/- What a node comes to. -/
namespace Go.Proofs.YtbghlhhoafkmgaaDoor
open Go.RowKit
set_option linter.unusedVariables false
set_option linter.unusedSimpArgs false
set_option maxRecDepth 100000
set_option maxHeartbeats 2000000
set_option simprocs false
def hv0 (p : O) (kd : Int) (th : Int) (rg : Int) (lc : Int) (vl : Int) (l : List Bool) (j : Nat) (k : Nat) : Bool := if kd = 1 then ([[(p 0), (p 1), (p 2), (p 3), (p 4), (p 5), (p 6), (p 7)].getD (rg).toNat 0, [(p 8), (p 9), (p 10), (p 11), (p 12), (p 13), (p 14), (p 15)].getD (rg).toNat 0, [(p 16), (p 17), (p 18), (p 19), (p 20), (p 21), (p 22), (p 23)].getD (rg).toNat 0].getD (th).toNat 0) == vl else if kd = 2 then ([(p 24), (p 25), (p 26)].getD (lc).toNat 0) == vl else if kd = 3 then !(l.getD ((((j : Nat) : Int) + 0).toNat) false) else if kd = 4 then (l.getD ((((j : Nat) : Int) + 0).toNat) false) && (l.getD ((((j : Nat) : Int) + 1).toNat) false) else (l.getD ((((j : Nat) : Int) + 0).toNat) false) || (l.getD ((((j : Nat) : Int) + 1).toNat) false)
theorem hv_ (p : O) (kd : Int) (th : Int) (rg : Int) (lc : Int) (vl : Int) (l : List Bool) (j : Nat) (k : Nat) (hk : j + k ≤ l.length) (q1 : kd = 1 → 0 ≤ th ∧ th < 3 ∧ 0 ≤ rg ∧ rg < 8) (q2 : kd = 2 → 0 ≤ lc ∧ lc < 3) (q3 : kd = 3 → 1 ≤ k) (q4 : kd ≠ 1 → kd ≠ 2 → kd ≠ 3 → 2 ≤ k) : Fn Tryd.prog 41 [.agg [.int .i64 kd, .int .i64 th, .int .i64 rg, .int .i64 lc, .int .i64 vl], .st 1 1 j k 0, .ptr 0 0] [some (.blk (oc p)), some (.row 4 1 l.length 0 (fun zz => [.bool (l.getD zz false)]))] (Rt (.bool (hv0 p kd th rg lc vl l j k)) [some (.blk (oc p)), some (.row 4 1 l.length 0 (fun zz => [.bool (l.getD zz false)]))]) :=
 enterM (n := 55) (by kernel_rfl) Tryd.func41 rfl rfl rfl fun G w a h0 A => N hX 20 A rfl rfl fun A => forkE 8 A rfl
  (fun h1 A => N hX 2 A rfl rfl fun A => DRAWN hX hmo [] [] A rfl (ok_d (by omega) <| ok_d (by omega) <| ok_d (by omega) <| ok_d (by omega) <| okE_nil) rfl rfl (by kernel_rfl) (effAll_nil _ _) trivial fun A => N hX 2 A rfl rfl fun A => RETN hX A rfl rfl rfl h0 rfl rfl rfl rfl (by simp only [oneS, nb, nbL, nbH, hv0, if_pos h1]) rfl)
  (fun h1 A => N hX 7 A rfl rfl fun A => forkE 21 A rfl
   (fun h2 A => N hX 2 A rfl rfl fun A => DRAWN hX hmo [] [] A rfl (ok_d (by omega) <| ok_d (by omega) <| okE_nil) rfl rfl (by kernel_rfl) (effAll_nil _ _) trivial fun A => N hX 2 A rfl rfl fun A => RETN hX A rfl rfl rfl h0 rfl rfl rfl rfl (by simp only [oneS, nb, nbL, nbH, hv0, if_neg (h1), if_pos h2]) rfl)
   (fun h2 A => N hX 7 A rfl rfl fun A => forkE 31 A rfl
    (fun h3 A => N hX 11 A rfl (ok_d (by omega) <| ok_d (by omega) <| okE_nil) fun A => RETN hX A rfl rfl rfl h0 rfl rfl rfl rfl (by simp only [oneS, nb, nbL, nbH, hv0, if_neg (h1), if_neg (h2), if_pos h3]) rfl)
    (fun h3 A => N hX 7 A rfl rfl fun A => forkE 37 A rfl
     (fun h4 A => N hX 15 A rfl (ok_d (by omega) <| ok_d (by omega) <| ok_r <| ok_g (fun hg => (by omega)) <| ok_r <| ok_g (fun hg => (by omega)) <| ok_r <| okE_nil) fun A => RETN hX A rfl rfl rfl h0 rfl rfl rfl rfl (by simp only [oneS, nb, nbL, nbH, hv0, if_neg (h1), if_neg (h2), if_neg (h3), if_pos h4]) rfl)
     (fun h4 A => N hX 18 A rfl (ok_d (by omega) <| ok_d (by omega) <| ok_r <| ok_g (fun hg => (by omega)) <| ok_r <| ok_g (fun hg => (by omega)) <| ok_r <| okE_nil) fun A => RETN hX A rfl rfl rfl h0 rfl rfl rfl rfl (by simp only [oneS, nb, nbL, nbH, hv0, if_neg (h1), if_neg (h2), if_neg (h3), if_neg (h4)]) rfl))))
end Go.Proofs.YtbghlhhoafkmgaaDoor
/- A condition folded. -/
namespace Go.Proofs.YtbghlhhoafkmgaaDoor
open Go.RowKit
set_option linter.unusedVariables false
set_option linter.unusedSimpArgs false
set_option maxRecDepth 100000
set_option maxHeartbeats 2000000
set_option simprocs false
theorem set_take {α : Type} : ∀ (l : List α) (k : Nat) (v : α), k < l.length → (l.set k v).take (k + 1) = l.take k ++ [v]
  | [], k, v, h => by simp at h
  | a :: l, 0, v, h => by simp
  | a :: l, k + 1, v, h => by
    rw [List.set_cons_succ, List.take_succ_cons, set_take l k v (by simpa using h)]; rfl
theorem fold_st {p : O} {c : Cn} {l : List Bool} {F : Nat} (hn : ¬ c.n < 0) (hl : c.n ≤ (l.length : Int)) (hp : c.n = parts0 c.kd) (hF : F = (((l.length : Nat) : Int) - parts0 c.kd).toNat) : l.take F ++ [hv0 p c.kd c.th c.rg c.lc c.vl l F (l.length - F)] = stepL p c l := by
  have hk := cn_kind hn
  unfold hv0
  rcases hk with h | h | h | h | h
  · rw [st1 h.1, if_pos h.1, List.take_of_length_le (by omega)]
  · rw [st2 h.1, if_neg (by omega), if_pos h.1, List.take_of_length_le (by omega)]
  · rw [st3 h.1, if_neg (by omega), if_neg (by omega), if_pos h.1]
    have e := set_take l (l.length - 1) (!(l.getD (l.length - 1) false)) (by omega)
    rw [List.take_of_length_le (by simp; omega)] at e
    rw [show F = l.length - 1 by omega, show (((l.length - 1 : Nat) : Int) + 0).toNat = l.length - 1 by omega, show (((l.length : Nat) : Int) - 1).toNat = l.length - 1 by omega, e]
  · rw [st4 h.1, if_neg (by omega), if_neg (by omega), if_neg (by omega), if_pos h.1]
    have e := set_take l (l.length - 2) (l.getD (l.length - 2) false && l.getD (l.length - 1) false) (by omega)
    rw [show F = l.length - 2 by omega, show (((l.length - 2 : Nat) : Int) + 0).toNat = l.length - 2 by omega, show (((l.length - 2 : Nat) : Int) + 1).toNat = l.length - 1 by omega, show (((l.length : Nat) : Int) - 2).toNat = l.length - 2 by omega, show (((l.length : Nat) : Int) - 1).toNat = l.length - 1 by omega, ← e, show l.length - 2 + 1 = l.length - 1 by omega]
  · rw [st5 h.1, if_neg (by omega), if_neg (by omega), if_neg (by omega), if_neg (by omega)]
    have e := set_take l (l.length - 2) (l.getD (l.length - 2) false || l.getD (l.length - 1) false) (by omega)
    rw [show F = l.length - 2 by omega, show (((l.length - 2 : Nat) : Int) + 0).toNat = l.length - 2 by omega, show (((l.length - 2 : Nat) : Int) + 1).toNat = l.length - 1 by omega, show (((l.length : Nat) : Int) - 2).toNat = l.length - 2 by omega, show (((l.length : Nat) : Int) - 1).toNat = l.length - 1 by omega, ← e, show l.length - 2 + 1 = l.length - 1 by omega]
section
variable {p : O} {L : List Cn} {n i : Nat} {l : List Bool}
theorem EI.i0 (hr : right (L.take n) = true) : EI p (L.take n) [] 0 := EI.init (by rw [hr]; rfl)
theorem EI.kn (hI : EI p (L.take n) l i) (hn : n ≤ L.length) (h1 : (i : Int) < ((n : Nat) : Int)) : ¬ (L.getD ((i : Int)).toNat Cn.z).n < 0 ∧ (L.getD ((i : Int)).toNat Cn.z).n ≤ (l.length : Int) ∧ (L.getD ((i : Int)).toNat Cn.z).n = parts0 (L.getD ((i : Int)).toNat Cn.z).kd ∧ (((L.getD ((i : Int)).toNat Cn.z).kd = 1 ∧ (L.getD ((i : Int)).toNat Cn.z).n = 0 ∧ 0 ≤ (L.getD ((i : Int)).toNat Cn.z).th ∧ (L.getD ((i : Int)).toNat Cn.z).th < 3 ∧ 0 ≤ (L.getD ((i : Int)).toNat Cn.z).rg ∧ (L.getD ((i : Int)).toNat Cn.z).rg < 8) ∨ ((L.getD ((i : Int)).toNat Cn.z).kd = 2 ∧ (L.getD ((i : Int)).toNat Cn.z).n = 0 ∧ 0 ≤ (L.getD ((i : Int)).toNat Cn.z).lc ∧ (L.getD ((i : Int)).toNat Cn.z).lc < 3) ∨ ((L.getD ((i : Int)).toNat Cn.z).kd = 3 ∧ (L.getD ((i : Int)).toNat Cn.z).n = 1) ∨ ((L.getD ((i : Int)).toNat Cn.z).kd = 4 ∧ (L.getD ((i : Int)).toNat Cn.z).n = 2) ∨ ((L.getD ((i : Int)).toNat Cn.z).kd = 5 ∧ (L.getD ((i : Int)).toNat Cn.z).n = 2)) ∧ l.length ≤ i := by
  have hl : (L.take n).length = n := by simp; omega
  have h := (hI.at (by rw [hl]; exact h1)).1
  rw [getD_take (by omega)] at h
  have hn0 : ¬ (L.getD ((i : Int)).toNat Cn.z).n < 0 := fun h' => h (.inl h')
  refine ⟨hn0, by omega, ?_, cn_kind hn0, hI.ll⟩
  rcases nd_any (L.getD ((i : Int)).toNat Cn.z) with h2 | h2
  · exact h2.2
  · omega
theorem EI.nx (hI : EI p (L.take n) l i) (hr : right (L.take n) = true) (hn : n ≤ L.length) (h1 : (i : Int) < ((n : Nat) : Int)) : EI p (L.take n) (stepL p (L.getD ((i : Int)).toNat Cn.z) l) (i + 1) := by
  have hl : (L.take n).length = n := by simp; omega
  have := hI.next (by rw [hr]; rfl) (by rw [hl]; exact h1)
  rw [getD_take (by omega)] at this
  exact this
theorem EI.fi (hI : EI p (L.take n) l i) (hr : right (L.take n) = true) (hn : n ≤ L.length) (h1 : ¬ (i : Int) < ((n : Nat) : Int)) : l.length = 1 ∧ evalB p (L.take n) = l.getD 0 false := by
  have hl : (L.take n).length = n := by simp; omega
  exact ⟨hI.fin (by rw [hl]; exact h1), hI.done (by rw [hr]; rfl) (by rw [hl]; exact h1)⟩
end
theorem lapp1 {l : List Bool} {k : Nat} {b : Bool} (h : k ≤ l.length) : (l.take k ++ [b]).getD k false = b := by
  have := getD_app_1 (l := l.take k) (x := b) (d := false)
  rw [List.length_take, Nat.min_eq_left h] at this; exact this
theorem foldb_ (p : O) (L : List Cn) (n : Nat) (c : Nat) (hn : n ≤ L.length) (hN : n ≤ 1000000) (hr : right (L.take n) = true) : Fn Tryd.prog 40 [.sl 0 n c, .fn 41 [.ptr 1 0]] [some (.lst 5 L.length (fun zz => cc (L.getD zz Cn.z))), some (.blk (oc p))] (Rt (.bool (evalB p (L.take n))) [some (.lst 5 L.length (fun zz => cc (L.getD zz Cn.z))), some (.blk (oc p))]) :=
 enterM (n := 36) (by kernel_rfl) Tryd.func40 rfl rfl rfl fun G w a h0 A => N hX 19 A rfl rfl fun A => have A := A.nilRow 5 4 1 (fun zz => [.bool (([] : List Bool).getD zz false)]) rfl (fun z => ⟨_, rfl, rfl⟩); LOOP2 (fun (l : List Bool) (i : Nat) => [(1, .fn 41 [.ptr 1 0]), (4, .ff), (5, .sl 2 l.length 0), (9, .sl 0 n c), (10, .int .i64 ((n : Nat) : Int)), (11, .int .i64 (i : Int))]) (fun (l : List Bool) (i : Nat) => [some (.lst 5 L.length (fun zz => cc (L.getD zz Cn.z))), some (.blk (oc p)), some (.row 4 1 l.length 0 (fun zz => [.bool (l.getD zz false)]))]) (fun (l : List Bool) (i : Nat) => EI p (L.take n) l i) (fun (l : List Bool) (i : Nat) => n - i) [] 0 (EI.i0 hr) ((A.cut [1, 4, 5, 9, 10, 11] rfl).trunc 3 rfl rfl rfl (by simp only [List.length_cons, List.length_nil] at h0; omega)) fun l i hI {G a w} A => N hX 6 A rfl rfl fun A => forkD 12 A rfl
   (fun h1 A => N hX 14 A rfl (ok_d (by have hq := hI.kn hn h1; omega) <| ok_d (by have hq := hI.kn hn h1; omega) <| okE_nil) fun A => N hX 5 A rfl rfl fun A => CALL1 [] (parts_ ((L.getD (((i : Int)).toNat) Cn.z).kd)) A rfl rfl rfl rfl rfl rfl rfl fun A => N hX 4 A rfl (ok_d (by have hq := hI.kn hn h1; omega) <| okE_nil) fun A => DRAWN hX hmo [] [(8, .bool (hv0 p ((L.getD (((i : Int)).toNat) Cn.z).kd) ((L.getD (((i : Int)).toNat) Cn.z).th) ((L.getD (((i : Int)).toNat) Cn.z).rg) ((L.getD (((i : Int)).toNat) Cn.z).lc) ((L.getD (((i : Int)).toNat) Cn.z).vl) l ((((l.length : Nat) : Int) - (parts0 ((L.getD (((i : Int)).toNat) Cn.z).kd))).toNat) (l.length - (((l.length : Nat) : Int) - (parts0 ((L.getD (((i : Int)).toNat) Cn.z).kd))).toNat)), [some (.lst 5 L.length (fun zz => cc (L.getD zz Cn.z))), some (.blk (oc p)), some (.row 4 1 l.length 0 (fun zz => [.bool (l.getD zz false)])), some (.blk [.int .i64 ((L.getD (((i : Int)).toNat) Cn.z).kd), .int .i64 ((L.getD (((i : Int)).toNat) Cn.z).th), .int .i64 ((L.getD (((i : Int)).toNat) Cn.z).rg), .int .i64 ((L.getD (((i : Int)).toNat) Cn.z).lc), .int .i64 ((L.getD (((i : Int)).toNat) Cn.z).vl)])]), (10, .sl 5 (((((l.length : Nat) : Int) - (parts0 ((L.getD (((i : Int)).toNat) Cn.z).kd))).toNat) + 1) 0, [some (.lst 5 L.length (fun zz => cc (L.getD zz Cn.z))), some (.blk (oc p)), none, some (.blk [.int .i64 ((L.getD (((i : Int)).toNat) Cn.z).kd), .int .i64 ((L.getD (((i : Int)).toNat) Cn.z).th), .int .i64 ((L.getD (((i : Int)).toNat) Cn.z).rg), .int .i64 ((L.getD (((i : Int)).toNat) Cn.z).lc), .int .i64 ((L.getD (((i : Int)).toNat) Cn.z).vl)]), some (.blk [.bool (hv0 p ((L.getD (((i : Int)).toNat) Cn.z).kd) ((L.getD (((i : Int)).toNat) Cn.z).th) ((L.getD (((i : Int)).toNat) Cn.z).rg) ((L.getD (((i : Int)).toNat) Cn.z).lc) ((L.getD (((i : Int)).toNat) Cn.z).vl) l ((((l.length : Nat) : Int) - (parts0 ((L.getD (((i : Int)).toNat) Cn.z).kd))).toNat) (l.length - (((l.length : Nat) : Int) - (parts0 ((L.getD (((i : Int)).toNat) Cn.z).kd))).toNat))]), some (.row 4 1 (((((l.length : Nat) : Int) - (parts0 ((L.getD (((i : Int)).toNat) Cn.z).kd))).toNat) + 1) 0 (fun zz => [.bool ((l.take ((((l.length : Nat) : Int) - (parts0 ((L.getD (((i : Int)).toNat) Cn.z).kd))).toNat) ++ [hv0 p ((L.getD (((i : Int)).toNat) Cn.z).kd) ((L.getD (((i : Int)).toNat) Cn.z).th) ((L.getD (((i : Int)).toNat) Cn.z).rg) ((L.getD (((i : Int)).toNat) Cn.z).lc) ((L.getD (((i : Int)).toNat) Cn.z).vl) l ((((l.length : Nat) : Int) - (parts0 ((L.getD (((i : Int)).toNat) Cn.z).kd))).toNat) (l.length - (((l.length : Nat) : Int) - (parts0 ((L.getD (((i : Int)).toNat) Cn.z).kd))).toNat)]).getD zz false)]))])] A rfl (ok_d (by show 0 ≤ ((l.length : Nat) : Int) - (parts0 ((L.getD (((i : Int)).toNat) Cn.z).kd)) ∧ ((l.length : Nat) : Int) - (parts0 ((L.getD (((i : Int)).toNat) Cn.z).kd)) ≤ ((l.length : Nat) : Int); exact (by have hq := hI.kn hn h1; omega)) <| ok_d (by show 0 ≤ ((l.length : Nat) : Int) - (parts0 ((L.getD (((i : Int)).toNat) Cn.z).kd)) ∧ ((l.length : Nat) : Int) - (parts0 ((L.getD (((i : Int)).toNat) Cn.z).kd)) ≤ ((l.length : Nat) : Int); exact (by have hq := hI.kn hn h1; omega)) <| ok_d (by show 0 ≤ ((l.length : Nat) : Int) - (parts0 ((L.getD (((i : Int)).toNat) Cn.z).kd)) ∧ ((l.length : Nat) : Int) - (parts0 ((L.getD (((i : Int)).toNat) Cn.z).kd)) ≤ ((l.length : Nat) : Int); exact (by have hq := hI.kn hn h1; omega)) <| ok_d (by have hq := hI.kn hn h1; omega) <| okE_nil) rfl rfl (by kernel_rfl) ⟨callE [1, 2] (hv_ p ((L.getD (((i : Int)).toNat) Cn.z).kd) ((L.getD (((i : Int)).toNat) Cn.z).th) ((L.getD (((i : Int)).toNat) Cn.z).rg) ((L.getD (((i : Int)).toNat) Cn.z).lc) ((L.getD (((i : Int)).toNat) Cn.z).vl) l ((((l.length : Nat) : Int) - (parts0 ((L.getD (((i : Int)).toNat) Cn.z).kd))).toNat) (l.length - (((l.length : Nat) : Int) - (parts0 ((L.getD (((i : Int)).toNat) Cn.z).kd))).toNat) (by have hq := hI.kn hn h1; omega) (by have hq := hI.kn hn h1; omega) (by have hq := hI.kn hn h1; omega) (by have hq := hI.kn hn h1; omega) (by have hq := hI.kn hn h1; omega)) rfl rfl rfl rfl rfl rfl rfl, ⟨trivial, ⟨eff_shrink (e := 4) (s := 1) 2 ((((l.length : Nat) : Int) - (parts0 ((L.getD (((i : Int)).toNat) Cn.z).kd))).toNat) rfl (by have hq := hI.kn hn h1; omega) (appE (i := 2) (e := 4) (s := 1) hX (((((l.length : Nat) : Int) - (parts0 ((L.getD (((i : Int)).toNat) Cn.z).kd))).toNat) + 1) (fun zz => [.bool ((l.take ((((l.length : Nat) : Int) - (parts0 ((L.getD (((i : Int)).toNat) Cn.z).kd))).toNat) ++ [hv0 p ((L.getD (((i : Int)).toNat) Cn.z).kd) ((L.getD (((i : Int)).toNat) Cn.z).th) ((L.getD (((i : Int)).toNat) Cn.z).rg) ((L.getD (((i : Int)).toNat) Cn.z).lc) ((L.getD (((i : Int)).toNat) Cn.z).vl) l ((((l.length : Nat) : Int) - (parts0 ((L.getD (((i : Int)).toNat) Cn.z).kd))).toNat) (l.length - (((l.length : Nat) : Int) - (parts0 ((L.getD (((i : Int)).toNat) Cn.z).kd))).toNat)]).getD zz false)]) rfl rfl rfl rfl (by have hq := hI.kn hn h1; omega) rfl (fun q hq => by show [SV.bool _] = [SV.bool _]; rw [getD_app_l (by rw [List.length_take]; have hq := hI.kn hn h1; omega), getD_take hq]) (by show [SV.bool _] = _; rw [lapp1 (by have hq := hI.kn hn h1; omega)]) (fun z => ⟨_, rfl, rfl⟩)), trivial⟩⟩⟩ trivial fun A => N hX 6 A rfl (ok_d (by have hq := hI.kn hn h1; omega) <| okE_nil) fun A => ⟨stepL p (L.getD ((i : Int)).toNat Cn.z) l, i + 1, _, (by omega), (hI.nx hr hn h1), ((((A.rowAs 5 (stepL p (L.getD ((i : Int)).toNat Cn.z) l).length (fun zz => [.bool ((stepL p (L.getD ((i : Int)).toNat Cn.z) l).getD zz false)]) rfl (by rw [← (fold_st (F := (((l.length : Nat) : Int) - parts0 (L.getD ((i : Int)).toNat Cn.z).kd).toNat) (hI.kn hn h1).1 (hI.kn hn h1).2.1 (hI.kn hn h1).2.2.1 rfl), List.length_append, List.length_take, List.length_cons, List.length_nil]; have hq := hI.kn hn h1; omega) (fun q hq => by show [SV.bool _] = [SV.bool _]; rw [← (fold_st (F := (((l.length : Nat) : Int) - parts0 (L.getD ((i : Int)).toNat Cn.z).kd).toNat) (hI.kn hn h1).1 (hI.kn hn h1).2.1 (hI.kn hn h1).2.2.1 rfl)]) (fun z => ⟨_, rfl, rfl⟩)).say 5 (.sl 5 (stepL p (L.getD ((i : Int)).toNat Cn.z) l).length 0) rfl (by rw [show (stepL p (L.getD ((i : Int)).toNat Cn.z) l).length = (((l.length : Nat) : Int) - parts0 (L.getD ((i : Int)).toNat Cn.z).kd).toNat + 1 from (by rw [← (fold_st (F := (((l.length : Nat) : Int) - parts0 (L.getD ((i : Int)).toNat Cn.z).kd).toNat) (hI.kn hn h1).1 (hI.kn hn h1).2.1 (hI.kn hn h1).2.2.1 rfl), List.length_append, List.length_take, List.length_cons, List.length_nil]; have hq := hI.kn hn h1; omega)])).cut [1, 4, 5, 9, 10, 11] rfl).mv 2 [5] rfl rfl rfl rfl (by simp only [List.length_cons, List.length_nil] at h0; omega))⟩)
   (fun h1 A => N hX 12 A rfl (ok_d (by have hq := (hI.fi hr hn h1).1; omega) <| ok_d (by have hq := (hI.fi hr hn h1).1; omega) <| okE_nil) fun A => RETN hX A rfl rfl rfl h0 rfl rfl rfl rfl (by rw [(hI.fi hr hn h1).2]; rfl) rfl)
end Go.Proofs.YtbghlhhoafkmgaaDoor
/- Whether a condition holds. -/
namespace Go.Proofs.YtbghlhhoafkmgaaDoor
open Go.RowKit
set_option linter.unusedVariables false
set_option linter.unusedSimpArgs false
set_option maxRecDepth 100000
set_option maxHeartbeats 2000000
set_option simprocs false
theorem holds_ (p : O) (L : List Cn) (n : Nat) (c : Nat) (hn : n ≤ L.length) (hN : n ≤ 1000000) (hr : right (L.take n) = true) : Fn Tryd.prog 25 [.agg (oc p), .sl 0 n c] [some (.lst 5 L.length (fun zz => cc (L.getD zz Cn.z)))] (Rt (.bool (evalB p (L.take n))) [some (.lst 5 L.length (fun zz => cc (L.getD zz Cn.z)))]) :=
 enterM (n := 8) (by kernel_rfl) Tryd.func25 rfl rfl rfl fun G w a h0 A => N hX 10 A rfl rfl fun A => CALL1 [0, 1] (foldb_ p L n c hn hN hr) A rfl rfl rfl rfl rfl rfl rfl fun A => N hX 4 A rfl rfl fun A => RETN hX A rfl rfl rfl h0 rfl rfl rfl rfl rfl rfl
theorem peval_ (p : O) (L : List Cn) (n : Nat) (c : Nat) (hn : n ≤ L.length) (hN : n ≤ 1000000) : Fn Tryd.prog 11 [.agg (oc p), .sl 0 n c] [some (.lst 5 L.length (fun zz => cc (L.getD zz Cn.z)))] (Rt (.bool (evalB p (L.take n))) [some (.lst 5 L.length (fun zz => cc (L.getD zz Cn.z)))]) :=
 enterM (n := 12) (by kernel_rfl) Tryd.func11 rfl rfl rfl fun G w a h0 A => N hX 9 A rfl rfl fun A => CALL1 [0] (pright_ L n c hn) A rfl rfl rfl rfl rfl rfl rfl fun A => N hX 1 A rfl rfl fun A => fork 7 A rfl
  (fun h1 A => N hX 2 A rfl rfl fun A => CALL1 [0] (holds_ p L n c hn hN h1) A rfl rfl rfl rfl rfl rfl rfl fun A => N hX 5 A rfl rfl fun A => RETN hX A rfl rfl rfl h0 rfl rfl rfl rfl (by rfl) rfl)
  (fun h1 A => N hX 8 A rfl rfl fun A => RETN hX A rfl rfl rfl h0 rfl rfl rfl rfl (by rw [show evalB p (L.take n) = false by unfold evalB; rw [if_neg (by rw [h1]; simp)]]; rfl) rfl)
theorem jone_ (p : O) (qu : Int) (L : List Cn) (n : Nat) (c : Nat) (hn : n ≤ L.length) (hN : n ≤ 1000000) (hr : right (L.take n) = true) : Fn Tryd.prog 38 [.agg (oc p), .ptr 0 0, .ptr 1 0] [some (.blk [.sl 2 n c]), some (.blk [.int .i64 qu]), some (.lst 5 L.length (fun zz => cc (L.getD zz Cn.z)))] (Rt (.bool ((evalB p (L.take n)) == (!(qu == 3)))) [some (.blk [.sl 2 n c]), some (.blk [.int .i64 qu]), some (.lst 5 L.length (fun zz => cc (L.getD zz Cn.z)))]) :=
 enterM (n := 11) (by kernel_rfl) Tryd.func38 rfl rfl rfl fun G w a h0 A => N hX 7 A rfl rfl fun A => DRAWN hX hmo [] [(2, .bool (evalB p (L.take n)), [some (.blk [.sl 2 n c]), some (.blk [.int .i64 qu]), some (.lst 5 L.length (fun zz => cc (L.getD zz Cn.z))), some (.blk (oc p))])] A rfl rfl rfl rfl (by kernel_rfl) ⟨callE [2] (holds_ p L n c hn hN hr) rfl rfl rfl rfl rfl rfl rfl, trivial⟩ trivial fun A => N hX 2 A rfl rfl fun A => RETN hX A rfl rfl rfl h0 rfl rfl rfl rfl rfl rfl
def px (b : O → Bool) : List O → Int → Int
  | [], _ => -1
  | x :: r, i => if b x = true then i else px b r (i + 1)
theorem px_is (b : O → Bool) : ∀ (l : List O) (i : Int), (l.find? b = none ∧ px b l i = -1) ∨ ∃ k, k < l.length ∧ px b l i = i + (k : Int) ∧ l.find? b = some (l.getD k oz)
  | [], i => .inl ⟨rfl, rfl⟩
  | x :: r, i => by
    unfold px
    cases e : b x with
    | true => exact .inr ⟨0, by simp, by simp, by rw [List.find?_cons, e]; rfl⟩
    | false =>
      rw [List.find?_cons, e, if_neg (by simp)]
      rcases px_is b r (i + 1) with h | ⟨k, h1, h2, h3⟩
      · exact .inl h
      · exact .inr ⟨k + 1, by simp; omega, by rw [h2]; omega, by rw [h3]; rfl⟩
structure XI (b : O → Bool) (S : List O) (i : Nat) : Prop where
  le : i ≤ S.length
  eq : px b S 0 = px b (S.drop i) (i : Int)
section
variable {b : O → Bool} {S : List O} {i : Nat}
theorem XI.at (h : XI b S i) (h1 : (i : Int) < ((S.length : Nat) : Int)) : px b S 0 = if b (S.getD ((i : Int)).toNat oz) = true then (i : Int) else px b (S.drop (i + 1)) ((i : Int) + 1) := by
  have hi : i < S.length := by omega
  rw [h.eq, List.drop_eq_getElem_cons hi, px, show S.getD ((i : Int)).toNat oz = S[i] by simp [List.getD, hi]]
theorem XI.yes (h : XI b S i) (h1 : (i : Int) < ((S.length : Nat) : Int)) (h2 : b (S.getD ((i : Int)).toNat oz) = true) : px b S 0 = (i : Int) := by rw [h.at h1, if_pos h2]
theorem XI.no (h : XI b S i) (h1 : (i : Int) < ((S.length : Nat) : Int)) (h2 : b (S.getD ((i : Int)).toNat oz) = false) : XI b S (i + 1) := ⟨by omega, by rw [h.at h1, if_neg (by rw [h2]; simp)]; rfl⟩
theorem XI.out (h : XI b S i) (h1 : ¬ (i : Int) < ((S.length : Nat) : Int)) : px b S 0 = -1 := by rw [h.eq, List.drop_eq_nil_of_le (by omega), px]
end
theorem bfal {x y : Bool} (h : x ≠ y) : (x == y) = false := by cases x <;> cases y <;> simp at h ⊢
theorem btru {x y : Bool} (h : x = y) : (x == y) = true := by rw [h]; simp
theorem index_ (qu : Int) (L : List Cn) (n : Nat) (c : Nat) (S : List O) (hn : n ≤ L.length) (hN : n ≤ 1000000) (hr : right (L.take n) = true) (hS : S.length ≤ 1000000) : Fn Tryd.prog 37 [.sl 3 S.length 0, .fn 38 [.ptr 0 0, .ptr 1 0]] [some (.blk [.sl 2 n c]), some (.blk [.int .i64 qu]), some (.lst 5 L.length (fun zz => cc (L.getD zz Cn.z))), some (.row 26 27 S.length 0 (fun zz => oc (S.getD zz oz)))] (Rt (.int .i64 (px (fun x => (evalB x (L.take n)) == (!(qu == 3))) S 0)) [some (.blk [.sl 2 n c]), some (.blk [.int .i64 qu]), some (.lst 5 L.length (fun zz => cc (L.getD zz Cn.z))), some (.row 26 27 S.length 0 (fun zz => oc (S.getD zz oz)))]) :=
 enterM (n := 19) (by kernel_rfl) Tryd.func37 rfl rfl rfl fun G w a h0 A => N hX 14 A rfl rfl fun A => LOOP1 (fun (i : Nat) => [(0, .sl 3 S.length 0), (1, .fn 38 [.ptr 0 0, .ptr 1 0]), (4, .int .i64 0), (7, .int .i64 ((S.length : Nat) : Int)), (8, .int .i64 (i : Int))]) (fun (i : Nat) => [some (.blk [.sl 2 n c]), some (.blk [.int .i64 qu]), some (.lst 5 L.length (fun zz => cc (L.getD zz Cn.z))), some (.row 26 27 S.length 0 (fun zz => oc (S.getD zz oz)))]) (fun (i : Nat) => XI (fun x => (evalB x (L.take n)) == (!(qu == 3))) S i) (fun (i : Nat) => S.length - i) 0 ⟨Nat.zero_le _, by simp⟩ ((A.cut [0, 1, 4, 7, 8] rfl).trunc 4 rfl rfl rfl (by simp only [List.length_cons, List.length_nil] at h0; omega)) fun i hI {G a w} A => N hX 6 A rfl rfl fun A => forkD 9 A rfl
   (fun h1 A => N hX 18 A rfl (ok_d (by (try have := hI.le); omega) <| ok_d (by (try have := hI.le); omega) <| okE_nil) fun A => CALL1 [0, 1, 2] (jone_ (S.getD (((i : Int)).toNat) oz) qu L n c hn hN hr) A rfl rfl rfl rfl rfl rfl rfl fun A => N hX 2 A rfl rfl fun A => forkE 16 A rfl
    (fun h2 A => N hX 8 A rfl rfl fun A => RETN hX A rfl rfl rfl h0 rfl rfl rfl rfl (by rw [hI.yes h1 (btru h2)]; rfl) rfl)
    (fun h2 A => N hX 8 A rfl (ok_d (by (try have := hI.le); omega) <| okE_nil) fun A => ⟨i + 1, _, (by omega), (hI.no h1 (bfal h2)), ((A.cut [0, 1, 4, 7, 8] rfl).trunc 4 rfl rfl rfl (by simp only [List.length_cons, List.length_nil] at h0; omega))⟩))
   (fun h1 A => N hX 9 A rfl rfl fun A => RETN hX A rfl rfl rfl h0 rfl rfl rfl rfl (by rw [hI.out h1]; rfl) rfl)
end Go.Proofs.YtbghlhhoafkmgaaDoor
/- A verdict. -/
namespace Go.Proofs.YtbghlhhoafkmgaaDoor
open Go.RowKit
set_option linter.unusedVariables false
set_option linter.unusedSimpArgs false
set_option maxRecDepth 100000
set_option maxHeartbeats 2000000
set_option simprocs false
theorem rtrue {b : Bool} (h : (!b) = false) : b = true := by cases b <;> simp at h ⊢
theorem cA_len (d : Array O) : ∀ i, (cA d i).length ≤ i
  | 0 => Nat.le_refl _
  | i + 1 => by
    have := cA_len d i
    rw [cA]; split
    · omega
    · rw [List.length_append, List.length_cons, List.length_nil]; omega
theorem sl_len (os : List O) : (sortL os).length ≤ os.length := cA_len _ _
theorem qu_t {qu : Int} (h : (((!(qu == 1)) && (!(qu == 2))) && (!(qu == 3))) = true) : ((decide (qu < 1)) || (decide (qu > 3))) = true := by
  simp only [Bool.and_eq_true, Bool.not_eq_true', beq_eq_false_iff_ne] at h
  by_cases h1 : qu < 1
  · rw [decide_eq_true h1]; rfl
  · rw [decide_eq_true (show qu > 3 by omega)]; simp
theorem qu_f {qu : Int} (h : (((!(qu == 1)) && (!(qu == 2))) && (!(qu == 3))) = false) : ((decide (qu < 1)) || (decide (qu > 3))) = false := by
  by_cases h1 : qu = 1
  · subst h1; rfl
  by_cases h2 : qu = 2
  · subst h2; rfl
  by_cases h3 : qu = 3
  · subst h3; rfl
  have : (((!(qu == 1)) && (!(qu == 2))) && (!(qu == 3))) = true := by simp [h1, h2, h3]
  rw [this] at h; cases h
section
variable {qu : Int} {cs : List Cn} {os : List O} (ho : ∀ y ∈ os, Can y) (h1 : (((!(qu == 1)) && (!(qu == 2))) && (!(qu == 3))) = false) (h2 : (!(right cs)) = false)
include ho h1 h2
theorem pj_some (h3 : px (fun x => (evalB x cs) == (!(qu == 3))) (sortL os) 0 ≥ 0) : jE qu cs = 0 ∧ jW qu cs os = true ∧ jO qu cs os = (sortL os).getD (px (fun x => (evalB x cs) == (!(qu == 3))) (sortL os) 0).toNat oz ∧ jH qu cs os = (qu == 1) ∧ jN qu cs os = (((sortL os).length : Nat) : Int) ∧ (px (fun x => (evalB x cs) == (!(qu == 3))) (sortL os) 0).toNat < (sortL os).length := by
  have hr := rtrue h2
  have hk : jOK qu cs = true := by unfold jOK; rw [qu_f h1, hr]; rfl
  rcases px_is (fun x => (evalB x cs) == (!(qu == 3))) (sortL os) 0 with ⟨_, h⟩ | ⟨k, k1, k2, k3⟩
  · omega
  · have k3' : jF qu cs (sortO os) = some ((sortL os).getD k oz) := by unfold jF; rw [← sort_eq ho]; exact k3
    have hw : jW qu cs os = true := by unfold jW; rw [hk, k3']; rfl
    have e : (px (fun x => (evalB x cs) == (!(qu == 3))) (sortL os) 0).toNat = k := by omega
    rw [e]
    refine ⟨by unfold jE; rw [if_neg (by rw [qu_f h1]; simp), if_pos hr], hw, by unfold jO; rw [if_pos hk, k3']; rfl, by unfold jH; rw [hk, hw]; cases (qu == 1) <;> rfl, by unfold jN; rw [if_pos hk, sort_eq ho], k1⟩
theorem pj_none (h3 : ¬ px (fun x => (evalB x cs) == (!(qu == 3))) (sortL os) 0 ≥ 0) : jE qu cs = 0 ∧ jW qu cs os = false ∧ jO qu cs os = oz ∧ jH qu cs os = (false == (qu == 1)) ∧ jN qu cs os = (((sortL os).length : Nat) : Int) := by
  have hr := rtrue h2
  have hk : jOK qu cs = true := by unfold jOK; rw [qu_f h1, hr]; rfl
  rcases px_is (fun x => (evalB x cs) == (!(qu == 3))) (sortL os) 0 with ⟨h, _⟩ | ⟨k, k1, k2, k3⟩
  · have k3' : jF qu cs (sortO os) = none := by unfold jF; rw [← sort_eq ho]; exact h
    have hw : jW qu cs os = false := by unfold jW; rw [hk, k3']; rfl
    refine ⟨by unfold jE; rw [if_neg (by rw [qu_f h1]; simp), if_pos hr], hw, by unfold jO; rw [if_pos hk, k3']; rfl, by unfold jH; rw [hk, hw]; rfl, by unfold jN; rw [if_pos hk, sort_eq ho]⟩
  · omega
end
theorem pjudge_ (qu : Int) (L : List Cn) (n : Nat) (c : Nat) (os : List O) (c2 : Nat) (hn : n ≤ L.length) (hN : n ≤ 1000000) (hs : os.length ≤ 1000000) (ho : ∀ y ∈ os, Can y) : Fn Tryd.prog 21 [.int .i64 qu, .sl 0 n c, .sl 1 os.length c2] [some (.lst 5 L.length (fun zz => cc (L.getD zz Cn.z))), some (.lst 27 os.length (fun zz => oc (os.getD zz oz)))] (Rt (.tup [.agg [.bool (jH qu (L.take n) os), .bool (jW qu (L.take n) os), .int .i64 ((jO qu (L.take n) os) 0), .int .i64 ((jO qu (L.take n) os) 1), .int .i64 ((jO qu (L.take n) os) 2), .int .i64 ((jO qu (L.take n) os) 3), .int .i64 ((jO qu (L.take n) os) 4), .int .i64 ((jO qu (L.take n) os) 5), .int .i64 ((jO qu (L.take n) os) 6), .int .i64 ((jO qu (L.take n) os) 7), .int .i64 ((jO qu (L.take n) os) 8), .int .i64 ((jO qu (L.take n) os) 9), .int .i64 ((jO qu (L.take n) os) 10), .int .i64 ((jO qu (L.take n) os) 11), .int .i64 ((jO qu (L.take n) os) 12), .int .i64 ((jO qu (L.take n) os) 13), .int .i64 ((jO qu (L.take n) os) 14), .int .i64 ((jO qu (L.take n) os) 15), .int .i64 ((jO qu (L.take n) os) 16), .int .i64 ((jO qu (L.take n) os) 17), .int .i64 ((jO qu (L.take n) os) 18), .int .i64 ((jO qu (L.take n) os) 19), .int .i64 ((jO qu (L.take n) os) 20), .int .i64 ((jO qu (L.take n) os) 21), .int .i64 ((jO qu (L.take n) os) 22), .int .i64 ((jO qu (L.take n) os) 23), .int .i64 ((jO qu (L.take n) os) 24), .int .i64 ((jO qu (L.take n) os) 25), .int .i64 ((jO qu (L.take n) os) 26), .int .i64 (jN qu (L.take n) os)], .int .i64 (jE qu (L.take n))]) [some (.lst 5 L.length (fun zz => cc (L.getD zz Cn.z))), some (.lst 27 os.length (fun zz => oc (os.getD zz oz)))]) :=
 enterM (n := 50) (by kernel_rfl) Tryd.func21 rfl rfl rfl fun G w a h0 A => N hX 23 A rfl rfl fun A => fork 20 A rfl
  (fun h1 A => N hX 9 A rfl rfl fun A => RETN hX A rfl rfl rfl h0 rfl rfl rfl rfl (by have h := j0 (cs := L.take n) (os := os) (qu_t h1); rw [h.1, h.2.1, h.2.2.1, h.2.2.2.1, h.2.2.2.2]; rfl) rfl)
  (fun h1 A => N hX 7 A rfl rfl fun A => CALL1 [0] (pright_ L n c hn) A rfl rfl rfl rfl rfl rfl rfl fun A => N hX 3 A rfl rfl fun A => fork 24 A rfl
   (fun h2 A => N hX 9 A rfl rfl fun A => RETN hX A rfl rfl rfl h0 rfl rfl rfl rfl (by have h := j1 (os := os) (qu_f h1) h2; rw [h.1, h.2.1, h.2.2.1, h.2.2.2.1, h.2.2.2.2]; rfl) rfl)
   (fun h2 A => N hX 6 A rfl rfl fun A => CALL1 [1] (sort_ os c2 hs) A rfl rfl rfl rfl rfl rfl rfl fun A => N hX 7 A rfl rfl fun A => CALL1 [3, 2, 0, 5] (index_ qu L n c (sortL os) hn hN (rtrue h2) (by have := sl_len os; omega)) A rfl rfl rfl rfl rfl rfl rfl fun A => N hX 32 A rfl rfl fun A => forkD 43 A rfl
    (fun h3 A => N hX 11 A rfl (ok_d (by have := sl_len os; have hz := (pj_some ho h1 h2 h3).2.2.2.2.2; omega) <| ok_d (by have := sl_len os; have hz := (pj_some ho h1 h2 h3).2.2.2.2.2; omega) <| okE_nil) fun A => N hX 7 A rfl rfl fun A => RETN hX A rfl rfl rfl h0 rfl rfl rfl rfl (by have h := pj_some ho h1 h2 h3; rw [h.1, h.2.1, h.2.2.1, h.2.2.2.1, h.2.2.2.2.1, decide_eq_true h3]; cases (qu == 1) <;> rfl) rfl)
    (fun h3 A => N hX 11 A rfl rfl fun A => RETN hX A rfl rfl rfl h0 rfl rfl rfl rfl (by have h := pj_none ho h1 h2 h3; rw [h.1, h.2.1, h.2.2.1, h.2.2.2.1, h.2.2.2.2, decide_eq_false h3]; rfl) rfl)))
end Go.Proofs.YtbghlhhoafkmgaaDoor
/- strconv.Itoa at this program. -/
namespace Go.Proofs.YtbghlhhoafkmgaaDoor
open Go.Shelf Go.RowKit
set_option linter.unusedVariables false
def laysItoa_ren : Go.Shelf.Ren := ⟨fun | 129 => 72 | 171 => 46 | 243 => 60 | 246 => 74 | 283 => 82 | 284 => 83 | 285 => 84 | 286 => 85 | 317 => 87 | 318 => 88 | 319 => 89 | 320 => 90 | 337 => 91 | 338 => 92 | n => n, fun | 0 => 0 | 2 => 2 | 3 => 3 | 4 => 4 | 5 => 5 | 9 => 9 | 20 => 20 | 37 => 96 | 46 => 89 | 51 => 106 | 53 => 108 | 171 => 119 | 173 => 121 | 212 => 127 | 213 => 128 | 232 => 129 | 233 => 130 | n => n, fun | 17 => 0 | 18 => 1 | 19 => 2 | n => n⟩
theorem laysItoa : Go.Proofs.LaysM.n171 Tryd.prog laysItoa_ren := {
  mixed := by kernel_rfl
  f129 := Tryd.func72.trans (congrArg some (by kernel_rfl))
  f171 := Tryd.func46.trans (congrArg some (by kernel_rfl))
  f243 := Tryd.func60.trans (congrArg some (by kernel_rfl))
  f246 := Tryd.func74.trans (congrArg some (by kernel_rfl))
  f283 := Tryd.func82.trans (congrArg some (by kernel_rfl))
  f284 := Tryd.func83.trans (congrArg some (by kernel_rfl))
  f285 := Tryd.func84.trans (congrArg some (by kernel_rfl))
  f286 := Tryd.func85.trans (congrArg some (by kernel_rfl))
  f317 := Tryd.func87.trans (congrArg some (by kernel_rfl))
  f318 := Tryd.func88.trans (congrArg some (by kernel_rfl))
  f319 := Tryd.func89.trans (congrArg some (by kernel_rfl))
  f320 := Tryd.func90.trans (congrArg some (by kernel_rfl))
  f337 := Tryd.func91.trans (congrArg some (by kernel_rfl))
  f338 := Tryd.func92.trans (congrArg some (by kernel_rfl))
  t0 := Tryd.underlying0
  a0 := Tryd.isAgg0
  z0 := Tryd.sizeOf0
  v0 := Tryd.zeroValue0
  t2 := Tryd.underlying2
  a2 := Tryd.isAgg2
  z2 := Tryd.sizeOf2
  v2 := Tryd.zeroValue2
  t3 := Tryd.underlying3
  a3 := Tryd.isAgg3
  z3 := Tryd.sizeOf3
  v3 := Tryd.zeroValue3
  t4 := Tryd.underlying4
  a4 := Tryd.isAgg4
  z4 := Tryd.sizeOf4
  v4 := Tryd.zeroValue4
  t5 := Tryd.underlying5
  a5 := Tryd.isAgg5
  z5 := Tryd.sizeOf5
  v5 := Tryd.zeroValue5
  t9 := Tryd.underlying9
  a9 := Tryd.isAgg9
  z9 := Tryd.sizeOf9
  v9 := Tryd.zeroValue9
  t20 := Tryd.underlying20
  a20 := Tryd.isAgg20
  z20 := Tryd.sizeOf20
  v20 := Tryd.zeroValue20
  t37 := Tryd.underlying96
  a37 := Tryd.isAgg96
  z37 := Tryd.sizeOf96
  v37 := Tryd.zeroValue96
  t46 := Tryd.underlying89
  a46 := Tryd.isAgg89
  z46 := Tryd.sizeOf89
  v46 := Tryd.zeroValue89
  t51 := Tryd.underlying106
  a51 := Tryd.isAgg106
  z51 := Tryd.sizeOf106
  v51 := Tryd.zeroValue106
  t53 := Tryd.underlying108
  a53 := Tryd.isAgg108
  z53 := Tryd.sizeOf108
  v53 := Tryd.zeroValue108
  t171 := Tryd.underlying119
  a171 := Tryd.isAgg119
  z171 := Tryd.sizeOf119
  v171 := Tryd.zeroValue119
  t173 := Tryd.underlying121
  a173 := Tryd.isAgg121
  z173 := Tryd.sizeOf121
  v173 := Tryd.zeroValue121
  t212 := Tryd.underlying127
  a212 := Tryd.isAgg127
  z212 := Tryd.sizeOf127
  v212 := Tryd.zeroValue127
  t213 := Tryd.underlying128
  a213 := Tryd.isAgg128
  z213 := Tryd.sizeOf128
  t232 := Tryd.underlying129
  a232 := Tryd.isAgg129
  z232 := Tryd.sizeOf129
  v232 := Tryd.zeroValue129
  t233 := Tryd.underlying130
  a233 := Tryd.isAgg130
  z233 := Tryd.sizeOf130
  v233 := Tryd.zeroValue130
  g17 := by kernel_rfl
  g18 := by kernel_rfl
  g19 := by kernel_rfl
  i0 := by kernel_rfl
  i2 := by kernel_rfl
  i3 := by kernel_rfl
  i4 := by kernel_rfl
  i5 := by kernel_rfl
  i9 := by kernel_rfl
  i20 := by kernel_rfl
  i37 := by kernel_rfl
  i46 := by kernel_rfl
  i51 := by kernel_rfl
  i53 := by kernel_rfl
  i171 := by kernel_rfl
  i173 := by kernel_rfl
  i212 := by kernel_rfl
  i232 := by kernel_rfl
  i233 := by kernel_rfl
  m17 := by kernel_rfl
  m18 := by kernel_rfl
  m19 := by kernel_rfl }
theorem itoa_any (n : Int) (h0 : -9223372036854775808 ≤ n) (h1 : n ≤ 9223372036854775807) (w : World) (htab : Lib.TabIs Tryd.prog w "internal/strconv.uint64pow10" .u64 Lib.pow10Tab) : Calls Tryd.prog 46 #[.int .i64 n] w fun e w' => e = .returned (.string (S (Lib.itoa n))) ∧ Grow w w' := by
  refine (Any.strconv_Itoa laysItoa n h0 h1 w htab).mono ?_
  rintro e w' ⟨rfl, k, os, rfl⟩
  refine ⟨rfl, ⟨rfl, rfl, rfl, ?_, fun j hj => ?_⟩⟩
  · show w.heap.size ≤ ((w.drewN k).heap ++ os).size
    rw [Array.size_append]
    exact Nat.le_add_right _ _
  · show ((w.drewN k).heap ++ os)[j]? = w.heap[j]?
    exact Array.getElem?_append_left hj
end Go.Proofs.YtbghlhhoafkmgaaDoor
/- Names, kinds, numbers as texts. -/
namespace Go.Proofs.YtbghlhhoafkmgaaDoor
open Go.RowKit
set_option linter.unusedVariables false
set_option linter.unusedSimpArgs false
set_option maxRecDepth 100000
set_option maxHeartbeats 2000000
set_option simprocs false
theorem xregs_   : Fn Tryd.prog 56 [] [] (Rt (.agg [.str [82, 65, 88], .str [82, 66, 88], .str [82, 67, 88], .str [82, 68, 88], .str [82, 83, 73], .str [82, 68, 73], .str [82, 56], .str [82, 57]]) []) :=
 enterM (n := 2) (by kernel_rfl) Tryd.func56 rfl rfl rfl fun G w a h0 A => N hX 12 A rfl rfl fun A => RETN hX A rfl rfl rfl h0 rfl rfl rfl rfl rfl rfl
def regnm0 (s0 : List UInt8) (s1 : List UInt8) (s2 : List UInt8) (s3 : List UInt8) (s4 : List UInt8) (s5 : List UInt8) (s6 : List UInt8) (s7 : List UInt8) (r : Int) : List UInt8 := if ((decide (r < 0)) || (decide (r ≥ 8))) = true then [] else [s0, s1, s2, s3, s4, s5, s6, s7].getD (r).toNat []
theorem regnm_ (s0 : List UInt8) (s1 : List UInt8) (s2 : List UInt8) (s3 : List UInt8) (s4 : List UInt8) (s5 : List UInt8) (s6 : List UInt8) (s7 : List UInt8) (r : Int)  : Fn Tryd.prog 57 [.agg [.str s0, .str s1, .str s2, .str s3, .str s4, .str s5, .str s6, .str s7], .int .i64 r] [] (Rt (.str (regnm0 s0 s1 s2 s3 s4 s5 s6 s7 r)) []) :=
 enterM (n := 14) (by kernel_rfl) Tryd.func57 rfl rfl rfl fun G w a h0 A => N hX 17 A rfl rfl fun A => fork 10 A rfl
  (fun h1 A => N hX 7 A rfl rfl fun A => RETN hX A rfl rfl rfl h0 rfl rfl rfl rfl (by simp only [oneS, nb, nbL, nbH, regnm0, if_pos h1]) rfl)
  (fun h1 A => N hX 12 A rfl (ok_d (by have hz := h1; simp only [Bool.or_eq_false_iff, decide_eq_false_iff_not] at hz; omega) <| ok_d (by have hz := h1; simp only [Bool.or_eq_false_iff, decide_eq_false_iff_not] at hz; omega) <| okE_nil) fun A => RETN hX A rfl rfl rfl h0 rfl rfl rfl rfl (by simp only [oneS, nb, nbL, nbH, regnm0, if_neg (ne_true_of_eq_false h1)]) rfl)
theorem xname_ (r : Int)  : Fn Tryd.prog 43 [.int .i64 r] [] (Rt (.str (regnm0 [82, 65, 88] [82, 66, 88] [82, 67, 88] [82, 68, 88] [82, 83, 73] [82, 68, 73] [82, 56] [82, 57] r)) []) :=
 enterM (n := 6) (by kernel_rfl) Tryd.func43 rfl rfl rfl fun G w a h0 A => N hX 7 A rfl rfl fun A => CALL1 [] (xregs_ ) A rfl rfl rfl rfl rfl rfl rfl fun A => N hX 1 A rfl rfl fun A => CALL1 [] (regnm_ [82, 65, 88] [82, 66, 88] [82, 67, 88] [82, 68, 88] [82, 83, 73] [82, 68, 73] [82, 56] [82, 57] r) A rfl rfl rfl rfl rfl rfl rfl fun A => N hX 4 A rfl rfl fun A => RETN hX A rfl rfl rfl h0 rfl rfl rfl rfl rfl rfl
theorem nm_at {nm : Nat → List UInt8} {k q : Nat} (h : q < k) : ((List.range k).map nm).getD q [] = nm q := by
  simp [List.getD, h]
theorem alln_ (f : Nat) (nm : Nat → List UInt8) (h : ∀ k : Nat, k < 8 → Fn Tryd.prog f [.int .i64 (k : Int)] [] (Rt (.str (nm k)) [])) : Fn Tryd.prog 42 [.fn f []] [] (Rt (.sl 0 8 0) [some (.row 9 1 8 0 (fun zz => [.str (((List.range 8).map nm).getD zz [])]))]) :=
 enterM (n := 16) (by kernel_rfl) Tryd.func42 rfl rfl rfl fun G w a h0 A => N hX 17 A rfl rfl fun A => have A := A.nilRow 3 9 1 (fun zz => [.str (((List.range 0).map nm).getD zz [])]) rfl (fun z => ⟨_, rfl, rfl⟩); LOOP1 (fun (k : Nat) => [(0, .fn f []), (2, .sla none 0 0), (3, .sl 0 k 0), (5, .int .i64 (k : Int))]) (fun (k : Nat) => [some (.row 9 1 k 0 (fun zz => [.str (((List.range k).map nm).getD zz [])]))]) (fun (k : Nat) => k ≤ 8) (fun (k : Nat) => 8 - k) 0 (Nat.zero_le _) ((A.cut [0, 2, 3, 5] rfl).trunc 1 rfl rfl rfl (by simp only [List.length_cons, List.length_nil] at h0; omega)) fun k hI {G a w} A => N hX 6 A rfl rfl fun A => forkD 6 A rfl
   (fun h1 A => N hX 15 A rfl rfl fun A => CALL1 [] (h k (by omega)) A rfl rfl rfl rfl rfl rfl rfl fun A => N hX 1 A rfl rfl fun A => APP1 hX (k + 1) (fun zz => [.str (((List.range (k + 1)).map nm).getD zz [])]) A rfl rfl rfl rfl (by omega) rfl (fun q hq => by show [SV.str _] = [SV.str _]; rw [nm_at (by omega), nm_at hq]) (by show [SV.str _] = _; rw [nm_at (by omega)]) (fun z => ⟨_, rfl, rfl⟩) fun A => N hX 8 A rfl (ok_d (by omega) <| okE_nil) fun A => ⟨k + 1, _, (by omega), (by omega), ((A.cut [0, 2, 3, 5] rfl).mv 0 [2] rfl rfl rfl rfl (by simp only [List.length_cons, List.length_nil] at h0; omega))⟩)
   (fun h1 A => N hX 10 A rfl rfl fun A => have e : k = 8 := (by omega); have A := A.rowAs 0 8 (fun zz => [.str (((List.range 8).map nm).getD zz [])]) rfl e.symm (fun q hq => by rw [e]) (fun z => ⟨_, rfl, rfl⟩); have A := A.say 2 (.sl 0 8 0) rfl (by rw [e]); RET hX [0] A ⟨rfl, rfl⟩ rfl rfl rfl rfl rfl rfl rfl rfl h0)
def ixf (v : Int) : List Int → Int → Int
  | [], _ => -1
  | x :: r, i => if v = x then i else ixf v r (i + 1)
structure VI (v : Int) (ks : List Int) (i : Nat) : Prop where
  le : i ≤ ks.length
  eq : ixf v ks 0 = ixf v (ks.drop i) (i : Int)
theorem VI.at {v : Int} {ks : List Int} {i : Nat} (h : VI v ks i) (h1 : i < ks.length) : ixf v ks 0 = if v = ks.getD ((i : Int)).toNat 0 then (i : Int) else ixf v (ks.drop (i + 1)) ((i : Int) + 1) := by
  rw [h.eq, List.drop_eq_getElem_cons h1, ixf, show ks.getD ((i : Int)).toNat 0 = ks[i] by simp [List.getD, h1]]
theorem VI.yes {v : Int} {ks : List Int} {i : Nat} (h : VI v ks i) (h1 : i < ks.length) (h2 : v = ks.getD ((i : Int)).toNat 0) : ixf v ks 0 = (i : Int) := by rw [h.at h1, if_pos h2]
theorem VI.no {v : Int} {ks : List Int} {i : Nat} (h : VI v ks i) (h1 : i < ks.length) (h2 : v ≠ ks.getD ((i : Int)).toNat 0) : VI v ks (i + 1) := ⟨h1, by rw [h.at h1, if_neg h2]; rfl⟩
theorem VI.out {v : Int} {ks : List Int} {i : Nat} (h : VI v ks i) (h1 : ¬ i < ks.length) : ixf v ks 0 = -1 := by rw [h.eq, List.drop_eq_nil_of_le (by omega), ixf]
def apT (ks : List Int) (t : List UInt8) (k : Int) : List UInt8 := if ixf k ks 0 ≥ 0 then ([40] ++ t) ++ [41] else t
theorem ix45_ (v : Int)  : Fn Tryd.prog 75 [.sl 0 2 2, .int .i64 v] [some (.blk [.int .i64 4, .int .i64 5])] (Rt (.int .i64 (ixf v [4, 5] 0)) [some (.blk [.int .i64 4, .int .i64 5])]) :=
 enterM (n := 19) (by kernel_rfl) Tryd.func75 rfl rfl rfl fun G w a h0 A => N hX 14 A rfl rfl fun A => LOOP1 (fun (i : Nat) => [(0, .sl 0 2 2), (1, .int .i64 v), (4, .int .i64 0), (7, .int .i64 ((2 : Nat) : Int)), (8, .int .i64 (i : Int))]) (fun (i : Nat) => [some (.blk [.int .i64 4, .int .i64 5])]) (fun (i : Nat) => VI v [4, 5] i) (fun (i : Nat) => 2 - i) 0 ⟨Nat.zero_le _, rfl⟩ ((A.cut [0, 1, 4, 7, 8] rfl).trunc 1 rfl rfl rfl (by simp only [List.length_cons, List.length_nil] at h0; omega)) fun i hI {G a w} A => N hX 6 A rfl rfl fun A => forkD 9 A rfl
   (fun h1 A => N hX 21 A rfl (ok_d (by omega) <| ok_d (by omega) <| okE_nil) fun A => forkE 16 A rfl
    (fun h2 A => N hX 8 A rfl rfl fun A => RETN hX A rfl rfl rfl h0 rfl rfl rfl rfl (by rw [hI.yes (by show i < 2; omega) h2]; rfl) rfl)
    (fun h2 A => N hX 8 A rfl (ok_d (by omega) <| okE_nil) fun A => ⟨i + 1, _, (by omega), (hI.no (by show i < 2; omega) h2), ((A.cut [0, 1, 4, 7, 8] rfl).trunc 1 rfl rfl rfl (by simp only [List.length_cons, List.length_nil] at h0; omega))⟩))
   (fun h1 A => N hX 9 A rfl rfl fun A => RETN hX A rfl rfl rfl h0 rfl rfl rfl rfl (by rw [hI.out (by show ¬ i < 2; omega)]; rfl) rfl)
theorem con45_ (v : Int)  : Fn Tryd.prog 61 [.sl 0 2 2, .int .i64 v] [some (.blk [.int .i64 4, .int .i64 5])] (Rt (.bool (decide (ixf v [4, 5] 0 ≥ 0))) [some (.blk [.int .i64 4, .int .i64 5])]) :=
 enterM (n := 9) (by kernel_rfl) Tryd.func61 rfl rfl rfl fun G w a h0 A => N hX 9 A rfl rfl fun A => CALL1 [0] (ix45_ v) A rfl rfl rfl rfl rfl rfl rfl fun A => N hX 5 A rfl rfl fun A => RETN hX A rfl rfl rfl h0 rfl rfl rfl rfl rfl rfl
theorem ap45_ (t : List UInt8) (k : Int) (ht : t.length ≤ 2000000) : Fn Tryd.prog 48 [.agg [.str t, .int .i64 k], .sl 0 2 2] [some (.blk [.int .i64 4, .int .i64 5])] (Rt (.str (apT [4, 5] t k)) [some (.blk [.int .i64 4, .int .i64 5])]) :=
 enterM (n := 15) (by kernel_rfl) Tryd.func48 rfl rfl rfl fun G w a h0 A => N hX 12 A rfl rfl fun A => CALL1 [0] (con45_ k) A rfl rfl rfl rfl rfl rfl rfl fun A => N hX 2 A rfl rfl fun A => forkD 8 A rfl
  (fun h1 A => N hX 11 A rfl (ok_d (by simp only [List.length_append, List.length_cons, List.length_nil]; omega) <| ok_d (by simp only [List.length_append, List.length_cons, List.length_nil]; omega) <| okE_nil) fun A => RETN hX A rfl rfl rfl h0 rfl rfl rfl rfl (by unfold apT; rw [if_pos h1]; rfl) rfl)
  (fun h1 A => N hX 11 A rfl rfl fun A => RETN hX A rfl rfl rfl h0 rfl rfl rfl rfl (by unfold apT; rw [if_neg h1]; rfl) rfl)
theorem ix5_ (v : Int)  : Fn Tryd.prog 75 [.sl 0 1 1, .int .i64 v] [some (.blk [.int .i64 5])] (Rt (.int .i64 (ixf v [5] 0)) [some (.blk [.int .i64 5])]) :=
 enterM (n := 19) (by kernel_rfl) Tryd.func75 rfl rfl rfl fun G w a h0 A => N hX 14 A rfl rfl fun A => LOOP1 (fun (i : Nat) => [(0, .sl 0 1 1), (1, .int .i64 v), (4, .int .i64 0), (7, .int .i64 ((1 : Nat) : Int)), (8, .int .i64 (i : Int))]) (fun (i : Nat) => [some (.blk [.int .i64 5])]) (fun (i : Nat) => VI v [5] i) (fun (i : Nat) => 1 - i) 0 ⟨Nat.zero_le _, rfl⟩ ((A.cut [0, 1, 4, 7, 8] rfl).trunc 1 rfl rfl rfl (by simp only [List.length_cons, List.length_nil] at h0; omega)) fun i hI {G a w} A => N hX 6 A rfl rfl fun A => forkD 9 A rfl
   (fun h1 A => N hX 21 A rfl (ok_d (by omega) <| ok_d (by omega) <| okE_nil) fun A => forkE 16 A rfl
    (fun h2 A => N hX 8 A rfl rfl fun A => RETN hX A rfl rfl rfl h0 rfl rfl rfl rfl (by rw [hI.yes (by show i < 1; omega) h2]; rfl) rfl)
    (fun h2 A => N hX 8 A rfl (ok_d (by omega) <| okE_nil) fun A => ⟨i + 1, _, (by omega), (hI.no (by show i < 1; omega) h2), ((A.cut [0, 1, 4, 7, 8] rfl).trunc 1 rfl rfl rfl (by simp only [List.length_cons, List.length_nil] at h0; omega))⟩))
   (fun h1 A => N hX 9 A rfl rfl fun A => RETN hX A rfl rfl rfl h0 rfl rfl rfl rfl (by rw [hI.out (by show ¬ i < 1; omega)]; rfl) rfl)
theorem con5_ (v : Int)  : Fn Tryd.prog 61 [.sl 0 1 1, .int .i64 v] [some (.blk [.int .i64 5])] (Rt (.bool (decide (ixf v [5] 0 ≥ 0))) [some (.blk [.int .i64 5])]) :=
 enterM (n := 9) (by kernel_rfl) Tryd.func61 rfl rfl rfl fun G w a h0 A => N hX 9 A rfl rfl fun A => CALL1 [0] (ix5_ v) A rfl rfl rfl rfl rfl rfl rfl fun A => N hX 5 A rfl rfl fun A => RETN hX A rfl rfl rfl h0 rfl rfl rfl rfl rfl rfl
theorem ap5_ (t : List UInt8) (k : Int) (ht : t.length ≤ 2000000) : Fn Tryd.prog 48 [.agg [.str t, .int .i64 k], .sl 0 1 1] [some (.blk [.int .i64 5])] (Rt (.str (apT [5] t k)) [some (.blk [.int .i64 5])]) :=
 enterM (n := 15) (by kernel_rfl) Tryd.func48 rfl rfl rfl fun G w a h0 A => N hX 12 A rfl rfl fun A => CALL1 [0] (con5_ k) A rfl rfl rfl rfl rfl rfl rfl fun A => N hX 2 A rfl rfl fun A => forkD 8 A rfl
  (fun h1 A => N hX 11 A rfl (ok_d (by simp only [List.length_append, List.length_cons, List.length_nil]; omega) <| ok_d (by simp only [List.length_append, List.length_cons, List.length_nil]; omega) <| okE_nil) fun A => RETN hX A rfl rfl rfl h0 rfl rfl rfl rfl (by unfold apT; rw [if_pos h1]; rfl) rfl)
  (fun h1 A => N hX 11 A rfl rfl fun A => RETN hX A rfl rfl rfl h0 rfl rfl rfl rfl (by unfold apT; rw [if_neg h1]; rfl) rfl)
theorem locs_   : Fn Tryd.prog 47 [] [] (Rt (.sl 0 3 3) [some (.blk [.str [120], .str [121], .str [122]])]) :=
 enterM (n := 2) (by kernel_rfl) Tryd.func47 rfl rfl rfl fun G w a h0 A => N hX 12 A rfl rfl fun A => RET hX [0] A ⟨rfl, rfl⟩ rfl rfl rfl rfl rfl rfl rfl rfl h0
theorem fn_itoa (b : Nat) (o : Obj) (hT : ∀ w : World, w.heap[b]? = some o → Lib.TabIs Tryd.prog w "internal/strconv.uint64pow10" .u64 Lib.pow10Tab) (v : Int) (h0 : -9223372036854775808 ≤ v) (h1 : v ≤ 9223372036854775807) : Fn Tryd.prog 46 [.int .i64 v] [some (.fac b o)] (Rt (.str (Lib.itoa v)) [some (.fac b o)]) := by
  refine ⟨by kernel_rfl, fun G w vs hM hv => ?_⟩
  cases hv
  obtain ⟨L, e1, e2, e3⟩ := hM.ent 0 _ rfl
  refine (itoa_any v h0 h1 w (hT w e3)).mono ?_
  rintro e w' ⟨rfl, hg⟩
  have hl : G.length = 1 := hM.len.symm
  refine ⟨_, _, [], _, ⟨rfl, rfl⟩, rfl, rfl, ?_, (Mix.refl _ w).grow hg, ?_, fun i e he _ => he, fun i e he hm => ?_⟩
  · rw [List.append_nil]
    refine ⟨hM.len, fun i e he => (hM.ent i e he).mix hg.mix (fun _ _ _ => rfl), hM.sep⟩
  · rw [hl]; exact Nat.le_refl _
  · cases i with
    | zero => cases he; cases hm
    | succ i => cases he
end Go.Proofs.YtbghlhhoafkmgaaDoor
/- Regions that draw their order, where several make memory and do not wait for one another: each new block has its place from the start. -/
namespace Go.Proofs.YtbghlhhoafkmgaaDoor
open Go.RowKit
set_option linter.unusedVariables false
set_option linter.unusedSimpArgs false
set_option linter.unusedSectionVars false

theorem le0 {H : Hp} {G : Gr} {r : Nat} (h : H.length = G.length) (hb : Nat.ble H.length r = true) : G.length ≤ r := by rw [← h]; exact Nat.le_of_ble_eq_true hb
mutual
def avS (r : Nat) : SV → Bool
  | .ptr i _ => !Nat.beq i r
  | .el i _ _ _ => !Nat.beq i r
  | .sl i _ _ => !Nat.beq i r
  | .agg l => avL r l
  | .tup l => avL r l
  | .fn _ l => avL r l
  | .opt _ x => avS r x
  | .ix p _ _ _ _ => avS r p
  | .sp p _ _ => avS r p
  | .st i _ _ _ _ => !Nat.beq i r
  | _ => true
def avL (r : Nat) : List SV → Bool
  | [] => true
  | x :: l => avS r x && avL r l
end
theorem av_out {D : List Nat} {i : Nat} (h : ∀ r ∈ D, (!Nat.beq i r) = true) : i ∉ D := fun hi => by
  have := h i hi
  rw [show Nat.beq i i = true from Nat.beq_refl i] at this
  cases this
mutual
theorem den_off {G G' : Gr} {D : List Nat} (e : ∀ i, i ∉ D → G'[i]? = G[i]?) : ∀ (x : SV), (∀ r ∈ D, avS r x = true) → den G' x = den G x
  | .ptr i _, h => by unfold den; rw [e i (av_out h)]
  | .el i _ _ _, h => by unfold den; rw [e i (av_out h)]
  | .sl i _ _, h => by unfold den; rw [e i (av_out h)]
  | .agg l, h => by unfold den; rw [denL_off e l h]
  | .tup l, h => by unfold den; rw [denL_off e l h]
  | .fn _ l, h => by unfold den; rw [denL_off e l h]
  | .opt _ x, h => by unfold den; rw [den_off e x h]
  | .ix p _ _ _ _, h => by unfold den; rw [den_off e p h]
  | .sp p _ _, h => by unfold den; rw [den_off e p h]
  | .st i _ _ _ _, h => by unfold den; rw [e i (av_out h)]
  | .int _ _, _ => rfl
  | .bool _, _ => rfl
  | .tt, _ => rfl
  | .ff, _ => rfl
  | .str _, _ => rfl
  | .sla _ _ _, _ => rfl
  | .v _, _ => rfl
theorem denL_off {G G' : Gr} {D : List Nat} (e : ∀ i, i ∉ D → G'[i]? = G[i]?) : ∀ (l : List SV), (∀ r ∈ D, avL r l = true) → denL G' l = denL G l
  | [], _ => rfl
  | x :: l, h => by
    unfold denL
    rw [den_off e x fun r hr => by have := h r hr; simp only [avL, Bool.and_eq_true] at this; exact this.1, denL_off e l fun r hr => by have := h r hr; simp only [avL, Bool.and_eq_true] at this; exact this.2]
end
def avE (r : Nat) : Option Ent → Bool
  | some (.blk cs) => avL r cs
  | _ => true
def avH (r : Nat) : Hp → Bool
  | [] => true
  | e :: H => avE r e && avH r H
theorem avH_at {r : Nat} : ∀ {H : Hp}, avH r H = true → ∀ (i : Nat) (e : Option Ent), H[i]? = some e → avE r e = true
  | [], _, i, e, h => by cases h
  | f :: H, hb, i, e, h => by
    simp only [avH, Bool.and_eq_true] at hb
    cases i with
    | zero => cases h; exact hb.1
    | succ i => exact avH_at hb.2 i e (by simpa using h)
theorem EntOK.off {G G' : Gr} {r : Nat} {w : World} {p : Option Loc} {e : Ent} (h : EntOK G w p e) (hG : ∀ i, i ∉ [r] → G'[i]? = G[i]?) (ha : avE r (some e) = true) : EntOK G' w p e := by
  cases e with
  | blk cs => obtain ⟨M, vs, h1, h2, h3⟩ := h; exact ⟨M, vs, h1, by rw [denL_off hG cs (fun q hq => by simp at hq; subst hq; exact ha)]; exact h2, h3⟩
  | lst s n f => exact h
  | fac b o => exact h
  | row e s n c f => exact h
section
variable {P : Program} {X : Tx} {n : Nat} {ks : List Nat} {G0 : Gr} {w0 : World} {T : List (Nat × SV)} {H : Hp} {G : Gr} {a : Act} {w w' : World} {ops : Array Oper} {o : Oper}
theorem set_off {r : Nat} {y : Option Loc} : ∀ i, i ∉ [r] → (G.set r y)[i]? = G[i]? := fun i hi => by
  simp at hi
  rw [List.getElem?_set_ne (fun h => hi h.symm)]
/-- a new block at the place that was kept for it -/
theorem Sy.place (A : Sy n T H ks G0 w0 G a w) {r g : Nat} {t : TypeId} {en : Ent} (hr : H[r]? = some none) (hr0 : G0.length ≤ r) (hav : avH r H = true) (hg : g = w.heap.size) (hgr : Grow w w') (hen : EntOK G w' (some ⟨g, [], [], t⟩) en) (hmu : en.mut = true) (hae : avE r (some en) = true) :
    Ms (stH H r (some en)) ks G0 w0 (G.set r (some ⟨g, [], [], t⟩)) w' := by
  have hlen := A.mem.len
  have hrl : r < H.length := (List.getElem?_eq_some_iff.1 hr).1
  have B := A.ms.grow hgr
  have hold : ∀ (i : Nat) (e : Ent), (stH H r (some en))[i]? = some (some e) → (i ≠ r ∧ H[i]? = some (some e)) ∨ (i = r ∧ e = en) := by
    intro i e h
    rw [stH_is] at h
    by_cases hi : i = r
    · subst hi; rw [List.getElem?_set_self hrl] at h; cases h; exact .inr ⟨rfl, rfl⟩
    · rw [List.getElem?_set_ne (Ne.symm hi)] at h; exact .inl ⟨hi, h⟩
  have hself : (G.set r (some (⟨g, [], [], t⟩ : Loc)))[r]? = some (some ⟨g, [], [], t⟩) := List.getElem?_set_self (by omega)
  have hne : ∀ {i : Nat}, i ≠ r → (G.set r (some (⟨g, [], [], t⟩ : Loc)))[i]? = G[i]? := fun hi => by rw [List.getElem?_set_ne (Ne.symm hi)]
  refine ⟨⟨by rw [stH_is]; simpa using hlen, fun i e h => ?_, fun i j e f L M hij h1 h2 h3 h4 h5 h6 => ?_⟩, ?_, fun i e L h1 h2 h3 => ?_, B.mix⟩
  · rcases hold i e h with ⟨h1, h2⟩ | ⟨rfl, rfl⟩
    · rw [hne h1]; exact (B.mem.ent i e h2).off set_off (avH_at hav i _ h2)
    · rw [hself]; exact hen.off set_off hae
  · rcases hold i e h1 with ⟨a1, a2⟩ | ⟨rfl, rfl⟩
    · rw [hne a1] at h4
      rcases hold j f h2 with ⟨b1, b2⟩ | ⟨rfl, rfl⟩
      · rw [hne b1] at h5; exact B.mem.sep i j e f L M hij a2 b2 h3 h4 h5 h6
      · rw [hself] at h5; cases h5
        have := A.mem.ent i e a2
        rw [h4] at this
        have := EntOK.lt this (mut_full h3)
        show L.b ≠ g; omega
    · rw [hself] at h4; cases h4
      rcases hold j f h2 with ⟨b1, b2⟩ | ⟨rfl, rfl⟩
      · rw [hne b1] at h5
        have := A.mem.ent j f b2
        rw [h5] at this
        have := EntOK.lt this h6
        show g ≠ M.b; omega
      · exact absurd rfl hij
  · obtain ⟨F, hF⟩ := A.pre
    refine ⟨F.set (r - G0.length) (some ⟨g, [], [], t⟩), ?_⟩
    rw [hF, List.set_append_right _ _ hr0]
  · rcases hold i e h1 with ⟨a1, a2⟩ | ⟨rfl, rfl⟩
    · rw [hne a1] at h3; exact B.own i e L a2 h2 h3
    · rw [hself] at h3; cases h3
      have := A.mix.size
      exact .inr (by show w0.heap.size ≤ g; omega)
def EffAt (P : Program) (n : Nat) (ops : Array Oper) (ks : List Nat) (G0 : Gr) (w0 : World) (Tw : List (Nat × SV)) (H : Hp) (o : Oper) (x : SV) (H' : Hp) (rs : List Nat) : Prop :=
  ∀ G a w, Sy n Tw H ks G0 w0 G a w → Does P ops o a w fun v w' => ∃ G', (∀ i, i ∉ rs → G'[i]? = G[i]?) ∧ den G' x = some v ∧ Ms H' ks G0 w0 G' w'
theorem eff_at {Tw : List (Nat × SV)} {x : SV} {H' : Hp} {rs : List Nat} (h : EffOK P n ops ks G0 w0 Tw H o x H') (hl : H'.length = H.length) : EffAt P n ops ks G0 w0 Tw H o x H' rs := by
  intro G a w A
  refine does_mono (h G a w A) fun v w' ⟨F, h1, h2⟩ => ⟨G, fun _ _ => rfl, ?_⟩
  have e1 := h2.mem.len
  have e2 := A.mem.len
  have : F = [] := List.eq_nil_of_length_eq_zero (by rw [List.length_append] at e1; omega)
  subst this
  rw [List.append_nil] at h1 h2
  exact ⟨h1, h2⟩
theorem new_at (r : Nat) {Tw : List (Nat × SV)} {x x0 : SV} {H' : Hp} {rs : List Nat} {t : TypeId} {en : Ent} (hX : X.ok P = true) (h : stepS X n ops Tw H o = some (.new t en x0)) (hr : lg H r = some none) (hr0 : G0.length ≤ r) (hav : (avH r H && avE r (some en)) = true) (hren : renO (stH (rngF 0 H.length) r H.length) x = some x0) (hH : stH H r (some en) = H') (hrs : rs.contains r = true) : EffAt P n ops ks G0 w0 Tw H o x H' rs := by
  intro G a w A
  rw [Bool.and_eq_true] at hav
  rw [lg_is] at hr
  have hrl : r < H.length := (List.getElem?_eq_some_iff.1 hr).1
  unfold stepS at h
  split at h
  · next hd =>
    split at h
    · next hg =>
      refine xop_new (P := P) (ops := ops) hX A h (gd_run (gd := none) A hg) fun g w' v a1 a2 a3 a4 a5 => ⟨G.set r (some ⟨g, [], [], t⟩), fun i hi => set_off i (fun hq => ?_), ?_, ?_⟩
      · simp at hq; subst hq; exact hi (by simpa using hrs)
      · have hm : ∀ j ∈ (rngF 0 H.length).set r H.length, j < (G ++ [some (⟨g, [], [], t⟩ : Loc)]).length := fun j hj => by
          have hle : j ∈ rngF 0 H.length ∨ j = H.length := by
            rcases List.mem_or_eq_of_mem_set hj with h | h
            · exact .inl h
            · exact .inr h
          have := A.mem.len
          rcases hle with h | h
          · obtain ⟨k, hk, he⟩ := List.getElem_of_mem h
            rw [rngF_len] at hk
            have := rngF_at H.length 0 k hk
            rw [List.getElem?_eq_getElem (by rw [rngF_len]; exact hk), he] at this
            cases this
            simp; omega
          · simp; omega
        rw [stH_is] at hren
        rw [← a5, ← den_ren hm x hren]
        congr 1
        have hlen := A.mem.len
        apply List.ext_getElem?
        intro i
        by_cases hi : i < H.length
        · by_cases hir : i = r
          · subst hir
            have h1 : ((rngF 0 H.length).set i H.length)[i]? = some H.length := List.getElem?_set_self (by rw [rngF_len]; exact hi)
            rw [pickG_at hm h1, List.getElem?_set_self (by omega), List.getElem?_append_right (by omega), hlen]; simp
          · have h1 : ((rngF 0 H.length).set r H.length)[i]? = some i := by rw [List.getElem?_set_ne (Ne.symm hir), rngF_at _ _ _ hi, Nat.zero_add]
            rw [pickG_at hm h1, List.getElem?_set_ne (Ne.symm hir), List.getElem?_append_left (by omega)]
        · rw [List.getElem?_eq_none (by simp; omega), List.getElem?_eq_none (by simp [pickG, rngF_len]; omega)]
      · rw [← hH]; exact A.place hr hr0 hav.1 a1 a2 a3 a4 hav.2
    · cases h
    · split at h <;> cases h
    · cases h
  · cases h
end
section
variable {P : Program} {n : Nat} {ks : List Nat} {G0 : Gr} {w0 : World} {H : Hp} {G : Gr} {w w' : World} {ops : Array Oper} {o : Oper}
theorem EntOK.offL {G G' : Gr} {D : List Nat} {w : World} {p : Option Loc} {e : Ent} (h : EntOK G w p e) (hG : ∀ i, i ∉ D → G'[i]? = G[i]?) (ha : ∀ r ∈ D, avE r (some e) = true) : EntOK G' w p e := by
  cases e with
  | blk cs => obtain ⟨M, vs, h1, h2, h3⟩ := h; exact ⟨M, vs, h1, by rw [denL_off hG cs ha]; exact h2, h3⟩
  | lst s n f => exact h
  | fac b o => exact h
  | row e s n c f => exact h
/-- what stands last, put at the place that was kept for it -/
theorem Ms.put {r : Nat} {en : Ent} {p : Option Loc} (M : Ms (H ++ [some en]) ks G0 w0 (G ++ [p]) w') (hr : H[r]? = some none) (hr0 : G0.length ≤ r) (hav : ∀ q ∈ [r, H.length], avH q H = true ∧ avE q (some en) = true) : Ms (stH H r (some en)) ks G0 w0 (G.set r p) w' := by
  have hlen : H.length = G.length := by have := M.mem.len; simpa using this
  have hrl : r < H.length := (List.getElem?_eq_some_iff.1 hr).1
  have hold : ∀ (i : Nat) (e : Ent), (stH H r (some en))[i]? = some (some e) → ∃ j, (H ++ [some en])[j]? = some (some e) ∧ (G.set r p)[i]? = (G ++ [p])[j]? ∧ ((i ≠ r ∧ j = i ∧ H[i]? = some (some e)) ∨ (i = r ∧ j = H.length ∧ e = en)) := by
    intro i e h
    rw [stH_is] at h
    by_cases hi : i = r
    · subst hi; rw [List.getElem?_set_self hrl] at h; cases h
      refine ⟨H.length, by simp, ?_, .inr ⟨rfl, rfl, rfl⟩⟩
      rw [List.getElem?_set_self (by omega), hlen]; simp
    · rw [List.getElem?_set_ne (Ne.symm hi)] at h
      have hl := (List.getElem?_eq_some_iff.1 h).1
      refine ⟨i, by rw [List.getElem?_append_left hl]; exact h, ?_, .inl ⟨hi, rfl, h⟩⟩
      rw [List.getElem?_set_ne (Ne.symm hi), List.getElem?_append_left (by omega)]
  have hoff : ∀ i, i ∉ [r, H.length] → (G.set r p)[i]? = (G ++ [p])[i]? := fun i hi => by
    simp at hi
    rw [List.getElem?_set_ne (fun h => hi.1 h.symm)]
    by_cases hg : i < G.length
    · rw [List.getElem?_append_left hg]
    · rw [List.getElem?_eq_none (by omega), List.getElem?_eq_none (by simp; omega)]
  refine ⟨⟨by rw [stH_is]; simpa using hlen, fun i e h => ?_, fun i j e f L N hij h1 h2 h3 h4 h5 h6 => ?_⟩, ?_, fun i e L h1 h2 h3 => ?_, M.mix⟩
  · obtain ⟨j, g1, g2, g3⟩ := hold i e h
    rw [g2]
    refine (M.mem.ent j e g1).offL hoff fun q hq => ?_
    rcases g3 with ⟨_, _, g⟩ | ⟨_, _, rfl⟩
    · exact avH_at (hav q hq).1 i _ g
    · exact (hav q hq).2
  · obtain ⟨i', g1, g2, g3⟩ := hold i e h1
    obtain ⟨j', k1, k2, k3⟩ := hold j f h2
    rw [g2] at h4
    rw [k2] at h5
    refine M.mem.sep i' j' e f L N ?_ g1 k1 h3 h4 h5 h6
    have hi : ∀ {i : Nat} {e : Ent}, H[i]? = some (some e) → i < H.length := fun h => (List.getElem?_eq_some_iff.1 h).1
    rcases g3 with ⟨a1, a2, a3⟩ | ⟨a1, a2, a3⟩ <;> rcases k3 with ⟨b1, b2, b3⟩ | ⟨b1, b2, b3⟩
    · omega
    · have := hi a3; omega
    · have := hi b3; omega
    · omega
  · obtain ⟨F, hF⟩ := M.pre
    refine ⟨(G.set r p).drop G0.length, ?_⟩
    have e : (G.set r p).take G0.length = G0 := by
      have h1 : (G ++ [p]).take G0.length = G0 := by rw [hF]; simp
      rw [List.take_append_of_le_length (by omega)] at h1
      rw [List.take_set_of_le (by omega)]; exact h1
    have := (List.take_append_drop G0.length (G.set r p)).symm
    rw [e] at this; exact this
  · obtain ⟨i', g1, g2, g3⟩ := hold i e h1
    rw [g2] at h3
    exact M.own i' e L g1 h2 h3
/-- an operation that makes one more, by what it does -/
theorem put_at (r : Nat) {Tw : List (Nat × SV)} {x x0 : SV} {H1 H' : Hp} {rs : List Nat} {en : Ent} (h : EffOK P n ops ks G0 w0 Tw H o x0 (H1 ++ [some en])) (hl : H1.length = H.length) (hr : lg H1 r = some none) (hr0 : G0.length ≤ r) (hav : (avH r H1 && avE r (some en) && avH H1.length H1 && avE H1.length (some en)) = true) (hren : renO (stH (rngF 0 H1.length) r H1.length) x = some x0) (hH : stH H1 r (some en) = H') (hrs : rs.contains r = true) : EffAt P n ops ks G0 w0 Tw H o x H' rs := by
  intro G a w A
  rw [lg_is] at hr
  have hrl : r < H1.length := (List.getElem?_eq_some_iff.1 hr).1
  simp only [Bool.and_eq_true] at hav
  refine does_mono (h G a w A) fun v w' ⟨F, h1, h2⟩ => ?_
  have e1 := h2.mem.len
  have e2 := A.mem.len
  have hF1 : F.length = 1 := by simp at e1; omega
  obtain ⟨p, rfl⟩ := List.length_eq_one_iff.1 hF1
  refine ⟨G.set r p, fun i hi => set_off i (fun hq => ?_), ?_, ?_⟩
  · simp at hq; subst hq; exact hi (by simpa using hrs)
  · have hm : ∀ j ∈ (rngF 0 H1.length).set r H1.length, j < (G ++ [p]).length := fun j hj => by
      rcases List.mem_or_eq_of_mem_set hj with h | h
      · obtain ⟨k, hk, he⟩ := List.getElem_of_mem h
        rw [rngF_len] at hk
        have := rngF_at H1.length 0 k hk
        rw [List.getElem?_eq_getElem (by rw [rngF_len]; exact hk), he] at this
        cases this
        simp; omega
      · simp; omega
    rw [stH_is] at hren
    rw [← h1, ← den_ren hm x hren]
    congr 1
    apply List.ext_getElem?
    intro i
    by_cases hi : i < H1.length
    · by_cases hir : i = r
      · subst hir
        have h1 : ((rngF 0 H1.length).set i H1.length)[i]? = some H1.length := List.getElem?_set_self (by rw [rngF_len]; exact hi)
        rw [pickG_at hm h1, List.getElem?_set_self (by omega), List.getElem?_append_right (by omega), hl, e2]; simp
      · have h1 : ((rngF 0 H1.length).set r H1.length)[i]? = some i := by rw [List.getElem?_set_ne (Ne.symm hir), rngF_at _ _ _ hi, Nat.zero_add]
        rw [pickG_at hm h1, List.getElem?_set_ne (Ne.symm hir), List.getElem?_append_left (by omega)]
    · rw [List.getElem?_eq_none (by simp; omega), List.getElem?_eq_none (by simp [pickG, rngF_len]; omega)]
  · rw [← hH]
    refine h2.put hr hr0 fun q hq => ?_
    simp at hq
    rcases hq with rfl | rfl
    · exact ⟨hav.1.1.1, hav.1.1.2⟩
    · exact ⟨hav.1.2, hav.2⟩
end
/-- may operation i come where these stand behind it? -/
def mayI (ops : Array Oper) (ef c : List Nat) (i : Nat) (o : Oper) : Bool :=
  !c.contains i && ef.all (fun p => !wt ops o p || c.contains p) && c.all (fun p => match ops[p]? with | some q => !waits q i | none => true)
section
variable {P : Program} {X : Tx} {n : Nat} {ks : List Nat} {G0 : Gr} {w0 : World} {T : List (Nat × SV)} {l : List Oper} {xs : List SV} {Q : Exit → Act → World → Prop} {ef rs0 : List Nat} {tb : List (List Nat × List Nat × Hp)}
structure AInv (n : Nat) (ks : List Nat) (G0 : Gr) (w0 : World) (T : List (Nat × SV)) (l : List Oper) (xs : List SV) (ef rs0 : List Nat) (c rs : List Nat) (H : Hp) (listed : Array Bool) (G : Gr) (a : Act) (w : World) : Prop where
  size : a.tmps.size = n
  defers : a.defers = []
  base : ∀ t x, look T t = some x → (∀ (j : Nat) (o : Oper), l[j]? = some o → o.dst = some t → listed.getD j false = false) → den G x = some (a.tmps.getD t undef)
  done : ∀ (j : Nat) (o : Oper) (x : SV), l[j]? = some o → listed.getD j false = true → xs[j]? = some x → (∀ r ∈ rs, avS r x = true) ∧ ∀ d, o.dst = some d → den G x = some (a.tmps.getD d undef)
  ms : Ms H ks G0 w0 G w
  eff : ∀ p ∈ ef, (listed.getD p false = true ↔ p ∈ c)
  sub : ∀ p ∈ c, p ∈ ef
  rsub : ∀ r ∈ rs, r ∈ rs0
  closed : ∀ (j : Nat) (o : Oper) (p : Nat), l[j]? = some o → listed.getD j false = true → waits o p = true → listed.getD p false = true
def StepOb (P : Program) (n : Nat) (ks : List Nat) (G0 : Gr) (w0 : World) (T : List (Nat × SV)) (l : List Oper) (xs : List SV) (ef : List Nat) (tb : List (List Nat × List Nat × Hp)) (c rs : List Nat) (H : Hp) (i : Nat) (o : Oper) : Prop :=
  ∃ (x : SV) (c' rs' : List Nat) (H' : Hp) (k' : Nat), xs[i]? = some x ∧ tb[k']? = some (c', rs', H') ∧ ((ef.all fun p => c'.contains p == (Nat.beq p i || c.contains p)) && c'.all ef.contains) = true ∧ (rs'.all fun r => rs.contains r && avS r x) = true ∧ EffAt P n l.toArray ks G0 w0 (twL o l xs 0 T) H o x H' rs
theorem any_go (hfit : fitB l.toArray n [] = true) (hT : ∀ t x, look T t = some x → ∀ (j : Nat) (o : Oper), l[j]? = some o → o.dst = some t → ∀ i, i < l.length → i ≠ j → waits o i = true) (hTa : ∀ t x, look T t = some x → ∀ r ∈ rs0, avS r x = true) (hl : xs.length = l.length)
    (hob : ∀ (k : Nat) (c rs : List Nat) (H : Hp), tb[k]? = some (c, rs, H) → ∀ (i : Nat) (o : Oper), l[i]? = some o → mayI l.toArray ef c i o = true → StepOb P n ks G0 w0 T l xs ef tb c rs H i o)
    (hend : ∀ (k : Nat) (c rs : List Nat) (H : Hp), tb[k]? = some (c, rs, H) → (∀ p ∈ ef, p < l.length → p ∈ c) → ∀ G a w, Sy n (putS l xs T) H ks G0 w0 G a w → Q .normal a w) :
    ∀ (fuel : Nat) (listed : Array Bool) (a : Act) (w : World) (k : Nat) (c rs : List Nat) (H : Hp) (G : Gr), listed.size = l.length → ((List.range l.length).filter fun i => !listed.getD i true).length ≤ fuel → tb[k]? = some (c, rs, H) → AInv n ks G0 w0 T l xs ef rs0 c rs H listed G a w → wpAny P .any l.toArray Q fuel listed a w := by
  have last : ∀ (listed : Array Bool) (a : Act) (w : World) (k : Nat) (c rs : List Nat) (H : Hp) (G : Gr), listed.size = l.length → Region.ready .any l.toArray listed = [] → tb[k]? = some (c, rs, H) → AInv n ks G0 w0 T l xs ef rs0 c rs H listed G a w → Q .normal a w := by
    intro listed a w k c rs H G hls hr hk I
    have all : ∀ i, i < l.length → listed.getD i false = true := by
      intro i
      induction i using Nat.strongRecOn with
      | _ i ih =>
        intro hi
        cases hq : listed.getD i false with
        | true => rfl
        | false =>
          exfalso
          have : i ∈ Region.ready .any l.toArray listed := by
            rw [mem_ready]
            have hli : i < listed.size := by omega
            have hoi : l.toArray[i]? = some l[i] := by simp [hi]
            refine ⟨by simpa [hli] using hq, l[i], hoi, fun e he hb => ?_⟩
            have hlt := (fit_spec hfit hoi).2 e he hb
            exact ih e.on hlt (by omega)
          rw [hr] at this; cases this
    refine hend k c rs H hk (fun p hp hpl => (I.eff p hp).1 (all p hpl)) G a w (I.ms.sy I.size I.defers fun t x hx => ?_)
    rcases put_look hl hx with ⟨i, p, q1, q2, q3⟩ | ⟨hx, hno⟩
    · exact (I.done i p x q1 (all i (List.getElem?_eq_some_iff.1 q1).1) q2).2 t q3
    · exact I.base t x hx fun j o h1 h2 => absurd h2 (hno j o h1)
  intro fuel
  induction fuel with
  | zero =>
    intro listed a w k c rs H G hls hf hk I
    have hr : Region.ready .any l.toArray listed = [] := by
      unfold Region.ready
      rw [List.filter_eq_nil_iff]
      intro i hi
      have hnil : ((List.range l.length).filter fun i => !listed.getD i true) = [] := List.eq_nil_of_length_eq_zero (by omega)
      rw [List.filter_eq_nil_iff] at hnil
      have := hnil i (by simpa using hi)
      simp only [Bool.not_eq_true, Bool.not_eq_false'] at this
      simp [this]
    exact ⟨hr, last listed a w k c rs H G hls hr hk I⟩
  | succ fuel ih =>
    intro listed a w k c rs H G hls hf hkt I
    refine ⟨fun hr => last listed a w k c rs H G hls hr hkt I, fun i hi => ?_⟩
    obtain ⟨hun, o, hoi, hall⟩ := mem_ready.1 hi
    have hil : i < l.length := by have := (Array.getElem?_eq_some_iff.1 hoi).1; simpa using this
    have hoi' : l[i]? = some o := by simpa using hoi
    obtain ⟨hfd, hfe⟩ := fit_spec hfit hoi
    have hun' : listed.getD i false = false := by
      have hlt : i < listed.size := by omega
      simpa [hlt] using hun
    have hw : ∀ p, waits o p = true → listed.getD p false = true := fun p hp => by
      unfold waits at hp
      rw [List.any_eq_true] at hp
      obtain ⟨e, he', hb⟩ := hp
      have he : e ∈ o.after := by simpa using he'
      simp only [Bool.and_eq_true, beq_iff_eq] at hb
      rw [← hb.2]
      exact hall e he hb.1
    -- what is known where it stands
    have A : Sy n (twL o l xs 0 T) H ks G0 w0 G a w := I.ms.sy I.size I.defers fun t x hx => by
      rcases tw_look hx with ⟨j, p, q1, q2, q3, q4⟩ | hx
      · exact (I.done j p x q1 (hw j (by simpa using q3)) q2).2 t q4
      · refine I.base t x hx fun j p h1 h2 => ?_
        by_cases hji : j = i
        · subst hji; exact hun'
        · cases hlj : listed.getD j false with
          | false => rfl
          | true =>
            have := I.closed j p i h1 hlj (hT t x hx j p h1 h2 i hil (Ne.symm hji))
            rw [hun'] at this; cases this
    have hmay : mayI l.toArray ef c i o = true := by
      unfold mayI
      simp only [Bool.and_eq_true, Bool.not_eq_true', List.all_eq_true, Bool.or_eq_true]
      refine ⟨⟨?_, fun p hp => ?_⟩, fun p hp => ?_⟩
      · cases hc : c.contains i with
        | false => rfl
        | true =>
          have h1 : i ∈ c := by simpa using hc
          have := (I.eff i (I.sub i h1)).2 h1
          rw [hun'] at this; cases this
      · cases hq : wt l.toArray o p with
        | false => exact .inl rfl
        | true =>
          refine .inr ?_
          have hlp : listed.getD p false = true := by
            unfold wt at hq
            cases hd : waits o p with
            | true => exact hw p hd
            | false =>
              rw [hd] at hq
              exact via_listed (ops := l.toArray) (fun j o' p' h1 h2 h3 => I.closed j o' p' (by simpa using h1) h2 h3) 2 o.after.toList (fun e he hb => hall e (by simpa using he) hb) hq
          have := (I.eff p hp).1 hlp
          simpa using this
      · split
        · next q hq =>
          cases hd : waits q i with
          | false => rfl
          | true =>
            have h1 := (I.eff p (I.sub p hp)).2 hp
            have := I.closed p q i (by simpa using hq) h1 hd
            rw [hun'] at this; cases this
        · rfl
    obtain ⟨x, c', rs', H', k', hx, hk', hc', hrs', he⟩ := hob k c rs H hkt i o hoi' hmay
    rw [Bool.and_eq_true, List.all_eq_true, List.all_eq_true] at hc'
    rw [List.all_eq_true] at hrs'
    have hr1 : ∀ r ∈ rs', r ∈ rs ∧ avS r x = true := fun r hr => by
      have := hrs' r hr
      rw [Bool.and_eq_true] at this
      exact ⟨by simpa using this.1, this.2⟩
    -- the next state
    have next : ∀ (v : Value) (w' : World) (G' : Gr), (∀ i, i ∉ rs → G'[i]? = G[i]?) → den G' x = some v → Ms H' ks G0 w0 G' w' → wpAny P .any l.toArray Q fuel (listed.setIfInBounds i true) (a.put o.dst v) w' := by
      intro v w' G' hG hv hms
      have hlt : i < listed.size := by omega
      have hget : ∀ j, (listed.setIfInBounds i true).getD j false = true ↔ (j = i ∨ listed.getD j false = true) := by
        intro j
        by_cases hji : j = i
        · subst hji; simp [hlt]
        · rw [set_ne false (Ne.symm hji)]; simp [hji]
      refine ih _ _ _ k' c' rs' H' G' (by simpa using hls) ?_ hk' ⟨?_, ?_, fun t y hy hno => ?_, fun j p y q1 q2 q3 => ?_, hms, fun p hp => ?_, fun p hp => ?_, fun r hr => I.rsub r (hr1 r hr).1, fun j p r q1 q2 q3 => ?_⟩
      · have : ((List.range l.length).filter fun k => !(listed.setIfInBounds i true).getD k true).length < ((List.range l.length).filter fun k => !listed.getD k true).length := by
          have hsub : ((List.range l.length).filter fun k => !(listed.setIfInBounds i true).getD k true) = ((List.range l.length).filter fun k => !listed.getD k true).filter (fun k => k != i) := by
            rw [List.filter_filter]
            apply List.filter_congr
            intro k _
            by_cases hk : k = i
            · subst hk; simp [hlt]
            · rw [set_ne true (Ne.symm hk)]; simp [hk]
          rw [hsub]
          refine List.length_filter_lt_length_iff_exists.2 ⟨i, ?_, by simp⟩
          simp only [List.mem_filter, List.mem_range]
          exact ⟨hil, by rw [hun]; rfl⟩
        omega
      · cases hd : o.dst <;> simp [Act.put, I.size]
      · cases hd : o.dst <;> simp [Act.put, I.defers]
      · have hno' : ∀ (j : Nat) (q : Oper), l[j]? = some q → q.dst = some t → listed.getD j false = false := fun j q h1 h2 => by
          have h3 := hno j q h1 h2
          cases hlj : listed.getD j false with
          | false => rfl
          | true => rw [(hget j).2 (.inr hlj)] at h3; cases h3
        have h1 : den G' y = some (a.tmps.getD t undef) := by rw [den_off hG y fun r hr => hTa t y hy r (I.rsub r hr)]; exact I.base t y hy hno'
        cases hd : o.dst with
        | none => exact h1
        | some d =>
          have hne : d ≠ t := fun e => by
            have h3 := hno i o hoi' (by rw [hd, e])
            rw [(hget i).2 (.inl rfl)] at h3; cases h3
          simp only [Act.put, Array.getD_eq_getD_getElem?]
          rw [Array.getElem?_setIfInBounds_ne hne, ← Array.getD_eq_getD_getElem?]
          exact h1
      · by_cases hji : j = i
        · subst hji
          rw [hoi'] at q1; cases q1
          rw [hx] at q3; cases q3
          refine ⟨fun r hr => (hr1 r hr).2, fun d q4 => ?_⟩
          have hdn : d < a.tmps.size := by rw [I.size]; exact (hfd d q4).1
          rw [q4]
          simp [Act.put, hdn, hv]
        · have h2 : listed.getD j false = true := by
            rcases (hget j).1 q2 with h | h
            · exact absurd h hji
            · exact h
          obtain ⟨g1, g2⟩ := I.done j p y q1 h2 q3
          refine ⟨fun r hr => g1 r (hr1 r hr).1, fun d q4 => ?_⟩
          have h1 : den G' y = some (a.tmps.getD d undef) := by rw [den_off hG y g1]; exact g2 d q4
          cases hd : o.dst with
          | none => exact h1
          | some d' =>
            have hne : d' ≠ d := fun e => by
              subst e
              exact hji ((hfd d' hd).2.1 j (by simpa using (List.getElem?_eq_some_iff.1 q1).1) (by simp [dstOf, q1, q4]))
            simp only [Act.put, Array.getD_eq_getD_getElem?]
            rw [Array.getElem?_setIfInBounds_ne hne, ← Array.getD_eq_getD_getElem?]
            exact h1
      · rw [hget p, I.eff p hp]
        have := hc'.1 p hp
        have hb : (p = i ∨ p ∈ c) ↔ (Nat.beq p i || c.contains p) = true := by
          rw [Bool.or_eq_true]
          refine or_congr ⟨fun h => by subst h; exact Nat.beq_refl p, Nat.eq_of_beq_eq_true⟩ (by simp)
        rw [hb]
        rw [beq_iff_eq] at this
        rw [← this]; simp
      · have := hc'.2 p hp; simpa using this
      · rw [hget r]
        by_cases hji : j = i
        · subst hji; rw [hoi'] at q1; cases q1; exact .inr (hw r q3)
        · rcases (hget j).1 q2 with h | h
          · exact absurd h hji
          · exact .inr (I.closed j p r q1 h q3)
    unfold wpOp
    rcases he G a w A with ⟨hwn, h⟩ | ⟨hwn, G', h1, h2, h3⟩
    · simp only [hoi, hwn, if_true]
      refine .inl (Oper.wp_mono (fun a2 w2 h => ?_) (h Q))
      obtain ⟨v, rfl, G', h1, h2, h3⟩ := h
      exact next v w2 G' h1 h2 h3
    · simp only [hoi, hwn, Bool.false_eq_true, if_false]
      exact next undef w G' h1 h2 h3
def mayR (ops : Array Oper) (ef c : List Nat) : List Oper → Nat → List Bool
  | [], _ => []
  | o :: l, i => mayI ops ef c i o :: mayR ops ef c l (i + 1)
def ObS (P : Program) (n : Nat) (ks : List Nat) (G0 : Gr) (w0 : World) (T : List (Nat × SV)) (L : List Oper) (xs : List SV) (ef : List Nat) (tb : List (List Nat × List Nat × Hp)) (c rs : List Nat) (H : Hp) : List Bool → List Oper → Nat → Prop
  | true :: bs, o :: l, i => StepOb P n ks G0 w0 T L xs ef tb c rs H i o ∧ ObS P n ks G0 w0 T L xs ef tb c rs H bs l (i + 1)
  | false :: bs, o :: l, i => ObS P n ks G0 w0 T L xs ef tb c rs H bs l (i + 1)
  | _, _, _ => True
def ObA (P : Program) (n : Nat) (ks : List Nat) (G0 : Gr) (w0 : World) (T : List (Nat × SV)) (L : List Oper) (xs : List SV) (ef : List Nat) (tb : List (List Nat × List Nat × Hp)) : List (List Bool) → List (List Nat × List Nat × Hp) → Prop
  | bs :: B, (c, rs, H) :: ss => ObS P n ks G0 w0 T L xs ef tb c rs H bs L 0 ∧ ObA P n ks G0 w0 T L xs ef tb B ss
  | _, _ => True
theorem obs_at {c rs : List Nat} {H : Hp} {L : List Oper} : ∀ {m : List Oper} {j : Nat}, ObS P n ks G0 w0 T L xs ef tb c rs H (mayR L.toArray ef c m j) m j → ∀ (i : Nat) (o : Oper), m[i]? = some o → mayI L.toArray ef c (j + i) o = true → StepOb P n ks G0 w0 T L xs ef tb c rs H (j + i) o
  | [], j, _, i, o, h, _ => by cases h
  | p :: m, j, hO, i, o, h, hm => by
    unfold mayR at hO
    cases i with
    | zero =>
      cases h
      rw [Nat.add_zero] at hm ⊢
      rw [hm] at hO
      exact hO.1
    | succ i =>
      have hO' : ObS P n ks G0 w0 T L xs ef tb c rs H (mayR L.toArray ef c m (j + 1)) m (j + 1) := by
        cases hb : mayI L.toArray ef c j p with
        | true => rw [hb] at hO; exact hO.2
        | false => rw [hb] at hO; exact hO
      have := obs_at hO' i o (by simpa using h) (by rw [show j + 1 + i = j + (i + 1) by omega]; exact hm)
      rwa [show j + 1 + i = j + (i + 1) by omega] at this
theorem oba_at : ∀ {ss : List (List Nat × List Nat × Hp)}, ObA P n ks G0 w0 T l xs ef tb (ss.map fun s => mayR l.toArray ef s.1 l 0) ss → ∀ (k : Nat) (c rs : List Nat) (H : Hp), ss[k]? = some (c, rs, H) → ObS P n ks G0 w0 T l xs ef tb c rs H (mayR l.toArray ef c l 0) l 0
  | [], _, k, c, rs, H, h => by cases h
  | (c1, r1, H1) :: ss, hO, k, c, rs, H, h => by
    simp only [List.map_cons, ObA] at hO
    cases k with
    | zero => cases h; exact hO.1
    | succ k => exact oba_at hO.2 k c rs H (by simpa using h)
theorem Sy.pad {H : Hp} {G : Gr} {a : Act} {w : World} (A : Ms H ks G0 w0 G w) (m : Nat) : Ms (H ++ List.replicate m none) ks G0 w0 (G ++ List.replicate m none) w := by
  have hlen := A.mem.len
  have hold : ∀ (i : Nat) (e : Ent), (H ++ List.replicate m none)[i]? = some (some e) → H[i]? = some (some e) := by
    intro i e h
    by_cases hi : i < H.length
    · rwa [List.getElem?_append_left hi] at h
    · rw [List.getElem?_append_right (by omega), List.getElem?_replicate] at h
      split at h <;> cases h
  have hg : ∀ (i : Nat) (e : Ent), H[i]? = some (some e) → (G ++ List.replicate m none)[i]? = G[i]? := fun i e h => by
    have := (List.getElem?_eq_some_iff.1 h).1
    rw [List.getElem?_append_left (by omega)]
  refine ⟨⟨by simp [hlen], fun i e h => ?_, fun i j e f L M hij h1 h2 h3 h4 h5 h6 => ?_⟩, ?_, fun i e L h1 h2 h3 => ?_, A.mix⟩
  · rw [hg i e (hold i e h)]; exact (A.mem.ent i e (hold i e h)).more _
  · rw [hg i e (hold i e h1)] at h4
    rw [hg j f (hold j f h2)] at h5
    exact A.mem.sep i j e f L M hij (hold i e h1) (hold j f h2) h3 h4 h5 h6
  · obtain ⟨F, rfl⟩ := A.pre; exact ⟨F ++ List.replicate m none, by simp⟩
  · rw [hg i e (hold i e h1)] at h3; exact A.own i e L (hold i e h1) h2 h3
mutual
theorem av_go {G : Gr} {r : Nat} (key : ∀ i, (∃ p, G[i]? = some p) → (!Nat.beq i r) = true) : ∀ (x : SV) {v : Value}, den G x = some v → avS r x = true
  | .ptr i _, v, hx => by unfold den at hx; split at hx; · next L hL => exact key i ⟨_, hL⟩
                          · cases hx
  | .el i _ _ _, v, hx => by unfold den at hx; split at hx; · next L hL => exact key i ⟨_, hL⟩
                             · cases hx
  | .sl i _ _, v, hx => by unfold den at hx; split at hx; · next L hL => exact key i ⟨_, hL⟩
                           · cases hx
  | .st i _ _ _ _, v, hx => by unfold den at hx; split at hx; · next L hL => exact key i ⟨_, hL⟩
                               · cases hx
  | .agg l, v, hx => by unfold den at hx; obtain ⟨vs, h1, _⟩ := Option.map_eq_some_iff.1 hx; exact avL_go key l h1
  | .tup l, v, hx => by unfold den at hx; obtain ⟨vs, h1, _⟩ := Option.map_eq_some_iff.1 hx; exact avL_go key l h1
  | .fn _ l, v, hx => by unfold den at hx; obtain ⟨vs, h1, _⟩ := Option.map_eq_some_iff.1 hx; exact avL_go key l h1
  | .opt _ x, v, hx => by unfold den at hx; obtain ⟨vs, h1, _⟩ := Option.map_eq_some_iff.1 hx; exact av_go key x h1
  | .ix p _ _ _ _, v, hx => by
    unfold den at hx
    cases hq : den G p with
    | none => rw [hq] at hx; cases hx
    | some u => exact av_go key p hq
  | .sp p _ _, v, hx => by
    unfold den at hx
    cases hq : den G p with
    | none => rw [hq] at hx; cases hx
    | some u => exact av_go key p hq
  | .int _ _, _, _ => rfl
  | .bool _, _, _ => rfl
  | .tt, _, _ => rfl
  | .ff, _, _ => rfl
  | .str _, _, _ => rfl
  | .sla _ _ _, _, _ => rfl
  | .v _, _, _ => rfl
theorem avL_go {G : Gr} {r : Nat} (key : ∀ i, (∃ p, G[i]? = some p) → (!Nat.beq i r) = true) : ∀ (l : List SV) {vs : List Value}, denL G l = some vs → avL r l = true
  | [], _, _ => rfl
  | x :: l, vs, hx => by
    obtain ⟨v, ws, h1, h2, _⟩ := denL_cons hx
    unfold avL
    rw [av_go key x h1, avL_go key l h2]; rfl
end
theorem inS_av {G : Gr} {r : Nat} (h : G.length ≤ r) (x : SV) {v : Value} (hx : den G x = some v) : avS r x = true :=
  av_go (fun i ⟨p, hp⟩ => by
    have := (List.getElem?_eq_some_iff.1 hp).1
    cases hb : Nat.beq i r with
    | false => rfl
    | true => have := Nat.eq_of_beq_eq_true hb; omega) x hx
def endS (ef : List Nat) : List (List Nat × List Nat × Hp) → Option Hp
  | [] => none
  | [(_, _, H)] => some H
  | (c, _, _) :: s => bif ef.all c.contains then none else endS ef s
theorem endS_spec {HE : Hp} : ∀ {tb : List (List Nat × List Nat × Hp)}, endS ef tb = some HE → ∀ (k : Nat) (c rs : List Nat) (H : Hp), tb[k]? = some (c, rs, H) → ef.all c.contains = true → H = HE
  | [], h, k, c, rs, H, hk, _ => by cases hk
  | [(c1, r1, H1)], h, k, c, rs, H, hk, _ => by
    cases h
    cases k with
    | zero => cases hk; rfl
    | succ k => simp at hk
  | (c1, r1, H1) :: s1 :: ss, h, k, c, rs, H, hk, hc => by
    unfold endS at h
    cases hb : ef.all c1.contains with
    | true => rw [hb] at h; cases h
    | false =>
      rw [hb] at h
      cases k with
      | zero => cases hk; rw [hc] at hb; cases hb
      | succ k => exact endS_spec (tb := s1 :: ss) h k c rs H (by simpa using hk) hc
/-- a region that draws its order, with places kept for what is made -/
theorem ANY {id : Nat} {H HE : Hp} {G : Gr} {a : Act} {w : World} {K : List Fr} (hmo : P.follows .mixedOrders = true) (xs : List SV) (ef rs0 : List Nat) (m : Nat) (tb : List (List Nat × List Nat × Hp)) (B : List (List Bool)) (A : Sy n T H ks G0 w0 G a w)
    (h0 : tb[0]? = some ([], rs0, H ++ List.replicate m none)) (hE : endS ef tb = some HE) (hrs : (rs0.all fun r => Nat.ble H.length r) = true) (hef : (ef.all fun p => Nat.blt p l.length) = true) (hB : (tb.map fun s => mayR l.toArray ef s.1 l 0) = B) (hl : xs.length = l.length) (hfit : fitB l.toArray n [] = true)
    (hO : ObA P n ks G0 w0 (keepT l T) l xs ef tb B tb) (hk : ∀ {G a w}, Sy n (putS l xs (keepT l T)) HE ks G0 w0 G a w → Goal P Q K .norm a w) : Goal P Q K (.code (.region id l.toArray true)) a w := by
  refine wp_region_any hmo ?_
  have hB1 : Ms H ks G0 w0 G w.drew := A.ms.grow (Grow.refl w).drew
  rw [List.all_eq_true] at hrs hef
  refine any_go (P := P) (xs := xs) (T := keepT l T) (ef := ef) (rs0 := rs0) (tb := tb) hfit (fun t x hx j o h3 h4 i hi hne => lt_spec (by have := keepB_spec (keep_look hx).2 j o h3 h4; rwa [Nat.zero_add] at this) i hi hne) (fun t x hx r hr => ?_) hl (fun k c rs H hk i o hi hm => ?_) (fun k c rs H' hk' hall G a w A' => ?_) _ _ _ _ 0 [] rs0 _ (G ++ List.replicate m none) (by simp) (by
    refine Nat.le_trans (List.length_filter_le _ _) (by simp)) h0 ⟨A.size, A.defers, fun t x hx _ => den_mono _ x (A.get t x (keep_look hx).1), fun j o x _ hj => ?_, Sy.pad (a := a) hB1 m, fun p hp => ?_, fun p hp => absurd hp (by simp), fun r hr => hr, fun j o p _ hj => ?_⟩
  · have := hrs r hr
    rw [A.mem.len] at this
    exact inS_av (G := G) (Nat.le_of_ble_eq_true this) x (A.get t x (keep_look hx).1)
  · have := obs_at (oba_at (by rw [hB]; exact hO) k c rs H hk) i o hi (by rw [Nat.zero_add]; exact hm)
    rwa [Nat.zero_add] at this
  · have h2 : (ef.all c.contains) = true := by
      rw [List.all_eq_true]
      intro p hp
      have := hall p hp (by have := hef p hp; simpa [Nat.blt_eq] using this)
      simpa using this
    cases endS_spec hE k c rs H' hk' h2
    exact hk A'
  · exfalso; simp [Array.getD_eq_getD_getElem?, Array.getElem?_replicate] at hj; split at hj <;> simp at hj
  · constructor
    · intro hj; exfalso; simp [Array.getD_eq_getD_getElem?, Array.getElem?_replicate] at hj; split at hj <;> simp at hj
    · intro hj; cases hj
  · exfalso; simp [Array.getD_eq_getD_getElem?, Array.getElem?_replicate] at hj; split at hj <;> simp at hj
/-! ### Cells written out, as a list that is read -/
theorem blk_parts {α : Type} (d : α) (cf : α → List SV) (s : Nat) (hs : ∀ x, (cf x).length = s) (hin : ∀ x, inL 0 (cf x) = true) : ∀ (L : List α) (k : Nat), k < L.length → tk s (dp (k * s) (L.flatMap cf)) = some (cf (L.getD k d)) ∧ inL 0 (cf (L.getD k d)) = true
  | [], k, h => by simp at h
  | x :: L, 0, _ => by
    refine ⟨?_, hin _⟩
    have tkl : ∀ (a b : List SV), tk a.length (a ++ b) = some a := by
      intro a b
      induction a with
      | nil => rfl
      | cons y a ih => simp [tk, ih]
    rw [Nat.zero_mul, ← hs x]
    exact tkl _ _
  | x :: L, k + 1, h => by
    have := blk_parts d cf s hs hin L k (by simpa using h)
    rw [dp_is] at this ⊢
    have e : (k + 1) * s = (cf x).length + k * s := by rw [hs, Nat.add_mul]; omega
    rw [List.flatMap_cons, e, ← List.drop_drop, List.drop_left]
    exact this
theorem Sy.asT {H : Hp} {G : Gr} {a : Act} {w : World} (A : Sy n T H ks G0 w0 G a w) {α : Type} (d : α) (cf : α → List SV) (s : Nat) (hs : ∀ x, (cf x).length = s) (hin : ∀ x, inL 0 (cf x) = true) (htot : ∀ x, ∃ vs, denL [] (cf x) = some vs) (L : List α) (i : Nat) (hi : lg H i = some (some (.blk (L.flatMap cf)))) : Sy n T (stH H i (some (.lst s L.length fun zz => cf (L.getD zz d)))) ks G0 w0 G a w :=
  A.asList i (f := fun zz => cf (L.getD zz d)) (by rw [lg_is] at hi; exact hi) (.inr ⟨_, rfl, blk_parts d cf s hs hin L⟩) (fun _ _ => rfl) (fun k => htot _)
theorem eff_asT {α : Type} {d : α} {cf : α → List SV} {s : Nat} (hc : (∀ x, (cf x).length = s) ∧ (∀ x, inL 0 (cf x) = true) ∧ (∀ x, ∃ vs, denL [] (cf x) = some vs)) (L : List α) (i : Nat) {H H' : Hp} {ops : Array Oper} {o : Oper} {x : SV} {Tw : List (Nat × SV)} (hi : lg H i = some (some (.blk (L.flatMap cf)))) (h : EffOK P n ops ks G0 w0 Tw (stH H i (some (.lst s L.length fun zz => cf (L.getD zz d)))) o x H') : EffOK P n ops ks G0 w0 Tw H o x H' := fun G a w A => h G a w (A.asT d cf s hc.1 hc.2.1 hc.2.2 L i hi)
end
end Go.Proofs.YtbghlhhoafkmgaaDoor
/- A node as a text. -/
namespace Go.Proofs.YtbghlhhoafkmgaaDoor
open Go.RowKit
set_option linter.unusedVariables false
set_option linter.unusedSimpArgs false
set_option maxRecDepth 100000
set_option maxHeartbeats 2000000
set_option simprocs false
abbrev Pc := List UInt8 × Int
def pz : Pc := ([], 0)
theorem ap_len (ks : List Int) (t : List UInt8) (k : Int) : (apT ks t k).length ≤ t.length + 2 := by
  unfold apT; split
  · simp only [List.length_append, List.length_cons, List.length_nil]; omega
  · omega
theorem wr_f {R : List (List UInt8)} {l : List Pc} {j : Nat} {rg vl : Int} (ql : ∀ q, (l.getD q pz).1.length ≤ 1000000) (qR : ∀ q, (R.getD q []).length ≤ 100) (qv : -9223372036854775808 ≤ vl ∧ vl ≤ 9223372036854775807) : (l.getD ((((j : Nat) : Int) + 0).toNat) pz).1.length ≤ 1000000 ∧ (l.getD ((((j : Nat) : Int) + 1).toNat) pz).1.length ≤ 1000000 ∧ (R.getD (rg).toNat []).length ≤ 100 ∧ (Lib.itoa vl).length ≤ 21 ∧ (apT [4, 5] (l.getD ((((j : Nat) : Int) + 0).toNat) pz).1 (l.getD ((((j : Nat) : Int) + 0).toNat) pz).2).length ≤ 1000002 ∧ (apT [5] (l.getD ((((j : Nat) : Int) + 0).toNat) pz).1 (l.getD ((((j : Nat) : Int) + 0).toNat) pz).2).length ≤ 1000002 ∧ (apT [4, 5] (l.getD ((((j : Nat) : Int) + 1).toNat) pz).1 (l.getD ((((j : Nat) : Int) + 1).toNat) pz).2).length ≤ 1000002 ∧ (apT [5] (l.getD ((((j : Nat) : Int) + 1).toNat) pz).1 (l.getD ((((j : Nat) : Int) + 1).toNat) pz).2).length ≤ 1000002 := by
  have h0 := ql ((((j : Nat) : Int) + 0).toNat); have h1 := ql ((((j : Nat) : Int) + 1).toNat)
  exact ⟨h0, h1, qR _, Lib.itoa_length_le vl qv.1 qv.2, Nat.le_trans (ap_len _ _ _) (by omega), Nat.le_trans (ap_len _ _ _) (by omega), Nat.le_trans (ap_len _ _ _) (by omega), Nat.le_trans (ap_len _ _ _) (by omega)⟩
theorem wr_l (lc : Int) (h : 0 ≤ lc ∧ lc < 3) : ([[120], [121], [122]].getD (lc).toNat ([] : List UInt8)).length ≤ 1 := by
  have : (lc).toNat = 0 ∨ (lc).toNat = 1 ∨ (lc).toNat = 2 := by omega
  rcases this with e | e | e <;> rw [e] <;> decide
def wr0 (R : List (List UInt8)) (kd : Int) (th : Int) (rg : Int) (lc : Int) (vl : Int) (l : List Pc) (j : Nat) (k : Nat) : List UInt8 := if kd = 1 then ((((Lib.itoa th) ++ [58]) ++ (R.getD ((rg).toNat) [])) ++ [61]) ++ (Lib.itoa vl) else if kd = 2 then (([[120], [121], [122]].getD (lc).toNat []) ++ [61]) ++ (Lib.itoa vl) else if kd = 3 then [126] ++ (apT [4, 5] ((l.getD ((((j : Nat) : Int) + 0).toNat) pz).1) ((l.getD ((((j : Nat) : Int) + 0).toNat) pz).2)) else if kd = 4 then ((((apT [5] ((l.getD ((((j : Nat) : Int) + 0).toNat) pz).1) ((l.getD ((((j : Nat) : Int) + 0).toNat) pz).2)) ++ [32]) ++ [47, 92]) ++ [32]) ++ (apT [4, 5] ((l.getD ((((j : Nat) : Int) + 1).toNat) pz).1) ((l.getD ((((j : Nat) : Int) + 1).toNat) pz).2)) else (((((l.getD ((((j : Nat) : Int) + 0).toNat) pz).1) ++ [32]) ++ [92, 47]) ++ [32]) ++ (apT [5] ((l.getD ((((j : Nat) : Int) + 1).toNat) pz).1) ((l.getD ((((j : Nat) : Int) + 1).toNat) pz).2))
theorem wr_ (R : List (List UInt8)) (kd : Int) (th : Int) (rg : Int) (lc : Int) (vl : Int) (l : List Pc) (j : Nat) (k : Nat) (b : Nat) (o : Obj) (hT : ∀ w : World, w.heap[b]? = some o → Lib.TabIs Tryd.prog w "internal/strconv.uint64pow10" .u64 Lib.pow10Tab) (hk : j + k ≤ l.length) (q1 : kd = 1 → 0 ≤ th ∧ th < 3 ∧ 0 ≤ rg ∧ rg < 8) (q2 : kd = 2 → 0 ≤ lc ∧ lc < 3) (q3 : kd = 3 → 1 ≤ k) (q4 : kd ≠ 1 → kd ≠ 2 → kd ≠ 3 → 2 ≤ k) (qv : -9223372036854775808 ≤ vl ∧ vl ≤ 9223372036854775807) (ql : ∀ q, (l.getD q pz).1.length ≤ 1000000) (qR : ∀ q, (R.getD q []).length ≤ 100) (hR : 8 ≤ R.length) : Fn Tryd.prog 30 [.sl 0 R.length 0, .agg [.int .i64 kd, .int .i64 th, .int .i64 rg, .int .i64 lc, .int .i64 vl], .st 1 2 j k 0] [some (.row 9 1 R.length 0 (fun zz => [.str (R.getD zz [])])), some (.row 63 2 l.length 0 (fun zz => [.str (l.getD zz pz).1, .int .i64 (l.getD zz pz).2])), some (.fac b o)] (Rt (.str (wr0 R kd th rg lc vl l j k)) [some (.row 9 1 R.length 0 (fun zz => [.str (R.getD zz [])])), some (.row 63 2 l.length 0 (fun zz => [.str (l.getD zz pz).1, .int .i64 (l.getD zz pz).2])), some (.fac b o)]) :=
 enterM (n := 75) (by kernel_rfl) Tryd.func30 rfl rfl rfl fun G w a h0 A => N hX 20 A rfl rfl fun A => forkE 9 A rfl
  (fun h1 A => N hX 2 A rfl rfl fun A => DRAWN hX hmo [] [(2, .str (Lib.itoa th), [some (.row 9 1 R.length 0 (fun zz => [.str (R.getD zz [])])), some (.row 63 2 l.length 0 (fun zz => [.str (l.getD zz pz).1, .int .i64 (l.getD zz pz).2])), some (.fac b o), some (.blk [.int .i64 kd, .int .i64 th, .int .i64 rg, .int .i64 lc, .int .i64 vl])]), (13, .str (Lib.itoa vl), [some (.row 9 1 R.length 0 (fun zz => [.str (R.getD zz [])])), some (.row 63 2 l.length 0 (fun zz => [.str (l.getD zz pz).1, .int .i64 (l.getD zz pz).2])), some (.fac b o), some (.blk [.int .i64 kd, .int .i64 th, .int .i64 rg, .int .i64 lc, .int .i64 vl])])] A rfl (ok_d (by have hz := wr_f (j := j) (rg := rg) ql qR qv; have := Lib.itoa_length_le th (by omega) (by omega); (try simp only [List.length_append, List.length_cons, List.length_nil]); omega) <| ok_d (by have hz := wr_f (j := j) (rg := rg) ql qR qv; have := Lib.itoa_length_le th (by omega) (by omega); (try simp only [List.length_append, List.length_cons, List.length_nil]); omega) <| ok_d (by have hz := wr_f (j := j) (rg := rg) ql qR qv; have := Lib.itoa_length_le th (by omega) (by omega); (try simp only [List.length_append, List.length_cons, List.length_nil]); omega) <| ok_d (by have hz := wr_f (j := j) (rg := rg) ql qR qv; have := Lib.itoa_length_le th (by omega) (by omega); (try simp only [List.length_append, List.length_cons, List.length_nil]); omega) <| ok_d (by have hz := wr_f (j := j) (rg := rg) ql qR qv; have := Lib.itoa_length_le th (by omega) (by omega); (try simp only [List.length_append, List.length_cons, List.length_nil]); omega) <| ok_d (by have hz := wr_f (j := j) (rg := rg) ql qR qv; have := Lib.itoa_length_le th (by omega) (by omega); (try simp only [List.length_append, List.length_cons, List.length_nil]); omega) <| ok_d (by have hz := wr_f (j := j) (rg := rg) ql qR qv; have := Lib.itoa_length_le th (by omega) (by omega); (try simp only [List.length_append, List.length_cons, List.length_nil]); omega) <| ok_d (by have hz := wr_f (j := j) (rg := rg) ql qR qv; have := Lib.itoa_length_le th (by omega) (by omega); (try simp only [List.length_append, List.length_cons, List.length_nil]); omega) <| ok_d (by have hz := wr_f (j := j) (rg := rg) ql qR qv; have := Lib.itoa_length_le th (by omega) (by omega); (try simp only [List.length_append, List.length_cons, List.length_nil]); omega) <| ok_d (by have hz := wr_f (j := j) (rg := rg) ql qR qv; have := Lib.itoa_length_le th (by omega) (by omega); (try simp only [List.length_append, List.length_cons, List.length_nil]); omega) <| ok_d (by have hz := wr_f (j := j) (rg := rg) ql qR qv; have := Lib.itoa_length_le th (by omega) (by omega); (try simp only [List.length_append, List.length_cons, List.length_nil]); omega) <| ok_d (by have hz := wr_f (j := j) (rg := rg) ql qR qv; have := Lib.itoa_length_le th (by omega) (by omega); (try simp only [List.length_append, List.length_cons, List.length_nil]); omega) <| ok_d (by have hz := wr_f (j := j) (rg := rg) ql qR qv; have := Lib.itoa_length_le th (by omega) (by omega); (try simp only [List.length_append, List.length_cons, List.length_nil]); omega) <| okE_nil) rfl rfl (by kernel_rfl) ⟨callE [2] (fn_itoa b o hT th (by omega) (by omega)) rfl rfl rfl rfl rfl rfl rfl, ⟨callE [2] (fn_itoa b o hT vl (by omega) (by omega)) rfl rfl rfl rfl rfl rfl rfl, trivial⟩⟩ trivial fun A => N hX 2 A rfl rfl fun A => RETN hX A rfl rfl rfl h0 rfl rfl rfl rfl (by simp only [oneS, nb, nbL, nbH, wr0, if_pos h1]) rfl)
  (fun h1 A => N hX 7 A rfl rfl fun A => forkE 26 A rfl
   (fun h2 A => N hX 2 A rfl rfl fun A => DRAWN hX hmo [] [(0, .sl 4 3 3, [some (.row 9 1 R.length 0 (fun zz => [.str (R.getD zz [])])), some (.row 63 2 l.length 0 (fun zz => [.str (l.getD zz pz).1, .int .i64 (l.getD zz pz).2])), some (.fac b o), some (.blk [.int .i64 kd, .int .i64 th, .int .i64 rg, .int .i64 lc, .int .i64 vl]), some (.blk [.str [120], .str [121], .str [122]])]), (8, .str (Lib.itoa vl), [some (.row 9 1 R.length 0 (fun zz => [.str (R.getD zz [])])), some (.row 63 2 l.length 0 (fun zz => [.str (l.getD zz pz).1, .int .i64 (l.getD zz pz).2])), some (.fac b o), some (.blk [.int .i64 kd, .int .i64 th, .int .i64 rg, .int .i64 lc, .int .i64 vl]), some (.blk [.str [120], .str [121], .str [122]])])] A rfl (ok_d (by omega) <| ok_d (by omega) <| ok_d (by omega) <| ok_d (by omega) <| ok_d (by have hz := wr_f (j := j) (rg := rg) ql qR qv; have hx := wr_l lc (by omega); (try simp only [List.length_append, List.length_cons, List.length_nil]); omega) <| ok_d (by have hz := wr_f (j := j) (rg := rg) ql qR qv; have hx := wr_l lc (by omega); (try simp only [List.length_append, List.length_cons, List.length_nil]); omega) <| ok_d (by have hz := wr_f (j := j) (rg := rg) ql qR qv; have hx := wr_l lc (by omega); (try simp only [List.length_append, List.length_cons, List.length_nil]); omega) <| okE_nil) rfl rfl (by kernel_rfl) ⟨callE [] locs_ rfl rfl rfl rfl rfl rfl rfl, ⟨callE [2] (fn_itoa b o hT vl (by omega) (by omega)) rfl rfl rfl rfl rfl rfl rfl, trivial⟩⟩ trivial fun A => N hX 2 A rfl rfl fun A => RETN hX A rfl rfl rfl h0 rfl rfl rfl rfl (by simp only [oneS, nb, nbL, nbH, wr0, if_neg (h1), if_pos h2]) rfl)
   (fun h2 A => N hX 7 A rfl rfl fun A => forkE 38 A rfl
    (fun h3 A => N hX 7 A rfl (ok_d (by have hz := wr_f (j := j) (rg := rg) ql qR qv; (try simp only [List.length_append, List.length_cons, List.length_nil]); omega) <| ok_d (by have hz := wr_f (j := j) (rg := rg) ql qR qv; (try simp only [List.length_append, List.length_cons, List.length_nil]); omega) <| okE_nil) fun A => CALL1 [4] (ap45_ ((l.getD ((((j : Nat) : Int) + 0).toNat) pz).1) ((l.getD ((((j : Nat) : Int) + 0).toNat) pz).2) (by have hz := wr_f (j := j) (rg := rg) ql qR qv; (try simp only [List.length_append, List.length_cons, List.length_nil]); omega)) A rfl rfl rfl rfl rfl rfl rfl fun A => N hX 5 A rfl (ok_d (by have hz := wr_f (j := j) (rg := rg) ql qR qv; (try simp only [List.length_append, List.length_cons, List.length_nil]); omega) <| okE_nil) fun A => RETN hX A rfl rfl rfl h0 rfl rfl rfl rfl (by simp only [oneS, nb, nbL, nbH, wr0, if_neg (h1), if_neg (h2), if_pos h3]) rfl)
    (fun h3 A => N hX 7 A rfl rfl fun A => forkE 46 A rfl
     (fun h4 A => N hX 2 A rfl rfl fun A => ANY hmo [.st 1 2 j k 0, .el 1 2 (((j : Nat) : Int) + 0) 0, .agg [.str ((l.getD ((((j : Nat) : Int) + 0).toNat) pz).1), .int .i64 ((l.getD ((((j : Nat) : Int) + 0).toNat) pz).2)], .sl 4 1 1, .str (apT [5] ((l.getD ((((j : Nat) : Int) + 0).toNat) pz).1) ((l.getD ((((j : Nat) : Int) + 0).toNat) pz).2)), .str ((apT [5] ((l.getD ((((j : Nat) : Int) + 0).toNat) pz).1) ((l.getD ((((j : Nat) : Int) + 0).toNat) pz).2)) ++ [32]), .str (((apT [5] ((l.getD ((((j : Nat) : Int) + 0).toNat) pz).1) ((l.getD ((((j : Nat) : Int) + 0).toNat) pz).2)) ++ [32]) ++ [47, 92]), .str ((((apT [5] ((l.getD ((((j : Nat) : Int) + 0).toNat) pz).1) ((l.getD ((((j : Nat) : Int) + 0).toNat) pz).2)) ++ [32]) ++ [47, 92]) ++ [32]), .st 1 2 j k 0, .el 1 2 (((j : Nat) : Int) + 1) 0, .agg [.str ((l.getD ((((j : Nat) : Int) + 1).toNat) pz).1), .int .i64 ((l.getD ((((j : Nat) : Int) + 1).toNat) pz).2)], .sl 5 2 2, .str (apT [4, 5] ((l.getD ((((j : Nat) : Int) + 1).toNat) pz).1) ((l.getD ((((j : Nat) : Int) + 1).toNat) pz).2)), .str (((((apT [5] ((l.getD ((((j : Nat) : Int) + 0).toNat) pz).1) ((l.getD ((((j : Nat) : Int) + 0).toNat) pz).2)) ++ [32]) ++ [47, 92]) ++ [32]) ++ (apT [4, 5] ((l.getD ((((j : Nat) : Int) + 1).toNat) pz).1) ((l.getD ((((j : Nat) : Int) + 1).toNat) pz).2))), .str (((((apT [5] ((l.getD ((((j : Nat) : Int) + 0).toNat) pz).1) ((l.getD ((((j : Nat) : Int) + 0).toNat) pz).2)) ++ [32]) ++ [47, 92]) ++ [32]) ++ (apT [4, 5] ((l.getD ((((j : Nat) : Int) + 1).toNat) pz).1) ((l.getD ((((j : Nat) : Int) + 1).toNat) pz).2)))] [3, 4, 11, 12] [4, 5] 2 [([], [4, 5], [some (.row 9 1 R.length 0 (fun zz => [.str (R.getD zz [])])), some (.row 63 2 l.length 0 (fun zz => [.str (l.getD zz pz).1, .int .i64 (l.getD zz pz).2])), some (.fac b o), some (.blk [.int .i64 kd, .int .i64 th, .int .i64 rg, .int .i64 lc, .int .i64 vl]), none, none]), ([3], [5], [some (.row 9 1 R.length 0 (fun zz => [.str (R.getD zz [])])), some (.row 63 2 l.length 0 (fun zz => [.str (l.getD zz pz).1, .int .i64 (l.getD zz pz).2])), some (.fac b o), some (.blk [.int .i64 kd, .int .i64 th, .int .i64 rg, .int .i64 lc, .int .i64 vl]), some (.blk [.int .i64 5]), none]), ([11], [4], [some (.row 9 1 R.length 0 (fun zz => [.str (R.getD zz [])])), some (.row 63 2 l.length 0 (fun zz => [.str (l.getD zz pz).1, .int .i64 (l.getD zz pz).2])), some (.fac b o), some (.blk [.int .i64 kd, .int .i64 th, .int .i64 rg, .int .i64 lc, .int .i64 vl]), none, some (.blk [.int .i64 4, .int .i64 5])]), ([3, 4], [5], [some (.row 9 1 R.length 0 (fun zz => [.str (R.getD zz [])])), some (.row 63 2 l.length 0 (fun zz => [.str (l.getD zz pz).1, .int .i64 (l.getD zz pz).2])), some (.fac b o), some (.blk [.int .i64 kd, .int .i64 th, .int .i64 rg, .int .i64 lc, .int .i64 vl]), some (.blk [.int .i64 5]), none]), ([3, 11], [], [some (.row 9 1 R.length 0 (fun zz => [.str (R.getD zz [])])), some (.row 63 2 l.length 0 (fun zz => [.str (l.getD zz pz).1, .int .i64 (l.getD zz pz).2])), some (.fac b o), some (.blk [.int .i64 kd, .int .i64 th, .int .i64 rg, .int .i64 lc, .int .i64 vl]), some (.blk [.int .i64 5]), some (.blk [.int .i64 4, .int .i64 5])]), ([3, 4, 11], [], [some (.row 9 1 R.length 0 (fun zz => [.str (R.getD zz [])])), some (.row 63 2 l.length 0 (fun zz => [.str (l.getD zz pz).1, .int .i64 (l.getD zz pz).2])), some (.fac b o), some (.blk [.int .i64 kd, .int .i64 th, .int .i64 rg, .int .i64 lc, .int .i64 vl]), some (.blk [.int .i64 5]), some (.blk [.int .i64 4, .int .i64 5])]), ([3, 4, 11, 12], [], [some (.row 9 1 R.length 0 (fun zz => [.str (R.getD zz [])])), some (.row 63 2 l.length 0 (fun zz => [.str (l.getD zz pz).1, .int .i64 (l.getD zz pz).2])), some (.fac b o), some (.blk [.int .i64 kd, .int .i64 th, .int .i64 rg, .int .i64 lc, .int .i64 vl]), some (.blk [.int .i64 5]), some (.blk [.int .i64 4, .int .i64 5])])] [[true, true, true, true, false, false, false, false, true, true, true, true, false, false, false], [true, true, true, false, true, false, false, false, true, true, true, true, false, false, false], [true, true, true, true, false, false, false, false, true, true, true, false, false, false, false], [true, true, false, false, false, true, true, true, true, true, true, true, false, false, false], [true, true, true, false, true, false, false, false, true, true, true, false, false, false, false], [true, true, false, false, false, true, true, true, true, true, true, false, true, false, false], [true, true, false, false, false, true, true, true, true, true, false, false, false, true, true]] A rfl rfl rfl rfl (by kernel_rfl) rfl (by kernel_rfl) ⟨⟨⟨_, _, _, _, 0, rfl, rfl, rfl, rfl, eff_at (eff_auto (X := ⟨_, true⟩) (out := .val _ _) hX rfl rfl) rfl⟩, ⟨⟨_, _, _, _, 0, rfl, rfl, rfl, rfl, eff_at (eff_auto (X := ⟨_, true⟩) (out := .val _ _) hX rfl (ok_d (by have hz := wr_f (j := j) (rg := rg) ql qR qv; (try simp only [List.length_append, List.length_cons, List.length_nil]); omega) <| okE_nil)) rfl⟩, ⟨⟨_, _, _, _, 0, rfl, rfl, rfl, rfl, eff_at (eff_auto (X := ⟨_, true⟩) (out := .val _ _) hX rfl (ok_d (by have hz := wr_f (j := j) (rg := rg) ql qR qv; (try simp only [List.length_append, List.length_cons, List.length_nil]); omega) <| okE_nil)) rfl⟩, ⟨⟨_, _, _, _, 1, rfl, rfl, rfl, rfl, new_at 4 (X := ⟨_, true⟩) hX rfl rfl (le0 h0 rfl) rfl rfl rfl rfl⟩, ⟨⟨_, _, _, _, 0, rfl, rfl, rfl, rfl, eff_at (eff_auto (X := ⟨_, true⟩) (out := .val _ _) hX rfl rfl) rfl⟩, ⟨⟨_, _, _, _, 0, rfl, rfl, rfl, rfl, eff_at (eff_auto (X := ⟨_, true⟩) (out := .val _ _) hX rfl (ok_d (by have hz := wr_f (j := j) (rg := rg) ql qR qv; (try simp only [List.length_append, List.length_cons, List.length_nil]); omega) <| okE_nil)) rfl⟩, ⟨⟨_, _, _, _, 0, rfl, rfl, rfl, rfl, eff_at (eff_auto (X := ⟨_, true⟩) (out := .val _ _) hX rfl (ok_d (by have hz := wr_f (j := j) (rg := rg) ql qR qv; (try simp only [List.length_append, List.length_cons, List.length_nil]); omega) <| okE_nil)) rfl⟩, ⟨⟨_, _, _, _, 2, rfl, rfl, rfl, rfl, new_at 5 (X := ⟨_, true⟩) hX rfl rfl (le0 h0 rfl) rfl rfl rfl rfl⟩, trivial⟩⟩⟩⟩⟩⟩⟩⟩, ⟨⟨⟨_, _, _, _, 1, rfl, rfl, rfl, rfl, eff_at (eff_auto (X := ⟨_, true⟩) (out := .val _ _) hX rfl rfl) rfl⟩, ⟨⟨_, _, _, _, 1, rfl, rfl, rfl, rfl, eff_at (eff_auto (X := ⟨_, true⟩) (out := .val _ _) hX rfl (ok_d (by have hz := wr_f (j := j) (rg := rg) ql qR qv; (try simp only [List.length_append, List.length_cons, List.length_nil]); omega) <| okE_nil)) rfl⟩, ⟨⟨_, _, _, _, 1, rfl, rfl, rfl, rfl, eff_at (eff_auto (X := ⟨_, true⟩) (out := .val _ _) hX rfl (ok_d (by have hz := wr_f (j := j) (rg := rg) ql qR qv; (try simp only [List.length_append, List.length_cons, List.length_nil]); omega) <| okE_nil)) rfl⟩, ⟨⟨_, _, _, _, 3, rfl, rfl, rfl, rfl, eff_at (callE [4] (ap5_ ((l.getD ((((j : Nat) : Int) + 0).toNat) pz).1) ((l.getD ((((j : Nat) : Int) + 0).toNat) pz).2) (by have hz := wr_f (j := j) (rg := rg) ql qR qv; (try simp only [List.length_append, List.length_cons, List.length_nil]); omega)) rfl rfl rfl rfl rfl rfl rfl) rfl⟩, ⟨⟨_, _, _, _, 1, rfl, rfl, rfl, rfl, eff_at (eff_auto (X := ⟨_, true⟩) (out := .val _ _) hX rfl rfl) rfl⟩, ⟨⟨_, _, _, _, 1, rfl, rfl, rfl, rfl, eff_at (eff_auto (X := ⟨_, true⟩) (out := .val _ _) hX rfl (ok_d (by have hz := wr_f (j := j) (rg := rg) ql qR qv; (try simp only [List.length_append, List.length_cons, List.length_nil]); omega) <| okE_nil)) rfl⟩, ⟨⟨_, _, _, _, 1, rfl, rfl, rfl, rfl, eff_at (eff_auto (X := ⟨_, true⟩) (out := .val _ _) hX rfl (ok_d (by have hz := wr_f (j := j) (rg := rg) ql qR qv; (try simp only [List.length_append, List.length_cons, List.length_nil]); omega) <| okE_nil)) rfl⟩, ⟨⟨_, _, _, _, 4, rfl, rfl, rfl, rfl, new_at 5 (X := ⟨_, true⟩) hX rfl rfl (le0 h0 rfl) rfl rfl rfl rfl⟩, trivial⟩⟩⟩⟩⟩⟩⟩⟩, ⟨⟨⟨_, _, _, _, 2, rfl, rfl, rfl, rfl, eff_at (eff_auto (X := ⟨_, true⟩) (out := .val _ _) hX rfl rfl) rfl⟩, ⟨⟨_, _, _, _, 2, rfl, rfl, rfl, rfl, eff_at (eff_auto (X := ⟨_, true⟩) (out := .val _ _) hX rfl (ok_d (by have hz := wr_f (j := j) (rg := rg) ql qR qv; (try simp only [List.length_append, List.length_cons, List.length_nil]); omega) <| okE_nil)) rfl⟩, ⟨⟨_, _, _, _, 2, rfl, rfl, rfl, rfl, eff_at (eff_auto (X := ⟨_, true⟩) (out := .val _ _) hX rfl (ok_d (by have hz := wr_f (j := j) (rg := rg) ql qR qv; (try simp only [List.length_append, List.length_cons, List.length_nil]); omega) <| okE_nil)) rfl⟩, ⟨⟨_, _, _, _, 4, rfl, rfl, rfl, rfl, new_at 4 (X := ⟨_, true⟩) hX rfl rfl (le0 h0 rfl) rfl rfl rfl rfl⟩, ⟨⟨_, _, _, _, 2, rfl, rfl, rfl, rfl, eff_at (eff_auto (X := ⟨_, true⟩) (out := .val _ _) hX rfl rfl) rfl⟩, ⟨⟨_, _, _, _, 2, rfl, rfl, rfl, rfl, eff_at (eff_auto (X := ⟨_, true⟩) (out := .val _ _) hX rfl (ok_d (by have hz := wr_f (j := j) (rg := rg) ql qR qv; (try simp only [List.length_append, List.length_cons, List.length_nil]); omega) <| okE_nil)) rfl⟩, ⟨⟨_, _, _, _, 2, rfl, rfl, rfl, rfl, eff_at (eff_auto (X := ⟨_, true⟩) (out := .val _ _) hX rfl (ok_d (by have hz := wr_f (j := j) (rg := rg) ql qR qv; (try simp only [List.length_append, List.length_cons, List.length_nil]); omega) <| okE_nil)) rfl⟩, trivial⟩⟩⟩⟩⟩⟩⟩, ⟨⟨⟨_, _, _, _, 3, rfl, rfl, rfl, rfl, eff_at (eff_auto (X := ⟨_, true⟩) (out := .val _ _) hX rfl rfl) rfl⟩, ⟨⟨_, _, _, _, 3, rfl, rfl, rfl, rfl, eff_at (eff_auto (X := ⟨_, true⟩) (out := .val _ _) hX rfl (ok_d (by have hz := wr_f (j := j) (rg := rg) ql qR qv; (try simp only [List.length_append, List.length_cons, List.length_nil]); omega) <| okE_nil)) rfl⟩, ⟨⟨_, _, _, _, 3, rfl, rfl, rfl, rfl, eff_at (eff_auto (X := ⟨_, true⟩) (out := .val _ _) hX rfl (ok_d (by have hz := wr_f (j := j) (rg := rg) ql qR qv; (try simp only [List.length_append, List.length_cons, List.length_nil]); omega) <| okE_nil)) rfl⟩, ⟨⟨_, _, _, _, 3, rfl, rfl, rfl, rfl, eff_at (eff_auto (X := ⟨_, true⟩) (out := .val _ _) hX rfl (ok_d (by have hz := wr_f (j := j) (rg := rg) ql qR qv; (try simp only [List.length_append, List.length_cons, List.length_nil]); omega) <| okE_nil)) rfl⟩, ⟨⟨_, _, _, _, 3, rfl, rfl, rfl, rfl, eff_at (eff_auto (X := ⟨_, true⟩) (out := .val _ _) hX rfl (ok_d (by have hz := wr_f (j := j) (rg := rg) ql qR qv; (try simp only [List.length_append, List.length_cons, List.length_nil]); omega) <| okE_nil)) rfl⟩, ⟨⟨_, _, _, _, 3, rfl, rfl, rfl, rfl, eff_at (eff_auto (X := ⟨_, true⟩) (out := .val _ _) hX rfl rfl) rfl⟩, ⟨⟨_, _, _, _, 3, rfl, rfl, rfl, rfl, eff_at (eff_auto (X := ⟨_, true⟩) (out := .val _ _) hX rfl (ok_d (by have hz := wr_f (j := j) (rg := rg) ql qR qv; (try simp only [List.length_append, List.length_cons, List.length_nil]); omega) <| okE_nil)) rfl⟩, ⟨⟨_, _, _, _, 3, rfl, rfl, rfl, rfl, eff_at (eff_auto (X := ⟨_, true⟩) (out := .val _ _) hX rfl (ok_d (by have hz := wr_f (j := j) (rg := rg) ql qR qv; (try simp only [List.length_append, List.length_cons, List.length_nil]); omega) <| okE_nil)) rfl⟩, ⟨⟨_, _, _, _, 5, rfl, rfl, rfl, rfl, new_at 5 (X := ⟨_, true⟩) hX rfl rfl (le0 h0 rfl) rfl rfl rfl rfl⟩, trivial⟩⟩⟩⟩⟩⟩⟩⟩⟩, ⟨⟨⟨_, _, _, _, 4, rfl, rfl, rfl, rfl, eff_at (eff_auto (X := ⟨_, true⟩) (out := .val _ _) hX rfl rfl) rfl⟩, ⟨⟨_, _, _, _, 4, rfl, rfl, rfl, rfl, eff_at (eff_auto (X := ⟨_, true⟩) (out := .val _ _) hX rfl (ok_d (by have hz := wr_f (j := j) (rg := rg) ql qR qv; (try simp only [List.length_append, List.length_cons, List.length_nil]); omega) <| okE_nil)) rfl⟩, ⟨⟨_, _, _, _, 4, rfl, rfl, rfl, rfl, eff_at (eff_auto (X := ⟨_, true⟩) (out := .val _ _) hX rfl (ok_d (by have hz := wr_f (j := j) (rg := rg) ql qR qv; (try simp only [List.length_append, List.length_cons, List.length_nil]); omega) <| okE_nil)) rfl⟩, ⟨⟨_, _, _, _, 5, rfl, rfl, rfl, rfl, eff_at (callE [4] (ap5_ ((l.getD ((((j : Nat) : Int) + 0).toNat) pz).1) ((l.getD ((((j : Nat) : Int) + 0).toNat) pz).2) (by have hz := wr_f (j := j) (rg := rg) ql qR qv; (try simp only [List.length_append, List.length_cons, List.length_nil]); omega)) rfl rfl rfl rfl rfl rfl rfl) rfl⟩, ⟨⟨_, _, _, _, 4, rfl, rfl, rfl, rfl, eff_at (eff_auto (X := ⟨_, true⟩) (out := .val _ _) hX rfl rfl) rfl⟩, ⟨⟨_, _, _, _, 4, rfl, rfl, rfl, rfl, eff_at (eff_auto (X := ⟨_, true⟩) (out := .val _ _) hX rfl (ok_d (by have hz := wr_f (j := j) (rg := rg) ql qR qv; (try simp only [List.length_append, List.length_cons, List.length_nil]); omega) <| okE_nil)) rfl⟩, ⟨⟨_, _, _, _, 4, rfl, rfl, rfl, rfl, eff_at (eff_auto (X := ⟨_, true⟩) (out := .val _ _) hX rfl (ok_d (by have hz := wr_f (j := j) (rg := rg) ql qR qv; (try simp only [List.length_append, List.length_cons, List.length_nil]); omega) <| okE_nil)) rfl⟩, trivial⟩⟩⟩⟩⟩⟩⟩, ⟨⟨⟨_, _, _, _, 5, rfl, rfl, rfl, rfl, eff_at (eff_auto (X := ⟨_, true⟩) (out := .val _ _) hX rfl rfl) rfl⟩, ⟨⟨_, _, _, _, 5, rfl, rfl, rfl, rfl, eff_at (eff_auto (X := ⟨_, true⟩) (out := .val _ _) hX rfl (ok_d (by have hz := wr_f (j := j) (rg := rg) ql qR qv; (try simp only [List.length_append, List.length_cons, List.length_nil]); omega) <| okE_nil)) rfl⟩, ⟨⟨_, _, _, _, 5, rfl, rfl, rfl, rfl, eff_at (eff_auto (X := ⟨_, true⟩) (out := .val _ _) hX rfl (ok_d (by have hz := wr_f (j := j) (rg := rg) ql qR qv; (try simp only [List.length_append, List.length_cons, List.length_nil]); omega) <| okE_nil)) rfl⟩, ⟨⟨_, _, _, _, 5, rfl, rfl, rfl, rfl, eff_at (eff_auto (X := ⟨_, true⟩) (out := .val _ _) hX rfl (ok_d (by have hz := wr_f (j := j) (rg := rg) ql qR qv; (try simp only [List.length_append, List.length_cons, List.length_nil]); omega) <| okE_nil)) rfl⟩, ⟨⟨_, _, _, _, 5, rfl, rfl, rfl, rfl, eff_at (eff_auto (X := ⟨_, true⟩) (out := .val _ _) hX rfl (ok_d (by have hz := wr_f (j := j) (rg := rg) ql qR qv; (try simp only [List.length_append, List.length_cons, List.length_nil]); omega) <| okE_nil)) rfl⟩, ⟨⟨_, _, _, _, 5, rfl, rfl, rfl, rfl, eff_at (eff_auto (X := ⟨_, true⟩) (out := .val _ _) hX rfl rfl) rfl⟩, ⟨⟨_, _, _, _, 5, rfl, rfl, rfl, rfl, eff_at (eff_auto (X := ⟨_, true⟩) (out := .val _ _) hX rfl (ok_d (by have hz := wr_f (j := j) (rg := rg) ql qR qv; (try simp only [List.length_append, List.length_cons, List.length_nil]); omega) <| okE_nil)) rfl⟩, ⟨⟨_, _, _, _, 5, rfl, rfl, rfl, rfl, eff_at (eff_auto (X := ⟨_, true⟩) (out := .val _ _) hX rfl (ok_d (by have hz := wr_f (j := j) (rg := rg) ql qR qv; (try simp only [List.length_append, List.length_cons, List.length_nil]); omega) <| okE_nil)) rfl⟩, ⟨⟨_, _, _, _, 6, rfl, rfl, rfl, rfl, eff_at (callE [5] (ap45_ ((l.getD ((((j : Nat) : Int) + 1).toNat) pz).1) ((l.getD ((((j : Nat) : Int) + 1).toNat) pz).2) (by have hz := wr_f (j := j) (rg := rg) ql qR qv; (try simp only [List.length_append, List.length_cons, List.length_nil]); omega)) rfl rfl rfl rfl rfl rfl rfl) rfl⟩, trivial⟩⟩⟩⟩⟩⟩⟩⟩⟩, ⟨⟨⟨_, _, _, _, 6, rfl, rfl, rfl, rfl, eff_at (eff_auto (X := ⟨_, true⟩) (out := .val _ _) hX rfl rfl) rfl⟩, ⟨⟨_, _, _, _, 6, rfl, rfl, rfl, rfl, eff_at (eff_auto (X := ⟨_, true⟩) (out := .val _ _) hX rfl (ok_d (by have hz := wr_f (j := j) (rg := rg) ql qR qv; (try simp only [List.length_append, List.length_cons, List.length_nil]); omega) <| okE_nil)) rfl⟩, ⟨⟨_, _, _, _, 6, rfl, rfl, rfl, rfl, eff_at (eff_auto (X := ⟨_, true⟩) (out := .val _ _) hX rfl (ok_d (by have hz := wr_f (j := j) (rg := rg) ql qR qv; (try simp only [List.length_append, List.length_cons, List.length_nil]); omega) <| okE_nil)) rfl⟩, ⟨⟨_, _, _, _, 6, rfl, rfl, rfl, rfl, eff_at (eff_auto (X := ⟨_, true⟩) (out := .val _ _) hX rfl (ok_d (by have hz := wr_f (j := j) (rg := rg) ql qR qv; (try simp only [List.length_append, List.length_cons, List.length_nil]); omega) <| okE_nil)) rfl⟩, ⟨⟨_, _, _, _, 6, rfl, rfl, rfl, rfl, eff_at (eff_auto (X := ⟨_, true⟩) (out := .val _ _) hX rfl (ok_d (by have hz := wr_f (j := j) (rg := rg) ql qR qv; (try simp only [List.length_append, List.length_cons, List.length_nil]); omega) <| okE_nil)) rfl⟩, ⟨⟨_, _, _, _, 6, rfl, rfl, rfl, rfl, eff_at (eff_auto (X := ⟨_, true⟩) (out := .val _ _) hX rfl rfl) rfl⟩, ⟨⟨_, _, _, _, 6, rfl, rfl, rfl, rfl, eff_at (eff_auto (X := ⟨_, true⟩) (out := .val _ _) hX rfl (ok_d (by have hz := wr_f (j := j) (rg := rg) ql qR qv; (try simp only [List.length_append, List.length_cons, List.length_nil]); omega) <| okE_nil)) rfl⟩, ⟨⟨_, _, _, _, 6, rfl, rfl, rfl, rfl, eff_at (eff_auto (X := ⟨_, true⟩) (out := .val _ _) hX rfl (ok_d (by have hz := wr_f (j := j) (rg := rg) ql qR qv; (try simp only [List.length_append, List.length_cons, List.length_nil]); omega) <| okE_nil)) rfl⟩, ⟨⟨_, _, _, _, 6, rfl, rfl, rfl, rfl, eff_at (eff_auto (X := ⟨_, true⟩) (out := .val _ _) hX rfl rfl) rfl⟩, trivial⟩⟩⟩⟩⟩⟩⟩⟩⟩, trivial⟩⟩⟩⟩⟩⟩⟩ fun A => N hX 2 A rfl rfl fun A => RETN hX A rfl rfl rfl h0 rfl rfl rfl rfl (by simp only [oneS, nb, nbL, nbH, wr0, if_neg (h1), if_neg (h2), if_neg (h3), if_pos h4]) rfl)
     (fun h4 A => N hX 5 A rfl rfl fun A => DRAWN hX hmo [] [(11, .str (apT [5] ((l.getD ((((j : Nat) : Int) + 1).toNat) pz).1) ((l.getD ((((j : Nat) : Int) + 1).toNat) pz).2)), [some (.row 9 1 R.length 0 (fun zz => [.str (R.getD zz [])])), some (.row 63 2 l.length 0 (fun zz => [.str (l.getD zz pz).1, .int .i64 (l.getD zz pz).2])), some (.fac b o), some (.blk [.int .i64 kd, .int .i64 th, .int .i64 rg, .int .i64 lc, .int .i64 vl]), some (.blk [.int .i64 5])])] A rfl (ok_d (by have hz := wr_f (j := j) (rg := rg) ql qR qv; (try simp only [List.length_append, List.length_cons, List.length_nil]); omega) <| ok_d (by have hz := wr_f (j := j) (rg := rg) ql qR qv; (try simp only [List.length_append, List.length_cons, List.length_nil]); omega) <| ok_d (by have hz := wr_f (j := j) (rg := rg) ql qR qv; (try simp only [List.length_append, List.length_cons, List.length_nil]); omega) <| ok_d (by have hz := wr_f (j := j) (rg := rg) ql qR qv; (try simp only [List.length_append, List.length_cons, List.length_nil]); omega) <| ok_d (by have hz := wr_f (j := j) (rg := rg) ql qR qv; (try simp only [List.length_append, List.length_cons, List.length_nil]); omega) <| ok_d (by have hz := wr_f (j := j) (rg := rg) ql qR qv; (try simp only [List.length_append, List.length_cons, List.length_nil]); omega) <| ok_d (by have hz := wr_f (j := j) (rg := rg) ql qR qv; (try simp only [List.length_append, List.length_cons, List.length_nil]); omega) <| ok_d (by have hz := wr_f (j := j) (rg := rg) ql qR qv; (try simp only [List.length_append, List.length_cons, List.length_nil]); omega) <| ok_d (by have hz := wr_f (j := j) (rg := rg) ql qR qv; (try simp only [List.length_append, List.length_cons, List.length_nil]); omega) <| ok_d (by have hz := wr_f (j := j) (rg := rg) ql qR qv; (try simp only [List.length_append, List.length_cons, List.length_nil]); omega) <| ok_d (by have hz := wr_f (j := j) (rg := rg) ql qR qv; (try simp only [List.length_append, List.length_cons, List.length_nil]); omega) <| ok_d (by have hz := wr_f (j := j) (rg := rg) ql qR qv; (try simp only [List.length_append, List.length_cons, List.length_nil]); omega) <| ok_d (by have hz := wr_f (j := j) (rg := rg) ql qR qv; (try simp only [List.length_append, List.length_cons, List.length_nil]); omega) <| ok_d (by have hz := wr_f (j := j) (rg := rg) ql qR qv; (try simp only [List.length_append, List.length_cons, List.length_nil]); omega) <| ok_d (by have hz := wr_f (j := j) (rg := rg) ql qR qv; (try simp only [List.length_append, List.length_cons, List.length_nil]); omega) <| ok_d (by have hz := wr_f (j := j) (rg := rg) ql qR qv; (try simp only [List.length_append, List.length_cons, List.length_nil]); omega) <| ok_d (by have hz := wr_f (j := j) (rg := rg) ql qR qv; (try simp only [List.length_append, List.length_cons, List.length_nil]); omega) <| ok_d (by have hz := wr_f (j := j) (rg := rg) ql qR qv; (try simp only [List.length_append, List.length_cons, List.length_nil]); omega) <| ok_d (by have hz := wr_f (j := j) (rg := rg) ql qR qv; (try simp only [List.length_append, List.length_cons, List.length_nil]); omega) <| ok_d (by have hz := wr_f (j := j) (rg := rg) ql qR qv; (try simp only [List.length_append, List.length_cons, List.length_nil]); omega) <| ok_d (by have hz := wr_f (j := j) (rg := rg) ql qR qv; (try simp only [List.length_append, List.length_cons, List.length_nil]); omega) <| ok_d (by have hz := wr_f (j := j) (rg := rg) ql qR qv; (try simp only [List.length_append, List.length_cons, List.length_nil]); omega) <| ok_d (by have hz := wr_f (j := j) (rg := rg) ql qR qv; (try simp only [List.length_append, List.length_cons, List.length_nil]); omega) <| ok_d (by have hz := wr_f (j := j) (rg := rg) ql qR qv; (try simp only [List.length_append, List.length_cons, List.length_nil]); omega) <| okE_nil) rfl rfl (by kernel_rfl) ⟨trivial, ⟨callE [4] (ap5_ ((l.getD ((((j : Nat) : Int) + 1).toNat) pz).1) ((l.getD ((((j : Nat) : Int) + 1).toNat) pz).2) (by have hz := wr_f (j := j) (rg := rg) ql qR qv; (try simp only [List.length_append, List.length_cons, List.length_nil]); omega)) rfl rfl rfl rfl rfl rfl rfl, trivial⟩⟩ trivial fun A => N hX 2 A rfl rfl fun A => RETN hX A rfl rfl rfl h0 rfl rfl rfl rfl (by simp only [oneS, nb, nbL, nbH, wr0, if_neg (h1), if_neg (h2), if_neg (h3), if_neg (h4)]) rfl))))
theorem pone_ (R : List (List UInt8)) (kd : Int) (th : Int) (rg : Int) (lc : Int) (vl : Int) (l : List Pc) (j : Nat) (k : Nat) (b : Nat) (o : Obj) (hT : ∀ w : World, w.heap[b]? = some o → Lib.TabIs Tryd.prog w "internal/strconv.uint64pow10" .u64 Lib.pow10Tab) (hk : j + k ≤ l.length) (q1 : kd = 1 → 0 ≤ th ∧ th < 3 ∧ 0 ≤ rg ∧ rg < 8) (q2 : kd = 2 → 0 ≤ lc ∧ lc < 3) (q3 : kd = 3 → 1 ≤ k) (q4 : kd ≠ 1 → kd ≠ 2 → kd ≠ 3 → 2 ≤ k) (qv : -9223372036854775808 ≤ vl ∧ vl ≤ 9223372036854775807) (ql : ∀ q, (l.getD q pz).1.length ≤ 1000000) (qR : ∀ q, (R.getD q []).length ≤ 100) (hR : 8 ≤ R.length) : Fn Tryd.prog 29 [.agg [.int .i64 kd, .int .i64 th, .int .i64 rg, .int .i64 lc, .int .i64 vl], .st 2 2 j k 0, .ptr 0 0] [some (.blk [.sl 1 R.length 0]), some (.row 9 1 R.length 0 (fun zz => [.str (R.getD zz [])])), some (.row 63 2 l.length 0 (fun zz => [.str (l.getD zz pz).1, .int .i64 (l.getD zz pz).2])), some (.fac b o)] (Rt (.agg [.str (wr0 R kd th rg lc vl l j k), .int .i64 kd]) [some (.blk [.sl 1 R.length 0]), some (.row 9 1 R.length 0 (fun zz => [.str (R.getD zz [])])), some (.row 63 2 l.length 0 (fun zz => [.str (l.getD zz pz).1, .int .i64 (l.getD zz pz).2])), some (.fac b o)]) :=
 enterM (n := 13) (by kernel_rfl) Tryd.func29 rfl rfl rfl fun G w a h0 A => N hX 7 A rfl rfl fun A => DRAWN hX hmo [] [(3, .str (wr0 R kd th rg lc vl l j k), [some (.blk [.sl 1 R.length 0]), some (.row 9 1 R.length 0 (fun zz => [.str (R.getD zz [])])), some (.row 63 2 l.length 0 (fun zz => [.str (l.getD zz pz).1, .int .i64 (l.getD zz pz).2])), some (.fac b o), some (.blk [.int .i64 kd, .int .i64 th, .int .i64 rg, .int .i64 lc, .int .i64 vl]), some (.blk [.str [], .int .i64 0])])] A rfl rfl rfl rfl (by kernel_rfl) ⟨callE [1, 2, 3] (wr_ R kd th rg lc vl l j k b o hT hk q1 q2 q3 q4 qv ql qR hR) rfl rfl rfl rfl rfl rfl rfl, ⟨trivial, trivial⟩⟩ trivial fun A => N hX 2 A rfl rfl fun A => RETN hX A rfl rfl rfl h0 rfl rfl rfl rfl rfl rfl
end Go.Proofs.YtbghlhhoafkmgaaDoor
/- Conditions as texts. -/
namespace Go.Proofs.YtbghlhhoafkmgaaDoor
open Go.RowKit
set_option linter.unusedVariables false
set_option linter.unusedSimpArgs false
set_option maxRecDepth 100000
set_option maxHeartbeats 2000000
set_option simprocs false
def stepP (R : List (List UInt8)) (c : Cn) (l : List Pc) : List Pc := l.take (((l.length : Nat) : Int) - parts0 c.kd).toNat ++ [(wr0 R c.kd c.th c.rg c.lc c.vl l (((l.length : Nat) : Int) - parts0 c.kd).toNat (l.length - (((l.length : Nat) : Int) - parts0 c.kd).toNat), c.kd)]
def foldP (R : List (List UInt8)) (cs : List Cn) : List Pc := cs.foldl (fun l c => stepP R c l) []
structure FI (R : List (List UInt8)) (cs : List Cn) (l : List Pc) (i : Nat) : Prop where
  lb : ∃ lb, EI oz cs lb i ∧ lb.length = l.length
  eq : l = foldP R (cs.take i)
theorem stepP_len {R : List (List UInt8)} {c : Cn} {l : List Pc} (h : 0 ≤ parts0 c.kd) : (stepP R c l).length = (((l.length : Nat) : Int) - parts0 c.kd).toNat + 1 := by
  unfold stepP; rw [List.length_append, List.length_take, List.length_cons, List.length_nil]; omega
section
variable {R : List (List UInt8)} {L : List Cn} {n i : Nat} {l : List Pc}
theorem FI.i0 (hr : right (L.take n) = true) : FI R (L.take n) [] 0 := ⟨⟨[], EI.i0 hr, rfl⟩, by simp [foldP]⟩
theorem FI.kn (hI : FI R (L.take n) l i) (hn : n ≤ L.length) (h1 : (i : Int) < ((n : Nat) : Int)) : ¬ (L.getD ((i : Int)).toNat Cn.z).n < 0 ∧ (L.getD ((i : Int)).toNat Cn.z).n ≤ (l.length : Int) ∧ (L.getD ((i : Int)).toNat Cn.z).n = parts0 (L.getD ((i : Int)).toNat Cn.z).kd ∧ (((L.getD ((i : Int)).toNat Cn.z).kd = 1 ∧ (L.getD ((i : Int)).toNat Cn.z).n = 0 ∧ 0 ≤ (L.getD ((i : Int)).toNat Cn.z).th ∧ (L.getD ((i : Int)).toNat Cn.z).th < 3 ∧ 0 ≤ (L.getD ((i : Int)).toNat Cn.z).rg ∧ (L.getD ((i : Int)).toNat Cn.z).rg < 8) ∨ ((L.getD ((i : Int)).toNat Cn.z).kd = 2 ∧ (L.getD ((i : Int)).toNat Cn.z).n = 0 ∧ 0 ≤ (L.getD ((i : Int)).toNat Cn.z).lc ∧ (L.getD ((i : Int)).toNat Cn.z).lc < 3) ∨ ((L.getD ((i : Int)).toNat Cn.z).kd = 3 ∧ (L.getD ((i : Int)).toNat Cn.z).n = 1) ∨ ((L.getD ((i : Int)).toNat Cn.z).kd = 4 ∧ (L.getD ((i : Int)).toNat Cn.z).n = 2) ∨ ((L.getD ((i : Int)).toNat Cn.z).kd = 5 ∧ (L.getD ((i : Int)).toNat Cn.z).n = 2)) ∧ l.length ≤ i := by
  obtain ⟨lb, h2, h3⟩ := hI.lb
  have := h2.kn hn h1
  rw [h3] at this
  exact this
theorem FI.nx (hI : FI R (L.take n) l i) (hr : right (L.take n) = true) (hn : n ≤ L.length) (h1 : (i : Int) < ((n : Nat) : Int)) : FI R (L.take n) (stepP R (L.getD ((i : Int)).toNat Cn.z) l) (i + 1) := by
  obtain ⟨lb, h2, h3⟩ := hI.lb
  have k := h2.kn hn h1
  refine ⟨⟨_, h2.nx hr hn h1, ?_⟩, ?_⟩
  · rw [← fold_st (p := oz) (l := lb) k.1 k.2.1 k.2.2.1 rfl, stepP_len (by omega), List.length_append, List.length_take, List.length_cons, List.length_nil, h3]; omega
  · have hi : i < (L.take n).length := by simp; omega
    rw [List.take_succ_eq_append_getElem hi, foldP, List.foldl_append, ← foldP, ← hI.eq]
    have e : (L.take n)[i] = (L.getD ((i : Int)).toNat Cn.z) := by simp [List.getD, show i < L.length by omega]
    rw [e]; rfl
theorem FI.fi (hI : FI R (L.take n) l i) (hr : right (L.take n) = true) (hn : n ≤ L.length) (h1 : ¬ (i : Int) < ((n : Nat) : Int)) : l.length = 1 ∧ l = foldP R (L.take n) := by
  obtain ⟨lb, h2, h3⟩ := hI.lb
  have := h2.fi hr hn h1
  have he := hI.eq
  rw [List.take_of_length_le (by simp; omega)] at he
  exact ⟨by omega, he⟩
theorem FI.sm (hI : FI R (L.take n) l i) (hl : ∀ i q, ((foldP R ((L.take n).take i)).getD q pz).1.length ≤ 1000000) : ∀ q, (l.getD q pz).1.length ≤ 1000000 := fun q => by rw [hI.eq]; exact hl i q
theorem papp1 {k : Nat} {x : Pc} (h : k ≤ l.length) : (l.take k ++ [x]).getD k pz = x := by
  have := getD_app_1 (l := l.take k) (x := x) (d := pz)
  rw [List.length_take, Nat.min_eq_left h] at this; exact this
end
theorem foldp_ (R : List (List UInt8)) (L : List Cn) (n : Nat) (c : Nat) (b : Nat) (o : Obj) (hT : ∀ w : World, w.heap[b]? = some o → Lib.TabIs Tryd.prog w "internal/strconv.uint64pow10" .u64 Lib.pow10Tab) (hn : n ≤ L.length) (hN : n ≤ 1000000) (hr : right (L.take n) = true) (hv : ∀ q, -9223372036854775808 ≤ (L.getD q Cn.z).vl ∧ (L.getD q Cn.z).vl ≤ 9223372036854775807) (hl : ∀ i q, ((foldP R ((L.take n).take i)).getD q pz).1.length ≤ 1000000) (qR : ∀ q, (R.getD q []).length ≤ 100) (hR : 8 ≤ R.length) : Fn Tryd.prog 28 [.sl 0 n c, .fn 29 [.ptr 1 0]] [some (.lst 5 L.length (fun zz => cc (L.getD zz Cn.z))), some (.blk [.sl 2 R.length 0]), some (.row 9 1 R.length 0 (fun zz => [.str (R.getD zz [])])), some (.fac b o)] (Rt (.agg [.str (((foldP R (L.take n)).getD 0 pz).1), .int .i64 (((foldP R (L.take n)).getD 0 pz).2)]) [some (.lst 5 L.length (fun zz => cc (L.getD zz Cn.z))), some (.blk [.sl 2 R.length 0]), some (.row 9 1 R.length 0 (fun zz => [.str (R.getD zz [])])), some (.fac b o)]) :=
 enterM (n := 36) (by kernel_rfl) Tryd.func28 rfl rfl rfl fun G w a h0 A => N hX 19 A rfl rfl fun A => have A := A.nilRow 5 63 2 (fun zz => [.str (([] : List Pc).getD zz pz).1, .int .i64 (([] : List Pc).getD zz pz).2]) rfl (fun z => ⟨_, rfl, rfl⟩); LOOP2 (fun (l : List Pc) (i : Nat) => [(1, .fn 29 [.ptr 1 0]), (4, .ptr 4 0), (5, .sl 5 l.length 0), (9, .sl 0 n c), (10, .int .i64 ((n : Nat) : Int)), (11, .int .i64 (i : Int))]) (fun (l : List Pc) (i : Nat) => [some (.lst 5 L.length (fun zz => cc (L.getD zz Cn.z))), some (.blk [.sl 2 R.length 0]), some (.row 9 1 R.length 0 (fun zz => [.str (R.getD zz [])])), some (.fac b o), some (.blk [.str [], .int .i64 0]), some (.row 63 2 l.length 0 (fun zz => [.str (l.getD zz pz).1, .int .i64 (l.getD zz pz).2]))]) (fun (l : List Pc) (i : Nat) => FI R (L.take n) l i) (fun (l : List Pc) (i : Nat) => n - i) [] 0 (FI.i0 hr) ((A.cut [1, 4, 5, 9, 10, 11] rfl).trunc 6 rfl rfl rfl (by simp only [List.length_cons, List.length_nil] at h0; omega)) fun l i hI {G a w} A => N hX 6 A rfl rfl fun A => forkD 12 A rfl
   (fun h1 A => N hX 14 A rfl (ok_d (by have hq := hI.kn hn h1; omega) <| ok_d (by have hq := hI.kn hn h1; omega) <| okE_nil) fun A => N hX 5 A rfl rfl fun A => CALL1 [] (parts_ ((L.getD (((i : Int)).toNat) Cn.z).kd)) A rfl rfl rfl rfl rfl rfl rfl fun A => N hX 4 A rfl (ok_d (by have hq := hI.kn hn h1; omega) <| okE_nil) fun A => DRAWN hX hmo [] [(8, .agg [.str (wr0 R ((L.getD (((i : Int)).toNat) Cn.z).kd) ((L.getD (((i : Int)).toNat) Cn.z).th) ((L.getD (((i : Int)).toNat) Cn.z).rg) ((L.getD (((i : Int)).toNat) Cn.z).lc) ((L.getD (((i : Int)).toNat) Cn.z).vl) l ((((l.length : Nat) : Int) - (parts0 ((L.getD (((i : Int)).toNat) Cn.z).kd))).toNat) (l.length - (((l.length : Nat) : Int) - (parts0 ((L.getD (((i : Int)).toNat) Cn.z).kd))).toNat)), .int .i64 ((L.getD (((i : Int)).toNat) Cn.z).kd)], [some (.lst 5 L.length (fun zz => cc (L.getD zz Cn.z))), some (.blk [.sl 2 R.length 0]), some (.row 9 1 R.length 0 (fun zz => [.str (R.getD zz [])])), some (.fac b o), some (.blk [.str [], .int .i64 0]), some (.row 63 2 l.length 0 (fun zz => [.str (l.getD zz pz).1, .int .i64 (l.getD zz pz).2])), some (.blk [.int .i64 ((L.getD (((i : Int)).toNat) Cn.z).kd), .int .i64 ((L.getD (((i : Int)).toNat) Cn.z).th), .int .i64 ((L.getD (((i : Int)).toNat) Cn.z).rg), .int .i64 ((L.getD (((i : Int)).toNat) Cn.z).lc), .int .i64 ((L.getD (((i : Int)).toNat) Cn.z).vl)])]), (10, .sl 8 (((((l.length : Nat) : Int) - (parts0 ((L.getD (((i : Int)).toNat) Cn.z).kd))).toNat) + 1) 0, [some (.lst 5 L.length (fun zz => cc (L.getD zz Cn.z))), some (.blk [.sl 2 R.length 0]), some (.row 9 1 R.length 0 (fun zz => [.str (R.getD zz [])])), some (.fac b o), some (.blk [.str [], .int .i64 0]), none, some (.blk [.int .i64 ((L.getD (((i : Int)).toNat) Cn.z).kd), .int .i64 ((L.getD (((i : Int)).toNat) Cn.z).th), .int .i64 ((L.getD (((i : Int)).toNat) Cn.z).rg), .int .i64 ((L.getD (((i : Int)).toNat) Cn.z).lc), .int .i64 ((L.getD (((i : Int)).toNat) Cn.z).vl)]), some (.blk [.str (wr0 R ((L.getD (((i : Int)).toNat) Cn.z).kd) ((L.getD (((i : Int)).toNat) Cn.z).th) ((L.getD (((i : Int)).toNat) Cn.z).rg) ((L.getD (((i : Int)).toNat) Cn.z).lc) ((L.getD (((i : Int)).toNat) Cn.z).vl) l ((((l.length : Nat) : Int) - (parts0 ((L.getD (((i : Int)).toNat) Cn.z).kd))).toNat) (l.length - (((l.length : Nat) : Int) - (parts0 ((L.getD (((i : Int)).toNat) Cn.z).kd))).toNat)), .int .i64 ((L.getD (((i : Int)).toNat) Cn.z).kd)]), some (.row 63 2 (((((l.length : Nat) : Int) - (parts0 ((L.getD (((i : Int)).toNat) Cn.z).kd))).toNat) + 1) 0 (fun zz => [.str ((l.take ((((l.length : Nat) : Int) - (parts0 ((L.getD (((i : Int)).toNat) Cn.z).kd))).toNat) ++ [(wr0 R ((L.getD (((i : Int)).toNat) Cn.z).kd) ((L.getD (((i : Int)).toNat) Cn.z).th) ((L.getD (((i : Int)).toNat) Cn.z).rg) ((L.getD (((i : Int)).toNat) Cn.z).lc) ((L.getD (((i : Int)).toNat) Cn.z).vl) l ((((l.length : Nat) : Int) - (parts0 ((L.getD (((i : Int)).toNat) Cn.z).kd))).toNat) (l.length - (((l.length : Nat) : Int) - (parts0 ((L.getD (((i : Int)).toNat) Cn.z).kd))).toNat), (L.getD (((i : Int)).toNat) Cn.z).kd)]).getD zz pz).1, .int .i64 ((l.take ((((l.length : Nat) : Int) - (parts0 ((L.getD (((i : Int)).toNat) Cn.z).kd))).toNat) ++ [(wr0 R ((L.getD (((i : Int)).toNat) Cn.z).kd) ((L.getD (((i : Int)).toNat) Cn.z).th) ((L.getD (((i : Int)).toNat) Cn.z).rg) ((L.getD (((i : Int)).toNat) Cn.z).lc) ((L.getD (((i : Int)).toNat) Cn.z).vl) l ((((l.length : Nat) : Int) - (parts0 ((L.getD (((i : Int)).toNat) Cn.z).kd))).toNat) (l.length - (((l.length : Nat) : Int) - (parts0 ((L.getD (((i : Int)).toNat) Cn.z).kd))).toNat), (L.getD (((i : Int)).toNat) Cn.z).kd)]).getD zz pz).2]))])] A rfl (ok_d (by show 0 ≤ ((l.length : Nat) : Int) - (parts0 ((L.getD (((i : Int)).toNat) Cn.z).kd)) ∧ ((l.length : Nat) : Int) - (parts0 ((L.getD (((i : Int)).toNat) Cn.z).kd)) ≤ ((l.length : Nat) : Int); exact (by have hq := hI.kn hn h1; omega)) <| ok_d (by show 0 ≤ ((l.length : Nat) : Int) - (parts0 ((L.getD (((i : Int)).toNat) Cn.z).kd)) ∧ ((l.length : Nat) : Int) - (parts0 ((L.getD (((i : Int)).toNat) Cn.z).kd)) ≤ ((l.length : Nat) : Int); exact (by have hq := hI.kn hn h1; omega)) <| ok_d (by show 0 ≤ ((l.length : Nat) : Int) - (parts0 ((L.getD (((i : Int)).toNat) Cn.z).kd)) ∧ ((l.length : Nat) : Int) - (parts0 ((L.getD (((i : Int)).toNat) Cn.z).kd)) ≤ ((l.length : Nat) : Int); exact (by have hq := hI.kn hn h1; omega)) <| ok_d (by have hq := hI.kn hn h1; omega) <| okE_nil) rfl rfl (by kernel_rfl) ⟨callE [1, 2, 5, 3] (pone_ R ((L.getD (((i : Int)).toNat) Cn.z).kd) ((L.getD (((i : Int)).toNat) Cn.z).th) ((L.getD (((i : Int)).toNat) Cn.z).rg) ((L.getD (((i : Int)).toNat) Cn.z).lc) ((L.getD (((i : Int)).toNat) Cn.z).vl) l ((((l.length : Nat) : Int) - (parts0 ((L.getD (((i : Int)).toNat) Cn.z).kd))).toNat) (l.length - (((l.length : Nat) : Int) - (parts0 ((L.getD (((i : Int)).toNat) Cn.z).kd))).toNat) b o hT (by have hq := hI.kn hn h1; omega) (by have hq := hI.kn hn h1; omega) (by have hq := hI.kn hn h1; omega) (by have hq := hI.kn hn h1; omega) (by have hq := hI.kn hn h1; omega) (hv _) (hI.sm hl) qR hR) rfl rfl rfl rfl rfl rfl rfl, ⟨trivial, ⟨eff_shrink (e := 63) (s := 2) 5 ((((l.length : Nat) : Int) - (parts0 ((L.getD (((i : Int)).toNat) Cn.z).kd))).toNat) rfl (by have hq := hI.kn hn h1; omega) (appE (i := 5) (e := 63) (s := 2) hX (((((l.length : Nat) : Int) - (parts0 ((L.getD (((i : Int)).toNat) Cn.z).kd))).toNat) + 1) (fun zz => [.str ((l.take ((((l.length : Nat) : Int) - (parts0 ((L.getD (((i : Int)).toNat) Cn.z).kd))).toNat) ++ [(wr0 R ((L.getD (((i : Int)).toNat) Cn.z).kd) ((L.getD (((i : Int)).toNat) Cn.z).th) ((L.getD (((i : Int)).toNat) Cn.z).rg) ((L.getD (((i : Int)).toNat) Cn.z).lc) ((L.getD (((i : Int)).toNat) Cn.z).vl) l ((((l.length : Nat) : Int) - (parts0 ((L.getD (((i : Int)).toNat) Cn.z).kd))).toNat) (l.length - (((l.length : Nat) : Int) - (parts0 ((L.getD (((i : Int)).toNat) Cn.z).kd))).toNat), (L.getD (((i : Int)).toNat) Cn.z).kd)]).getD zz pz).1, .int .i64 ((l.take ((((l.length : Nat) : Int) - (parts0 ((L.getD (((i : Int)).toNat) Cn.z).kd))).toNat) ++ [(wr0 R ((L.getD (((i : Int)).toNat) Cn.z).kd) ((L.getD (((i : Int)).toNat) Cn.z).th) ((L.getD (((i : Int)).toNat) Cn.z).rg) ((L.getD (((i : Int)).toNat) Cn.z).lc) ((L.getD (((i : Int)).toNat) Cn.z).vl) l ((((l.length : Nat) : Int) - (parts0 ((L.getD (((i : Int)).toNat) Cn.z).kd))).toNat) (l.length - (((l.length : Nat) : Int) - (parts0 ((L.getD (((i : Int)).toNat) Cn.z).kd))).toNat), (L.getD (((i : Int)).toNat) Cn.z).kd)]).getD zz pz).2]) rfl rfl rfl rfl (by have hq := hI.kn hn h1; omega) rfl (fun q hq => by show [SV.str _, SV.int _ _] = [SV.str _, SV.int _ _]; rw [getD_app_l (by rw [List.length_take]; have hq := hI.kn hn h1; omega), getD_take hq]) (by show [SV.str _, SV.int _ _] = _; rw [papp1 (by have hq := hI.kn hn h1; omega)]) (fun z => ⟨_, rfl, rfl⟩)), trivial⟩⟩⟩ trivial fun A => N hX 6 A rfl (ok_d (by have hq := hI.kn hn h1; omega) <| okE_nil) fun A => ⟨stepP R (L.getD ((i : Int)).toNat Cn.z) l, i + 1, _, (by omega), (hI.nx hr hn h1), ((((A.rowAs 8 (stepP R (L.getD ((i : Int)).toNat Cn.z) l).length (fun zz => [.str ((stepP R (L.getD ((i : Int)).toNat Cn.z) l).getD zz pz).1, .int .i64 ((stepP R (L.getD ((i : Int)).toNat Cn.z) l).getD zz pz).2]) rfl (stepP_len (R := R) (c := (L.getD ((i : Int)).toNat Cn.z)) (l := l) (by have hq := hI.kn hn h1; omega)) (fun q hq => rfl) (fun z => ⟨_, rfl, rfl⟩)).say 5 (.sl 8 (stepP R (L.getD ((i : Int)).toNat Cn.z) l).length 0) rfl (by rw [(stepP_len (R := R) (c := (L.getD ((i : Int)).toNat Cn.z)) (l := l) (by have hq := hI.kn hn h1; omega))])).cut [1, 4, 5, 9, 10, 11] rfl).mv 4 [4, 8] rfl rfl rfl rfl (by simp only [List.length_cons, List.length_nil] at h0; omega))⟩)
   (fun h1 A => N hX 12 A rfl (ok_d (by have hq := (hI.fi hr hn h1).1; omega) <| ok_d (by have hq := (hI.fi hr hn h1).1; omega) <| okE_nil) fun A => RETN hX A rfl rfl rfl h0 rfl rfl rfl rfl (by rw [← (hI.fi hr hn h1).2]; rfl) rfl)
def xnm (k : Nat) : List UInt8 := regnm0 [82, 65, 88] [82, 66, 88] [82, 67, 88] [82, 68, 88] [82, 83, 73] [82, 68, 73] [82, 56] [82, 57] (k : Int)
def xR : List (List UInt8) := (List.range 8).map xnm
theorem xnm_ (k : Nat) (_ : k < 8) : Fn Tryd.prog 43 [.int .i64 (k : Int)] [] (Rt (.str (xnm k)) []) := xname_ (k : Int)
theorem regn1_   : Fn Tryd.prog 27 [.int .i64 1] [] (Rt (.sl 0 8 0) [some (.row 9 1 8 0 (fun zz => [.str (((List.range 8).map xnm).getD zz [])]))]) :=
 enterM (n := 13) (by kernel_rfl) Tryd.func27 rfl rfl rfl fun G w a h0 A => N hX 18 A rfl rfl fun A => forkE 4 A rfl
  (fun h1 A => N hX 3 A rfl rfl fun A => CALL1 [] (alln_ 43 xnm xnm_) A rfl rfl rfl rfl rfl rfl rfl fun A => N hX 4 A rfl rfl fun A => RET hX [0] A ⟨rfl, rfl⟩ rfl rfl rfl rfl rfl rfl rfl rfl h0)
  (fun h1 A => absurd rfl h1)
theorem xR_len : ∀ q, (((List.range 8).map xnm).getD q []).length ≤ 100 := fun q => by
  by_cases h : q < 8
  · rw [nm_at h]
    have : q = 0 ∨ q = 1 ∨ q = 2 ∨ q = 3 ∨ q = 4 ∨ q = 5 ∨ q = 6 ∨ q = 7 := by omega
    rcases this with rfl | rfl | rfl | rfl | rfl | rfl | rfl | rfl <;> decide
  · rw [List.getD_eq_getElem?_getD, List.getElem?_eq_none (by simp; omega)]; decide
theorem print1_ (L : List Cn) (n : Nat) (c : Nat) (b : Nat) (o : Obj) (hT : ∀ w : World, w.heap[b]? = some o → Lib.TabIs Tryd.prog w "internal/strconv.uint64pow10" .u64 Lib.pow10Tab) (hn : n ≤ L.length) (hN : n ≤ 1000000) (hr : right (L.take n) = true) (hv : ∀ q, -9223372036854775808 ≤ (L.getD q Cn.z).vl ∧ (L.getD q Cn.z).vl ≤ 9223372036854775807) (hl : ∀ i q, ((foldP ((List.range 8).map xnm) ((L.take n).take i)).getD q pz).1.length ≤ 1000000) : Fn Tryd.prog 15 [.int .i64 1, .sl 0 n c] [some (.lst 5 L.length (fun zz => cc (L.getD zz Cn.z))), some (.fac b o)] (Rt (.tup [.str (((foldP ((List.range 8).map xnm) (L.take n)).getD 0 pz).1), .int .i64 0]) [some (.lst 5 L.length (fun zz => cc (L.getD zz Cn.z))), some (.fac b o)]) :=
 enterM (n := 20) (by kernel_rfl) Tryd.func15 rfl rfl rfl fun G w a h0 A => N hX 9 A rfl rfl fun A => CALL1 [] regn1_ A rfl rfl rfl rfl rfl rfl rfl fun A => N hX 8 A rfl rfl fun A => NILR hX A rfl rfl (by omega) fun A => N hX 9 A rfl rfl fun A => CALL1 [0] (pright_ L n c hn) A rfl rfl rfl rfl rfl rfl rfl fun A => N hX 3 A rfl rfl fun A => fork 14 A rfl
  (fun h1 A => absurd h1 (by rw [hr]; decide))
  (fun h1 A => N hX 7 A rfl rfl fun A => CALL1 [0, 3, 2, 1] (foldp_ ((List.range 8).map xnm) L n c b o hT hn hN hr hv hl xR_len (by decide)) A rfl rfl rfl rfl rfl rfl rfl fun A => N hX 13 A rfl rfl fun A => RETN hX A rfl rfl rfl h0 rfl rfl rfl rfl rfl rfl)
end Go.Proofs.YtbghlhhoafkmgaaDoor
/- A program that is able. -/
namespace Go.Proofs.YtbghlhhoafkmgaaDoor
open Go.RowKit
set_option linter.unusedVariables false
set_option linter.unusedSimpArgs false
set_option maxRecDepth 100000
set_option maxHeartbeats 2000000
set_option simprocs false
theorem fn_asX {P : Program} {f : Nat} {az : List SV} {H H2 : Hp} {x y : SV} (h : Fn P f az H (Rt x H2)) (e : ∀ G, den G x = den G y) : Fn P f az H (Rt y H2) :=
  ⟨h.1, fun G w vs hM hv => Calls.mono (h.2 G w vs hM hv) fun e' w' ⟨x', H', F, v, ⟨q1, q2⟩, r⟩ => by subst q1; subst q2; exact ⟨y, _, F, v, ⟨rfl, rfl⟩, by rw [← e]; exact r.1, r.2⟩⟩
def aC : Cn := ⟨2, 0, 0, 0, 1⟩
def nC : Cn := ⟨3, 0, 0, 0, 0⟩
def oA : O := fun k => if k = 24 then 1 else 0
theorem tyC : (∀ x, (cc x).length = 5) ∧ (∀ x, inL 0 (cc x) = true) ∧ (∀ x, ∃ vs, denL [] (cc x) = some vs) := ⟨fun _ => rfl, fun _ => rfl, fun _ => ⟨_, rfl⟩⟩
theorem tyO : (∀ x, (oc x).length = 27) ∧ (∀ x, inL 0 (oc x) = true) ∧ (∀ x, ∃ vs, denL [] (oc x) = some vs) := ⟨fun _ => rfl, fun _ => rfl, fun _ => ⟨_, rfl⟩⟩
theorem itoa1 : Lib.itoa 1 = [49] := by unfold Lib.itoa; rw [if_neg (by decide)]; show Lib.decDigits 1 = _; unfold Lib.decDigits; rfl
theorem fp0 (R : List (List UInt8)) : foldP R [] = [] := rfl
theorem fp1 (R : List (List UInt8)) : foldP R [aC] = [([120, 61, 49], 2)] := by
  show stepP R aC [] = _
  have : wr0 R aC.kd aC.th aC.rg aC.lc aC.vl [] 0 0 = [120, 61] ++ Lib.itoa 1 := rfl
  show [] ++ [(wr0 R aC.kd aC.th aC.rg aC.lc aC.vl [] 0 0, 2)] = _
  rw [this, itoa1]; rfl
theorem fp2 (R : List (List UInt8)) : foldP R [aC, nC] = [([126, 120, 61, 49], 3)] := by
  have : foldP R [aC, nC] = stepP R nC (foldP R [aC]) := rfl
  rw [this, fp1]; rfl
theorem fpl (R : List (List UInt8)) : ∀ i q, ((foldP R (([aC, nC].take 2).take i)).getD q pz).1.length ≤ 1000000 := by
  intro i q
  have hi : ([aC, nC].take 2).take i = [] ∨ ([aC, nC].take 2).take i = [aC] ∨ ([aC, nC].take 2).take i = [aC, nC] := by
    rcases i with _ | _ | i
    · exact .inl rfl
    · exact .inr (.inl rfl)
    · exact .inr (.inr (List.take_of_length_le (by simp)))
  rcases hi with h | h | h <;> rw [h]
  · rw [fp0]; show (pz.1).length ≤ _; decide
  · rw [fp1]; rcases q with _ | q
    · decide
    · show (pz.1).length ≤ _; decide
  · rw [fp2]; rcases q with _ | q
    · decide
    · show (pz.1).length ≤ _; decide
theorem vA : ∀ q, -9223372036854775808 ≤ ([aC, nC].getD q Cn.z).vl ∧ ([aC, nC].getD q Cn.z).vl ≤ 9223372036854775807 := fun q => by
  rcases q with _ | _ | q
  · decide
  · decide
  · show -9223372036854775808 ≤ Cn.z.vl ∧ Cn.z.vl ≤ 9223372036854775807; decide
theorem printA_ (b : Nat) (o : Obj) (hT : ∀ w : World, w.heap[b]? = some o → Lib.TabIs Tryd.prog w "internal/strconv.uint64pow10" .u64 Lib.pow10Tab) : Fn Tryd.prog 15 [.int .i64 1, .sl 0 2 2] [some (.lst 5 ([aC, nC].length) (fun zz => cc ([aC, nC].getD zz Cn.z))), some (.fac b o)] (Rt (.tup [.str [126, 120, 61, 49], .int .i64 0]) [some (.lst 5 ([aC, nC].length) (fun zz => cc ([aC, nC].getD zz Cn.z))), some (.fac b o)]) :=
  fn_asX (print1_ [aC, nC] 2 2 b o hT (by decide) (by decide) rfl vA (fpl _)) fun _ => by rw [show ([aC, nC] : List Cn).take 2 = [aC, nC] from rfl, fp2]; rfl
theorem canA : ∀ y ∈ [oz, oA], Can y := fun y hy => by
  rcases List.mem_cons.1 hy with rfl | hy
  · intro k hk; rfl
  · rcases List.mem_cons.1 hy with rfl | hy
    · intro k hk; exact if_neg (by omega)
    · cases hy
theorem judgeA_ : Fn Tryd.prog 21 [.int .i64 1, .sl 0 1 1, .sl 1 2 2] [some (.lst 5 ([aC].length) (fun zz => cc ([aC].getD zz Cn.z))), some (.lst 27 ([oz, oA].length) (fun zz => oc ([oz, oA].getD zz oz)))] (Rt (.tup [.agg [.tt, .tt, .int .i64 0, .int .i64 0, .int .i64 0, .int .i64 0, .int .i64 0, .int .i64 0, .int .i64 0, .int .i64 0, .int .i64 0, .int .i64 0, .int .i64 0, .int .i64 0, .int .i64 0, .int .i64 0, .int .i64 0, .int .i64 0, .int .i64 0, .int .i64 0, .int .i64 0, .int .i64 0, .int .i64 0, .int .i64 0, .int .i64 0, .int .i64 0, .int .i64 1, .int .i64 0, .int .i64 0, .int .i64 2], .int .i64 0]) [some (.lst 5 ([aC].length) (fun zz => cc ([aC].getD zz Cn.z))), some (.lst 27 ([oz, oA].length) (fun zz => oc ([oz, oA].getD zz oz)))]) :=
  fn_asX (pjudge_ 1 [aC] 1 1 [oz, oA] 2 (by decide) (by decide) (by decide) canA) fun _ => rfl
theorem rightA_ : Fn Tryd.prog 10 [.sl 0 1 1] [some (.lst 5 ([aC].length) (fun zz => cc ([aC].getD zz Cn.z)))] (Rt .tt [some (.lst 5 ([aC].length) (fun zz => cc ([aC].getD zz Cn.z)))]) := fn_asX (pright_ [aC] 1 1 (by decide)) fun _ => rfl
theorem able_ (b : Nat) (o : Obj) (hT : ∀ w : World, w.heap[b]? = some o → Lib.TabIs Tryd.prog w "internal/strconv.uint64pow10" .u64 Lib.pow10Tab) : Fn Tryd.prog 9 [] [some (.fac b o)] (Rt (.tt) [some (.fac b o)]) :=
 enterM (n := 55) (by kernel_rfl) Tryd.func9 rfl rfl rfl fun G w a h0 A => N hX 17 A rfl rfl fun A => have A := A.asT Cn.z cc 5 tyC.1 tyC.2.1 tyC.2.2 [aC, nC] 2 rfl; CALL1 [2, 0] (printA_ b o hT) A rfl rfl rfl rfl rfl rfl rfl fun A => N hX 15 A rfl rfl fun A => have A := A.asT Cn.z cc 5 tyC.1 tyC.2.1 tyC.2.2 [aC] 3 rfl; have A := A.asT oz oc 27 tyO.1 tyO.2.1 tyO.2.2 [oz, oA] 4 rfl; CALL1 [3, 4] judgeA_ A rfl rfl rfl rfl rfl rfl rfl fun A => N hX 13 A rfl rfl fun A => forkE 26 A rfl
  (fun h1 A => N hX 4 A rfl rfl fun A => forkE 30 A rfl
   (fun h2 A => N hX 4 A rfl rfl fun A => forkE 34 A rfl
    (fun h3 A => N hX 9 A rfl rfl fun A => forkE 43 A rfl
     (fun h4 A => N hX 7 A rfl (ok_d (by omega) <| ok_d (by omega) <| okE_nil) fun A => forkE 50 A rfl
      (fun h5 A => N hX 2 A rfl rfl fun A => have A := A.asT Cn.z cc 5 tyC.1 tyC.2.1 tyC.2.2 [aC] 6 rfl; CALL1 [6] rightA_ A rfl rfl rfl rfl rfl rfl rfl fun A => N hX 5 A rfl rfl fun A => RETN hX A rfl rfl rfl h0 rfl rfl rfl rfl rfl rfl)
      (fun h5 A => absurd rfl h5))
     (fun h4 A => absurd rfl h4))
    (fun h3 A => absurd rfl h3))
   (fun h2 A => absurd rfl h2))
  (fun h1 A => absurd rfl h1)
end Go.Proofs.YtbghlhhoafkmgaaDoor
/- The law of verdicts. -/
namespace Go.Proofs.YtbghlhhoafkmgaaDoor
open Go.RowKit
set_option linter.unusedVariables false
set_option linter.unusedSimpArgs false
set_option maxRecDepth 100000
set_option maxHeartbeats 2000000
set_option simprocs false
theorem pjudgeF_ (qu : Int) (cs : List Cn) (c : Nat) (os : List O) (c2 : Nat) (hN : cs.length ≤ 1000000) (hs : os.length ≤ 1000000) (ho : ∀ y ∈ os, Can y) : Fn Tryd.prog 21 [.int .i64 qu, .sl 0 cs.length c, .sl 1 os.length c2] [some (.lst 5 cs.length (fun zz => cc (cs.getD zz Cn.z))), some (.lst 27 os.length (fun zz => oc (os.getD zz oz)))] (Rt (.tup [.agg [.bool (jH qu cs os), .bool (jW qu cs os), .int .i64 ((jO qu cs os) 0), .int .i64 ((jO qu cs os) 1), .int .i64 ((jO qu cs os) 2), .int .i64 ((jO qu cs os) 3), .int .i64 ((jO qu cs os) 4), .int .i64 ((jO qu cs os) 5), .int .i64 ((jO qu cs os) 6), .int .i64 ((jO qu cs os) 7), .int .i64 ((jO qu cs os) 8), .int .i64 ((jO qu cs os) 9), .int .i64 ((jO qu cs os) 10), .int .i64 ((jO qu cs os) 11), .int .i64 ((jO qu cs os) 12), .int .i64 ((jO qu cs os) 13), .int .i64 ((jO qu cs os) 14), .int .i64 ((jO qu cs os) 15), .int .i64 ((jO qu cs os) 16), .int .i64 ((jO qu cs os) 17), .int .i64 ((jO qu cs os) 18), .int .i64 ((jO qu cs os) 19), .int .i64 ((jO qu cs os) 20), .int .i64 ((jO qu cs os) 21), .int .i64 ((jO qu cs os) 22), .int .i64 ((jO qu cs os) 23), .int .i64 ((jO qu cs os) 24), .int .i64 ((jO qu cs os) 25), .int .i64 ((jO qu cs os) 26), .int .i64 (jN qu cs os)], .int .i64 (jE qu cs)]) [some (.lst 5 cs.length (fun zz => cc (cs.getD zz Cn.z))), some (.lst 27 os.length (fun zz => oc (os.getD zz oz)))]) :=
  fn_asX (pjudge_ qu cs cs.length c os c2 (Nat.le_refl _) hN hs ho) fun _ => by rw [List.take_length]
theorem judges_ (qu : Int) (cs : List Cn) (c : Nat) (os : List O) (c2 : Nat) (b : Nat) (o : Obj) (hT : ∀ w : World, w.heap[b]? = some o → Lib.TabIs Tryd.prog w "internal/strconv.uint64pow10" .u64 Lib.pow10Tab) (ho : ∀ y ∈ os, Can y) : Fn Tryd.prog 6 [.int .i64 qu, .sl 0 cs.length c, .sl 1 os.length c2] [some (.lst 5 cs.length (fun zz => cc (cs.getD zz Cn.z))), some (.lst 27 os.length (fun zz => oc (os.getD zz oz))), some (.fac b o)] (Rt (.tt) [some (.lst 5 cs.length (fun zz => cc (cs.getD zz Cn.z))), some (.lst 27 os.length (fun zz => oc (os.getD zz oz))), some (.fac b o)]) :=
 enterM (n := 47) (by kernel_rfl) Tryd.func6 rfl rfl rfl fun G w a h0 A => N hX 8 A rfl rfl fun A => CALL1 [2] (able_ b o hT) A rfl rfl rfl rfl rfl rfl rfl fun A => N hX 19 A rfl rfl fun A => fork 20 A rfl
  (fun h1 A => N hX 7 A rfl rfl fun A => RETN hX A rfl rfl rfl h0 rfl rfl rfl rfl rfl rfl)
  (fun h1 A => N hX 8 A rfl rfl fun A => APPL hX (cs.length) (fun zz => cc (cs.getD zz Cn.z)) A rfl rfl rfl rfl (Nat.le_refl _) (by simp only [Bool.or_eq_false_iff, decide_eq_false_iff_not] at h1; omega) (by simp only [Bool.or_eq_false_iff, decide_eq_false_iff_not] at h1; omega) (by rw [Nat.zero_add]) (fun k hk => by omega) (fun k hk => by show cc _ = cc _; rw [Nat.zero_add]) (fun z => ⟨_, rfl, rfl⟩) (fun k hk => ⟨_, rfl, okE_nil⟩) fun A => N hX 2 A rfl rfl fun A => APPL hX (os.length) (fun zz => oc (os.getD zz oz)) A rfl rfl rfl rfl (Nat.le_refl _) (by simp only [Bool.or_eq_false_iff, decide_eq_false_iff_not] at h1; omega) (by simp only [Bool.or_eq_false_iff, decide_eq_false_iff_not] at h1; omega) (by rw [Nat.zero_add]) (fun k hk => by omega) (fun k hk => by show oc _ = oc _; rw [Nat.zero_add]) (fun z => ⟨_, rfl, rfl⟩) (fun k hk => ⟨_, rfl, okE_nil⟩) fun A => have A := A.freeze 4 rfl; have A := A.freeze 6 rfl; CALL1 [4, 6] (pjudgeF_ qu cs 0 os 0 (by simp only [Bool.or_eq_false_iff, decide_eq_false_iff_not] at h1; omega) (by simp only [Bool.or_eq_false_iff, decide_eq_false_iff_not] at h1; omega) ho) A rfl rfl rfl rfl rfl rfl rfl fun A => N hX 13 A rfl rfl fun A => CALL1 [0, 1] (rjudge_ qu cs os c c2 (by simp only [Bool.or_eq_false_iff, decide_eq_false_iff_not] at h1; omega) (by simp only [Bool.or_eq_false_iff, decide_eq_false_iff_not] at h1; omega)) A rfl rfl rfl rfl rfl rfl rfl fun A => N hX 22 A rfl rfl fun A => RETN hX A rfl rfl rfl h0 rfl rfl rfl rfl (by simp only [beq_self_eq_true, Bool.and_self]; rfl) rfl)
end Go.Proofs.YtbghlhhoafkmgaaDoor
/- From what is laid to contracts: lists that came in. -/
namespace Go.Proofs.YtbghlhhoafkmgaaDoor
open Go.RowKit
set_option linter.unusedVariables false
set_option linter.unusedSimpArgs false
/-- memory of which nothing is turned -/
theorem mem_ro {H : Hp} {G : Gr} {w : World} (hl : H.length = G.length) (h : ∀ (i : Nat) (e : Ent), H[i]? = some (some e) → e.mut = false ∧ EntOK G w ((G[i]?).getD none) e) : Mem H G w :=
  ⟨hl, fun i e he => (h i e he).2, fun i j e f L M _ he _ hm => by rw [(h i e he).1] at hm; cases hm⟩
/-- a slice that is laid, as a list -/
theorem lst_of {α : Type} {enc : α → List Value} {f : Nat → List SV} {s B n cap : Nat} {w : World} {l : List α} {bo : Option (Nat × Nat)} (h : Sl enc s B w (.slice (bo.map fun x => ⟨x.1, x.2, none⟩) n cap) l) (hB : B ≤ w.heap.size)
    (hf : ∀ k x, l[k]? = some x → denL [] (f k) = some (enc x)) (htot : ∀ k, ∃ vs, denL [] (f k) = some vs) :
    n = l.length ∧ ∀ (G F : Gr), den (G ++ (bo.map fun x => (⟨x.1, List.replicate x.2 undef, [], 0⟩ : Loc)) :: F) (.sl G.length l.length cap) = some (.slice (bo.map fun x => ⟨x.1, x.2, none⟩) n cap) ∧ EntOK (G ++ (bo.map fun x => (⟨x.1, List.replicate x.2 undef, [], 0⟩ : Loc)) :: F) w (bo.map fun x => (⟨x.1, List.replicate x.2 undef, [], 0⟩ : Loc)) (.lst s l.length f) := by
  obtain ⟨ao, cap', hv, hlc, he⟩ := h
  simp only [Value.slice.injEq] at hv
  obtain ⟨rfl, rfl, rfl⟩ := hv
  refine ⟨rfl, fun G F => ⟨?_, htot, ?_⟩⟩
  · unfold den
    rw [List.getElem?_append_right (Nat.le_refl _)]
    cases bo <;> simp [rm]
  · cases bo with
    | none =>
      left
      cases l with
      | nil => rfl
      | cons x l => obtain ⟨b, o, h1, _⟩ := he 0 x rfl; cases h1
    | some x =>
      obtain ⟨b, o⟩ := x
      cases hl : l with
      | nil => left; rfl
      | cons y l' =>
        right
        have hb : b < B := by
          obtain ⟨b', o', h1, h2, _⟩ := he 0 y (by rw [hl]; rfl)
          cases h1; exact h2
        refine ⟨_, rfl, (by show b < _; omega), fun k hk => ?_⟩
        have hk' : k < l.length := by rw [hl]; exact hk
        obtain ⟨b', o', h1, h2, h3⟩ := he k l[k] (by simp [hk'])
        cases h1
        exact ⟨_, hf k l[k] (by simp [hk']), by simpa using h3⟩
/-- a call that was handed nothing to turn leaves memory grown -/
theorem post_ro {x : SV} {H H2 : Hp} {G : Gr} {w w' : World} {e : Ending} (h : Post (Rt x H2) H G w e w') (hro : ∀ (i : Nat) (e : Ent), H[i]? = some (some e) → e.mut = false) : ∃ v F, den (G ++ F) x = some v ∧ e = .returned v ∧ Mem H2 (G ++ F) w' ∧ Grow w w' := by
  obtain ⟨y, H', F, v, ⟨rfl, rfl⟩, h1, h2, h3, hmix, _⟩ := h
  have hk : ∀ k, (keys H G).contains k = false := fun k => by
    cases hc : (keys H G).contains k with
    | false => rfl
    | true =>
      obtain ⟨i, e', L, q1, q2, _⟩ := mem_keys.1 hc
      rw [hro i e' q1] at q2; cases q2
  exact ⟨v, F, h1, h2, h3, ⟨hmix.os, hmix.tape, hmix.output, hmix.size, fun k hk' => hmix.block k hk' (hk k)⟩⟩
end Go.Proofs.YtbghlhhoafkmgaaDoor
/- How conditions and outcomes that are handed in are read; from a contract to a call. -/
namespace Go.Proofs.YtbghlhhoafkmgaaDoor
set_option linter.unusedSimpArgs false
set_option linter.unusedVariables false
set_option maxRecDepth 100000
open Go.ChangeShapes Go.WideShapes Go.ChangeAt Go.RowKit Go.Deep

section
variable {H : Type} {enc : TypeId × Value → H} {W : World} {base : Nat} {spare : Nat → Bool} {held : Bool} {base' : Nat}
theorem open_list {α : Type} [Inhabited α] {en : α → List Value} {Q : α → Prop} {t e s : Nat} {v : Value} {d : DataW H} {ps : List MemPlace} (ht : Tryd.prog.underlying t = some (.slice e)) (hc : Tryd.prog.cellsOf e = s) (h0 : 0 < s)
    (hel : ∀ cs n x, DataW.trod enc Tryd.prog W base' spare held n e cs = some x → cs.length = s → ∃ y : α, cs = en y ∧ Q y)
    (hv : Value.okWide Tryd.prog W .any base t v) (h : DataW.Trod enc Tryd.prog W base' spare held t v d ps) :
    ∃ (ao : Option Addr) (l : List α) (cap : Nat), v = .slice ao l.length cap ∧ l.length ≤ maxLen ∧ Sl en s W.heap.size W v l ∧ ∀ y ∈ l, Q y := by
  obtain ⟨a0, len0, cap0, rfl⟩ := okWide_slice ht hv
  obtain ⟨fuel, hf⟩ := h
  rcases open_slice ht hf with ⟨hcs, _⟩ | ⟨a, len, cap, m, n, D, Pl, hcs, hb, hl, hm, hmm, _, hx⟩
  · simp [Value.cells] at hcs
    obtain ⟨rfl, rfl, rfl⟩ := hcs
    exact ⟨none, [], 0, rfl, by simp, Sl.nil, fun y hy => by cases hy⟩
  · simp [Value.cells] at hcs
    obtain ⟨rfl, rfl, rfl⟩ := hcs
    have hlm : len0 ≤ m := by rw [hmm]; split <;> omega
    rw [hc] at hx
    obtain ⟨Y, hY⟩ := choose_lt (α := α) (n := len0) (p := fun i y => Q y ∧ (en y).length = s ∧ ∀ k, k < s → W.cell? ((a.add (i * s)).add k) = (en y)[k]?) (fun i hi => by
      obtain ⟨cs', h1, h2⟩ := hx i (by omega)
      obtain ⟨_, hlen, hcell⟩ := World.cells?_some h1
      obtain ⟨y, rfl, hq⟩ := hel cs' n _ h2 hlen
      exact ⟨y, hq, hlen, hcell⟩)
    have hlen : ((List.range len0).map Y).length = len0 := by simp
    refine ⟨some a, (List.range len0).map Y, cap0, by rw [hlen], by rw [hlen]; omega, ⟨some a, cap0, by rw [hlen], by rw [hlen]; exact hl, fun j x hj => ?_⟩, fun y hy => ?_⟩
    · have hjl : j < len0 := by have := (List.getElem?_eq_some_iff.1 hj).1; simpa using this
      have hxe : x = Y j := by simp [hjl] at hj; exact hj.symm
      subst hxe
      obtain ⟨_, hyl, hcell⟩ := hY j hjl
      obtain ⟨b, o, spot⟩ := a
      obtain ⟨_, hy0, hcell0⟩ := hY 0 (by omega)
      have h00 := hcell0 0 h0
      rw [List.getElem?_eq_getElem (by omega)] at h00
      have hspot : spot = none := by simpa [Addr.add] using World.cell?_spot h00
      subst hspot
      refine ⟨b, o, rfl, ?_, fun k u hu => ?_⟩
      · have := World.block_lt_of_cell? W _ h00
        rw [Addr.add_mid, Addr.add_mid] at this
        exact this
      · have hk : k < s := by have := (List.getElem?_eq_some_iff.1 hu).1; omega
        have := hcell k hk
        rw [hu, Addr.add_mid, Addr.add_mid] at this
        exact this
    · obtain ⟨i, hi, rfl⟩ := List.mem_map.1 hy
      exact (hY i (by simpa using hi)).1

theorem slice_bo {t e n cap : Nat} {ao : Option Addr} (ht : Tryd.prog.underlying t = some (.slice e)) (hv : Value.okWide Tryd.prog W .any base t (.slice ao n cap)) : ∃ bo : Option (Nat × Nat), ao = bo.map fun x => ⟨x.1, x.2, none⟩ := by
  cases ao with
  | none => exact ⟨none, rfl⟩
  | some a =>
    unfold Value.okWide at hv
    rw [ht] at hv
    simp only [Cell.okWide, ht, Cell.ok] at hv
    obtain ⟨b, o, s⟩ := a
    have : s = none := hv.2.2.2.1
    subst this
    exact ⟨some (b, o), rfl⟩
/-- all of its cells are numbers -/
def AI (enc : TypeId × Value → H) (W : World) (base' : Nat) (spare : Nat → Bool) (held : Bool) (t s : Nat) : Prop := Tryd.prog.cellsOf t = s ∧ ∀ (cs : List Value) (n : Nat) (x : DataW H × List MemPlace), DataW.trod enc Tryd.prog W base' spare held n t cs = some x → ∀ k, k < s → ∃ m : Int, cs[k]? = some (.int .i64 m) ∧ -9223372036854775808 ≤ m ∧ m ≤ 9223372036854775807
theorem wf_rng {n : Int} (h : (Lit.int .i64 n).wf = true) : -9223372036854775808 ≤ n ∧ n ≤ 9223372036854775807 := by
  have h' : (decide ((IntKind.i64).min ≤ n) && decide (n ≤ (IntKind.i64).max)) = true := h
  rw [Bool.and_eq_true, decide_eq_true_eq, decide_eq_true_eq, show (IntKind.i64).min = -9223372036854775808 from rfl, show (IntKind.i64).max = 9223372036854775807 from rfl] at h'
  exact h'
theorem AI.int : AI enc W base' spare held 3 1 := ⟨by kernel_rfl, fun cs n x h k hk => by
  obtain ⟨m, h2, _, h3⟩ := DataW.trod_int Tryd.underlying3 h
  obtain rfl : k = 0 := by omega
  exact ⟨m, by rw [h2]; rfl, wf_rng h3⟩⟩
theorem sub_at {cs : List Value} {o s j : Nat} (hj : j < s) : ((cs.drop o).take s)[j]? = cs[o + j]? := by
  rw [List.getElem?_take_of_lt hj, List.getElem?_drop]
theorem AI.arr {t n e s : Nat} (ht : Tryd.prog.underlying t = some (.array n e)) (hc : Tryd.prog.cellsOf t = n * s) (h0 : 0 < s) (he : AI enc W base' spare held e s) : AI enc W base' spare held t (n * s) := ⟨hc, fun cs f x h k hk => by
  obtain ⟨xs, m, _, _, _, hxl, hx⟩ := DataW.trod_array ht h
  have hi : k / s < n := (Nat.div_lt_iff_lt_mul h0).2 hk
  have h1 := hx (k / s) hi
  rw [he.1, List.getElem?_eq_getElem (by omega)] at h1
  obtain ⟨z, h2, h3⟩ := he.2 _ _ _ h1 (k % s) (Nat.mod_lt _ h0)
  rw [sub_at (Nat.mod_lt _ h0)] at h2
  have e : k / s * s + k % s = k := by rw [Nat.mul_comm]; exact Nat.div_add_mod k s
  rw [e] at h2
  exact ⟨z, h2, h3⟩⟩
def fldAt (P : Program) (t i : Nat) : Option (Nat × Nat) := match P.underlying t with | some (.struct fs) => (fs[i]?).map fun f => (f.offset, f.type) | _ => none
theorem AI.str {t s : Nat} {fs : Array Field} (hu : Tryd.prog.underlying t = some (.struct fs)) (hc : Tryd.prog.cellsOf t = s) (hf : ∀ k, k < s → ∃ i o u z, fldAt Tryd.prog t i = some (o, u) ∧ AI enc W base' spare held u z ∧ o ≤ k ∧ k < o + z) : AI enc W base' spare held t s := ⟨hc, fun cs n x h k hk => by
  obtain ⟨i, o, u, z, h1, h2, h3, h4⟩ := hf k hk
  obtain ⟨xs, m, _, _, _, hxl, hx⟩ := DataW.trod_struct hu h
  unfold fldAt at h1
  rw [hu] at h1
  obtain ⟨f, hf1, hf2⟩ := Option.map_eq_some_iff.1 h1
  cases hf2
  have h5 := hx i f hf1
  have hil := (Array.getElem?_eq_some_iff.1 hf1).1
  rw [h2.1, List.getElem?_eq_getElem (by omega)] at h5
  obtain ⟨q, h6, h7⟩ := h2.2 _ _ _ h5 (k - f.offset) (by omega)
  rw [sub_at (by omega), show f.offset + (k - f.offset) = k by omega] at h6
  exact ⟨q, h6, h7⟩⟩
def isStr (P : Program) (t : Nat) : Bool := match P.underlying t with | some (.struct _) => true | _ => false
theorem str_of {t : Nat} (h : isStr Tryd.prog t = true) : ∃ fs, Tryd.prog.underlying t = some (.struct fs) := by
  unfold isStr at h
  split at h
  · next fs he => exact ⟨fs, he⟩
  · cases h
theorem AI.cond : AI enc W base' spare held 30 5 := by
  obtain ⟨fs, hu⟩ := str_of (t := 30) (by kernel_rfl)
  refine AI.str hu (by kernel_rfl) fun k hk => ?_
  have : k = 0 ∨ k = 1 ∨ k = 2 ∨ k = 3 ∨ k = 4 := by omega
  rcases this with rfl | rfl | rfl | rfl | rfl
  · exact ⟨0, 0, 3, 1, by kernel_rfl, AI.int, by omega, by omega⟩
  · exact ⟨1, 1, 3, 1, by kernel_rfl, AI.int, by omega, by omega⟩
  · exact ⟨2, 2, 3, 1, by kernel_rfl, AI.int, by omega, by omega⟩
  · exact ⟨3, 3, 3, 1, by kernel_rfl, AI.int, by omega, by omega⟩
  · exact ⟨4, 4, 3, 1, by kernel_rfl, AI.int, by omega, by omega⟩
theorem AI.out : AI enc W base' spare held 26 27 := by
  obtain ⟨fs, hu⟩ := str_of (t := 26) (by kernel_rfl)
  refine AI.str hu (by kernel_rfl) fun k hk => ?_
  by_cases h : k < 24
  · exact ⟨0, 0, 23, 3 * 8, by kernel_rfl, AI.arr (n := 3) (e := 22) (s := 8) (by kernel_rfl) (by kernel_rfl) (by omega) (AI.arr (n := 8) (e := 3) (s := 1) (by kernel_rfl) (by kernel_rfl) (by omega) AI.int), by omega, by omega⟩
  · exact ⟨1, 24, 24, 3 * 1, by kernel_rfl, AI.arr (n := 3) (e := 3) (s := 1) (by kernel_rfl) (by kernel_rfl) (by omega) AI.int, by omega, by omega⟩
def ccV (c : Cn) : List Value := [.int .i64 c.kd, .int .i64 c.th, .int .i64 c.rg, .int .i64 c.lc, .int .i64 c.vl]
def ocV (p : O) : List Value := (List.range 27).map fun k => .int .i64 (p k)
def wfC (c : Cn) : Prop := -9223372036854775808 ≤ c.vl ∧ c.vl ≤ 9223372036854775807
instance : Inhabited Cn := ⟨Cn.z⟩
theorem open_cnL (cs : List Value) (n : Nat) (x : DataW H × List MemPlace) (h : DataW.trod enc Tryd.prog W base' spare held n 30 cs = some x) (hl : cs.length = 5) : ∃ y : Cn, cs = ccV y ∧ wfC y := by
  have A := AI.cond.2 cs n x h
  obtain ⟨a, ha, _⟩ := A 0 (by omega)
  obtain ⟨b, hb, _⟩ := A 1 (by omega)
  obtain ⟨c, hc, _⟩ := A 2 (by omega)
  obtain ⟨d, hd, _⟩ := A 3 (by omega)
  obtain ⟨e, he, h5⟩ := A 4 (by omega)
  refine ⟨⟨a, b, c, d, e⟩, ?_, h5⟩
  match cs, hl, ha, hb, hc, hd, he with
  | [u0, u1, u2, u3, u4], _, ha, hb, hc, hd, he => simp at ha hb hc hd he; subst ha hb hc hd he; rfl
theorem out_of {cs : List Value} (hl : cs.length = 27) (A : ∀ k, k < 27 → ∃ m : Int, cs[k]? = some (.int .i64 m) ∧ -9223372036854775808 ≤ m ∧ m ≤ 9223372036854775807) : ∃ y : O, cs = ocV y ∧ Can y := by
  obtain ⟨f, hf⟩ := choose_lt (α := Int) (n := 27) (p := fun k m => cs[k]? = some (.int .i64 m)) fun k hk => by obtain ⟨m, h, _⟩ := A k hk; exact ⟨m, h⟩
  refine ⟨fun k => if k < 27 then f k else 0, ?_, fun k hk => if_neg (by omega)⟩
  apply List.ext_getElem?
  intro k
  by_cases hk : k < 27
  · rw [hf k hk, ocV, List.getElem?_map, List.getElem?_range hk]; simp [hk]
  · rw [List.getElem?_eq_none (by omega), List.getElem?_eq_none (by simp [ocV]; omega)]
theorem open_ocL (cs : List Value) (n : Nat) (x : DataW H × List MemPlace) (h : DataW.trod enc Tryd.prog W base' spare held n 26 cs = some x) (hl : cs.length = 27) : ∃ y : O, cs = ocV y ∧ Can y := out_of hl (AI.out.2 cs n x h)
theorem open_conds {v : Value} {d : DataW H} {ps : List MemPlace} (hv : Value.okWide Tryd.prog W .any base 27 v) (h : DataW.Trod enc Tryd.prog W base' spare held 27 v d ps) :
    ∃ (bo : Option (Nat × Nat)) (l : List Cn) (cap : Nat), v = .slice (bo.map fun x => ⟨x.1, x.2, none⟩) l.length cap ∧ Sl ccV 5 W.heap.size W v l ∧ ∀ y ∈ l, wfC y := by
  obtain ⟨ao, l, cap, rfl, _, hs, hq⟩ := open_list (t := 27) (e := 30) (s := 5) (by kernel_rfl) (by kernel_rfl) (by omega) open_cnL hv h
  obtain ⟨bo, rfl⟩ := slice_bo (t := 27) (e := 30) (by kernel_rfl) hv
  exact ⟨bo, l, cap, rfl, hs, hq⟩
theorem open_outs {v : Value} {d : DataW H} {ps : List MemPlace} (hv : Value.okWide Tryd.prog W .any base 42 v) (h : DataW.Trod enc Tryd.prog W base' spare held 42 v d ps) :
    ∃ (bo : Option (Nat × Nat)) (l : List O) (cap : Nat), v = .slice (bo.map fun x => ⟨x.1, x.2, none⟩) l.length cap ∧ Sl ocV 27 W.heap.size W v l ∧ ∀ y ∈ l, Can y := by
  obtain ⟨ao, l, cap, rfl, _, hs, hq⟩ := open_list (t := 42) (e := 26) (s := 27) (by kernel_rfl) (by kernel_rfl) (by omega) open_ocL hv h
  obtain ⟨bo, rfl⟩ := slice_bo (t := 42) (e := 26) (by kernel_rfl) hv
  exact ⟨bo, l, cap, rfl, hs, hq⟩
theorem open_out {v : Value} {d : DataW H} {ps : List MemPlace} (hv : Value.okWide Tryd.prog W .any base 26 v) (h : DataW.Trod enc Tryd.prog W base' spare held 26 v d ps) : ∃ y : O, v = .agg (ocV y).toArray ∧ Can y := by
  obtain ⟨fs, hu⟩ := str_of (t := 26) (by kernel_rfl)
  obtain ⟨cs, rfl, hsz⟩ := okWide_struct hu hv
  rw [show Tryd.prog.cellsOf 26 = 27 by kernel_rfl] at hsz
  obtain ⟨fuel, hf⟩ := h
  obtain ⟨y, h1, h2⟩ := out_of (by simpa [Value.cells] using hsz) (AI.out.2 _ _ _ hf)
  refine ⟨y, ?_, h2⟩
  have : cs.toList = ocV y := by simpa [Value.cells] using h1
  rw [← this]
end
theorem tab_fac {W : World} (h : Lib.TabIs Tryd.prog W "internal/strconv.uint64pow10" .u64 Lib.pow10Tab) : ∃ o, W.heap[0]? = some o ∧ ∀ w : World, w.heap[0]? = some o → Lib.TabIs Tryd.prog w "internal/strconv.uint64pow10" .u64 Lib.pow10Tab := by
  have hg : Tryd.prog.globalNamed "internal/strconv.uint64pow10" = some 0 := by kernel_rfl
  cases ho : W.heap[0]? with
  | none => unfold Lib.TabIs World.var? at h; rw [hg] at h; simp [ho] at h
  | some o =>
    refine ⟨o, rfl, fun w hw => ?_⟩
    unfold Lib.TabIs World.var? at h ⊢
    rw [hg] at h ⊢
    simp only [Option.bind_some, ho, hw] at h ⊢
    exact h
theorem lstC_of {bo : Option (Nat × Nat)} {n cap : Nat} {w : World} {l : List Cn} (h : Sl ccV 5 w.heap.size w (.slice (bo.map fun x => ⟨x.1, x.2, none⟩) n cap) l) : n = l.length ∧ ∀ (G F : Gr), den (G ++ (bo.map fun x => (⟨x.1, List.replicate x.2 undef, [], 0⟩ : Loc)) :: F) (.sl G.length l.length cap) = some (.slice (bo.map fun x => ⟨x.1, x.2, none⟩) n cap) ∧ EntOK (G ++ (bo.map fun x => (⟨x.1, List.replicate x.2 undef, [], 0⟩ : Loc)) :: F) w (bo.map fun x => (⟨x.1, List.replicate x.2 undef, [], 0⟩ : Loc)) (.lst 5 l.length (fun zz => cc (l.getD zz Cn.z))) := lst_of (f := fun zz => cc (l.getD zz Cn.z)) h (Nat.le_refl _) (fun k x hx => by show denL [] (cc (l.getD k Cn.z)) = _; rw [List.getD_eq_getElem?_getD, hx]; rfl) (fun k => ⟨_, rfl⟩)
theorem lstO_of {bo : Option (Nat × Nat)} {n cap : Nat} {w : World} {l : List O} (h : Sl ocV 27 w.heap.size w (.slice (bo.map fun x => ⟨x.1, x.2, none⟩) n cap) l) : n = l.length ∧ ∀ (G F : Gr), den (G ++ (bo.map fun x => (⟨x.1, List.replicate x.2 undef, [], 0⟩ : Loc)) :: F) (.sl G.length l.length cap) = some (.slice (bo.map fun x => ⟨x.1, x.2, none⟩) n cap) ∧ EntOK (G ++ (bo.map fun x => (⟨x.1, List.replicate x.2 undef, [], 0⟩ : Loc)) :: F) w (bo.map fun x => (⟨x.1, List.replicate x.2 undef, [], 0⟩ : Loc)) (.lst 27 l.length (fun zz => oc (l.getD zz oz))) := lst_of (f := fun zz => oc (l.getD zz oz)) h (Nat.le_refl _) (fun k x hx => by show denL [] (oc (l.getD k oz)) = _; rw [List.getD_eq_getElem?_getD, hx]; rfl) (fun k => ⟨_, rfl⟩)
end Go.Proofs.YtbghlhhoafkmgaaDoor
