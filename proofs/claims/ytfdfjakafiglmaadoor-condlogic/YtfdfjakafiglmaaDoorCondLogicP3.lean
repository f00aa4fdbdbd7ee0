/- CondLogic, part 3: the engine, contracts, theory. -/
import Derived.Test.YtfdfjakafiglmaaDoorCondLogicP2
import Derived.Shelf.Strconv.Itoa3
import Derived.Test.YtfdfjakafiglmaaDoorProg
import Derived.Lib.ItoaLen
import Derived.Test.YtfdfjakafiglmaaDoorChecked
import Derived.Lib.ConvBytes
import Derived.WideLaws
import Derived.Laws.AppendOwn
import Derived.Laws.OwnMore
namespace Go.Proofs.YtfdfjakafiglmaaDoor
open Go.RowKit
set_option linter.unusedVariables false
set_option linter.unusedSimpArgs false
set_option maxRecDepth 100000
set_option maxHeartbeats 2000000
set_option simprocs false
open Go.Sort
structure PZ (d : Array O) (aa b s i : Nat) (dk : Array O) : Prop where
  sz : dk.size = d.size
  ls : s ≤ 5
  li : aa + 1 ≤ i
  ui : i ≤ b
  eq : partialIns lessO aa b (5 - s) i dk = partialInsertionSort lessO d aa b
structure SS (dk : Array O) (b i x : Nat) : Prop where
  le : i ≤ x
  ub : x ≤ b
  eq : scanSorted lessO dk b x = scanSorted lessO dk b i
structure SH (d D1 : Array O) (k : Nat) (e : Array O) (j : Nat) : Prop where
  sz : e.size = d.size
  le : j ≤ k
  eq : shiftDown lessO j e = shiftDown lessO k D1
structure SU (d D2 : Array O) (b k : Nat) (e : Array O) (j : Nat) : Prop where
  sz : e.size = d.size
  le : k ≤ j
  eq : shiftUp lessO b j e = shiftUp lessO b k D2
section
variable {d dk D1 D2 D3 e e' : Array O} {aa b s i x j k : Nat}
theorem SS.step (h : SS dk b i x) (h0 : 1 ≤ i) (h1 : (decide ((x : Int) < (b : Int)) && !(decide (cmpO (dk[((x : Int)).toNat]!) (dk[((x : Int) - 1).toNat]!) < 0))) = true) : SS dk b i (x + 1) := by
  have h2 := jlt h1
  have h3 := jrt h1
  have hx := h.le
  refine ⟨by omega, by omega, ?_⟩
  rw [← h.eq]
  conv => rhs; unfold scanSorted
  rw [cmp_less, show ((x : Int) - 1).toNat = x - 1 by omega, Int.toNat_natCast] at h3
  rw [if_pos (by rw [h3, decide_eq_true (by omega)]; rfl)]
theorem SS.stop (h : SS dk b i x) (h0 : 1 ≤ i) (h1 : (decide ((x : Int) < (b : Int)) && !(decide (cmpO (dk[((x : Int)).toNat]!) (dk[((x : Int) - 1).toNat]!) < 0))) = false) : scanSorted lessO dk b i = x := by
  have hx := h.le
  rw [← h.eq]
  unfold scanSorted
  rw [if_neg]
  intro h2
  rw [cmp_less, show ((x : Int) - 1).toNat = x - 1 by omega, Int.toNat_natCast, show decide ((x : Int) < (b : Int)) = decide (x < b) by simp, h2] at h1
  cases h1
theorem SH.step (h : SH d D1 k e j) (h1 : (j : Int) ≥ 1) (h2 : (!(decide (cmpO (e[((j : Int)).toNat]!) (e[((j : Int) - 1).toNat]!) < 0))) = false) (he : e' = swp e j (j - 1)) : SH d D1 k e' (j - 1) := by
  subst he
  obtain ⟨q, rfl⟩ : ∃ q, j = q + 1 := ⟨j - 1, by omega⟩
  refine ⟨by rw [swp_sz, h.sz], by have := h.le; omega, ?_⟩
  rw [cmp_less, show (((q + 1 : Nat) : Int) - 1).toNat = q by omega, Int.toNat_natCast] at h2
  rw [← h.eq]
  conv => rhs; unfold shiftDown
  rw [if_neg (by rw [h2]; simp)]; rfl
theorem SH.stop1 (h : SH d D1 k e j) (h1 : ¬ (j : Int) ≥ 1) : e = shiftDown lessO k D1 := by
  have : j = 0 := by omega
  subst this
  rw [← h.eq]; rfl
theorem SH.stop2 (h : SH d D1 k e j) (h1 : (j : Int) ≥ 1) (h2 : (!(decide (cmpO (e[((j : Int)).toNat]!) (e[((j : Int) - 1).toNat]!) < 0))) = true) : e = shiftDown lessO k D1 := by
  obtain ⟨q, rfl⟩ : ∃ q, j = q + 1 := ⟨j - 1, by omega⟩
  rw [cmp_less, show (((q + 1 : Nat) : Int) - 1).toNat = q by omega, Int.toNat_natCast] at h2
  rw [← h.eq]
  unfold shiftDown
  rw [if_pos h2]
theorem SU.step (h : SU d D2 b k e j) (h0 : 1 ≤ k) (h1 : (j : Int) < (b : Int)) (h2 : (!(decide (cmpO (e[((j : Int)).toNat]!) (e[((j : Int) - 1).toNat]!) < 0))) = false) (he : e' = swp e j (j - 1)) : SU d D2 b k e' (j + 1) := by
  subst he
  have hl := h.le
  refine ⟨by rw [swp_sz, h.sz], by omega, ?_⟩
  rw [cmp_less, show ((j : Int) - 1).toNat = j - 1 by omega, Int.toNat_natCast] at h2
  rw [← h.eq]
  conv => rhs; unfold shiftUp
  rw [if_pos (by omega), if_neg (by rw [h2]; simp)]
theorem SU.stop1 (h : SU d D2 b k e j) (h1 : ¬ (j : Int) < (b : Int)) : e = shiftUp lessO b k D2 := by
  rw [← h.eq]; unfold shiftUp; rw [if_neg (by omega)]
theorem SU.stop2 (h : SU d D2 b k e j) (h0 : 1 ≤ k) (h1 : (j : Int) < (b : Int)) (h2 : (!(decide (cmpO (e[((j : Int)).toNat]!) (e[((j : Int) - 1).toNat]!) < 0))) = true) : e = shiftUp lessO b k D2 := by
  have hl := h.le
  rw [cmp_less, show ((j : Int) - 1).toNat = j - 1 by omega, Int.toNat_natCast] at h2
  rw [← h.eq]; unfold shiftUp; rw [if_pos (by omega), if_pos h2]
theorem PZ.at (h : PZ d aa b s i dk) (h1 : (s : Int) < 5) : partialInsertionSort lessO d aa b = partialIns lessO aa b ((5 - (s + 1)) + 1) i dk := by
  rw [← h.eq, show 5 - s = 5 - (s + 1) + 1 by omega]
theorem PZ.yes (h : PZ d aa b s i dk) (h1 : (s : Int) < 5) (e1 : scanSorted lessO dk b i = x) (h2 : (x : Int) = (b : Int)) : partialInsertionSort lessO d aa b = (dk, true) := by
  rw [h.at h1, partialIns]
  simp only [e1]
  rw [if_pos (by omega)]
theorem PZ.no (h : PZ d aa b s i dk) (h1 : (s : Int) < 5) (e1 : scanSorted lessO dk b i = x) (h2 : (x : Int) ≠ (b : Int)) (h3 : (b : Int) - (aa : Int) < 50) : partialInsertionSort lessO d aa b = (dk, false) := by
  have := h.li; have := h.ui
  rw [h.at h1, partialIns]
  simp only [e1]
  rw [if_neg (by omega), if_pos (by omega)]
theorem PZ.fin (h : PZ d aa b s i dk) (h1 : ¬ (s : Int) < 5) : partialInsertionSort lessO d aa b = (dk, false) := by
  have := h.ls
  rw [← h.eq, show 5 - s = 0 by omega, partialIns]
theorem PZ.step (h : PZ d aa b s i dk) (h1 : (s : Int) < 5) (hS : SS dk b i x) (e1 : scanSorted lessO dk b i = x) (h2 : (x : Int) ≠ (b : Int)) (h3 : ¬ (b : Int) - (aa : Int) < 50) (e3 : D1 = swp dk x (x - 1)) (e4 : D2 = if x - aa ≥ 2 then shiftDown lessO (x - 1) D1 else D1) (e5 : D3 = if b - x ≥ 2 then shiftUp lessO b (x + 1) D2 else D2) (hz : D3.size = d.size) : PZ d aa b (s + 1) x D3 := by
  have := h.li; have := hS.le; have := hS.ub
  refine ⟨hz, by omega, by omega, by omega, ?_⟩
  rw [h.at h1, partialIns]
  simp only [e1]
  rw [if_neg (by omega), if_neg (by omega), ← e3, ← e4, ← e5]
end
theorem pins_ (d : Array O) (nn aa b : Nat) (hn : d.size = nn) (hs : nn ≤ 1000000) (ha : aa < b) (hb : b ≤ nn) : Fn Tryd.prog 53 [.sl 0 nn 0, .int .i64 (aa : Int), .int .i64 (b : Int), .fn 27 []] [some (.row 26 27 nn 0 (fun zz => oc (d[zz]!)))] (Rt (.bool ((Go.Sort.partialInsertionSort lessO d aa b).2)) [some (.row 26 27 nn 0 (fun zz => oc (((Go.Sort.partialInsertionSort lessO d aa b).1)[zz]!)))]) :=
 enterM (n := 141) (by kernel_rfl) Tryd.func53 rfl rfl rfl fun G w a h0 A => N hX 14 A rfl (ok_d (by omega) <| okE_nil) fun A => N hX 5 A rfl rfl fun A => LOOP3 (fun (s : Nat) (i : Nat) (dk : Array O) => [(0, .sl 0 nn 0), (1, .int .i64 (aa : Int)), (2, .int .i64 (b : Int)), (3, .fn 27 []), (8, .ff), (9, .int .i64 (i : Int)), (10, .int .i64 (s : Int))]) (fun (s : Nat) (i : Nat) (dk : Array O) => [some (.row 26 27 nn 0 (fun zz => oc (dk[zz]!)))]) (fun (s : Nat) (i : Nat) (dk : Array O) => PZ d aa b s i dk) (fun (s : Nat) (i : Nat) (dk : Array O) => 5 - s) 0 (aa + 1) d ⟨rfl, by omega, Nat.le_refl _, by omega, rfl⟩ ((A.cut [0, 1, 2, 3, 8, 9, 10] rfl).trunc 1 rfl rfl rfl (by simp only [List.length_cons, List.length_nil] at h0; omega)) fun s i dk hI {G a w} A => N hX 7 A rfl rfl fun A => forkD 16 A rfl
   (fun h1 A => N hX 7 A rfl rfl fun A => LOOP1 (fun (x : Nat) => [(0, .sl 0 nn 0), (1, .int .i64 (aa : Int)), (2, .int .i64 (b : Int)), (3, .fn 27 []), (8, .ff), (9, .int .i64 (x : Int)), (10, .int .i64 (s : Int))]) (fun (x : Nat) => [some (.row 26 27 nn 0 (fun zz => oc (dk[zz]!)))]) (fun (x : Nat) => SS dk b i x) (fun (x : Nat) => b - x) i ⟨Nat.le_refl _, hI.ui, rfl⟩ ((A.cut [0, 1, 2, 3, 8, 9, 10] rfl).trunc 1 rfl rfl rfl (by simp only [List.length_cons, List.length_nil] at h0; omega)) fun x hS {G a w} A => N hX 2 A rfl rfl fun A => DRAWN hX hmo [(14, .opt (decide ((x : Int) < (b : Int))) (.int .i64 (cmpO (dk[((x : Int)).toNat]!) (dk[((x : Int) - 1).toNat]!))))] [] A rfl (ok_r <| ok_r <| ok_g (fun hg => (by have := hI.ls; have := hI.li; have := hI.ui; have := hS.le; have := hS.ub; have := of_decide_eq_true hg; omega)) <| ok_r <| ok_g (fun hg => (by have := hI.ls; have := hI.li; have := hI.ui; have := hS.le; have := hS.ub; have := of_decide_eq_true hg; omega)) <| ok_r <| ok_g (fun hg => (by have := hI.ls; have := hI.li; have := hI.ui; have := hS.le; have := hS.ub; have := of_decide_eq_true hg; omega)) <| ok_r <| ok_r <| ok_g (fun hg => (by have := hI.ls; have := hI.li; have := hI.ui; have := hS.le; have := hS.ub; have := of_decide_eq_true hg; omega)) <| ok_r <| ok_g (fun hg => (by have := hI.ls; have := hI.li; have := hI.ui; have := hS.le; have := hS.ub; have := of_decide_eq_true hg; omega)) <| ok_r <| ok_r <| ok_r <| okE_nil) rfl rfl (by kernel_rfl) (effAll_nil _ _) ⟨.inr ⟨_, _, _, _, _, _, rfl, rfl, rfl, rfl, rfl, fun hg => compare_ (dk[((x : Int)).toNat]!) (dk[((x : Int) - 1).toNat]!)⟩, trivial⟩ fun A => N hX 1 A rfl rfl fun A => fork 36 A rfl
     (fun h2 A => N hX 10 A rfl (ok_d (by have := hI.ls; have := hI.li; have := hI.ui; have := hS.le; have := hS.ub; have := jlt h2; omega) <| okE_nil) fun A => ⟨x + 1, _, (by have := jlt h2; omega), (hS.step (Nat.le_trans (Nat.le_add_left 1 aa) hI.li) h2), ((A.cut [0, 1, 2, 3, 8, 9, 10] rfl).trunc 1 rfl rfl rfl (by simp only [List.length_cons, List.length_nil] at h0; omega))⟩)
     (fun h2 A => N hX 11 A rfl rfl fun A => forkE 41 A rfl
      (fun h3 A => N hX 7 A rfl rfl fun A => RETN hX A rfl rfl rfl h0 rfl rfl rfl rfl (by rw [hI.yes h1 (hS.stop (Nat.le_trans (Nat.le_add_left 1 aa) hI.li) h2) h3]; rfl) (by rw [hI.yes h1 (hS.stop (Nat.le_trans (Nat.le_add_left 1 aa) hI.li) h2) h3]; rfl))
      (fun h3 A => N hX 12 A rfl (ok_d (by have := hI.ls; have := hI.li; have := hI.ui; have := hS.le; have := hS.ub; omega) <| okE_nil) fun A => forkD 45 A rfl
       (fun h4 A => N hX 7 A rfl rfl fun A => RETN hX A rfl rfl rfl h0 rfl rfl rfl rfl (by rw [hI.no h1 (hS.stop (Nat.le_trans (Nat.le_add_left 1 aa) hI.li) h2) h3 h4]; rfl) (by rw [hI.no h1 (hS.stop (Nat.le_trans (Nat.le_add_left 1 aa) hI.li) h2) h3 h4]; rfl))
       (fun h4 A => N hX 4 A rfl rfl fun A => DRAWN hX hmo [] [(15, .tup [], [some (.row 26 27 nn 0 (fun zz => oc ((dk.setIfInBounds ((x : Int)).toNat (dk[((x : Int) - 1).toNat]!))[zz]!)))]), (17, .tup [], [some (.row 26 27 nn 0 (fun zz => oc (((dk.setIfInBounds ((x : Int)).toNat (dk[((x : Int) - 1).toNat]!)).setIfInBounds ((x : Int) - 1).toNat (dk[((x : Int)).toNat]!))[zz]!)))])] A rfl (ok_d (by have := hI.ls; have := hI.li; have := hI.ui; have := hS.le; have := hS.ub; omega) <| ok_d (by have := hI.ls; have := hI.li; have := hI.ui; have := hS.le; have := hS.ub; omega) <| ok_d (by have := hI.ls; have := hI.li; have := hI.ui; have := hS.le; have := hS.ub; omega) <| ok_d (by have := hI.ls; have := hI.li; have := hI.ui; have := hS.le; have := hS.ub; omega) <| ok_d (by have := hI.ls; have := hI.li; have := hI.ui; have := hS.le; have := hS.ub; omega) <| ok_d (by have := hI.ls; have := hI.li; have := hI.ui; have := hS.le; have := hS.ub; omega) <| ok_d (by have := hI.ls; have := hI.li; have := hI.ui; have := hS.le; have := hS.ub; omega) <| ok_d (by have := hI.ls; have := hI.li; have := hI.ui; have := hS.le; have := hS.ub; omega) <| ok_d (by have := hI.ls; have := hI.li; have := hI.ui; have := hS.le; have := hS.ub; omega) <| ok_d (by have := hI.ls; have := hI.li; have := hI.ui; have := hS.le; have := hS.ub; omega) <| okE_nil) rfl rfl (by kernel_rfl) ⟨strE (i := 0) (e := 26) (s := 27) (m := nn) (c := 0) hX (((x : Int)).toNat) (fun zz => oc ((dk.setIfInBounds ((x : Int)).toNat (dk[((x : Int) - 1).toNat]!))[zz]!)) rfl rfl rfl (by have := hI.ls; have := hI.li; have := hI.ui; have := hS.le; have := hS.ub; omega) (fun z hz => by show oc _ = oc _; rw [aset_ne hz]) (by show _ = some (oc _); rw [aset_at (by (try simp only [asz]); rw [hI.sz, hn]; have := hI.ls; have := hI.li; have := hI.ui; have := hS.le; have := hS.ub; omega)]; rfl), ⟨strE (i := 0) (e := 26) (s := 27) (m := nn) (c := 0) hX (((x : Int) - 1).toNat) (fun zz => oc (((dk.setIfInBounds ((x : Int)).toNat (dk[((x : Int) - 1).toNat]!)).setIfInBounds ((x : Int) - 1).toNat (dk[((x : Int)).toNat]!))[zz]!)) rfl rfl rfl (by have := hI.ls; have := hI.li; have := hI.ui; have := hS.le; have := hS.ub; omega) (fun z hz => by show oc _ = oc _; rw [aset_ne hz]) (by show _ = some (oc _); rw [aset_at (by (try simp only [asz]); rw [hI.sz, hn]; have := hI.ls; have := hI.li; have := hI.ui; have := hS.le; have := hS.ub; omega)]; rfl), trivial⟩⟩ trivial fun A => N hX 10 A rfl (ok_d (by have := hI.ls; have := hI.li; have := hI.ui; have := hS.le; have := hS.ub; omega) <| okE_nil) fun A => forkD 65 A rfl
        (fun h5 A => N hX 9 A rfl (ok_d (by have := hI.ls; have := hI.li; have := hI.ui; have := hS.le; have := hS.ub; omega) <| okE_nil) fun A => have A := A.say 11 (.int .i64 (((x - 1 : Nat)) : Int)) rfl (by congr 1; have := hI.li; have := hS.le; omega); LOOP2 (fun (j : Nat) (ea : Array O) => [(0, .sl 0 nn 0), (1, .int .i64 (aa : Int)), (2, .int .i64 (b : Int)), (3, .fn 27 []), (8, .ff), (9, .int .i64 (x : Int)), (10, .int .i64 (s : Int)), (11, .int .i64 (j : Int))]) (fun (j : Nat) (ea : Array O) => [some (.row 26 27 nn 0 (fun zz => oc (ea[zz]!)))]) (fun (j : Nat) (ea : Array O) => SH d ((dk.setIfInBounds ((x : Int)).toNat (dk[((x : Int) - 1).toNat]!)).setIfInBounds ((x : Int) - 1).toNat (dk[((x : Int)).toNat]!)) (x - 1) ea j) (fun (j : Nat) (ea : Array O) => j) (x - 1) ((dk.setIfInBounds ((x : Int)).toNat (dk[((x : Int) - 1).toNat]!)).setIfInBounds ((x : Int) - 1).toNat (dk[((x : Int)).toNat]!)) ⟨(by simp only [asz]; exact hI.sz), Nat.le_refl _, rfl⟩ ((A.cut [0, 1, 2, 3, 8, 9, 10, 11] rfl).trunc 1 rfl rfl rfl (by simp only [List.length_cons, List.length_nil] at h0; omega)) fun j ea hA {G a w} A => N hX 7 A rfl rfl fun A => forkD 69 A rfl
          (fun h6 A => N hX 7 A rfl rfl fun A => DRAWN hX hmo [(10, .int .i64 (cmpO (ea[((j : Int)).toNat]!) (ea[((j : Int) - 1).toNat]!)))] [] A rfl (ok_d (by have := hI.ls; have := hI.li; have := hI.ui; have := hS.le; have := hS.ub; have := hA.le; omega) <| ok_d (by have := hI.ls; have := hI.li; have := hI.ui; have := hS.le; have := hS.ub; have := hA.le; omega) <| ok_d (by have := hI.ls; have := hI.li; have := hI.ui; have := hS.le; have := hS.ub; have := hA.le; omega) <| ok_d (by have := hI.ls; have := hI.li; have := hI.ui; have := hS.le; have := hS.ub; have := hA.le; omega) <| ok_d (by have := hI.ls; have := hI.li; have := hI.ui; have := hS.le; have := hS.ub; have := hA.le; omega) <| okE_nil) rfl rfl (by kernel_rfl) (effAll_nil _ _) ⟨.inl ⟨_, _, rfl, rfl, compare_ (ea[((j : Int)).toNat]!) (ea[((j : Int) - 1).toNat]!)⟩, trivial⟩ fun A => N hX 1 A rfl rfl fun A => fork 84 A rfl
           (fun h7 A => N hX 11 A rfl (ok_d (by have := hI.ls; have := hI.li; have := hI.ui; have := hS.le; have := hS.ub; have := hA.le; omega) <| okE_nil) fun A => forkD 104 A rfl
            (fun h8 A => N hX 9 A rfl (ok_d (by have := hI.ls; have := hI.li; have := hI.ui; have := hS.le; have := hS.ub; have := hA.le; omega) <| okE_nil) fun A => LOOP2 (fun (q : Nat) (eb : Array O) => [(0, .sl 0 nn 0), (1, .int .i64 (aa : Int)), (2, .int .i64 (b : Int)), (3, .fn 27 []), (8, .ff), (9, .int .i64 (x : Int)), (10, .int .i64 (s : Int)), (12, .int .i64 (q : Int))]) (fun (q : Nat) (eb : Array O) => [some (.row 26 27 nn 0 (fun zz => oc (eb[zz]!)))]) (fun (q : Nat) (eb : Array O) => SU d (ea) b (x + 1) eb q) (fun (q : Nat) (eb : Array O) => b - q) (x + 1) ea ⟨hA.sz, Nat.le_refl _, rfl⟩ ((A.cut [0, 1, 2, 3, 8, 9, 10, 12] rfl).trunc 1 rfl rfl rfl (by simp only [List.length_cons, List.length_nil] at h0; omega)) fun q eb hB {G a w} A => N hX 8 A rfl rfl fun A => forkD 109 A rfl
              (fun h9 A => N hX 7 A rfl rfl fun A => DRAWN hX hmo [(10, .int .i64 (cmpO (eb[((q : Int)).toNat]!) (eb[((q : Int) - 1).toNat]!)))] [] A rfl (ok_d (by have := hI.ls; have := hI.li; have := hI.ui; have := hS.le; have := hS.ub; have := hA.le; have := hB.le; omega) <| ok_d (by have := hI.ls; have := hI.li; have := hI.ui; have := hS.le; have := hS.ub; have := hA.le; have := hB.le; omega) <| ok_d (by have := hI.ls; have := hI.li; have := hI.ui; have := hS.le; have := hS.ub; have := hA.le; have := hB.le; omega) <| ok_d (by have := hI.ls; have := hI.li; have := hI.ui; have := hS.le; have := hS.ub; have := hA.le; have := hB.le; omega) <| ok_d (by have := hI.ls; have := hI.li; have := hI.ui; have := hS.le; have := hS.ub; have := hA.le; have := hB.le; omega) <| okE_nil) rfl rfl (by kernel_rfl) (effAll_nil _ _) ⟨.inl ⟨_, _, rfl, rfl, compare_ (eb[((q : Int)).toNat]!) (eb[((q : Int) - 1).toNat]!)⟩, trivial⟩ fun A => N hX 1 A rfl rfl fun A => fork 124 A rfl
               (fun h10 A => N hX 9 A rfl (ok_d (by have := hI.ls; have := hI.li; have := hI.ui; have := hS.le; have := hS.ub; have := hA.le; have := hB.le; omega) <| okE_nil) fun A => ⟨s + 1, x, eb, _, (by have := hI.ls; omega), (hI.step (D1 := (dk.setIfInBounds ((x : Int)).toNat (dk[((x : Int) - 1).toNat]!)).setIfInBounds ((x : Int) - 1).toNat (dk[((x : Int)).toNat]!)) (D2 := ea) h1 hS (hS.stop (Nat.le_trans (Nat.le_add_left 1 aa) hI.li) h2) h3 h4 (swp_is (x := (x : Int)) (y := (x : Int) - 1) rfl (by have := hI.li; have := hS.le; omega)) (by rw [if_pos (by omega)]; exact hA.stop2 h6 h7) (by rw [if_pos (by omega)]; exact hB.stop2 (by omega) h9 h10) hB.sz), ((A.cut [0, 1, 2, 3, 8, 9, 10] rfl).trunc 1 rfl rfl rfl (by simp only [List.length_cons, List.length_nil] at h0; omega)).sayT (by rfl)⟩)
               (fun h10 A => N hX 3 A rfl rfl fun A => DRAWN hX hmo [] [(15, .tup [], [some (.row 26 27 nn 0 (fun zz => oc ((eb.setIfInBounds ((q : Int)).toNat (eb[((q : Int) - 1).toNat]!))[zz]!)))]), (17, .tup [], [some (.row 26 27 nn 0 (fun zz => oc (((eb.setIfInBounds ((q : Int)).toNat (eb[((q : Int) - 1).toNat]!)).setIfInBounds ((q : Int) - 1).toNat (eb[((q : Int)).toNat]!))[zz]!)))])] A rfl (ok_d (by have := hI.ls; have := hI.li; have := hI.ui; have := hS.le; have := hS.ub; have := hA.le; have := hB.le; omega) <| ok_d (by have := hI.ls; have := hI.li; have := hI.ui; have := hS.le; have := hS.ub; have := hA.le; have := hB.le; omega) <| ok_d (by have := hI.ls; have := hI.li; have := hI.ui; have := hS.le; have := hS.ub; have := hA.le; have := hB.le; omega) <| ok_d (by have := hI.ls; have := hI.li; have := hI.ui; have := hS.le; have := hS.ub; have := hA.le; have := hB.le; omega) <| ok_d (by have := hI.ls; have := hI.li; have := hI.ui; have := hS.le; have := hS.ub; have := hA.le; have := hB.le; omega) <| ok_d (by have := hI.ls; have := hI.li; have := hI.ui; have := hS.le; have := hS.ub; have := hA.le; have := hB.le; omega) <| ok_d (by have := hI.ls; have := hI.li; have := hI.ui; have := hS.le; have := hS.ub; have := hA.le; have := hB.le; omega) <| ok_d (by have := hI.ls; have := hI.li; have := hI.ui; have := hS.le; have := hS.ub; have := hA.le; have := hB.le; omega) <| ok_d (by have := hI.ls; have := hI.li; have := hI.ui; have := hS.le; have := hS.ub; have := hA.le; have := hB.le; omega) <| ok_d (by have := hI.ls; have := hI.li; have := hI.ui; have := hS.le; have := hS.ub; have := hA.le; have := hB.le; omega) <| okE_nil) rfl rfl (by kernel_rfl) ⟨strE (i := 0) (e := 26) (s := 27) (m := nn) (c := 0) hX (((q : Int)).toNat) (fun zz => oc ((eb.setIfInBounds ((q : Int)).toNat (eb[((q : Int) - 1).toNat]!))[zz]!)) rfl rfl rfl (by have := hI.ls; have := hI.li; have := hI.ui; have := hS.le; have := hS.ub; have := hA.le; have := hB.le; omega) (fun z hz => by show oc _ = oc _; rw [aset_ne hz]) (by show _ = some (oc _); rw [aset_at (by (try simp only [asz]); rw [hB.sz, hn]; have := hI.ls; have := hI.li; have := hI.ui; have := hS.le; have := hS.ub; have := hA.le; have := hB.le; omega)]; rfl), ⟨strE (i := 0) (e := 26) (s := 27) (m := nn) (c := 0) hX (((q : Int) - 1).toNat) (fun zz => oc (((eb.setIfInBounds ((q : Int)).toNat (eb[((q : Int) - 1).toNat]!)).setIfInBounds ((q : Int) - 1).toNat (eb[((q : Int)).toNat]!))[zz]!)) rfl rfl rfl (by have := hI.ls; have := hI.li; have := hI.ui; have := hS.le; have := hS.ub; have := hA.le; have := hB.le; omega) (fun z hz => by show oc _ = oc _; rw [aset_ne hz]) (by show _ = some (oc _); rw [aset_at (by (try simp only [asz]); rw [hB.sz, hn]; have := hI.ls; have := hI.li; have := hI.ui; have := hS.le; have := hS.ub; have := hA.le; have := hB.le; omega)]; rfl), trivial⟩⟩ trivial fun A => N hX 7 A rfl (ok_d (by have := hI.ls; have := hI.li; have := hI.ui; have := hS.le; have := hS.ub; have := hA.le; have := hB.le; omega) <| okE_nil) fun A => ⟨q + 1, (eb.setIfInBounds ((q : Int)).toNat (eb[((q : Int) - 1).toNat]!)).setIfInBounds ((q : Int) - 1).toNat (eb[((q : Int)).toNat]!), _, (by omega), (hB.step (by omega) h9 h10 (swp_is (x := (q : Int)) (y := (q : Int) - 1) rfl (by have := hB.le; omega))), ((A.cut [0, 1, 2, 3, 8, 9, 10, 12] rfl).trunc 1 rfl rfl rfl (by simp only [List.length_cons, List.length_nil] at h0; omega)).sayT (by rfl)⟩))
              (fun h9 A => N hX 9 A rfl (ok_d (by have := hI.ls; have := hI.li; have := hI.ui; have := hS.le; have := hS.ub; have := hA.le; have := hB.le; omega) <| okE_nil) fun A => ⟨s + 1, x, eb, _, (by have := hI.ls; omega), (hI.step (D1 := (dk.setIfInBounds ((x : Int)).toNat (dk[((x : Int) - 1).toNat]!)).setIfInBounds ((x : Int) - 1).toNat (dk[((x : Int)).toNat]!)) (D2 := ea) h1 hS (hS.stop (Nat.le_trans (Nat.le_add_left 1 aa) hI.li) h2) h3 h4 (swp_is (x := (x : Int)) (y := (x : Int) - 1) rfl (by have := hI.li; have := hS.le; omega)) (by rw [if_pos (by omega)]; exact hA.stop2 h6 h7) (by rw [if_pos (by omega)]; exact hB.stop1 h9) hB.sz), ((A.cut [0, 1, 2, 3, 8, 9, 10] rfl).trunc 1 rfl rfl rfl (by simp only [List.length_cons, List.length_nil] at h0; omega)).sayT (by rfl)⟩))
            (fun h8 A => N hX 9 A rfl (ok_d (by have := hI.ls; have := hI.li; have := hI.ui; have := hS.le; have := hS.ub; have := hA.le; omega) <| okE_nil) fun A => ⟨s + 1, x, ea, _, (by have := hI.ls; omega), (hI.step (D1 := (dk.setIfInBounds ((x : Int)).toNat (dk[((x : Int) - 1).toNat]!)).setIfInBounds ((x : Int) - 1).toNat (dk[((x : Int)).toNat]!)) (D2 := ea) h1 hS (hS.stop (Nat.le_trans (Nat.le_add_left 1 aa) hI.li) h2) h3 h4 (swp_is (x := (x : Int)) (y := (x : Int) - 1) rfl (by have := hI.li; have := hS.le; omega)) (by rw [if_pos (by omega)]; exact hA.stop2 h6 h7) (by rw [if_neg (by omega)]) hA.sz), ((A.cut [0, 1, 2, 3, 8, 9, 10] rfl).trunc 1 rfl rfl rfl (by simp only [List.length_cons, List.length_nil] at h0; omega)).sayT (by rfl)⟩))
           (fun h7 A => N hX 3 A rfl rfl fun A => DRAWN hX hmo [] [(15, .tup [], [some (.row 26 27 nn 0 (fun zz => oc ((ea.setIfInBounds ((j : Int)).toNat (ea[((j : Int) - 1).toNat]!))[zz]!)))]), (17, .tup [], [some (.row 26 27 nn 0 (fun zz => oc (((ea.setIfInBounds ((j : Int)).toNat (ea[((j : Int) - 1).toNat]!)).setIfInBounds ((j : Int) - 1).toNat (ea[((j : Int)).toNat]!))[zz]!)))])] A rfl (ok_d (by have := hI.ls; have := hI.li; have := hI.ui; have := hS.le; have := hS.ub; have := hA.le; omega) <| ok_d (by have := hI.ls; have := hI.li; have := hI.ui; have := hS.le; have := hS.ub; have := hA.le; omega) <| ok_d (by have := hI.ls; have := hI.li; have := hI.ui; have := hS.le; have := hS.ub; have := hA.le; omega) <| ok_d (by have := hI.ls; have := hI.li; have := hI.ui; have := hS.le; have := hS.ub; have := hA.le; omega) <| ok_d (by have := hI.ls; have := hI.li; have := hI.ui; have := hS.le; have := hS.ub; have := hA.le; omega) <| ok_d (by have := hI.ls; have := hI.li; have := hI.ui; have := hS.le; have := hS.ub; have := hA.le; omega) <| ok_d (by have := hI.ls; have := hI.li; have := hI.ui; have := hS.le; have := hS.ub; have := hA.le; omega) <| ok_d (by have := hI.ls; have := hI.li; have := hI.ui; have := hS.le; have := hS.ub; have := hA.le; omega) <| ok_d (by have := hI.ls; have := hI.li; have := hI.ui; have := hS.le; have := hS.ub; have := hA.le; omega) <| ok_d (by have := hI.ls; have := hI.li; have := hI.ui; have := hS.le; have := hS.ub; have := hA.le; omega) <| okE_nil) rfl rfl (by kernel_rfl) ⟨strE (i := 0) (e := 26) (s := 27) (m := nn) (c := 0) hX (((j : Int)).toNat) (fun zz => oc ((ea.setIfInBounds ((j : Int)).toNat (ea[((j : Int) - 1).toNat]!))[zz]!)) rfl rfl rfl (by have := hI.ls; have := hI.li; have := hI.ui; have := hS.le; have := hS.ub; have := hA.le; omega) (fun z hz => by show oc _ = oc _; rw [aset_ne hz]) (by show _ = some (oc _); rw [aset_at (by (try simp only [asz]); rw [hA.sz, hn]; have := hI.ls; have := hI.li; have := hI.ui; have := hS.le; have := hS.ub; have := hA.le; omega)]; rfl), ⟨strE (i := 0) (e := 26) (s := 27) (m := nn) (c := 0) hX (((j : Int) - 1).toNat) (fun zz => oc (((ea.setIfInBounds ((j : Int)).toNat (ea[((j : Int) - 1).toNat]!)).setIfInBounds ((j : Int) - 1).toNat (ea[((j : Int)).toNat]!))[zz]!)) rfl rfl rfl (by have := hI.ls; have := hI.li; have := hI.ui; have := hS.le; have := hS.ub; have := hA.le; omega) (fun z hz => by show oc _ = oc _; rw [aset_ne hz]) (by show _ = some (oc _); rw [aset_at (by (try simp only [asz]); rw [hA.sz, hn]; have := hI.ls; have := hI.li; have := hI.ui; have := hS.le; have := hS.ub; have := hA.le; omega)]; rfl), trivial⟩⟩ trivial fun A => N hX 7 A rfl (ok_d (by have := hI.ls; have := hI.li; have := hI.ui; have := hS.le; have := hS.ub; have := hA.le; omega) <| okE_nil) fun A => ⟨j - 1, (ea.setIfInBounds ((j : Int)).toNat (ea[((j : Int) - 1).toNat]!)).setIfInBounds ((j : Int) - 1).toNat (ea[((j : Int)).toNat]!), _, (by omega), (hA.step h6 h7 (swp_is (x := (j : Int)) (y := (j : Int) - 1) rfl (by omega))), ((A.cut [0, 1, 2, 3, 8, 9, 10, 11] rfl).trunc 1 rfl rfl rfl (by simp only [List.length_cons, List.length_nil] at h0; omega)).sayT (by rw [show ((j - 1 : Nat) : Int) = (j : Int) - 1 by omega] <;> rfl)⟩))
          (fun h6 A => N hX 11 A rfl (ok_d (by have := hI.ls; have := hI.li; have := hI.ui; have := hS.le; have := hS.ub; have := hA.le; omega) <| okE_nil) fun A => forkD 104 A rfl
           (fun h11 A => N hX 9 A rfl (ok_d (by have := hI.ls; have := hI.li; have := hI.ui; have := hS.le; have := hS.ub; have := hA.le; omega) <| okE_nil) fun A => LOOP2 (fun (q : Nat) (eb : Array O) => [(0, .sl 0 nn 0), (1, .int .i64 (aa : Int)), (2, .int .i64 (b : Int)), (3, .fn 27 []), (8, .ff), (9, .int .i64 (x : Int)), (10, .int .i64 (s : Int)), (12, .int .i64 (q : Int))]) (fun (q : Nat) (eb : Array O) => [some (.row 26 27 nn 0 (fun zz => oc (eb[zz]!)))]) (fun (q : Nat) (eb : Array O) => SU d (ea) b (x + 1) eb q) (fun (q : Nat) (eb : Array O) => b - q) (x + 1) ea ⟨hA.sz, Nat.le_refl _, rfl⟩ ((A.cut [0, 1, 2, 3, 8, 9, 10, 12] rfl).trunc 1 rfl rfl rfl (by simp only [List.length_cons, List.length_nil] at h0; omega)) fun q eb hB {G a w} A => N hX 8 A rfl rfl fun A => forkD 109 A rfl
             (fun h12 A => N hX 7 A rfl rfl fun A => DRAWN hX hmo [(10, .int .i64 (cmpO (eb[((q : Int)).toNat]!) (eb[((q : Int) - 1).toNat]!)))] [] A rfl (ok_d (by have := hI.ls; have := hI.li; have := hI.ui; have := hS.le; have := hS.ub; have := hA.le; have := hB.le; omega) <| ok_d (by have := hI.ls; have := hI.li; have := hI.ui; have := hS.le; have := hS.ub; have := hA.le; have := hB.le; omega) <| ok_d (by have := hI.ls; have := hI.li; have := hI.ui; have := hS.le; have := hS.ub; have := hA.le; have := hB.le; omega) <| ok_d (by have := hI.ls; have := hI.li; have := hI.ui; have := hS.le; have := hS.ub; have := hA.le; have := hB.le; omega) <| ok_d (by have := hI.ls; have := hI.li; have := hI.ui; have := hS.le; have := hS.ub; have := hA.le; have := hB.le; omega) <| okE_nil) rfl rfl (by kernel_rfl) (effAll_nil _ _) ⟨.inl ⟨_, _, rfl, rfl, compare_ (eb[((q : Int)).toNat]!) (eb[((q : Int) - 1).toNat]!)⟩, trivial⟩ fun A => N hX 1 A rfl rfl fun A => fork 124 A rfl
              (fun h13 A => N hX 9 A rfl (ok_d (by have := hI.ls; have := hI.li; have := hI.ui; have := hS.le; have := hS.ub; have := hA.le; have := hB.le; omega) <| okE_nil) fun A => ⟨s + 1, x, eb, _, (by have := hI.ls; omega), (hI.step (D1 := (dk.setIfInBounds ((x : Int)).toNat (dk[((x : Int) - 1).toNat]!)).setIfInBounds ((x : Int) - 1).toNat (dk[((x : Int)).toNat]!)) (D2 := ea) h1 hS (hS.stop (Nat.le_trans (Nat.le_add_left 1 aa) hI.li) h2) h3 h4 (swp_is (x := (x : Int)) (y := (x : Int) - 1) rfl (by have := hI.li; have := hS.le; omega)) (by rw [if_pos (by omega)]; exact hA.stop1 h6) (by rw [if_pos (by omega)]; exact hB.stop2 (by omega) h12 h13) hB.sz), ((A.cut [0, 1, 2, 3, 8, 9, 10] rfl).trunc 1 rfl rfl rfl (by simp only [List.length_cons, List.length_nil] at h0; omega)).sayT (by rfl)⟩)
              (fun h13 A => N hX 3 A rfl rfl fun A => DRAWN hX hmo [] [(15, .tup [], [some (.row 26 27 nn 0 (fun zz => oc ((eb.setIfInBounds ((q : Int)).toNat (eb[((q : Int) - 1).toNat]!))[zz]!)))]), (17, .tup [], [some (.row 26 27 nn 0 (fun zz => oc (((eb.setIfInBounds ((q : Int)).toNat (eb[((q : Int) - 1).toNat]!)).setIfInBounds ((q : Int) - 1).toNat (eb[((q : Int)).toNat]!))[zz]!)))])] A rfl (ok_d (by have := hI.ls; have := hI.li; have := hI.ui; have := hS.le; have := hS.ub; have := hA.le; have := hB.le; omega) <| ok_d (by have := hI.ls; have := hI.li; have := hI.ui; have := hS.le; have := hS.ub; have := hA.le; have := hB.le; omega) <| ok_d (by have := hI.ls; have := hI.li; have := hI.ui; have := hS.le; have := hS.ub; have := hA.le; have := hB.le; omega) <| ok_d (by have := hI.ls; have := hI.li; have := hI.ui; have := hS.le; have := hS.ub; have := hA.le; have := hB.le; omega) <| ok_d (by have := hI.ls; have := hI.li; have := hI.ui; have := hS.le; have := hS.ub; have := hA.le; have := hB.le; omega) <| ok_d (by have := hI.ls; have := hI.li; have := hI.ui; have := hS.le; have := hS.ub; have := hA.le; have := hB.le; omega) <| ok_d (by have := hI.ls; have := hI.li; have := hI.ui; have := hS.le; have := hS.ub; have := hA.le; have := hB.le; omega) <| ok_d (by have := hI.ls; have := hI.li; have := hI.ui; have := hS.le; have := hS.ub; have := hA.le; have := hB.le; omega) <| ok_d (by have := hI.ls; have := hI.li; have := hI.ui; have := hS.le; have := hS.ub; have := hA.le; have := hB.le; omega) <| ok_d (by have := hI.ls; have := hI.li; have := hI.ui; have := hS.le; have := hS.ub; have := hA.le; have := hB.le; omega) <| okE_nil) rfl rfl (by kernel_rfl) ⟨strE (i := 0) (e := 26) (s := 27) (m := nn) (c := 0) hX (((q : Int)).toNat) (fun zz => oc ((eb.setIfInBounds ((q : Int)).toNat (eb[((q : Int) - 1).toNat]!))[zz]!)) rfl rfl rfl (by have := hI.ls; have := hI.li; have := hI.ui; have := hS.le; have := hS.ub; have := hA.le; have := hB.le; omega) (fun z hz => by show oc _ = oc _; rw [aset_ne hz]) (by show _ = some (oc _); rw [aset_at (by (try simp only [asz]); rw [hB.sz, hn]; have := hI.ls; have := hI.li; have := hI.ui; have := hS.le; have := hS.ub; have := hA.le; have := hB.le; omega)]; rfl), ⟨strE (i := 0) (e := 26) (s := 27) (m := nn) (c := 0) hX (((q : Int) - 1).toNat) (fun zz => oc (((eb.setIfInBounds ((q : Int)).toNat (eb[((q : Int) - 1).toNat]!)).setIfInBounds ((q : Int) - 1).toNat (eb[((q : Int)).toNat]!))[zz]!)) rfl rfl rfl (by have := hI.ls; have := hI.li; have := hI.ui; have := hS.le; have := hS.ub; have := hA.le; have := hB.le; omega) (fun z hz => by show oc _ = oc _; rw [aset_ne hz]) (by show _ = some (oc _); rw [aset_at (by (try simp only [asz]); rw [hB.sz, hn]; have := hI.ls; have := hI.li; have := hI.ui; have := hS.le; have := hS.ub; have := hA.le; have := hB.le; omega)]; rfl), trivial⟩⟩ trivial fun A => N hX 7 A rfl (ok_d (by have := hI.ls; have := hI.li; have := hI.ui; have := hS.le; have := hS.ub; have := hA.le; have := hB.le; omega) <| okE_nil) fun A => ⟨q + 1, (eb.setIfInBounds ((q : Int)).toNat (eb[((q : Int) - 1).toNat]!)).setIfInBounds ((q : Int) - 1).toNat (eb[((q : Int)).toNat]!), _, (by omega), (hB.step (by omega) h12 h13 (swp_is (x := (q : Int)) (y := (q : Int) - 1) rfl (by have := hB.le; omega))), ((A.cut [0, 1, 2, 3, 8, 9, 10, 12] rfl).trunc 1 rfl rfl rfl (by simp only [List.length_cons, List.length_nil] at h0; omega)).sayT (by rfl)⟩))
             (fun h12 A => N hX 9 A rfl (ok_d (by have := hI.ls; have := hI.li; have := hI.ui; have := hS.le; have := hS.ub; have := hA.le; have := hB.le; omega) <| okE_nil) fun A => ⟨s + 1, x, eb, _, (by have := hI.ls; omega), (hI.step (D1 := (dk.setIfInBounds ((x : Int)).toNat (dk[((x : Int) - 1).toNat]!)).setIfInBounds ((x : Int) - 1).toNat (dk[((x : Int)).toNat]!)) (D2 := ea) h1 hS (hS.stop (Nat.le_trans (Nat.le_add_left 1 aa) hI.li) h2) h3 h4 (swp_is (x := (x : Int)) (y := (x : Int) - 1) rfl (by have := hI.li; have := hS.le; omega)) (by rw [if_pos (by omega)]; exact hA.stop1 h6) (by rw [if_pos (by omega)]; exact hB.stop1 h12) hB.sz), ((A.cut [0, 1, 2, 3, 8, 9, 10] rfl).trunc 1 rfl rfl rfl (by simp only [List.length_cons, List.length_nil] at h0; omega)).sayT (by rfl)⟩))
           (fun h11 A => N hX 9 A rfl (ok_d (by have := hI.ls; have := hI.li; have := hI.ui; have := hS.le; have := hS.ub; have := hA.le; omega) <| okE_nil) fun A => ⟨s + 1, x, ea, _, (by have := hI.ls; omega), (hI.step (D1 := (dk.setIfInBounds ((x : Int)).toNat (dk[((x : Int) - 1).toNat]!)).setIfInBounds ((x : Int) - 1).toNat (dk[((x : Int)).toNat]!)) (D2 := ea) h1 hS (hS.stop (Nat.le_trans (Nat.le_add_left 1 aa) hI.li) h2) h3 h4 (swp_is (x := (x : Int)) (y := (x : Int) - 1) rfl (by have := hI.li; have := hS.le; omega)) (by rw [if_pos (by omega)]; exact hA.stop1 h6) (by rw [if_neg (by omega)]) hA.sz), ((A.cut [0, 1, 2, 3, 8, 9, 10] rfl).trunc 1 rfl rfl rfl (by simp only [List.length_cons, List.length_nil] at h0; omega)).sayT (by rfl)⟩)))
        (fun h5 A => N hX 11 A rfl (ok_d (by have := hI.ls; have := hI.li; have := hI.ui; have := hS.le; have := hS.ub; omega) <| okE_nil) fun A => forkD 104 A rfl
         (fun h14 A => N hX 9 A rfl (ok_d (by have := hI.ls; have := hI.li; have := hI.ui; have := hS.le; have := hS.ub; omega) <| okE_nil) fun A => LOOP2 (fun (q : Nat) (eb : Array O) => [(0, .sl 0 nn 0), (1, .int .i64 (aa : Int)), (2, .int .i64 (b : Int)), (3, .fn 27 []), (8, .ff), (9, .int .i64 (x : Int)), (10, .int .i64 (s : Int)), (12, .int .i64 (q : Int))]) (fun (q : Nat) (eb : Array O) => [some (.row 26 27 nn 0 (fun zz => oc (eb[zz]!)))]) (fun (q : Nat) (eb : Array O) => SU d ((dk.setIfInBounds ((x : Int)).toNat (dk[((x : Int) - 1).toNat]!)).setIfInBounds ((x : Int) - 1).toNat (dk[((x : Int)).toNat]!)) b (x + 1) eb q) (fun (q : Nat) (eb : Array O) => b - q) (x + 1) ((dk.setIfInBounds ((x : Int)).toNat (dk[((x : Int) - 1).toNat]!)).setIfInBounds ((x : Int) - 1).toNat (dk[((x : Int)).toNat]!)) ⟨(by simp only [asz]; exact hI.sz), Nat.le_refl _, rfl⟩ ((A.cut [0, 1, 2, 3, 8, 9, 10, 12] rfl).trunc 1 rfl rfl rfl (by simp only [List.length_cons, List.length_nil] at h0; omega)) fun q eb hB {G a w} A => N hX 8 A rfl rfl fun A => forkD 109 A rfl
           (fun h15 A => N hX 7 A rfl rfl fun A => DRAWN hX hmo [(10, .int .i64 (cmpO (eb[((q : Int)).toNat]!) (eb[((q : Int) - 1).toNat]!)))] [] A rfl (ok_d (by have := hI.ls; have := hI.li; have := hI.ui; have := hS.le; have := hS.ub; have := hB.le; omega) <| ok_d (by have := hI.ls; have := hI.li; have := hI.ui; have := hS.le; have := hS.ub; have := hB.le; omega) <| ok_d (by have := hI.ls; have := hI.li; have := hI.ui; have := hS.le; have := hS.ub; have := hB.le; omega) <| ok_d (by have := hI.ls; have := hI.li; have := hI.ui; have := hS.le; have := hS.ub; have := hB.le; omega) <| ok_d (by have := hI.ls; have := hI.li; have := hI.ui; have := hS.le; have := hS.ub; have := hB.le; omega) <| okE_nil) rfl rfl (by kernel_rfl) (effAll_nil _ _) ⟨.inl ⟨_, _, rfl, rfl, compare_ (eb[((q : Int)).toNat]!) (eb[((q : Int) - 1).toNat]!)⟩, trivial⟩ fun A => N hX 1 A rfl rfl fun A => fork 124 A rfl
            (fun h16 A => N hX 9 A rfl (ok_d (by have := hI.ls; have := hI.li; have := hI.ui; have := hS.le; have := hS.ub; have := hB.le; omega) <| okE_nil) fun A => ⟨s + 1, x, eb, _, (by have := hI.ls; omega), (hI.step (D1 := (dk.setIfInBounds ((x : Int)).toNat (dk[((x : Int) - 1).toNat]!)).setIfInBounds ((x : Int) - 1).toNat (dk[((x : Int)).toNat]!)) (D2 := (dk.setIfInBounds ((x : Int)).toNat (dk[((x : Int) - 1).toNat]!)).setIfInBounds ((x : Int) - 1).toNat (dk[((x : Int)).toNat]!)) h1 hS (hS.stop (Nat.le_trans (Nat.le_add_left 1 aa) hI.li) h2) h3 h4 (swp_is (x := (x : Int)) (y := (x : Int) - 1) rfl (by have := hI.li; have := hS.le; omega)) (by rw [if_neg (by omega)]) (by rw [if_pos (by omega)]; exact hB.stop2 (by omega) h15 h16) hB.sz), ((A.cut [0, 1, 2, 3, 8, 9, 10] rfl).trunc 1 rfl rfl rfl (by simp only [List.length_cons, List.length_nil] at h0; omega)).sayT (by rfl)⟩)
            (fun h16 A => N hX 3 A rfl rfl fun A => DRAWN hX hmo [] [(15, .tup [], [some (.row 26 27 nn 0 (fun zz => oc ((eb.setIfInBounds ((q : Int)).toNat (eb[((q : Int) - 1).toNat]!))[zz]!)))]), (17, .tup [], [some (.row 26 27 nn 0 (fun zz => oc (((eb.setIfInBounds ((q : Int)).toNat (eb[((q : Int) - 1).toNat]!)).setIfInBounds ((q : Int) - 1).toNat (eb[((q : Int)).toNat]!))[zz]!)))])] A rfl (ok_d (by have := hI.ls; have := hI.li; have := hI.ui; have := hS.le; have := hS.ub; have := hB.le; omega) <| ok_d (by have := hI.ls; have := hI.li; have := hI.ui; have := hS.le; have := hS.ub; have := hB.le; omega) <| ok_d (by have := hI.ls; have := hI.li; have := hI.ui; have := hS.le; have := hS.ub; have := hB.le; omega) <| ok_d (by have := hI.ls; have := hI.li; have := hI.ui; have := hS.le; have := hS.ub; have := hB.le; omega) <| ok_d (by have := hI.ls; have := hI.li; have := hI.ui; have := hS.le; have := hS.ub; have := hB.le; omega) <| ok_d (by have := hI.ls; have := hI.li; have := hI.ui; have := hS.le; have := hS.ub; have := hB.le; omega) <| ok_d (by have := hI.ls; have := hI.li; have := hI.ui; have := hS.le; have := hS.ub; have := hB.le; omega) <| ok_d (by have := hI.ls; have := hI.li; have := hI.ui; have := hS.le; have := hS.ub; have := hB.le; omega) <| ok_d (by have := hI.ls; have := hI.li; have := hI.ui; have := hS.le; have := hS.ub; have := hB.le; omega) <| ok_d (by have := hI.ls; have := hI.li; have := hI.ui; have := hS.le; have := hS.ub; have := hB.le; omega) <| okE_nil) rfl rfl (by kernel_rfl) ⟨strE (i := 0) (e := 26) (s := 27) (m := nn) (c := 0) hX (((q : Int)).toNat) (fun zz => oc ((eb.setIfInBounds ((q : Int)).toNat (eb[((q : Int) - 1).toNat]!))[zz]!)) rfl rfl rfl (by have := hI.ls; have := hI.li; have := hI.ui; have := hS.le; have := hS.ub; have := hB.le; omega) (fun z hz => by show oc _ = oc _; rw [aset_ne hz]) (by show _ = some (oc _); rw [aset_at (by (try simp only [asz]); rw [hB.sz, hn]; have := hI.ls; have := hI.li; have := hI.ui; have := hS.le; have := hS.ub; have := hB.le; omega)]; rfl), ⟨strE (i := 0) (e := 26) (s := 27) (m := nn) (c := 0) hX (((q : Int) - 1).toNat) (fun zz => oc (((eb.setIfInBounds ((q : Int)).toNat (eb[((q : Int) - 1).toNat]!)).setIfInBounds ((q : Int) - 1).toNat (eb[((q : Int)).toNat]!))[zz]!)) rfl rfl rfl (by have := hI.ls; have := hI.li; have := hI.ui; have := hS.le; have := hS.ub; have := hB.le; omega) (fun z hz => by show oc _ = oc _; rw [aset_ne hz]) (by show _ = some (oc _); rw [aset_at (by (try simp only [asz]); rw [hB.sz, hn]; have := hI.ls; have := hI.li; have := hI.ui; have := hS.le; have := hS.ub; have := hB.le; omega)]; rfl), trivial⟩⟩ trivial fun A => N hX 7 A rfl (ok_d (by have := hI.ls; have := hI.li; have := hI.ui; have := hS.le; have := hS.ub; have := hB.le; omega) <| okE_nil) fun A => ⟨q + 1, (eb.setIfInBounds ((q : Int)).toNat (eb[((q : Int) - 1).toNat]!)).setIfInBounds ((q : Int) - 1).toNat (eb[((q : Int)).toNat]!), _, (by omega), (hB.step (by omega) h15 h16 (swp_is (x := (q : Int)) (y := (q : Int) - 1) rfl (by have := hB.le; omega))), ((A.cut [0, 1, 2, 3, 8, 9, 10, 12] rfl).trunc 1 rfl rfl rfl (by simp only [List.length_cons, List.length_nil] at h0; omega)).sayT (by rfl)⟩))
           (fun h15 A => N hX 9 A rfl (ok_d (by have := hI.ls; have := hI.li; have := hI.ui; have := hS.le; have := hS.ub; have := hB.le; omega) <| okE_nil) fun A => ⟨s + 1, x, eb, _, (by have := hI.ls; omega), (hI.step (D1 := (dk.setIfInBounds ((x : Int)).toNat (dk[((x : Int) - 1).toNat]!)).setIfInBounds ((x : Int) - 1).toNat (dk[((x : Int)).toNat]!)) (D2 := (dk.setIfInBounds ((x : Int)).toNat (dk[((x : Int) - 1).toNat]!)).setIfInBounds ((x : Int) - 1).toNat (dk[((x : Int)).toNat]!)) h1 hS (hS.stop (Nat.le_trans (Nat.le_add_left 1 aa) hI.li) h2) h3 h4 (swp_is (x := (x : Int)) (y := (x : Int) - 1) rfl (by have := hI.li; have := hS.le; omega)) (by rw [if_neg (by omega)]) (by rw [if_pos (by omega)]; exact hB.stop1 h15) hB.sz), ((A.cut [0, 1, 2, 3, 8, 9, 10] rfl).trunc 1 rfl rfl rfl (by simp only [List.length_cons, List.length_nil] at h0; omega)).sayT (by rfl)⟩))
         (fun h14 A => N hX 9 A rfl (ok_d (by have := hI.ls; have := hI.li; have := hI.ui; have := hS.le; have := hS.ub; omega) <| okE_nil) fun A => ⟨s + 1, x, (dk.setIfInBounds ((x : Int)).toNat (dk[((x : Int) - 1).toNat]!)).setIfInBounds ((x : Int) - 1).toNat (dk[((x : Int)).toNat]!), _, (by have := hI.ls; omega), (hI.step (D1 := (dk.setIfInBounds ((x : Int)).toNat (dk[((x : Int) - 1).toNat]!)).setIfInBounds ((x : Int) - 1).toNat (dk[((x : Int)).toNat]!)) (D2 := (dk.setIfInBounds ((x : Int)).toNat (dk[((x : Int) - 1).toNat]!)).setIfInBounds ((x : Int) - 1).toNat (dk[((x : Int)).toNat]!)) h1 hS (hS.stop (Nat.le_trans (Nat.le_add_left 1 aa) hI.li) h2) h3 h4 (swp_is (x := (x : Int)) (y := (x : Int) - 1) rfl (by have := hI.li; have := hS.le; omega)) (by rw [if_neg (by omega)]) (by rw [if_neg (by omega)]) (by simp only [asz]; exact hI.sz)), ((A.cut [0, 1, 2, 3, 8, 9, 10] rfl).trunc 1 rfl rfl rfl (by simp only [List.length_cons, List.length_nil] at h0; omega)).sayT (by rfl)⟩))))))
   (fun h1 A => N hX 9 A rfl rfl fun A => RETN hX A rfl rfl rfl h0 rfl rfl rfl rfl (by rw [hI.fin h1]; rfl) (by rw [hI.fin h1]; rfl))
theorem pins_i {xaa xb : Int} (d : Array O) (nn aa b : Nat) (eaa : xaa = (aa : Int)) (eb : xb = (b : Int)) (hn : d.size = nn) (hs : nn ≤ 1000000) (ha : aa < b) (hb : b ≤ nn) : Fn Tryd.prog 53 [.sl 0 nn 0, .int .i64 xaa, .int .i64 xb, .fn 27 []] [some (.row 26 27 nn 0 (fun zz => oc (d[zz]!)))] (Rt (.bool ((Go.Sort.partialInsertionSort lessO d aa b).2)) [some (.row 26 27 nn 0 (fun zz => oc (((Go.Sort.partialInsertionSort lessO d aa b).1)[zz]!)))]) := by
  subst eaa; subst eb; exact pins_ d nn aa b hn hs ha hb
theorem fdivN (k m : Nat) : Int.fdiv (k : Int) ((m : Nat) : Int) = ((k / m : Nat) : Int) := by
  cases k with
  | zero => simp
  | succ k => rfl
theorem bl_div {n : Nat} (h : 256 ≤ n) : bitsLen n = 8 + bitsLen (n / 256) := by
  have h1 : n / 256 ≠ 0 := by omega
  have e : ∀ m, 2 ≤ m → Nat.log2 m = Nat.log2 (m / 2) + 1 := fun m hm => by rw [Nat.log2_def, if_pos hm]
  have e8 : n / 2 / 2 / 2 / 2 / 2 / 2 / 2 / 2 = n / 256 := by omega
  unfold bitsLen
  rw [if_neg (by omega), if_neg h1, e n (by omega), e (n / 2) (by omega), e (n / 2 / 2) (by omega), e (n / 2 / 2 / 2) (by omega), e (n / 2 / 2 / 2 / 2) (by omega), e (n / 2 / 2 / 2 / 2 / 2) (by omega), e (n / 2 / 2 / 2 / 2 / 2 / 2) (by omega), e (n / 2 / 2 / 2 / 2 / 2 / 2 / 2) (by omega), e8]
  omega
abbrev l8 : List UInt8 := [0, 1, 2, 2, 3, 3, 3, 3, 4, 4, 4, 4, 4, 4, 4, 4, 5, 5, 5, 5, 5, 5, 5, 5, 5, 5, 5, 5, 5, 5, 5, 5, 6, 6, 6, 6, 6, 6, 6, 6, 6, 6, 6, 6, 6, 6, 6, 6, 6, 6, 6, 6, 6, 6, 6, 6, 6, 6, 6, 6, 6, 6, 6, 6, 7, 7, 7, 7, 7, 7, 7, 7, 7, 7, 7, 7, 7, 7, 7, 7, 7, 7, 7, 7, 7, 7, 7, 7, 7, 7, 7, 7, 7, 7, 7, 7, 7, 7, 7, 7, 7, 7, 7, 7, 7, 7, 7, 7, 7, 7, 7, 7, 7, 7, 7, 7, 7, 7, 7, 7, 7, 7, 7, 7, 7, 7, 7, 7, 8, 8, 8, 8, 8, 8, 8, 8, 8, 8, 8, 8, 8, 8, 8, 8, 8, 8, 8, 8, 8, 8, 8, 8, 8, 8, 8, 8, 8, 8, 8, 8, 8, 8, 8, 8, 8, 8, 8, 8, 8, 8, 8, 8, 8, 8, 8, 8, 8, 8, 8, 8, 8, 8, 8, 8, 8, 8, 8, 8, 8, 8, 8, 8, 8, 8, 8, 8, 8, 8, 8, 8, 8, 8, 8, 8, 8, 8, 8, 8, 8, 8, 8, 8, 8, 8, 8, 8, 8, 8, 8, 8, 8, 8, 8, 8, 8, 8, 8, 8, 8, 8, 8, 8, 8, 8, 8, 8, 8, 8, 8, 8, 8, 8, 8, 8, 8, 8, 8, 8, 8, 8, 8, 8, 8, 8, 8, 8]
theorem l8_is : ∀ n : Fin 256, (l8.getD n.val 0).toNat = bitsLen n.val := by decide +kernel
theorem wu8 {n : Nat} (h : n < 256) : IntKind.wrap .u8 (n : Int) = (n : Int) := by simp only [IntKind.wrap, IntKind.signed, IntKind.bits]; simp; omega
theorem wu64 {n : Nat} (h : n < 18446744073709551616) : IntKind.wrap .u64 (n : Int) = (n : Int) := by simp only [IntKind.wrap, IntKind.signed, IntKind.bits]; simp; omega
theorem tab_is {n : Nat} (h : n < 256) : IntKind.wrap .i64 ((((l8.getD ((IntKind.wrap .u8 (n : Int))).toNat 0).toNat : Nat)) : Int) = ((bitsLen n : Nat) : Int) := by
  rw [wu8 h, Int.toNat_natCast]
  have := l8_is ⟨n, h⟩
  simp only at this
  rw [this, wrap_in]
  have : bitsLen n ≤ 8 := by
    unfold bitsLen
    split
    · omega
    · next h0 => have := (Nat.log2_lt (n := n) (k := 8) h0).2 (by omega); omega
  omega
theorem bl_le {n : Nat} (h : n < 1048576) : bitsLen n ≤ 20 := by
  unfold bitsLen
  split
  · omega
  · next h0 => have := (Nat.log2_lt (n := n) (k := 20) h0).2 (by omega); omega
theorem bl_pow {n : Nat} (h : 0 < n) : 2 ^ bitsLen n ≤ 2 * n := by
  unfold bitsLen
  rw [if_neg (by omega), Nat.pow_succ]
  have := Nat.log2_self_le (n := n) (by omega)
  omega
theorem f16 (k : Nat) : Int.fdiv (k : Int) (2 ^ min (16 : Int).toNat (IntKind.bits .u64)) = ((k / 65536 : Nat) : Int) := fdivN k 65536
theorem f8 (k : Nat) : Int.fdiv (k : Int) (2 ^ min (8 : Int).toNat (IntKind.bits .u64)) = ((k / 256 : Nat) : Int) := fdivN k 256
theorem l8_len : (l8.length : Int) = 256 := by decide +kernel
theorem len64_ (k : Nat) (hk : k ≤ 1000000) : Fn Tryd.prog 57 [.int .u64 (k : Int)] [] (Rt (.int .i64 ((Go.Sort.bitsLen k : Nat) : Int)) []) :=
 enterM (n := 25) (by kernel_rfl) Tryd.func57 rfl rfl rfl fun G w a h0 A => N hX 12 A rfl rfl fun A => forkD 4 A rfl
  (fun h1 A => N hX 8 A rfl (ok_d (by omega) <| okE_nil) fun A => N hX 11 A rfl rfl fun A => forkD 8 A rfl
   (fun h2 A => N hX 8 A rfl (ok_d (by omega) <| okE_nil) fun A => N hX 8 A rfl (ok_d (by omega) <| okE_nil) fun A => N hX 5 A rfl rfl fun A => forkD 14 A rfl
    (fun h3 A => N hX 8 A rfl (ok_d (by omega) <| okE_nil) fun A => N hX 7 A rfl (ok_d (by omega) <| okE_nil) fun A => N hX 11 A rfl (ok_d (by omega) <| ok_d (by omega) <| okE_nil) fun A => RETN hX A rfl rfl rfl h0 rfl rfl rfl rfl (absurd h1 (by omega)) rfl)
    (fun h3 A => N hX 15 A rfl (ok_d (by omega) <| ok_d (by omega) <| okE_nil) fun A => RETN hX A rfl rfl rfl h0 rfl rfl rfl rfl (absurd h1 (by omega)) rfl))
   (fun h2 A => N hX 10 A rfl rfl fun A => forkD 14 A rfl
    (fun h4 A => N hX 8 A rfl (ok_d (by omega) <| okE_nil) fun A => N hX 7 A rfl (ok_d (by omega) <| okE_nil) fun A => N hX 11 A rfl (ok_d (by omega) <| ok_d (by omega) <| okE_nil) fun A => RETN hX A rfl rfl rfl h0 rfl rfl rfl rfl (absurd h1 (by omega)) rfl)
    (fun h4 A => N hX 15 A rfl (ok_d (by omega) <| ok_d (by omega) <| okE_nil) fun A => RETN hX A rfl rfl rfl h0 rfl rfl rfl rfl (absurd h1 (by omega)) rfl)))
  (fun h1 A => N hX 10 A rfl rfl fun A => forkD 8 A rfl
   (fun h5 A => N hX 8 A rfl (ok_d (by omega) <| okE_nil) fun A => N hX 8 A rfl (ok_d (by omega) <| okE_nil) fun A => N hX 5 A rfl rfl fun A => forkD 14 A rfl
    (fun h6 A => N hX 8 A rfl (ok_d (by rw [f16] at h6; omega) <| okE_nil) fun A => N hX 7 A rfl (ok_d (by rw [f16] at h6; omega) <| okE_nil) fun A => N hX 11 A rfl (ok_d (by rw [f16] at h6; omega) <| ok_d (by rw [f16] at h6; omega) <| okE_nil) fun A => RETN hX A rfl rfl rfl h0 rfl rfl rfl rfl (absurd h6 (by rw [f16]; omega)) rfl)
    (fun h6 A => N hX 15 A rfl (ok_d (by (try rw [f16]); (try rw [f8]); rw [wu8 (by omega)]; show _ ∧ _ < (l8.length : Int); rw [l8_len]; omega) <| ok_d (by (try rw [f16]); (try rw [f8]); erw [tab_is (by omega)]; have := bl_le (n := k) (by omega); have h8 : ∀ m, m < 256 → bitsLen m ≤ 20 := fun m hm => bl_le (by omega); (try have := h8 (k / 65536) (by omega)); (try have := h8 (k / 256) (by omega)); omega) <| okE_nil) fun A => RETN hX A rfl rfl rfl h0 rfl rfl rfl rfl (by rw [f16]; erw [tab_is (by omega)]; rw [bl_div (n := k) (by omega), bl_div (n := k / 256) (by omega), Nat.div_div_eq_div_mul, show 256 * 256 = 65536 from rfl]; show SV.int _ _ = SV.int _ _; congr 1 <;> omega) rfl))
   (fun h5 A => N hX 10 A rfl rfl fun A => forkD 14 A rfl
    (fun h7 A => N hX 8 A rfl (ok_d (by omega) <| okE_nil) fun A => N hX 7 A rfl (ok_d (by omega) <| okE_nil) fun A => N hX 11 A rfl (ok_d (by (try rw [f16]); (try rw [f8]); rw [wu8 (by omega)]; show _ ∧ _ < (l8.length : Int); rw [l8_len]; omega) <| ok_d (by (try rw [f16]); (try rw [f8]); erw [tab_is (by omega)]; have := bl_le (n := k) (by omega); have h8 : ∀ m, m < 256 → bitsLen m ≤ 20 := fun m hm => bl_le (by omega); (try have := h8 (k / 65536) (by omega)); (try have := h8 (k / 256) (by omega)); omega) <| okE_nil) fun A => RETN hX A rfl rfl rfl h0 rfl rfl rfl rfl (by rw [f8]; erw [tab_is (by omega)]; rw [bl_div (n := k) (by omega)] <;> (show SV.int _ _ = SV.int _ _; congr 1 <;> omega)) rfl)
    (fun h7 A => N hX 15 A rfl (ok_d (by (try rw [f16]); (try rw [f8]); rw [wu8 (by omega)]; show _ ∧ _ < (l8.length : Int); rw [l8_len]; omega) <| ok_d (by (try rw [f16]); (try rw [f8]); erw [tab_is (by omega)]; have := bl_le (n := k) (by omega); have h8 : ∀ m, m < 256 → bitsLen m ≤ 20 := fun m hm => bl_le (by omega); (try have := h8 (k / 65536) (by omega)); (try have := h8 (k / 256) (by omega)); omega) <| okE_nil) fun A => RETN hX A rfl rfl rfl h0 rfl rfl rfl rfl (by erw [tab_is (by omega)] <;> (show SV.int _ _ = SV.int _ _; congr 1 <;> omega)) rfl)))
theorem len_ (k : Nat) (hk : k ≤ 1000000) : Fn Tryd.prog 39 [.int .u64 (k : Int)] [] (Rt (.int .i64 ((Go.Sort.bitsLen k : Nat) : Int)) []) :=
 enterM (n := 8) (by kernel_rfl) Tryd.func39 rfl rfl rfl fun G w a h0 A => N hX 12 A rfl rfl fun A => CALL1 [] (len64_ k (by omega)) A rfl rfl rfl rfl rfl rfl rfl fun A => N hX 4 A rfl rfl fun A => RETN hX A rfl rfl rfl h0 rfl rfl rfl rfl rfl rfl
theorem u_nat (a : UInt64) : BitVec.ofInt (IntKind.bits .u64) ((a.toNat : Nat) : Int) = a.toBitVec := by
  apply BitVec.eq_of_toNat_eq
  show (BitVec.ofInt 64 ((a.toNat : Nat) : Int)).toNat = a.toNat
  rw [BitVec.toNat_ofInt, show ((2 ^ 64 : Nat) : Int) = 18446744073709551616 from rfl]
  have := a.toNat_lt
  omega
theorem u_xor (a b : UInt64) : IntKind.wrap .u64 (((BitVec.ofInt (IntKind.bits .u64) ((a.toNat : Nat) : Int) ^^^ BitVec.ofInt (IntKind.bits .u64) ((b.toNat : Nat) : Int)).toNat : Nat) : Int) = (((a ^^^ b).toNat : Nat) : Int) := by
  rw [u_nat, u_nat]
  have := (a ^^^ b).toNat_lt
  exact wu64 this
theorem u_shl13 (a : UInt64) : IntKind.wrap .u64 (((a.toNat : Nat) : Int) * 2 ^ min (13 : Int).toNat (IntKind.bits .u64)) = (((a <<< 13).toNat : Nat) : Int) := by
  have h : (a <<< 13).toNat = a.toNat * 8192 % 18446744073709551616 := by
    rw [UInt64.toNat_shiftLeft, Nat.shiftLeft_eq]; rfl
  rw [h]
  simp only [IntKind.wrap, IntKind.signed, IntKind.bits]
  show ((a.toNat : Nat) : Int) * ((8192 : Nat) : Int) % ((18446744073709551616 : Nat) : Int) = _
  omega
theorem u_shl17 (a : UInt64) : IntKind.wrap .u64 (((a.toNat : Nat) : Int) * 2 ^ min (17 : Int).toNat (IntKind.bits .u64)) = (((a <<< 17).toNat : Nat) : Int) := by
  have h : (a <<< 17).toNat = a.toNat * 131072 % 18446744073709551616 := by
    rw [UInt64.toNat_shiftLeft, Nat.shiftLeft_eq]; rfl
  rw [h]
  simp only [IntKind.wrap, IntKind.signed, IntKind.bits]
  show ((a.toNat : Nat) : Int) * ((131072 : Nat) : Int) % ((18446744073709551616 : Nat) : Int) = _
  omega
theorem u_shr7 (a : UInt64) : Int.fdiv ((a.toNat : Nat) : Int) (2 ^ min (7 : Int).toNat (IntKind.bits .u64)) = (((a >>> 7).toNat : Nat) : Int) := by
  have h : (a >>> 7).toNat = a.toNat / 128 := by
    rw [UInt64.toNat_shiftRight, Nat.shiftRight_eq_div_pow]; rfl
  rw [h]
  exact fdivN _ 128
def oth (r : UInt64) (m : Nat) : Nat := r.toNat &&& (m - 1)
theorem oth_is (r : UInt64) {m : Nat} (h0 : 0 < m) (h : m ≤ 2097152) : IntKind.wrap .i64 (IntKind.wrap .u64 (((BitVec.ofInt (IntKind.bits .u64) ((r.toNat : Nat) : Int) &&& BitVec.ofInt (IntKind.bits .u64) (IntKind.wrap .u64 (((m : Nat) : Int) - 1))).toNat : Nat) : Int)) = ((oth r m : Nat) : Int) := by
  have e : IntKind.wrap .u64 (((m : Nat) : Int) - 1) = (((UInt64.ofNat (m - 1)).toNat : Nat) : Int) := by
    rw [UInt64.toNat_ofNat', show ((m : Nat) : Int) - 1 = ((m - 1 : Nat) : Int) by omega, wu64 (by omega)]
    congr 1
    rw [Nat.mod_eq_of_lt (by omega)]
  rw [e, u_nat, u_nat]
  show IntKind.wrap .i64 (IntKind.wrap .u64 (((r.toBitVec &&& (UInt64.ofNat (m - 1)).toBitVec : BitVec 64).toNat : Nat) : Int)) = _
  rw [BitVec.toNat_and]
  have e2 : (UInt64.ofNat (m - 1)).toBitVec.toNat = m - 1 := by
    show (UInt64.ofNat (m - 1)).toNat = m - 1
    rw [UInt64.toNat_ofNat', Nat.mod_eq_of_lt (by omega)]
  rw [e2]
  have hle : r.toBitVec.toNat &&& (m - 1) ≤ m - 1 := Nat.and_le_right
  rw [wu64 (by omega), wrap_in (by omega)]
  rfl
theorem oth_lt (r : UInt64) {m : Nat} (h0 : 0 < m) : oth r m < m := by
  have : r.toNat &&& (m - 1) ≤ m - 1 := Nat.and_le_right
  unfold oth; omega
def bR (d : Array O) (aa len m idx : Nat) : Nat → UInt64 × Array O
  | 0 => (UInt64.ofNat len, d)
  | t + 1 => breakStep aa len m (bR d aa len m idx t) (idx + t)
structure BK (d : Array O) (aa len m idx t : Nat) (r : UInt64) (dk : Array O) : Prop where
  sz : dk.size = d.size
  le : t ≤ 3
  eq : bR d aa len m idx t = (r, dk)
theorem BK.step {d dk dw : Array O} {aa len m idx t o2 : Nat} {r : UInt64} (h : BK d aa len m idx t r dk) (h1 : t < 3) (ho : o2 = if oth (xorNext r) m ≥ len then oth (xorNext r) m - len else oth (xorNext r) m) (e : dw = swp dk (idx + t) (aa + o2)) : BK d aa len m idx (t + 1) (xorNext r) dw := by
  subst e
  refine ⟨by rw [swp_sz, h.sz], by omega, ?_⟩
  rw [bR, h.eq, breakStep]
  rw [ho]; rfl
theorem bk_done {d dk : Array O} {aa b : Nat} {r : UInt64} (hl : b - aa ≥ 8) (h : BK d aa (b - aa) (1 <<< bitsLen (b - aa)) (aa + (b - aa) / 4 * 2 - 1) 3 r dk) : breakPatterns d aa b = dk := by
  have := h.eq
  unfold breakPatterns
  simp only []
  rw [if_pos hl]
  have e : (bR d aa (b - aa) (1 <<< bitsLen (b - aa)) (aa + (b - aa) / 4 * 2 - 1) 3).2 = dk := by rw [this]
  exact e
theorem nxt_ (r : UInt64)  : Fn Tryd.prog 67 [.ptr 0 0] [some (.blk [.int .u64 (((r).toNat : Nat) : Int)])] (Rt (.int .u64 (((Go.Sort.xorNext r).toNat : Nat) : Int)) [some (.blk [.int .u64 (((Go.Sort.xorNext r).toNat : Nat) : Int)])]) :=
 enterM (n := 33) (by kernel_rfl) Tryd.func67 rfl rfl rfl fun G w a h0 A => N hX 6 A rfl rfl fun A => DRAWN hX hmo [] [] A rfl (ok_d (by omega) <| okE_nil) rfl rfl (by kernel_rfl) (effAll_nil _ _) trivial fun A => N hX 2 A rfl rfl fun A => DRAWN hX hmo [] [] A rfl (ok_d (by omega) <| okE_nil) rfl rfl (by kernel_rfl) (effAll_nil _ _) trivial fun A => N hX 2 A rfl rfl fun A => DRAWN hX hmo [] [] A rfl (ok_d (by omega) <| okE_nil) rfl rfl (by kernel_rfl) (effAll_nil _ _) trivial fun A => N hX 10 A rfl rfl fun A => RETN hX A rfl rfl rfl h0 rfl rfl rfl rfl (by rw [u_shl13, u_xor, u_shr7, u_xor, u_shl17, u_xor]; rfl) (by rw [u_shl13, u_xor, u_shr7, u_xor, u_shl17, u_xor]; rfl)
theorem npt {k : Nat} (h : bitsLen k ≤ 20) : IntKind.wrap .u64 (1 * 2 ^ min (((bitsLen k : Nat) : Int)).toNat (IntKind.bits .u64)) = ((1 <<< bitsLen k : Nat) : Int) := by
  rw [Int.toNat_natCast, Nat.min_eq_left (by show bitsLen k ≤ 64; omega), Nat.shiftLeft_eq]
  have h1 : 2 ^ bitsLen k ≤ 2 ^ 20 := Nat.pow_le_pow_right (by omega) h
  have e : (1 : Int) * 2 ^ bitsLen k = ((1 * 2 ^ bitsLen k : Nat) : Int) := by simp
  rw [e, wu64 (by omega)]
theorem len_w (k : Nat) (hk : k ≤ 1000000) {x : Int} (hx : x = (k : Int)) : Fn Tryd.prog 39 [.int .u64 x] [] (Rt (.int .i64 ((Go.Sort.bitsLen k : Nat) : Int)) []) := by subst hx; exact len_ k hk
theorem npow_ (k : Nat) (hk : k ≤ 1000000) : Fn Tryd.prog 66 [.int .i64 (k : Int)] [] (Rt (.int .u64 ((1 <<< Go.Sort.bitsLen k : Nat) : Int)) []) :=
 enterM (n := 7) (by kernel_rfl) Tryd.func66 rfl rfl rfl fun G w a h0 A => N hX 9 A rfl rfl fun A => CALL1 [] (len_w k (by omega) (wu64 (by omega))) A rfl rfl rfl rfl rfl rfl rfl fun A => N hX 5 A rfl (ok_d (by omega) <| okE_nil) fun A => RETN hX A rfl rfl rfl h0 rfl rfl rfl rfl (by have := bl_le (n := k) (by omega); rw [npt (by omega)]; rfl) rfl
theorem mod_pos (k : Nat) : 0 < 1 <<< bitsLen k := by rw [Nat.shiftLeft_eq, Nat.one_mul]; exact Nat.pow_pos (by omega)
theorem mod_le {k : Nat} (h0 : 0 < k) (h : k ≤ 1000000) : 1 <<< bitsLen k ≤ 2 * k := by rw [Nat.shiftLeft_eq, Nat.one_mul]; exact bl_pow h0
theorem brk_ (d : Array O) (nn aa b : Nat) (hn : d.size = nn) (hs : nn ≤ 1000000) (ha : aa + 12 < b) (hb : b ≤ nn) : Fn Tryd.prog 50 [.sl 0 nn 0, .int .i64 (aa : Int), .int .i64 (b : Int), .fn 27 []] [some (.row 26 27 nn 0 (fun zz => oc (d[zz]!)))] (Rt (.tup []) [some (.row 26 27 nn 0 (fun zz => oc ((Go.Sort.breakPatterns d aa b)[zz]!)))]) :=
 enterM (n := 67) (by kernel_rfl) Tryd.func50 rfl rfl rfl fun G w a h0 A => N hX 9 A rfl (ok_d (by omega) <| okE_nil) fun A => have A := A.say 8 (.int .i64 ((b - aa : Nat) : Int)) rfl (by congr 1; omega); N hX 5 A rfl rfl fun A => forkD 17 A rfl
  (fun h1 A => N hX 12 A rfl rfl fun A => CALL1 [] (npow_ (b - aa) (by omega)) A rfl rfl rfl rfl rfl rfl rfl fun A => N hX 15 A rfl (ok_d (by omega) <| ok_d (by have k0 := qdiv (k := 4) (aa := aa) (b := b) (by omega) (by omega); rw [show (b : Int) - (aa : Int) = ((b - aa : Nat) : Int) by omega] at k0; simp only [Int.cast_ofNat_Int] at k0; rw [k0]; omega) <| ok_d (by have k0 := qdiv (k := 4) (aa := aa) (b := b) (by omega) (by omega); rw [show (b : Int) - (aa : Int) = ((b - aa : Nat) : Int) by omega] at k0; simp only [Int.cast_ofNat_Int] at k0; rw [k0]; omega) <| ok_d (by have k0 := qdiv (k := 4) (aa := aa) (b := b) (by omega) (by omega); rw [show (b : Int) - (aa : Int) = ((b - aa : Nat) : Int) by omega] at k0; simp only [Int.cast_ofNat_Int] at k0; rw [k0]; omega) <| okE_nil) fun A => have A := A.say 11 (.int .i64 ((((aa + (b - aa) / 4 * 2 - 1) + 0 : Nat)) : Int)) rfl (by congr 1; have k0 := qdiv (k := 4) (aa := aa) (b := b) (by omega) (by omega); rw [show (b : Int) - (aa : Int) = ((b - aa : Nat) : Int) by omega] at k0; simp only [Int.cast_ofNat_Int] at k0; rw [k0]; omega); have A := A.sayH (H' := [some (.row 26 27 nn 0 (fun zz => oc (d[zz]!))), some (.blk [.int .u64 (((UInt64.ofNat (b - aa)).toNat : Nat) : Int)])]) (by rw [show IntKind.wrap .u64 ((b - aa : Nat) : Int) = (((UInt64.ofNat (b - aa)).toNat : Nat) : Int) by rw [UInt64.toNat_ofNat', Nat.mod_eq_of_lt (by omega), wu64 (by omega)]]); LOOP3 (fun (t : Nat) (r : UInt64) (dk : Array O) => [(0, .sl 0 nn 0), (1, .int .i64 (aa : Int)), (8, .int .i64 ((b - aa : Nat) : Int)), (9, .ptr 1 0), (10, .int .u64 ((1 <<< Go.Sort.bitsLen (b - aa) : Nat) : Int)), (11, .int .i64 (((aa + (b - aa) / 4 * 2 - 1) + t : Nat) : Int))]) (fun (t : Nat) (r : UInt64) (dk : Array O) => [some (.row 26 27 nn 0 (fun zz => oc (dk[zz]!))), some (.blk [.int .u64 (((r).toNat : Nat) : Int)])]) (fun (t : Nat) (r : UInt64) (dk : Array O) => BK d aa (b - aa) (1 <<< Go.Sort.bitsLen (b - aa)) (aa + (b - aa) / 4 * 2 - 1) t r dk) (fun (t : Nat) (r : UInt64) (dk : Array O) => 3 - t) 0 (UInt64.ofNat (b - aa)) d ⟨rfl, by omega, rfl⟩ ((A.cut [0, 1, 8, 9, 10, 11] rfl).trunc 2 rfl rfl rfl (by simp only [List.length_cons, List.length_nil] at h0; omega)) fun t r dk hI {G a w} A => N hX 13 A rfl (ok_d (by have := hI.le; omega) <| ok_d (by have k0 := qdiv (k := 4) (aa := aa) (b := b) (by omega) (by omega); rw [show (b : Int) - (aa : Int) = ((b - aa : Nat) : Int) by omega] at k0; simp only [Int.cast_ofNat_Int] at k0; rw [k0]; have := hI.le; omega) <| ok_d (by have k0 := qdiv (k := 4) (aa := aa) (b := b) (by omega) (by omega); rw [show (b : Int) - (aa : Int) = ((b - aa : Nat) : Int) by omega] at k0; simp only [Int.cast_ofNat_Int] at k0; rw [k0]; have := hI.le; omega) <| ok_d (by have k0 := qdiv (k := 4) (aa := aa) (b := b) (by omega) (by omega); rw [show (b : Int) - (aa : Int) = ((b - aa : Nat) : Int) by omega] at k0; simp only [Int.cast_ofNat_Int] at k0; rw [k0]; have := hI.le; omega) <| okE_nil) fun A => forkD 35 A rfl
    (fun h2 A => N hX 7 A rfl rfl fun A => CALL1 [1] (nxt_ r) A rfl rfl rfl rfl rfl rfl rfl fun A => N hX 9 A rfl rfl fun A => have A := A.say 12 (.int .i64 ((oth (Go.Sort.xorNext r) (1 <<< Go.Sort.bitsLen (b - aa)) : Nat) : Int)) rfl (by congr 1; exact oth_is _ (by have := mod_pos (b - aa); omega) (by have := mod_le (k := (b - aa)) (by omega) (by omega); omega)); N hX 6 A rfl rfl fun A => forkD 45 A rfl
     (fun h3 A => N hX 8 A rfl (ok_d (by have := oth_lt (Go.Sort.xorNext r) (mod_pos (b - aa)); have := mod_le (k := (b - aa)) (by omega) (by omega); have := hI.le; omega) <| okE_nil) fun A => DRAWN hX hmo [] [(17, .tup [], [some (.row 26 27 nn 0 (fun zz => oc ((dk.setIfInBounds ((((aa + (b - aa) / 4 * 2 - 1) + t : Nat) : Int)).toNat (dk[((aa : Int) + (((oth (Go.Sort.xorNext r) (1 <<< Go.Sort.bitsLen (b - aa)) : Nat) : Int) - ((b - aa : Nat) : Int))).toNat]!))[zz]!))), some (.blk [.int .u64 (((Go.Sort.xorNext r).toNat : Nat) : Int)])]), (19, .tup [], [some (.row 26 27 nn 0 (fun zz => oc (((dk.setIfInBounds ((((aa + (b - aa) / 4 * 2 - 1) + t : Nat) : Int)).toNat (dk[((aa : Int) + (((oth (Go.Sort.xorNext r) (1 <<< Go.Sort.bitsLen (b - aa)) : Nat) : Int) - ((b - aa : Nat) : Int))).toNat]!)).setIfInBounds ((aa : Int) + (((oth (Go.Sort.xorNext r) (1 <<< Go.Sort.bitsLen (b - aa)) : Nat) : Int) - ((b - aa : Nat) : Int))).toNat (dk[((((aa + (b - aa) / 4 * 2 - 1) + t : Nat) : Int)).toNat]!))[zz]!))), some (.blk [.int .u64 (((Go.Sort.xorNext r).toNat : Nat) : Int)])])] A rfl (ok_d (by have := oth_lt (Go.Sort.xorNext r) (mod_pos (b - aa)); have := mod_le (k := (b - aa)) (by omega) (by omega); have := hI.le; omega) <| ok_d (by have := oth_lt (Go.Sort.xorNext r) (mod_pos (b - aa)); have := mod_le (k := (b - aa)) (by omega) (by omega); have := hI.le; omega) <| ok_d (by have := oth_lt (Go.Sort.xorNext r) (mod_pos (b - aa)); have := mod_le (k := (b - aa)) (by omega) (by omega); have := hI.le; omega) <| ok_d (by have := oth_lt (Go.Sort.xorNext r) (mod_pos (b - aa)); have := mod_le (k := (b - aa)) (by omega) (by omega); have := hI.le; omega) <| ok_d (by have := oth_lt (Go.Sort.xorNext r) (mod_pos (b - aa)); have := mod_le (k := (b - aa)) (by omega) (by omega); have := hI.le; omega) <| ok_d (by have := hI.le; omega) <| ok_d (by have := hI.le; omega) <| ok_d (by have := hI.le; omega) <| ok_d (by have := hI.le; omega) <| ok_d (by have := oth_lt (Go.Sort.xorNext r) (mod_pos (b - aa)); have := mod_le (k := (b - aa)) (by omega) (by omega); have := hI.le; omega) <| okE_nil) rfl rfl (by kernel_rfl) ⟨strE (i := 0) (e := 26) (s := 27) (m := nn) (c := 0) hX (((((aa + (b - aa) / 4 * 2 - 1) + t : Nat) : Int)).toNat) (fun zz => oc ((dk.setIfInBounds ((((aa + (b - aa) / 4 * 2 - 1) + t : Nat) : Int)).toNat (dk[((aa : Int) + (((oth (Go.Sort.xorNext r) (1 <<< Go.Sort.bitsLen (b - aa)) : Nat) : Int) - ((b - aa : Nat) : Int))).toNat]!))[zz]!)) rfl rfl rfl (by have := hI.le; omega) (fun z hz => by show oc _ = oc _; rw [aset_ne hz]) (by show _ = some (oc _); rw [aset_at (by (try simp only [asz]); rw [hI.sz, hn]; have := hI.le; omega)]; rfl), ⟨strE (i := 0) (e := 26) (s := 27) (m := nn) (c := 0) hX (((aa : Int) + (((oth (Go.Sort.xorNext r) (1 <<< Go.Sort.bitsLen (b - aa)) : Nat) : Int) - ((b - aa : Nat) : Int))).toNat) (fun zz => oc (((dk.setIfInBounds ((((aa + (b - aa) / 4 * 2 - 1) + t : Nat) : Int)).toNat (dk[((aa : Int) + (((oth (Go.Sort.xorNext r) (1 <<< Go.Sort.bitsLen (b - aa)) : Nat) : Int) - ((b - aa : Nat) : Int))).toNat]!)).setIfInBounds ((aa : Int) + (((oth (Go.Sort.xorNext r) (1 <<< Go.Sort.bitsLen (b - aa)) : Nat) : Int) - ((b - aa : Nat) : Int))).toNat (dk[((((aa + (b - aa) / 4 * 2 - 1) + t : Nat) : Int)).toNat]!))[zz]!)) rfl rfl rfl (by have := oth_lt (Go.Sort.xorNext r) (mod_pos (b - aa)); have := mod_le (k := (b - aa)) (by omega) (by omega); have := hI.le; omega) (fun z hz => by show oc _ = oc _; rw [aset_ne hz]) (by show _ = some (oc _); rw [aset_at (by (try simp only [asz]); rw [hI.sz, hn]; have := oth_lt (Go.Sort.xorNext r) (mod_pos (b - aa)); have := mod_le (k := (b - aa)) (by omega) (by omega); have := hI.le; omega)]; rfl), trivial⟩⟩ trivial fun A => N hX 7 A rfl (ok_d (by have := hI.le; omega) <| okE_nil) fun A => ⟨t + 1, Go.Sort.xorNext r, (dk.setIfInBounds ((((aa + (b - aa) / 4 * 2 - 1) + t : Nat) : Int)).toNat (dk[((aa : Int) + (((oth (Go.Sort.xorNext r) (1 <<< Go.Sort.bitsLen (b - aa)) : Nat) : Int) - ((b - aa : Nat) : Int))).toNat]!)).setIfInBounds ((aa : Int) + (((oth (Go.Sort.xorNext r) (1 <<< Go.Sort.bitsLen (b - aa)) : Nat) : Int) - ((b - aa : Nat) : Int))).toNat (dk[((((aa + (b - aa) / 4 * 2 - 1) + t : Nat) : Int)).toNat]!), _, (by have k0 := qdiv (k := 4) (aa := aa) (b := b) (by omega) (by omega); rw [show (b : Int) - (aa : Int) = ((b - aa : Nat) : Int) by omega] at k0; simp only [Int.cast_ofNat_Int] at k0; rw [k0] at h2; omega), (hI.step (o2 := (oth (Go.Sort.xorNext r) (1 <<< Go.Sort.bitsLen (b - aa)) - (b - aa))) (by have k0 := qdiv (k := 4) (aa := aa) (b := b) (by omega) (by omega); rw [show (b : Int) - (aa : Int) = ((b - aa : Nat) : Int) by omega] at k0; simp only [Int.cast_ofNat_Int] at k0; rw [k0] at h2; omega) (by rw [if_pos (by omega)]) (swp_is (by rfl) (by omega))), ((A.cut [0, 1, 8, 9, 10, 11] rfl).trunc 2 rfl rfl rfl (by simp only [List.length_cons, List.length_nil] at h0; omega)).sayT (by rw [show ((((aa + (b - aa) / 4 * 2 - 1) + (t + 1) : Nat)) : Int) = ((((aa + (b - aa) / 4 * 2 - 1) + t : Nat)) : Int) + 1 by omega] <;> rfl)⟩)
     (fun h3 A => N hX 3 A rfl rfl fun A => DRAWN hX hmo [] [(17, .tup [], [some (.row 26 27 nn 0 (fun zz => oc ((dk.setIfInBounds ((((aa + (b - aa) / 4 * 2 - 1) + t : Nat) : Int)).toNat (dk[((aa : Int) + ((oth (Go.Sort.xorNext r) (1 <<< Go.Sort.bitsLen (b - aa)) : Nat) : Int)).toNat]!))[zz]!))), some (.blk [.int .u64 (((Go.Sort.xorNext r).toNat : Nat) : Int)])]), (19, .tup [], [some (.row 26 27 nn 0 (fun zz => oc (((dk.setIfInBounds ((((aa + (b - aa) / 4 * 2 - 1) + t : Nat) : Int)).toNat (dk[((aa : Int) + ((oth (Go.Sort.xorNext r) (1 <<< Go.Sort.bitsLen (b - aa)) : Nat) : Int)).toNat]!)).setIfInBounds ((aa : Int) + ((oth (Go.Sort.xorNext r) (1 <<< Go.Sort.bitsLen (b - aa)) : Nat) : Int)).toNat (dk[((((aa + (b - aa) / 4 * 2 - 1) + t : Nat) : Int)).toNat]!))[zz]!))), some (.blk [.int .u64 (((Go.Sort.xorNext r).toNat : Nat) : Int)])])] A rfl (ok_d (by have := oth_lt (Go.Sort.xorNext r) (mod_pos (b - aa)); have := mod_le (k := (b - aa)) (by omega) (by omega); have := hI.le; omega) <| ok_d (by have := oth_lt (Go.Sort.xorNext r) (mod_pos (b - aa)); have := mod_le (k := (b - aa)) (by omega) (by omega); have := hI.le; omega) <| ok_d (by have := oth_lt (Go.Sort.xorNext r) (mod_pos (b - aa)); have := mod_le (k := (b - aa)) (by omega) (by omega); have := hI.le; omega) <| ok_d (by have := oth_lt (Go.Sort.xorNext r) (mod_pos (b - aa)); have := mod_le (k := (b - aa)) (by omega) (by omega); have := hI.le; omega) <| ok_d (by have := oth_lt (Go.Sort.xorNext r) (mod_pos (b - aa)); have := mod_le (k := (b - aa)) (by omega) (by omega); have := hI.le; omega) <| ok_d (by have := hI.le; omega) <| ok_d (by have := hI.le; omega) <| ok_d (by have := hI.le; omega) <| ok_d (by have := hI.le; omega) <| ok_d (by have := oth_lt (Go.Sort.xorNext r) (mod_pos (b - aa)); have := mod_le (k := (b - aa)) (by omega) (by omega); have := hI.le; omega) <| okE_nil) rfl rfl (by kernel_rfl) ⟨strE (i := 0) (e := 26) (s := 27) (m := nn) (c := 0) hX (((((aa + (b - aa) / 4 * 2 - 1) + t : Nat) : Int)).toNat) (fun zz => oc ((dk.setIfInBounds ((((aa + (b - aa) / 4 * 2 - 1) + t : Nat) : Int)).toNat (dk[((aa : Int) + ((oth (Go.Sort.xorNext r) (1 <<< Go.Sort.bitsLen (b - aa)) : Nat) : Int)).toNat]!))[zz]!)) rfl rfl rfl (by have := hI.le; omega) (fun z hz => by show oc _ = oc _; rw [aset_ne hz]) (by show _ = some (oc _); rw [aset_at (by (try simp only [asz]); rw [hI.sz, hn]; have := hI.le; omega)]; rfl), ⟨strE (i := 0) (e := 26) (s := 27) (m := nn) (c := 0) hX (((aa : Int) + ((oth (Go.Sort.xorNext r) (1 <<< Go.Sort.bitsLen (b - aa)) : Nat) : Int)).toNat) (fun zz => oc (((dk.setIfInBounds ((((aa + (b - aa) / 4 * 2 - 1) + t : Nat) : Int)).toNat (dk[((aa : Int) + ((oth (Go.Sort.xorNext r) (1 <<< Go.Sort.bitsLen (b - aa)) : Nat) : Int)).toNat]!)).setIfInBounds ((aa : Int) + ((oth (Go.Sort.xorNext r) (1 <<< Go.Sort.bitsLen (b - aa)) : Nat) : Int)).toNat (dk[((((aa + (b - aa) / 4 * 2 - 1) + t : Nat) : Int)).toNat]!))[zz]!)) rfl rfl rfl (by have := oth_lt (Go.Sort.xorNext r) (mod_pos (b - aa)); have := mod_le (k := (b - aa)) (by omega) (by omega); have := hI.le; omega) (fun z hz => by show oc _ = oc _; rw [aset_ne hz]) (by show _ = some (oc _); rw [aset_at (by (try simp only [asz]); rw [hI.sz, hn]; have := oth_lt (Go.Sort.xorNext r) (mod_pos (b - aa)); have := mod_le (k := (b - aa)) (by omega) (by omega); have := hI.le; omega)]; rfl), trivial⟩⟩ trivial fun A => N hX 7 A rfl (ok_d (by have := hI.le; omega) <| okE_nil) fun A => ⟨t + 1, Go.Sort.xorNext r, (dk.setIfInBounds ((((aa + (b - aa) / 4 * 2 - 1) + t : Nat) : Int)).toNat (dk[((aa : Int) + ((oth (Go.Sort.xorNext r) (1 <<< Go.Sort.bitsLen (b - aa)) : Nat) : Int)).toNat]!)).setIfInBounds ((aa : Int) + ((oth (Go.Sort.xorNext r) (1 <<< Go.Sort.bitsLen (b - aa)) : Nat) : Int)).toNat (dk[((((aa + (b - aa) / 4 * 2 - 1) + t : Nat) : Int)).toNat]!), _, (by have k0 := qdiv (k := 4) (aa := aa) (b := b) (by omega) (by omega); rw [show (b : Int) - (aa : Int) = ((b - aa : Nat) : Int) by omega] at k0; simp only [Int.cast_ofNat_Int] at k0; rw [k0] at h2; omega), (hI.step (o2 := (oth (Go.Sort.xorNext r) (1 <<< Go.Sort.bitsLen (b - aa)))) (by have k0 := qdiv (k := 4) (aa := aa) (b := b) (by omega) (by omega); rw [show (b : Int) - (aa : Int) = ((b - aa : Nat) : Int) by omega] at k0; simp only [Int.cast_ofNat_Int] at k0; rw [k0] at h2; omega) (by rw [if_neg (by omega)]) (swp_is (by rfl) (by omega))), ((A.cut [0, 1, 8, 9, 10, 11] rfl).trunc 2 rfl rfl rfl (by simp only [List.length_cons, List.length_nil] at h0; omega)).sayT (by rw [show ((((aa + (b - aa) / 4 * 2 - 1) + (t + 1) : Nat)) : Int) = ((((aa + (b - aa) / 4 * 2 - 1) + t : Nat)) : Int) + 1 by omega] <;> rfl)⟩))
    (fun h2 A => N hX 2 A rfl rfl fun A => ENDN (RETN hX A rfl rfl rfl h0 rfl rfl rfl rfl rfl (by have e : t = 3 := (by have := hI.le; have k0 := qdiv (k := 4) (aa := aa) (b := b) (by omega) (by omega); rw [show (b : Int) - (aa : Int) = ((b - aa : Nat) : Int) by omega] at k0; simp only [Int.cast_ofNat_Int] at k0; rw [k0] at h2; omega); subst e; rw [bk_done (by omega) hI]; rfl))))
  (fun h1 A => N hX 2 A rfl rfl fun A => ENDN (RETN hX A rfl rfl rfl h0 rfl rfl rfl rfl rfl (absurd h1 (by omega))))
theorem brk_i {xaa xb : Int} (d : Array O) (nn aa b : Nat) (eaa : xaa = (aa : Int)) (eb : xb = (b : Int)) (hn : d.size = nn) (hs : nn ≤ 1000000) (ha : aa + 12 < b) (hb : b ≤ nn) : Fn Tryd.prog 50 [.sl 0 nn 0, .int .i64 xaa, .int .i64 xb, .fn 27 []] [some (.row 26 27 nn 0 (fun zz => oc (d[zz]!)))] (Rt (.tup []) [some (.row 26 27 nn 0 (fun zz => oc ((Go.Sort.breakPatterns d aa b)[zz]!)))]) := by
  subst eaa; subst eb; exact brk_ d nn aa b hn hs ha hb
theorem lx_irr (p : O) : ∀ (f i : Nat), lx p p f i = false
  | 0, _ => rfl
  | f + 1, i => by unfold lx; rw [if_pos rfl]; exact lx_irr p f (i + 1)
theorem lx_tr (p q r : O) : ∀ (f i : Nat), lx p q f i = true → lx q r f i = true → lx p r f i = true
  | 0, _, h, _ => by cases h
  | f + 1, i, h1, h2 => by
    unfold lx at *
    split at h1
    · next e1 =>
      split at h2
      · next e2 => rw [if_pos (e1.trans e2)]; exact lx_tr p q r f (i + 1) h1 h2
      · next e2 => rw [if_neg (fun e => e2 (e1 ▸ e))]; have := of_decide_eq_true h2; exact decide_eq_true (by omega)
    · next e1 =>
      have h1 := of_decide_eq_true h1
      split at h2
      · next e2 => rw [if_neg (fun e => e1 (e2 ▸ e))]; exact decide_eq_true (by omega)
      · next e2 => have h2 := of_decide_eq_true h2; rw [if_neg (by omega)]; exact decide_eq_true (by omega)
theorem lx_ntr (p q r : O) : ∀ (f i : Nat), lx p q f i = false → lx q r f i = false → lx p r f i = false
  | 0, _, _, _ => rfl
  | f + 1, i, h1, h2 => by
    unfold lx at *
    split at h1
    · next e1 =>
      split at h2
      · next e2 => rw [if_pos (e1.trans e2)]; exact lx_ntr p q r f (i + 1) h1 h2
      · next e2 => rw [if_neg (fun e => e2 (e1 ▸ e))]; have := of_decide_eq_false h2; exact decide_eq_false (by omega)
    · next e1 =>
      have h1 := of_decide_eq_false h1
      split at h2
      · next e2 => rw [if_neg (fun e => e1 (e2 ▸ e))]; exact decide_eq_false (by omega)
      · next e2 => have h2 := of_decide_eq_false h2; rw [if_neg (by omega)]; exact decide_eq_false (by omega)
theorem swoO : SWO lessO := ⟨fun x => lx_irr x 27 0, fun x y z => lx_tr x y z 27 0, fun x y z => lx_ntr x y z 27 0⟩
theorem ssz (lt : O → O → Bool) : ∀ (j : Nat) (d : Array O), (shiftDown lt j d).size = d.size
  | 0, d => rfl
  | j + 1, d => by unfold shiftDown; split <;> first | rfl | rw [ssz lt j, swp_sz]
theorem usz (lt : O → O → Bool) (b : Nat) : ∀ (n j : Nat) (d : Array O), b - j = n → (shiftUp lt b j d).size = d.size
  | 0, j, d, h => by unfold shiftUp; rw [if_neg (by omega)]
  | n + 1, j, d, h => by
    unfold shiftUp
    rw [if_pos (by omega)]
    split
    · rfl
    · rw [usz lt b n _ _ (by omega), swp_sz]
theorem pisz (aa b : Nat) : ∀ (s i : Nat) (d : Array O), (partialIns lessO aa b s i d).1.size = d.size
  | 0, i, d => rfl
  | s + 1, i, d => by
    rw [partialIns_succ]
    split
    · rfl
    · split
      · rfl
      · rw [pisz aa b s, fixUp]
        have e : ∀ k (d : Array O), (fixDown lessO aa k d).size = d.size := fun k d => by unfold fixDown; split <;> first | rw [ssz] | rfl
        split
        · rw [usz _ _ _ _ _ rfl, e, swp_sz]
        · rw [e, swp_sz]
theorem pins_sz (d : Array O) (aa b : Nat) : (partialInsertionSort lessO d aa b).1.size = d.size := pisz aa b 5 (aa + 1) d
theorem part_rng {d : Array O} {aa b pv : Nat} (h1 : aa ≤ pv) (h2 : pv < b) (h3 : b ≤ d.size) : aa ≤ (partition lessO d aa b pv).1 ∧ (partition lessO d aa b pv).1 < b ∧ (partition lessO d aa b pv).2.2.size = d.size := by
  obtain ⟨k1, k2, k3, _⟩ := partition_holds lessO swoO d aa b pv h1 h2 h3
  exact ⟨k1, k2, k3.1⟩
theorem parte_rng {d : Array O} {aa b pv : Nat} (h1 : aa ≤ pv) (h2 : pv < b) (h3 : b ≤ d.size) : aa < (partitionEqual lessO d aa b pv).1 ∧ (partitionEqual lessO d aa b pv).1 ≤ b ∧ (partitionEqual lessO d aa b pv).2.size = d.size := by
  obtain ⟨k1, k2, k3, _⟩ := partEqLoop_spec lessO aa b _ (aa + 1) (b - 1) (swp d aa pv) (Nat.le_refl _) (Nat.lt_succ_self aa) (by omega) (by omega) (by rw [swp_sz]; exact h3) (fun t h1 h2 => by omega) (fun t h1 h2 => by omega)
  exact ⟨k1, k2, by have := k3.1; rw [swp_sz] at this; exact this⟩
structure PS where (a b lim : Nat) (wb wp : Bool) (d : Array O)
def PS.out (z : PS) : Array O := pdq lessO z.d z.a z.b z.lim z.wb z.wp
def PS.d1 (z : PS) : Array O := if !z.wb then breakPatterns z.d z.a z.b else z.d
def PS.l1 (z : PS) : Nat := if !z.wb then z.lim - 1 else z.lim
def pvD2 (z : PS) (d1 : Array O) : Array O := if (choosePivot lessO d1 z.a z.b).2 = .decreasing then reverseRange d1 z.a z.b else d1
def pvP (z : PS) (d1 : Array O) : Nat := if (choosePivot lessO d1 z.a z.b).2 = .decreasing then (z.b - 1) - ((choosePivot lessO d1 z.a z.b).1 - z.a) else (choosePivot lessO d1 z.a z.b).1
def pvH (z : PS) (d1 : Array O) : Hint := if (choosePivot lessO d1 z.a z.b).2 = .decreasing then Hint.increasing else (choosePivot lessO d1 z.a z.b).2
def pvI (z : PS) (d2 : Array O) (h : Hint) : Array O × Bool := if z.wb && z.wp && h = .increasing then partialInsertionSort lessO d2 z.a z.b else (d2, false)
theorem d1_sz (z : PS) (h1 : z.a ≤ z.b) (h2 : z.b ≤ z.d.size) : z.d1.size = z.d.size := by
  unfold PS.d1; split
  · exact (breakPatterns_holds z.d z.a z.b h1 h2).1
  · rfl
theorem d2_sz (z : PS) (d1 : Array O) (h1 : z.a ≤ z.b) (h2 : z.b ≤ d1.size) : (pvD2 z d1).size = d1.size := by
  unfold pvD2; split
  · exact (reverseRange_holds d1 z.a z.b h1 h2).1
  · rfl
theorem pi_sz (z : PS) (d2 : Array O) (h : Hint) : (pvI z d2 h).1.size = d2.size := by
  unfold pvI; split
  · exact pins_sz _ _ _
  · rfl
theorem pv_rng (z : PS) (d1 : Array O) (h : z.a < z.b) : z.a ≤ pvP z d1 ∧ pvP z d1 < z.b := by
  have := choosePivot_holds lessO d1 z.a z.b h
  unfold pvP; split <;> omega
def PS.d3 (z : PS) : Array O × Bool := pvI z (pvD2 z z.d1) (pvH z z.d1)
theorem pq_ins (z : PS) (h : z.b - z.a ≤ 12) : z.out = insertionSort lessO z.d z.a z.b := by unfold PS.out; rw [pdq, if_pos h]
theorem pq_heap (z : PS) (h : ¬ z.b - z.a ≤ 12) (h0 : z.lim = 0) : z.out = heapSort lessO z.d z.a z.b := by unfold PS.out; rw [pdq, if_neg h, if_pos h0]
theorem pq_unf (z : PS) (h : ¬ z.b - z.a ≤ 12) (h0 : z.lim ≠ 0) : z.out = if z.d3.2 then z.d3.1 else if z.a > 0 && !lessO (z.d3.1[z.a - 1]!) (z.d3.1[pvP z z.d1]!) then
    (match partitionEqual lessO z.d3.1 z.a z.b (pvP z z.d1) with
    | (mid, d4) => if _h : z.a < mid ∧ mid ≤ z.b then pdq lessO d4 mid z.b z.l1 z.wb z.wp else d4)
  else
    (match partition lessO z.d3.1 z.a z.b (pvP z z.d1) with
    | (mid, ap, d4) =>
      if _h : z.a ≤ mid ∧ mid < z.b then
        if mid - z.a < z.b - mid then
          pdq lessO (pdq lessO d4 z.a mid z.l1 true true) (mid + 1) z.b z.l1 (decide (mid - z.a ≥ (z.b - z.a) / 8)) ap
        else
          pdq lessO (pdq lessO d4 (mid + 1) z.b z.l1 true true) z.a mid z.l1 (decide (z.b - mid ≥ (z.b - z.a) / 8)) ap
      else d4) := by
  unfold PS.out
  rw [pdq, if_neg h, if_neg h0]; rfl
section
variable {z : PS} (h : ¬ z.b - z.a ≤ 12) (h0 : z.lim ≠ 0)
include h h0
theorem pq_pi (e : z.d3.2 = true) : z.out = z.d3.1 := by rw [pq_unf z h h0, if_pos e]
theorem d3_sz (hs : z.b ≤ z.d.size) : z.d3.1.size = z.d.size := by
  have e1 := d1_sz z (by omega) hs
  unfold PS.d3
  rw [pi_sz, d2_sz z _ (by omega) (by omega), e1]
theorem pq_eq (hs : z.b ≤ z.d.size) (e : z.d3.2 = false) (c : (decide (z.a > 0) && !lessO (z.d3.1[z.a - 1]!) (z.d3.1[pvP z z.d1]!)) = true) : z.out = PS.out ⟨(partitionEqual lessO z.d3.1 z.a z.b (pvP z z.d1)).1, z.b, z.l1, z.wb, z.wp, (partitionEqual lessO z.d3.1 z.a z.b (pvP z z.d1)).2⟩ := by
  have h3 := d3_sz h h0 hs
  have hp := pv_rng z z.d1 (by omega)
  have hr := parte_rng (d := z.d3.1) hp.1 hp.2 (by omega)
  rw [pq_unf z h h0, if_neg (by rw [e]; simp), if_pos c]
  show (if _h : z.a < (partitionEqual lessO z.d3.1 z.a z.b (pvP z z.d1)).1 ∧ (partitionEqual lessO z.d3.1 z.a z.b (pvP z z.d1)).1 ≤ z.b then _ else _) = _
  rw [dif_pos ⟨hr.1, hr.2.1⟩]; rfl
theorem pq_lt (hs : z.b ≤ z.d.size) (e : z.d3.2 = false) (c : (decide (z.a > 0) && !lessO (z.d3.1[z.a - 1]!) (z.d3.1[pvP z z.d1]!)) = false) (hl : (partition lessO z.d3.1 z.a z.b (pvP z z.d1)).1 - z.a < z.b - (partition lessO z.d3.1 z.a z.b (pvP z z.d1)).1) : z.out = PS.out ⟨(partition lessO z.d3.1 z.a z.b (pvP z z.d1)).1 + 1, z.b, z.l1, decide ((partition lessO z.d3.1 z.a z.b (pvP z z.d1)).1 - z.a ≥ (z.b - z.a) / 8), (partition lessO z.d3.1 z.a z.b (pvP z z.d1)).2.1, pdq lessO (partition lessO z.d3.1 z.a z.b (pvP z z.d1)).2.2 z.a (partition lessO z.d3.1 z.a z.b (pvP z z.d1)).1 z.l1 true true⟩ := by
  have h3 := d3_sz h h0 hs
  have hp := pv_rng z z.d1 (by omega)
  have hr := part_rng (d := z.d3.1) hp.1 hp.2 (by omega)
  rw [pq_unf z h h0, if_neg (by rw [e]; simp), if_neg (by rw [c]; simp)]
  rcases hq : partition lessO z.d3.1 z.a z.b (pvP z z.d1) with ⟨mid, ap, d4⟩
  rw [hq] at hr hl
  simp only [] at hr hl ⊢
  rw [dif_pos ⟨hr.1, hr.2.1⟩, if_pos hl]; rfl
theorem pq_ge (hs : z.b ≤ z.d.size) (e : z.d3.2 = false) (c : (decide (z.a > 0) && !lessO (z.d3.1[z.a - 1]!) (z.d3.1[pvP z z.d1]!)) = false) (hl : ¬ (partition lessO z.d3.1 z.a z.b (pvP z z.d1)).1 - z.a < z.b - (partition lessO z.d3.1 z.a z.b (pvP z z.d1)).1) : z.out = PS.out ⟨z.a, (partition lessO z.d3.1 z.a z.b (pvP z z.d1)).1, z.l1, decide (z.b - (partition lessO z.d3.1 z.a z.b (pvP z z.d1)).1 ≥ (z.b - z.a) / 8), (partition lessO z.d3.1 z.a z.b (pvP z z.d1)).2.1, pdq lessO (partition lessO z.d3.1 z.a z.b (pvP z z.d1)).2.2 ((partition lessO z.d3.1 z.a z.b (pvP z z.d1)).1 + 1) z.b z.l1 true true⟩ := by
  have h3 := d3_sz h h0 hs
  have hp := pv_rng z z.d1 (by omega)
  have hr := part_rng (d := z.d3.1) hp.1 hp.2 (by omega)
  rw [pq_unf z h h0, if_neg (by rw [e]; simp), if_neg (by rw [c]; simp)]
  rcases hq : partition lessO z.d3.1 z.a z.b (pvP z z.d1) with ⟨mid, ap, d4⟩
  rw [hq] at hr hl
  simp only [] at hr hl ⊢
  rw [dif_pos ⟨hr.1, hr.2.1⟩, if_neg hl]; rfl
end
theorem pdq_sz : ∀ (n : Nat) (z : PS), z.b - z.a ≤ n → z.a ≤ z.b → z.b ≤ z.d.size → z.out.size = z.d.size
  | n, z, hn, hab, hs => by
    by_cases h : z.b - z.a ≤ 12
    · rw [pq_ins z h]; exact (insertionSort_holds swoO z.d z.a z.b hab hs).1.1
    by_cases h0 : z.lim = 0
    · rw [pq_heap z h h0]; exact (heapSort_holds swoO z.d z.a z.b hab hs).1.1
    cases n with
    | zero => omega
    | succ n =>
    have h3 := d3_sz h h0 hs
    cases e : z.d3.2 with
    | true => rw [pq_pi h h0 e, h3]
    | false =>
    have hp := pv_rng z z.d1 (by omega)
    cases c : (decide (z.a > 0) && !lessO (z.d3.1[z.a - 1]!) (z.d3.1[pvP z z.d1]!)) with
    | true =>
      have hr := parte_rng (d := z.d3.1) hp.1 hp.2 (by omega)
      rw [pq_eq h h0 hs e c, pdq_sz n _ (by simp only []; omega) (by simp only []; omega) (by simp only []; omega)]
      simp only []; omega
    | false =>
      have hr := part_rng (d := z.d3.1) hp.1 hp.2 (by omega)
      by_cases hl : (partition lessO z.d3.1 z.a z.b (pvP z z.d1)).1 - z.a < z.b - (partition lessO z.d3.1 z.a z.b (pvP z z.d1)).1
      · have k := pdq_sz n ⟨z.a, (partition lessO z.d3.1 z.a z.b (pvP z z.d1)).1, z.l1, true, true, (partition lessO z.d3.1 z.a z.b (pvP z z.d1)).2.2⟩ (by simp only []; omega) (by simp only []; omega) (by simp only []; omega)
        unfold PS.out at k
        simp only [] at k
        rw [pq_lt h h0 hs e c hl, pdq_sz n _ (by simp only []; omega) (by simp only []; omega) (by simp only [k]; omega)]
        simp only [k]; omega
      · have k := pdq_sz n ⟨(partition lessO z.d3.1 z.a z.b (pvP z z.d1)).1 + 1, z.b, z.l1, true, true, (partition lessO z.d3.1 z.a z.b (pvP z z.d1)).2.2⟩ (by simp only []; omega) (by simp only []; omega) (by simp only []; omega)
        unfold PS.out at k
        simp only [] at k
        rw [pq_ge h h0 hs e c hl, pdq_sz n _ (by simp only []; omega) (by simp only []; omega) (by simp only [k]; omega)]
        simp only [k]; omega
theorem hint_dec {h : Hint} : (hintI h = 2) ↔ h = .decreasing := by cases h <;> decide
theorem hint_inc {h : Hint} : (hintI h == 1) = decide (h = .increasing) := by cases h <;> decide
theorem Sy.tell {P : Program} {n : Nat} {T : List (Nat × SV)} {H : Hp} {ks : List Nat} {G0 : Gr} {w0 : World} {G : Gr} {a : Act} {w : World} (A : Sy n T H ks G0 w0 G a w) (t : Nat) (y : SV) {x : SV} (h : look T t = some x) (e : nb x = nb y) : Sy n ((t, y) :: T) H ks G0 w0 G a w :=
  ⟨A.size, A.defers, fun s v hv => by
    unfold look at hv
    cases hb : Nat.beq t s with
    | true => rw [hb] at hv; cases hv; have := Nat.eq_of_beq_eq_true hb; subst this; rw [← den_nb, ← e, den_nb]; exact A.get t x h
    | false => rw [hb] at hv; exact A.get s v hv, A.mem, A.pre, A.own, A.mix⟩
structure PQ (d : Array O) (nn aa b lim : Nat) (z : PS) : Prop where
  sz : z.d.size = nn
  ab : z.a ≤ z.b
  bn : z.b ≤ nn
  ll : z.lim ≤ 100
  dl : z.b - z.a ≤ b - aa
  eq : z.out = pdq lessO d aa b lim true true
structure K1 (nn : Nat) (z : PS) (d1 : Array O) (l1 : Nat) : Prop where
  e1 : d1 = z.d1
  e2 : l1 = z.l1
  sz : d1.size = nn
  ll : l1 ≤ 100
structure K2 (nn : Nat) (z : PS) (d1 d2 : Array O) (pv : Nat) (hh : Int) : Prop where
  e1 : d2 = pvD2 z d1
  e2 : pv = pvP z d1
  e3 : hh = hintI (pvH z d1)
  sz : d2.size = nn
  lo : z.a ≤ pv
  hi : pv < z.b
structure K3 (nn : Nat) (z : PS) (d1 d2 d3 : Array O) : Prop where
  e : pvI z d2 (pvH z d1) = (d3, false)
  sz : d3.size = nn
section
variable {d d1 d2 d3 : Array O} {nn aa b lim l1 pv : Nat} {hh : Int} {z : PS}
theorem PQ.ins (hI : PQ d nn aa b lim z) (h : ((z.b - z.a : Nat) : Int) ≤ 12) : pdq lessO d aa b lim true true = insertionSort lessO z.d z.a z.b := by rw [← hI.eq, pq_ins z (by omega)]
theorem PQ.heap (hI : PQ d nn aa b lim z) (h : ¬ ((z.b - z.a : Nat) : Int) ≤ 12) (h0 : (z.lim : Int) = 0) : pdq lessO d aa b lim true true = heapSort lessO z.d z.a z.b := by rw [← hI.eq, pq_heap z (by omega) (by omega)]
theorem K1.t (hI : PQ d nn aa b lim z) (h : (!z.wb) = true) : K1 nn z (breakPatterns z.d z.a z.b) (z.lim - 1) := by
  have e : z.d1 = breakPatterns z.d z.a z.b := by unfold PS.d1; rw [if_pos h]
  have := hI.ll; have := hI.bn; have := hI.sz
  exact ⟨e.symm, by unfold PS.l1; rw [if_pos h], by rw [← e, d1_sz z hI.ab (by omega), hI.sz], by omega⟩
theorem K1.f (hI : PQ d nn aa b lim z) (h : (!z.wb) = false) : K1 nn z z.d z.lim := by
  have e : z.d1 = z.d := by unfold PS.d1; rw [if_neg (by rw [h]; simp)]
  exact ⟨e.symm, by unfold PS.l1; rw [if_neg (by rw [h]; simp)], hI.sz, hI.ll⟩
theorem K2.t (hI : PQ d nn aa b lim z) (h1 : ¬ ((z.b - z.a : Nat) : Int) ≤ 12) (k : K1 nn z d1 l1) (h : hintI (choosePivot lessO d1 z.a z.b).2 = 2) : K2 nn z d1 (reverseRange d1 z.a z.b) ((z.b - 1) - ((choosePivot lessO d1 z.a z.b).1 - z.a)) 1 := by
  have h' := hint_dec.1 h
  have e1 : pvD2 z d1 = reverseRange d1 z.a z.b := by unfold pvD2; rw [if_pos h']
  have e2 : pvP z d1 = (z.b - 1) - ((choosePivot lessO d1 z.a z.b).1 - z.a) := by unfold pvP; rw [if_pos h']
  have hp := pv_rng z d1 (by omega)
  have hs := d2_sz z d1 hI.ab (by rw [k.sz]; exact hI.bn)
  rw [e1] at hs
  rw [e2] at hp
  exact ⟨e1.symm, e2.symm, by unfold pvH; rw [if_pos h']; rfl, by rw [hs, k.sz], hp.1, hp.2⟩
theorem K2.f (hI : PQ d nn aa b lim z) (h1 : ¬ ((z.b - z.a : Nat) : Int) ≤ 12) (k : K1 nn z d1 l1) (h : hintI (choosePivot lessO d1 z.a z.b).2 ≠ 2) : K2 nn z d1 d1 (choosePivot lessO d1 z.a z.b).1 (hintI (choosePivot lessO d1 z.a z.b).2) := by
  have h' : ¬ (choosePivot lessO d1 z.a z.b).2 = .decreasing := fun e => h (hint_dec.2 e)
  have e1 : pvD2 z d1 = d1 := by unfold pvD2; rw [if_neg h']
  have e2 : pvP z d1 = (choosePivot lessO d1 z.a z.b).1 := by unfold pvP; rw [if_neg h']
  have hp := pv_rng z d1 (by omega)
  rw [e2] at hp
  exact ⟨e1.symm, e2.symm, by unfold pvH; rw [if_neg h'], k.sz, hp.1, hp.2⟩
theorem K3.c (k2 : K2 nn z d1 d2 pv hh) : ((z.wb && z.wp) && (hh == 1)) = (z.wb && z.wp && decide (pvH z d1 = .increasing)) := by rw [k2.e3, hint_inc]
theorem K3.t (k2 : K2 nn z d1 d2 pv hh) (h : ((z.wb && z.wp) && (hh == 1)) = true) (h2 : (partialInsertionSort lessO d2 z.a z.b).2 = false) : K3 nn z d1 d2 (partialInsertionSort lessO d2 z.a z.b).1 := by
  rw [K3.c k2] at h
  refine ⟨?_, by rw [pins_sz, k2.sz]⟩
  unfold pvI; rw [if_pos h, ← h2]
theorem K3.f (k2 : K2 nn z d1 d2 pv hh) (h : ((z.wb && z.wp) && (hh == 1)) = false) : K3 nn z d1 d2 d2 := by
  rw [K3.c k2] at h
  refine ⟨?_, k2.sz⟩
  unfold pvI; rw [if_neg (by rw [h]; simp)]
theorem PQ.pi (hI : PQ d nn aa b lim z) (h1 : ¬ ((z.b - z.a : Nat) : Int) ≤ 12) (h0 : (z.lim : Int) ≠ 0) (k1 : K1 nn z d1 l1) (k2 : K2 nn z d1 d2 pv hh) (h : ((z.wb && z.wp) && (hh == 1)) = true) (h2 : (partialInsertionSort lessO d2 z.a z.b).2 = true) : pdq lessO d aa b lim true true = (partialInsertionSort lessO d2 z.a z.b).1 := by
  rw [K3.c k2] at h
  have e : z.d3 = partialInsertionSort lessO d2 z.a z.b := by
    unfold PS.d3
    rw [← k1.e1, ← k2.e1]; unfold pvI; rw [if_pos h]
  rw [← hI.eq, pq_pi (by omega) (by omega) (by rw [e]; exact h2), e]
theorem PQ.dd (k1 : K1 nn z d1 l1) (k2 : K2 nn z d1 d2 pv hh) (k3 : K3 nn z d1 d2 d3) : z.d3 = (d3, false) := by
  unfold PS.d3; rw [← k1.e1, ← k2.e1, k3.e]
theorem PQ.prt (hI : PQ d nn aa b lim z) (k2 : K2 nn z d1 d2 pv hh) (k3 : K3 nn z d1 d2 d3) : z.a ≤ (partition lessO d3 z.a z.b pv).1 ∧ (partition lessO d3 z.a z.b pv).1 < z.b ∧ (partition lessO d3 z.a z.b pv).2.2.size = nn := by
  have := part_rng (d := d3) (aa := z.a) (b := z.b) (pv := pv) k2.lo k2.hi (by rw [k3.sz]; exact hI.bn)
  rw [k3.sz] at this; exact this
theorem PQ.cond (k3 : K3 nn z d1 d2 d3) (k2 : K2 nn z d1 d2 pv hh) (e3 : z.d3 = (d3, false)) (k1 : K1 nn z d1 l1) {c : Bool} (h : (decide ((z.a : Int) > 0) && !(decide (cmpO (d3[((z.a : Int) - 1).toNat]!) (d3[((pv : Int)).toNat]!) < 0))) = c) : (decide (z.a > 0) && !lessO (z.d3.1[z.a - 1]!) (z.d3.1[pvP z z.d1]!)) = c := by
  rw [e3, ← k1.e1, ← k2.e2, ← h, cmp_less, Int.toNat_natCast]
  by_cases hz : z.a > 0
  · rw [decide_eq_true hz, decide_eq_true (by omega), show ((z.a : Int) - 1).toNat = z.a - 1 by omega]
  · rw [decide_eq_false hz, decide_eq_false (by omega)]; rfl
theorem PQ.stepE (hI : PQ d nn aa b lim z) (h1 : ¬ ((z.b - z.a : Nat) : Int) ≤ 12) (h0 : (z.lim : Int) ≠ 0) (k1 : K1 nn z d1 l1) (k2 : K2 nn z d1 d2 pv hh) (k3 : K3 nn z d1 d2 d3) (c : (decide ((z.a : Int) > 0) && !(decide (cmpO (d3[((z.a : Int) - 1).toNat]!) (d3[((pv : Int)).toNat]!) < 0))) = true) :
    PQ d nn aa b lim ⟨(partitionEqual lessO d3 z.a z.b pv).1, z.b, l1, z.wb, z.wp, (partitionEqual lessO d3 z.a z.b pv).2⟩ := by
  have e3 := PQ.dd k1 k2 k3
  have hr := parte_rng (d := d3) (aa := z.a) (b := z.b) (pv := pv) k2.lo k2.hi (by rw [k3.sz]; exact hI.bn)
  rw [k3.sz] at hr
  have hd := hI.dl
  refine ⟨hr.2.2, hr.2.1, hI.bn, k1.ll, by simp only []; omega, ?_⟩
  rw [← hI.eq, pq_eq (z := z) (by omega) (by omega) (by rw [hI.sz]; exact hI.bn) (by rw [e3]) (PQ.cond k3 k2 e3 k1 c)]
  simp only [e3]
  rw [← k1.e1, ← k2.e2, ← k1.e2]
theorem PQ.stepL (hI : PQ d nn aa b lim z) (h1 : ¬ ((z.b - z.a : Nat) : Int) ≤ 12) (h0 : (z.lim : Int) ≠ 0) (k1 : K1 nn z d1 l1) (k2 : K2 nn z d1 d2 pv hh) (k3 : K3 nn z d1 d2 d3) (c : (decide ((z.a : Int) > 0) && !(decide (cmpO (d3[((z.a : Int) - 1).toNat]!) (d3[((pv : Int)).toNat]!) < 0))) = false) (hl : (((Go.Sort.partition lessO d3 z.a z.b pv).1 - z.a : Nat) : Int) < ((z.b - (Go.Sort.partition lessO d3 z.a z.b pv).1 : Nat) : Int)) :
    PQ d nn aa b lim ⟨(Go.Sort.partition lessO d3 z.a z.b pv).1 + 1, z.b, l1, decide ((((Go.Sort.partition lessO d3 z.a z.b pv).1 - z.a : Nat) : Int) ≥ (((z.b - z.a) / 8 : Nat) : Int)), (partition lessO d3 z.a z.b pv).2.1, pdq lessO (partition lessO d3 z.a z.b pv).2.2 z.a (Go.Sort.partition lessO d3 z.a z.b pv).1 l1 true true⟩ := by
  have e3 := PQ.dd k1 k2 k3
  have hr := hI.prt k2 k3
  have hd := hI.dl; have hbn := hI.bn
  have hs := pdq_sz _ ⟨z.a, (Go.Sort.partition lessO d3 z.a z.b pv).1, l1, true, true, (partition lessO d3 z.a z.b pv).2.2⟩ (Nat.le_refl _) hr.1 (by simp only []; omega)
  refine ⟨by simp only [PS.out] at hs; simp only []; rw [hs, hr.2.2], by simp only []; omega, hI.bn, k1.ll, by simp only []; omega, ?_⟩
  have hlt := pq_lt (z := z) (by omega) (by omega) (by rw [hI.sz]; exact hI.bn) (by rw [e3]) (PQ.cond k3 k2 e3 k1 c)
  simp only [e3] at hlt
  rw [← k1.e1, ← k2.e2, ← k1.e2] at hlt
  rw [← hI.eq, hlt (by omega)]
  rw [show decide ((((Go.Sort.partition lessO d3 z.a z.b pv).1 - z.a : Nat) : Int) ≥ (((z.b - z.a) / 8 : Nat) : Int)) = decide ((Go.Sort.partition lessO d3 z.a z.b pv).1 - z.a ≥ (z.b - z.a) / 8) by apply decide_eq_decide.2; omega]
theorem PQ.stepG (hI : PQ d nn aa b lim z) (h1 : ¬ ((z.b - z.a : Nat) : Int) ≤ 12) (h0 : (z.lim : Int) ≠ 0) (k1 : K1 nn z d1 l1) (k2 : K2 nn z d1 d2 pv hh) (k3 : K3 nn z d1 d2 d3) (c : (decide ((z.a : Int) > 0) && !(decide (cmpO (d3[((z.a : Int) - 1).toNat]!) (d3[((pv : Int)).toNat]!) < 0))) = false) (hl : ¬ (((Go.Sort.partition lessO d3 z.a z.b pv).1 - z.a : Nat) : Int) < ((z.b - (Go.Sort.partition lessO d3 z.a z.b pv).1 : Nat) : Int)) :
    PQ d nn aa b lim ⟨z.a, (Go.Sort.partition lessO d3 z.a z.b pv).1, l1, decide (((z.b - (Go.Sort.partition lessO d3 z.a z.b pv).1 : Nat) : Int) ≥ (((z.b - z.a) / 8 : Nat) : Int)), (partition lessO d3 z.a z.b pv).2.1, pdq lessO (partition lessO d3 z.a z.b pv).2.2 ((Go.Sort.partition lessO d3 z.a z.b pv).1 + 1) z.b l1 true true⟩ := by
  have e3 := PQ.dd k1 k2 k3
  have hr := hI.prt k2 k3
  have hd := hI.dl; have hbn := hI.bn
  have hs := pdq_sz _ ⟨(Go.Sort.partition lessO d3 z.a z.b pv).1 + 1, z.b, l1, true, true, (partition lessO d3 z.a z.b pv).2.2⟩ (Nat.le_refl _) (by simp only []; omega) (by simp only []; omega)
  refine ⟨by simp only [PS.out] at hs; simp only []; rw [hs, hr.2.2], hr.1, by simp only []; omega, k1.ll, by simp only []; omega, ?_⟩
  have hlt := pq_ge (z := z) (by omega) (by omega) (by rw [hI.sz]; exact hI.bn) (by rw [e3]) (PQ.cond k3 k2 e3 k1 c)
  simp only [e3] at hlt
  rw [← k1.e1, ← k2.e2, ← k1.e2] at hlt
  rw [← hI.eq, hlt (by omega)]
  rw [show decide (((z.b - (Go.Sort.partition lessO d3 z.a z.b pv).1 : Nat) : Int) ≥ (((z.b - z.a) / 8 : Nat) : Int)) = decide (z.b - (Go.Sort.partition lessO d3 z.a z.b pv).1 ≥ (z.b - z.a) / 8) by apply decide_eq_decide.2; omega]
end
theorem pdq_aux (M : Nat) : ∀ (d : Array O) (nn aa b lim : Nat), b - aa = M → d.size = nn → nn ≤ 1000000 → aa ≤ b → b ≤ nn → lim ≤ 100 → Fn Tryd.prog 38 [.sl 0 nn 0, .int .i64 (aa : Int), .int .i64 (b : Int), .int .i64 (lim : Int), .fn 27 []] [some (.row 26 27 nn 0 (fun zz => oc (d[zz]!)))] (Rt (.tup []) [some (.row 26 27 nn 0 (fun zz => oc ((Go.Sort.pdq lessO d aa b lim true true)[zz]!)))]) :=
 Nat.strongRecOn M fun M ih => fun d nn aa b lim hM hn hs ha hb hl => by subst hM; exact (
 enterM (n := 148) (by kernel_rfl) Tryd.func38 rfl rfl rfl fun G w a h0 A => N hX 11 A rfl rfl fun A => have A := A.tell (P := Tryd.prog) 10 (.bool true) rfl rfl; have A := A.tell (P := Tryd.prog) 11 (.bool true) rfl rfl; LOOP1 (fun (z : PS) => [(0, .sl 0 nn 0), (1, .int .i64 (z.a : Int)), (2, .int .i64 (z.b : Int)), (3, .int .i64 (z.lim : Int)), (4, .fn 27 []), (10, .bool z.wb), (11, .bool z.wp)]) (fun (z : PS) => [some (.row 26 27 nn 0 (fun zz => oc (z.d[zz]!)))]) (fun (z : PS) => PQ d nn aa b lim z) (fun (z : PS) => z.b - z.a) (⟨aa, b, lim, true, true, d⟩) ⟨hn, ha, hb, hl, Nat.le_refl _, rfl⟩ ((A.cut [0, 1, 2, 3, 4, 10, 11] rfl).trunc 1 rfl rfl rfl (by simp only [List.length_cons, List.length_nil] at h0; omega)) fun z hI {G a w} A => N hX 11 A rfl (ok_d (by have := hI.ab; have := hI.bn; have := hI.ll; have := hI.dl; omega) <| okE_nil) fun A => have A := A.say 12 (.int .i64 ((z.b - z.a : Nat) : Int)) rfl (by congr 1; have := hI.ab; omega); N hX 5 A rfl rfl fun A => forkD 25 A rfl
   (fun h1 A => N hX 7 A rfl rfl fun A => CALL1 [0] (isort_i z.d nn z.a z.b (by have := hI.ab; have := hI.bn; have := hI.ll; have := hI.dl; omega) (by have := hI.ab; have := hI.bn; have := hI.ll; have := hI.dl; omega) (by (try simp only [asz]); rw [hI.sz]) (by have := hI.ab; have := hI.bn; have := hI.ll; have := hI.dl; omega) (by have := hI.ab; have := hI.bn; have := hI.ll; have := hI.dl; omega) (by have := hI.ab; have := hI.bn; have := hI.ll; have := hI.dl; omega)) A rfl rfl rfl rfl rfl rfl rfl fun A => N hX 3 A rfl rfl fun A => RETN hX A rfl rfl rfl h0 rfl rfl rfl rfl rfl (by rw [hI.ins h1]; rfl))
   (fun h1 A => N hX 10 A rfl rfl fun A => forkE 32 A rfl
    (fun h2 A => N hX 7 A rfl rfl fun A => CALL1 [0] (hsort_i z.d nn z.a z.b (by have := hI.ab; have := hI.bn; have := hI.ll; have := hI.dl; omega) (by have := hI.ab; have := hI.bn; have := hI.ll; have := hI.dl; omega) (by (try simp only [asz]); rw [hI.sz]) (by have := hI.ab; have := hI.bn; have := hI.ll; have := hI.dl; omega) (by have := hI.ab; have := hI.bn; have := hI.ll; have := hI.dl; omega) (by have := hI.ab; have := hI.bn; have := hI.ll; have := hI.dl; omega)) A rfl rfl rfl rfl rfl rfl rfl fun A => N hX 3 A rfl rfl fun A => RETN hX A rfl rfl rfl h0 rfl rfl rfl rfl rfl (by rw [hI.heap h1 h2]; rfl))
    (fun h2 A => N hX 10 A rfl rfl fun A => JOIN2 (fun (d1 : Array O) (l1 : Nat) => [(0, .sl 0 nn 0), (1, .int .i64 (z.a : Int)), (2, .int .i64 (z.b : Int)), (3, .int .i64 (l1 : Int)), (4, .fn 27 []), (10, .bool z.wb), (11, .bool z.wp), (12, .int .i64 ((z.b - z.a : Nat) : Int))]) (fun (d1 : Array O) (l1 : Nat) => [some (.row 26 27 nn 0 (fun zz => oc (d1[zz]!)))]) (fun (d1 : Array O) (l1 : Nat) => K1 nn z d1 l1) A (fun {G a w} A => fork 39 A rfl
      (fun h3 A => N hX 7 A rfl rfl fun A => CALL1 [0] (brk_i z.d nn z.a z.b (by have := hI.ab; have := hI.bn; have := hI.ll; have := hI.dl; omega) (by have := hI.ab; have := hI.bn; have := hI.ll; have := hI.dl; omega) (by (try simp only [asz]); rw [hI.sz]) (by have := hI.ab; have := hI.bn; have := hI.ll; have := hI.dl; omega) (by have := hI.ab; have := hI.bn; have := hI.ll; have := hI.dl; omega) (by have := hI.ab; have := hI.bn; have := hI.ll; have := hI.dl; omega)) A rfl rfl rfl rfl rfl rfl rfl fun A => N hX 7 A rfl (ok_d (by have := hI.ab; have := hI.bn; have := hI.ll; have := hI.dl; omega) <| okE_nil) fun A => ⟨Go.Sort.breakPatterns z.d z.a z.b, z.lim - 1, _, (K1.t hI h3), ((A.cut [0, 1, 2, 3, 4, 10, 11, 12] rfl).trunc 1 rfl rfl rfl (by simp only [List.length_cons, List.length_nil] at h0; omega)).sayT (by rw [show ((z.lim - 1 : Nat) : Int) = (z.lim : Int) - 1 by omega] <;> rfl)⟩)
      (fun h3 A => N hX 2 A rfl rfl fun A => ⟨z.d, z.lim, _, (K1.f hI h3), ((A.cut [0, 1, 2, 3, 4, 10, 11, 12] rfl).trunc 1 rfl rfl rfl (by simp only [List.length_cons, List.length_nil] at h0; omega))⟩)) fun d1 l1 hA {G a w} A => N hX 7 A rfl rfl fun A => CALL1 [0] (cpv_i d1 nn z.a z.b (by have := hI.ab; have := hI.bn; have := hI.ll; have := hI.dl; have := hA.ll; omega) (by have := hI.ab; have := hI.bn; have := hI.ll; have := hI.dl; have := hA.ll; omega) hA.sz (by have := hI.ab; have := hI.bn; have := hI.ll; have := hI.dl; have := hA.ll; omega) (by have := hI.ab; have := hI.bn; have := hI.ll; have := hI.dl; have := hA.ll; omega) (by have := hI.ab; have := hI.bn; have := hI.ll; have := hI.dl; have := hA.ll; omega)) A rfl rfl rfl rfl rfl rfl rfl fun A => N hX 14 A rfl rfl fun A => JOIN3 (fun (d2 : Array O) (pv : Nat) (hh : Int) => [(0, .sl 0 nn 0), (1, .int .i64 (z.a : Int)), (2, .int .i64 (z.b : Int)), (3, .int .i64 (l1 : Int)), (4, .fn 27 []), (10, .bool z.wb), (11, .bool z.wp), (12, .int .i64 ((z.b - z.a : Nat) : Int)), (13, .int .i64 (pv : Int)), (14, .int .i64 hh)]) (fun (d2 : Array O) (pv : Nat) (hh : Int) => [some (.row 26 27 nn 0 (fun zz => oc (d2[zz]!)))]) (fun (d2 : Array O) (pv : Nat) (hh : Int) => K2 nn z d1 d2 pv hh) A (fun {G a w} A => forkE 56 A rfl
      (fun h4 A => N hX 7 A rfl rfl fun A => CALL1 [0] (rev_i d1 nn z.a z.b (by have := hI.ab; have := hI.bn; have := hI.ll; have := hI.dl; have := hA.ll; omega) (by have := hI.ab; have := hI.bn; have := hI.ll; have := hI.dl; have := hA.ll; omega) hA.sz (by have := hI.ab; have := hI.bn; have := hI.ll; have := hI.dl; have := hA.ll; omega) (by have := hI.ab; have := hI.bn; have := hI.ll; have := hI.dl; have := hA.ll; omega) (by have := hI.ab; have := hI.bn; have := hI.ll; have := hI.dl; have := hA.ll; omega)) A rfl rfl rfl rfl rfl rfl rfl fun A => N hX 13 A rfl (ok_d (by have := hI.ab; have := hI.bn; have := hI.ll; have := hI.dl; have := hA.ll; omega) <| ok_d (by have := Go.Sort.choosePivot_holds lessO d1 z.a z.b (by omega); have := hI.ab; have := hI.bn; have := hI.ll; have := hI.dl; have := hA.ll; omega) <| ok_d (by have := Go.Sort.choosePivot_holds lessO d1 z.a z.b (by omega); have := hI.ab; have := hI.bn; have := hI.ll; have := hI.dl; have := hA.ll; omega) <| okE_nil) fun A => N hX 3 A rfl rfl fun A => ⟨Go.Sort.reverseRange d1 z.a z.b, (z.b - 1) - ((Go.Sort.choosePivot lessO d1 z.a z.b).1 - z.a), 1, _, (K2.t hI h1 hA h4), ((A.cut [0, 1, 2, 3, 4, 10, 11, 12, 13, 14] rfl).trunc 1 rfl rfl rfl (by simp only [List.length_cons, List.length_nil] at h0; omega)).sayT (by rw [show ((((z.b - 1) - ((Go.Sort.choosePivot lessO d1 z.a z.b).1 - z.a) : Nat)) : Int) = ((z.b : Int) - 1) - ((((Go.Sort.choosePivot lessO d1 z.a z.b).1 : Nat) : Int) - (z.a : Int)) by have := Go.Sort.choosePivot_holds lessO d1 z.a z.b (by omega); omega] <;> rfl)⟩)
      (fun h4 A => N hX 2 A rfl rfl fun A => ⟨d1, (Go.Sort.choosePivot lessO d1 z.a z.b).1, hintI (Go.Sort.choosePivot lessO d1 z.a z.b).2, _, (K2.f hI h1 hA h4), ((A.cut [0, 1, 2, 3, 4, 10, 11, 12, 13, 14] rfl).trunc 1 rfl rfl rfl (by simp only [List.length_cons, List.length_nil] at h0; omega))⟩)) fun d2 pv hh hB {G a w} A => N hX 14 A rfl rfl fun A => JOIN1 (fun (d3 : Array O) => [(0, .sl 0 nn 0), (1, .int .i64 (z.a : Int)), (2, .int .i64 (z.b : Int)), (3, .int .i64 (l1 : Int)), (4, .fn 27 []), (10, .bool z.wb), (11, .bool z.wp), (12, .int .i64 ((z.b - z.a : Nat) : Int)), (13, .int .i64 (pv : Int))]) (fun (d3 : Array O) => [some (.row 26 27 nn 0 (fun zz => oc (d3[zz]!)))]) (fun (d3 : Array O) => K3 nn z d1 d2 d3) A (fun {G a w} A => fork 75 A rfl
      (fun h5 A => N hX 7 A rfl rfl fun A => CALL1 [0] (pins_i d2 nn z.a z.b (by have := hI.ab; have := hI.bn; have := hI.ll; have := hI.dl; have := hA.ll; have := hB.lo; have := hB.hi; omega) (by have := hI.ab; have := hI.bn; have := hI.ll; have := hI.dl; have := hA.ll; have := hB.lo; have := hB.hi; omega) hB.sz (by have := hI.ab; have := hI.bn; have := hI.ll; have := hI.dl; have := hA.ll; have := hB.lo; have := hB.hi; omega) (by have := hI.ab; have := hI.bn; have := hI.ll; have := hI.dl; have := hA.ll; have := hB.lo; have := hB.hi; omega) (by have := hI.ab; have := hI.bn; have := hI.ll; have := hI.dl; have := hA.ll; have := hB.lo; have := hB.hi; omega)) A rfl rfl rfl rfl rfl rfl rfl fun A => N hX 2 A rfl rfl fun A => fork 80 A rfl
       (fun h6 A => N hX 2 A rfl rfl fun A => RETN hX A rfl rfl rfl h0 rfl rfl rfl rfl rfl (by rw [hI.pi h1 h2 hA hB h5 h6]; rfl))
       (fun h6 A => N hX 2 A rfl rfl fun A => ⟨(Go.Sort.partialInsertionSort lessO d2 z.a z.b).1, _, (K3.t hB h5 h6), ((A.cut [0, 1, 2, 3, 4, 10, 11, 12, 13] rfl).trunc 1 rfl rfl rfl (by simp only [List.length_cons, List.length_nil] at h0; omega))⟩))
      (fun h5 A => N hX 2 A rfl rfl fun A => ⟨d2, _, (K3.f hB h5), ((A.cut [0, 1, 2, 3, 4, 10, 11, 12, 13] rfl).trunc 1 rfl rfl rfl (by simp only [List.length_cons, List.length_nil] at h0; omega))⟩)) fun d3 hC {G a w} A => N hX 3 A rfl rfl fun A => DRAWN hX hmo [(13, .opt (decide ((z.a : Int) > 0)) (.int .i64 (cmpO (d3[((z.a : Int) - 1).toNat]!) (d3[((pv : Int)).toNat]!))))] [] A rfl (ok_r <| ok_g (fun hg => (by have := hI.ab; have := hI.bn; have := hI.ll; have := hI.dl; have := hA.ll; have := hB.lo; have := hB.hi; have := of_decide_eq_true hg; omega)) <| ok_r <| ok_r <| ok_g (fun hg => (by have := hI.ab; have := hI.bn; have := hI.ll; have := hI.dl; have := hA.ll; have := hB.lo; have := hB.hi; have := of_decide_eq_true hg; omega)) <| ok_r <| ok_g (fun hg => (by have := hI.ab; have := hI.bn; have := hI.ll; have := hI.dl; have := hA.ll; have := hB.lo; have := hB.hi; have := of_decide_eq_true hg; omega)) <| ok_r <| ok_r <| ok_g (fun hg => (by have := hI.ab; have := hI.bn; have := hI.ll; have := hI.dl; have := hA.ll; have := hB.lo; have := hB.hi; have := of_decide_eq_true hg; omega)) <| ok_r <| ok_g (fun hg => (by have := hI.ab; have := hI.bn; have := hI.ll; have := hI.dl; have := hA.ll; have := hB.lo; have := hB.hi; have := of_decide_eq_true hg; omega)) <| ok_r <| ok_r <| ok_r <| okE_nil) rfl rfl (by kernel_rfl) (effAll_nil _ _) ⟨.inr ⟨_, _, _, _, _, _, rfl, rfl, rfl, rfl, rfl, fun hg => compare_ (d3[((z.a : Int) - 1).toNat]!) (d3[((pv : Int)).toNat]!)⟩, trivial⟩ fun A => N hX 1 A rfl rfl fun A => fork 97 A rfl
     (fun h7 A => N hX 8 A rfl rfl fun A => CALL1 [0] (parte_i d3 nn z.a z.b pv (by have := hI.ab; have := hI.bn; have := hI.ll; have := hI.dl; have := hA.ll; have := hB.lo; have := hB.hi; have := jlt h7; omega) (by have := hI.ab; have := hI.bn; have := hI.ll; have := hI.dl; have := hA.ll; have := hB.lo; have := hB.hi; have := jlt h7; omega) (by have := hI.ab; have := hI.bn; have := hI.ll; have := hI.dl; have := hA.ll; have := hB.lo; have := hB.hi; have := jlt h7; omega) hC.sz (by have := hI.ab; have := hI.bn; have := hI.ll; have := hI.dl; have := hA.ll; have := hB.lo; have := hB.hi; have := jlt h7; omega) (by have := hI.ab; have := hI.bn; have := hI.ll; have := hI.dl; have := hA.ll; have := hB.lo; have := hB.hi; have := jlt h7; omega) (by have := hI.ab; have := hI.bn; have := hI.ll; have := hI.dl; have := hA.ll; have := hB.lo; have := hB.hi; have := jlt h7; omega) (by have := hI.ab; have := hI.bn; have := hI.ll; have := hI.dl; have := hA.ll; have := hB.lo; have := hB.hi; have := jlt h7; omega)) A rfl rfl rfl rfl rfl rfl rfl fun A => N hX 10 A rfl rfl fun A => ⟨⟨(Go.Sort.partitionEqual lessO d3 z.a z.b pv).1, z.b, l1, z.wb, z.wp, (Go.Sort.partitionEqual lessO d3 z.a z.b pv).2⟩, _, (by have := parte_rng (d := d3) (aa := z.a) (b := z.b) (pv := pv) hB.lo hB.hi (by rw [hC.sz]; exact hI.bn); have := hI.ab; have := hI.bn; have := hI.ll; have := hI.dl; have := hA.ll; have := hB.lo; have := hB.hi; have := jlt h7; simp only []; omega), (hI.stepE h1 h2 hA hB hC h7), ((A.cut [0, 1, 2, 3, 4, 10, 11] rfl).trunc 1 rfl rfl rfl (by simp only [List.length_cons, List.length_nil] at h0; omega))⟩)
     (fun h7 A => N hX 10 A rfl rfl fun A => CALL1 [0] (part_i d3 nn z.a z.b pv (by have := hI.ab; have := hI.bn; have := hI.ll; have := hI.dl; have := hA.ll; have := hB.lo; have := hB.hi; omega) (by have := hI.ab; have := hI.bn; have := hI.ll; have := hI.dl; have := hA.ll; have := hB.lo; have := hB.hi; omega) (by have := hI.ab; have := hI.bn; have := hI.ll; have := hI.dl; have := hA.ll; have := hB.lo; have := hB.hi; omega) hC.sz (by have := hI.ab; have := hI.bn; have := hI.ll; have := hI.dl; have := hA.ll; have := hB.lo; have := hB.hi; omega) (by have := hI.ab; have := hI.bn; have := hI.ll; have := hI.dl; have := hA.ll; have := hB.lo; have := hB.hi; omega) (by have := hI.ab; have := hI.bn; have := hI.ll; have := hI.dl; have := hA.ll; have := hB.lo; have := hB.hi; omega) (by have := hI.ab; have := hI.bn; have := hI.ll; have := hI.dl; have := hA.ll; have := hB.lo; have := hB.hi; omega)) A rfl rfl rfl rfl rfl rfl rfl fun A => N hX 26 A rfl (ok_d (by have := hI.prt hB hC; have := hI.ab; have := hI.bn; have := hI.ll; have := hI.dl; have := hA.ll; have := hB.lo; have := hB.hi; omega) <| ok_d (by have := hI.prt hB hC; have := hI.ab; have := hI.bn; have := hI.ll; have := hI.dl; have := hA.ll; have := hB.lo; have := hB.hi; omega) <| okE_nil) fun A => N hX 7 A rfl (ok_d (by have := hI.ab; have := hI.bn; have := hI.ll; have := hI.dl; have := hA.ll; have := hB.lo; have := hB.hi; omega) <| okE_nil) fun A => have A := A.say 18 (.int .i64 (((Go.Sort.partition lessO d3 z.a z.b pv).1 - z.a : Nat) : Int)) rfl (by congr 1; have := hI.prt hB hC; omega); have A := A.say 19 (.int .i64 ((z.b - (Go.Sort.partition lessO d3 z.a z.b pv).1 : Nat) : Int)) rfl (by congr 1; have := hI.prt hB hC; omega); have A := A.say 20 (.int .i64 (((z.b - z.a) / 8 : Nat) : Int)) rfl (by congr 1; have := hI.bn; exact (show _ = _ from by rw [show (((z.b - z.a : Nat)) : Int).tdiv 8 = ((((z.b - z.a) / 8 : Nat)) : Int) from rfl]; exact wrap_in (by omega))); N hX 6 A rfl rfl fun A => forkD 125 A rfl
      (fun h8 A => N hX 16 A rfl rfl fun A => CALL1 [0] (ih _ (by have := hI.prt hB hC; have := hI.ab; have := hI.bn; have := hI.ll; have := hI.dl; have := hA.ll; have := hB.lo; have := hB.hi; omega) ((Go.Sort.partition lessO d3 z.a z.b pv).2.2) nn z.a ((Go.Sort.partition lessO d3 z.a z.b pv).1) l1 rfl (hI.prt hB hC).2.2 hs (by have := hI.prt hB hC; have := hI.ab; have := hI.bn; have := hI.ll; have := hI.dl; have := hA.ll; have := hB.lo; have := hB.hi; omega) (by have := hI.prt hB hC; have := hI.ab; have := hI.bn; have := hI.ll; have := hI.dl; have := hA.ll; have := hB.lo; have := hB.hi; omega) hA.ll) A rfl rfl rfl rfl rfl rfl rfl fun A => N hX 8 A rfl (ok_d (by have := hI.prt hB hC; have := hI.ab; have := hI.bn; have := hI.ll; have := hI.dl; have := hA.ll; have := hB.lo; have := hB.hi; omega) <| okE_nil) fun A => ⟨⟨(Go.Sort.partition lessO d3 z.a z.b pv).1 + 1, z.b, l1, decide ((((Go.Sort.partition lessO d3 z.a z.b pv).1 - z.a : Nat) : Int) ≥ (((z.b - z.a) / 8 : Nat) : Int)), (Go.Sort.partition lessO d3 z.a z.b pv).2.1, Go.Sort.pdq lessO ((Go.Sort.partition lessO d3 z.a z.b pv).2.2) z.a ((Go.Sort.partition lessO d3 z.a z.b pv).1) l1 true true⟩, _, (by have := hI.prt hB hC; have := hI.ab; have := hI.bn; have := hI.ll; have := hI.dl; have := hA.ll; have := hB.lo; have := hB.hi; simp only []; omega), (hI.stepL h1 h2 hA hB hC h7 h8), ((A.cut [0, 1, 2, 3, 4, 10, 11] rfl).trunc 1 rfl rfl rfl (by simp only [List.length_cons, List.length_nil] at h0; omega))⟩)
      (fun h8 A => N hX 17 A rfl (ok_d (by have := hI.prt hB hC; have := hI.ab; have := hI.bn; have := hI.ll; have := hI.dl; have := hA.ll; have := hB.lo; have := hB.hi; omega) <| okE_nil) fun A => CALL1 [0] (ih _ (by have := hI.prt hB hC; have := hI.ab; have := hI.bn; have := hI.ll; have := hI.dl; have := hA.ll; have := hB.lo; have := hB.hi; omega) ((Go.Sort.partition lessO d3 z.a z.b pv).2.2) nn (((Go.Sort.partition lessO d3 z.a z.b pv).1) + 1) z.b l1 rfl (hI.prt hB hC).2.2 hs (by have := hI.prt hB hC; have := hI.ab; have := hI.bn; have := hI.ll; have := hI.dl; have := hA.ll; have := hB.lo; have := hB.hi; omega) (by have := hI.ab; have := hI.bn; have := hI.ll; have := hI.dl; have := hA.ll; have := hB.lo; have := hB.hi; omega) hA.ll) A rfl rfl rfl rfl rfl rfl rfl fun A => N hX 7 A rfl rfl fun A => ⟨⟨z.a, (Go.Sort.partition lessO d3 z.a z.b pv).1, l1, decide (((z.b - (Go.Sort.partition lessO d3 z.a z.b pv).1 : Nat) : Int) ≥ (((z.b - z.a) / 8 : Nat) : Int)), (Go.Sort.partition lessO d3 z.a z.b pv).2.1, Go.Sort.pdq lessO ((Go.Sort.partition lessO d3 z.a z.b pv).2.2) (((Go.Sort.partition lessO d3 z.a z.b pv).1) + 1) z.b l1 true true⟩, _, (by have := hI.prt hB hC; have := hI.ab; have := hI.bn; have := hI.ll; have := hI.dl; have := hA.ll; have := hB.lo; have := hB.hi; simp only []; omega), (hI.stepG h1 h2 hA hB hC h7 h8), ((A.cut [0, 1, 2, 3, 4, 10, 11] rfl).trunc 1 rfl rfl rfl (by simp only [List.length_cons, List.length_nil] at h0; omega))⟩)))))
theorem pdq_ (d : Array O) (nn aa b lim : Nat) (hn : d.size = nn) (hs : nn ≤ 1000000) (ha : aa ≤ b) (hb : b ≤ nn) (hl : lim ≤ 100) : Fn Tryd.prog 38 [.sl 0 nn 0, .int .i64 (aa : Int), .int .i64 (b : Int), .int .i64 (lim : Int), .fn 27 []] [some (.row 26 27 nn 0 (fun zz => oc (d[zz]!)))] (Rt (.tup []) [some (.row 26 27 nn 0 (fun zz => oc ((Go.Sort.pdq lessO d aa b lim true true)[zz]!)))]) := pdq_aux _ d nn aa b lim rfl hn hs ha hb hl
theorem pdq_i {xaa xb xlim : Int} (d : Array O) (nn aa b lim : Nat) (eaa : xaa = (aa : Int)) (eb : xb = (b : Int)) (elim : xlim = (lim : Int)) (hn : d.size = nn) (hs : nn ≤ 1000000) (ha : aa ≤ b) (hb : b ≤ nn) (hl : lim ≤ 100) : Fn Tryd.prog 38 [.sl 0 nn 0, .int .i64 xaa, .int .i64 xb, .int .i64 xlim, .fn 27 []] [some (.row 26 27 nn 0 (fun zz => oc (d[zz]!)))] (Rt (.tup []) [some (.row 26 27 nn 0 (fun zz => oc ((Go.Sort.pdq lessO d aa b lim true true)[zz]!)))]) := by
  subst eaa; subst eb; subst elim; exact pdq_ d nn aa b lim hn hs ha hb hl
def eqO (p q : O) : Bool := ((p 0 == q 0) && ((p 1 == q 1) && ((p 2 == q 2) && ((p 3 == q 3) && ((p 4 == q 4) && ((p 5 == q 5) && ((p 6 == q 6) && ((p 7 == q 7) && ((p 8 == q 8) && ((p 9 == q 9) && ((p 10 == q 10) && ((p 11 == q 11) && ((p 12 == q 12) && ((p 13 == q 13) && ((p 14 == q 14) && ((p 15 == q 15) && ((p 16 == q 16) && ((p 17 == q 17) && ((p 18 == q 18) && ((p 19 == q 19) && ((p 20 == q 20) && ((p 21 == q 21) && ((p 22 == q 22) && ((p 23 == q 23) && ((p 24 == q 24) && ((p 25 == q 25) && (p 26 == q 26)))))))))))))))))))))))))))
theorem arr_l (os : List O) (k : Nat) : os.toArray[k]! = os.getD k oz := by
  rw [Array.getElem!_eq_getD, Array.getD_eq_getD_getElem?, List.getElem?_toArray]; rfl
def cA (d : Array O) : Nat → List O
  | 0 => []
  | i + 1 => if (decide (0 < i) && eqO (d[i]!) (d[i - 1]!)) = true then cA d i else cA d i ++ [d[i]!]
theorem cA_dup {d : Array O} {i : Nat} (h0 : 0 < i) (h : eqO (d[i]!) (d[i - 1]!) = true) : cA d (i + 1) = cA d i := by
  rw [cA, if_pos (by rw [h, decide_eq_true h0]; rfl)]
theorem cA_new {d : Array O} {i : Nat} (h : eqO (d[i]!) (d[i - 1]!) = false) : cA d (i + 1) = cA d i ++ [d[i]!] := by
  rw [cA, if_neg (by rw [h, Bool.and_false]; simp)]
theorem cA_one (d : Array O) : cA d 1 = [d[0]!] := by rw [cA, if_neg (by simp)]; rfl
structure C1 (d : Array O) (nn k : Nat) : Prop where
  lo : 1 ≤ k
  hi : k ≤ nn
  ln : (cA d k).length = k
  at_ : ∀ p, p < k → (cA d k).getD p oz = d[p]!
structure C2 (d : Array O) (nn k0 : Nat) (e : Array O) (k m : Nat) : Prop where
  sz : e.size = d.size
  lo : k0 ≤ k
  hi : k + 1 ≤ k0 + m
  m1 : 1 ≤ m
  mn : k0 + m ≤ nn
  ln : (cA d (k0 + m)).length = k
  at_ : ∀ p, p < k → e[p]! = (cA d (k0 + m)).getD p oz
  up : ∀ p, k0 + m ≤ p + 1 → e[p]! = d[p]!
section
variable {d e : Array O} {nn k k0 m : Nat}
theorem C1.init (h : ¬ ((nn : Nat) : Int) < 2) : C1 d nn 1 := ⟨Nat.le_refl _, by omega, by rw [cA_one]; rfl, fun p hp => by
  have : p = 0 := by omega
  subst this; rw [cA_one]; rfl⟩
theorem C1.step (h : C1 d nn k) (h1 : (k : Int) < ((nn : Nat) : Int)) (h2 : eqO (d[((k : Int)).toNat]!) (d[((k : Int) - 1).toNat]!) = false) : C1 d nn (k + 1) := by
  have hl := h.lo
  rw [Int.toNat_natCast, show ((k : Int) - 1).toNat = k - 1 by omega] at h2
  refine ⟨by omega, by omega, by rw [cA_new h2, List.length_append, h.ln]; rfl, fun p hp => ?_⟩
  rw [cA_new h2]
  by_cases hpk : p < k
  · rw [getD_app_l (by rw [h.ln]; exact hpk), h.at_ p hpk]
  · have : p = k := by omega
    subst this
    have := getD_app_1 (l := cA d p) (x := d[p]!) (d := oz)
    rw [h.ln] at this; exact this
theorem C1.enter (h : C1 d nn k) (h1 : (k : Int) < ((nn : Nat) : Int)) (h2 : eqO (d[((k : Int)).toNat]!) (d[((k : Int) - 1).toNat]!) = true) : C2 d nn k d k 1 := by
  have hl := h.lo
  rw [Int.toNat_natCast, show ((k : Int) - 1).toNat = k - 1 by omega] at h2
  have e := cA_dup (d := d) (i := k) (by omega) h2
  exact ⟨rfl, Nat.le_refl _, by omega, Nat.le_refl _, by omega, by rw [e, h.ln], fun p hp => by rw [e, h.at_ p hp], fun _ _ => rfl⟩
theorem C1.done (h : C1 d nn k) (h1 : ¬ (k : Int) < ((nn : Nat) : Int)) : (cA d nn).length = nn ∧ ∀ p, p < nn → (cA d nn).getD p oz = d[p]! := by
  have : k = nn := by have := h.hi; omega
  subst this
  exact ⟨h.ln, h.at_⟩
theorem C2.same (h : C2 d nn k0 e k m) (h0 : 1 ≤ k0) (h1 : (m : Int) < ((nn - ((k0 : Int)).toNat : Nat) : Int)) (h2 : (!(eqO (e[(((((k0 : Int)).toNat : Nat) : Int) + (m : Int)).toNat]!) (e[(((((k0 : Int)).toNat : Nat) : Int) + ((m : Int) - 1)).toNat]!))) = false) : C2 d nn k0 e k (m + 1) := by
  have hm := h.m1; have hh := h.hi
  have e1 : (((((k0 : Int)).toNat : Nat) : Int) + (m : Int)).toNat = k0 + m := by omega
  have e2 : (((((k0 : Int)).toNat : Nat) : Int) + ((m : Int) - 1)).toNat = k0 + m - 1 := by omega
  rw [e1, e2, h.up (k0 + m) (by omega), h.up (k0 + m - 1) (by omega)] at h2
  have h3 : eqO (d[k0 + m]!) (d[k0 + m - 1]!) = true := by revert h2; cases eqO (d[k0 + m]!) (d[k0 + m - 1]!) <;> simp
  have ee := cA_dup (d := d) (i := k0 + m) (by omega) h3
  exact ⟨h.sz, h.lo, by omega, by omega, by omega, by rw [← Nat.add_assoc, ee, h.ln], fun p hp => by rw [← Nat.add_assoc, ee, h.at_ p hp], fun p hp => h.up p (by omega)⟩
theorem C2.new (h : C2 d nn k0 e k m) (hn : d.size = nn) (h0 : 1 ≤ k0) (h1 : (m : Int) < ((nn - ((k0 : Int)).toNat : Nat) : Int)) (h2 : (!(eqO (e[(((((k0 : Int)).toNat : Nat) : Int) + (m : Int)).toNat]!) (e[(((((k0 : Int)).toNat : Nat) : Int) + ((m : Int) - 1)).toNat]!))) = true) : C2 d nn k0 (e.setIfInBounds ((k : Int)).toNat (e[(((((k0 : Int)).toNat : Nat) : Int) + (m : Int)).toNat]!)) (k + 1) (m + 1) := by
  have hm := h.m1; have hh := h.hi; have hl := h.lo
  have e1 : (((((k0 : Int)).toNat : Nat) : Int) + (m : Int)).toNat = k0 + m := by omega
  have e2 : (((((k0 : Int)).toNat : Nat) : Int) + ((m : Int) - 1)).toNat = k0 + m - 1 := by omega
  rw [e1, e2, h.up (k0 + m - 1) (by omega), h.up (k0 + m) (by omega)] at h2
  rw [e1, Int.toNat_natCast, h.up (k0 + m) (by omega)]
  have h3 : eqO (d[k0 + m]!) (d[k0 + m - 1]!) = false := by revert h2; cases eqO (d[k0 + m]!) (d[k0 + m - 1]!) <;> simp
  have ee := cA_new (d := d) (i := k0 + m) h3
  have hk : k < e.size := by rw [h.sz, hn]; omega
  refine ⟨by rw [asz, h.sz], by omega, by omega, by omega, by omega, by rw [← Nat.add_assoc, ee, List.length_append, h.ln]; rfl, fun p hp => ?_, fun p hp => ?_⟩
  · rw [← Nat.add_assoc, ee]
    by_cases hpk : p = k
    · subst hpk
      rw [aset_at hk]
      have := getD_app_1 (l := cA d (k0 + m)) (x := d[k0 + m]!) (d := oz)
      rw [h.ln] at this; exact this.symm
    · rw [aset_ne hpk, h.at_ p (by omega), getD_app_l (by rw [h.ln]; omega)]
  · rw [aset_ne (by omega), h.up p (by omega)]
theorem C2.done (h : C2 d nn k0 e k m) (h1 : ¬ (m : Int) < ((nn - ((k0 : Int)).toNat : Nat) : Int)) : (cA d nn).length = k ∧ ∀ p, p < k → (cA d nn).getD p oz = e[p]! := by
  have hmn := h.mn
  have : k0 + m = nn := by omega
  subst this
  exact ⟨h.ln, fun p hp => (h.at_ p hp).symm⟩
theorem cA_small (h : ((nn : Nat) : Int) < 2) : (cA d nn).length = nn ∧ ∀ p, p < nn → (cA d nn).getD p oz = d[p]! := by
  have : nn = 0 ∨ nn = 1 := by omega
  rcases this with rfl | rfl
  · exact ⟨rfl, fun p hp => by omega⟩
  · rw [cA_one]; exact ⟨rfl, fun p hp => by have : p = 0 := by omega
                                            subst this; rfl⟩
end
theorem sortf_ (d : Array O) (nn : Nat) (hn : d.size = nn) (hs : nn ≤ 1000000) : Fn Tryd.prog 26 [.sl 0 nn 0, .fn 27 []] [some (.row 26 27 nn 0 (fun zz => oc (d[zz]!)))] (Rt (.tup []) [some (.row 26 27 nn 0 (fun zz => oc ((Go.Sort.pdq lessO d 0 nn (Go.Sort.bitsLen nn) true true)[zz]!)))]) :=
 enterM (n := 14) (by kernel_rfl) Tryd.func26 rfl rfl rfl fun G w a h0 A => N hX 12 A rfl rfl fun A => CALL1 [] (len_w (nn) (by have := bl_le (n := nn) (by omega); omega) (wu64 (by have := bl_le (n := nn) (by omega); omega))) A rfl rfl rfl rfl rfl rfl rfl fun A => N hX 1 A rfl rfl fun A => CALL1 [0] (pdq_i d nn 0 (nn) (Go.Sort.bitsLen (nn)) (by have := bl_le (n := nn) (by omega); omega) (by have := bl_le (n := nn) (by omega); omega) (by have := bl_le (n := nn) (by omega); omega) hn (by have := bl_le (n := nn) (by omega); omega) (by have := bl_le (n := nn) (by omega); omega) (by have := bl_le (n := nn) (by omega); omega) (by have := bl_le (n := nn) (by omega); omega)) A rfl rfl rfl rfl rfl rfl rfl fun A => N hX 1 A rfl rfl fun A => ENDN (RETN hX A rfl rfl rfl h0 rfl rfl rfl rfl rfl rfl)
theorem clone_ (os : List O) (c : Nat) (hs : os.length ≤ 1000000) : Fn Tryd.prog 25 [.sl 0 os.length c] [some (.lst 27 os.length (fun zz => oc (os.getD zz oz)))] (Rt (.sl 1 os.length 0) [some (.lst 27 os.length (fun zz => oc (os.getD zz oz))), some (.row 26 27 os.length 0 (fun zz => oc (os.toArray[zz]!)))]) :=
 enterM (n := 8) (by kernel_rfl) Tryd.func25 rfl rfl rfl fun G w a h0 A => N hX 9 A rfl rfl fun A => NILL hX A rfl rfl (fun h1 {G a w} A => N hX 9 A rfl rfl fun A => have A := A.nilRow 2 26 27 (fun zz => oc (os.toArray[zz]!)) rfl (fun z => ⟨_, rfl, rfl⟩); have A := A.rowAs 1 os.length (fun zz => oc (os.toArray[zz]!)) rfl h1 (fun _ _ => rfl) (fun z => ⟨_, rfl, rfl⟩); have A := A.say 2 (.sl 1 os.length 0) rfl (by rw [h1]; rfl); RET hX [1] A ⟨rfl, rfl⟩ rfl rfl rfl rfl rfl rfl rfl rfl h0) (fun {G a w} A => N hX 9 A rfl rfl fun A => APPL hX os.length (fun zz => oc (os.toArray[zz]!)) A rfl rfl rfl rfl (Nat.le_refl _) (by omega) hs (by omega) (fun k hk => by omega) (fun k hk => by show oc _ = oc _; rw [Nat.zero_add, arr_l]) (fun z => ⟨_, rfl, rfl⟩) (fun k hk => ⟨_, rfl, okE_nil⟩) fun A => N hX 4 A rfl rfl fun A => RET hX [2] A ⟨rfl, rfl⟩ rfl rfl rfl rfl rfl rfl rfl rfl h0)
theorem compact_ (d : Array O) (nn : Nat) (hn : d.size = nn) (hs : nn ≤ 1000000) : Fn Tryd.prog 28 [.sl 0 nn 0] [some (.row 26 27 nn 0 (fun zz => oc (d[zz]!)))] (Rt (.sl 0 ((cA d nn).length) 0) [some (.row 26 27 ((cA d nn).length) 0 (fun zz => oc ((cA d nn).getD zz oz)))]) :=
 enterM (n := 61) (by kernel_rfl) Tryd.func28 rfl rfl rfl fun G w a h0 A => N hX 13 A rfl rfl fun A => forkD 8 A rfl
  (fun h1 A => N hX 8 A rfl rfl fun A => have hf := cA_small (d := d) h1; have A := A.rowAs 0 (cA d nn).length (fun zz => oc ((cA d nn).getD zz oz)) rfl (by rw [hf.1]; (try rfl); (try simp)) (fun q hq => by show oc _ = oc _; rw [hf.2 q (by simpa using hq)]) (fun z => ⟨_, rfl, rfl⟩); have A := A.say 2 (.sl 0 (cA d nn).length 0) rfl (by rw [hf.1]; (try rfl); (try simp)); RETN hX A rfl rfl rfl h0 rfl rfl rfl rfl rfl rfl)
  (fun h1 A => N hX 10 A rfl rfl fun A => LOOP1 (fun (k : Nat) => [(0, .sl 0 nn 0), (2, .sla none 0 0), (3, .int .i64 (k : Int))]) (fun (k : Nat) => [some (.row 26 27 nn 0 (fun zz => oc (d[zz]!)))]) (fun (k : Nat) => C1 d nn k) (fun (k : Nat) => nn - k) 1 (C1.init h1) ((A.cut [0, 2, 3] rfl).trunc 1 rfl rfl rfl (by simp only [List.length_cons, List.length_nil] at h0; omega)) fun k hI {G a w} A => N hX 9 A rfl rfl fun A => forkD 13 A rfl
    (fun h2 A => N hX 6 A rfl rfl fun A => DRAWN hX hmo [] [] A rfl (ok_d (by have := hI.lo; have := hI.hi; omega) <| ok_d (by have := hI.lo; have := hI.hi; omega) <| ok_d (by have := hI.lo; have := hI.hi; omega) <| ok_d (by have := hI.lo; have := hI.hi; omega) <| ok_d (by have := hI.lo; have := hI.hi; omega) <| okE_nil) rfl rfl (by kernel_rfl) (effAll_nil _ _) trivial fun A => N hX 1 A rfl rfl fun A => fork 25 A rfl
     (fun h3 A => N hX 11 A rfl (ok_d (by have := hI.lo; have := hI.hi; omega) <| okE_nil) fun A => N hX 5 A rfl rfl fun A => LOOP3 (fun (q : Nat) (m : Nat) (e : Array O) => [(0, .sl 0 nn 0), (2, .sla none 0 0), (3, .int .i64 (q : Int)), (4, .st 0 27 (((k : Int)).toNat) (nn - ((k : Int)).toNat) 0), (5, .int .i64 (m : Int))]) (fun (q : Nat) (m : Nat) (e : Array O) => [some (.row 26 27 nn 0 (fun zz => oc (e[zz]!)))]) (fun (q : Nat) (m : Nat) (e : Array O) => C2 d nn k e q m) (fun (q : Nat) (m : Nat) (e : Array O) => nn - m) k 1 d (hI.enter h2 h3) ((A.cut [0, 2, 3, 4, 5] rfl).trunc 1 rfl rfl rfl (by simp only [List.length_cons, List.length_nil] at h0; omega)) fun q m e hJ {G a w} A => N hX 9 A rfl rfl fun A => forkD 32 A rfl
       (fun h4 A => N hX 6 A rfl rfl fun A => DRAWN hX hmo [] [] A rfl (ok_d (by have := hI.lo; have := hI.hi; have := hJ.lo; have := hJ.hi; have := hJ.m1; have := hJ.mn; omega) <| ok_d (by have := hI.lo; have := hI.hi; have := hJ.lo; have := hJ.hi; have := hJ.m1; have := hJ.mn; omega) <| ok_d (by have := hI.lo; have := hI.hi; have := hJ.lo; have := hJ.hi; have := hJ.m1; have := hJ.mn; omega) <| ok_d (by have := hI.lo; have := hI.hi; have := hJ.lo; have := hJ.hi; have := hJ.m1; have := hJ.mn; omega) <| ok_d (by have := hI.lo; have := hI.hi; have := hJ.lo; have := hJ.hi; have := hJ.m1; have := hJ.mn; omega) <| okE_nil) rfl rfl (by kernel_rfl) (effAll_nil _ _) trivial fun A => N hX 1 A rfl rfl fun A => fork 44 A rfl
        (fun h5 A => N hX 10 A rfl (ok_d (by have := hI.lo; have := hI.hi; have := hJ.lo; have := hJ.hi; have := hJ.m1; have := hJ.mn; omega) <| ok_d (by have := hI.lo; have := hI.hi; have := hJ.lo; have := hJ.hi; have := hJ.m1; have := hJ.mn; omega) <| ok_d (by have := hI.lo; have := hI.hi; have := hJ.lo; have := hJ.hi; have := hJ.m1; have := hJ.mn; omega) <| okE_nil) fun A => STR (i := 0) (e := 26) (s := 27) (m := nn) (c := 0) hX (((q : Int)).toNat) (fun zz => oc ((e.setIfInBounds ((q : Int)).toNat (e[(((((k : Int)).toNat : Nat) : Int) + (m : Int)).toNat]!))[zz]!)) A rfl rfl rfl (by have := hI.lo; have := hI.hi; have := hJ.lo; have := hJ.hi; have := hJ.m1; have := hJ.mn; omega) (fun z hz => by show oc _ = oc _; rw [aset_ne hz]) (by show _ = some (oc _); rw [aset_at (by (try simp only [asz]); rw [hJ.sz, hn]; have := hI.lo; have := hI.hi; have := hJ.lo; have := hJ.hi; have := hJ.m1; have := hJ.mn; omega)]; rfl) fun A => N hX 9 A rfl (ok_d (by have := hI.lo; have := hI.hi; have := hJ.lo; have := hJ.hi; have := hJ.m1; have := hJ.mn; omega) <| okE_nil) fun A => N hX 5 A rfl (ok_d (by have := hI.lo; have := hI.hi; have := hJ.lo; have := hJ.hi; have := hJ.m1; have := hJ.mn; omega) <| okE_nil) fun A => ⟨q + 1, m + 1, e.setIfInBounds ((q : Int)).toNat (e[(((((k : Int)).toNat : Nat) : Int) + (m : Int)).toNat]!), _, (by omega), (hJ.new hn hI.lo h4 h5), ((A.cut [0, 2, 3, 4, 5] rfl).trunc 1 rfl rfl rfl (by simp only [List.length_cons, List.length_nil] at h0; omega))⟩)
        (fun h5 A => N hX 9 A rfl (ok_d (by have := hI.lo; have := hI.hi; have := hJ.lo; have := hJ.hi; have := hJ.m1; have := hJ.mn; omega) <| okE_nil) fun A => ⟨q, m + 1, e, _, (by omega), (hJ.same hI.lo h4 h5), ((A.cut [0, 2, 3, 4, 5] rfl).trunc 1 rfl rfl rfl (by simp only [List.length_cons, List.length_nil] at h0; omega))⟩))
       (fun h4 A => N hX 8 A rfl (ok_d (by have := hI.lo; have := hI.hi; have := hJ.lo; have := hJ.hi; have := hJ.m1; have := hJ.mn; omega) <| okE_nil) fun A => CLR hX A rfl (by have := hI.lo; have := hI.hi; have := hJ.lo; have := hJ.hi; have := hJ.m1; have := hJ.mn; omega) fun A => N hX 11 A rfl (ok_d (by show 0 ≤ (q : Int) ∧ (q : Int) ≤ ((((q : Int)).toNat : Nat) : Int); exact (by have := hI.lo; have := hI.hi; have := hJ.lo; have := hJ.hi; have := hJ.m1; have := hJ.mn; omega)) <| okE_nil) fun A => have hf := hJ.done h4; have A := A.rowAs 0 (cA d nn).length (fun zz => oc ((cA d nn).getD zz oz)) rfl (by rw [hf.1]; (try rfl); (try simp)) (fun q hq => by show oc _ = oc _; rw [hf.2 q (by simpa using hq)]) (fun z => ⟨_, rfl, rfl⟩); have A := A.say 2 (.sl 0 (cA d nn).length 0) rfl (by rw [hf.1]; (try rfl); (try simp)); RETN hX A rfl rfl rfl h0 rfl rfl rfl rfl rfl rfl))
     (fun h3 A => N hX 9 A rfl (ok_d (by have := hI.lo; have := hI.hi; omega) <| okE_nil) fun A => ⟨k + 1, _, (by omega), (hI.step h2 h3), ((A.cut [0, 2, 3] rfl).trunc 1 rfl rfl rfl (by simp only [List.length_cons, List.length_nil] at h0; omega))⟩))
    (fun h2 A => N hX 10 A rfl rfl fun A => have hf := hI.done h2; have A := A.rowAs 0 (cA d nn).length (fun zz => oc ((cA d nn).getD zz oz)) rfl (by rw [hf.1]; (try rfl); (try simp)) (fun q hq => by show oc _ = oc _; rw [hf.2 q (by simpa using hq)]) (fun z => ⟨_, rfl, rfl⟩); have A := A.say 2 (.sl 0 (cA d nn).length 0) rfl (by rw [hf.1]; (try rfl); (try simp)); RETN hX A rfl rfl rfl h0 rfl rfl rfl rfl rfl rfl))
theorem ps_sz (os : List O) : (Go.Sort.pdq lessO os.toArray 0 os.length (Go.Sort.bitsLen os.length) true true).size = os.length := by
  have := pdq_sz _ ⟨0, os.length, Go.Sort.bitsLen os.length, true, true, os.toArray⟩ (Nat.le_refl _) (Nat.zero_le _) (by simp)
  simpa [PS.out] using this
def sortL (os : List O) : List O := cA (Go.Sort.pdq lessO os.toArray 0 os.length (Go.Sort.bitsLen os.length) true true) os.length
theorem sort_ (os : List O) (c : Nat) (hs : os.length ≤ 1000000) : Fn Tryd.prog 14 [.sl 0 os.length c] [some (.lst 27 os.length (fun zz => oc (os.getD zz oz)))] (Rt (.sl 1 ((sortL os).length) 0) [some (.lst 27 os.length (fun zz => oc (os.getD zz oz))), some (.row 26 27 ((sortL os).length) 0 (fun zz => oc ((sortL os).getD zz oz)))]) :=
 enterM (n := 10) (by kernel_rfl) Tryd.func14 rfl rfl rfl fun G w a h0 A => N hX 8 A rfl rfl fun A => CALL1 [0] (clone_ os c hs) A rfl rfl rfl rfl rfl rfl rfl fun A => N hX 6 A rfl rfl fun A => CALL1 [1] (sortf_ os.toArray os.length (by simp) hs) A rfl rfl rfl rfl rfl rfl rfl fun A => N hX 5 A rfl rfl fun A => CALL1 [1] (compact_ (Go.Sort.pdq lessO os.toArray 0 os.length (Go.Sort.bitsLen os.length) true true) os.length (ps_sz os) hs) A rfl rfl rfl rfl rfl rfl rfl fun A => N hX 4 A rfl rfl fun A => RET hX [1] A ⟨rfl, rfl⟩ rfl rfl rfl rfl rfl rfl rfl rfl h0
end Go.Proofs.YtfdfjakafiglmaaDoor
namespace Go.Proofs.YtfdfjakafiglmaaDoor
open Go.RowKit
set_option linter.unusedVariables false
set_option linter.unusedSimpArgs false
set_option maxRecDepth 100000
set_option maxHeartbeats 2000000
set_option simprocs false
structure Cn where (kd th rg lc vl : Int)
def Cn.z : Cn := ⟨0, 0, 0, 0, 0⟩
def Cn.n (c : Cn) : Int := one0 c.kd c.th c.rg c.lc c.vl
def rightGo : List Cn → Int → Bool
 | [], h => h == 1
 | c :: r, h => if c.n < 0 ∨ c.n > h then false else rightGo r (h - c.n + 1)
def right (cs : List Cn) : Bool := if cs.length < 1 ∨ cs.length > 32 then false else rightGo cs 0
def RI (cs : List Cn) (i : Nat) (hv : Int) : Prop := i ≤ cs.length ∧ cs.length ≤ 32 ∧ 0 ≤ hv ∧ hv ≤ i ∧ right cs = rightGo (cs.drop i) hv
theorem RI.at {cs : List Cn} {i : Nat} {hv : Int} (h : RI cs i hv) (h2 : (i : Int) < (cs.length : Int)) : right cs = if (cs.getD ((i : Int)).toNat Cn.z).n < 0 ∨ (cs.getD ((i : Int)).toNat Cn.z).n > hv then false else rightGo (cs.drop (i + 1)) (hv - (cs.getD ((i : Int)).toNat Cn.z).n + 1) := by
  have hi : i < cs.length := by omega
  have e : cs.drop i = cs[i] :: cs.drop (i + 1) := List.drop_eq_getElem_cons hi
  have hg : cs.getD ((i : Int)).toNat Cn.z = cs[i] := by simp [List.getD, hi]
  rw [h.2.2.2.2, e, hg, rightGo]
theorem RI.done {cs : List Cn} {i : Nat} {hv : Int} (h : RI cs i hv) (h2 : ¬ (i : Int) < (cs.length : Int)) : right cs = (hv == 1) := by
  have : cs.drop i = [] := List.drop_eq_nil_of_le (by have := h.1; omega)
  rw [h.2.2.2.2, this, rightGo]
structure LI (p q : O) (n m k : Nat) : Prop where
  le : k ≤ m
  eq : lessO p q = lx p q (27 - (n + k)) (n + k)
theorem LI.done {p q : O} {k : Nat} (h : LI p q 24 3 k) (e : k = 3) : lessO p q = false := by subst e; rw [h.eq]; rfl
def posO (l : List O) (x : O) : Nat := (l.takeWhile fun p => lessO p x).length
def putO (l : List O) (x : O) (k : Nat) : List O := l.take k ++ x :: l.drop k
def insO (l : List O) (x : O) : List O := if (decide (posO l x < l.length) && eqO (l.getD (posO l x) oz) x) = true then l else putO l x (posO l x)
def sortO (os : List O) : List O := os.foldl insO []
structure SI (os : List O) (l : List O) (i : Nat) : Prop where
  le : i ≤ os.length
  eq : l = sortO (os.take i)
  ll : l.length ≤ i
theorem SI.done {os l : List O} {i : Nat} (h : SI os l i) (hi : ¬ (i : Int) < ((os.length : Nat) : Int)) : sortO os = l := by
  rw [h.eq, List.take_of_length_le (by omega)]

def stepL (p : O) (c : Cn) (l : List Bool) : List Bool := if c.kd = 1 then l ++ [([[(p 0), (p 1), (p 2), (p 3), (p 4), (p 5), (p 6), (p 7)].getD (c.rg).toNat 0, [(p 8), (p 9), (p 10), (p 11), (p 12), (p 13), (p 14), (p 15)].getD (c.rg).toNat 0, [(p 16), (p 17), (p 18), (p 19), (p 20), (p 21), (p 22), (p 23)].getD (c.rg).toNat 0].getD (c.th).toNat 0) == (c.vl)] else if c.kd = 2 then l ++ [([(p 24), (p 25), (p 26)].getD (c.lc).toNat 0) == (c.vl)] else if c.kd = 3 then l.set (l.length - 1) (!((l).getD ((((l.length : Nat) : Int) - 1).toNat) false)) else if c.kd = 4 then (l.set (l.length - 2) (((l).getD ((((l.length : Nat) : Int) - 2).toNat) false) && ((l).getD ((((l.length : Nat) : Int) - 1).toNat) false))).take (l.length - 1) else if c.kd = 5 then (l.set (l.length - 2) (((l).getD ((((l.length : Nat) : Int) - 2).toNat) false) || ((l).getD ((((l.length : Nat) : Int) - 1).toNat) false))).take (l.length - 1) else l
theorem st1 {p : O} {c : Cn} {l : List Bool} (h : c.kd = 1) : stepL p c l = l ++ [([[(p 0), (p 1), (p 2), (p 3), (p 4), (p 5), (p 6), (p 7)].getD (c.rg).toNat 0, [(p 8), (p 9), (p 10), (p 11), (p 12), (p 13), (p 14), (p 15)].getD (c.rg).toNat 0, [(p 16), (p 17), (p 18), (p 19), (p 20), (p 21), (p 22), (p 23)].getD (c.rg).toNat 0].getD (c.th).toNat 0) == (c.vl)] := by unfold stepL; rw [if_pos h]
theorem st2 {p : O} {c : Cn} {l : List Bool} (h : c.kd = 2) : stepL p c l = l ++ [([(p 24), (p 25), (p 26)].getD (c.lc).toNat 0) == (c.vl)] := by unfold stepL; rw [if_neg (by omega), if_pos h]
theorem st3 {p : O} {c : Cn} {l : List Bool} (h : c.kd = 3) : stepL p c l = l.set (l.length - 1) (!((l).getD ((((l.length : Nat) : Int) - 1).toNat) false)) := by unfold stepL; rw [if_neg (by omega), if_neg (by omega), if_pos h]
theorem st4 {p : O} {c : Cn} {l : List Bool} (h : c.kd = 4) : stepL p c l = (l.set (l.length - 2) (((l).getD ((((l.length : Nat) : Int) - 2).toNat) false) && ((l).getD ((((l.length : Nat) : Int) - 1).toNat) false))).take (l.length - 1) := by unfold stepL; rw [if_neg (by omega), if_neg (by omega), if_neg (by omega), if_pos h]
theorem st5 {p : O} {c : Cn} {l : List Bool} (h : c.kd = 5) : stepL p c l = (l.set (l.length - 2) (((l).getD ((((l.length : Nat) : Int) - 2).toNat) false) || ((l).getD ((((l.length : Nat) : Int) - 1).toNat) false))).take (l.length - 1) := by unfold stepL; rw [if_neg (by omega), if_neg (by omega), if_neg (by omega), if_neg (by omega), if_pos h]
def evalB (p : O) (cs : List Cn) : Bool := if right cs = true then (cs.foldl (fun l c => stepL p c l) []).getD 0 false else false
theorem cn_kind {c : Cn} (h : ¬ c.n < 0) : (c.kd = 1 ∧ c.n = 0 ∧ 0 ≤ c.th ∧ c.th < 3 ∧ 0 ≤ c.rg ∧ c.rg < 8) ∨ (c.kd = 2 ∧ c.n = 0 ∧ 0 ≤ c.lc ∧ c.lc < 3) ∨ (c.kd = 3 ∧ c.n = 1) ∨ (c.kd = 4 ∧ c.n = 2) ∨ (c.kd = 5 ∧ c.n = 2) := by
  unfold Cn.n at *
  unfold one0 at *
  by_cases h1 : c.kd = 1
  · rw [if_pos h1] at h ⊢
    left
    split at h
    · next hh =>
      simp only [Bool.and_eq_true, decide_eq_true_eq, ge_iff_le] at hh
      rw [if_pos (by simp only [Bool.and_eq_true, decide_eq_true_eq, ge_iff_le]; exact hh)]
      split at h
      · omega
      · next hz => rw [if_neg hz]; omega
    · omega
  rw [if_neg h1] at h ⊢
  by_cases h2 : c.kd = 2
  · rw [if_pos h2] at h ⊢
    right; left
    split at h
    · next hh =>
      rw [if_pos hh]
      simp only [Bool.and_eq_true, decide_eq_true_eq, ge_iff_le] at hh
      split at h
      · omega
      · next hz => rw [if_neg hz]; omega
    · omega
  rw [if_neg h2] at h ⊢
  by_cases h3 : c.kd = 3
  · rw [if_pos h3] at h ⊢
    split at h
    · omega
    · next hz => rw [if_neg hz]; omega
  rw [if_neg h3] at h ⊢
  by_cases h4 : c.kd = 4
  · rw [if_pos h4] at h ⊢
    split at h
    · omega
    · next hz => rw [if_neg hz]; omega
  rw [if_neg h4] at h ⊢
  by_cases h5 : c.kd = 5
  · rw [if_pos h5] at h ⊢
    split at h
    · omega
    · next hz => rw [if_neg hz]; omega
  rw [if_neg h5] at h
  omega
structure EI (p : O) (cs : List Cn) (l : List Bool) (i : Nat) : Prop where
  le : i ≤ cs.length
  ll : l.length ≤ i
  rt : rightGo (cs.drop i) (l.length : Int) = true
  eq : l = (cs.take i).foldl (fun l c => stepL p c l) []
section
variable {p : O} {cs : List Cn} {l : List Bool} {i : Nat}
theorem right_of (h1 : (!(right cs)) = false) : right cs = true := by cases h : right cs <;> simp [h] at h1 ⊢
theorem EI.init (h1 : (!(right cs)) = false) : EI p cs [] 0 := by
  have h := right_of h1
  unfold right at h
  split at h
  · cases h
  · exact ⟨by omega, by simp, by simpa using h, rfl⟩
theorem EI.at (hI : EI p cs l i) (h2 : (i : Int) < ((cs.length : Nat) : Int)) : ¬ ((cs.getD ((i : Int)).toNat Cn.z).n < 0 ∨ (cs.getD ((i : Int)).toNat Cn.z).n > (l.length : Int)) ∧ rightGo (cs.drop (i + 1)) ((l.length : Int) - (cs.getD ((i : Int)).toNat Cn.z).n + 1) = true := by
  have hi : i < cs.length := by omega
  have e : cs.drop i = cs[i] :: cs.drop (i + 1) := List.drop_eq_getElem_cons hi
  have hg : (cs.getD ((i : Int)).toNat Cn.z) = cs[i] := by simp [List.getD, hi]
  have h := hI.rt
  rw [e, rightGo] at h
  rw [hg]
  split at h
  · cases h
  · next hh => exact ⟨hh, h⟩
theorem EI.n4 (hI : EI p cs l i) (h1 : (!(right cs)) = false) (h2 : (i : Int) < ((cs.length : Nat) : Int)) (h : (cs.getD ((i : Int)).toNat Cn.z).kd = 4) : 2 ≤ l.length ∧ (cs.getD ((i : Int)).toNat Cn.z).n = 2 := by have h3 := (hI.at h2).1; have := cn_kind (fun h => (hI.at h2).1 (.inl h)); omega
theorem EI.n5 (hI : EI p cs l i) (h1 : (!(right cs)) = false) (h2 : (i : Int) < ((cs.length : Nat) : Int)) (h : (cs.getD ((i : Int)).toNat Cn.z).kd = 5) : 2 ≤ l.length ∧ (cs.getD ((i : Int)).toNat Cn.z).n = 2 := by have h3 := (hI.at h2).1; have := cn_kind (fun h => (hI.at h2).1 (.inl h)); omega
theorem EI.len1 (hI : EI p cs l i) (h1 : (!(right cs)) = false) (h2 : (i : Int) < ((cs.length : Nat) : Int)) (h : (cs.getD ((i : Int)).toNat Cn.z).kd = 1) : (stepL p (cs.getD ((i : Int)).toNat Cn.z) l).length = l.length + 1 := by rw [st1 h, List.length_append]; rfl
theorem EI.len2 (hI : EI p cs l i) (h1 : (!(right cs)) = false) (h2 : (i : Int) < ((cs.length : Nat) : Int)) (h : (cs.getD ((i : Int)).toNat Cn.z).kd = 2) : (stepL p (cs.getD ((i : Int)).toNat Cn.z) l).length = l.length + 1 := by rw [st2 h, List.length_append]; rfl
theorem EI.len3 (hI : EI p cs l i) (h1 : (!(right cs)) = false) (h2 : (i : Int) < ((cs.length : Nat) : Int)) (h : (cs.getD ((i : Int)).toNat Cn.z).kd = 3) : (stepL p (cs.getD ((i : Int)).toNat Cn.z) l).length = l.length := by rw [st3 h, List.length_set]
theorem EI.len4 (hI : EI p cs l i) (h1 : (!(right cs)) = false) (h2 : (i : Int) < ((cs.length : Nat) : Int)) (h : (cs.getD ((i : Int)).toNat Cn.z).kd = 4) : (stepL p (cs.getD ((i : Int)).toNat Cn.z) l).length = l.length - 1 := by rw [st4 h, List.length_take, List.length_set]; omega
theorem EI.len5 (hI : EI p cs l i) (h1 : (!(right cs)) = false) (h2 : (i : Int) < ((cs.length : Nat) : Int)) (h : (cs.getD ((i : Int)).toNat Cn.z).kd = 5) : (stepL p (cs.getD ((i : Int)).toNat Cn.z) l).length = l.length - 1 := by rw [st5 h, List.length_take, List.length_set]; omega
theorem EI.next (hI : EI p cs l i) (h1 : (!(right cs)) = false) (h2 : (i : Int) < ((cs.length : Nat) : Int)) : EI p cs (stepL p (cs.getD ((i : Int)).toNat Cn.z) l) (i + 1) := by
  have hi : i < cs.length := by omega
  have hg : (cs.getD ((i : Int)).toNat Cn.z) = cs[i] := by simp [List.getD, hi]
  have ⟨k1, k2⟩ := hI.at h2
  have hl : ((stepL p (cs.getD ((i : Int)).toNat Cn.z) l).length : Int) = (l.length : Int) - (cs.getD ((i : Int)).toNat Cn.z).n + 1 := by
    rcases cn_kind (fun h => k1 (.inl h)) with h | h | h | h | h
    · rw [hI.len1 h1 h2 h.1]; omega
    · rw [hI.len2 h1 h2 h.1]; omega
    · rw [hI.len3 h1 h2 h.1]; omega
    · rw [hI.len4 h1 h2 h.1]; have := hI.n4 h1 h2 h.1; omega
    · rw [hI.len5 h1 h2 h.1]; have := hI.n5 h1 h2 h.1; omega
  refine ⟨hi, by have := hI.ll; omega, by rw [hl]; exact k2, ?_⟩
  rw [List.take_succ_eq_append_getElem hi, List.foldl_append, ← hI.eq, hg]; rfl
theorem EI.fin (hI : EI p cs l i) (h2 : ¬ (i : Int) < ((cs.length : Nat) : Int)) : l.length = 1 := by
  have h := hI.rt
  rw [List.drop_eq_nil_of_le (by omega), rightGo, beq_iff_eq] at h
  omega
theorem EI.done (hI : EI p cs l i) (h1 : (!(right cs)) = false) (h2 : ¬ (i : Int) < ((cs.length : Nat) : Int)) : evalB p cs = l.getD 0 false := by
  unfold evalB
  rw [if_pos (right_of h1)]
  have h := hI.eq
  rw [List.take_of_length_le (by omega)] at h
  rw [← h]
end
def jF (qu : Int) (cs : List Cn) (l : List O) : Option O := l.find? fun p => evalB p cs == (!(qu == 3))
structure JI (qu : Int) (cs : List Cn) (os : List O) (i : Nat) (wt : Bool) (o : O) : Prop where
  le : i ≤ (sortO os).length
  eq : (wt = false ∧ o = oz ∧ jF qu cs (sortO os) = jF qu cs ((sortO os).drop i)) ∨ (wt = true ∧ jF qu cs (sortO os) = some o)
section
variable {qu : Int} {cs : List Cn} {os : List O} {i : Nat} {wt : Bool} {o : O}
theorem JI.done (hI : JI qu cs os i wt o) (h3 : (decide ((i : Int) < ((((sortO os).length : Nat)) : Int)) && (!wt)) = false) : (jF qu cs (sortO os)).isSome = wt ∧ (jF qu cs (sortO os)).getD oz = o := by
  rcases hI.eq with ⟨h1, h2, h4⟩ | ⟨h1, h4⟩
  · have hi : ¬ (i : Int) < (((sortO os).length : Nat) : Int) := fun h => by rw [h1, decide_eq_true h] at h3; cases h3
    rw [h4, List.drop_eq_nil_of_le (by omega), h1, h2]; exact ⟨rfl, rfl⟩
  · rw [h4, h1]; exact ⟨rfl, rfl⟩
end
def jOK (qu : Int) (cs : List Cn) : Bool := !((decide (qu < 1)) || (decide (qu > 3))) && right cs
def jE (qu : Int) (cs : List Cn) : Int := if ((decide (qu < 1)) || (decide (qu > 3))) = true then 1 else if right cs = true then 0 else 22
def jW (qu : Int) (cs : List Cn) (os : List O) : Bool := jOK qu cs && (jF qu cs (sortO os)).isSome
def jO (qu : Int) (cs : List Cn) (os : List O) : O := if jOK qu cs = true then (jF qu cs (sortO os)).getD oz else oz
def jH (qu : Int) (cs : List Cn) (os : List O) : Bool := jOK qu cs && (jW qu cs os == (qu == 1))
def jN (qu : Int) (cs : List Cn) (os : List O) : Int := if jOK qu cs = true then (((sortO os).length : Nat) : Int) else 0
theorem j_not {qu : Int} {cs : List Cn} {os : List O} (h : jOK qu cs = false) : jW qu cs os = false ∧ jO qu cs os = oz ∧ jH qu cs os = false ∧ jN qu cs os = 0 := by
  unfold jH jW jO jN; rw [h]; exact ⟨rfl, rfl, rfl, rfl⟩
theorem j0 {qu : Int} {cs : List Cn} {os : List O} (h1 : ((decide (qu < 1)) || (decide (qu > 3))) = true) : jE qu cs = 1 ∧ jW qu cs os = false ∧ jO qu cs os = oz ∧ jH qu cs os = false ∧ jN qu cs os = 0 := by
  refine ⟨by unfold jE; rw [if_pos h1], j_not ?_⟩
  unfold jOK; rw [h1]; rfl
theorem j1 {qu : Int} {cs : List Cn} {os : List O} (h1 : ((decide (qu < 1)) || (decide (qu > 3))) = false) (h2 : (!(right cs)) = true) : jE qu cs = 22 ∧ jW qu cs os = false ∧ jO qu cs os = oz ∧ jH qu cs os = false ∧ jN qu cs os = 0 := by
  have h3 : right cs = false := by cases h : right cs <;> simp [h] at h2 ⊢
  refine ⟨by unfold jE; rw [if_neg (by rw [h1]; simp), if_neg (by rw [h3]; simp)], j_not ?_⟩
  unfold jOK; rw [h3]; simp
theorem j2 {qu : Int} {cs : List Cn} {os : List O} {i : Nat} {wt : Bool} {o : O} (h1 : ((decide (qu < 1)) || (decide (qu > 3))) = false) (h2 : (!(right cs)) = false) (hI : JI qu cs os i wt o) (h3 : (decide ((i : Int) < ((((sortO os).length : Nat)) : Int)) && (!wt)) = false) : jE qu cs = 0 ∧ jW qu cs os = wt ∧ jO qu cs os = o ∧ jH qu cs os = (wt == (qu == 1)) ∧ jN qu cs os = (((sortO os).length : Nat) : Int) := by
  have h4 := right_of h2
  have hk : jOK qu cs = true := by unfold jOK; rw [h1, h4]; rfl
  have hw : jW qu cs os = wt := by unfold jW; rw [hk, Bool.true_and, (hI.done h3).1]
  refine ⟨by unfold jE; rw [if_neg (by rw [h1]; simp), if_pos h4], hw, by unfold jO; rw [if_pos hk, (hI.done h3).2], by unfold jH; rw [hk, Bool.true_and, hw], by unfold jN; rw [if_pos hk]⟩
end Go.Proofs.YtfdfjakafiglmaaDoor
namespace Go.Proofs.YtfdfjakafiglmaaDoor
open Go.RowKit
set_option linter.unusedVariables false
set_option linter.unusedSimpArgs false
set_option maxRecDepth 100000
set_option maxHeartbeats 2000000
set_option simprocs false
open Go.Sort
def Can (x : O) : Prop := ∀ k, 27 ≤ k → x k = 0
theorem lx_both (p q : O) : ∀ (f i : Nat), lx p q f i = false → lx q p f i = false → ∀ k, i ≤ k → k < i + f → p k = q k
  | 0, i, _, _, k, h1, h2 => by omega
  | f + 1, i, h1, h2, k, k1, k2 => by
    unfold lx at h1 h2
    by_cases e : p i = q i
    · rw [if_pos e] at h1
      rw [if_pos e.symm] at h2
      by_cases hk : k = i
      · subst hk; exact e
      · exact lx_both p q f (i + 1) h1 h2 k (by omega) (by omega)
    · rw [if_neg e] at h1
      rw [if_neg (fun h => e h.symm)] at h2
      have := of_decide_eq_false h1
      have := of_decide_eq_false h2
      omega
theorem lt_tri {x y : O} (hx : Can x) (hy : Can y) (h1 : lessO x y = false) (h2 : lessO y x = false) : x = y := by
  funext k
  by_cases hk : k < 27
  · exact lx_both x y 27 0 h1 h2 k (by omega) (by omega)
  · rw [hx k (by omega), hy k (by omega)]
theorem eqO_at {x y : O} (h : eqO x y = true) : ∀ k, k < 27 → x k = y k := by
  unfold eqO at h
  simp only [Bool.and_eq_true, beq_iff_eq] at h
  intro k hk
  have : k = 0 ∨ k = 1 ∨ k = 2 ∨ k = 3 ∨ k = 4 ∨ k = 5 ∨ k = 6 ∨ k = 7 ∨ k = 8 ∨ k = 9 ∨ k = 10 ∨ k = 11 ∨ k = 12 ∨ k = 13 ∨ k = 14 ∨ k = 15 ∨ k = 16 ∨ k = 17 ∨ k = 18 ∨ k = 19 ∨ k = 20 ∨ k = 21 ∨ k = 22 ∨ k = 23 ∨ k = 24 ∨ k = 25 ∨ k = 26 := by omega
  obtain ⟨e0, e1, e2, e3, e4, e5, e6, e7, e8, e9, e10, e11, e12, e13, e14, e15, e16, e17, e18, e19, e20, e21, e22, e23, e24, e25, e26⟩ := h
  rcases this with rfl | rfl | rfl | rfl | rfl | rfl | rfl | rfl | rfl | rfl | rfl | rfl | rfl | rfl | rfl | rfl | rfl | rfl | rfl | rfl | rfl | rfl | rfl | rfl | rfl | rfl | rfl <;> assumption
theorem eqO_refl (x : O) : eqO x x = true := by
  unfold eqO
  simp only [beq_self_eq_true, Bool.and_self]
theorem eqO_eq {x y : O} (hx : Can x) (hy : Can y) (h : eqO x y = true) : x = y := by
  funext k
  by_cases hk : k < 27
  · exact eqO_at h k hk
  · rw [hx k (by omega), hy k (by omega)]
theorem less_irr (x : O) : lessO x x = false := lx_irr x 27 0
theorem less_asym {x y : O} (h : lessO x y = true) : lessO y x = false := by
  cases e : lessO y x with
  | false => rfl
  | true => have := swoO.trans x y x h e; rw [less_irr] at this; cases this
abbrev Srt (l : List O) : Prop := l.Pairwise fun x y => lessO x y = true
theorem srt_uni : ∀ {l m : List O}, Srt l → Srt m → (∀ x, x ∈ l ↔ x ∈ m) → l = m
  | [], [], _, _, _ => rfl
  | [], y :: m, _, _, h => by have := (h y).2 (by simp); simp at this
  | x :: l, [], _, _, h => by have := (h x).1 (by simp); simp at this
  | x :: l, y :: m, h1, h2, h => by
    have a1 := List.pairwise_cons.1 h1
    have a2 := List.pairwise_cons.1 h2
    have e : x = y := by
      have hx := (h x).1 (by simp)
      have hy := (h y).2 (by simp)
      rcases List.mem_cons.1 hx with rfl | hx
      · rfl
      · rcases List.mem_cons.1 hy with rfl | hy
        · rfl
        · have k1 := a2.1 x hx
          have k2 := a1.1 y hy
          rw [less_asym k1] at k2; cases k2
    subst e
    congr 1
    refine srt_uni a1.2 a2.2 fun z => ⟨fun hz => ?_, fun hz => ?_⟩
    · rcases List.mem_cons.1 ((h z).1 (by simp [hz])) with rfl | hz'
      · have := a1.1 z hz; rw [less_irr] at this; cases this
      · exact hz'
    · rcases List.mem_cons.1 ((h z).2 (by simp [hz])) with rfl | hz'
      · have := a2.1 z hz; rw [less_irr] at this; cases this
      · exact hz'
/-! the reference -/
theorem pos_split (l : List O) (x : O) : (∀ y ∈ l.take (posO l x), lessO y x = true) ∧ (posO l x < l.length → lessO (l.getD (posO l x) oz) x = false) := by
  induction l with
  | nil => exact ⟨fun y hy => by simp at hy, fun h => by simp at h⟩
  | cons a l ih =>
    unfold posO at ih ⊢
    rw [List.takeWhile_cons]
    cases e : lessO a x with
    | true =>
      simp only [if_true, List.length_cons]
      refine ⟨fun y hy => ?_, fun h => ?_⟩
      · rw [List.take_succ_cons] at hy
        rcases List.mem_cons.1 hy with rfl | hy
        · exact e
        · exact ih.1 y hy
      · exact ih.2 (by omega)
    | false =>
      simp only [Bool.false_eq_true, if_false, List.length_nil]
      exact ⟨fun y hy => by simp at hy, fun _ => e⟩
theorem ins_srt {l : List O} {x : O} (hl : Srt l) (hc : ∀ y ∈ l, Can y) (hx : Can x) : Srt (insO l x) ∧ ∀ y, y ∈ insO l x ↔ y ∈ l ∨ y = x := by
  have ⟨s1, s2⟩ := pos_split l x
  have hle : posO l x ≤ l.length := by unfold posO; exact (List.takeWhile_prefix _).length_le
  unfold insO
  split
  · next h =>
    rw [Bool.and_eq_true, decide_eq_true_eq] at h
    refine ⟨hl, fun y => ⟨.inl, fun hy => ?_⟩⟩
    rcases hy with hy | rfl
    · exact hy
    · have hm : l.getD (posO l y) oz ∈ l := by simp [List.getD, h.1]
      have := eqO_eq (hc _ hm) hx h.2
      rw [← this]; exact hm
  · next h =>
    have hgt : ∀ y ∈ l.drop (posO l x), lessO x y = true := by
      intro y hy
      have hlt : posO l x < l.length := by
        rcases Nat.lt_or_ge (posO l x) l.length with h | h
        · exact h
        · rw [List.drop_eq_nil_of_le h] at hy; cases hy
      have e : l.drop (posO l x) = l[posO l x] :: l.drop (posO l x + 1) := List.drop_eq_getElem_cons hlt
      have hg : l.getD (posO l x) oz = l[posO l x] := by simp [List.getD, hlt]
      have hm : l[posO l x] ∈ l := List.getElem_mem hlt
      have h3 := s2 hlt
      rw [hg] at h3 h
      have hd : lessO x l[posO l x] = true := by
        cases hh : lessO x l[posO l x] with
        | true => rfl
        | false =>
          have := lt_tri (hc _ hm) hx h3 hh
          exact absurd (by rw [this, eqO_refl, decide_eq_true hlt]; rfl) h
      rw [e] at hy
      rcases List.mem_cons.1 hy with rfl | hy
      · exact hd
      · have hp : (l.drop (posO l x)).Pairwise fun x y => lessO x y = true := hl.sublist (List.drop_sublist _ _)
        rw [e] at hp
        exact swoO.trans _ _ _ hd ((List.pairwise_cons.1 hp).1 y hy)
    unfold putO
    refine ⟨?_, fun y => ?_⟩
    · refine List.pairwise_append.2 ⟨hl.sublist (List.take_sublist _ _), List.pairwise_cons.2 ⟨hgt, hl.sublist (List.drop_sublist _ _)⟩, fun a ha b hb => ?_⟩
      rcases List.mem_cons.1 hb with rfl | hb
      · exact s1 a ha
      · exact swoO.trans _ _ _ (s1 a ha) (hgt b hb)
    · rw [List.mem_append, List.mem_cons]
      constructor
      · rintro (h | rfl | h)
        · exact .inl (List.mem_of_mem_take h)
        · exact .inr rfl
        · exact .inl (List.mem_of_mem_drop h)
      · rintro (h | rfl)
        · rw [← List.take_append_drop (posO l x) l] at h
          rcases List.mem_append.1 h with h | h
          · exact .inl h
          · exact .inr (.inr h)
        · exact .inr (.inl rfl)
theorem fold_srt : ∀ (os l : List O), Srt l → (∀ y ∈ l, Can y) → (∀ y ∈ os, Can y) → Srt (os.foldl insO l) ∧ ∀ y, y ∈ os.foldl insO l ↔ y ∈ l ∨ y ∈ os
  | [], l, h, _, _ => ⟨h, fun y => by simp⟩
  | x :: os, l, h, hc, ho => by
    have hi := ins_srt h hc (ho x (by simp))
    have hc' : ∀ y ∈ insO l x, Can y := fun y hy => ((hi.2 y).1 hy).elim (hc y) (fun e => e ▸ ho x (by simp))
    have := fold_srt os (insO l x) hi.1 hc' (fun y hy => ho y (by simp [hy]))
    refine ⟨this.1, fun y => ?_⟩
    rw [List.foldl_cons, this.2 y, hi.2 y, List.mem_cons]
    constructor
    · rintro ((h | h) | h)
      · exact .inl h
      · exact .inr (.inl h)
      · exact .inr (.inr h)
    · rintro (h | h | h)
      · exact .inl (.inl h)
      · exact .inl (.inr h)
      · exact .inr h
theorem sortO_srt {os : List O} (ho : ∀ y ∈ os, Can y) : Srt (sortO os) ∧ ∀ y, y ∈ sortO os ↔ y ∈ os := by
  have := fold_srt os [] List.Pairwise.nil (fun y hy => by cases hy) ho
  exact ⟨this.1, fun y => by rw [sortO, this.2 y]; simp⟩
/-! the program -/
theorem cA_srt {s : Array O} {n : Nat} (hs : SortedIn lessO 0 n s) (hc : ∀ i, i < n → Can (s[i]!)) : ∀ i, i ≤ n → Srt (cA s i) ∧ (∀ x, x ∈ cA s i ↔ ∃ p, p < i ∧ s[p]! = x) ∧ (0 < i → ∀ x ∈ cA s i, x = s[i - 1]! ∨ lessO x (s[i - 1]!) = true)
  | 0, _ => ⟨List.Pairwise.nil, fun x => by simp [cA], fun h => by omega⟩
  | i + 1, hi => by
    obtain ⟨h1, h2, h3⟩ := cA_srt hs hc i (by omega)
    cases hd : (decide (0 < i) && eqO (s[i]!) (s[i - 1]!)) with
    | true =>
      have hi0 := jlt hd
      have heq := eqO_eq (hc i (by omega)) (hc (i - 1) (by omega)) (jrt hd)
      rw [cA, if_pos hd]
      refine ⟨h1, fun x => ?_, fun _ x hx => ?_⟩
      · rw [h2 x]
        constructor
        · rintro ⟨p, hp, e⟩; exact ⟨p, by omega, e⟩
        · rintro ⟨p, hp, e⟩
          by_cases hpi : p = i
          · subst hpi; exact ⟨p - 1, by omega, by rw [← heq]; exact e⟩
          · exact ⟨p, by omega, e⟩
      · have := h3 hi0 x hx
        rw [Nat.add_sub_cancel, heq]; exact this
    | false =>
      rw [cA, if_neg (by rw [hd]; simp)]
      have hlt : 0 < i → lessO (s[i - 1]!) (s[i]!) = true := fun hi0 => by
        cases hh : lessO (s[i - 1]!) (s[i]!) with
        | true => rfl
        | false =>
          have := lt_tri (hc i (by omega)) (hc (i - 1) (by omega)) (hs (i - 1) i (by omega) (by omega) (by omega)) hh
          rw [this, eqO_refl, decide_eq_true hi0] at hd; cases hd
      have hall : ∀ x ∈ cA s i, lessO x (s[i]!) = true := fun x hx => by
        have hi0 : 0 < i := by
          rcases Nat.eq_zero_or_pos i with rfl | h
          · simp [cA] at hx
          · exact h
        rcases h3 hi0 x hx with rfl | h
        · exact hlt hi0
        · exact swoO.trans _ _ _ h (hlt hi0)
      refine ⟨List.pairwise_append.2 ⟨h1, List.pairwise_singleton _ _, fun a ha b hb => by simp at hb; subst hb; exact hall a ha⟩, fun x => ?_, fun _ x hx => ?_⟩
      · rw [List.mem_append, h2 x]
        constructor
        · rintro (⟨p, hp, e⟩ | h)
          · exact ⟨p, by omega, e⟩
          · simp at h; exact ⟨i, by omega, h.symm⟩
        · rintro ⟨p, hp, e⟩
          by_cases hpi : p = i
          · subst hpi; exact .inr (by simp [e])
          · exact .inl ⟨p, by omega, e⟩
      · rw [Nat.add_sub_cancel]
        rcases List.mem_append.1 hx with h | h
        · exact .inr (hall x h)
        · simp at h; exact .inl h
theorem sort_eq {os : List O} (ho : ∀ y ∈ os, Can y) : sortL os = sortO os := by
  have hq := pdq_sorts lessO swoO os.toArray 0 os.length (Go.Sort.bitsLen os.length) true true (Nat.zero_le _) (by simp) (.inl rfl)
  have hsz := ps_sz os
  unfold sortL
  generalize Go.Sort.pdq lessO os.toArray 0 os.length (Go.Sort.bitsLen os.length) true true = s at hq hsz ⊢
  have hp : s.toList.Perm os := by
    have := hq.1.2.2
    rw [Array.extract_eq_self_of_le (by omega), Array.extract_eq_self_of_le (by simp)] at this
    simpa using this
  have hget : ∀ i, i < os.length → s[i]! ∈ s.toList := fun i hi => by
    have : i < s.size := by omega
    rw [getElem!_pos s i this]
    simp
  have hc : ∀ i, i < os.length → Can (s[i]!) := fun i hi => ho _ (hp.mem_iff.1 (hget i hi))
  have hr := cA_srt hq.2 hc os.length (Nat.le_refl _)
  have ho2 := sortO_srt ho
  refine srt_uni hr.1 ho2.1 fun x => ?_
  rw [hr.2.1 x, ho2.2 x, ← hp.mem_iff]
  constructor
  · rintro ⟨p, hp', rfl⟩; exact hget p hp'
  · intro hx
    obtain ⟨p, hp', e⟩ := List.getElem_of_mem hx
    have hps : p < s.size := by simpa using hp'
    exact ⟨p, by omega, by rw [getElem!_pos s p hps]; simpa using e⟩
end Go.Proofs.YtfdfjakafiglmaaDoor
namespace Go.Proofs.YtfdfjakafiglmaaDoor
open Go.RowKit
set_option linter.unusedVariables false
set_option linter.unusedSimpArgs false
set_option maxRecDepth 100000
set_option maxHeartbeats 2000000
set_option simprocs false
abbrev cc (c : Cn) : List SV := [.int .i64 c.kd, .int .i64 c.th, .int .i64 c.rg, .int .i64 c.lc, .int .i64 c.vl]
set_option simprocs true in
theorem nd_any (c : Cn) : (node0 c.kd c.th c.rg c.lc c.vl = true ∧ c.n = parts0 c.kd) ∨ (node0 c.kd c.th c.rg c.lc c.vl = false ∧ c.n = -1) := by
  unfold Cn.n one0 node0 parts0
  by_cases h1 : c.kd = 1
  · by_cases a1 : 0 ≤ c.th <;> by_cases a2 : c.th < 3 <;> by_cases a3 : 0 ≤ c.rg <;> by_cases a4 : c.rg < 8 <;> by_cases a5 : c.lc = 0 <;> simp [h1, a1, a2, a3, a4, a5]
  by_cases h2 : c.kd = 2
  · by_cases a1 : 0 ≤ c.lc <;> by_cases a2 : c.lc < 3 <;> by_cases a3 : c.th = 0 <;> by_cases a4 : c.rg = 0 <;> simp [h2, a1, a2, a3, a4]
  by_cases h3 : c.kd = 3
  · by_cases a1 : c.th = 0 <;> by_cases a2 : c.rg = 0 <;> by_cases a3 : c.lc = 0 <;> by_cases a4 : c.vl = 0 <;> simp [h3, a1, a2, a3, a4]
  by_cases h4 : c.kd = 4
  · by_cases a1 : c.th = 0 <;> by_cases a2 : c.rg = 0 <;> by_cases a3 : c.lc = 0 <;> by_cases a4 : c.vl = 0 <;> simp [h4, a1, a2, a3, a4]
  by_cases h5 : c.kd = 5
  · by_cases a1 : c.th = 0 <;> by_cases a2 : c.rg = 0 <;> by_cases a3 : c.lc = 0 <;> by_cases a4 : c.vl = 0 <;> simp [h5, a1, a2, a3, a4]
  simp [h1, h2, h3, h4, h5]
theorem parts_rng (k : Int) : 0 ≤ parts0 k ∧ parts0 k ≤ 2 := by unfold parts0; split <;> (try split) <;> (try split) <;> omega
theorem nd_t {c : Cn} (h : node0 c.kd c.th c.rg c.lc c.vl = true) : c.n = parts0 c.kd ∧ 0 ≤ parts0 c.kd ∧ parts0 c.kd ≤ 2 := by
  rcases nd_any c with h1 | h1
  · exact ⟨h1.2, parts_rng _⟩
  · rw [h] at h1; cases h1.1
theorem nd_f {c : Cn} (h : node0 c.kd c.th c.rg c.lc c.vl = false) : c.n < 0 := by
  rcases nd_any c with h1 | h1
  · rw [h] at h1; cases h1.1
  · omega
section
variable {L : List Cn} {n i : Nat} {hv : Int}
theorem RI.get (h : RI (L.take n) i hv) (hn : n ≤ L.length) (h1 : (i : Int) < ((n : Nat) : Int)) : (L.take n).getD ((i : Int)).toNat Cn.z = (L.getD ((i : Int)).toNat Cn.z) := getD_take (by omega)
theorem RI.b0 (h : ¬ ((n : Nat) : Int) > 32) (hn : n ≤ L.length) : RI (L.take n) 0 0 := by
  have hl : (L.take n).length = n := by simp; omega
  refine ⟨by omega, by omega, by omega, by omega, ?_⟩
  unfold right
  split
  · next hh =>
    have : n = 0 := by omega
    subst this
    rw [List.take_zero, List.drop_nil, rightGo]; rfl
  · rfl
theorem RI.bad (h : RI (L.take n) i hv) (hn : n ≤ L.length) (h1 : (i : Int) < ((n : Nat) : Int)) (h2 : (!(node0 (L.getD ((i : Int)).toNat Cn.z).kd (L.getD ((i : Int)).toNat Cn.z).th (L.getD ((i : Int)).toNat Cn.z).rg (L.getD ((i : Int)).toNat Cn.z).lc (L.getD ((i : Int)).toNat Cn.z).vl)) = true) : right (L.take n) = false := by
  have hl : (L.take n).length = n := by simp; omega
  have e := h.get hn h1
  have := nd_f (c := (L.getD ((i : Int)).toNat Cn.z)) (by revert h2; cases node0 (L.getD ((i : Int)).toNat Cn.z).kd (L.getD ((i : Int)).toNat Cn.z).th (L.getD ((i : Int)).toNat Cn.z).rg (L.getD ((i : Int)).toNat Cn.z).lc (L.getD ((i : Int)).toNat Cn.z).vl <;> simp)
  have ha := h.at (by rw [hl]; exact h1)
  rw [e, if_pos (.inl this)] at ha
  exact ha
theorem RI.bad2 (h : RI (L.take n) i hv) (hn : n ≤ L.length) (h1 : (i : Int) < ((n : Nat) : Int)) (h2 : (!(node0 (L.getD ((i : Int)).toNat Cn.z).kd (L.getD ((i : Int)).toNat Cn.z).th (L.getD ((i : Int)).toNat Cn.z).rg (L.getD ((i : Int)).toNat Cn.z).lc (L.getD ((i : Int)).toNat Cn.z).vl)) = false) (h3 : hv < parts0 (L.getD ((i : Int)).toNat Cn.z).kd) : right (L.take n) = false := by
  have hl : (L.take n).length = n := by simp; omega
  have e := h.get hn h1
  have hq := nd_t (c := (L.getD ((i : Int)).toNat Cn.z)) (by revert h2; cases node0 (L.getD ((i : Int)).toNat Cn.z).kd (L.getD ((i : Int)).toNat Cn.z).th (L.getD ((i : Int)).toNat Cn.z).rg (L.getD ((i : Int)).toNat Cn.z).lc (L.getD ((i : Int)).toNat Cn.z).vl <;> simp)
  have ha := h.at (by rw [hl]; exact h1)
  rw [e, if_pos (.inr (by omega))] at ha
  exact ha
theorem RI.go (h : RI (L.take n) i hv) (hn : n ≤ L.length) (h1 : (i : Int) < ((n : Nat) : Int)) (h2 : (!(node0 (L.getD ((i : Int)).toNat Cn.z).kd (L.getD ((i : Int)).toNat Cn.z).th (L.getD ((i : Int)).toNat Cn.z).rg (L.getD ((i : Int)).toNat Cn.z).lc (L.getD ((i : Int)).toNat Cn.z).vl)) = false) (h3 : ¬ hv < parts0 (L.getD ((i : Int)).toNat Cn.z).kd) : RI (L.take n) (i + 1) (hv + (1 - parts0 (L.getD ((i : Int)).toNat Cn.z).kd)) := by
  have hl : (L.take n).length = n := by simp; omega
  have e := h.get hn h1
  have hq := nd_t (c := (L.getD ((i : Int)).toNat Cn.z)) (by revert h2; cases node0 (L.getD ((i : Int)).toNat Cn.z).kd (L.getD ((i : Int)).toNat Cn.z).th (L.getD ((i : Int)).toNat Cn.z).rg (L.getD ((i : Int)).toNat Cn.z).lc (L.getD ((i : Int)).toNat Cn.z).vl <;> simp)
  have ha := h.at (by rw [hl]; exact h1)
  rw [e, if_neg (by omega)] at ha
  have k := h.2.2
  exact ⟨by omega, h.2.1, by omega, by omega, by rw [ha, hq.1]; congr 1; omega⟩
end
theorem pright_ (L : List Cn) (n : Nat) (c : Nat) (hn : n ≤ L.length) : Fn Tryd.prog 9 [.sl 0 n c] [some (.lst 5 L.length (fun zz => cc (L.getD zz Cn.z)))] (Rt (.bool (right (L.take n))) [some (.lst 5 L.length (fun zz => cc (L.getD zz Cn.z)))]) :=
 enterM (n := 34) (by kernel_rfl) Tryd.func9 rfl rfl rfl fun G w a h0 A => N hX 13 A rfl rfl fun A => forkD 8 A rfl
  (fun h1 A => N hX 7 A rfl rfl fun A => RETN hX A rfl rfl rfl h0 rfl rfl rfl rfl (by rw [show right (L.take n) = false by unfold right; rw [if_pos (by simp; omega)]]; rfl) rfl)
  (fun h1 A => N hX 17 A rfl rfl fun A => LOOP2 (fun (i : Nat) (hv : Int) => [(2, .ff), (3, .int .i64 hv), (9, .sl 0 n c), (10, .int .i64 ((n : Nat) : Int)), (11, .int .i64 (i : Int))]) (fun (i : Nat) (hv : Int) => [some (.lst 5 L.length (fun zz => cc (L.getD zz Cn.z)))]) (fun (i : Nat) (hv : Int) => RI (L.take n) i hv) (fun (i : Nat) (hv : Int) => n - i) 0 0 (RI.b0 h1 hn) ((A.cut [2, 3, 9, 10, 11] rfl).trunc 1 rfl rfl rfl (by simp only [List.length_cons, List.length_nil] at h0; omega)) fun i hv hI {G a w} A => N hX 6 A rfl rfl fun A => forkD 12 A rfl
    (fun h2 A => N hX 15 A rfl (ok_d (by have hq := hI.2.2; have hl : (L.take n).length = n := (by simp; omega); have h32 := hI.2.1; omega) <| ok_d (by have hq := hI.2.2; have hl : (L.take n).length = n := (by simp; omega); have h32 := hI.2.1; omega) <| okE_nil) fun A => N hX 2 A rfl rfl fun A => CALL1 [] (node_ ((L.getD (((i : Int)).toNat) Cn.z).kd) ((L.getD (((i : Int)).toNat) Cn.z).th) ((L.getD (((i : Int)).toNat) Cn.z).rg) ((L.getD (((i : Int)).toNat) Cn.z).lc) ((L.getD (((i : Int)).toNat) Cn.z).vl)) A rfl rfl rfl rfl rfl rfl rfl fun A => N hX 2 A rfl rfl fun A => fork 18 A rfl
     (fun h3 A => N hX 15 A rfl rfl fun A => RETN hX A rfl rfl rfl h0 rfl rfl rfl rfl (by rw [hI.bad hn h2 h3]; rfl) rfl)
     (fun h3 A => N hX 3 A rfl rfl fun A => CALL1 [] (parts_ ((L.getD (((i : Int)).toNat) Cn.z).kd)) A rfl rfl rfl rfl rfl rfl rfl fun A => N hX 4 A rfl rfl fun A => forkD 24 A rfl
      (fun h4 A => N hX 7 A rfl rfl fun A => RETN hX A rfl rfl rfl h0 rfl rfl rfl rfl (by rw [hI.bad2 hn h2 h3 h4]; rfl) rfl)
      (fun h4 A => N hX 7 A rfl rfl fun A => CALL1 [] (parts_ ((L.getD (((i : Int)).toNat) Cn.z).kd)) A rfl rfl rfl rfl rfl rfl rfl fun A => N hX 6 A rfl (ok_d (by have hq := hI.2.2; have hl : (L.take n).length = n := (by simp; omega); have h32 := hI.2.1; have hp := nd_t (c := (L.getD ((i : Int)).toNat Cn.z)) (by revert h3; cases node0 (L.getD ((i : Int)).toNat Cn.z).kd (L.getD ((i : Int)).toNat Cn.z).th (L.getD ((i : Int)).toNat Cn.z).rg (L.getD ((i : Int)).toNat Cn.z).lc (L.getD ((i : Int)).toNat Cn.z).vl <;> simp); omega) <| ok_d (by have hq := hI.2.2; have hl : (L.take n).length = n := (by simp; omega); have h32 := hI.2.1; have hp := nd_t (c := (L.getD ((i : Int)).toNat Cn.z)) (by revert h3; cases node0 (L.getD ((i : Int)).toNat Cn.z).kd (L.getD ((i : Int)).toNat Cn.z).th (L.getD ((i : Int)).toNat Cn.z).rg (L.getD ((i : Int)).toNat Cn.z).lc (L.getD ((i : Int)).toNat Cn.z).vl <;> simp); omega) <| okE_nil) fun A => N hX 4 A rfl (ok_d (by have hq := hI.2.2; have hl : (L.take n).length = n := (by simp; omega); have h32 := hI.2.1; have hp := nd_t (c := (L.getD ((i : Int)).toNat Cn.z)) (by revert h3; cases node0 (L.getD ((i : Int)).toNat Cn.z).kd (L.getD ((i : Int)).toNat Cn.z).th (L.getD ((i : Int)).toNat Cn.z).rg (L.getD ((i : Int)).toNat Cn.z).lc (L.getD ((i : Int)).toNat Cn.z).vl <;> simp); omega) <| okE_nil) fun A => ⟨i + 1, hv + (1 - parts0 (L.getD ((i : Int)).toNat Cn.z).kd), _, (by omega), (hI.go hn h2 h3 h4), ((A.cut [2, 3, 9, 10, 11] rfl).trunc 1 rfl rfl rfl (by simp only [List.length_cons, List.length_nil] at h0; omega))⟩)))
    (fun h2 A => N hX 11 A rfl rfl fun A => RETN hX A rfl rfl rfl h0 rfl rfl rfl rfl (by rw [hI.done (by rw [List.length_take, Nat.min_eq_left hn]; exact h2)]; rfl) rfl))
def hv0 (p : O) (kd : Int) (th : Int) (rg : Int) (lc : Int) (vl : Int) (l : List Bool) (j : Nat) (k : Nat) : Bool := if kd = 1 then ([[(p 0), (p 1), (p 2), (p 3), (p 4), (p 5), (p 6), (p 7)].getD (rg).toNat 0, [(p 8), (p 9), (p 10), (p 11), (p 12), (p 13), (p 14), (p 15)].getD (rg).toNat 0, [(p 16), (p 17), (p 18), (p 19), (p 20), (p 21), (p 22), (p 23)].getD (rg).toNat 0].getD (th).toNat 0) == vl else if kd = 2 then ([(p 24), (p 25), (p 26)].getD (lc).toNat 0) == vl else if kd = 3 then !(l.getD ((((j : Nat) : Int) + 0).toNat) false) else if kd = 4 then (l.getD ((((j : Nat) : Int) + 0).toNat) false) && (l.getD ((((j : Nat) : Int) + 1).toNat) false) else (l.getD ((((j : Nat) : Int) + 0).toNat) false) || (l.getD ((((j : Nat) : Int) + 1).toNat) false)
theorem hv_ (p : O) (kd : Int) (th : Int) (rg : Int) (lc : Int) (vl : Int) (l : List Bool) (j : Nat) (k : Nat) (hk : j + k ≤ l.length) (q1 : kd = 1 → 0 ≤ th ∧ th < 3 ∧ 0 ≤ rg ∧ rg < 8) (q2 : kd = 2 → 0 ≤ lc ∧ lc < 3) (q3 : kd = 3 → 1 ≤ k) (q4 : kd ≠ 1 → kd ≠ 2 → kd ≠ 3 → 2 ≤ k) : Fn Tryd.prog 37 [.agg [.int .i64 kd, .int .i64 th, .int .i64 rg, .int .i64 lc, .int .i64 vl], .st 1 1 j k 0, .ptr 0 0] [some (.blk (oc p)), some (.row 4 1 l.length 0 (fun zz => [.bool (l.getD zz false)]))] (Rt (.bool (hv0 p kd th rg lc vl l j k)) [some (.blk (oc p)), some (.row 4 1 l.length 0 (fun zz => [.bool (l.getD zz false)]))]) :=
 enterM (n := 55) (by kernel_rfl) Tryd.func37 rfl rfl rfl fun G w a h0 A => N hX 20 A rfl rfl fun A => forkE 8 A rfl
  (fun h1 A => N hX 2 A rfl rfl fun A => DRAWN hX hmo [] [] A rfl (ok_d (by omega) <| ok_d (by omega) <| ok_d (by omega) <| ok_d (by omega) <| okE_nil) rfl rfl (by kernel_rfl) (effAll_nil _ _) trivial fun A => N hX 2 A rfl rfl fun A => RETN hX A rfl rfl rfl h0 rfl rfl rfl rfl (by simp only [oneS, nb, nbL, nbH, hv0, if_pos h1]) rfl)
  (fun h1 A => N hX 7 A rfl rfl fun A => forkE 21 A rfl
   (fun h2 A => N hX 2 A rfl rfl fun A => DRAWN hX hmo [] [] A rfl (ok_d (by omega) <| ok_d (by omega) <| okE_nil) rfl rfl (by kernel_rfl) (effAll_nil _ _) trivial fun A => N hX 2 A rfl rfl fun A => RETN hX A rfl rfl rfl h0 rfl rfl rfl rfl (by simp only [oneS, nb, nbL, nbH, hv0, if_neg (h1), if_pos h2]) rfl)
   (fun h2 A => N hX 7 A rfl rfl fun A => forkE 31 A rfl
    (fun h3 A => N hX 11 A rfl (ok_d (by omega) <| ok_d (by omega) <| okE_nil) fun A => RETN hX A rfl rfl rfl h0 rfl rfl rfl rfl (by simp only [oneS, nb, nbL, nbH, hv0, if_neg (h1), if_neg (h2), if_pos h3]) rfl)
    (fun h3 A => N hX 7 A rfl rfl fun A => forkE 37 A rfl
     (fun h4 A => N hX 15 A rfl (ok_d (by omega) <| ok_d (by omega) <| ok_r <| ok_g (fun hg => (by omega)) <| ok_r <| ok_g (fun hg => (by omega)) <| ok_r <| okE_nil) fun A => RETN hX A rfl rfl rfl h0 rfl rfl rfl rfl (by simp only [oneS, nb, nbL, nbH, hv0, if_neg (h1), if_neg (h2), if_neg (h3), if_pos h4]) rfl)
     (fun h4 A => N hX 18 A rfl (ok_d (by omega) <| ok_d (by omega) <| ok_r <| ok_g (fun hg => (by omega)) <| ok_r <| ok_g (fun hg => (by omega)) <| ok_r <| okE_nil) fun A => RETN hX A rfl rfl rfl h0 rfl rfl rfl rfl (by simp only [oneS, nb, nbL, nbH, hv0, if_neg (h1), if_neg (h2), if_neg (h3), if_neg (h4)]) rfl))))
theorem set_take {α : Type} : ∀ (l : List α) (k : Nat) (v : α), k < l.length → (l.set k v).take (k + 1) = l.take k ++ [v]
  | [], k, v, h => by simp at h
  | a :: l, 0, v, h => by simp
  | a :: l, k + 1, v, h => by
    rw [List.set_cons_succ, List.take_succ_cons, set_take l k v (by simpa using h)]; rfl
theorem fold_st {p : O} {c : Cn} {l : List Bool} {F : Nat} (hn : ¬ c.n < 0) (hl : c.n ≤ (l.length : Int)) (hp : c.n = parts0 c.kd) (hF : F = (((l.length : Nat) : Int) - parts0 c.kd).toNat) : l.take F ++ [hv0 p c.kd c.th c.rg c.lc c.vl l F (l.length - F)] = stepL p c l := by
  have hk := cn_kind hn
  unfold hv0
  rcases hk with h | h | h | h | h
  · rw [st1 h.1, if_pos h.1, List.take_of_length_le (by omega)]
  · rw [st2 h.1, if_neg (by omega), if_pos h.1, List.take_of_length_le (by omega)]
  · rw [st3 h.1, if_neg (by omega), if_neg (by omega), if_pos h.1]
    have e := set_take l (l.length - 1) (!(l.getD (l.length - 1) false)) (by omega)
    rw [List.take_of_length_le (by simp; omega)] at e
    rw [show F = l.length - 1 by omega, show (((l.length - 1 : Nat) : Int) + 0).toNat = l.length - 1 by omega, show (((l.length : Nat) : Int) - 1).toNat = l.length - 1 by omega, e]
  · rw [st4 h.1, if_neg (by omega), if_neg (by omega), if_neg (by omega), if_pos h.1]
    have e := set_take l (l.length - 2) (l.getD (l.length - 2) false && l.getD (l.length - 1) false) (by omega)
    rw [show F = l.length - 2 by omega, show (((l.length - 2 : Nat) : Int) + 0).toNat = l.length - 2 by omega, show (((l.length - 2 : Nat) : Int) + 1).toNat = l.length - 1 by omega, show (((l.length : Nat) : Int) - 2).toNat = l.length - 2 by omega, show (((l.length : Nat) : Int) - 1).toNat = l.length - 1 by omega, ← e, show l.length - 2 + 1 = l.length - 1 by omega]
  · rw [st5 h.1, if_neg (by omega), if_neg (by omega), if_neg (by omega), if_neg (by omega)]
    have e := set_take l (l.length - 2) (l.getD (l.length - 2) false || l.getD (l.length - 1) false) (by omega)
    rw [show F = l.length - 2 by omega, show (((l.length - 2 : Nat) : Int) + 0).toNat = l.length - 2 by omega, show (((l.length - 2 : Nat) : Int) + 1).toNat = l.length - 1 by omega, show (((l.length : Nat) : Int) - 2).toNat = l.length - 2 by omega, show (((l.length : Nat) : Int) - 1).toNat = l.length - 1 by omega, ← e, show l.length - 2 + 1 = l.length - 1 by omega]
section
variable {p : O} {L : List Cn} {n i : Nat} {l : List Bool}
theorem EI.i0 (hr : right (L.take n) = true) : EI p (L.take n) [] 0 := EI.init (by rw [hr]; rfl)
theorem EI.kn (hI : EI p (L.take n) l i) (hn : n ≤ L.length) (h1 : (i : Int) < ((n : Nat) : Int)) : ¬ (L.getD ((i : Int)).toNat Cn.z).n < 0 ∧ (L.getD ((i : Int)).toNat Cn.z).n ≤ (l.length : Int) ∧ (L.getD ((i : Int)).toNat Cn.z).n = parts0 (L.getD ((i : Int)).toNat Cn.z).kd ∧ (((L.getD ((i : Int)).toNat Cn.z).kd = 1 ∧ (L.getD ((i : Int)).toNat Cn.z).n = 0 ∧ 0 ≤ (L.getD ((i : Int)).toNat Cn.z).th ∧ (L.getD ((i : Int)).toNat Cn.z).th < 3 ∧ 0 ≤ (L.getD ((i : Int)).toNat Cn.z).rg ∧ (L.getD ((i : Int)).toNat Cn.z).rg < 8) ∨ ((L.getD ((i : Int)).toNat Cn.z).kd = 2 ∧ (L.getD ((i : Int)).toNat Cn.z).n = 0 ∧ 0 ≤ (L.getD ((i : Int)).toNat Cn.z).lc ∧ (L.getD ((i : Int)).toNat Cn.z).lc < 3) ∨ ((L.getD ((i : Int)).toNat Cn.z).kd = 3 ∧ (L.getD ((i : Int)).toNat Cn.z).n = 1) ∨ ((L.getD ((i : Int)).toNat Cn.z).kd = 4 ∧ (L.getD ((i : Int)).toNat Cn.z).n = 2) ∨ ((L.getD ((i : Int)).toNat Cn.z).kd = 5 ∧ (L.getD ((i : Int)).toNat Cn.z).n = 2)) ∧ l.length ≤ i := by
  have hl : (L.take n).length = n := by simp; omega
  have h := (hI.at (by rw [hl]; exact h1)).1
  rw [getD_take (by omega)] at h
  have hn0 : ¬ (L.getD ((i : Int)).toNat Cn.z).n < 0 := fun h' => h (.inl h')
  refine ⟨hn0, by omega, ?_, cn_kind hn0, hI.ll⟩
  rcases nd_any (L.getD ((i : Int)).toNat Cn.z) with h2 | h2
  · exact h2.2
  · omega
theorem EI.nx (hI : EI p (L.take n) l i) (hr : right (L.take n) = true) (hn : n ≤ L.length) (h1 : (i : Int) < ((n : Nat) : Int)) : EI p (L.take n) (stepL p (L.getD ((i : Int)).toNat Cn.z) l) (i + 1) := by
  have hl : (L.take n).length = n := by simp; omega
  have := hI.next (by rw [hr]; rfl) (by rw [hl]; exact h1)
  rw [getD_take (by omega)] at this
  exact this
theorem EI.fi (hI : EI p (L.take n) l i) (hr : right (L.take n) = true) (hn : n ≤ L.length) (h1 : ¬ (i : Int) < ((n : Nat) : Int)) : l.length = 1 ∧ evalB p (L.take n) = l.getD 0 false := by
  have hl : (L.take n).length = n := by simp; omega
  exact ⟨hI.fin (by rw [hl]; exact h1), hI.done (by rw [hr]; rfl) (by rw [hl]; exact h1)⟩
end
theorem lapp1 {l : List Bool} {k : Nat} {b : Bool} (h : k ≤ l.length) : (l.take k ++ [b]).getD k false = b := by
  have := getD_app_1 (l := l.take k) (x := b) (d := false)
  rw [List.length_take, Nat.min_eq_left h] at this; exact this
theorem foldb_ (p : O) (L : List Cn) (n : Nat) (c : Nat) (hn : n ≤ L.length) (hN : n ≤ 1000000) (hr : right (L.take n) = true) : Fn Tryd.prog 36 [.sl 0 n c, .fn 37 [.ptr 1 0]] [some (.lst 5 L.length (fun zz => cc (L.getD zz Cn.z))), some (.blk (oc p))] (Rt (.bool (evalB p (L.take n))) [some (.lst 5 L.length (fun zz => cc (L.getD zz Cn.z))), some (.blk (oc p))]) :=
 enterM (n := 36) (by kernel_rfl) Tryd.func36 rfl rfl rfl fun G w a h0 A => N hX 19 A rfl rfl fun A => have A := A.nilRow 5 4 1 (fun zz => [.bool (([] : List Bool).getD zz false)]) rfl (fun z => ⟨_, rfl, rfl⟩); LOOP2 (fun (l : List Bool) (i : Nat) => [(1, .fn 37 [.ptr 1 0]), (4, .ff), (5, .sl 2 l.length 0), (9, .sl 0 n c), (10, .int .i64 ((n : Nat) : Int)), (11, .int .i64 (i : Int))]) (fun (l : List Bool) (i : Nat) => [some (.lst 5 L.length (fun zz => cc (L.getD zz Cn.z))), some (.blk (oc p)), some (.row 4 1 l.length 0 (fun zz => [.bool (l.getD zz false)]))]) (fun (l : List Bool) (i : Nat) => EI p (L.take n) l i) (fun (l : List Bool) (i : Nat) => n - i) [] 0 (EI.i0 hr) ((A.cut [1, 4, 5, 9, 10, 11] rfl).trunc 3 rfl rfl rfl (by simp only [List.length_cons, List.length_nil] at h0; omega)) fun l i hI {G a w} A => N hX 6 A rfl rfl fun A => forkD 12 A rfl
   (fun h1 A => N hX 14 A rfl (ok_d (by have hq := hI.kn hn h1; omega) <| ok_d (by have hq := hI.kn hn h1; omega) <| okE_nil) fun A => N hX 5 A rfl rfl fun A => CALL1 [] (parts_ ((L.getD (((i : Int)).toNat) Cn.z).kd)) A rfl rfl rfl rfl rfl rfl rfl fun A => N hX 4 A rfl (ok_d (by have hq := hI.kn hn h1; omega) <| okE_nil) fun A => DRAWN hX hmo [] [(8, .bool (hv0 p ((L.getD (((i : Int)).toNat) Cn.z).kd) ((L.getD (((i : Int)).toNat) Cn.z).th) ((L.getD (((i : Int)).toNat) Cn.z).rg) ((L.getD (((i : Int)).toNat) Cn.z).lc) ((L.getD (((i : Int)).toNat) Cn.z).vl) l ((((l.length : Nat) : Int) - (parts0 ((L.getD (((i : Int)).toNat) Cn.z).kd))).toNat) (l.length - (((l.length : Nat) : Int) - (parts0 ((L.getD (((i : Int)).toNat) Cn.z).kd))).toNat)), [some (.lst 5 L.length (fun zz => cc (L.getD zz Cn.z))), some (.blk (oc p)), some (.row 4 1 l.length 0 (fun zz => [.bool (l.getD zz false)])), some (.blk [.int .i64 ((L.getD (((i : Int)).toNat) Cn.z).kd), .int .i64 ((L.getD (((i : Int)).toNat) Cn.z).th), .int .i64 ((L.getD (((i : Int)).toNat) Cn.z).rg), .int .i64 ((L.getD (((i : Int)).toNat) Cn.z).lc), .int .i64 ((L.getD (((i : Int)).toNat) Cn.z).vl)])]), (10, .sl 5 (((((l.length : Nat) : Int) - (parts0 ((L.getD (((i : Int)).toNat) Cn.z).kd))).toNat) + 1) 0, [some (.lst 5 L.length (fun zz => cc (L.getD zz Cn.z))), some (.blk (oc p)), none, some (.blk [.int .i64 ((L.getD (((i : Int)).toNat) Cn.z).kd), .int .i64 ((L.getD (((i : Int)).toNat) Cn.z).th), .int .i64 ((L.getD (((i : Int)).toNat) Cn.z).rg), .int .i64 ((L.getD (((i : Int)).toNat) Cn.z).lc), .int .i64 ((L.getD (((i : Int)).toNat) Cn.z).vl)]), some (.blk [.bool (hv0 p ((L.getD (((i : Int)).toNat) Cn.z).kd) ((L.getD (((i : Int)).toNat) Cn.z).th) ((L.getD (((i : Int)).toNat) Cn.z).rg) ((L.getD (((i : Int)).toNat) Cn.z).lc) ((L.getD (((i : Int)).toNat) Cn.z).vl) l ((((l.length : Nat) : Int) - (parts0 ((L.getD (((i : Int)).toNat) Cn.z).kd))).toNat) (l.length - (((l.length : Nat) : Int) - (parts0 ((L.getD (((i : Int)).toNat) Cn.z).kd))).toNat))]), some (.row 4 1 (((((l.length : Nat) : Int) - (parts0 ((L.getD (((i : Int)).toNat) Cn.z).kd))).toNat) + 1) 0 (fun zz => [.bool ((l.take ((((l.length : Nat) : Int) - (parts0 ((L.getD (((i : Int)).toNat) Cn.z).kd))).toNat) ++ [hv0 p ((L.getD (((i : Int)).toNat) Cn.z).kd) ((L.getD (((i : Int)).toNat) Cn.z).th) ((L.getD (((i : Int)).toNat) Cn.z).rg) ((L.getD (((i : Int)).toNat) Cn.z).lc) ((L.getD (((i : Int)).toNat) Cn.z).vl) l ((((l.length : Nat) : Int) - (parts0 ((L.getD (((i : Int)).toNat) Cn.z).kd))).toNat) (l.length - (((l.length : Nat) : Int) - (parts0 ((L.getD (((i : Int)).toNat) Cn.z).kd))).toNat)]).getD zz false)]))])] A rfl (ok_d (by show 0 ≤ ((l.length : Nat) : Int) - (parts0 ((L.getD (((i : Int)).toNat) Cn.z).kd)) ∧ ((l.length : Nat) : Int) - (parts0 ((L.getD (((i : Int)).toNat) Cn.z).kd)) ≤ ((l.length : Nat) : Int); exact (by have hq := hI.kn hn h1; omega)) <| ok_d (by show 0 ≤ ((l.length : Nat) : Int) - (parts0 ((L.getD (((i : Int)).toNat) Cn.z).kd)) ∧ ((l.length : Nat) : Int) - (parts0 ((L.getD (((i : Int)).toNat) Cn.z).kd)) ≤ ((l.length : Nat) : Int); exact (by have hq := hI.kn hn h1; omega)) <| ok_d (by show 0 ≤ ((l.length : Nat) : Int) - (parts0 ((L.getD (((i : Int)).toNat) Cn.z).kd)) ∧ ((l.length : Nat) : Int) - (parts0 ((L.getD (((i : Int)).toNat) Cn.z).kd)) ≤ ((l.length : Nat) : Int); exact (by have hq := hI.kn hn h1; omega)) <| ok_d (by have hq := hI.kn hn h1; omega) <| okE_nil) rfl rfl (by kernel_rfl) ⟨callE [1, 2] (hv_ p ((L.getD (((i : Int)).toNat) Cn.z).kd) ((L.getD (((i : Int)).toNat) Cn.z).th) ((L.getD (((i : Int)).toNat) Cn.z).rg) ((L.getD (((i : Int)).toNat) Cn.z).lc) ((L.getD (((i : Int)).toNat) Cn.z).vl) l ((((l.length : Nat) : Int) - (parts0 ((L.getD (((i : Int)).toNat) Cn.z).kd))).toNat) (l.length - (((l.length : Nat) : Int) - (parts0 ((L.getD (((i : Int)).toNat) Cn.z).kd))).toNat) (by have hq := hI.kn hn h1; omega) (by have hq := hI.kn hn h1; omega) (by have hq := hI.kn hn h1; omega) (by have hq := hI.kn hn h1; omega) (by have hq := hI.kn hn h1; omega)) rfl rfl rfl rfl rfl rfl rfl, ⟨trivial, ⟨eff_shrink (e := 4) (s := 1) 2 ((((l.length : Nat) : Int) - (parts0 ((L.getD (((i : Int)).toNat) Cn.z).kd))).toNat) rfl (by have hq := hI.kn hn h1; omega) (appE (i := 2) (e := 4) (s := 1) hX (((((l.length : Nat) : Int) - (parts0 ((L.getD (((i : Int)).toNat) Cn.z).kd))).toNat) + 1) (fun zz => [.bool ((l.take ((((l.length : Nat) : Int) - (parts0 ((L.getD (((i : Int)).toNat) Cn.z).kd))).toNat) ++ [hv0 p ((L.getD (((i : Int)).toNat) Cn.z).kd) ((L.getD (((i : Int)).toNat) Cn.z).th) ((L.getD (((i : Int)).toNat) Cn.z).rg) ((L.getD (((i : Int)).toNat) Cn.z).lc) ((L.getD (((i : Int)).toNat) Cn.z).vl) l ((((l.length : Nat) : Int) - (parts0 ((L.getD (((i : Int)).toNat) Cn.z).kd))).toNat) (l.length - (((l.length : Nat) : Int) - (parts0 ((L.getD (((i : Int)).toNat) Cn.z).kd))).toNat)]).getD zz false)]) rfl rfl rfl rfl (by have hq := hI.kn hn h1; omega) rfl (fun q hq => by show [SV.bool _] = [SV.bool _]; rw [getD_app_l (by rw [List.length_take]; have hq := hI.kn hn h1; omega), getD_take hq]) (by show [SV.bool _] = _; rw [lapp1 (by have hq := hI.kn hn h1; omega)]) (fun z => ⟨_, rfl, rfl⟩)), trivial⟩⟩⟩ trivial fun A => N hX 6 A rfl (ok_d (by have hq := hI.kn hn h1; omega) <| okE_nil) fun A => ⟨stepL p (L.getD ((i : Int)).toNat Cn.z) l, i + 1, _, (by omega), (hI.nx hr hn h1), ((((A.rowAs 5 (stepL p (L.getD ((i : Int)).toNat Cn.z) l).length (fun zz => [.bool ((stepL p (L.getD ((i : Int)).toNat Cn.z) l).getD zz false)]) rfl (by rw [← (fold_st (F := (((l.length : Nat) : Int) - parts0 (L.getD ((i : Int)).toNat Cn.z).kd).toNat) (hI.kn hn h1).1 (hI.kn hn h1).2.1 (hI.kn hn h1).2.2.1 rfl), List.length_append, List.length_take, List.length_cons, List.length_nil]; have hq := hI.kn hn h1; omega) (fun q hq => by show [SV.bool _] = [SV.bool _]; rw [← (fold_st (F := (((l.length : Nat) : Int) - parts0 (L.getD ((i : Int)).toNat Cn.z).kd).toNat) (hI.kn hn h1).1 (hI.kn hn h1).2.1 (hI.kn hn h1).2.2.1 rfl)]) (fun z => ⟨_, rfl, rfl⟩)).say 5 (.sl 5 (stepL p (L.getD ((i : Int)).toNat Cn.z) l).length 0) rfl (by rw [show (stepL p (L.getD ((i : Int)).toNat Cn.z) l).length = (((l.length : Nat) : Int) - parts0 (L.getD ((i : Int)).toNat Cn.z).kd).toNat + 1 from (by rw [← (fold_st (F := (((l.length : Nat) : Int) - parts0 (L.getD ((i : Int)).toNat Cn.z).kd).toNat) (hI.kn hn h1).1 (hI.kn hn h1).2.1 (hI.kn hn h1).2.2.1 rfl), List.length_append, List.length_take, List.length_cons, List.length_nil]; have hq := hI.kn hn h1; omega)])).cut [1, 4, 5, 9, 10, 11] rfl).mv 2 [5] rfl rfl rfl rfl (by simp only [List.length_cons, List.length_nil] at h0; omega))⟩)
   (fun h1 A => N hX 12 A rfl (ok_d (by have hq := (hI.fi hr hn h1).1; omega) <| ok_d (by have hq := (hI.fi hr hn h1).1; omega) <| okE_nil) fun A => RETN hX A rfl rfl rfl h0 rfl rfl rfl rfl (by rw [(hI.fi hr hn h1).2]; rfl) rfl)
theorem holds_ (p : O) (L : List Cn) (n : Nat) (c : Nat) (hn : n ≤ L.length) (hN : n ≤ 1000000) (hr : right (L.take n) = true) : Fn Tryd.prog 23 [.agg (oc p), .sl 0 n c] [some (.lst 5 L.length (fun zz => cc (L.getD zz Cn.z)))] (Rt (.bool (evalB p (L.take n))) [some (.lst 5 L.length (fun zz => cc (L.getD zz Cn.z)))]) :=
 enterM (n := 8) (by kernel_rfl) Tryd.func23 rfl rfl rfl fun G w a h0 A => N hX 10 A rfl rfl fun A => CALL1 [0, 1] (foldb_ p L n c hn hN hr) A rfl rfl rfl rfl rfl rfl rfl fun A => N hX 4 A rfl rfl fun A => RETN hX A rfl rfl rfl h0 rfl rfl rfl rfl rfl rfl
theorem peval_ (p : O) (L : List Cn) (n : Nat) (c : Nat) (hn : n ≤ L.length) (hN : n ≤ 1000000) : Fn Tryd.prog 10 [.agg (oc p), .sl 0 n c] [some (.lst 5 L.length (fun zz => cc (L.getD zz Cn.z)))] (Rt (.bool (evalB p (L.take n))) [some (.lst 5 L.length (fun zz => cc (L.getD zz Cn.z)))]) :=
 enterM (n := 12) (by kernel_rfl) Tryd.func10 rfl rfl rfl fun G w a h0 A => N hX 9 A rfl rfl fun A => CALL1 [0] (pright_ L n c hn) A rfl rfl rfl rfl rfl rfl rfl fun A => N hX 1 A rfl rfl fun A => fork 7 A rfl
  (fun h1 A => N hX 2 A rfl rfl fun A => CALL1 [0] (holds_ p L n c hn hN h1) A rfl rfl rfl rfl rfl rfl rfl fun A => N hX 5 A rfl rfl fun A => RETN hX A rfl rfl rfl h0 rfl rfl rfl rfl (by rfl) rfl)
  (fun h1 A => N hX 8 A rfl rfl fun A => RETN hX A rfl rfl rfl h0 rfl rfl rfl rfl (by rw [show evalB p (L.take n) = false by unfold evalB; rw [if_neg (by rw [h1]; simp)]]; rfl) rfl)
theorem jone_ (p : O) (qu : Int) (L : List Cn) (n : Nat) (c : Nat) (hn : n ≤ L.length) (hN : n ≤ 1000000) (hr : right (L.take n) = true) : Fn Tryd.prog 30 [.agg (oc p), .ptr 0 0, .ptr 1 0] [some (.blk [.sl 2 n c]), some (.blk [.int .i64 qu]), some (.lst 5 L.length (fun zz => cc (L.getD zz Cn.z)))] (Rt (.bool ((evalB p (L.take n)) == (!(qu == 3)))) [some (.blk [.sl 2 n c]), some (.blk [.int .i64 qu]), some (.lst 5 L.length (fun zz => cc (L.getD zz Cn.z)))]) :=
 enterM (n := 11) (by kernel_rfl) Tryd.func30 rfl rfl rfl fun G w a h0 A => N hX 7 A rfl rfl fun A => DRAWN hX hmo [] [(2, .bool (evalB p (L.take n)), [some (.blk [.sl 2 n c]), some (.blk [.int .i64 qu]), some (.lst 5 L.length (fun zz => cc (L.getD zz Cn.z))), some (.blk (oc p))])] A rfl rfl rfl rfl (by kernel_rfl) ⟨callE [2] (holds_ p L n c hn hN hr) rfl rfl rfl rfl rfl rfl rfl, trivial⟩ trivial fun A => N hX 2 A rfl rfl fun A => RETN hX A rfl rfl rfl h0 rfl rfl rfl rfl rfl rfl
def px (b : O → Bool) : List O → Int → Int
  | [], _ => -1
  | x :: r, i => if b x = true then i else px b r (i + 1)
theorem px_is (b : O → Bool) : ∀ (l : List O) (i : Int), (l.find? b = none ∧ px b l i = -1) ∨ ∃ k, k < l.length ∧ px b l i = i + (k : Int) ∧ l.find? b = some (l.getD k oz)
  | [], i => .inl ⟨rfl, rfl⟩
  | x :: r, i => by
    unfold px
    cases e : b x with
    | true => exact .inr ⟨0, by simp, by simp, by rw [List.find?_cons, e]; rfl⟩
    | false =>
      rw [List.find?_cons, e, if_neg (by simp)]
      rcases px_is b r (i + 1) with h | ⟨k, h1, h2, h3⟩
      · exact .inl h
      · exact .inr ⟨k + 1, by simp; omega, by rw [h2]; omega, by rw [h3]; rfl⟩
structure XI (b : O → Bool) (S : List O) (i : Nat) : Prop where
  le : i ≤ S.length
  eq : px b S 0 = px b (S.drop i) (i : Int)
section
variable {b : O → Bool} {S : List O} {i : Nat}
theorem XI.at (h : XI b S i) (h1 : (i : Int) < ((S.length : Nat) : Int)) : px b S 0 = if b (S.getD ((i : Int)).toNat oz) = true then (i : Int) else px b (S.drop (i + 1)) ((i : Int) + 1) := by
  have hi : i < S.length := by omega
  rw [h.eq, List.drop_eq_getElem_cons hi, px, show S.getD ((i : Int)).toNat oz = S[i] by simp [List.getD, hi]]
theorem XI.yes (h : XI b S i) (h1 : (i : Int) < ((S.length : Nat) : Int)) (h2 : b (S.getD ((i : Int)).toNat oz) = true) : px b S 0 = (i : Int) := by rw [h.at h1, if_pos h2]
theorem XI.no (h : XI b S i) (h1 : (i : Int) < ((S.length : Nat) : Int)) (h2 : b (S.getD ((i : Int)).toNat oz) = false) : XI b S (i + 1) := ⟨by omega, by rw [h.at h1, if_neg (by rw [h2]; simp)]; rfl⟩
theorem XI.out (h : XI b S i) (h1 : ¬ (i : Int) < ((S.length : Nat) : Int)) : px b S 0 = -1 := by rw [h.eq, List.drop_eq_nil_of_le (by omega), px]
end
theorem bfal {x y : Bool} (h : x ≠ y) : (x == y) = false := by cases x <;> cases y <;> simp at h ⊢
theorem btru {x y : Bool} (h : x = y) : (x == y) = true := by rw [h]; simp
theorem index_ (qu : Int) (L : List Cn) (n : Nat) (c : Nat) (S : List O) (hn : n ≤ L.length) (hN : n ≤ 1000000) (hr : right (L.take n) = true) (hS : S.length ≤ 1000000) : Fn Tryd.prog 29 [.sl 3 S.length 0, .fn 30 [.ptr 0 0, .ptr 1 0]] [some (.blk [.sl 2 n c]), some (.blk [.int .i64 qu]), some (.lst 5 L.length (fun zz => cc (L.getD zz Cn.z))), some (.row 26 27 S.length 0 (fun zz => oc (S.getD zz oz)))] (Rt (.int .i64 (px (fun x => (evalB x (L.take n)) == (!(qu == 3))) S 0)) [some (.blk [.sl 2 n c]), some (.blk [.int .i64 qu]), some (.lst 5 L.length (fun zz => cc (L.getD zz Cn.z))), some (.row 26 27 S.length 0 (fun zz => oc (S.getD zz oz)))]) :=
 enterM (n := 19) (by kernel_rfl) Tryd.func29 rfl rfl rfl fun G w a h0 A => N hX 14 A rfl rfl fun A => LOOP1 (fun (i : Nat) => [(0, .sl 3 S.length 0), (1, .fn 30 [.ptr 0 0, .ptr 1 0]), (4, .int .i64 0), (7, .int .i64 ((S.length : Nat) : Int)), (8, .int .i64 (i : Int))]) (fun (i : Nat) => [some (.blk [.sl 2 n c]), some (.blk [.int .i64 qu]), some (.lst 5 L.length (fun zz => cc (L.getD zz Cn.z))), some (.row 26 27 S.length 0 (fun zz => oc (S.getD zz oz)))]) (fun (i : Nat) => XI (fun x => (evalB x (L.take n)) == (!(qu == 3))) S i) (fun (i : Nat) => S.length - i) 0 ⟨Nat.zero_le _, by simp⟩ ((A.cut [0, 1, 4, 7, 8] rfl).trunc 4 rfl rfl rfl (by simp only [List.length_cons, List.length_nil] at h0; omega)) fun i hI {G a w} A => N hX 6 A rfl rfl fun A => forkD 9 A rfl
   (fun h1 A => N hX 18 A rfl (ok_d (by (try have := hI.le); omega) <| ok_d (by (try have := hI.le); omega) <| okE_nil) fun A => CALL1 [0, 1, 2] (jone_ (S.getD (((i : Int)).toNat) oz) qu L n c hn hN hr) A rfl rfl rfl rfl rfl rfl rfl fun A => N hX 2 A rfl rfl fun A => forkE 16 A rfl
    (fun h2 A => N hX 8 A rfl rfl fun A => RETN hX A rfl rfl rfl h0 rfl rfl rfl rfl (by rw [hI.yes h1 (btru h2)]; rfl) rfl)
    (fun h2 A => N hX 8 A rfl (ok_d (by (try have := hI.le); omega) <| okE_nil) fun A => ⟨i + 1, _, (by omega), (hI.no h1 (bfal h2)), ((A.cut [0, 1, 4, 7, 8] rfl).trunc 4 rfl rfl rfl (by simp only [List.length_cons, List.length_nil] at h0; omega))⟩))
   (fun h1 A => N hX 9 A rfl rfl fun A => RETN hX A rfl rfl rfl h0 rfl rfl rfl rfl (by rw [hI.out h1]; rfl) rfl)
theorem rtrue {b : Bool} (h : (!b) = false) : b = true := by cases b <;> simp at h ⊢
theorem cA_len (d : Array O) : ∀ i, (cA d i).length ≤ i
  | 0 => Nat.le_refl _
  | i + 1 => by
    have := cA_len d i
    rw [cA]; split
    · omega
    · rw [List.length_append, List.length_cons, List.length_nil]; omega
theorem sl_len (os : List O) : (sortL os).length ≤ os.length := cA_len _ _
theorem qu_t {qu : Int} (h : (((!(qu == 1)) && (!(qu == 2))) && (!(qu == 3))) = true) : ((decide (qu < 1)) || (decide (qu > 3))) = true := by
  simp only [Bool.and_eq_true, Bool.not_eq_true', beq_eq_false_iff_ne] at h
  by_cases h1 : qu < 1
  · rw [decide_eq_true h1]; rfl
  · rw [decide_eq_true (show qu > 3 by omega)]; simp
theorem qu_f {qu : Int} (h : (((!(qu == 1)) && (!(qu == 2))) && (!(qu == 3))) = false) : ((decide (qu < 1)) || (decide (qu > 3))) = false := by
  by_cases h1 : qu = 1
  · subst h1; rfl
  by_cases h2 : qu = 2
  · subst h2; rfl
  by_cases h3 : qu = 3
  · subst h3; rfl
  have : (((!(qu == 1)) && (!(qu == 2))) && (!(qu == 3))) = true := by simp [h1, h2, h3]
  rw [this] at h; cases h
section
variable {qu : Int} {cs : List Cn} {os : List O} (ho : ∀ y ∈ os, Can y) (h1 : (((!(qu == 1)) && (!(qu == 2))) && (!(qu == 3))) = false) (h2 : (!(right cs)) = false)
include ho h1 h2
theorem pj_some (h3 : px (fun x => (evalB x cs) == (!(qu == 3))) (sortL os) 0 ≥ 0) : jE qu cs = 0 ∧ jW qu cs os = true ∧ jO qu cs os = (sortL os).getD (px (fun x => (evalB x cs) == (!(qu == 3))) (sortL os) 0).toNat oz ∧ jH qu cs os = (qu == 1) ∧ jN qu cs os = (((sortL os).length : Nat) : Int) ∧ (px (fun x => (evalB x cs) == (!(qu == 3))) (sortL os) 0).toNat < (sortL os).length := by
  have hr := rtrue h2
  have hk : jOK qu cs = true := by unfold jOK; rw [qu_f h1, hr]; rfl
  rcases px_is (fun x => (evalB x cs) == (!(qu == 3))) (sortL os) 0 with ⟨_, h⟩ | ⟨k, k1, k2, k3⟩
  · omega
  · have k3' : jF qu cs (sortO os) = some ((sortL os).getD k oz) := by unfold jF; rw [← sort_eq ho]; exact k3
    have hw : jW qu cs os = true := by unfold jW; rw [hk, k3']; rfl
    have e : (px (fun x => (evalB x cs) == (!(qu == 3))) (sortL os) 0).toNat = k := by omega
    rw [e]
    refine ⟨by unfold jE; rw [if_neg (by rw [qu_f h1]; simp), if_pos hr], hw, by unfold jO; rw [if_pos hk, k3']; rfl, by unfold jH; rw [hk, hw]; cases (qu == 1) <;> rfl, by unfold jN; rw [if_pos hk, sort_eq ho], k1⟩
theorem pj_none (h3 : ¬ px (fun x => (evalB x cs) == (!(qu == 3))) (sortL os) 0 ≥ 0) : jE qu cs = 0 ∧ jW qu cs os = false ∧ jO qu cs os = oz ∧ jH qu cs os = (false == (qu == 1)) ∧ jN qu cs os = (((sortL os).length : Nat) : Int) := by
  have hr := rtrue h2
  have hk : jOK qu cs = true := by unfold jOK; rw [qu_f h1, hr]; rfl
  rcases px_is (fun x => (evalB x cs) == (!(qu == 3))) (sortL os) 0 with ⟨h, _⟩ | ⟨k, k1, k2, k3⟩
  · have k3' : jF qu cs (sortO os) = none := by unfold jF; rw [← sort_eq ho]; exact h
    have hw : jW qu cs os = false := by unfold jW; rw [hk, k3']; rfl
    refine ⟨by unfold jE; rw [if_neg (by rw [qu_f h1]; simp), if_pos hr], hw, by unfold jO; rw [if_pos hk, k3']; rfl, by unfold jH; rw [hk, hw]; rfl, by unfold jN; rw [if_pos hk, sort_eq ho]⟩
  · omega
end
theorem pjudge_ (qu : Int) (L : List Cn) (n : Nat) (c : Nat) (os : List O) (c2 : Nat) (hn : n ≤ L.length) (hN : n ≤ 1000000) (hs : os.length ≤ 1000000) (ho : ∀ y ∈ os, Can y) : Fn Tryd.prog 18 [.int .i64 qu, .sl 0 n c, .sl 1 os.length c2] [some (.lst 5 L.length (fun zz => cc (L.getD zz Cn.z))), some (.lst 27 os.length (fun zz => oc (os.getD zz oz)))] (Rt (.tup [.agg [.bool (jH qu (L.take n) os), .bool (jW qu (L.take n) os), .int .i64 ((jO qu (L.take n) os) 0), .int .i64 ((jO qu (L.take n) os) 1), .int .i64 ((jO qu (L.take n) os) 2), .int .i64 ((jO qu (L.take n) os) 3), .int .i64 ((jO qu (L.take n) os) 4), .int .i64 ((jO qu (L.take n) os) 5), .int .i64 ((jO qu (L.take n) os) 6), .int .i64 ((jO qu (L.take n) os) 7), .int .i64 ((jO qu (L.take n) os) 8), .int .i64 ((jO qu (L.take n) os) 9), .int .i64 ((jO qu (L.take n) os) 10), .int .i64 ((jO qu (L.take n) os) 11), .int .i64 ((jO qu (L.take n) os) 12), .int .i64 ((jO qu (L.take n) os) 13), .int .i64 ((jO qu (L.take n) os) 14), .int .i64 ((jO qu (L.take n) os) 15), .int .i64 ((jO qu (L.take n) os) 16), .int .i64 ((jO qu (L.take n) os) 17), .int .i64 ((jO qu (L.take n) os) 18), .int .i64 ((jO qu (L.take n) os) 19), .int .i64 ((jO qu (L.take n) os) 20), .int .i64 ((jO qu (L.take n) os) 21), .int .i64 ((jO qu (L.take n) os) 22), .int .i64 ((jO qu (L.take n) os) 23), .int .i64 ((jO qu (L.take n) os) 24), .int .i64 ((jO qu (L.take n) os) 25), .int .i64 ((jO qu (L.take n) os) 26), .int .i64 (jN qu (L.take n) os)], .int .i64 (jE qu (L.take n))]) [some (.lst 5 L.length (fun zz => cc (L.getD zz Cn.z))), some (.lst 27 os.length (fun zz => oc (os.getD zz oz)))]) :=
 enterM (n := 50) (by kernel_rfl) Tryd.func18 rfl rfl rfl fun G w a h0 A => N hX 23 A rfl rfl fun A => fork 20 A rfl
  (fun h1 A => N hX 9 A rfl rfl fun A => RETN hX A rfl rfl rfl h0 rfl rfl rfl rfl (by have h := j0 (cs := L.take n) (os := os) (qu_t h1); rw [h.1, h.2.1, h.2.2.1, h.2.2.2.1, h.2.2.2.2]; rfl) rfl)
  (fun h1 A => N hX 7 A rfl rfl fun A => CALL1 [0] (pright_ L n c hn) A rfl rfl rfl rfl rfl rfl rfl fun A => N hX 3 A rfl rfl fun A => fork 24 A rfl
   (fun h2 A => N hX 9 A rfl rfl fun A => RETN hX A rfl rfl rfl h0 rfl rfl rfl rfl (by have h := j1 (os := os) (qu_f h1) h2; rw [h.1, h.2.1, h.2.2.1, h.2.2.2.1, h.2.2.2.2]; rfl) rfl)
   (fun h2 A => N hX 6 A rfl rfl fun A => CALL1 [1] (sort_ os c2 hs) A rfl rfl rfl rfl rfl rfl rfl fun A => N hX 7 A rfl rfl fun A => CALL1 [3, 2, 0, 5] (index_ qu L n c (sortL os) hn hN (rtrue h2) (by have := sl_len os; omega)) A rfl rfl rfl rfl rfl rfl rfl fun A => N hX 32 A rfl rfl fun A => forkD 43 A rfl
    (fun h3 A => N hX 11 A rfl (ok_d (by have := sl_len os; have hz := (pj_some ho h1 h2 h3).2.2.2.2.2; omega) <| ok_d (by have := sl_len os; have hz := (pj_some ho h1 h2 h3).2.2.2.2.2; omega) <| okE_nil) fun A => N hX 7 A rfl rfl fun A => RETN hX A rfl rfl rfl h0 rfl rfl rfl rfl (by have h := pj_some ho h1 h2 h3; rw [h.1, h.2.1, h.2.2.1, h.2.2.2.1, h.2.2.2.2.1, decide_eq_true h3]; cases (qu == 1) <;> rfl) rfl)
    (fun h3 A => N hX 11 A rfl rfl fun A => RETN hX A rfl rfl rfl h0 rfl rfl rfl rfl (by have h := pj_none ho h1 h2 h3; rw [h.1, h.2.1, h.2.2.1, h.2.2.2.1, h.2.2.2.2, decide_eq_false h3]; rfl) rfl)))
end Go.Proofs.YtfdfjakafiglmaaDoor
namespace Go.Proofs.YtfdfjakafiglmaaDoor
open Go.Shelf Go.RowKit
set_option linter.unusedVariables false
def laysItoa_ren : Go.Shelf.Ren := ⟨fun | 129 => 57 | 171 => 45 | 243 => 63 | 246 => 71 | 283 => 74 | 284 => 75 | 285 => 76 | 286 => 77 | 317 => 78 | 318 => 79 | 319 => 80 | 320 => 81 | 337 => 82 | 338 => 83 | n => n, fun | 0 => 0 | 2 => 2 | 3 => 3 | 4 => 4 | 5 => 5 | 9 => 9 | 20 => 20 | 37 => 112 | 46 => 74 | 51 => 90 | 53 => 92 | 171 => 110 | 173 => 113 | 212 => 116 | 213 => 117 | 232 => 118 | 233 => 119 | n => n, fun | 17 => 0 | 18 => 1 | 19 => 2 | n => n⟩
theorem laysItoa : Go.Proofs.LaysM.n171 Tryd.prog laysItoa_ren := {
  mixed := by kernel_rfl
  f129 := Tryd.func57.trans (congrArg some (by kernel_rfl))
  f171 := Tryd.func45.trans (congrArg some (by kernel_rfl))
  f243 := Tryd.func63.trans (congrArg some (by kernel_rfl))
  f246 := Tryd.func71.trans (congrArg some (by kernel_rfl))
  f283 := Tryd.func74.trans (congrArg some (by kernel_rfl))
  f284 := Tryd.func75.trans (congrArg some (by kernel_rfl))
  f285 := Tryd.func76.trans (congrArg some (by kernel_rfl))
  f286 := Tryd.func77.trans (congrArg some (by kernel_rfl))
  f317 := Tryd.func78.trans (congrArg some (by kernel_rfl))
  f318 := Tryd.func79.trans (congrArg some (by kernel_rfl))
  f319 := Tryd.func80.trans (congrArg some (by kernel_rfl))
  f320 := Tryd.func81.trans (congrArg some (by kernel_rfl))
  f337 := Tryd.func82.trans (congrArg some (by kernel_rfl))
  f338 := Tryd.func83.trans (congrArg some (by kernel_rfl))
  t0 := Tryd.underlying0
  a0 := Tryd.isAgg0
  z0 := Tryd.sizeOf0
  v0 := Tryd.zeroValue0
  t2 := Tryd.underlying2
  a2 := Tryd.isAgg2
  z2 := Tryd.sizeOf2
  v2 := Tryd.zeroValue2
  t3 := Tryd.underlying3
  a3 := Tryd.isAgg3
  z3 := Tryd.sizeOf3
  v3 := Tryd.zeroValue3
  t4 := Tryd.underlying4
  a4 := Tryd.isAgg4
  z4 := Tryd.sizeOf4
  v4 := Tryd.zeroValue4
  t5 := Tryd.underlying5
  a5 := Tryd.isAgg5
  z5 := Tryd.sizeOf5
  v5 := Tryd.zeroValue5
  t9 := Tryd.underlying9
  a9 := Tryd.isAgg9
  z9 := Tryd.sizeOf9
  v9 := Tryd.zeroValue9
  t20 := Tryd.underlying20
  a20 := Tryd.isAgg20
  z20 := Tryd.sizeOf20
  v20 := Tryd.zeroValue20
  t37 := Tryd.underlying112
  a37 := Tryd.isAgg112
  z37 := Tryd.sizeOf112
  v37 := Tryd.zeroValue112
  t46 := Tryd.underlying74
  a46 := Tryd.isAgg74
  z46 := Tryd.sizeOf74
  v46 := Tryd.zeroValue74
  t51 := Tryd.underlying90
  a51 := Tryd.isAgg90
  z51 := Tryd.sizeOf90
  v51 := Tryd.zeroValue90
  t53 := Tryd.underlying92
  a53 := Tryd.isAgg92
  z53 := Tryd.sizeOf92
  v53 := Tryd.zeroValue92
  t171 := Tryd.underlying110
  a171 := Tryd.isAgg110
  z171 := Tryd.sizeOf110
  v171 := Tryd.zeroValue110
  t173 := Tryd.underlying113
  a173 := Tryd.isAgg113
  z173 := Tryd.sizeOf113
  v173 := Tryd.zeroValue113
  t212 := Tryd.underlying116
  a212 := Tryd.isAgg116
  z212 := Tryd.sizeOf116
  v212 := Tryd.zeroValue116
  t213 := Tryd.underlying117
  a213 := Tryd.isAgg117
  z213 := Tryd.sizeOf117
  t232 := Tryd.underlying118
  a232 := Tryd.isAgg118
  z232 := Tryd.sizeOf118
  v232 := Tryd.zeroValue118
  t233 := Tryd.underlying119
  a233 := Tryd.isAgg119
  z233 := Tryd.sizeOf119
  v233 := Tryd.zeroValue119
  g17 := by kernel_rfl
  g18 := by kernel_rfl
  g19 := by kernel_rfl
  i0 := by kernel_rfl
  i2 := by kernel_rfl
  i3 := by kernel_rfl
  i4 := by kernel_rfl
  i5 := by kernel_rfl
  i9 := by kernel_rfl
  i20 := by kernel_rfl
  i37 := by kernel_rfl
  i46 := by kernel_rfl
  i51 := by kernel_rfl
  i53 := by kernel_rfl
  i171 := by kernel_rfl
  i173 := by kernel_rfl
  i212 := by kernel_rfl
  i232 := by kernel_rfl
  i233 := by kernel_rfl
  m17 := by kernel_rfl
  m18 := by kernel_rfl
  m19 := by kernel_rfl }
theorem itoa_any (n : Int) (h0 : -9223372036854775808 ≤ n) (h1 : n ≤ 9223372036854775807) (w : World) (htab : Lib.TabIs Tryd.prog w "internal/strconv.uint64pow10" .u64 Lib.pow10Tab) : Calls Tryd.prog 45 #[.int .i64 n] w fun e w' => e = .returned (.string (S (Lib.itoa n))) ∧ Grow w w' := by
  refine (Any.strconv_Itoa laysItoa n h0 h1 w htab).mono ?_
  rintro e w' ⟨rfl, k, os, rfl⟩
  refine ⟨rfl, ⟨rfl, rfl, rfl, ?_, fun j hj => ?_⟩⟩
  · show w.heap.size ≤ ((w.drewN k).heap ++ os).size
    rw [Array.size_append]
    exact Nat.le_add_right _ _
  · show ((w.drewN k).heap ++ os)[j]? = w.heap[j]?
    exact Array.getElem?_append_left hj
end Go.Proofs.YtfdfjakafiglmaaDoor
namespace Go.Proofs.YtfdfjakafiglmaaDoor
open Go.RowKit
set_option linter.unusedVariables false
set_option linter.unusedSimpArgs false
set_option maxRecDepth 100000
set_option maxHeartbeats 2000000
set_option simprocs false
def ixf (v : Int) : List Int → Int → Int
  | [], _ => -1
  | x :: r, i => if v = x then i else ixf v r (i + 1)
structure VI (v : Int) (ks : List Int) (i : Nat) : Prop where
  le : i ≤ ks.length
  eq : ixf v ks 0 = ixf v (ks.drop i) (i : Int)
theorem VI.at {v : Int} {ks : List Int} {i : Nat} (h : VI v ks i) (h1 : i < ks.length) : ixf v ks 0 = if v = ks.getD ((i : Int)).toNat 0 then (i : Int) else ixf v (ks.drop (i + 1)) ((i : Int) + 1) := by
  rw [h.eq, List.drop_eq_getElem_cons h1, ixf, show ks.getD ((i : Int)).toNat 0 = ks[i] by simp [List.getD, h1]]
theorem VI.yes {v : Int} {ks : List Int} {i : Nat} (h : VI v ks i) (h1 : i < ks.length) (h2 : v = ks.getD ((i : Int)).toNat 0) : ixf v ks 0 = (i : Int) := by rw [h.at h1, if_pos h2]
theorem VI.no {v : Int} {ks : List Int} {i : Nat} (h : VI v ks i) (h1 : i < ks.length) (h2 : v ≠ ks.getD ((i : Int)).toNat 0) : VI v ks (i + 1) := ⟨h1, by rw [h.at h1, if_neg h2]; rfl⟩
theorem VI.out {v : Int} {ks : List Int} {i : Nat} (h : VI v ks i) (h1 : ¬ i < ks.length) : ixf v ks 0 = -1 := by rw [h.eq, List.drop_eq_nil_of_le (by omega), ixf]
def apT (ks : List Int) (t : List UInt8) (k : Int) : List UInt8 := if ixf k ks 0 ≥ 0 then ([40] ++ t) ++ [41] else t
theorem ix45_ (v : Int)  : Fn Tryd.prog 72 [.sl 0 2 2, .int .i64 v] [some (.blk [.int .i64 4, .int .i64 5])] (Rt (.int .i64 (ixf v [4, 5] 0)) [some (.blk [.int .i64 4, .int .i64 5])]) :=
 enterM (n := 19) (by kernel_rfl) Tryd.func72 rfl rfl rfl fun G w a h0 A => N hX 14 A rfl rfl fun A => LOOP1 (fun (i : Nat) => [(0, .sl 0 2 2), (1, .int .i64 v), (4, .int .i64 0), (7, .int .i64 ((2 : Nat) : Int)), (8, .int .i64 (i : Int))]) (fun (i : Nat) => [some (.blk [.int .i64 4, .int .i64 5])]) (fun (i : Nat) => VI v [4, 5] i) (fun (i : Nat) => 2 - i) 0 ⟨Nat.zero_le _, rfl⟩ ((A.cut [0, 1, 4, 7, 8] rfl).trunc 1 rfl rfl rfl (by simp only [List.length_cons, List.length_nil] at h0; omega)) fun i hI {G a w} A => N hX 6 A rfl rfl fun A => forkD 9 A rfl
   (fun h1 A => N hX 21 A rfl (ok_d (by omega) <| ok_d (by omega) <| okE_nil) fun A => forkE 16 A rfl
    (fun h2 A => N hX 8 A rfl rfl fun A => RETN hX A rfl rfl rfl h0 rfl rfl rfl rfl (by rw [hI.yes (by show i < 2; omega) h2]; rfl) rfl)
    (fun h2 A => N hX 8 A rfl (ok_d (by omega) <| okE_nil) fun A => ⟨i + 1, _, (by omega), (hI.no (by show i < 2; omega) h2), ((A.cut [0, 1, 4, 7, 8] rfl).trunc 1 rfl rfl rfl (by simp only [List.length_cons, List.length_nil] at h0; omega))⟩))
   (fun h1 A => N hX 9 A rfl rfl fun A => RETN hX A rfl rfl rfl h0 rfl rfl rfl rfl (by rw [hI.out (by show ¬ i < 2; omega)]; rfl) rfl)
theorem con45_ (v : Int)  : Fn Tryd.prog 64 [.sl 0 2 2, .int .i64 v] [some (.blk [.int .i64 4, .int .i64 5])] (Rt (.bool (decide (ixf v [4, 5] 0 ≥ 0))) [some (.blk [.int .i64 4, .int .i64 5])]) :=
 enterM (n := 9) (by kernel_rfl) Tryd.func64 rfl rfl rfl fun G w a h0 A => N hX 9 A rfl rfl fun A => CALL1 [0] (ix45_ v) A rfl rfl rfl rfl rfl rfl rfl fun A => N hX 5 A rfl rfl fun A => RETN hX A rfl rfl rfl h0 rfl rfl rfl rfl rfl rfl
theorem ap45_ (t : List UInt8) (k : Int) (ht : t.length ≤ 2000000) : Fn Tryd.prog 47 [.agg [.str t, .int .i64 k], .sl 0 2 2] [some (.blk [.int .i64 4, .int .i64 5])] (Rt (.str (apT [4, 5] t k)) [some (.blk [.int .i64 4, .int .i64 5])]) :=
 enterM (n := 15) (by kernel_rfl) Tryd.func47 rfl rfl rfl fun G w a h0 A => N hX 12 A rfl rfl fun A => CALL1 [0] (con45_ k) A rfl rfl rfl rfl rfl rfl rfl fun A => N hX 2 A rfl rfl fun A => forkD 8 A rfl
  (fun h1 A => N hX 11 A rfl (ok_d (by simp only [List.length_append, List.length_cons, List.length_nil]; omega) <| ok_d (by simp only [List.length_append, List.length_cons, List.length_nil]; omega) <| okE_nil) fun A => RETN hX A rfl rfl rfl h0 rfl rfl rfl rfl (by unfold apT; rw [if_pos h1]; rfl) rfl)
  (fun h1 A => N hX 11 A rfl rfl fun A => RETN hX A rfl rfl rfl h0 rfl rfl rfl rfl (by unfold apT; rw [if_neg h1]; rfl) rfl)
theorem ix5_ (v : Int)  : Fn Tryd.prog 72 [.sl 0 1 1, .int .i64 v] [some (.blk [.int .i64 5])] (Rt (.int .i64 (ixf v [5] 0)) [some (.blk [.int .i64 5])]) :=
 enterM (n := 19) (by kernel_rfl) Tryd.func72 rfl rfl rfl fun G w a h0 A => N hX 14 A rfl rfl fun A => LOOP1 (fun (i : Nat) => [(0, .sl 0 1 1), (1, .int .i64 v), (4, .int .i64 0), (7, .int .i64 ((1 : Nat) : Int)), (8, .int .i64 (i : Int))]) (fun (i : Nat) => [some (.blk [.int .i64 5])]) (fun (i : Nat) => VI v [5] i) (fun (i : Nat) => 1 - i) 0 ⟨Nat.zero_le _, rfl⟩ ((A.cut [0, 1, 4, 7, 8] rfl).trunc 1 rfl rfl rfl (by simp only [List.length_cons, List.length_nil] at h0; omega)) fun i hI {G a w} A => N hX 6 A rfl rfl fun A => forkD 9 A rfl
   (fun h1 A => N hX 21 A rfl (ok_d (by omega) <| ok_d (by omega) <| okE_nil) fun A => forkE 16 A rfl
    (fun h2 A => N hX 8 A rfl rfl fun A => RETN hX A rfl rfl rfl h0 rfl rfl rfl rfl (by rw [hI.yes (by show i < 1; omega) h2]; rfl) rfl)
    (fun h2 A => N hX 8 A rfl (ok_d (by omega) <| okE_nil) fun A => ⟨i + 1, _, (by omega), (hI.no (by show i < 1; omega) h2), ((A.cut [0, 1, 4, 7, 8] rfl).trunc 1 rfl rfl rfl (by simp only [List.length_cons, List.length_nil] at h0; omega))⟩))
   (fun h1 A => N hX 9 A rfl rfl fun A => RETN hX A rfl rfl rfl h0 rfl rfl rfl rfl (by rw [hI.out (by show ¬ i < 1; omega)]; rfl) rfl)
theorem con5_ (v : Int)  : Fn Tryd.prog 64 [.sl 0 1 1, .int .i64 v] [some (.blk [.int .i64 5])] (Rt (.bool (decide (ixf v [5] 0 ≥ 0))) [some (.blk [.int .i64 5])]) :=
 enterM (n := 9) (by kernel_rfl) Tryd.func64 rfl rfl rfl fun G w a h0 A => N hX 9 A rfl rfl fun A => CALL1 [0] (ix5_ v) A rfl rfl rfl rfl rfl rfl rfl fun A => N hX 5 A rfl rfl fun A => RETN hX A rfl rfl rfl h0 rfl rfl rfl rfl rfl rfl
theorem ap5_ (t : List UInt8) (k : Int) (ht : t.length ≤ 2000000) : Fn Tryd.prog 47 [.agg [.str t, .int .i64 k], .sl 0 1 1] [some (.blk [.int .i64 5])] (Rt (.str (apT [5] t k)) [some (.blk [.int .i64 5])]) :=
 enterM (n := 15) (by kernel_rfl) Tryd.func47 rfl rfl rfl fun G w a h0 A => N hX 12 A rfl rfl fun A => CALL1 [0] (con5_ k) A rfl rfl rfl rfl rfl rfl rfl fun A => N hX 2 A rfl rfl fun A => forkD 8 A rfl
  (fun h1 A => N hX 11 A rfl (ok_d (by simp only [List.length_append, List.length_cons, List.length_nil]; omega) <| ok_d (by simp only [List.length_append, List.length_cons, List.length_nil]; omega) <| okE_nil) fun A => RETN hX A rfl rfl rfl h0 rfl rfl rfl rfl (by unfold apT; rw [if_pos h1]; rfl) rfl)
  (fun h1 A => N hX 11 A rfl rfl fun A => RETN hX A rfl rfl rfl h0 rfl rfl rfl rfl (by unfold apT; rw [if_neg h1]; rfl) rfl)
theorem locs_   : Fn Tryd.prog 46 [] [] (Rt (.sl 0 3 3) [some (.blk [.str [120], .str [121], .str [122]])]) :=
 enterM (n := 2) (by kernel_rfl) Tryd.func46 rfl rfl rfl fun G w a h0 A => N hX 12 A rfl rfl fun A => RET hX [0] A ⟨rfl, rfl⟩ rfl rfl rfl rfl rfl rfl rfl rfl h0
theorem fn_itoa (b : Nat) (o : Obj) (hT : ∀ w : World, w.heap[b]? = some o → Lib.TabIs Tryd.prog w "internal/strconv.uint64pow10" .u64 Lib.pow10Tab) (v : Int) (h0 : -9223372036854775808 ≤ v) (h1 : v ≤ 9223372036854775807) : Fn Tryd.prog 45 [.int .i64 v] [some (.fac b o)] (Rt (.str (Lib.itoa v)) [some (.fac b o)]) := by
  refine ⟨by kernel_rfl, fun G w vs hM hv => ?_⟩
  cases hv
  obtain ⟨L, e1, e2, e3⟩ := hM.ent 0 _ rfl
  refine (itoa_any v h0 h1 w (hT w e3)).mono ?_
  rintro e w' ⟨rfl, hg⟩
  have hl : G.length = 1 := hM.len.symm
  refine ⟨_, _, [], _, ⟨rfl, rfl⟩, rfl, rfl, ?_, (Mix.refl _ w).grow hg, ?_, fun i e he _ => he, fun i e he hm => ?_⟩
  · rw [List.append_nil]
    refine ⟨hM.len, fun i e he => (hM.ent i e he).mix hg.mix (fun _ _ _ => rfl), hM.sep⟩
  · rw [hl]; exact Nat.le_refl _
  · cases i with
    | zero => cases he; cases hm
    | succ i => cases he
end Go.Proofs.YtfdfjakafiglmaaDoor
namespace Go.Proofs.YtfdfjakafiglmaaDoor
open Go.RowKit
set_option linter.unusedVariables false
set_option linter.unusedSimpArgs false
set_option linter.unusedSectionVars false
theorem le0 {H : Hp} {G : Gr} {r : Nat} (h : H.length = G.length) (hb : Nat.ble H.length r = true) : G.length ≤ r := by rw [← h]; exact Nat.le_of_ble_eq_true hb
mutual
def avS (r : Nat) : SV → Bool
  | .ptr i _ => !Nat.beq i r
  | .el i _ _ _ => !Nat.beq i r
  | .sl i _ _ => !Nat.beq i r
  | .agg l => avL r l
  | .tup l => avL r l
  | .fn _ l => avL r l
  | .opt _ x => avS r x
  | .ix p _ _ _ _ => avS r p
  | .sp p _ _ => avS r p
  | .st i _ _ _ _ => !Nat.beq i r
  | _ => true
def avL (r : Nat) : List SV → Bool
  | [] => true
  | x :: l => avS r x && avL r l
end
theorem av_out {D : List Nat} {i : Nat} (h : ∀ r ∈ D, (!Nat.beq i r) = true) : i ∉ D := fun hi => by
  have := h i hi
  rw [show Nat.beq i i = true from Nat.beq_refl i] at this
  cases this
mutual
theorem den_off {G G' : Gr} {D : List Nat} (e : ∀ i, i ∉ D → G'[i]? = G[i]?) : ∀ (x : SV), (∀ r ∈ D, avS r x = true) → den G' x = den G x
  | .ptr i _, h => by unfold den; rw [e i (av_out h)]
  | .el i _ _ _, h => by unfold den; rw [e i (av_out h)]
  | .sl i _ _, h => by unfold den; rw [e i (av_out h)]
  | .agg l, h => by unfold den; rw [denL_off e l h]
  | .tup l, h => by unfold den; rw [denL_off e l h]
  | .fn _ l, h => by unfold den; rw [denL_off e l h]
  | .opt _ x, h => by unfold den; rw [den_off e x h]
  | .ix p _ _ _ _, h => by unfold den; rw [den_off e p h]
  | .sp p _ _, h => by unfold den; rw [den_off e p h]
  | .st i _ _ _ _, h => by unfold den; rw [e i (av_out h)]
  | .int _ _, _ => rfl
  | .bool _, _ => rfl
  | .tt, _ => rfl
  | .ff, _ => rfl
  | .str _, _ => rfl
  | .sla _ _ _, _ => rfl
  | .v _, _ => rfl
theorem denL_off {G G' : Gr} {D : List Nat} (e : ∀ i, i ∉ D → G'[i]? = G[i]?) : ∀ (l : List SV), (∀ r ∈ D, avL r l = true) → denL G' l = denL G l
  | [], _ => rfl
  | x :: l, h => by
    unfold denL
    rw [den_off e x fun r hr => by have := h r hr; simp only [avL, Bool.and_eq_true] at this; exact this.1, denL_off e l fun r hr => by have := h r hr; simp only [avL, Bool.and_eq_true] at this; exact this.2]
end
def avE (r : Nat) : Option Ent → Bool
  | some (.blk cs) => avL r cs
  | _ => true
def avH (r : Nat) : Hp → Bool
  | [] => true
  | e :: H => avE r e && avH r H
theorem avH_at {r : Nat} : ∀ {H : Hp}, avH r H = true → ∀ (i : Nat) (e : Option Ent), H[i]? = some e → avE r e = true
  | [], _, i, e, h => by cases h
  | f :: H, hb, i, e, h => by
    simp only [avH, Bool.and_eq_true] at hb
    cases i with
    | zero => cases h; exact hb.1
    | succ i => exact avH_at hb.2 i e (by simpa using h)
theorem EntOK.off {G G' : Gr} {r : Nat} {w : World} {p : Option Loc} {e : Ent} (h : EntOK G w p e) (hG : ∀ i, i ∉ [r] → G'[i]? = G[i]?) (ha : avE r (some e) = true) : EntOK G' w p e := by
  cases e with
  | blk cs => obtain ⟨M, vs, h1, h2, h3⟩ := h; exact ⟨M, vs, h1, by rw [denL_off hG cs (fun q hq => by simp at hq; subst hq; exact ha)]; exact h2, h3⟩
  | lst s n f => exact h
  | fac b o => exact h
  | row e s n c f => exact h
section
variable {P : Program} {X : Tx} {n : Nat} {ks : List Nat} {G0 : Gr} {w0 : World} {T : List (Nat × SV)} {H : Hp} {G : Gr} {a : Act} {w w' : World} {ops : Array Oper} {o : Oper}
theorem set_off {r : Nat} {y : Option Loc} : ∀ i, i ∉ [r] → (G.set r y)[i]? = G[i]? := fun i hi => by
  simp at hi
  rw [List.getElem?_set_ne (fun h => hi h.symm)]
theorem Sy.place (A : Sy n T H ks G0 w0 G a w) {r g : Nat} {t : TypeId} {en : Ent} (hr : H[r]? = some none) (hr0 : G0.length ≤ r) (hav : avH r H = true) (hg : g = w.heap.size) (hgr : Grow w w') (hen : EntOK G w' (some ⟨g, [], [], t⟩) en) (hmu : en.mut = true) (hae : avE r (some en) = true) :
    Ms (stH H r (some en)) ks G0 w0 (G.set r (some ⟨g, [], [], t⟩)) w' := by
  have hlen := A.mem.len
  have hrl : r < H.length := (List.getElem?_eq_some_iff.1 hr).1
  have B := A.ms.grow hgr
  have hold : ∀ (i : Nat) (e : Ent), (stH H r (some en))[i]? = some (some e) → (i ≠ r ∧ H[i]? = some (some e)) ∨ (i = r ∧ e = en) := by
    intro i e h
    rw [stH_is] at h
    by_cases hi : i = r
    · subst hi; rw [List.getElem?_set_self hrl] at h; cases h; exact .inr ⟨rfl, rfl⟩
    · rw [List.getElem?_set_ne (Ne.symm hi)] at h; exact .inl ⟨hi, h⟩
  have hself : (G.set r (some (⟨g, [], [], t⟩ : Loc)))[r]? = some (some ⟨g, [], [], t⟩) := List.getElem?_set_self (by omega)
  have hne : ∀ {i : Nat}, i ≠ r → (G.set r (some (⟨g, [], [], t⟩ : Loc)))[i]? = G[i]? := fun hi => by rw [List.getElem?_set_ne (Ne.symm hi)]
  refine ⟨⟨by rw [stH_is]; simpa using hlen, fun i e h => ?_, fun i j e f L M hij h1 h2 h3 h4 h5 h6 => ?_⟩, ?_, fun i e L h1 h2 h3 => ?_, B.mix⟩
  · rcases hold i e h with ⟨h1, h2⟩ | ⟨rfl, rfl⟩
    · rw [hne h1]; exact (B.mem.ent i e h2).off set_off (avH_at hav i _ h2)
    · rw [hself]; exact hen.off set_off hae
  · rcases hold i e h1 with ⟨a1, a2⟩ | ⟨rfl, rfl⟩
    · rw [hne a1] at h4
      rcases hold j f h2 with ⟨b1, b2⟩ | ⟨rfl, rfl⟩
      · rw [hne b1] at h5; exact B.mem.sep i j e f L M hij a2 b2 h3 h4 h5 h6
      · rw [hself] at h5; cases h5
        have := A.mem.ent i e a2
        rw [h4] at this
        have := EntOK.lt this (mut_full h3)
        show L.b ≠ g; omega
    · rw [hself] at h4; cases h4
      rcases hold j f h2 with ⟨b1, b2⟩ | ⟨rfl, rfl⟩
      · rw [hne b1] at h5
        have := A.mem.ent j f b2
        rw [h5] at this
        have := EntOK.lt this h6
        show g ≠ M.b; omega
      · exact absurd rfl hij
  · obtain ⟨F, hF⟩ := A.pre
    refine ⟨F.set (r - G0.length) (some ⟨g, [], [], t⟩), ?_⟩
    rw [hF, List.set_append_right _ _ hr0]
  · rcases hold i e h1 with ⟨a1, a2⟩ | ⟨rfl, rfl⟩
    · rw [hne a1] at h3; exact B.own i e L a2 h2 h3
    · rw [hself] at h3; cases h3
      have := A.mix.size
      exact .inr (by show w0.heap.size ≤ g; omega)
def EffAt (P : Program) (n : Nat) (ops : Array Oper) (ks : List Nat) (G0 : Gr) (w0 : World) (Tw : List (Nat × SV)) (H : Hp) (o : Oper) (x : SV) (H' : Hp) (rs : List Nat) : Prop :=
  ∀ G a w, Sy n Tw H ks G0 w0 G a w → Does P ops o a w fun v w' => ∃ G', (∀ i, i ∉ rs → G'[i]? = G[i]?) ∧ den G' x = some v ∧ Ms H' ks G0 w0 G' w'
theorem eff_at {Tw : List (Nat × SV)} {x : SV} {H' : Hp} {rs : List Nat} (h : EffOK P n ops ks G0 w0 Tw H o x H') (hl : H'.length = H.length) : EffAt P n ops ks G0 w0 Tw H o x H' rs := by
  intro G a w A
  refine does_mono (h G a w A) fun v w' ⟨F, h1, h2⟩ => ⟨G, fun _ _ => rfl, ?_⟩
  have e1 := h2.mem.len
  have e2 := A.mem.len
  have : F = [] := List.eq_nil_of_length_eq_zero (by rw [List.length_append] at e1; omega)
  subst this
  rw [List.append_nil] at h1 h2
  exact ⟨h1, h2⟩
theorem new_at (r : Nat) {Tw : List (Nat × SV)} {x x0 : SV} {H' : Hp} {rs : List Nat} {t : TypeId} {en : Ent} (hX : X.ok P = true) (h : stepS X n ops Tw H o = some (.new t en x0)) (hr : lg H r = some none) (hr0 : G0.length ≤ r) (hav : (avH r H && avE r (some en)) = true) (hren : renO (stH (rngF 0 H.length) r H.length) x = some x0) (hH : stH H r (some en) = H') (hrs : rs.contains r = true) : EffAt P n ops ks G0 w0 Tw H o x H' rs := by
  intro G a w A
  rw [Bool.and_eq_true] at hav
  rw [lg_is] at hr
  have hrl : r < H.length := (List.getElem?_eq_some_iff.1 hr).1
  unfold stepS at h
  split at h
  · next hd =>
    split at h
    · next hg =>
      refine xop_new (P := P) (ops := ops) hX A h (gd_run (gd := none) A hg) fun g w' v a1 a2 a3 a4 a5 => ⟨G.set r (some ⟨g, [], [], t⟩), fun i hi => set_off i (fun hq => ?_), ?_, ?_⟩
      · simp at hq; subst hq; exact hi (by simpa using hrs)
      · have hm : ∀ j ∈ (rngF 0 H.length).set r H.length, j < (G ++ [some (⟨g, [], [], t⟩ : Loc)]).length := fun j hj => by
          have hle : j ∈ rngF 0 H.length ∨ j = H.length := by
            rcases List.mem_or_eq_of_mem_set hj with h | h
            · exact .inl h
            · exact .inr h
          have := A.mem.len
          rcases hle with h | h
          · obtain ⟨k, hk, he⟩ := List.getElem_of_mem h
            rw [rngF_len] at hk
            have := rngF_at H.length 0 k hk
            rw [List.getElem?_eq_getElem (by rw [rngF_len]; exact hk), he] at this
            cases this
            simp; omega
          · simp; omega
        rw [stH_is] at hren
        rw [← a5, ← den_ren hm x hren]
        congr 1
        have hlen := A.mem.len
        apply List.ext_getElem?
        intro i
        by_cases hi : i < H.length
        · by_cases hir : i = r
          · subst hir
            have h1 : ((rngF 0 H.length).set i H.length)[i]? = some H.length := List.getElem?_set_self (by rw [rngF_len]; exact hi)
            rw [pickG_at hm h1, List.getElem?_set_self (by omega), List.getElem?_append_right (by omega), hlen]; simp
          · have h1 : ((rngF 0 H.length).set r H.length)[i]? = some i := by rw [List.getElem?_set_ne (Ne.symm hir), rngF_at _ _ _ hi, Nat.zero_add]
            rw [pickG_at hm h1, List.getElem?_set_ne (Ne.symm hir), List.getElem?_append_left (by omega)]
        · rw [List.getElem?_eq_none (by simp; omega), List.getElem?_eq_none (by simp [pickG, rngF_len]; omega)]
      · rw [← hH]; exact A.place hr hr0 hav.1 a1 a2 a3 a4 hav.2
    · cases h
    · split at h <;> cases h
    · cases h
  · cases h
end
section
variable {P : Program} {n : Nat} {ks : List Nat} {G0 : Gr} {w0 : World} {H : Hp} {G : Gr} {w w' : World} {ops : Array Oper} {o : Oper}
theorem EntOK.offL {G G' : Gr} {D : List Nat} {w : World} {p : Option Loc} {e : Ent} (h : EntOK G w p e) (hG : ∀ i, i ∉ D → G'[i]? = G[i]?) (ha : ∀ r ∈ D, avE r (some e) = true) : EntOK G' w p e := by
  cases e with
  | blk cs => obtain ⟨M, vs, h1, h2, h3⟩ := h; exact ⟨M, vs, h1, by rw [denL_off hG cs ha]; exact h2, h3⟩
  | lst s n f => exact h
  | fac b o => exact h
  | row e s n c f => exact h
theorem Ms.put {r : Nat} {en : Ent} {p : Option Loc} (M : Ms (H ++ [some en]) ks G0 w0 (G ++ [p]) w') (hr : H[r]? = some none) (hr0 : G0.length ≤ r) (hav : ∀ q ∈ [r, H.length], avH q H = true ∧ avE q (some en) = true) : Ms (stH H r (some en)) ks G0 w0 (G.set r p) w' := by
  have hlen : H.length = G.length := by have := M.mem.len; simpa using this
  have hrl : r < H.length := (List.getElem?_eq_some_iff.1 hr).1
  have hold : ∀ (i : Nat) (e : Ent), (stH H r (some en))[i]? = some (some e) → ∃ j, (H ++ [some en])[j]? = some (some e) ∧ (G.set r p)[i]? = (G ++ [p])[j]? ∧ ((i ≠ r ∧ j = i ∧ H[i]? = some (some e)) ∨ (i = r ∧ j = H.length ∧ e = en)) := by
    intro i e h
    rw [stH_is] at h
    by_cases hi : i = r
    · subst hi; rw [List.getElem?_set_self hrl] at h; cases h
      refine ⟨H.length, by simp, ?_, .inr ⟨rfl, rfl, rfl⟩⟩
      rw [List.getElem?_set_self (by omega), hlen]; simp
    · rw [List.getElem?_set_ne (Ne.symm hi)] at h
      have hl := (List.getElem?_eq_some_iff.1 h).1
      refine ⟨i, by rw [List.getElem?_append_left hl]; exact h, ?_, .inl ⟨hi, rfl, h⟩⟩
      rw [List.getElem?_set_ne (Ne.symm hi), List.getElem?_append_left (by omega)]
  have hoff : ∀ i, i ∉ [r, H.length] → (G.set r p)[i]? = (G ++ [p])[i]? := fun i hi => by
    simp at hi
    rw [List.getElem?_set_ne (fun h => hi.1 h.symm)]
    by_cases hg : i < G.length
    · rw [List.getElem?_append_left hg]
    · rw [List.getElem?_eq_none (by omega), List.getElem?_eq_none (by simp; omega)]
  refine ⟨⟨by rw [stH_is]; simpa using hlen, fun i e h => ?_, fun i j e f L N hij h1 h2 h3 h4 h5 h6 => ?_⟩, ?_, fun i e L h1 h2 h3 => ?_, M.mix⟩
  · obtain ⟨j, g1, g2, g3⟩ := hold i e h
    rw [g2]
    refine (M.mem.ent j e g1).offL hoff fun q hq => ?_
    rcases g3 with ⟨_, _, g⟩ | ⟨_, _, rfl⟩
    · exact avH_at (hav q hq).1 i _ g
    · exact (hav q hq).2
  · obtain ⟨i', g1, g2, g3⟩ := hold i e h1
    obtain ⟨j', k1, k2, k3⟩ := hold j f h2
    rw [g2] at h4
    rw [k2] at h5
    refine M.mem.sep i' j' e f L N ?_ g1 k1 h3 h4 h5 h6
    have hi : ∀ {i : Nat} {e : Ent}, H[i]? = some (some e) → i < H.length := fun h => (List.getElem?_eq_some_iff.1 h).1
    rcases g3 with ⟨a1, a2, a3⟩ | ⟨a1, a2, a3⟩ <;> rcases k3 with ⟨b1, b2, b3⟩ | ⟨b1, b2, b3⟩
    · omega
    · have := hi a3; omega
    · have := hi b3; omega
    · omega
  · obtain ⟨F, hF⟩ := M.pre
    refine ⟨(G.set r p).drop G0.length, ?_⟩
    have e : (G.set r p).take G0.length = G0 := by
      have h1 : (G ++ [p]).take G0.length = G0 := by rw [hF]; simp
      rw [List.take_append_of_le_length (by omega)] at h1
      rw [List.take_set_of_le (by omega)]; exact h1
    have := (List.take_append_drop G0.length (G.set r p)).symm
    rw [e] at this; exact this
  · obtain ⟨i', g1, g2, g3⟩ := hold i e h1
    rw [g2] at h3
    exact M.own i' e L g1 h2 h3
theorem put_at (r : Nat) {Tw : List (Nat × SV)} {x x0 : SV} {H1 H' : Hp} {rs : List Nat} {en : Ent} (h : EffOK P n ops ks G0 w0 Tw H o x0 (H1 ++ [some en])) (hl : H1.length = H.length) (hr : lg H1 r = some none) (hr0 : G0.length ≤ r) (hav : (avH r H1 && avE r (some en) && avH H1.length H1 && avE H1.length (some en)) = true) (hren : renO (stH (rngF 0 H1.length) r H1.length) x = some x0) (hH : stH H1 r (some en) = H') (hrs : rs.contains r = true) : EffAt P n ops ks G0 w0 Tw H o x H' rs := by
  intro G a w A
  rw [lg_is] at hr
  have hrl : r < H1.length := (List.getElem?_eq_some_iff.1 hr).1
  simp only [Bool.and_eq_true] at hav
  refine does_mono (h G a w A) fun v w' ⟨F, h1, h2⟩ => ?_
  have e1 := h2.mem.len
  have e2 := A.mem.len
  have hF1 : F.length = 1 := by simp at e1; omega
  obtain ⟨p, rfl⟩ := List.length_eq_one_iff.1 hF1
  refine ⟨G.set r p, fun i hi => set_off i (fun hq => ?_), ?_, ?_⟩
  · simp at hq; subst hq; exact hi (by simpa using hrs)
  · have hm : ∀ j ∈ (rngF 0 H1.length).set r H1.length, j < (G ++ [p]).length := fun j hj => by
      rcases List.mem_or_eq_of_mem_set hj with h | h
      · obtain ⟨k, hk, he⟩ := List.getElem_of_mem h
        rw [rngF_len] at hk
        have := rngF_at H1.length 0 k hk
        rw [List.getElem?_eq_getElem (by rw [rngF_len]; exact hk), he] at this
        cases this
        simp; omega
      · simp; omega
    rw [stH_is] at hren
    rw [← h1, ← den_ren hm x hren]
    congr 1
    apply List.ext_getElem?
    intro i
    by_cases hi : i < H1.length
    · by_cases hir : i = r
      · subst hir
        have h1 : ((rngF 0 H1.length).set i H1.length)[i]? = some H1.length := List.getElem?_set_self (by rw [rngF_len]; exact hi)
        rw [pickG_at hm h1, List.getElem?_set_self (by omega), List.getElem?_append_right (by omega), hl, e2]; simp
      · have h1 : ((rngF 0 H1.length).set r H1.length)[i]? = some i := by rw [List.getElem?_set_ne (Ne.symm hir), rngF_at _ _ _ hi, Nat.zero_add]
        rw [pickG_at hm h1, List.getElem?_set_ne (Ne.symm hir), List.getElem?_append_left (by omega)]
    · rw [List.getElem?_eq_none (by simp; omega), List.getElem?_eq_none (by simp [pickG, rngF_len]; omega)]
  · rw [← hH]
    refine h2.put hr hr0 fun q hq => ?_
    simp at hq
    rcases hq with rfl | rfl
    · exact ⟨hav.1.1.1, hav.1.1.2⟩
    · exact ⟨hav.1.2, hav.2⟩
end
def mayI (ops : Array Oper) (ef c : List Nat) (i : Nat) (o : Oper) : Bool :=
  !c.contains i && ef.all (fun p => !wt ops o p || c.contains p) && c.all (fun p => match ops[p]? with | some q => !waits q i | none => true)
section
variable {P : Program} {X : Tx} {n : Nat} {ks : List Nat} {G0 : Gr} {w0 : World} {T : List (Nat × SV)} {l : List Oper} {xs : List SV} {Q : Exit → Act → World → Prop} {ef rs0 : List Nat} {tb : List (List Nat × List Nat × Hp)}
structure AInv (n : Nat) (ks : List Nat) (G0 : Gr) (w0 : World) (T : List (Nat × SV)) (l : List Oper) (xs : List SV) (ef rs0 : List Nat) (c rs : List Nat) (H : Hp) (listed : Array Bool) (G : Gr) (a : Act) (w : World) : Prop where
  size : a.tmps.size = n
  defers : a.defers = []
  base : ∀ t x, look T t = some x → (∀ (j : Nat) (o : Oper), l[j]? = some o → o.dst = some t → listed.getD j false = false) → den G x = some (a.tmps.getD t undef)
  done : ∀ (j : Nat) (o : Oper) (x : SV), l[j]? = some o → listed.getD j false = true → xs[j]? = some x → (∀ r ∈ rs, avS r x = true) ∧ ∀ d, o.dst = some d → den G x = some (a.tmps.getD d undef)
  ms : Ms H ks G0 w0 G w
  eff : ∀ p ∈ ef, (listed.getD p false = true ↔ p ∈ c)
  sub : ∀ p ∈ c, p ∈ ef
  rsub : ∀ r ∈ rs, r ∈ rs0
  closed : ∀ (j : Nat) (o : Oper) (p : Nat), l[j]? = some o → listed.getD j false = true → waits o p = true → listed.getD p false = true
def StepOb (P : Program) (n : Nat) (ks : List Nat) (G0 : Gr) (w0 : World) (T : List (Nat × SV)) (l : List Oper) (xs : List SV) (ef : List Nat) (tb : List (List Nat × List Nat × Hp)) (c rs : List Nat) (H : Hp) (i : Nat) (o : Oper) : Prop :=
  ∃ (x : SV) (c' rs' : List Nat) (H' : Hp) (k' : Nat), xs[i]? = some x ∧ tb[k']? = some (c', rs', H') ∧ ((ef.all fun p => c'.contains p == (Nat.beq p i || c.contains p)) && c'.all ef.contains) = true ∧ (rs'.all fun r => rs.contains r && avS r x) = true ∧ EffAt P n l.toArray ks G0 w0 (twL o l xs 0 T) H o x H' rs
theorem any_go (hfit : fitB l.toArray n [] = true) (hT : ∀ t x, look T t = some x → ∀ (j : Nat) (o : Oper), l[j]? = some o → o.dst = some t → ∀ i, i < l.length → i ≠ j → waits o i = true) (hTa : ∀ t x, look T t = some x → ∀ r ∈ rs0, avS r x = true) (hl : xs.length = l.length)
    (hob : ∀ (k : Nat) (c rs : List Nat) (H : Hp), tb[k]? = some (c, rs, H) → ∀ (i : Nat) (o : Oper), l[i]? = some o → mayI l.toArray ef c i o = true → StepOb P n ks G0 w0 T l xs ef tb c rs H i o)
    (hend : ∀ (k : Nat) (c rs : List Nat) (H : Hp), tb[k]? = some (c, rs, H) → (∀ p ∈ ef, p < l.length → p ∈ c) → ∀ G a w, Sy n (putS l xs T) H ks G0 w0 G a w → Q .normal a w) :
    ∀ (fuel : Nat) (listed : Array Bool) (a : Act) (w : World) (k : Nat) (c rs : List Nat) (H : Hp) (G : Gr), listed.size = l.length → ((List.range l.length).filter fun i => !listed.getD i true).length ≤ fuel → tb[k]? = some (c, rs, H) → AInv n ks G0 w0 T l xs ef rs0 c rs H listed G a w → wpAny P .any l.toArray Q fuel listed a w := by
  have last : ∀ (listed : Array Bool) (a : Act) (w : World) (k : Nat) (c rs : List Nat) (H : Hp) (G : Gr), listed.size = l.length → Region.ready .any l.toArray listed = [] → tb[k]? = some (c, rs, H) → AInv n ks G0 w0 T l xs ef rs0 c rs H listed G a w → Q .normal a w := by
    intro listed a w k c rs H G hls hr hk I
    have all : ∀ i, i < l.length → listed.getD i false = true := by
      intro i
      induction i using Nat.strongRecOn with
      | _ i ih =>
        intro hi
        cases hq : listed.getD i false with
        | true => rfl
        | false =>
          exfalso
          have : i ∈ Region.ready .any l.toArray listed := by
            rw [mem_ready]
            have hli : i < listed.size := by omega
            have hoi : l.toArray[i]? = some l[i] := by simp [hi]
            refine ⟨by simpa [hli] using hq, l[i], hoi, fun e he hb => ?_⟩
            have hlt := (fit_spec hfit hoi).2 e he hb
            exact ih e.on hlt (by omega)
          rw [hr] at this; cases this
    refine hend k c rs H hk (fun p hp hpl => (I.eff p hp).1 (all p hpl)) G a w (I.ms.sy I.size I.defers fun t x hx => ?_)
    rcases put_look hl hx with ⟨i, p, q1, q2, q3⟩ | ⟨hx, hno⟩
    · exact (I.done i p x q1 (all i (List.getElem?_eq_some_iff.1 q1).1) q2).2 t q3
    · exact I.base t x hx fun j o h1 h2 => absurd h2 (hno j o h1)
  intro fuel
  induction fuel with
  | zero =>
    intro listed a w k c rs H G hls hf hk I
    have hr : Region.ready .any l.toArray listed = [] := by
      unfold Region.ready
      rw [List.filter_eq_nil_iff]
      intro i hi
      have hnil : ((List.range l.length).filter fun i => !listed.getD i true) = [] := List.eq_nil_of_length_eq_zero (by omega)
      rw [List.filter_eq_nil_iff] at hnil
      have := hnil i (by simpa using hi)
      simp only [Bool.not_eq_true, Bool.not_eq_false'] at this
      simp [this]
    exact ⟨hr, last listed a w k c rs H G hls hr hk I⟩
  | succ fuel ih =>
    intro listed a w k c rs H G hls hf hkt I
    refine ⟨fun hr => last listed a w k c rs H G hls hr hkt I, fun i hi => ?_⟩
    obtain ⟨hun, o, hoi, hall⟩ := mem_ready.1 hi
    have hil : i < l.length := by have := (Array.getElem?_eq_some_iff.1 hoi).1; simpa using this
    have hoi' : l[i]? = some o := by simpa using hoi
    obtain ⟨hfd, hfe⟩ := fit_spec hfit hoi
    have hun' : listed.getD i false = false := by
      have hlt : i < listed.size := by omega
      simpa [hlt] using hun
    have hw : ∀ p, waits o p = true → listed.getD p false = true := fun p hp => by
      unfold waits at hp
      rw [List.any_eq_true] at hp
      obtain ⟨e, he', hb⟩ := hp
      have he : e ∈ o.after := by simpa using he'
      simp only [Bool.and_eq_true, beq_iff_eq] at hb
      rw [← hb.2]
      exact hall e he hb.1
    -- what is known where it stands
    have A : Sy n (twL o l xs 0 T) H ks G0 w0 G a w := I.ms.sy I.size I.defers fun t x hx => by
      rcases tw_look hx with ⟨j, p, q1, q2, q3, q4⟩ | hx
      · exact (I.done j p x q1 (hw j (by simpa using q3)) q2).2 t q4
      · refine I.base t x hx fun j p h1 h2 => ?_
        by_cases hji : j = i
        · subst hji; exact hun'
        · cases hlj : listed.getD j false with
          | false => rfl
          | true =>
            have := I.closed j p i h1 hlj (hT t x hx j p h1 h2 i hil (Ne.symm hji))
            rw [hun'] at this; cases this
    have hmay : mayI l.toArray ef c i o = true := by
      unfold mayI
      simp only [Bool.and_eq_true, Bool.not_eq_true', List.all_eq_true, Bool.or_eq_true]
      refine ⟨⟨?_, fun p hp => ?_⟩, fun p hp => ?_⟩
      · cases hc : c.contains i with
        | false => rfl
        | true =>
          have h1 : i ∈ c := by simpa using hc
          have := (I.eff i (I.sub i h1)).2 h1
          rw [hun'] at this; cases this
      · cases hq : wt l.toArray o p with
        | false => exact .inl rfl
        | true =>
          refine .inr ?_
          have hlp : listed.getD p false = true := by
            unfold wt at hq
            cases hd : waits o p with
            | true => exact hw p hd
            | false =>
              rw [hd] at hq
              exact via_listed (ops := l.toArray) (fun j o' p' h1 h2 h3 => I.closed j o' p' (by simpa using h1) h2 h3) 2 o.after.toList (fun e he hb => hall e (by simpa using he) hb) hq
          have := (I.eff p hp).1 hlp
          simpa using this
      · split
        · next q hq =>
          cases hd : waits q i with
          | false => rfl
          | true =>
            have h1 := (I.eff p (I.sub p hp)).2 hp
            have := I.closed p q i (by simpa using hq) h1 hd
            rw [hun'] at this; cases this
        · rfl
    obtain ⟨x, c', rs', H', k', hx, hk', hc', hrs', he⟩ := hob k c rs H hkt i o hoi' hmay
    rw [Bool.and_eq_true, List.all_eq_true, List.all_eq_true] at hc'
    rw [List.all_eq_true] at hrs'
    have hr1 : ∀ r ∈ rs', r ∈ rs ∧ avS r x = true := fun r hr => by
      have := hrs' r hr
      rw [Bool.and_eq_true] at this
      exact ⟨by simpa using this.1, this.2⟩
    -- the next state
    have next : ∀ (v : Value) (w' : World) (G' : Gr), (∀ i, i ∉ rs → G'[i]? = G[i]?) → den G' x = some v → Ms H' ks G0 w0 G' w' → wpAny P .any l.toArray Q fuel (listed.setIfInBounds i true) (a.put o.dst v) w' := by
      intro v w' G' hG hv hms
      have hlt : i < listed.size := by omega
      have hget : ∀ j, (listed.setIfInBounds i true).getD j false = true ↔ (j = i ∨ listed.getD j false = true) := by
        intro j
        by_cases hji : j = i
        · subst hji; simp [hlt]
        · rw [set_ne false (Ne.symm hji)]; simp [hji]
      refine ih _ _ _ k' c' rs' H' G' (by simpa using hls) ?_ hk' ⟨?_, ?_, fun t y hy hno => ?_, fun j p y q1 q2 q3 => ?_, hms, fun p hp => ?_, fun p hp => ?_, fun r hr => I.rsub r (hr1 r hr).1, fun j p r q1 q2 q3 => ?_⟩
      · have : ((List.range l.length).filter fun k => !(listed.setIfInBounds i true).getD k true).length < ((List.range l.length).filter fun k => !listed.getD k true).length := by
          have hsub : ((List.range l.length).filter fun k => !(listed.setIfInBounds i true).getD k true) = ((List.range l.length).filter fun k => !listed.getD k true).filter (fun k => k != i) := by
            rw [List.filter_filter]
            apply List.filter_congr
            intro k _
            by_cases hk : k = i
            · subst hk; simp [hlt]
            · rw [set_ne true (Ne.symm hk)]; simp [hk]
          rw [hsub]
          refine List.length_filter_lt_length_iff_exists.2 ⟨i, ?_, by simp⟩
          simp only [List.mem_filter, List.mem_range]
          exact ⟨hil, by rw [hun]; rfl⟩
        omega
      · cases hd : o.dst <;> simp [Act.put, I.size]
      · cases hd : o.dst <;> simp [Act.put, I.defers]
      · have hno' : ∀ (j : Nat) (q : Oper), l[j]? = some q → q.dst = some t → listed.getD j false = false := fun j q h1 h2 => by
          have h3 := hno j q h1 h2
          cases hlj : listed.getD j false with
          | false => rfl
          | true => rw [(hget j).2 (.inr hlj)] at h3; cases h3
        have h1 : den G' y = some (a.tmps.getD t undef) := by rw [den_off hG y fun r hr => hTa t y hy r (I.rsub r hr)]; exact I.base t y hy hno'
        cases hd : o.dst with
        | none => exact h1
        | some d =>
          have hne : d ≠ t := fun e => by
            have h3 := hno i o hoi' (by rw [hd, e])
            rw [(hget i).2 (.inl rfl)] at h3; cases h3
          simp only [Act.put, Array.getD_eq_getD_getElem?]
          rw [Array.getElem?_setIfInBounds_ne hne, ← Array.getD_eq_getD_getElem?]
          exact h1
      · by_cases hji : j = i
        · subst hji
          rw [hoi'] at q1; cases q1
          rw [hx] at q3; cases q3
          refine ⟨fun r hr => (hr1 r hr).2, fun d q4 => ?_⟩
          have hdn : d < a.tmps.size := by rw [I.size]; exact (hfd d q4).1
          rw [q4]
          simp [Act.put, hdn, hv]
        · have h2 : listed.getD j false = true := by
            rcases (hget j).1 q2 with h | h
            · exact absurd h hji
            · exact h
          obtain ⟨g1, g2⟩ := I.done j p y q1 h2 q3
          refine ⟨fun r hr => g1 r (hr1 r hr).1, fun d q4 => ?_⟩
          have h1 : den G' y = some (a.tmps.getD d undef) := by rw [den_off hG y g1]; exact g2 d q4
          cases hd : o.dst with
          | none => exact h1
          | some d' =>
            have hne : d' ≠ d := fun e => by
              subst e
              exact hji ((hfd d' hd).2.1 j (by simpa using (List.getElem?_eq_some_iff.1 q1).1) (by simp [dstOf, q1, q4]))
            simp only [Act.put, Array.getD_eq_getD_getElem?]
            rw [Array.getElem?_setIfInBounds_ne hne, ← Array.getD_eq_getD_getElem?]
            exact h1
      · rw [hget p, I.eff p hp]
        have := hc'.1 p hp
        have hb : (p = i ∨ p ∈ c) ↔ (Nat.beq p i || c.contains p) = true := by
          rw [Bool.or_eq_true]
          refine or_congr ⟨fun h => by subst h; exact Nat.beq_refl p, Nat.eq_of_beq_eq_true⟩ (by simp)
        rw [hb]
        rw [beq_iff_eq] at this
        rw [← this]; simp
      · have := hc'.2 p hp; simpa using this
      · rw [hget r]
        by_cases hji : j = i
        · subst hji; rw [hoi'] at q1; cases q1; exact .inr (hw r q3)
        · rcases (hget j).1 q2 with h | h
          · exact absurd h hji
          · exact .inr (I.closed j p r q1 h q3)
    unfold wpOp
    rcases he G a w A with ⟨hwn, h⟩ | ⟨hwn, G', h1, h2, h3⟩
    · simp only [hoi, hwn, if_true]
      refine .inl (Oper.wp_mono (fun a2 w2 h => ?_) (h Q))
      obtain ⟨v, rfl, G', h1, h2, h3⟩ := h
      exact next v w2 G' h1 h2 h3
    · simp only [hoi, hwn, Bool.false_eq_true, if_false]
      exact next undef w G' h1 h2 h3
def mayR (ops : Array Oper) (ef c : List Nat) : List Oper → Nat → List Bool
  | [], _ => []
  | o :: l, i => mayI ops ef c i o :: mayR ops ef c l (i + 1)
def ObS (P : Program) (n : Nat) (ks : List Nat) (G0 : Gr) (w0 : World) (T : List (Nat × SV)) (L : List Oper) (xs : List SV) (ef : List Nat) (tb : List (List Nat × List Nat × Hp)) (c rs : List Nat) (H : Hp) : List Bool → List Oper → Nat → Prop
  | true :: bs, o :: l, i => StepOb P n ks G0 w0 T L xs ef tb c rs H i o ∧ ObS P n ks G0 w0 T L xs ef tb c rs H bs l (i + 1)
  | false :: bs, o :: l, i => ObS P n ks G0 w0 T L xs ef tb c rs H bs l (i + 1)
  | _, _, _ => True
def ObA (P : Program) (n : Nat) (ks : List Nat) (G0 : Gr) (w0 : World) (T : List (Nat × SV)) (L : List Oper) (xs : List SV) (ef : List Nat) (tb : List (List Nat × List Nat × Hp)) : List (List Bool) → List (List Nat × List Nat × Hp) → Prop
  | bs :: B, (c, rs, H) :: ss => ObS P n ks G0 w0 T L xs ef tb c rs H bs L 0 ∧ ObA P n ks G0 w0 T L xs ef tb B ss
  | _, _ => True
theorem obs_at {c rs : List Nat} {H : Hp} {L : List Oper} : ∀ {m : List Oper} {j : Nat}, ObS P n ks G0 w0 T L xs ef tb c rs H (mayR L.toArray ef c m j) m j → ∀ (i : Nat) (o : Oper), m[i]? = some o → mayI L.toArray ef c (j + i) o = true → StepOb P n ks G0 w0 T L xs ef tb c rs H (j + i) o
  | [], j, _, i, o, h, _ => by cases h
  | p :: m, j, hO, i, o, h, hm => by
    unfold mayR at hO
    cases i with
    | zero =>
      cases h
      rw [Nat.add_zero] at hm ⊢
      rw [hm] at hO
      exact hO.1
    | succ i =>
      have hO' : ObS P n ks G0 w0 T L xs ef tb c rs H (mayR L.toArray ef c m (j + 1)) m (j + 1) := by
        cases hb : mayI L.toArray ef c j p with
        | true => rw [hb] at hO; exact hO.2
        | false => rw [hb] at hO; exact hO
      have := obs_at hO' i o (by simpa using h) (by rw [show j + 1 + i = j + (i + 1) by omega]; exact hm)
      rwa [show j + 1 + i = j + (i + 1) by omega] at this
theorem oba_at : ∀ {ss : List (List Nat × List Nat × Hp)}, ObA P n ks G0 w0 T l xs ef tb (ss.map fun s => mayR l.toArray ef s.1 l 0) ss → ∀ (k : Nat) (c rs : List Nat) (H : Hp), ss[k]? = some (c, rs, H) → ObS P n ks G0 w0 T l xs ef tb c rs H (mayR l.toArray ef c l 0) l 0
  | [], _, k, c, rs, H, h => by cases h
  | (c1, r1, H1) :: ss, hO, k, c, rs, H, h => by
    simp only [List.map_cons, ObA] at hO
    cases k with
    | zero => cases h; exact hO.1
    | succ k => exact oba_at hO.2 k c rs H (by simpa using h)
theorem Sy.pad {H : Hp} {G : Gr} {a : Act} {w : World} (A : Ms H ks G0 w0 G w) (m : Nat) : Ms (H ++ List.replicate m none) ks G0 w0 (G ++ List.replicate m none) w := by
  have hlen := A.mem.len
  have hold : ∀ (i : Nat) (e : Ent), (H ++ List.replicate m none)[i]? = some (some e) → H[i]? = some (some e) := by
    intro i e h
    by_cases hi : i < H.length
    · rwa [List.getElem?_append_left hi] at h
    · rw [List.getElem?_append_right (by omega), List.getElem?_replicate] at h
      split at h <;> cases h
  have hg : ∀ (i : Nat) (e : Ent), H[i]? = some (some e) → (G ++ List.replicate m none)[i]? = G[i]? := fun i e h => by
    have := (List.getElem?_eq_some_iff.1 h).1
    rw [List.getElem?_append_left (by omega)]
  refine ⟨⟨by simp [hlen], fun i e h => ?_, fun i j e f L M hij h1 h2 h3 h4 h5 h6 => ?_⟩, ?_, fun i e L h1 h2 h3 => ?_, A.mix⟩
  · rw [hg i e (hold i e h)]; exact (A.mem.ent i e (hold i e h)).more _
  · rw [hg i e (hold i e h1)] at h4
    rw [hg j f (hold j f h2)] at h5
    exact A.mem.sep i j e f L M hij (hold i e h1) (hold j f h2) h3 h4 h5 h6
  · obtain ⟨F, rfl⟩ := A.pre; exact ⟨F ++ List.replicate m none, by simp⟩
  · rw [hg i e (hold i e h1)] at h3; exact A.own i e L (hold i e h1) h2 h3
mutual
theorem av_go {G : Gr} {r : Nat} (key : ∀ i, (∃ p, G[i]? = some p) → (!Nat.beq i r) = true) : ∀ (x : SV) {v : Value}, den G x = some v → avS r x = true
  | .ptr i _, v, hx => by unfold den at hx; split at hx; · next L hL => exact key i ⟨_, hL⟩
                          · cases hx
  | .el i _ _ _, v, hx => by unfold den at hx; split at hx; · next L hL => exact key i ⟨_, hL⟩
                             · cases hx
  | .sl i _ _, v, hx => by unfold den at hx; split at hx; · next L hL => exact key i ⟨_, hL⟩
                           · cases hx
  | .st i _ _ _ _, v, hx => by unfold den at hx; split at hx; · next L hL => exact key i ⟨_, hL⟩
                               · cases hx
  | .agg l, v, hx => by unfold den at hx; obtain ⟨vs, h1, _⟩ := Option.map_eq_some_iff.1 hx; exact avL_go key l h1
  | .tup l, v, hx => by unfold den at hx; obtain ⟨vs, h1, _⟩ := Option.map_eq_some_iff.1 hx; exact avL_go key l h1
  | .fn _ l, v, hx => by unfold den at hx; obtain ⟨vs, h1, _⟩ := Option.map_eq_some_iff.1 hx; exact avL_go key l h1
  | .opt _ x, v, hx => by unfold den at hx; obtain ⟨vs, h1, _⟩ := Option.map_eq_some_iff.1 hx; exact av_go key x h1
  | .ix p _ _ _ _, v, hx => by
    unfold den at hx
    cases hq : den G p with
    | none => rw [hq] at hx; cases hx
    | some u => exact av_go key p hq
  | .sp p _ _, v, hx => by
    unfold den at hx
    cases hq : den G p with
    | none => rw [hq] at hx; cases hx
    | some u => exact av_go key p hq
  | .int _ _, _, _ => rfl
  | .bool _, _, _ => rfl
  | .tt, _, _ => rfl
  | .ff, _, _ => rfl
  | .str _, _, _ => rfl
  | .sla _ _ _, _, _ => rfl
  | .v _, _, _ => rfl
theorem avL_go {G : Gr} {r : Nat} (key : ∀ i, (∃ p, G[i]? = some p) → (!Nat.beq i r) = true) : ∀ (l : List SV) {vs : List Value}, denL G l = some vs → avL r l = true
  | [], _, _ => rfl
  | x :: l, vs, hx => by
    obtain ⟨v, ws, h1, h2, _⟩ := denL_cons hx
    unfold avL
    rw [av_go key x h1, avL_go key l h2]; rfl
end
theorem inS_av {G : Gr} {r : Nat} (h : G.length ≤ r) (x : SV) {v : Value} (hx : den G x = some v) : avS r x = true :=
  av_go (fun i ⟨p, hp⟩ => by
    have := (List.getElem?_eq_some_iff.1 hp).1
    cases hb : Nat.beq i r with
    | false => rfl
    | true => have := Nat.eq_of_beq_eq_true hb; omega) x hx
def endS (ef : List Nat) : List (List Nat × List Nat × Hp) → Option Hp
  | [] => none
  | [(_, _, H)] => some H
  | (c, _, _) :: s => bif ef.all c.contains then none else endS ef s
theorem endS_spec {HE : Hp} : ∀ {tb : List (List Nat × List Nat × Hp)}, endS ef tb = some HE → ∀ (k : Nat) (c rs : List Nat) (H : Hp), tb[k]? = some (c, rs, H) → ef.all c.contains = true → H = HE
  | [], h, k, c, rs, H, hk, _ => by cases hk
  | [(c1, r1, H1)], h, k, c, rs, H, hk, _ => by
    cases h
    cases k with
    | zero => cases hk; rfl
    | succ k => simp at hk
  | (c1, r1, H1) :: s1 :: ss, h, k, c, rs, H, hk, hc => by
    unfold endS at h
    cases hb : ef.all c1.contains with
    | true => rw [hb] at h; cases h
    | false =>
      rw [hb] at h
      cases k with
      | zero => cases hk; rw [hc] at hb; cases hb
      | succ k => exact endS_spec (tb := s1 :: ss) h k c rs H (by simpa using hk) hc
theorem ANY {id : Nat} {H HE : Hp} {G : Gr} {a : Act} {w : World} {K : List Fr} (hmo : P.follows .mixedOrders = true) (xs : List SV) (ef rs0 : List Nat) (m : Nat) (tb : List (List Nat × List Nat × Hp)) (B : List (List Bool)) (A : Sy n T H ks G0 w0 G a w)
    (h0 : tb[0]? = some ([], rs0, H ++ List.replicate m none)) (hE : endS ef tb = some HE) (hrs : (rs0.all fun r => Nat.ble H.length r) = true) (hef : (ef.all fun p => Nat.blt p l.length) = true) (hB : (tb.map fun s => mayR l.toArray ef s.1 l 0) = B) (hl : xs.length = l.length) (hfit : fitB l.toArray n [] = true)
    (hO : ObA P n ks G0 w0 (keepT l T) l xs ef tb B tb) (hk : ∀ {G a w}, Sy n (putS l xs (keepT l T)) HE ks G0 w0 G a w → Goal P Q K .norm a w) : Goal P Q K (.code (.region id l.toArray true)) a w := by
  refine wp_region_any hmo ?_
  have hB1 : Ms H ks G0 w0 G w.drew := A.ms.grow (Grow.refl w).drew
  rw [List.all_eq_true] at hrs hef
  refine any_go (P := P) (xs := xs) (T := keepT l T) (ef := ef) (rs0 := rs0) (tb := tb) hfit (fun t x hx j o h3 h4 i hi hne => lt_spec (by have := keepB_spec (keep_look hx).2 j o h3 h4; rwa [Nat.zero_add] at this) i hi hne) (fun t x hx r hr => ?_) hl (fun k c rs H hk i o hi hm => ?_) (fun k c rs H' hk' hall G a w A' => ?_) _ _ _ _ 0 [] rs0 _ (G ++ List.replicate m none) (by simp) (by
    refine Nat.le_trans (List.length_filter_le _ _) (by simp)) h0 ⟨A.size, A.defers, fun t x hx _ => den_mono _ x (A.get t x (keep_look hx).1), fun j o x _ hj => ?_, Sy.pad (a := a) hB1 m, fun p hp => ?_, fun p hp => absurd hp (by simp), fun r hr => hr, fun j o p _ hj => ?_⟩
  · have := hrs r hr
    rw [A.mem.len] at this
    exact inS_av (G := G) (Nat.le_of_ble_eq_true this) x (A.get t x (keep_look hx).1)
  · have := obs_at (oba_at (by rw [hB]; exact hO) k c rs H hk) i o hi (by rw [Nat.zero_add]; exact hm)
    rwa [Nat.zero_add] at this
  · have h2 : (ef.all c.contains) = true := by
      rw [List.all_eq_true]
      intro p hp
      have := hall p hp (by have := hef p hp; simpa [Nat.blt_eq] using this)
      simpa using this
    cases endS_spec hE k c rs H' hk' h2
    exact hk A'
  · exfalso; simp [Array.getD_eq_getD_getElem?, Array.getElem?_replicate] at hj; split at hj <;> simp at hj
  · constructor
    · intro hj; exfalso; simp [Array.getD_eq_getD_getElem?, Array.getElem?_replicate] at hj; split at hj <;> simp at hj
    · intro hj; cases hj
  · exfalso; simp [Array.getD_eq_getD_getElem?, Array.getElem?_replicate] at hj; split at hj <;> simp at hj
/-! ### Cells written out, as a list that is read -/
theorem blk_parts {α : Type} (d : α) (cf : α → List SV) (s : Nat) (hs : ∀ x, (cf x).length = s) (hin : ∀ x, inL 0 (cf x) = true) : ∀ (L : List α) (k : Nat), k < L.length → tk s (dp (k * s) (L.flatMap cf)) = some (cf (L.getD k d)) ∧ inL 0 (cf (L.getD k d)) = true
  | [], k, h => by simp at h
  | x :: L, 0, _ => by
    refine ⟨?_, hin _⟩
    have tkl : ∀ (a b : List SV), tk a.length (a ++ b) = some a := by
      intro a b
      induction a with
      | nil => rfl
      | cons y a ih => simp [tk, ih]
    rw [Nat.zero_mul, ← hs x]
    exact tkl _ _
  | x :: L, k + 1, h => by
    have := blk_parts d cf s hs hin L k (by simpa using h)
    rw [dp_is] at this ⊢
    have e : (k + 1) * s = (cf x).length + k * s := by rw [hs, Nat.add_mul]; omega
    rw [List.flatMap_cons, e, ← List.drop_drop, List.drop_left]
    exact this
theorem Sy.asT {H : Hp} {G : Gr} {a : Act} {w : World} (A : Sy n T H ks G0 w0 G a w) {α : Type} (d : α) (cf : α → List SV) (s : Nat) (hs : ∀ x, (cf x).length = s) (hin : ∀ x, inL 0 (cf x) = true) (htot : ∀ x, ∃ vs, denL [] (cf x) = some vs) (L : List α) (i : Nat) (hi : lg H i = some (some (.blk (L.flatMap cf)))) : Sy n T (stH H i (some (.lst s L.length fun zz => cf (L.getD zz d)))) ks G0 w0 G a w :=
  A.asList i (f := fun zz => cf (L.getD zz d)) (by rw [lg_is] at hi; exact hi) (.inr ⟨_, rfl, blk_parts d cf s hs hin L⟩) (fun _ _ => rfl) (fun k => htot _)
theorem eff_asT {α : Type} {d : α} {cf : α → List SV} {s : Nat} (hc : (∀ x, (cf x).length = s) ∧ (∀ x, inL 0 (cf x) = true) ∧ (∀ x, ∃ vs, denL [] (cf x) = some vs)) (L : List α) (i : Nat) {H H' : Hp} {ops : Array Oper} {o : Oper} {x : SV} {Tw : List (Nat × SV)} (hi : lg H i = some (some (.blk (L.flatMap cf)))) (h : EffOK P n ops ks G0 w0 Tw (stH H i (some (.lst s L.length fun zz => cf (L.getD zz d)))) o x H') : EffOK P n ops ks G0 w0 Tw H o x H' := fun G a w A => h G a w (A.asT d cf s hc.1 hc.2.1 hc.2.2 L i hi)
end
end Go.Proofs.YtfdfjakafiglmaaDoor
namespace Go.Proofs.YtfdfjakafiglmaaDoor
open Go.RowKit
set_option linter.unusedVariables false
set_option linter.unusedSimpArgs false
set_option maxRecDepth 100000
set_option maxHeartbeats 2000000
set_option simprocs false
abbrev Pc := List UInt8 × Int
def pz : Pc := ([], 0)
theorem ap_len (ks : List Int) (t : List UInt8) (k : Int) : (apT ks t k).length ≤ t.length + 2 := by
  unfold apT; split
  · simp only [List.length_append, List.length_cons, List.length_nil]; omega
  · omega
theorem wr_f {R : List (List UInt8)} {l : List Pc} {j : Nat} {rg vl : Int} (ql : ∀ q, (l.getD q pz).1.length ≤ 1000000) (qR : ∀ q, (R.getD q []).length ≤ 100) (qv : -9223372036854775808 ≤ vl ∧ vl ≤ 9223372036854775807) : (l.getD ((((j : Nat) : Int) + 0).toNat) pz).1.length ≤ 1000000 ∧ (l.getD ((((j : Nat) : Int) + 1).toNat) pz).1.length ≤ 1000000 ∧ (R.getD (rg).toNat []).length ≤ 100 ∧ (Lib.itoa vl).length ≤ 21 ∧ (apT [4, 5] (l.getD ((((j : Nat) : Int) + 0).toNat) pz).1 (l.getD ((((j : Nat) : Int) + 0).toNat) pz).2).length ≤ 1000002 ∧ (apT [5] (l.getD ((((j : Nat) : Int) + 0).toNat) pz).1 (l.getD ((((j : Nat) : Int) + 0).toNat) pz).2).length ≤ 1000002 ∧ (apT [4, 5] (l.getD ((((j : Nat) : Int) + 1).toNat) pz).1 (l.getD ((((j : Nat) : Int) + 1).toNat) pz).2).length ≤ 1000002 ∧ (apT [5] (l.getD ((((j : Nat) : Int) + 1).toNat) pz).1 (l.getD ((((j : Nat) : Int) + 1).toNat) pz).2).length ≤ 1000002 := by
  have h0 := ql ((((j : Nat) : Int) + 0).toNat); have h1 := ql ((((j : Nat) : Int) + 1).toNat)
  exact ⟨h0, h1, qR _, Lib.itoa_length_le vl qv.1 qv.2, Nat.le_trans (ap_len _ _ _) (by omega), Nat.le_trans (ap_len _ _ _) (by omega), Nat.le_trans (ap_len _ _ _) (by omega), Nat.le_trans (ap_len _ _ _) (by omega)⟩
theorem wr_l (lc : Int) (h : 0 ≤ lc ∧ lc < 3) : ([[120], [121], [122]].getD (lc).toNat ([] : List UInt8)).length ≤ 1 := by
  have : (lc).toNat = 0 ∨ (lc).toNat = 1 ∨ (lc).toNat = 2 := by omega
  rcases this with e | e | e <;> rw [e] <;> decide
def wr0 (R : List (List UInt8)) (kd : Int) (th : Int) (rg : Int) (lc : Int) (vl : Int) (l : List Pc) (j : Nat) (k : Nat) : List UInt8 := if kd = 1 then ((((Lib.itoa th) ++ [58]) ++ (R.getD ((rg).toNat) [])) ++ [61]) ++ (Lib.itoa vl) else if kd = 2 then (([[120], [121], [122]].getD (lc).toNat []) ++ [61]) ++ (Lib.itoa vl) else if kd = 3 then [126] ++ (apT [4, 5] ((l.getD ((((j : Nat) : Int) + 0).toNat) pz).1) ((l.getD ((((j : Nat) : Int) + 0).toNat) pz).2)) else if kd = 4 then ((((apT [5] ((l.getD ((((j : Nat) : Int) + 0).toNat) pz).1) ((l.getD ((((j : Nat) : Int) + 0).toNat) pz).2)) ++ [32]) ++ [47, 92]) ++ [32]) ++ (apT [4, 5] ((l.getD ((((j : Nat) : Int) + 1).toNat) pz).1) ((l.getD ((((j : Nat) : Int) + 1).toNat) pz).2)) else (((((l.getD ((((j : Nat) : Int) + 0).toNat) pz).1) ++ [32]) ++ [92, 47]) ++ [32]) ++ (apT [5] ((l.getD ((((j : Nat) : Int) + 1).toNat) pz).1) ((l.getD ((((j : Nat) : Int) + 1).toNat) pz).2))
theorem wr_ (R : List (List UInt8)) (kd : Int) (th : Int) (rg : Int) (lc : Int) (vl : Int) (l : List Pc) (j : Nat) (k : Nat) (b : Nat) (o : Obj) (hT : ∀ w : World, w.heap[b]? = some o → Lib.TabIs Tryd.prog w "internal/strconv.uint64pow10" .u64 Lib.pow10Tab) (hk : j + k ≤ l.length) (q1 : kd = 1 → 0 ≤ th ∧ th < 3 ∧ 0 ≤ rg ∧ rg < 8) (q2 : kd = 2 → 0 ≤ lc ∧ lc < 3) (q3 : kd = 3 → 1 ≤ k) (q4 : kd ≠ 1 → kd ≠ 2 → kd ≠ 3 → 2 ≤ k) (qv : -9223372036854775808 ≤ vl ∧ vl ≤ 9223372036854775807) (ql : ∀ q, (l.getD q pz).1.length ≤ 1000000) (qR : ∀ q, (R.getD q []).length ≤ 100) (hR : 8 ≤ R.length) : Fn Tryd.prog 34 [.sl 0 R.length 8, .agg [.int .i64 kd, .int .i64 th, .int .i64 rg, .int .i64 lc, .int .i64 vl], .st 1 2 j k 0] [some (.row 9 1 R.length 8 (fun zz => [.str (R.getD zz [])])), some (.row 64 2 l.length 0 (fun zz => [.str (l.getD zz pz).1, .int .i64 (l.getD zz pz).2])), some (.fac b o)] (Rt (.str (wr0 R kd th rg lc vl l j k)) [some (.row 9 1 R.length 8 (fun zz => [.str (R.getD zz [])])), some (.row 64 2 l.length 0 (fun zz => [.str (l.getD zz pz).1, .int .i64 (l.getD zz pz).2])), some (.fac b o)]) :=
 enterM (n := 75) (by kernel_rfl) Tryd.func34 rfl rfl rfl fun G w a h0 A => N hX 20 A rfl rfl fun A => forkE 9 A rfl
  (fun h1 A => N hX 2 A rfl rfl fun A => DRAWN hX hmo [] [(2, .str (Lib.itoa th), [some (.row 9 1 R.length 8 (fun zz => [.str (R.getD zz [])])), some (.row 64 2 l.length 0 (fun zz => [.str (l.getD zz pz).1, .int .i64 (l.getD zz pz).2])), some (.fac b o), some (.blk [.int .i64 kd, .int .i64 th, .int .i64 rg, .int .i64 lc, .int .i64 vl])]), (13, .str (Lib.itoa vl), [some (.row 9 1 R.length 8 (fun zz => [.str (R.getD zz [])])), some (.row 64 2 l.length 0 (fun zz => [.str (l.getD zz pz).1, .int .i64 (l.getD zz pz).2])), some (.fac b o), some (.blk [.int .i64 kd, .int .i64 th, .int .i64 rg, .int .i64 lc, .int .i64 vl])])] A rfl (ok_d (by have hz := wr_f (j := j) (rg := rg) ql qR qv; have := Lib.itoa_length_le th (by omega) (by omega); (try simp only [List.length_append, List.length_cons, List.length_nil]); omega) <| ok_d (by have hz := wr_f (j := j) (rg := rg) ql qR qv; have := Lib.itoa_length_le th (by omega) (by omega); (try simp only [List.length_append, List.length_cons, List.length_nil]); omega) <| ok_d (by have hz := wr_f (j := j) (rg := rg) ql qR qv; have := Lib.itoa_length_le th (by omega) (by omega); (try simp only [List.length_append, List.length_cons, List.length_nil]); omega) <| ok_d (by have hz := wr_f (j := j) (rg := rg) ql qR qv; have := Lib.itoa_length_le th (by omega) (by omega); (try simp only [List.length_append, List.length_cons, List.length_nil]); omega) <| ok_d (by have hz := wr_f (j := j) (rg := rg) ql qR qv; have := Lib.itoa_length_le th (by omega) (by omega); (try simp only [List.length_append, List.length_cons, List.length_nil]); omega) <| ok_d (by have hz := wr_f (j := j) (rg := rg) ql qR qv; have := Lib.itoa_length_le th (by omega) (by omega); (try simp only [List.length_append, List.length_cons, List.length_nil]); omega) <| ok_d (by have hz := wr_f (j := j) (rg := rg) ql qR qv; have := Lib.itoa_length_le th (by omega) (by omega); (try simp only [List.length_append, List.length_cons, List.length_nil]); omega) <| ok_d (by have hz := wr_f (j := j) (rg := rg) ql qR qv; have := Lib.itoa_length_le th (by omega) (by omega); (try simp only [List.length_append, List.length_cons, List.length_nil]); omega) <| ok_d (by have hz := wr_f (j := j) (rg := rg) ql qR qv; have := Lib.itoa_length_le th (by omega) (by omega); (try simp only [List.length_append, List.length_cons, List.length_nil]); omega) <| ok_d (by have hz := wr_f (j := j) (rg := rg) ql qR qv; have := Lib.itoa_length_le th (by omega) (by omega); (try simp only [List.length_append, List.length_cons, List.length_nil]); omega) <| ok_d (by have hz := wr_f (j := j) (rg := rg) ql qR qv; have := Lib.itoa_length_le th (by omega) (by omega); (try simp only [List.length_append, List.length_cons, List.length_nil]); omega) <| ok_d (by have hz := wr_f (j := j) (rg := rg) ql qR qv; have := Lib.itoa_length_le th (by omega) (by omega); (try simp only [List.length_append, List.length_cons, List.length_nil]); omega) <| ok_d (by have hz := wr_f (j := j) (rg := rg) ql qR qv; have := Lib.itoa_length_le th (by omega) (by omega); (try simp only [List.length_append, List.length_cons, List.length_nil]); omega) <| okE_nil) rfl rfl (by kernel_rfl) ⟨callE [2] (fn_itoa b o hT th (by omega) (by omega)) rfl rfl rfl rfl rfl rfl rfl, ⟨callE [2] (fn_itoa b o hT vl (by omega) (by omega)) rfl rfl rfl rfl rfl rfl rfl, trivial⟩⟩ trivial fun A => N hX 2 A rfl rfl fun A => RETN hX A rfl rfl rfl h0 rfl rfl rfl rfl (by simp only [oneS, nb, nbL, nbH, wr0, if_pos h1]) rfl)
  (fun h1 A => N hX 7 A rfl rfl fun A => forkE 26 A rfl
   (fun h2 A => N hX 2 A rfl rfl fun A => DRAWN hX hmo [] [(0, .sl 4 3 3, [some (.row 9 1 R.length 8 (fun zz => [.str (R.getD zz [])])), some (.row 64 2 l.length 0 (fun zz => [.str (l.getD zz pz).1, .int .i64 (l.getD zz pz).2])), some (.fac b o), some (.blk [.int .i64 kd, .int .i64 th, .int .i64 rg, .int .i64 lc, .int .i64 vl]), some (.blk [.str [120], .str [121], .str [122]])]), (8, .str (Lib.itoa vl), [some (.row 9 1 R.length 8 (fun zz => [.str (R.getD zz [])])), some (.row 64 2 l.length 0 (fun zz => [.str (l.getD zz pz).1, .int .i64 (l.getD zz pz).2])), some (.fac b o), some (.blk [.int .i64 kd, .int .i64 th, .int .i64 rg, .int .i64 lc, .int .i64 vl]), some (.blk [.str [120], .str [121], .str [122]])])] A rfl (ok_d (by omega) <| ok_d (by omega) <| ok_d (by omega) <| ok_d (by omega) <| ok_d (by have hz := wr_f (j := j) (rg := rg) ql qR qv; have hx := wr_l lc (by omega); (try simp only [List.length_append, List.length_cons, List.length_nil]); omega) <| ok_d (by have hz := wr_f (j := j) (rg := rg) ql qR qv; have hx := wr_l lc (by omega); (try simp only [List.length_append, List.length_cons, List.length_nil]); omega) <| ok_d (by have hz := wr_f (j := j) (rg := rg) ql qR qv; have hx := wr_l lc (by omega); (try simp only [List.length_append, List.length_cons, List.length_nil]); omega) <| okE_nil) rfl rfl (by kernel_rfl) ⟨callE [] locs_ rfl rfl rfl rfl rfl rfl rfl, ⟨callE [2] (fn_itoa b o hT vl (by omega) (by omega)) rfl rfl rfl rfl rfl rfl rfl, trivial⟩⟩ trivial fun A => N hX 2 A rfl rfl fun A => RETN hX A rfl rfl rfl h0 rfl rfl rfl rfl (by simp only [oneS, nb, nbL, nbH, wr0, if_neg (h1), if_pos h2]) rfl)
   (fun h2 A => N hX 7 A rfl rfl fun A => forkE 38 A rfl
    (fun h3 A => N hX 7 A rfl (ok_d (by have hz := wr_f (j := j) (rg := rg) ql qR qv; (try simp only [List.length_append, List.length_cons, List.length_nil]); omega) <| ok_d (by have hz := wr_f (j := j) (rg := rg) ql qR qv; (try simp only [List.length_append, List.length_cons, List.length_nil]); omega) <| okE_nil) fun A => CALL1 [4] (ap45_ ((l.getD ((((j : Nat) : Int) + 0).toNat) pz).1) ((l.getD ((((j : Nat) : Int) + 0).toNat) pz).2) (by have hz := wr_f (j := j) (rg := rg) ql qR qv; (try simp only [List.length_append, List.length_cons, List.length_nil]); omega)) A rfl rfl rfl rfl rfl rfl rfl fun A => N hX 5 A rfl (ok_d (by have hz := wr_f (j := j) (rg := rg) ql qR qv; (try simp only [List.length_append, List.length_cons, List.length_nil]); omega) <| okE_nil) fun A => RETN hX A rfl rfl rfl h0 rfl rfl rfl rfl (by simp only [oneS, nb, nbL, nbH, wr0, if_neg (h1), if_neg (h2), if_pos h3]) rfl)
    (fun h3 A => N hX 7 A rfl rfl fun A => forkE 46 A rfl
     (fun h4 A => N hX 2 A rfl rfl fun A => ANY hmo [.st 1 2 j k 0, .el 1 2 (((j : Nat) : Int) + 0) 0, .agg [.str ((l.getD ((((j : Nat) : Int) + 0).toNat) pz).1), .int .i64 ((l.getD ((((j : Nat) : Int) + 0).toNat) pz).2)], .sl 4 1 1, .str (apT [5] ((l.getD ((((j : Nat) : Int) + 0).toNat) pz).1) ((l.getD ((((j : Nat) : Int) + 0).toNat) pz).2)), .str ((apT [5] ((l.getD ((((j : Nat) : Int) + 0).toNat) pz).1) ((l.getD ((((j : Nat) : Int) + 0).toNat) pz).2)) ++ [32]), .str (((apT [5] ((l.getD ((((j : Nat) : Int) + 0).toNat) pz).1) ((l.getD ((((j : Nat) : Int) + 0).toNat) pz).2)) ++ [32]) ++ [47, 92]), .str ((((apT [5] ((l.getD ((((j : Nat) : Int) + 0).toNat) pz).1) ((l.getD ((((j : Nat) : Int) + 0).toNat) pz).2)) ++ [32]) ++ [47, 92]) ++ [32]), .st 1 2 j k 0, .el 1 2 (((j : Nat) : Int) + 1) 0, .agg [.str ((l.getD ((((j : Nat) : Int) + 1).toNat) pz).1), .int .i64 ((l.getD ((((j : Nat) : Int) + 1).toNat) pz).2)], .sl 5 2 2, .str (apT [4, 5] ((l.getD ((((j : Nat) : Int) + 1).toNat) pz).1) ((l.getD ((((j : Nat) : Int) + 1).toNat) pz).2)), .str (((((apT [5] ((l.getD ((((j : Nat) : Int) + 0).toNat) pz).1) ((l.getD ((((j : Nat) : Int) + 0).toNat) pz).2)) ++ [32]) ++ [47, 92]) ++ [32]) ++ (apT [4, 5] ((l.getD ((((j : Nat) : Int) + 1).toNat) pz).1) ((l.getD ((((j : Nat) : Int) + 1).toNat) pz).2))), .str (((((apT [5] ((l.getD ((((j : Nat) : Int) + 0).toNat) pz).1) ((l.getD ((((j : Nat) : Int) + 0).toNat) pz).2)) ++ [32]) ++ [47, 92]) ++ [32]) ++ (apT [4, 5] ((l.getD ((((j : Nat) : Int) + 1).toNat) pz).1) ((l.getD ((((j : Nat) : Int) + 1).toNat) pz).2)))] [3, 4, 11, 12] [4, 5] 2 [([], [4, 5], [some (.row 9 1 R.length 8 (fun zz => [.str (R.getD zz [])])), some (.row 64 2 l.length 0 (fun zz => [.str (l.getD zz pz).1, .int .i64 (l.getD zz pz).2])), some (.fac b o), some (.blk [.int .i64 kd, .int .i64 th, .int .i64 rg, .int .i64 lc, .int .i64 vl]), none, none]), ([3], [5], [some (.row 9 1 R.length 8 (fun zz => [.str (R.getD zz [])])), some (.row 64 2 l.length 0 (fun zz => [.str (l.getD zz pz).1, .int .i64 (l.getD zz pz).2])), some (.fac b o), some (.blk [.int .i64 kd, .int .i64 th, .int .i64 rg, .int .i64 lc, .int .i64 vl]), some (.blk [.int .i64 5]), none]), ([11], [4], [some (.row 9 1 R.length 8 (fun zz => [.str (R.getD zz [])])), some (.row 64 2 l.length 0 (fun zz => [.str (l.getD zz pz).1, .int .i64 (l.getD zz pz).2])), some (.fac b o), some (.blk [.int .i64 kd, .int .i64 th, .int .i64 rg, .int .i64 lc, .int .i64 vl]), none, some (.blk [.int .i64 4, .int .i64 5])]), ([3, 4], [5], [some (.row 9 1 R.length 8 (fun zz => [.str (R.getD zz [])])), some (.row 64 2 l.length 0 (fun zz => [.str (l.getD zz pz).1, .int .i64 (l.getD zz pz).2])), some (.fac b o), some (.blk [.int .i64 kd, .int .i64 th, .int .i64 rg, .int .i64 lc, .int .i64 vl]), some (.blk [.int .i64 5]), none]), ([3, 11], [], [some (.row 9 1 R.length 8 (fun zz => [.str (R.getD zz [])])), some (.row 64 2 l.length 0 (fun zz => [.str (l.getD zz pz).1, .int .i64 (l.getD zz pz).2])), some (.fac b o), some (.blk [.int .i64 kd, .int .i64 th, .int .i64 rg, .int .i64 lc, .int .i64 vl]), some (.blk [.int .i64 5]), some (.blk [.int .i64 4, .int .i64 5])]), ([3, 4, 11], [], [some (.row 9 1 R.length 8 (fun zz => [.str (R.getD zz [])])), some (.row 64 2 l.length 0 (fun zz => [.str (l.getD zz pz).1, .int .i64 (l.getD zz pz).2])), some (.fac b o), some (.blk [.int .i64 kd, .int .i64 th, .int .i64 rg, .int .i64 lc, .int .i64 vl]), some (.blk [.int .i64 5]), some (.blk [.int .i64 4, .int .i64 5])]), ([3, 4, 11, 12], [], [some (.row 9 1 R.length 8 (fun zz => [.str (R.getD zz [])])), some (.row 64 2 l.length 0 (fun zz => [.str (l.getD zz pz).1, .int .i64 (l.getD zz pz).2])), some (.fac b o), some (.blk [.int .i64 kd, .int .i64 th, .int .i64 rg, .int .i64 lc, .int .i64 vl]), some (.blk [.int .i64 5]), some (.blk [.int .i64 4, .int .i64 5])])] [[true, true, true, true, false, false, false, false, true, true, true, true, false, false, false], [true, true, true, false, true, false, false, false, true, true, true, true, false, false, false], [true, true, true, true, false, false, false, false, true, true, true, false, false, false, false], [true, true, false, false, false, true, true, true, true, true, true, true, false, false, false], [true, true, true, false, true, false, false, false, true, true, true, false, false, false, false], [true, true, false, false, false, true, true, true, true, true, true, false, true, false, false], [true, true, false, false, false, true, true, true, true, true, false, false, false, true, true]] A rfl rfl rfl rfl (by kernel_rfl) rfl (by kernel_rfl) ⟨⟨⟨_, _, _, _, 0, rfl, rfl, rfl, rfl, eff_at (eff_auto (X := ⟨_, true⟩) (out := .val _ _) hX rfl rfl) rfl⟩, ⟨⟨_, _, _, _, 0, rfl, rfl, rfl, rfl, eff_at (eff_auto (X := ⟨_, true⟩) (out := .val _ _) hX rfl (ok_d (by have hz := wr_f (j := j) (rg := rg) ql qR qv; (try simp only [List.length_append, List.length_cons, List.length_nil]); omega) <| okE_nil)) rfl⟩, ⟨⟨_, _, _, _, 0, rfl, rfl, rfl, rfl, eff_at (eff_auto (X := ⟨_, true⟩) (out := .val _ _) hX rfl (ok_d (by have hz := wr_f (j := j) (rg := rg) ql qR qv; (try simp only [List.length_append, List.length_cons, List.length_nil]); omega) <| okE_nil)) rfl⟩, ⟨⟨_, _, _, _, 1, rfl, rfl, rfl, rfl, new_at 4 (X := ⟨_, true⟩) hX rfl rfl (le0 h0 rfl) rfl rfl rfl rfl⟩, ⟨⟨_, _, _, _, 0, rfl, rfl, rfl, rfl, eff_at (eff_auto (X := ⟨_, true⟩) (out := .val _ _) hX rfl rfl) rfl⟩, ⟨⟨_, _, _, _, 0, rfl, rfl, rfl, rfl, eff_at (eff_auto (X := ⟨_, true⟩) (out := .val _ _) hX rfl (ok_d (by have hz := wr_f (j := j) (rg := rg) ql qR qv; (try simp only [List.length_append, List.length_cons, List.length_nil]); omega) <| okE_nil)) rfl⟩, ⟨⟨_, _, _, _, 0, rfl, rfl, rfl, rfl, eff_at (eff_auto (X := ⟨_, true⟩) (out := .val _ _) hX rfl (ok_d (by have hz := wr_f (j := j) (rg := rg) ql qR qv; (try simp only [List.length_append, List.length_cons, List.length_nil]); omega) <| okE_nil)) rfl⟩, ⟨⟨_, _, _, _, 2, rfl, rfl, rfl, rfl, new_at 5 (X := ⟨_, true⟩) hX rfl rfl (le0 h0 rfl) rfl rfl rfl rfl⟩, trivial⟩⟩⟩⟩⟩⟩⟩⟩, ⟨⟨⟨_, _, _, _, 1, rfl, rfl, rfl, rfl, eff_at (eff_auto (X := ⟨_, true⟩) (out := .val _ _) hX rfl rfl) rfl⟩, ⟨⟨_, _, _, _, 1, rfl, rfl, rfl, rfl, eff_at (eff_auto (X := ⟨_, true⟩) (out := .val _ _) hX rfl (ok_d (by have hz := wr_f (j := j) (rg := rg) ql qR qv; (try simp only [List.length_append, List.length_cons, List.length_nil]); omega) <| okE_nil)) rfl⟩, ⟨⟨_, _, _, _, 1, rfl, rfl, rfl, rfl, eff_at (eff_auto (X := ⟨_, true⟩) (out := .val _ _) hX rfl (ok_d (by have hz := wr_f (j := j) (rg := rg) ql qR qv; (try simp only [List.length_append, List.length_cons, List.length_nil]); omega) <| okE_nil)) rfl⟩, ⟨⟨_, _, _, _, 3, rfl, rfl, rfl, rfl, eff_at (callE [4] (ap5_ ((l.getD ((((j : Nat) : Int) + 0).toNat) pz).1) ((l.getD ((((j : Nat) : Int) + 0).toNat) pz).2) (by have hz := wr_f (j := j) (rg := rg) ql qR qv; (try simp only [List.length_append, List.length_cons, List.length_nil]); omega)) rfl rfl rfl rfl rfl rfl rfl) rfl⟩, ⟨⟨_, _, _, _, 1, rfl, rfl, rfl, rfl, eff_at (eff_auto (X := ⟨_, true⟩) (out := .val _ _) hX rfl rfl) rfl⟩, ⟨⟨_, _, _, _, 1, rfl, rfl, rfl, rfl, eff_at (eff_auto (X := ⟨_, true⟩) (out := .val _ _) hX rfl (ok_d (by have hz := wr_f (j := j) (rg := rg) ql qR qv; (try simp only [List.length_append, List.length_cons, List.length_nil]); omega) <| okE_nil)) rfl⟩, ⟨⟨_, _, _, _, 1, rfl, rfl, rfl, rfl, eff_at (eff_auto (X := ⟨_, true⟩) (out := .val _ _) hX rfl (ok_d (by have hz := wr_f (j := j) (rg := rg) ql qR qv; (try simp only [List.length_append, List.length_cons, List.length_nil]); omega) <| okE_nil)) rfl⟩, ⟨⟨_, _, _, _, 4, rfl, rfl, rfl, rfl, new_at 5 (X := ⟨_, true⟩) hX rfl rfl (le0 h0 rfl) rfl rfl rfl rfl⟩, trivial⟩⟩⟩⟩⟩⟩⟩⟩, ⟨⟨⟨_, _, _, _, 2, rfl, rfl, rfl, rfl, eff_at (eff_auto (X := ⟨_, true⟩) (out := .val _ _) hX rfl rfl) rfl⟩, ⟨⟨_, _, _, _, 2, rfl, rfl, rfl, rfl, eff_at (eff_auto (X := ⟨_, true⟩) (out := .val _ _) hX rfl (ok_d (by have hz := wr_f (j := j) (rg := rg) ql qR qv; (try simp only [List.length_append, List.length_cons, List.length_nil]); omega) <| okE_nil)) rfl⟩, ⟨⟨_, _, _, _, 2, rfl, rfl, rfl, rfl, eff_at (eff_auto (X := ⟨_, true⟩) (out := .val _ _) hX rfl (ok_d (by have hz := wr_f (j := j) (rg := rg) ql qR qv; (try simp only [List.length_append, List.length_cons, List.length_nil]); omega) <| okE_nil)) rfl⟩, ⟨⟨_, _, _, _, 4, rfl, rfl, rfl, rfl, new_at 4 (X := ⟨_, true⟩) hX rfl rfl (le0 h0 rfl) rfl rfl rfl rfl⟩, ⟨⟨_, _, _, _, 2, rfl, rfl, rfl, rfl, eff_at (eff_auto (X := ⟨_, true⟩) (out := .val _ _) hX rfl rfl) rfl⟩, ⟨⟨_, _, _, _, 2, rfl, rfl, rfl, rfl, eff_at (eff_auto (X := ⟨_, true⟩) (out := .val _ _) hX rfl (ok_d (by have hz := wr_f (j := j) (rg := rg) ql qR qv; (try simp only [List.length_append, List.length_cons, List.length_nil]); omega) <| okE_nil)) rfl⟩, ⟨⟨_, _, _, _, 2, rfl, rfl, rfl, rfl, eff_at (eff_auto (X := ⟨_, true⟩) (out := .val _ _) hX rfl (ok_d (by have hz := wr_f (j := j) (rg := rg) ql qR qv; (try simp only [List.length_append, List.length_cons, List.length_nil]); omega) <| okE_nil)) rfl⟩, trivial⟩⟩⟩⟩⟩⟩⟩, ⟨⟨⟨_, _, _, _, 3, rfl, rfl, rfl, rfl, eff_at (eff_auto (X := ⟨_, true⟩) (out := .val _ _) hX rfl rfl) rfl⟩, ⟨⟨_, _, _, _, 3, rfl, rfl, rfl, rfl, eff_at (eff_auto (X := ⟨_, true⟩) (out := .val _ _) hX rfl (ok_d (by have hz := wr_f (j := j) (rg := rg) ql qR qv; (try simp only [List.length_append, List.length_cons, List.length_nil]); omega) <| okE_nil)) rfl⟩, ⟨⟨_, _, _, _, 3, rfl, rfl, rfl, rfl, eff_at (eff_auto (X := ⟨_, true⟩) (out := .val _ _) hX rfl (ok_d (by have hz := wr_f (j := j) (rg := rg) ql qR qv; (try simp only [List.length_append, List.length_cons, List.length_nil]); omega) <| okE_nil)) rfl⟩, ⟨⟨_, _, _, _, 3, rfl, rfl, rfl, rfl, eff_at (eff_auto (X := ⟨_, true⟩) (out := .val _ _) hX rfl (ok_d (by have hz := wr_f (j := j) (rg := rg) ql qR qv; (try simp only [List.length_append, List.length_cons, List.length_nil]); omega) <| okE_nil)) rfl⟩, ⟨⟨_, _, _, _, 3, rfl, rfl, rfl, rfl, eff_at (eff_auto (X := ⟨_, true⟩) (out := .val _ _) hX rfl (ok_d (by have hz := wr_f (j := j) (rg := rg) ql qR qv; (try simp only [List.length_append, List.length_cons, List.length_nil]); omega) <| okE_nil)) rfl⟩, ⟨⟨_, _, _, _, 3, rfl, rfl, rfl, rfl, eff_at (eff_auto (X := ⟨_, true⟩) (out := .val _ _) hX rfl rfl) rfl⟩, ⟨⟨_, _, _, _, 3, rfl, rfl, rfl, rfl, eff_at (eff_auto (X := ⟨_, true⟩) (out := .val _ _) hX rfl (ok_d (by have hz := wr_f (j := j) (rg := rg) ql qR qv; (try simp only [List.length_append, List.length_cons, List.length_nil]); omega) <| okE_nil)) rfl⟩, ⟨⟨_, _, _, _, 3, rfl, rfl, rfl, rfl, eff_at (eff_auto (X := ⟨_, true⟩) (out := .val _ _) hX rfl (ok_d (by have hz := wr_f (j := j) (rg := rg) ql qR qv; (try simp only [List.length_append, List.length_cons, List.length_nil]); omega) <| okE_nil)) rfl⟩, ⟨⟨_, _, _, _, 5, rfl, rfl, rfl, rfl, new_at 5 (X := ⟨_, true⟩) hX rfl rfl (le0 h0 rfl) rfl rfl rfl rfl⟩, trivial⟩⟩⟩⟩⟩⟩⟩⟩⟩, ⟨⟨⟨_, _, _, _, 4, rfl, rfl, rfl, rfl, eff_at (eff_auto (X := ⟨_, true⟩) (out := .val _ _) hX rfl rfl) rfl⟩, ⟨⟨_, _, _, _, 4, rfl, rfl, rfl, rfl, eff_at (eff_auto (X := ⟨_, true⟩) (out := .val _ _) hX rfl (ok_d (by have hz := wr_f (j := j) (rg := rg) ql qR qv; (try simp only [List.length_append, List.length_cons, List.length_nil]); omega) <| okE_nil)) rfl⟩, ⟨⟨_, _, _, _, 4, rfl, rfl, rfl, rfl, eff_at (eff_auto (X := ⟨_, true⟩) (out := .val _ _) hX rfl (ok_d (by have hz := wr_f (j := j) (rg := rg) ql qR qv; (try simp only [List.length_append, List.length_cons, List.length_nil]); omega) <| okE_nil)) rfl⟩, ⟨⟨_, _, _, _, 5, rfl, rfl, rfl, rfl, eff_at (callE [4] (ap5_ ((l.getD ((((j : Nat) : Int) + 0).toNat) pz).1) ((l.getD ((((j : Nat) : Int) + 0).toNat) pz).2) (by have hz := wr_f (j := j) (rg := rg) ql qR qv; (try simp only [List.length_append, List.length_cons, List.length_nil]); omega)) rfl rfl rfl rfl rfl rfl rfl) rfl⟩, ⟨⟨_, _, _, _, 4, rfl, rfl, rfl, rfl, eff_at (eff_auto (X := ⟨_, true⟩) (out := .val _ _) hX rfl rfl) rfl⟩, ⟨⟨_, _, _, _, 4, rfl, rfl, rfl, rfl, eff_at (eff_auto (X := ⟨_, true⟩) (out := .val _ _) hX rfl (ok_d (by have hz := wr_f (j := j) (rg := rg) ql qR qv; (try simp only [List.length_append, List.length_cons, List.length_nil]); omega) <| okE_nil)) rfl⟩, ⟨⟨_, _, _, _, 4, rfl, rfl, rfl, rfl, eff_at (eff_auto (X := ⟨_, true⟩) (out := .val _ _) hX rfl (ok_d (by have hz := wr_f (j := j) (rg := rg) ql qR qv; (try simp only [List.length_append, List.length_cons, List.length_nil]); omega) <| okE_nil)) rfl⟩, trivial⟩⟩⟩⟩⟩⟩⟩, ⟨⟨⟨_, _, _, _, 5, rfl, rfl, rfl, rfl, eff_at (eff_auto (X := ⟨_, true⟩) (out := .val _ _) hX rfl rfl) rfl⟩, ⟨⟨_, _, _, _, 5, rfl, rfl, rfl, rfl, eff_at (eff_auto (X := ⟨_, true⟩) (out := .val _ _) hX rfl (ok_d (by have hz := wr_f (j := j) (rg := rg) ql qR qv; (try simp only [List.length_append, List.length_cons, List.length_nil]); omega) <| okE_nil)) rfl⟩, ⟨⟨_, _, _, _, 5, rfl, rfl, rfl, rfl, eff_at (eff_auto (X := ⟨_, true⟩) (out := .val _ _) hX rfl (ok_d (by have hz := wr_f (j := j) (rg := rg) ql qR qv; (try simp only [List.length_append, List.length_cons, List.length_nil]); omega) <| okE_nil)) rfl⟩, ⟨⟨_, _, _, _, 5, rfl, rfl, rfl, rfl, eff_at (eff_auto (X := ⟨_, true⟩) (out := .val _ _) hX rfl (ok_d (by have hz := wr_f (j := j) (rg := rg) ql qR qv; (try simp only [List.length_append, List.length_cons, List.length_nil]); omega) <| okE_nil)) rfl⟩, ⟨⟨_, _, _, _, 5, rfl, rfl, rfl, rfl, eff_at (eff_auto (X := ⟨_, true⟩) (out := .val _ _) hX rfl (ok_d (by have hz := wr_f (j := j) (rg := rg) ql qR qv; (try simp only [List.length_append, List.length_cons, List.length_nil]); omega) <| okE_nil)) rfl⟩, ⟨⟨_, _, _, _, 5, rfl, rfl, rfl, rfl, eff_at (eff_auto (X := ⟨_, true⟩) (out := .val _ _) hX rfl rfl) rfl⟩, ⟨⟨_, _, _, _, 5, rfl, rfl, rfl, rfl, eff_at (eff_auto (X := ⟨_, true⟩) (out := .val _ _) hX rfl (ok_d (by have hz := wr_f (j := j) (rg := rg) ql qR qv; (try simp only [List.length_append, List.length_cons, List.length_nil]); omega) <| okE_nil)) rfl⟩, ⟨⟨_, _, _, _, 5, rfl, rfl, rfl, rfl, eff_at (eff_auto (X := ⟨_, true⟩) (out := .val _ _) hX rfl (ok_d (by have hz := wr_f (j := j) (rg := rg) ql qR qv; (try simp only [List.length_append, List.length_cons, List.length_nil]); omega) <| okE_nil)) rfl⟩, ⟨⟨_, _, _, _, 6, rfl, rfl, rfl, rfl, eff_at (callE [5] (ap45_ ((l.getD ((((j : Nat) : Int) + 1).toNat) pz).1) ((l.getD ((((j : Nat) : Int) + 1).toNat) pz).2) (by have hz := wr_f (j := j) (rg := rg) ql qR qv; (try simp only [List.length_append, List.length_cons, List.length_nil]); omega)) rfl rfl rfl rfl rfl rfl rfl) rfl⟩, trivial⟩⟩⟩⟩⟩⟩⟩⟩⟩, ⟨⟨⟨_, _, _, _, 6, rfl, rfl, rfl, rfl, eff_at (eff_auto (X := ⟨_, true⟩) (out := .val _ _) hX rfl rfl) rfl⟩, ⟨⟨_, _, _, _, 6, rfl, rfl, rfl, rfl, eff_at (eff_auto (X := ⟨_, true⟩) (out := .val _ _) hX rfl (ok_d (by have hz := wr_f (j := j) (rg := rg) ql qR qv; (try simp only [List.length_append, List.length_cons, List.length_nil]); omega) <| okE_nil)) rfl⟩, ⟨⟨_, _, _, _, 6, rfl, rfl, rfl, rfl, eff_at (eff_auto (X := ⟨_, true⟩) (out := .val _ _) hX rfl (ok_d (by have hz := wr_f (j := j) (rg := rg) ql qR qv; (try simp only [List.length_append, List.length_cons, List.length_nil]); omega) <| okE_nil)) rfl⟩, ⟨⟨_, _, _, _, 6, rfl, rfl, rfl, rfl, eff_at (eff_auto (X := ⟨_, true⟩) (out := .val _ _) hX rfl (ok_d (by have hz := wr_f (j := j) (rg := rg) ql qR qv; (try simp only [List.length_append, List.length_cons, List.length_nil]); omega) <| okE_nil)) rfl⟩, ⟨⟨_, _, _, _, 6, rfl, rfl, rfl, rfl, eff_at (eff_auto (X := ⟨_, true⟩) (out := .val _ _) hX rfl (ok_d (by have hz := wr_f (j := j) (rg := rg) ql qR qv; (try simp only [List.length_append, List.length_cons, List.length_nil]); omega) <| okE_nil)) rfl⟩, ⟨⟨_, _, _, _, 6, rfl, rfl, rfl, rfl, eff_at (eff_auto (X := ⟨_, true⟩) (out := .val _ _) hX rfl rfl) rfl⟩, ⟨⟨_, _, _, _, 6, rfl, rfl, rfl, rfl, eff_at (eff_auto (X := ⟨_, true⟩) (out := .val _ _) hX rfl (ok_d (by have hz := wr_f (j := j) (rg := rg) ql qR qv; (try simp only [List.length_append, List.length_cons, List.length_nil]); omega) <| okE_nil)) rfl⟩, ⟨⟨_, _, _, _, 6, rfl, rfl, rfl, rfl, eff_at (eff_auto (X := ⟨_, true⟩) (out := .val _ _) hX rfl (ok_d (by have hz := wr_f (j := j) (rg := rg) ql qR qv; (try simp only [List.length_append, List.length_cons, List.length_nil]); omega) <| okE_nil)) rfl⟩, ⟨⟨_, _, _, _, 6, rfl, rfl, rfl, rfl, eff_at (eff_auto (X := ⟨_, true⟩) (out := .val _ _) hX rfl rfl) rfl⟩, trivial⟩⟩⟩⟩⟩⟩⟩⟩⟩, trivial⟩⟩⟩⟩⟩⟩⟩ fun A => N hX 2 A rfl rfl fun A => RETN hX A rfl rfl rfl h0 rfl rfl rfl rfl (by simp only [oneS, nb, nbL, nbH, wr0, if_neg (h1), if_neg (h2), if_neg (h3), if_pos h4]) rfl)
     (fun h4 A => N hX 5 A rfl rfl fun A => DRAWN hX hmo [] [(11, .str (apT [5] ((l.getD ((((j : Nat) : Int) + 1).toNat) pz).1) ((l.getD ((((j : Nat) : Int) + 1).toNat) pz).2)), [some (.row 9 1 R.length 8 (fun zz => [.str (R.getD zz [])])), some (.row 64 2 l.length 0 (fun zz => [.str (l.getD zz pz).1, .int .i64 (l.getD zz pz).2])), some (.fac b o), some (.blk [.int .i64 kd, .int .i64 th, .int .i64 rg, .int .i64 lc, .int .i64 vl]), some (.blk [.int .i64 5])])] A rfl (ok_d (by have hz := wr_f (j := j) (rg := rg) ql qR qv; (try simp only [List.length_append, List.length_cons, List.length_nil]); omega) <| ok_d (by have hz := wr_f (j := j) (rg := rg) ql qR qv; (try simp only [List.length_append, List.length_cons, List.length_nil]); omega) <| ok_d (by have hz := wr_f (j := j) (rg := rg) ql qR qv; (try simp only [List.length_append, List.length_cons, List.length_nil]); omega) <| ok_d (by have hz := wr_f (j := j) (rg := rg) ql qR qv; (try simp only [List.length_append, List.length_cons, List.length_nil]); omega) <| ok_d (by have hz := wr_f (j := j) (rg := rg) ql qR qv; (try simp only [List.length_append, List.length_cons, List.length_nil]); omega) <| ok_d (by have hz := wr_f (j := j) (rg := rg) ql qR qv; (try simp only [List.length_append, List.length_cons, List.length_nil]); omega) <| ok_d (by have hz := wr_f (j := j) (rg := rg) ql qR qv; (try simp only [List.length_append, List.length_cons, List.length_nil]); omega) <| ok_d (by have hz := wr_f (j := j) (rg := rg) ql qR qv; (try simp only [List.length_append, List.length_cons, List.length_nil]); omega) <| ok_d (by have hz := wr_f (j := j) (rg := rg) ql qR qv; (try simp only [List.length_append, List.length_cons, List.length_nil]); omega) <| ok_d (by have hz := wr_f (j := j) (rg := rg) ql qR qv; (try simp only [List.length_append, List.length_cons, List.length_nil]); omega) <| ok_d (by have hz := wr_f (j := j) (rg := rg) ql qR qv; (try simp only [List.length_append, List.length_cons, List.length_nil]); omega) <| ok_d (by have hz := wr_f (j := j) (rg := rg) ql qR qv; (try simp only [List.length_append, List.length_cons, List.length_nil]); omega) <| ok_d (by have hz := wr_f (j := j) (rg := rg) ql qR qv; (try simp only [List.length_append, List.length_cons, List.length_nil]); omega) <| ok_d (by have hz := wr_f (j := j) (rg := rg) ql qR qv; (try simp only [List.length_append, List.length_cons, List.length_nil]); omega) <| ok_d (by have hz := wr_f (j := j) (rg := rg) ql qR qv; (try simp only [List.length_append, List.length_cons, List.length_nil]); omega) <| ok_d (by have hz := wr_f (j := j) (rg := rg) ql qR qv; (try simp only [List.length_append, List.length_cons, List.length_nil]); omega) <| ok_d (by have hz := wr_f (j := j) (rg := rg) ql qR qv; (try simp only [List.length_append, List.length_cons, List.length_nil]); omega) <| ok_d (by have hz := wr_f (j := j) (rg := rg) ql qR qv; (try simp only [List.length_append, List.length_cons, List.length_nil]); omega) <| ok_d (by have hz := wr_f (j := j) (rg := rg) ql qR qv; (try simp only [List.length_append, List.length_cons, List.length_nil]); omega) <| ok_d (by have hz := wr_f (j := j) (rg := rg) ql qR qv; (try simp only [List.length_append, List.length_cons, List.length_nil]); omega) <| ok_d (by have hz := wr_f (j := j) (rg := rg) ql qR qv; (try simp only [List.length_append, List.length_cons, List.length_nil]); omega) <| ok_d (by have hz := wr_f (j := j) (rg := rg) ql qR qv; (try simp only [List.length_append, List.length_cons, List.length_nil]); omega) <| ok_d (by have hz := wr_f (j := j) (rg := rg) ql qR qv; (try simp only [List.length_append, List.length_cons, List.length_nil]); omega) <| ok_d (by have hz := wr_f (j := j) (rg := rg) ql qR qv; (try simp only [List.length_append, List.length_cons, List.length_nil]); omega) <| okE_nil) rfl rfl (by kernel_rfl) ⟨trivial, ⟨callE [4] (ap5_ ((l.getD ((((j : Nat) : Int) + 1).toNat) pz).1) ((l.getD ((((j : Nat) : Int) + 1).toNat) pz).2) (by have hz := wr_f (j := j) (rg := rg) ql qR qv; (try simp only [List.length_append, List.length_cons, List.length_nil]); omega)) rfl rfl rfl rfl rfl rfl rfl, trivial⟩⟩ trivial fun A => N hX 2 A rfl rfl fun A => RETN hX A rfl rfl rfl h0 rfl rfl rfl rfl (by simp only [oneS, nb, nbL, nbH, wr0, if_neg (h1), if_neg (h2), if_neg (h3), if_neg (h4)]) rfl))))
theorem pone_ (R : List (List UInt8)) (kd : Int) (th : Int) (rg : Int) (lc : Int) (vl : Int) (l : List Pc) (j : Nat) (k : Nat) (b : Nat) (o : Obj) (hT : ∀ w : World, w.heap[b]? = some o → Lib.TabIs Tryd.prog w "internal/strconv.uint64pow10" .u64 Lib.pow10Tab) (hk : j + k ≤ l.length) (q1 : kd = 1 → 0 ≤ th ∧ th < 3 ∧ 0 ≤ rg ∧ rg < 8) (q2 : kd = 2 → 0 ≤ lc ∧ lc < 3) (q3 : kd = 3 → 1 ≤ k) (q4 : kd ≠ 1 → kd ≠ 2 → kd ≠ 3 → 2 ≤ k) (qv : -9223372036854775808 ≤ vl ∧ vl ≤ 9223372036854775807) (ql : ∀ q, (l.getD q pz).1.length ≤ 1000000) (qR : ∀ q, (R.getD q []).length ≤ 100) (hR : 8 ≤ R.length) : Fn Tryd.prog 33 [.agg [.int .i64 kd, .int .i64 th, .int .i64 rg, .int .i64 lc, .int .i64 vl], .st 2 2 j k 0, .ptr 0 0] [some (.blk [.sl 1 R.length 8]), some (.row 9 1 R.length 8 (fun zz => [.str (R.getD zz [])])), some (.row 64 2 l.length 0 (fun zz => [.str (l.getD zz pz).1, .int .i64 (l.getD zz pz).2])), some (.fac b o)] (Rt (.agg [.str (wr0 R kd th rg lc vl l j k), .int .i64 kd]) [some (.blk [.sl 1 R.length 8]), some (.row 9 1 R.length 8 (fun zz => [.str (R.getD zz [])])), some (.row 64 2 l.length 0 (fun zz => [.str (l.getD zz pz).1, .int .i64 (l.getD zz pz).2])), some (.fac b o)]) :=
 enterM (n := 13) (by kernel_rfl) Tryd.func33 rfl rfl rfl fun G w a h0 A => N hX 7 A rfl rfl fun A => DRAWN hX hmo [] [(3, .str (wr0 R kd th rg lc vl l j k), [some (.blk [.sl 1 R.length 8]), some (.row 9 1 R.length 8 (fun zz => [.str (R.getD zz [])])), some (.row 64 2 l.length 0 (fun zz => [.str (l.getD zz pz).1, .int .i64 (l.getD zz pz).2])), some (.fac b o), some (.blk [.int .i64 kd, .int .i64 th, .int .i64 rg, .int .i64 lc, .int .i64 vl]), some (.blk [.str [], .int .i64 0])])] A rfl rfl rfl rfl (by kernel_rfl) ⟨callE [1, 2, 3] (wr_ R kd th rg lc vl l j k b o hT hk q1 q2 q3 q4 qv ql qR hR) rfl rfl rfl rfl rfl rfl rfl, ⟨trivial, trivial⟩⟩ trivial fun A => N hX 2 A rfl rfl fun A => RETN hX A rfl rfl rfl h0 rfl rfl rfl rfl rfl rfl
end Go.Proofs.YtfdfjakafiglmaaDoor
namespace Go.Proofs.YtfdfjakafiglmaaDoor
open Go.RowKit
set_option linter.unusedVariables false
set_option linter.unusedSimpArgs false
set_option linter.unusedSectionVars false
abbrev Amb := World → List Nat → Prop
def Amb.OK (I : Amb) : Prop := ∀ w ks w' ks', I w ks → Mix ks w w' → (∀ b, ks'.contains b = true → ks.contains b = true ∨ w.heap.size ≤ b) → I w' ks'
section
variable {P : Program} {X : Tx} {n : Nat} {ks : List Nat} {G0 : Gr} {w0 : World} {T : List (Nat × SV)} {H : Hp} {G : Gr} {a : Act} {w : World} {ops : Array Oper} {o : Oper} {rest : List Oper} {Q : Exit → Act → World → Prop} {K : List Fr} {I : Amb}
end
def LiesAt (ao : Option Addr) (ps : List Int) (w : World) (ks : List Nat) : Prop :=
  (ao = none ∧ ps = []) ∨ ∃ b, ao = some ⟨b, 0, none⟩ ∧ b < w.heap.size ∧ ks.contains b = false ∧ w.rangeAt b 0 (ps.map (Value.int .i64))
theorem LiesAt.go {ao : Option Addr} {ps : List Int} {w w' : World} {ks ks' : List Nat} (h : LiesAt ao ps w ks) (m : Mix ks w w') (hk : ∀ b, ks'.contains b = true → ks.contains b = true ∨ w.heap.size ≤ b) : LiesAt ao ps w' ks' := by
  rcases h with h | ⟨b, h1, h2, h3, h4⟩
  · exact .inl h
  · refine .inr ⟨b, h1, Nat.lt_of_lt_of_le h2 m.size, ?_, range_mix h4 m h2 h3⟩
    cases hc : ks'.contains b with
    | false => rfl
    | true =>
      rcases hk b hc with h5 | h5
      · rw [h5] at h3; cases h3
      · omega
section
variable {P : Program} {n : Nat} {ks : List Nat} {G0 : Gr} {w0 : World} {T : List (Nat × SV)} {H : Hp} {G : Gr} {a : Act} {w : World} {Q : Exit → Act → World → Prop} {K : List Fr} {pos : Pos}
end
def Lies (b o : Nat) (vs : List Value) (w : World) (ks : List Nat) : Prop := b < w.heap.size ∧ ks.contains b = false ∧ w.rangeAt b o vs
theorem Lies.go {b o : Nat} {vs : List Value} {w w' : World} {ks ks' : List Nat} (h : Lies b o vs w ks) (m : Mix ks w w') (hk : ∀ b, ks'.contains b = true → ks.contains b = true ∨ w.heap.size ≤ b) : Lies b o vs w' ks' := by
  obtain ⟨h1, h2, h3⟩ := h
  refine ⟨Nat.lt_of_lt_of_le h1 m.size, ?_, range_mix h3 m h1 h2⟩
  cases hc : ks'.contains b with
  | false => rfl
  | true =>
    rcases hk b hc with h5 | h5
    · rw [h5] at h2; cases h2
    · omega
section
variable {P : Program} {n : Nat} {ks : List Nat} {G0 : Gr} {w0 : World} {T : List (Nat × SV)} {H : Hp} {G : Gr} {a : Act} {w : World} {Q : Exit → Act → World → Prop} {K : List Fr} {pos : Pos} {ops : Array Oper} {o : Oper} {rest : List Oper}
end
section
variable {P : Program} {n : Nat} {ks : List Nat} {G0 : Gr} {w0 : World} {T : List (Nat × SV)} {H : Hp} {G : Gr} {a : Act} {w : World} {Q : Exit → Act → World → Prop} {K : List Fr} {pos : Pos} {ops : Array Oper} {o : Oper} {rest : List Oper}
end
def Gl (os : List (Nat × Obj)) : Amb := fun w ks => ∀ p ∈ os, w.heap[p.1]? = some p.2 ∧ ks.contains p.1 = false
theorem Gl.ok {os : List (Nat × Obj)} : Amb.OK (Gl os) := fun w ks w' ks' h m hk p hp => by
  obtain ⟨h1, h2⟩ := h p hp
  have hl : p.1 < w.heap.size := (Array.getElem?_eq_some_iff.1 h1).1
  refine ⟨by rw [m.block p.1 hl h2]; exact h1, ?_⟩
  cases hc : ks'.contains p.1 with
  | false => rfl
  | true =>
    rcases hk _ hc with h3 | h3
    · rw [h3] at h2; cases h2
    · omega
section
variable {P : Program} {n : Nat} {ks : List Nat} {G0 : Gr} {w0 : World} {I : Amb}
end
theorem LiesAt.ok {ao : Option Addr} {ps : List Int} : Amb.OK (LiesAt ao ps) := fun w ks w' ks' h m hk => h.go m hk
end Go.Proofs.YtfdfjakafiglmaaDoor
namespace Go.Proofs.YtfdfjakafiglmaaDoor
set_option linter.unusedVariables false

end Go.Proofs.YtfdfjakafiglmaaDoor
namespace Go.Proofs.YtfdfjakafiglmaaDoor
set_option linter.unusedVariables false
set_option linter.unusedSimpArgs false
open Go.RowKit
section
variable {P : Program} {ops : Array Oper} {a : Act} {w : World} {K : Value → World → Prop} {d : Option Tmp} {ty : TypeId} {pos : String} {af : Array Edge} {gd : Option (Nat × Bool)} {v : Value}
end
section
variable {P : Program} {w : World} {t : TypeId} {x y : Operand} {k : IntKind} {a b : Int}
end
end Go.Proofs.YtfdfjakafiglmaaDoor
namespace Go.Proofs.YtfdfjakafiglmaaDoor
open Go.RowKit
set_option linter.unusedVariables false
set_option linter.unusedSimpArgs false
set_option linter.unusedSectionVars false
section
variable {P : Program} {n : Nat} {ks : List Nat} {G0 : Gr} {w0 : World} {T : List (Nat × SV)} {H : Hp} {G : Gr} {w : World} {ops : Array Oper} {o : Oper}
end
section
variable {P : Program} {n : Nat} {ks : List Nat} {G0 : Gr} {w0 : World} {T : List (Nat × SV)} {H : Hp} {G : Gr} {a : Act} {w : World} {Q : Exit → Act → World → Prop} {K : List Fr} {ops : Array Oper} {o : Oper} {rest : List Oper} {I : Amb}
end
theorem flat_rep (n : Nat) : flatV (fun _ => [.str []]) n = some (List.replicate n (.string (S []))) := by
  induction n with
  | zero => rfl
  | succ n ih =>
    unfold flatV
    rw [ih]
    show some (List.replicate n (Value.string (S [])) ++ [Value.string (S [])]) = _
    rw [List.replicate_succ', ]
section
variable {P : Program} {n : Nat} {ks : List Nat} {G0 : Gr} {w0 : World} {T : List (Nat × SV)} {H : Hp} {ops : Array Oper} {o : Oper}
theorem mkE {x y : Operand} {t e m i : Nat} {ti : TypeInfo} (hg : guardS ops T o.guard = some .run) (hop : o.op = .makeSlice t x y) (hx : evS T x = some (.int .i64 ((m : Nat) : Int))) (hy : evS T y = some (.int .i64 ((m : Nat) : Int))) (ht : P.underlying t = some (.slice e)) (hti : P.info? e = some ti) (hz : ti.zero = some (.string (S []))) (hs : ti.size = 1) (hb : ti.bytes ≤ 1000) (hm : m ≤ 1000000) (hi : H.length = i) : EffOK P n ops ks G0 w0 T H o (.sl i m m) (H ++ [some (.row e 1 m m fun _ => [.str []])]) := fun G a w A => by
  have hw := gd_run (gd := none) A hg
  obtain ⟨d, op, ty, ps, af, gd⟩ := o
  simp only at hop
  subst hop
  subst hi
  have h1 := A.ev hx
  have h2 := A.ev hy
  simp only [den, Option.some.injEq] at h1 h2
  have hmul : ti.bytes * m ≤ 1000 * 1000000 := Nat.mul_le_mul hb hm
  obtain ⟨w', hr, ho, hgb⟩ := run_makeSlice_full (P := P) w 0 t e ti _ 1 ht hti hz hs .i64 .i64 m (by omega) (by omega) (by unfold maxLen; omega) (Nat.zero_le _)
  have hgr : Grow w w' := ⟨hgb.os, hgb.tape, hgb.output, hgb.size, fun k hk => hgb.block k hk (by simp)⟩
  refine does_val (v := .slice (some ⟨w.heap.size, 0, none⟩) m m) (w' := w') hw ?_ ⟨[some ⟨w.heap.size, [], [], e⟩], ?_, ?_⟩
  · unfold execOp
    simp only [h1.symm, h2.symm, Sem.run_bind, hr, Sem.run_pure, Result.andThen_ok]
  · unfold den
    rw [List.getElem?_append_right (by rw [A.mem.len]; exact Nat.le_refl _), A.mem.len]
    simp [rm]
  · refine (A.newBlk (g := w.heap.size) (t := e) (en := .row e 1 m m fun _ => [.str []]) rfl hgr ⟨fun k => ⟨_, rfl, rfl⟩, fun L hL => by cases hL; rfl, _, flat_rep m, ?_⟩ rfl).ms
    have hc : (madeCells (Value.cells (.string (S []))) (m * 1)).toList = List.replicate m (.string (S [])) := by
      unfold madeCells
      apply List.ext_getElem
      · simp
      · intro k h1 h2
        simp [Value.cells, Nat.mod_one]
    rw [hc] at ho
    simpa [rm] using ho
theorem mkE' {x y : Operand} {t e m i : Nat} (f : Nat → List SV) (hf : ∀ j, f j = [.str []]) (hg : guardS ops T o.guard = some .run) (hop : o.op = .makeSlice t x y) (hx : evS T x = some (.int .i64 ((m : Nat) : Int))) (hy : evS T y = some (.int .i64 ((m : Nat) : Int))) (ht : P.underlying t = some (.slice e)) (hst : ∃ ti, P.info? e = some ti ∧ ti.zero = some (.string (S [])) ∧ ti.size = 1 ∧ ti.bytes ≤ 1000) (hm : m ≤ 1000000) (hi : H.length = i) : EffOK P n ops ks G0 w0 T H o (.sl i m m) (H ++ [some (.row e 1 m m f)]) := by
  have : f = fun _ => [.str []] := funext hf
  subst this
  obtain ⟨ti, hti, hz, hs, hb⟩ := hst
  exact mkE hg hop hx hy ht hti hz hs hb hm hi
end
end Go.Proofs.YtfdfjakafiglmaaDoor
namespace Go.Proofs.YtfdfjakafiglmaaDoor
open Go.RowKit
set_option linter.unusedVariables false
set_option linter.unusedSimpArgs false
set_option maxRecDepth 100000
set_option maxHeartbeats 2000000
set_option simprocs false
def regnm0 (s0 : List UInt8) (s1 : List UInt8) (s2 : List UInt8) (s3 : List UInt8) (s4 : List UInt8) (s5 : List UInt8) (s6 : List UInt8) (s7 : List UInt8) (r : Int) : List UInt8 := if ((decide (r < 0)) || (decide (r ≥ 8))) = true then [] else [s0, s1, s2, s3, s4, s5, s6, s7].getD (r).toNat []
theorem regnm_ (s0 : List UInt8) (s1 : List UInt8) (s2 : List UInt8) (s3 : List UInt8) (s4 : List UInt8) (s5 : List UInt8) (s6 : List UInt8) (s7 : List UInt8) (r : Int)  : Fn Tryd.prog 60 [.agg [.str s0, .str s1, .str s2, .str s3, .str s4, .str s5, .str s6, .str s7], .int .i64 r] [] (Rt (.str (regnm0 s0 s1 s2 s3 s4 s5 s6 s7 r)) []) :=
 enterM (n := 14) (by kernel_rfl) Tryd.func60 rfl rfl rfl fun G w a h0 A => N hX 17 A rfl rfl fun A => fork 10 A rfl
  (fun h1 A => N hX 7 A rfl rfl fun A => RETN hX A rfl rfl rfl h0 rfl rfl rfl rfl (by simp only [oneS, nb, nbL, nbH, regnm0, if_pos h1]) rfl)
  (fun h1 A => N hX 12 A rfl (ok_d (by have hz := h1; simp only [Bool.or_eq_false_iff, decide_eq_false_iff_not] at hz; omega) <| ok_d (by have hz := h1; simp only [Bool.or_eq_false_iff, decide_eq_false_iff_not] at hz; omega) <| okE_nil) fun A => RETN hX A rfl rfl rfl h0 rfl rfl rfl rfl (by simp only [oneS, nb, nbL, nbH, regnm0, if_neg (ne_true_of_eq_false h1)]) rfl)
theorem xregs_   : Fn Tryd.prog 59 [] [] (Rt (.agg [.str [82, 65, 88], .str [82, 66, 88], .str [82, 67, 88], .str [82, 68, 88], .str [82, 83, 73], .str [82, 68, 73], .str [82, 56], .str [82, 57]]) []) :=
 enterM (n := 2) (by kernel_rfl) Tryd.func59 rfl rfl rfl fun G w a h0 A => N hX 12 A rfl rfl fun A => RETN hX A rfl rfl rfl h0 rfl rfl rfl rfl rfl rfl
theorem xnam_ (r : Int)  : Fn Tryd.prog 42 [.int .i64 r] [] (Rt (.str (regnm0 [82, 65, 88] [82, 66, 88] [82, 67, 88] [82, 68, 88] [82, 83, 73] [82, 68, 73] [82, 56] [82, 57] r)) []) :=
 enterM (n := 6) (by kernel_rfl) Tryd.func42 rfl rfl rfl fun G w a h0 A => N hX 7 A rfl rfl fun A => CALL1 [] (xregs_ ) A rfl rfl rfl rfl rfl rfl rfl fun A => N hX 1 A rfl rfl fun A => CALL1 [] (regnm_ [82, 65, 88] [82, 66, 88] [82, 67, 88] [82, 68, 88] [82, 83, 73] [82, 68, 73] [82, 56] [82, 57] r) A rfl rfl rfl rfl rfl rfl rfl fun A => N hX 4 A rfl rfl fun A => RETN hX A rfl rfl rfl h0 rfl rfl rfl rfl rfl rfl
def nfX (r : Int) : List UInt8 := regnm0 [82, 65, 88] [82, 66, 88] [82, 67, 88] [82, 68, 88] [82, 83, 73] [82, 68, 73] [82, 56] [82, 57] r
theorem xname_ (r : Int) : Fn Tryd.prog 42 [.int .i64 r] [] (Rt (.str (nfX r)) []) := xnam_ r
theorem nfX_len (x : Int) : (nfX x).length ≤ 20 := by
  unfold nfX regnm0; split
  · decide
  · next h =>
    have : x = 0 ∨ x = 1 ∨ x = 2 ∨ x = 3 ∨ x = 4 ∨ x = 5 ∨ x = 6 ∨ x = 7 := by revert h; simp only [Bool.or_eq_true, decide_eq_true_eq]; omega
    rcases this with e | e | e | e | e | e | e | e <;> subst e <;> decide
def rgA (nf : Int → List UInt8) (k j : Nat) : List UInt8 := if j < k then nf j else []
theorem rgA_ne {nf : Int → List UInt8} {k j : Nat} (h : j ≠ k) : rgA nf (k + 1) j = rgA nf k j := by
  unfold rgA
  by_cases hj : j < k
  · rw [if_pos hj, if_pos (by omega)]
  · rw [if_neg hj, if_neg (by omega)]
theorem rgA_at {nf : Int → List UInt8} {k : Nat} : rgA nf (k + 1) k = nf k := by unfold rgA; rw [if_pos (by omega)]
def rgL (nf : Int → List UInt8) : List (List UInt8) := [nf 0, nf 1, nf 2, nf 3, nf 4, nf 5, nf 6, nf 7]
theorem rgA_8 {nf : Int → List UInt8} (j : Nat) (h : j < 8) : (rgL nf).getD j [] = rgA nf 8 j := by
  have : j = 0 ∨ j = 1 ∨ j = 2 ∨ j = 3 ∨ j = 4 ∨ j = 5 ∨ j = 6 ∨ j = 7 := by omega
  rcases this with e | e | e | e | e | e | e | e <;> subst e <;> rfl
theorem strInfo : ∃ ti, Tryd.prog.info? 9 = some ti ∧ ti.zero = some (.string (S [])) ∧ ti.size = 1 ∧ ti.bytes ≤ 1000 := by
  have h : (Tryd.prog.info? 9).map (fun ti => (ti.zero, ti.size, ti.bytes)) = some (some (.string (S [])), 1, 16) := by kernel_rfl
  cases e : Tryd.prog.info? 9 with
  | none => rw [e] at h; cases h
  | some ti =>
    rw [e] at h
    simp only [Option.map_some, Option.some.injEq, Prod.mk.injEq] at h
    exact ⟨ti, rfl, h.1, h.2.1, by omega⟩
theorem regnX_   : Fn Tryd.prog 41 [.fn 42 []] [] (Rt (.sl 0 8 8) [some (.row 9 1 8 8 (fun zz => [.str ((rgL nfX).getD zz [])]))]) :=
 enterM (n := 19) (by kernel_rfl) Tryd.func41 rfl rfl rfl fun G w a h0 A => N hX 7 A rfl rfl fun A => q_eff A rfl (mkE' (m := 8) (fun j => [.str (rgA nfX 0 j)]) (fun j => by show [SV.str (rgA nfX 0 j)] = _; unfold rgA; rw [if_neg (by omega)]) rfl rfl rfl rfl (by kernel_rfl) strInfo (by omega) rfl) fun A => N hX 12 A rfl rfl fun A => LOOP1 (fun (k : Nat) => [(0, .fn 42 []), (2, .sla none 0 0), (3, .sl 0 8 8), (7, .int .i64 ((8 : Nat) : Int)), (8, .int .i64 (k : Int))]) (fun (k : Nat) => [some (.row 9 1 8 8 (fun j => [.str (rgA nfX k j)]))]) (fun (k : Nat) => k ≤ 8 ∧ True) (fun (k : Nat) => 8 - k) 0 ⟨by omega, trivial⟩ ((A.cut [0, 2, 3, 7, 8] rfl).trunc 1 rfl rfl rfl (by simp only [List.length_cons, List.length_nil] at h0; omega)) fun k hI {G a w} A => N hX 6 A rfl rfl fun A => forkD 9 A rfl
   (fun h1 A => N hX 16 A rfl rfl fun A => CALL1 [] (xname_ (k : Int)) A rfl rfl rfl rfl rfl rfl rfl fun A => N hX 1 A rfl (ok_d (by have := hI.1; omega) <| okE_nil) fun A => STR (i := 0) (e := 9) (s := 1) (m := 8) (c := 8) hX k (fun j => [.str (rgA nfX (k + 1) j)]) A rfl rfl (Int.toNat_natCast k) (by omega) (fun z hz => by show [SV.str _] = [SV.str _]; rw [rgA_ne hz]) (by show _ = some [SV.str _]; rw [rgA_at]; rfl) fun A => N hX 7 A rfl (ok_d (by have := hI.1; omega) <| okE_nil) fun A => ⟨k + 1, _, (by omega), ⟨by omega, trivial⟩, ((A.cut [0, 2, 3, 7, 8] rfl).trunc 1 rfl rfl rfl (by simp only [List.length_cons, List.length_nil] at h0; omega))⟩)
   (fun h1 A => N hX 10 A rfl rfl fun A => have A := A.rowAs 0 8 (fun zz => [.str ((rgL nfX).getD zz [])]) rfl rfl (fun j hj => by show [SV.str _] = [SV.str (rgA nfX k j)]; rw [show k = 8 by have := hI.1; omega, rgA_8 j hj]) (fun z => ⟨_, rfl, rfl⟩); RET hX [0] A ⟨rfl, rfl⟩ rfl rfl rfl rfl rfl rfl rfl rfl h0)
theorem regs1_   : Fn Tryd.prog 31 [.int .i64 1] [] (Rt (.sl 0 8 8) [some (.row 9 1 8 8 (fun zz => [.str ((rgL nfX).getD zz [])]))]) :=
 enterM (n := 13) (by kernel_rfl) Tryd.func31 rfl rfl rfl fun G w a h0 A => N hX 18 A rfl rfl fun A => forkE 4 A rfl
  (fun h1 A => N hX 3 A rfl rfl fun A => CALL1 [] regnX_ A rfl rfl rfl rfl rfl rfl rfl fun A => N hX 4 A rfl rfl fun A => RET hX [0] A ⟨rfl, rfl⟩ rfl rfl rfl rfl rfl rfl rfl rfl h0)
  (fun h1 A => absurd rfl h1)
end Go.Proofs.YtfdfjakafiglmaaDoor
