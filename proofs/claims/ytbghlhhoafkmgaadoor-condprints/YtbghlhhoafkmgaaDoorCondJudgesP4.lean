/- Partitions. -/
import Derived.Test.YtbghlhhoafkmgaaDoorCondJudgesP3
namespace Go.Proofs.YtbghlhhoafkmgaaDoor
open Go.RowKit
set_option linter.unusedVariables false
set_option linter.unusedSimpArgs false
set_option maxRecDepth 100000
set_option maxHeartbeats 2000000
set_option simprocs false
open Go.Sort
structure UP (p : O → Bool) (D : Array O) (j i0 i : Nat) : Prop where
  le : i0 ≤ i
  ub : i ≤ j + 1 ∨ i = i0
  eq : scanUp p D j i = scanUp p D j i0
structure DN (p : O → Bool) (D : Array O) (aa i j0 j : Nat) : Prop where
  le : j ≤ j0
  lb : aa ≤ j
  eq : scanDown p D i j = scanDown p D i j0
section
variable {p q : O → Bool} {D : Array O} {aa i0 i j0 j : Nat} {c : Bool}
theorem UP.step (h : UP p D j i0 i) (hc : c = p (D[i]!)) (h1 : (decide ((i : Int) ≤ (j : Int)) && c) = true) : UP p D j i0 (i + 1) := by
  have h2 := jlt h1
  have h3 := jrt h1
  refine ⟨by have := h.le; omega, .inl (by omega), ?_⟩
  rw [← h.eq]
  conv => rhs; unfold scanUp
  rw [if_pos (by rw [← hc, h3, decide_eq_true (by omega)]; rfl)]
theorem UP.stop (h : UP p D j i0 i) (hc : c = p (D[i]!)) (h1 : (decide ((i : Int) ≤ (j : Int)) && c) = false) : scanUp p D j i0 = i := by
  rw [← h.eq]; unfold scanUp
  rw [if_neg]
  intro h2
  rw [← hc] at h2
  rw [show decide (i ≤ j) = decide ((i : Int) ≤ (j : Int)) by simp] at h2
  rw [h2] at h1; cases h1
theorem DN.step (h : DN p D aa i j0 j) (hi : aa + 1 ≤ i) (hc : c = p (D[j]!)) (h1 : (decide ((i : Int) ≤ (j : Int)) && c) = true) : DN p D aa i j0 (j - 1) := by
  have h2 := jlt h1
  have h3 := jrt h1
  obtain ⟨k, rfl⟩ : ∃ k, j = k + 1 := ⟨j - 1, by omega⟩
  refine ⟨by have := h.le; omega, by omega, ?_⟩
  rw [← h.eq]
  conv => rhs; unfold scanDown
  rw [if_pos (by rw [← hc, h3, decide_eq_true (by omega)]; rfl)]; rfl
theorem DN.stop (h : DN p D aa i j0 j) (hi : aa + 1 ≤ i) (hc : c = p (D[j]!)) (h1 : (decide ((i : Int) ≤ (j : Int)) && c) = false) : scanDown p D i j0 = j := by
  rw [← h.eq]
  cases j with
  | zero => rfl
  | succ k =>
    unfold scanDown
    rw [if_neg]
    intro h2
    rw [← hc] at h2
    rw [show decide (i ≤ k + 1) = decide ((i : Int) ≤ ((k + 1 : Nat) : Int)) by apply decide_eq_decide.2; omega] at h2
    rw [h2] at h1; cases h1
end
structure PL (F : Nat → Nat → Array O → Nat × Array O) (d : Array O) (aa b i1 j1 : Nat) (D1 : Array O) (i j : Nat) (dk : Array O) : Prop where
  sz : dk.size = d.size
  li : aa + 1 ≤ i
  lj : aa ≤ j
  uj : j < b
  ui : i ≤ b + 1
  eq : F i j dk = F i1 j1 D1
section
variable {d D1 dk dw : Array O} {aa b i1 j1 i j i2 j2 : Nat}
theorem PL.step (h : PL (fun i j D => partLoop lessO aa i j D) d aa b i1 j1 D1 i j dk) (e1 : scanUp (fun x => lessO x dk[aa]!) dk j i = i2) (e2 : scanDown (fun x => !lessO x dk[aa]!) dk i2 j = j2) (h1 : ¬ (i2 : Int) > (j2 : Int)) (k1 : i ≤ i2) (k2 : j2 ≤ j) (e : dw = swp dk i2 j2) : PL (fun i j D => partLoop lessO aa i j D) d aa b i1 j1 D1 (i2 + 1) (j2 - 1) dw := by
  subst e
  have hu := h.uj; have hl := h.li
  refine ⟨by rw [swp_sz, h.sz], by omega, by omega, by omega, by omega, ?_⟩
  rw [← h.eq]
  conv => rhs; unfold partLoop
  simp only [e1, e2]
  rw [if_neg (by omega), dif_pos (by omega)]
theorem PL.stop (h : PL (fun i j D => partLoop lessO aa i j D) d aa b i1 j1 D1 i j dk) (e1 : scanUp (fun x => lessO x dk[aa]!) dk j i = i2) (e2 : scanDown (fun x => !lessO x dk[aa]!) dk i2 j = j2) (h1 : (i2 : Int) > (j2 : Int)) : partLoop lessO aa i1 j1 D1 = (j2, dk) := by
  have := h.eq
  rw [← this]
  unfold partLoop
  simp only [e1, e2]
  rw [if_pos (by omega)]
theorem PL.stepE (h : PL (fun i j D => partEqLoop lessO aa i j D) d aa b i1 j1 D1 i j dk) (e1 : scanUp (fun x => !lessO dk[aa]! x) dk j i = i2) (e2 : scanDown (fun x => lessO dk[aa]! x) dk i2 j = j2) (h1 : ¬ (i2 : Int) > (j2 : Int)) (k1 : i ≤ i2) (k2 : j2 ≤ j) (e : dw = swp dk i2 j2) : PL (fun i j D => partEqLoop lessO aa i j D) d aa b i1 j1 D1 (i2 + 1) (j2 - 1) dw := by
  subst e
  have hu := h.uj; have hl := h.li
  refine ⟨by rw [swp_sz, h.sz], by omega, by omega, by omega, by omega, ?_⟩
  rw [← h.eq]
  conv => rhs; unfold partEqLoop
  simp only [e1, e2]
  rw [if_neg (by omega), dif_pos (by omega)]
theorem PL.stopE (h : PL (fun i j D => partEqLoop lessO aa i j D) d aa b i1 j1 D1 i j dk) (e1 : scanUp (fun x => !lessO dk[aa]! x) dk j i = i2) (e2 : scanDown (fun x => lessO dk[aa]! x) dk i2 j = j2) (h1 : (i2 : Int) > (j2 : Int)) : partEqLoop lessO aa i1 j1 D1 = (i2, dk) := by
  have := h.eq
  rw [← this]
  unfold partEqLoop
  simp only [e1, e2]
  rw [if_pos (by omega)]
theorem part1 {pv : Nat} {D : Array O} (e0 : D = swp d aa pv) (e1 : scanUp (fun x => lessO x D[aa]!) D (b - 1) (aa + 1) = i) (e2 : scanDown (fun x => !lessO x D[aa]!) D i (b - 1) = j) (h1 : (i : Int) > (j : Int)) (e : dw = swp D j aa) : partition lessO d aa b pv = (j, true, dw) := by
  subst e0; subst e
  unfold partition
  simp only [e1, e2]
  rw [if_pos (by omega)]
theorem part2 {pv : Nat} {D D1 : Array O} (e0 : D = swp d aa pv) (e1 : scanUp (fun x => lessO x D[aa]!) D (b - 1) (aa + 1) = i) (e2 : scanDown (fun x => !lessO x D[aa]!) D i (b - 1) = j) (h1 : ¬ (i : Int) > (j : Int)) (e3 : D1 = swp D i j) (e4 : partLoop lessO aa (i + 1) (j - 1) D1 = (j2, dk)) (e : dw = swp dk j2 aa) : partition lessO d aa b pv = (j2, false, dw) := by
  subst e0; subst e; subst e3
  unfold partition
  simp only [e1, e2]
  rw [if_neg (by omega)]
  simp only [e4]
theorem parte1 {pv : Nat} {D : Array O} (e0 : D = swp d aa pv) (e4 : partEqLoop lessO aa (aa + 1) (b - 1) D = (i2, dk)) : partitionEqual lessO d aa b pv = (i2, dk) := by
  subst e0
  unfold partitionEqual
  exact e4
end
theorem part_ (d : Array O) (nn aa b pv : Nat) (hn : d.size = nn) (hs : nn ≤ 1000000) (ha : aa ≤ pv) (hp : pv < b) (hb : b ≤ nn) : Fn Tryd.prog 70 [.sl 0 nn 0, .int .i64 (aa : Int), .int .i64 (b : Int), .int .i64 (pv : Int), .fn 35 []] [some (.row 26 27 nn 0 (fun z => oc (d[z]!)))] (Rt (.tup [.int .i64 (((Go.Sort.partition lessO d aa b pv).1 : Nat) : Int), .bool ((Go.Sort.partition lessO d aa b pv).2.1)]) [some (.row 26 27 nn 0 (fun z => oc (((Go.Sort.partition lessO d aa b pv).2.2)[z]!)))]) :=
 enterM (n := 178) (by kernel_rfl) Tryd.func70 rfl rfl rfl fun G w a h0 A => N hX 7 A rfl rfl fun A => DRAWN hX hmo [] [(13, .tup [], [some (.row 26 27 nn 0 (fun z => oc ((d.setIfInBounds ((aa : Int)).toNat (d[((pv : Int)).toNat]!))[z]!)))]), (15, .tup [], [some (.row 26 27 nn 0 (fun z => oc (((d.setIfInBounds ((aa : Int)).toNat (d[((pv : Int)).toNat]!)).setIfInBounds ((pv : Int)).toNat (d[((aa : Int)).toNat]!))[z]!)))])] A rfl (ok_d (by omega) <| ok_d (by omega) <| ok_d (by omega) <| ok_d (by omega) <| ok_d (by omega) <| ok_d (by omega) <| ok_d (by omega) <| okE_nil) rfl rfl (by kernel_rfl) ⟨strE (i := 0) (e := 26) (s := 27) (m := nn) (c := 0) hX (((aa : Int)).toNat) (fun z => oc ((d.setIfInBounds ((aa : Int)).toNat (d[((pv : Int)).toNat]!))[z]!)) rfl rfl rfl (by omega) (fun z hz => by show oc _ = oc _; rw [aset_ne hz]) (by show _ = some (oc _); rw [aset_at (by (try simp only [asz]); rw [hn]; omega)]; rfl), ⟨strE (i := 0) (e := 26) (s := 27) (m := nn) (c := 0) hX (((pv : Int)).toNat) (fun z => oc (((d.setIfInBounds ((aa : Int)).toNat (d[((pv : Int)).toNat]!)).setIfInBounds ((pv : Int)).toNat (d[((aa : Int)).toNat]!))[z]!)) rfl rfl rfl (by omega) (fun z hz => by show oc _ = oc _; rw [aset_ne hz]) (by show _ = some (oc _); rw [aset_at (by (try simp only [asz]); rw [hn]; omega)]; rfl), trivial⟩⟩ trivial fun A => N hX 13 A rfl (ok_d (by omega) <| ok_d (by omega) <| okE_nil) fun A => have A := A.say 13 (.int .i64 (((b - 1 : Nat)) : Int)) rfl (by congr 1; omega); LOOP1 (fun (i : Nat) => [(0, .sl 0 nn 0), (1, .int .i64 (aa : Int)), (4, .fn 35 []), (10, .int .i64 0), (11, .ff), (12, .int .i64 (i : Int)), (13, .int .i64 ((b - 1 : Nat) : Int))]) (fun (i : Nat) => [some (.row 26 27 nn 0 (fun z => oc (((d.setIfInBounds ((aa : Int)).toNat (d[((pv : Int)).toNat]!)).setIfInBounds ((pv : Int)).toNat (d[((aa : Int)).toNat]!))[z]!)))]) (fun (i : Nat) => UP (fun x => lessO x ((d.setIfInBounds ((aa : Int)).toNat (d[((pv : Int)).toNat]!)).setIfInBounds ((pv : Int)).toNat (d[((aa : Int)).toNat]!))[aa]!) ((d.setIfInBounds ((aa : Int)).toNat (d[((pv : Int)).toNat]!)).setIfInBounds ((pv : Int)).toNat (d[((aa : Int)).toNat]!)) (b - 1) (aa + 1) i) (fun (i : Nat) => (b - 1) + 1 - i) (aa + 1) ⟨Nat.le_refl _, .inr rfl, rfl⟩ ((A.cut [0, 1, 4, 10, 11, 12, 13] rfl).trunc 1 rfl rfl rfl (by simp only [List.length_cons, List.length_nil] at h0; omega)) fun i hU {G a w} A => N hX 2 A rfl rfl fun A => DRAWN hX hmo [(13, .opt (decide ((i : Int) ≤ ((b - 1 : Nat) : Int))) (.int .i64 (cmpO (((d.setIfInBounds ((aa : Int)).toNat (d[((pv : Int)).toNat]!)).setIfInBounds ((pv : Int)).toNat (d[((aa : Int)).toNat]!))[((i : Int)).toNat]!) (((d.setIfInBounds ((aa : Int)).toNat (d[((pv : Int)).toNat]!)).setIfInBounds ((pv : Int)).toNat (d[((aa : Int)).toNat]!))[((aa : Int)).toNat]!))))] [] A rfl (ok_r <| ok_r <| ok_g (fun hg => (by have := hU.le; have := hU.ub; have := of_decide_eq_true hg; omega)) <| ok_r <| ok_g (fun hg => (by have := hU.le; have := hU.ub; have := of_decide_eq_true hg; omega)) <| ok_r <| ok_r <| ok_g (fun hg => (by have := hU.le; have := hU.ub; have := of_decide_eq_true hg; omega)) <| ok_r <| ok_g (fun hg => (by have := hU.le; have := hU.ub; have := of_decide_eq_true hg; omega)) <| ok_r <| ok_r <| okE_nil) rfl rfl (by kernel_rfl) (effAll_nil _ _) ⟨.inr ⟨_, _, _, _, _, _, rfl, rfl, rfl, rfl, rfl, fun hg => compare_ (((d.setIfInBounds ((aa : Int)).toNat (d[((pv : Int)).toNat]!)).setIfInBounds ((pv : Int)).toNat (d[((aa : Int)).toNat]!))[((i : Int)).toNat]!) (((d.setIfInBounds ((aa : Int)).toNat (d[((pv : Int)).toNat]!)).setIfInBounds ((pv : Int)).toNat (d[((aa : Int)).toNat]!))[((aa : Int)).toNat]!)⟩, trivial⟩ fun A => N hX 1 A rfl rfl fun A => fork 47 A rfl
   (fun h1 A => N hX 10 A rfl (ok_d (by have := hU.le; have := hU.ub; have := jlt h1; omega) <| okE_nil) fun A => ⟨i + 1, _, (by have := jlt h1; omega), (hU.step (cmp_less _ _) h1), ((A.cut [0, 1, 4, 10, 11, 12, 13] rfl).trunc 1 rfl rfl rfl (by simp only [List.length_cons, List.length_nil] at h0; omega))⟩)
   (fun h1 A => N hX 5 A rfl rfl fun A => LOOP1 (fun (j : Nat) => [(0, .sl 0 nn 0), (1, .int .i64 (aa : Int)), (4, .fn 35 []), (10, .int .i64 0), (11, .ff), (12, .int .i64 (i : Int)), (13, .int .i64 (j : Int))]) (fun (j : Nat) => [some (.row 26 27 nn 0 (fun z => oc (((d.setIfInBounds ((aa : Int)).toNat (d[((pv : Int)).toNat]!)).setIfInBounds ((pv : Int)).toNat (d[((aa : Int)).toNat]!))[z]!)))]) (fun (j : Nat) => DN (fun x => !lessO x ((d.setIfInBounds ((aa : Int)).toNat (d[((pv : Int)).toNat]!)).setIfInBounds ((pv : Int)).toNat (d[((aa : Int)).toNat]!))[aa]!) ((d.setIfInBounds ((aa : Int)).toNat (d[((pv : Int)).toNat]!)).setIfInBounds ((pv : Int)).toNat (d[((aa : Int)).toNat]!)) aa i (b - 1) j) (fun (j : Nat) => j) (b - 1) ⟨Nat.le_refl _, (by omega), rfl⟩ ((A.cut [0, 1, 4, 10, 11, 12, 13] rfl).trunc 1 rfl rfl rfl (by simp only [List.length_cons, List.length_nil] at h0; omega)) fun j hD {G a w} A => N hX 2 A rfl rfl fun A => DRAWN hX hmo [(13, .opt (decide ((i : Int) ≤ (j : Int))) (.int .i64 (cmpO (((d.setIfInBounds ((aa : Int)).toNat (d[((pv : Int)).toNat]!)).setIfInBounds ((pv : Int)).toNat (d[((aa : Int)).toNat]!))[((j : Int)).toNat]!) (((d.setIfInBounds ((aa : Int)).toNat (d[((pv : Int)).toNat]!)).setIfInBounds ((pv : Int)).toNat (d[((aa : Int)).toNat]!))[((aa : Int)).toNat]!))))] [] A rfl (ok_r <| ok_r <| ok_g (fun hg => (by have := hU.le; have := hU.ub; have := hD.le; have := hD.lb; have := of_decide_eq_true hg; omega)) <| ok_r <| ok_g (fun hg => (by have := hU.le; have := hU.ub; have := hD.le; have := hD.lb; have := of_decide_eq_true hg; omega)) <| ok_r <| ok_r <| ok_g (fun hg => (by have := hU.le; have := hU.ub; have := hD.le; have := hD.lb; have := of_decide_eq_true hg; omega)) <| ok_r <| ok_g (fun hg => (by have := hU.le; have := hU.ub; have := hD.le; have := hD.lb; have := of_decide_eq_true hg; omega)) <| ok_r <| ok_r <| ok_r <| okE_nil) rfl rfl (by kernel_rfl) (effAll_nil _ _) ⟨.inr ⟨_, _, _, _, _, _, rfl, rfl, rfl, rfl, rfl, fun hg => compare_ (((d.setIfInBounds ((aa : Int)).toNat (d[((pv : Int)).toNat]!)).setIfInBounds ((pv : Int)).toNat (d[((aa : Int)).toNat]!))[((j : Int)).toNat]!) (((d.setIfInBounds ((aa : Int)).toNat (d[((pv : Int)).toNat]!)).setIfInBounds ((pv : Int)).toNat (d[((aa : Int)).toNat]!))[((aa : Int)).toNat]!)⟩, trivial⟩ fun A => N hX 1 A rfl rfl fun A => fork 66 A rfl
     (fun h2 A => N hX 10 A rfl (ok_d (by have := hU.le; have := hU.ub; have := hD.le; have := hD.lb; have := jlt h2; omega) <| okE_nil) fun A => ⟨j - 1, _, (by have := jlt h2; have := hD.lb; (try have := hU.le); (try have := hV.le); (try have := hL.li); omega), (hD.step hU.le (congrArg (fun x => !x) (cmp_less _ _)) h2), ((A.cut [0, 1, 4, 10, 11, 12, 13] rfl).trunc 1 rfl rfl rfl (by simp only [List.length_cons, List.length_nil] at h0; omega)).sayT (by rw [show ((j - 1 : Nat) : Int) = (j : Int) - 1 by (try have := jlt h2); (try have := hD.lb); (try have := hE.lb); (try have := hU.le); (try have := hV.le); (try have := hL.li); omega] <;> rfl)⟩)
     (fun h2 A => N hX 11 A rfl rfl fun A => forkD 71 A rfl
      (fun h3 A => N hX 2 A rfl rfl fun A => DRAWN hX hmo [] [(13, .tup [], [some (.row 26 27 nn 0 (fun z => oc ((((d.setIfInBounds ((aa : Int)).toNat (d[((pv : Int)).toNat]!)).setIfInBounds ((pv : Int)).toNat (d[((aa : Int)).toNat]!)).setIfInBounds ((j : Int)).toNat (((d.setIfInBounds ((aa : Int)).toNat (d[((pv : Int)).toNat]!)).setIfInBounds ((pv : Int)).toNat (d[((aa : Int)).toNat]!))[((aa : Int)).toNat]!))[z]!)))]), (15, .tup [], [some (.row 26 27 nn 0 (fun z => oc (((((d.setIfInBounds ((aa : Int)).toNat (d[((pv : Int)).toNat]!)).setIfInBounds ((pv : Int)).toNat (d[((aa : Int)).toNat]!)).setIfInBounds ((j : Int)).toNat (((d.setIfInBounds ((aa : Int)).toNat (d[((pv : Int)).toNat]!)).setIfInBounds ((pv : Int)).toNat (d[((aa : Int)).toNat]!))[((aa : Int)).toNat]!)).setIfInBounds ((aa : Int)).toNat (((d.setIfInBounds ((aa : Int)).toNat (d[((pv : Int)).toNat]!)).setIfInBounds ((pv : Int)).toNat (d[((aa : Int)).toNat]!))[((j : Int)).toNat]!))[z]!)))])] A rfl (ok_d (by have := hU.le; have := hU.ub; have := hD.le; have := hD.lb; omega) <| ok_d (by have := hU.le; have := hU.ub; have := hD.le; have := hD.lb; omega) <| ok_d (by have := hU.le; have := hU.ub; have := hD.le; have := hD.lb; omega) <| ok_d (by have := hU.le; have := hU.ub; have := hD.le; have := hD.lb; omega) <| ok_d (by have := hU.le; have := hU.ub; have := hD.le; have := hD.lb; omega) <| ok_d (by have := hU.le; have := hU.ub; have := hD.le; have := hD.lb; omega) <| ok_d (by have := hU.le; have := hU.ub; have := hD.le; have := hD.lb; omega) <| okE_nil) rfl rfl (by kernel_rfl) ⟨strE (i := 0) (e := 26) (s := 27) (m := nn) (c := 0) hX (((j : Int)).toNat) (fun z => oc ((((d.setIfInBounds ((aa : Int)).toNat (d[((pv : Int)).toNat]!)).setIfInBounds ((pv : Int)).toNat (d[((aa : Int)).toNat]!)).setIfInBounds ((j : Int)).toNat (((d.setIfInBounds ((aa : Int)).toNat (d[((pv : Int)).toNat]!)).setIfInBounds ((pv : Int)).toNat (d[((aa : Int)).toNat]!))[((aa : Int)).toNat]!))[z]!)) rfl rfl rfl (by have := hU.le; have := hU.ub; have := hD.le; have := hD.lb; omega) (fun z hz => by show oc _ = oc _; rw [aset_ne hz]) (by show _ = some (oc _); rw [aset_at (by (try simp only [asz]); rw [hn]; have := hU.le; have := hU.ub; have := hD.le; have := hD.lb; omega)]; rfl), ⟨strE (i := 0) (e := 26) (s := 27) (m := nn) (c := 0) hX (((aa : Int)).toNat) (fun z => oc (((((d.setIfInBounds ((aa : Int)).toNat (d[((pv : Int)).toNat]!)).setIfInBounds ((pv : Int)).toNat (d[((aa : Int)).toNat]!)).setIfInBounds ((j : Int)).toNat (((d.setIfInBounds ((aa : Int)).toNat (d[((pv : Int)).toNat]!)).setIfInBounds ((pv : Int)).toNat (d[((aa : Int)).toNat]!))[((aa : Int)).toNat]!)).setIfInBounds ((aa : Int)).toNat (((d.setIfInBounds ((aa : Int)).toNat (d[((pv : Int)).toNat]!)).setIfInBounds ((pv : Int)).toNat (d[((aa : Int)).toNat]!))[((j : Int)).toNat]!))[z]!)) rfl rfl rfl (by have := hU.le; have := hU.ub; have := hD.le; have := hD.lb; omega) (fun z hz => by show oc _ = oc _; rw [aset_ne hz]) (by show _ = some (oc _); rw [aset_at (by (try simp only [asz]); rw [hn]; have := hU.le; have := hU.ub; have := hD.le; have := hD.lb; omega)]; rfl), trivial⟩⟩ trivial fun A => N hX 9 A rfl rfl fun A => RETN hX A rfl rfl rfl h0 rfl rfl rfl rfl (by have e : Go.Sort.partition lessO d aa b pv = _ := part1 (swp_is rfl rfl) (hU.stop (cmp_less _ _) h1) (hD.stop hU.le (congrArg (fun x => !x) (cmp_less _ _)) h2) h3 (swp_is (x := (j : Int)) (y := (aa : Int)) rfl rfl); rw [e]; rfl) (by have e : Go.Sort.partition lessO d aa b pv = _ := part1 (swp_is rfl rfl) (hU.stop (cmp_less _ _) h1) (hD.stop hU.le (congrArg (fun x => !x) (cmp_less _ _)) h2) h3 (swp_is (x := (j : Int)) (y := (aa : Int)) rfl rfl); rw [e]; rfl))
      (fun h3 A => N hX 4 A rfl rfl fun A => DRAWN hX hmo [] [(13, .tup [], [some (.row 26 27 nn 0 (fun z => oc ((((d.setIfInBounds ((aa : Int)).toNat (d[((pv : Int)).toNat]!)).setIfInBounds ((pv : Int)).toNat (d[((aa : Int)).toNat]!)).setIfInBounds ((i : Int)).toNat (((d.setIfInBounds ((aa : Int)).toNat (d[((pv : Int)).toNat]!)).setIfInBounds ((pv : Int)).toNat (d[((aa : Int)).toNat]!))[((j : Int)).toNat]!))[z]!)))]), (15, .tup [], [some (.row 26 27 nn 0 (fun z => oc (((((d.setIfInBounds ((aa : Int)).toNat (d[((pv : Int)).toNat]!)).setIfInBounds ((pv : Int)).toNat (d[((aa : Int)).toNat]!)).setIfInBounds ((i : Int)).toNat (((d.setIfInBounds ((aa : Int)).toNat (d[((pv : Int)).toNat]!)).setIfInBounds ((pv : Int)).toNat (d[((aa : Int)).toNat]!))[((j : Int)).toNat]!)).setIfInBounds ((j : Int)).toNat (((d.setIfInBounds ((aa : Int)).toNat (d[((pv : Int)).toNat]!)).setIfInBounds ((pv : Int)).toNat (d[((aa : Int)).toNat]!))[((i : Int)).toNat]!))[z]!)))])] A rfl (ok_d (by have := hU.le; have := hU.ub; have := hD.le; have := hD.lb; omega) <| ok_d (by have := hU.le; have := hU.ub; have := hD.le; have := hD.lb; omega) <| ok_d (by have := hU.le; have := hU.ub; have := hD.le; have := hD.lb; omega) <| ok_d (by have := hU.le; have := hU.ub; have := hD.le; have := hD.lb; omega) <| ok_d (by have := hU.le; have := hU.ub; have := hD.le; have := hD.lb; omega) <| ok_d (by have := hU.le; have := hU.ub; have := hD.le; have := hD.lb; omega) <| ok_d (by have := hU.le; have := hU.ub; have := hD.le; have := hD.lb; omega) <| okE_nil) rfl rfl (by kernel_rfl) ⟨strE (i := 0) (e := 26) (s := 27) (m := nn) (c := 0) hX (((i : Int)).toNat) (fun z => oc ((((d.setIfInBounds ((aa : Int)).toNat (d[((pv : Int)).toNat]!)).setIfInBounds ((pv : Int)).toNat (d[((aa : Int)).toNat]!)).setIfInBounds ((i : Int)).toNat (((d.setIfInBounds ((aa : Int)).toNat (d[((pv : Int)).toNat]!)).setIfInBounds ((pv : Int)).toNat (d[((aa : Int)).toNat]!))[((j : Int)).toNat]!))[z]!)) rfl rfl rfl (by have := hU.le; have := hU.ub; have := hD.le; have := hD.lb; omega) (fun z hz => by show oc _ = oc _; rw [aset_ne hz]) (by show _ = some (oc _); rw [aset_at (by (try simp only [asz]); rw [hn]; have := hU.le; have := hU.ub; have := hD.le; have := hD.lb; omega)]; rfl), ⟨strE (i := 0) (e := 26) (s := 27) (m := nn) (c := 0) hX (((j : Int)).toNat) (fun z => oc (((((d.setIfInBounds ((aa : Int)).toNat (d[((pv : Int)).toNat]!)).setIfInBounds ((pv : Int)).toNat (d[((aa : Int)).toNat]!)).setIfInBounds ((i : Int)).toNat (((d.setIfInBounds ((aa : Int)).toNat (d[((pv : Int)).toNat]!)).setIfInBounds ((pv : Int)).toNat (d[((aa : Int)).toNat]!))[((j : Int)).toNat]!)).setIfInBounds ((j : Int)).toNat (((d.setIfInBounds ((aa : Int)).toNat (d[((pv : Int)).toNat]!)).setIfInBounds ((pv : Int)).toNat (d[((aa : Int)).toNat]!))[((i : Int)).toNat]!))[z]!)) rfl rfl rfl (by have := hU.le; have := hU.ub; have := hD.le; have := hD.lb; omega) (fun z hz => by show oc _ = oc _; rw [aset_ne hz]) (by show _ = some (oc _); rw [aset_at (by (try simp only [asz]); rw [hn]; have := hU.le; have := hU.ub; have := hD.le; have := hD.lb; omega)]; rfl), trivial⟩⟩ trivial fun A => N hX 9 A rfl (ok_d (by have := hU.le; have := hU.ub; have := hD.le; have := hD.lb; omega) <| okE_nil) fun A => N hX 8 A rfl (ok_d (by have := hU.le; have := hU.ub; have := hD.le; have := hD.lb; omega) <| okE_nil) fun A => have A := A.say 13 (.int .i64 (((j - 1 : Nat)) : Int)) rfl (by congr 1; have := hU.le; omega); LOOP3 (fun (x : Nat) (y : Nat) (dk : Array O) => [(0, .sl 0 nn 0), (1, .int .i64 (aa : Int)), (4, .fn 35 []), (10, .int .i64 0), (11, .ff), (12, .int .i64 (x : Int)), (13, .int .i64 (y : Int))]) (fun (x : Nat) (y : Nat) (dk : Array O) => [some (.row 26 27 nn 0 (fun z => oc (dk[z]!)))]) (fun (x : Nat) (y : Nat) (dk : Array O) => PL (fun i j D => Go.Sort.partLoop lessO aa i j D) d aa b (i + 1) (j - 1) ((((d.setIfInBounds ((aa : Int)).toNat (d[((pv : Int)).toNat]!)).setIfInBounds ((pv : Int)).toNat (d[((aa : Int)).toNat]!)).setIfInBounds ((i : Int)).toNat (((d.setIfInBounds ((aa : Int)).toNat (d[((pv : Int)).toNat]!)).setIfInBounds ((pv : Int)).toNat (d[((aa : Int)).toNat]!))[((j : Int)).toNat]!)).setIfInBounds ((j : Int)).toNat (((d.setIfInBounds ((aa : Int)).toNat (d[((pv : Int)).toNat]!)).setIfInBounds ((pv : Int)).toNat (d[((aa : Int)).toNat]!))[((i : Int)).toNat]!)) x y dk) (fun (x : Nat) (y : Nat) (dk : Array O) => y + 1 - x) (i + 1) (j - 1) ((((d.setIfInBounds ((aa : Int)).toNat (d[((pv : Int)).toNat]!)).setIfInBounds ((pv : Int)).toNat (d[((aa : Int)).toNat]!)).setIfInBounds ((i : Int)).toNat (((d.setIfInBounds ((aa : Int)).toNat (d[((pv : Int)).toNat]!)).setIfInBounds ((pv : Int)).toNat (d[((aa : Int)).toNat]!))[((j : Int)).toNat]!)).setIfInBounds ((j : Int)).toNat (((d.setIfInBounds ((aa : Int)).toNat (d[((pv : Int)).toNat]!)).setIfInBounds ((pv : Int)).toNat (d[((aa : Int)).toNat]!))[((i : Int)).toNat]!)) ⟨by simp only [asz], by have := hU.le; omega, by have := hU.le; omega, by have := hD.le; omega, by have := hU.ub; omega, rfl⟩ ((A.cut [0, 1, 4, 10, 11, 12, 13] rfl).trunc 1 rfl rfl rfl (by simp only [List.length_cons, List.length_nil] at h0; omega)) fun x y dk hL {G a w} A => N hX 3 A rfl rfl fun A => LOOP1 (fun (xi : Nat) => [(0, .sl 0 nn 0), (1, .int .i64 (aa : Int)), (4, .fn 35 []), (10, .int .i64 0), (11, .ff), (12, .int .i64 (xi : Int)), (13, .int .i64 (y : Int))]) (fun (xi : Nat) => [some (.row 26 27 nn 0 (fun z => oc (dk[z]!)))]) (fun (xi : Nat) => UP (fun x => lessO x (dk)[aa]!) (dk) y x xi) (fun (xi : Nat) => y + 1 - xi) x ⟨Nat.le_refl _, .inr rfl, rfl⟩ ((A.cut [0, 1, 4, 10, 11, 12, 13] rfl).trunc 1 rfl rfl rfl (by simp only [List.length_cons, List.length_nil] at h0; omega)) fun xi hV {G a w} A => N hX 2 A rfl rfl fun A => DRAWN hX hmo [(13, .opt (decide ((xi : Int) ≤ (y : Int))) (.int .i64 (cmpO (dk[((xi : Int)).toNat]!) (dk[((aa : Int)).toNat]!))))] [] A rfl (ok_r <| ok_r <| ok_g (fun hg => (by have := hU.le; have := hU.ub; have := hD.le; have := hD.lb; have := hL.li; have := hL.lj; have := hL.uj; have := hL.ui; have := hV.le; have := hV.ub; have := of_decide_eq_true hg; omega)) <| ok_r <| ok_g (fun hg => (by have := hU.le; have := hU.ub; have := hD.le; have := hD.lb; have := hL.li; have := hL.lj; have := hL.uj; have := hL.ui; have := hV.le; have := hV.ub; have := of_decide_eq_true hg; omega)) <| ok_r <| ok_r <| ok_g (fun hg => (by have := hU.le; have := hU.ub; have := hD.le; have := hD.lb; have := hL.li; have := hL.lj; have := hL.uj; have := hL.ui; have := hV.le; have := hV.ub; have := of_decide_eq_true hg; omega)) <| ok_r <| ok_g (fun hg => (by have := hU.le; have := hU.ub; have := hD.le; have := hD.lb; have := hL.li; have := hL.lj; have := hL.uj; have := hL.ui; have := hV.le; have := hV.ub; have := of_decide_eq_true hg; omega)) <| ok_r <| ok_r <| okE_nil) rfl rfl (by kernel_rfl) (effAll_nil _ _) ⟨.inr ⟨_, _, _, _, _, _, rfl, rfl, rfl, rfl, rfl, fun hg => compare_ (dk[((xi : Int)).toNat]!) (dk[((aa : Int)).toNat]!)⟩, trivial⟩ fun A => N hX 1 A rfl rfl fun A => fork 120 A rfl
         (fun h4 A => N hX 10 A rfl (ok_d (by have := hU.le; have := hU.ub; have := hD.le; have := hD.lb; have := hL.li; have := hL.lj; have := hL.uj; have := hL.ui; have := hV.le; have := hV.ub; have := jlt h4; omega) <| okE_nil) fun A => ⟨xi + 1, _, (by have := jlt h4; omega), (hV.step (cmp_less _ _) h4), ((A.cut [0, 1, 4, 10, 11, 12, 13] rfl).trunc 1 rfl rfl rfl (by simp only [List.length_cons, List.length_nil] at h0; omega))⟩)
         (fun h4 A => N hX 5 A rfl rfl fun A => LOOP1 (fun (yj : Nat) => [(0, .sl 0 nn 0), (1, .int .i64 (aa : Int)), (4, .fn 35 []), (10, .int .i64 0), (11, .ff), (12, .int .i64 (xi : Int)), (13, .int .i64 (yj : Int))]) (fun (yj : Nat) => [some (.row 26 27 nn 0 (fun z => oc (dk[z]!)))]) (fun (yj : Nat) => DN (fun x => !lessO x (dk)[aa]!) (dk) aa xi y yj) (fun (yj : Nat) => yj) y ⟨Nat.le_refl _, hL.lj, rfl⟩ ((A.cut [0, 1, 4, 10, 11, 12, 13] rfl).trunc 1 rfl rfl rfl (by simp only [List.length_cons, List.length_nil] at h0; omega)) fun yj hE {G a w} A => N hX 2 A rfl rfl fun A => DRAWN hX hmo [(13, .opt (decide ((xi : Int) ≤ (yj : Int))) (.int .i64 (cmpO (dk[((yj : Int)).toNat]!) (dk[((aa : Int)).toNat]!))))] [] A rfl (ok_r <| ok_r <| ok_g (fun hg => (by have := hU.le; have := hU.ub; have := hD.le; have := hD.lb; have := hL.li; have := hL.lj; have := hL.uj; have := hL.ui; have := hV.le; have := hV.ub; have := hE.le; have := hE.lb; have := of_decide_eq_true hg; omega)) <| ok_r <| ok_g (fun hg => (by have := hU.le; have := hU.ub; have := hD.le; have := hD.lb; have := hL.li; have := hL.lj; have := hL.uj; have := hL.ui; have := hV.le; have := hV.ub; have := hE.le; have := hE.lb; have := of_decide_eq_true hg; omega)) <| ok_r <| ok_r <| ok_g (fun hg => (by have := hU.le; have := hU.ub; have := hD.le; have := hD.lb; have := hL.li; have := hL.lj; have := hL.uj; have := hL.ui; have := hV.le; have := hV.ub; have := hE.le; have := hE.lb; have := of_decide_eq_true hg; omega)) <| ok_r <| ok_g (fun hg => (by have := hU.le; have := hU.ub; have := hD.le; have := hD.lb; have := hL.li; have := hL.lj; have := hL.uj; have := hL.ui; have := hV.le; have := hV.ub; have := hE.le; have := hE.lb; have := of_decide_eq_true hg; omega)) <| ok_r <| ok_r <| ok_r <| okE_nil) rfl rfl (by kernel_rfl) (effAll_nil _ _) ⟨.inr ⟨_, _, _, _, _, _, rfl, rfl, rfl, rfl, rfl, fun hg => compare_ (dk[((yj : Int)).toNat]!) (dk[((aa : Int)).toNat]!)⟩, trivial⟩ fun A => N hX 1 A rfl rfl fun A => fork 139 A rfl
           (fun h5 A => N hX 10 A rfl (ok_d (by have := hU.le; have := hU.ub; have := hD.le; have := hD.lb; have := hL.li; have := hL.lj; have := hL.uj; have := hL.ui; have := hV.le; have := hV.ub; have := hE.le; have := hE.lb; have := jlt h5; omega) <| okE_nil) fun A => ⟨yj - 1, _, (by have := jlt h5; have := hE.lb; (try have := hU.le); (try have := hV.le); (try have := hL.li); omega), (hE.step (Nat.le_trans hL.li hV.le) (congrArg (fun x => !x) (cmp_less _ _)) h5), ((A.cut [0, 1, 4, 10, 11, 12, 13] rfl).trunc 1 rfl rfl rfl (by simp only [List.length_cons, List.length_nil] at h0; omega)).sayT (by rw [show ((yj - 1 : Nat) : Int) = (yj : Int) - 1 by (try have := jlt h5); (try have := hD.lb); (try have := hE.lb); (try have := hU.le); (try have := hV.le); (try have := hL.li); omega] <;> rfl)⟩)
           (fun h5 A => N hX 11 A rfl rfl fun A => forkD 144 A rfl
            (fun h6 A => N hX 4 A rfl rfl fun A => DRAWN hX hmo [] [(13, .tup [], [some (.row 26 27 nn 0 (fun z => oc ((dk.setIfInBounds ((yj : Int)).toNat (dk[((aa : Int)).toNat]!))[z]!)))]), (15, .tup [], [some (.row 26 27 nn 0 (fun z => oc (((dk.setIfInBounds ((yj : Int)).toNat (dk[((aa : Int)).toNat]!)).setIfInBounds ((aa : Int)).toNat (dk[((yj : Int)).toNat]!))[z]!)))])] A rfl (ok_d (by have := hU.le; have := hU.ub; have := hD.le; have := hD.lb; have := hL.li; have := hL.lj; have := hL.uj; have := hL.ui; have := hV.le; have := hV.ub; have := hE.le; have := hE.lb; omega) <| ok_d (by have := hU.le; have := hU.ub; have := hD.le; have := hD.lb; have := hL.li; have := hL.lj; have := hL.uj; have := hL.ui; have := hV.le; have := hV.ub; have := hE.le; have := hE.lb; omega) <| ok_d (by have := hU.le; have := hU.ub; have := hD.le; have := hD.lb; have := hL.li; have := hL.lj; have := hL.uj; have := hL.ui; have := hV.le; have := hV.ub; have := hE.le; have := hE.lb; omega) <| ok_d (by have := hU.le; have := hU.ub; have := hD.le; have := hD.lb; have := hL.li; have := hL.lj; have := hL.uj; have := hL.ui; have := hV.le; have := hV.ub; have := hE.le; have := hE.lb; omega) <| ok_d (by have := hU.le; have := hU.ub; have := hD.le; have := hD.lb; have := hL.li; have := hL.lj; have := hL.uj; have := hL.ui; have := hV.le; have := hV.ub; have := hE.le; have := hE.lb; omega) <| ok_d (by have := hU.le; have := hU.ub; have := hD.le; have := hD.lb; have := hL.li; have := hL.lj; have := hL.uj; have := hL.ui; have := hV.le; have := hV.ub; have := hE.le; have := hE.lb; omega) <| ok_d (by have := hU.le; have := hU.ub; have := hD.le; have := hD.lb; have := hL.li; have := hL.lj; have := hL.uj; have := hL.ui; have := hV.le; have := hV.ub; have := hE.le; have := hE.lb; omega) <| okE_nil) rfl rfl (by kernel_rfl) ⟨strE (i := 0) (e := 26) (s := 27) (m := nn) (c := 0) hX (((yj : Int)).toNat) (fun z => oc ((dk.setIfInBounds ((yj : Int)).toNat (dk[((aa : Int)).toNat]!))[z]!)) rfl rfl rfl (by have := hU.le; have := hU.ub; have := hD.le; have := hD.lb; have := hL.li; have := hL.lj; have := hL.uj; have := hL.ui; have := hV.le; have := hV.ub; have := hE.le; have := hE.lb; omega) (fun z hz => by show oc _ = oc _; rw [aset_ne hz]) (by show _ = some (oc _); rw [aset_at (by (try simp only [asz]); rw [hL.sz, hn]; have := hU.le; have := hU.ub; have := hD.le; have := hD.lb; have := hL.li; have := hL.lj; have := hL.uj; have := hL.ui; have := hV.le; have := hV.ub; have := hE.le; have := hE.lb; omega)]; rfl), ⟨strE (i := 0) (e := 26) (s := 27) (m := nn) (c := 0) hX (((aa : Int)).toNat) (fun z => oc (((dk.setIfInBounds ((yj : Int)).toNat (dk[((aa : Int)).toNat]!)).setIfInBounds ((aa : Int)).toNat (dk[((yj : Int)).toNat]!))[z]!)) rfl rfl rfl (by have := hU.le; have := hU.ub; have := hD.le; have := hD.lb; have := hL.li; have := hL.lj; have := hL.uj; have := hL.ui; have := hV.le; have := hV.ub; have := hE.le; have := hE.lb; omega) (fun z hz => by show oc _ = oc _; rw [aset_ne hz]) (by show _ = some (oc _); rw [aset_at (by (try simp only [asz]); rw [hL.sz, hn]; have := hU.le; have := hU.ub; have := hD.le; have := hD.lb; have := hL.li; have := hL.lj; have := hL.uj; have := hL.ui; have := hV.le; have := hV.ub; have := hE.le; have := hE.lb; omega)]; rfl), trivial⟩⟩ trivial fun A => N hX 9 A rfl rfl fun A => RETN hX A rfl rfl rfl h0 rfl rfl rfl rfl (by have e : Go.Sort.partition lessO d aa b pv = _ := part2 (swp_is rfl rfl) (hU.stop (cmp_less _ _) h1) (hD.stop hU.le (congrArg (fun x => !x) (cmp_less _ _)) h2) h3 (swp_is rfl rfl) (hL.stop (hV.stop (cmp_less _ _) h4) (hE.stop (Nat.le_trans hL.li hV.le) (congrArg (fun x => !x) (cmp_less _ _)) h5) h6) (swp_is (x := (yj : Int)) (y := (aa : Int)) rfl rfl); rw [e]; rfl) (by have e : Go.Sort.partition lessO d aa b pv = _ := part2 (swp_is rfl rfl) (hU.stop (cmp_less _ _) h1) (hD.stop hU.le (congrArg (fun x => !x) (cmp_less _ _)) h2) h3 (swp_is rfl rfl) (hL.stop (hV.stop (cmp_less _ _) h4) (hE.stop (Nat.le_trans hL.li hV.le) (congrArg (fun x => !x) (cmp_less _ _)) h5) h6) (swp_is (x := (yj : Int)) (y := (aa : Int)) rfl rfl); rw [e]; rfl))
            (fun h6 A => N hX 4 A rfl rfl fun A => DRAWN hX hmo [] [(13, .tup [], [some (.row 26 27 nn 0 (fun z => oc ((dk.setIfInBounds ((xi : Int)).toNat (dk[((yj : Int)).toNat]!))[z]!)))]), (15, .tup [], [some (.row 26 27 nn 0 (fun z => oc (((dk.setIfInBounds ((xi : Int)).toNat (dk[((yj : Int)).toNat]!)).setIfInBounds ((yj : Int)).toNat (dk[((xi : Int)).toNat]!))[z]!)))])] A rfl (ok_d (by have := hU.le; have := hU.ub; have := hD.le; have := hD.lb; have := hL.li; have := hL.lj; have := hL.uj; have := hL.ui; have := hV.le; have := hV.ub; have := hE.le; have := hE.lb; omega) <| ok_d (by have := hU.le; have := hU.ub; have := hD.le; have := hD.lb; have := hL.li; have := hL.lj; have := hL.uj; have := hL.ui; have := hV.le; have := hV.ub; have := hE.le; have := hE.lb; omega) <| ok_d (by have := hU.le; have := hU.ub; have := hD.le; have := hD.lb; have := hL.li; have := hL.lj; have := hL.uj; have := hL.ui; have := hV.le; have := hV.ub; have := hE.le; have := hE.lb; omega) <| ok_d (by have := hU.le; have := hU.ub; have := hD.le; have := hD.lb; have := hL.li; have := hL.lj; have := hL.uj; have := hL.ui; have := hV.le; have := hV.ub; have := hE.le; have := hE.lb; omega) <| ok_d (by have := hU.le; have := hU.ub; have := hD.le; have := hD.lb; have := hL.li; have := hL.lj; have := hL.uj; have := hL.ui; have := hV.le; have := hV.ub; have := hE.le; have := hE.lb; omega) <| ok_d (by have := hU.le; have := hU.ub; have := hD.le; have := hD.lb; have := hL.li; have := hL.lj; have := hL.uj; have := hL.ui; have := hV.le; have := hV.ub; have := hE.le; have := hE.lb; omega) <| ok_d (by have := hU.le; have := hU.ub; have := hD.le; have := hD.lb; have := hL.li; have := hL.lj; have := hL.uj; have := hL.ui; have := hV.le; have := hV.ub; have := hE.le; have := hE.lb; omega) <| okE_nil) rfl rfl (by kernel_rfl) ⟨strE (i := 0) (e := 26) (s := 27) (m := nn) (c := 0) hX (((xi : Int)).toNat) (fun z => oc ((dk.setIfInBounds ((xi : Int)).toNat (dk[((yj : Int)).toNat]!))[z]!)) rfl rfl rfl (by have := hU.le; have := hU.ub; have := hD.le; have := hD.lb; have := hL.li; have := hL.lj; have := hL.uj; have := hL.ui; have := hV.le; have := hV.ub; have := hE.le; have := hE.lb; omega) (fun z hz => by show oc _ = oc _; rw [aset_ne hz]) (by show _ = some (oc _); rw [aset_at (by (try simp only [asz]); rw [hL.sz, hn]; have := hU.le; have := hU.ub; have := hD.le; have := hD.lb; have := hL.li; have := hL.lj; have := hL.uj; have := hL.ui; have := hV.le; have := hV.ub; have := hE.le; have := hE.lb; omega)]; rfl), ⟨strE (i := 0) (e := 26) (s := 27) (m := nn) (c := 0) hX (((yj : Int)).toNat) (fun z => oc (((dk.setIfInBounds ((xi : Int)).toNat (dk[((yj : Int)).toNat]!)).setIfInBounds ((yj : Int)).toNat (dk[((xi : Int)).toNat]!))[z]!)) rfl rfl rfl (by have := hU.le; have := hU.ub; have := hD.le; have := hD.lb; have := hL.li; have := hL.lj; have := hL.uj; have := hL.ui; have := hV.le; have := hV.ub; have := hE.le; have := hE.lb; omega) (fun z hz => by show oc _ = oc _; rw [aset_ne hz]) (by show _ = some (oc _); rw [aset_at (by (try simp only [asz]); rw [hL.sz, hn]; have := hU.le; have := hU.ub; have := hD.le; have := hD.lb; have := hL.li; have := hL.lj; have := hL.uj; have := hL.ui; have := hV.le; have := hV.ub; have := hE.le; have := hE.lb; omega)]; rfl), trivial⟩⟩ trivial fun A => N hX 8 A rfl (ok_d (by have := hU.le; have := hU.ub; have := hD.le; have := hD.lb; have := hL.li; have := hL.lj; have := hL.uj; have := hL.ui; have := hV.le; have := hV.ub; have := hE.le; have := hE.lb; omega) <| okE_nil) fun A => N hX 6 A rfl (ok_d (by have := hU.le; have := hU.ub; have := hD.le; have := hD.lb; have := hL.li; have := hL.lj; have := hL.uj; have := hL.ui; have := hV.le; have := hV.ub; have := hE.le; have := hE.lb; omega) <| okE_nil) fun A => ⟨xi + 1, yj - 1, (dk.setIfInBounds ((xi : Int)).toNat (dk[((yj : Int)).toNat]!)).setIfInBounds ((yj : Int)).toNat (dk[((xi : Int)).toNat]!), _, (by have := hU.le; have := hU.ub; have := hD.le; have := hD.lb; have := hL.li; have := hL.lj; have := hL.uj; have := hL.ui; have := hV.le; have := hV.ub; have := hE.le; have := hE.lb; omega), (hL.step (hV.stop (cmp_less _ _) h4) (hE.stop (Nat.le_trans hL.li hV.le) (congrArg (fun x => !x) (cmp_less _ _)) h5) h6 hV.le hE.le (swp_is rfl rfl)), ((A.cut [0, 1, 4, 10, 11, 12, 13] rfl).trunc 1 rfl rfl rfl (by simp only [List.length_cons, List.length_nil] at h0; omega)).sayT (by rw [show ((yj - 1 : Nat) : Int) = (yj : Int) - 1 by have := hE.lb; have := hL.li; have := hV.le; omega] <;> rfl)⟩))))))
theorem part_i {xaa xb xpv : Int} (d : Array O) (nn aa b pv : Nat) (eaa : xaa = (aa : Int)) (eb : xb = (b : Int)) (epv : xpv = (pv : Int)) (hn : d.size = nn) (hs : nn ≤ 1000000) (ha : aa ≤ pv) (hp : pv < b) (hb : b ≤ nn) : Fn Tryd.prog 70 [.sl 0 nn 0, .int .i64 xaa, .int .i64 xb, .int .i64 xpv, .fn 35 []] [some (.row 26 27 nn 0 (fun z => oc (d[z]!)))] (Rt (.tup [.int .i64 (((Go.Sort.partition lessO d aa b pv).1 : Nat) : Int), .bool ((Go.Sort.partition lessO d aa b pv).2.1)]) [some (.row 26 27 nn 0 (fun z => oc (((Go.Sort.partition lessO d aa b pv).2.2)[z]!)))]) := by
  subst eaa; subst eb; subst epv; exact part_ d nn aa b pv hn hs ha hp hb
theorem parte_ (d : Array O) (nn aa b pv : Nat) (hn : d.size = nn) (hs : nn ≤ 1000000) (ha : aa ≤ pv) (hp : pv < b) (hb : b ≤ nn) : Fn Tryd.prog 69 [.sl 0 nn 0, .int .i64 (aa : Int), .int .i64 (b : Int), .int .i64 (pv : Int), .fn 35 []] [some (.row 26 27 nn 0 (fun z => oc (d[z]!)))] (Rt (.int .i64 (((Go.Sort.partitionEqual lessO d aa b pv).1 : Nat) : Int)) [some (.row 26 27 nn 0 (fun z => oc (((Go.Sort.partitionEqual lessO d aa b pv).2)[z]!)))]) :=
 enterM (n := 90) (by kernel_rfl) Tryd.func69 rfl rfl rfl fun G w a h0 A => N hX 6 A rfl rfl fun A => DRAWN hX hmo [] [(13, .tup [], [some (.row 26 27 nn 0 (fun z => oc ((d.setIfInBounds ((aa : Int)).toNat (d[((pv : Int)).toNat]!))[z]!)))]), (15, .tup [], [some (.row 26 27 nn 0 (fun z => oc (((d.setIfInBounds ((aa : Int)).toNat (d[((pv : Int)).toNat]!)).setIfInBounds ((pv : Int)).toNat (d[((aa : Int)).toNat]!))[z]!)))])] A rfl (ok_d (by omega) <| ok_d (by omega) <| ok_d (by omega) <| ok_d (by omega) <| ok_d (by omega) <| ok_d (by omega) <| ok_d (by omega) <| okE_nil) rfl rfl (by kernel_rfl) ⟨strE (i := 0) (e := 26) (s := 27) (m := nn) (c := 0) hX (((aa : Int)).toNat) (fun z => oc ((d.setIfInBounds ((aa : Int)).toNat (d[((pv : Int)).toNat]!))[z]!)) rfl rfl rfl (by omega) (fun z hz => by show oc _ = oc _; rw [aset_ne hz]) (by show _ = some (oc _); rw [aset_at (by (try simp only [asz]); rw [hn]; omega)]; rfl), ⟨strE (i := 0) (e := 26) (s := 27) (m := nn) (c := 0) hX (((pv : Int)).toNat) (fun z => oc (((d.setIfInBounds ((aa : Int)).toNat (d[((pv : Int)).toNat]!)).setIfInBounds ((pv : Int)).toNat (d[((aa : Int)).toNat]!))[z]!)) rfl rfl rfl (by omega) (fun z hz => by show oc _ = oc _; rw [aset_ne hz]) (by show _ = some (oc _); rw [aset_at (by (try simp only [asz]); rw [hn]; omega)]; rfl), trivial⟩⟩ trivial fun A => N hX 13 A rfl (ok_d (by omega) <| ok_d (by omega) <| okE_nil) fun A => have A := A.say 12 (.int .i64 (((b - 1 : Nat)) : Int)) rfl (by congr 1; omega); LOOP3 (fun (x : Nat) (y : Nat) (dk : Array O) => [(0, .sl 0 nn 0), (1, .int .i64 (aa : Int)), (4, .fn 35 []), (10, .int .i64 0), (11, .int .i64 (x : Int)), (12, .int .i64 (y : Int))]) (fun (x : Nat) (y : Nat) (dk : Array O) => [some (.row 26 27 nn 0 (fun z => oc (dk[z]!)))]) (fun (x : Nat) (y : Nat) (dk : Array O) => PL (fun i j D => Go.Sort.partEqLoop lessO aa i j D) d aa b (aa + 1) (b - 1) ((d.setIfInBounds ((aa : Int)).toNat (d[((pv : Int)).toNat]!)).setIfInBounds ((pv : Int)).toNat (d[((aa : Int)).toNat]!)) x y dk) (fun (x : Nat) (y : Nat) (dk : Array O) => y + 1 - x) (aa + 1) (b - 1) ((d.setIfInBounds ((aa : Int)).toNat (d[((pv : Int)).toNat]!)).setIfInBounds ((pv : Int)).toNat (d[((aa : Int)).toNat]!)) ⟨by simp only [asz], by omega, by omega, by omega, by omega, rfl⟩ ((A.cut [0, 1, 4, 10, 11, 12] rfl).trunc 1 rfl rfl rfl (by simp only [List.length_cons, List.length_nil] at h0; omega)) fun x y dk hL {G a w} A => N hX 3 A rfl rfl fun A => LOOP1 (fun (xi : Nat) => [(0, .sl 0 nn 0), (1, .int .i64 (aa : Int)), (4, .fn 35 []), (10, .int .i64 0), (11, .int .i64 (xi : Int)), (12, .int .i64 (y : Int))]) (fun (xi : Nat) => [some (.row 26 27 nn 0 (fun z => oc (dk[z]!)))]) (fun (xi : Nat) => UP (fun x => !lessO (dk)[aa]! x) (dk) y x xi) (fun (xi : Nat) => y + 1 - xi) x ⟨Nat.le_refl _, .inr rfl, rfl⟩ ((A.cut [0, 1, 4, 10, 11, 12] rfl).trunc 1 rfl rfl rfl (by simp only [List.length_cons, List.length_nil] at h0; omega)) fun xi hV {G a w} A => N hX 2 A rfl rfl fun A => DRAWN hX hmo [(13, .opt (decide ((xi : Int) ≤ (y : Int))) (.int .i64 (cmpO (dk[((aa : Int)).toNat]!) (dk[((xi : Int)).toNat]!))))] [] A rfl (ok_r <| ok_r <| ok_g (fun hg => (by have := hL.li; have := hL.lj; have := hL.uj; have := hL.ui; have := hV.le; have := hV.ub; have := of_decide_eq_true hg; omega)) <| ok_r <| ok_g (fun hg => (by have := hL.li; have := hL.lj; have := hL.uj; have := hL.ui; have := hV.le; have := hV.ub; have := of_decide_eq_true hg; omega)) <| ok_r <| ok_r <| ok_g (fun hg => (by have := hL.li; have := hL.lj; have := hL.uj; have := hL.ui; have := hV.le; have := hV.ub; have := of_decide_eq_true hg; omega)) <| ok_r <| ok_g (fun hg => (by have := hL.li; have := hL.lj; have := hL.uj; have := hL.ui; have := hV.le; have := hV.ub; have := of_decide_eq_true hg; omega)) <| ok_r <| ok_r <| ok_r <| okE_nil) rfl rfl (by kernel_rfl) (effAll_nil _ _) ⟨.inr ⟨_, _, _, _, _, _, rfl, rfl, rfl, rfl, rfl, fun hg => compare_ (dk[((aa : Int)).toNat]!) (dk[((xi : Int)).toNat]!)⟩, trivial⟩ fun A => N hX 1 A rfl rfl fun A => fork 47 A rfl
    (fun h1 A => N hX 10 A rfl (ok_d (by have := hL.li; have := hL.lj; have := hL.uj; have := hL.ui; have := hV.le; have := hV.ub; have := jlt h1; omega) <| okE_nil) fun A => ⟨xi + 1, _, (by have := jlt h1; omega), (hV.step (congrArg (fun x => !x) (cmp_less _ _)) h1), ((A.cut [0, 1, 4, 10, 11, 12] rfl).trunc 1 rfl rfl rfl (by simp only [List.length_cons, List.length_nil] at h0; omega))⟩)
    (fun h1 A => N hX 5 A rfl rfl fun A => LOOP1 (fun (yj : Nat) => [(0, .sl 0 nn 0), (1, .int .i64 (aa : Int)), (4, .fn 35 []), (10, .int .i64 0), (11, .int .i64 (xi : Int)), (12, .int .i64 (yj : Int))]) (fun (yj : Nat) => [some (.row 26 27 nn 0 (fun z => oc (dk[z]!)))]) (fun (yj : Nat) => DN (fun x => lessO (dk)[aa]! x) (dk) aa xi y yj) (fun (yj : Nat) => yj) y ⟨Nat.le_refl _, hL.lj, rfl⟩ ((A.cut [0, 1, 4, 10, 11, 12] rfl).trunc 1 rfl rfl rfl (by simp only [List.length_cons, List.length_nil] at h0; omega)) fun yj hE {G a w} A => N hX 2 A rfl rfl fun A => DRAWN hX hmo [(13, .opt (decide ((xi : Int) ≤ (yj : Int))) (.int .i64 (cmpO (dk[((aa : Int)).toNat]!) (dk[((yj : Int)).toNat]!))))] [] A rfl (ok_r <| ok_r <| ok_g (fun hg => (by have := hL.li; have := hL.lj; have := hL.uj; have := hL.ui; have := hV.le; have := hV.ub; have := hE.le; have := hE.lb; have := of_decide_eq_true hg; omega)) <| ok_r <| ok_g (fun hg => (by have := hL.li; have := hL.lj; have := hL.uj; have := hL.ui; have := hV.le; have := hV.ub; have := hE.le; have := hE.lb; have := of_decide_eq_true hg; omega)) <| ok_r <| ok_r <| ok_g (fun hg => (by have := hL.li; have := hL.lj; have := hL.uj; have := hL.ui; have := hV.le; have := hV.ub; have := hE.le; have := hE.lb; have := of_decide_eq_true hg; omega)) <| ok_r <| ok_g (fun hg => (by have := hL.li; have := hL.lj; have := hL.uj; have := hL.ui; have := hV.le; have := hV.ub; have := hE.le; have := hE.lb; have := of_decide_eq_true hg; omega)) <| ok_r <| ok_r <| okE_nil) rfl rfl (by kernel_rfl) (effAll_nil _ _) ⟨.inr ⟨_, _, _, _, _, _, rfl, rfl, rfl, rfl, rfl, fun hg => compare_ (dk[((aa : Int)).toNat]!) (dk[((yj : Int)).toNat]!)⟩, trivial⟩ fun A => N hX 1 A rfl rfl fun A => fork 65 A rfl
      (fun h2 A => N hX 10 A rfl (ok_d (by have := hL.li; have := hL.lj; have := hL.uj; have := hL.ui; have := hV.le; have := hV.ub; have := hE.le; have := hE.lb; have := jlt h2; omega) <| okE_nil) fun A => ⟨yj - 1, _, (by have := jlt h2; have := hE.lb; (try have := hU.le); (try have := hV.le); (try have := hL.li); omega), (hE.step (Nat.le_trans hL.li hV.le) (cmp_less _ _) h2), ((A.cut [0, 1, 4, 10, 11, 12] rfl).trunc 1 rfl rfl rfl (by simp only [List.length_cons, List.length_nil] at h0; omega)).sayT (by rw [show ((yj - 1 : Nat) : Int) = (yj : Int) - 1 by (try have := jlt h2); (try have := hD.lb); (try have := hE.lb); (try have := hU.le); (try have := hV.le); (try have := hL.li); omega] <;> rfl)⟩)
      (fun h2 A => N hX 11 A rfl rfl fun A => forkD 70 A rfl
       (fun h3 A => N hX 10 A rfl rfl fun A => RETN hX A rfl rfl rfl h0 rfl rfl rfl rfl (by have e : Go.Sort.partitionEqual lessO d aa b pv = _ := parte1 (swp_is rfl rfl) (hL.stopE (hV.stop (congrArg (fun x => !x) (cmp_less _ _)) h1) (hE.stop (Nat.le_trans hL.li hV.le) (cmp_less _ _) h2) h3); rw [e]; rfl) (by have e : Go.Sort.partitionEqual lessO d aa b pv = _ := parte1 (swp_is rfl rfl) (hL.stopE (hV.stop (congrArg (fun x => !x) (cmp_less _ _)) h1) (hE.stop (Nat.le_trans hL.li hV.le) (cmp_less _ _) h2) h3); rw [e]; rfl))
       (fun h3 A => N hX 4 A rfl rfl fun A => DRAWN hX hmo [] [(13, .tup [], [some (.row 26 27 nn 0 (fun z => oc ((dk.setIfInBounds ((xi : Int)).toNat (dk[((yj : Int)).toNat]!))[z]!)))]), (15, .tup [], [some (.row 26 27 nn 0 (fun z => oc (((dk.setIfInBounds ((xi : Int)).toNat (dk[((yj : Int)).toNat]!)).setIfInBounds ((yj : Int)).toNat (dk[((xi : Int)).toNat]!))[z]!)))])] A rfl (ok_d (by have := hL.li; have := hL.lj; have := hL.uj; have := hL.ui; have := hV.le; have := hV.ub; have := hE.le; have := hE.lb; omega) <| ok_d (by have := hL.li; have := hL.lj; have := hL.uj; have := hL.ui; have := hV.le; have := hV.ub; have := hE.le; have := hE.lb; omega) <| ok_d (by have := hL.li; have := hL.lj; have := hL.uj; have := hL.ui; have := hV.le; have := hV.ub; have := hE.le; have := hE.lb; omega) <| ok_d (by have := hL.li; have := hL.lj; have := hL.uj; have := hL.ui; have := hV.le; have := hV.ub; have := hE.le; have := hE.lb; omega) <| ok_d (by have := hL.li; have := hL.lj; have := hL.uj; have := hL.ui; have := hV.le; have := hV.ub; have := hE.le; have := hE.lb; omega) <| ok_d (by have := hL.li; have := hL.lj; have := hL.uj; have := hL.ui; have := hV.le; have := hV.ub; have := hE.le; have := hE.lb; omega) <| ok_d (by have := hL.li; have := hL.lj; have := hL.uj; have := hL.ui; have := hV.le; have := hV.ub; have := hE.le; have := hE.lb; omega) <| okE_nil) rfl rfl (by kernel_rfl) ⟨strE (i := 0) (e := 26) (s := 27) (m := nn) (c := 0) hX (((xi : Int)).toNat) (fun z => oc ((dk.setIfInBounds ((xi : Int)).toNat (dk[((yj : Int)).toNat]!))[z]!)) rfl rfl rfl (by have := hL.li; have := hL.lj; have := hL.uj; have := hL.ui; have := hV.le; have := hV.ub; have := hE.le; have := hE.lb; omega) (fun z hz => by show oc _ = oc _; rw [aset_ne hz]) (by show _ = some (oc _); rw [aset_at (by (try simp only [asz]); rw [hL.sz, hn]; have := hL.li; have := hL.lj; have := hL.uj; have := hL.ui; have := hV.le; have := hV.ub; have := hE.le; have := hE.lb; omega)]; rfl), ⟨strE (i := 0) (e := 26) (s := 27) (m := nn) (c := 0) hX (((yj : Int)).toNat) (fun z => oc (((dk.setIfInBounds ((xi : Int)).toNat (dk[((yj : Int)).toNat]!)).setIfInBounds ((yj : Int)).toNat (dk[((xi : Int)).toNat]!))[z]!)) rfl rfl rfl (by have := hL.li; have := hL.lj; have := hL.uj; have := hL.ui; have := hV.le; have := hV.ub; have := hE.le; have := hE.lb; omega) (fun z hz => by show oc _ = oc _; rw [aset_ne hz]) (by show _ = some (oc _); rw [aset_at (by (try simp only [asz]); rw [hL.sz, hn]; have := hL.li; have := hL.lj; have := hL.uj; have := hL.ui; have := hV.le; have := hV.ub; have := hE.le; have := hE.lb; omega)]; rfl), trivial⟩⟩ trivial fun A => N hX 8 A rfl (ok_d (by have := hL.li; have := hL.lj; have := hL.uj; have := hL.ui; have := hV.le; have := hV.ub; have := hE.le; have := hE.lb; omega) <| okE_nil) fun A => N hX 6 A rfl (ok_d (by have := hL.li; have := hL.lj; have := hL.uj; have := hL.ui; have := hV.le; have := hV.ub; have := hE.le; have := hE.lb; omega) <| okE_nil) fun A => ⟨xi + 1, yj - 1, (dk.setIfInBounds ((xi : Int)).toNat (dk[((yj : Int)).toNat]!)).setIfInBounds ((yj : Int)).toNat (dk[((xi : Int)).toNat]!), _, (by have := hL.li; have := hL.lj; have := hL.uj; have := hL.ui; have := hV.le; have := hV.ub; have := hE.le; have := hE.lb; omega), (hL.stepE (hV.stop (congrArg (fun x => !x) (cmp_less _ _)) h1) (hE.stop (Nat.le_trans hL.li hV.le) (cmp_less _ _) h2) h3 hV.le hE.le (swp_is rfl rfl)), ((A.cut [0, 1, 4, 10, 11, 12] rfl).trunc 1 rfl rfl rfl (by simp only [List.length_cons, List.length_nil] at h0; omega)).sayT (by rw [show ((yj - 1 : Nat) : Int) = (yj : Int) - 1 by have := hE.lb; have := hL.li; have := hV.le; omega] <;> rfl)⟩)))
theorem parte_i {xaa xb xpv : Int} (d : Array O) (nn aa b pv : Nat) (eaa : xaa = (aa : Int)) (eb : xb = (b : Int)) (epv : xpv = (pv : Int)) (hn : d.size = nn) (hs : nn ≤ 1000000) (ha : aa ≤ pv) (hp : pv < b) (hb : b ≤ nn) : Fn Tryd.prog 69 [.sl 0 nn 0, .int .i64 xaa, .int .i64 xb, .int .i64 xpv, .fn 35 []] [some (.row 26 27 nn 0 (fun z => oc (d[z]!)))] (Rt (.int .i64 (((Go.Sort.partitionEqual lessO d aa b pv).1 : Nat) : Int)) [some (.row 26 27 nn 0 (fun z => oc (((Go.Sort.partitionEqual lessO d aa b pv).2)[z]!)))]) := by
  subst eaa; subst eb; subst epv; exact parte_ d nn aa b pv hn hs ha hp hb
end Go.Proofs.YtbghlhhoafkmgaaDoor
/- Insertion in part. -/
namespace Go.Proofs.YtbghlhhoafkmgaaDoor
open Go.RowKit
set_option linter.unusedVariables false
set_option linter.unusedSimpArgs false
set_option maxRecDepth 100000
set_option maxHeartbeats 2000000
set_option simprocs false
open Go.Sort
structure PZ (d : Array O) (aa b s i : Nat) (dk : Array O) : Prop where
  sz : dk.size = d.size
  ls : s ≤ 5
  li : aa + 1 ≤ i
  ui : i ≤ b
  eq : partialIns lessO aa b (5 - s) i dk = partialInsertionSort lessO d aa b
structure SS (dk : Array O) (b i x : Nat) : Prop where
  le : i ≤ x
  ub : x ≤ b
  eq : scanSorted lessO dk b x = scanSorted lessO dk b i
structure SH (d D1 : Array O) (k : Nat) (e : Array O) (j : Nat) : Prop where
  sz : e.size = d.size
  le : j ≤ k
  eq : shiftDown lessO j e = shiftDown lessO k D1
structure SU (d D2 : Array O) (b k : Nat) (e : Array O) (j : Nat) : Prop where
  sz : e.size = d.size
  le : k ≤ j
  eq : shiftUp lessO b j e = shiftUp lessO b k D2
section
variable {d dk D1 D2 D3 e e' : Array O} {aa b s i x j k : Nat}
theorem SS.step (h : SS dk b i x) (h0 : 1 ≤ i) (h1 : (decide ((x : Int) < (b : Int)) && !(decide (cmpO (dk[((x : Int)).toNat]!) (dk[((x : Int) - 1).toNat]!) < 0))) = true) : SS dk b i (x + 1) := by
  have h2 := jlt h1
  have h3 := jrt h1
  have hx := h.le
  refine ⟨by omega, by omega, ?_⟩
  rw [← h.eq]
  conv => rhs; unfold scanSorted
  rw [cmp_less, show ((x : Int) - 1).toNat = x - 1 by omega, Int.toNat_natCast] at h3
  rw [if_pos (by rw [h3, decide_eq_true (by omega)]; rfl)]
theorem SS.stop (h : SS dk b i x) (h0 : 1 ≤ i) (h1 : (decide ((x : Int) < (b : Int)) && !(decide (cmpO (dk[((x : Int)).toNat]!) (dk[((x : Int) - 1).toNat]!) < 0))) = false) : scanSorted lessO dk b i = x := by
  have hx := h.le
  rw [← h.eq]
  unfold scanSorted
  rw [if_neg]
  intro h2
  rw [cmp_less, show ((x : Int) - 1).toNat = x - 1 by omega, Int.toNat_natCast, show decide ((x : Int) < (b : Int)) = decide (x < b) by simp, h2] at h1
  cases h1
theorem SH.step (h : SH d D1 k e j) (h1 : (j : Int) ≥ 1) (h2 : (!(decide (cmpO (e[((j : Int)).toNat]!) (e[((j : Int) - 1).toNat]!) < 0))) = false) (he : e' = swp e j (j - 1)) : SH d D1 k e' (j - 1) := by
  subst he
  obtain ⟨q, rfl⟩ : ∃ q, j = q + 1 := ⟨j - 1, by omega⟩
  refine ⟨by rw [swp_sz, h.sz], by have := h.le; omega, ?_⟩
  rw [cmp_less, show (((q + 1 : Nat) : Int) - 1).toNat = q by omega, Int.toNat_natCast] at h2
  rw [← h.eq]
  conv => rhs; unfold shiftDown
  rw [if_neg (by rw [h2]; simp)]; rfl
theorem SH.stop1 (h : SH d D1 k e j) (h1 : ¬ (j : Int) ≥ 1) : e = shiftDown lessO k D1 := by
  have : j = 0 := by omega
  subst this
  rw [← h.eq]; rfl
theorem SH.stop2 (h : SH d D1 k e j) (h1 : (j : Int) ≥ 1) (h2 : (!(decide (cmpO (e[((j : Int)).toNat]!) (e[((j : Int) - 1).toNat]!) < 0))) = true) : e = shiftDown lessO k D1 := by
  obtain ⟨q, rfl⟩ : ∃ q, j = q + 1 := ⟨j - 1, by omega⟩
  rw [cmp_less, show (((q + 1 : Nat) : Int) - 1).toNat = q by omega, Int.toNat_natCast] at h2
  rw [← h.eq]
  unfold shiftDown
  rw [if_pos h2]
theorem SU.step (h : SU d D2 b k e j) (h0 : 1 ≤ k) (h1 : (j : Int) < (b : Int)) (h2 : (!(decide (cmpO (e[((j : Int)).toNat]!) (e[((j : Int) - 1).toNat]!) < 0))) = false) (he : e' = swp e j (j - 1)) : SU d D2 b k e' (j + 1) := by
  subst he
  have hl := h.le
  refine ⟨by rw [swp_sz, h.sz], by omega, ?_⟩
  rw [cmp_less, show ((j : Int) - 1).toNat = j - 1 by omega, Int.toNat_natCast] at h2
  rw [← h.eq]
  conv => rhs; unfold shiftUp
  rw [if_pos (by omega), if_neg (by rw [h2]; simp)]
theorem SU.stop1 (h : SU d D2 b k e j) (h1 : ¬ (j : Int) < (b : Int)) : e = shiftUp lessO b k D2 := by
  rw [← h.eq]; unfold shiftUp; rw [if_neg (by omega)]
theorem SU.stop2 (h : SU d D2 b k e j) (h0 : 1 ≤ k) (h1 : (j : Int) < (b : Int)) (h2 : (!(decide (cmpO (e[((j : Int)).toNat]!) (e[((j : Int) - 1).toNat]!) < 0))) = true) : e = shiftUp lessO b k D2 := by
  have hl := h.le
  rw [cmp_less, show ((j : Int) - 1).toNat = j - 1 by omega, Int.toNat_natCast] at h2
  rw [← h.eq]; unfold shiftUp; rw [if_pos (by omega), if_pos h2]
theorem PZ.at (h : PZ d aa b s i dk) (h1 : (s : Int) < 5) : partialInsertionSort lessO d aa b = partialIns lessO aa b ((5 - (s + 1)) + 1) i dk := by
  rw [← h.eq, show 5 - s = 5 - (s + 1) + 1 by omega]
theorem PZ.yes (h : PZ d aa b s i dk) (h1 : (s : Int) < 5) (e1 : scanSorted lessO dk b i = x) (h2 : (x : Int) = (b : Int)) : partialInsertionSort lessO d aa b = (dk, true) := by
  rw [h.at h1, partialIns]
  simp only [e1]
  rw [if_pos (by omega)]
theorem PZ.no (h : PZ d aa b s i dk) (h1 : (s : Int) < 5) (e1 : scanSorted lessO dk b i = x) (h2 : (x : Int) ≠ (b : Int)) (h3 : (b : Int) - (aa : Int) < 50) : partialInsertionSort lessO d aa b = (dk, false) := by
  have := h.li; have := h.ui
  rw [h.at h1, partialIns]
  simp only [e1]
  rw [if_neg (by omega), if_pos (by omega)]
theorem PZ.fin (h : PZ d aa b s i dk) (h1 : ¬ (s : Int) < 5) : partialInsertionSort lessO d aa b = (dk, false) := by
  have := h.ls
  rw [← h.eq, show 5 - s = 0 by omega, partialIns]
theorem PZ.step (h : PZ d aa b s i dk) (h1 : (s : Int) < 5) (hS : SS dk b i x) (e1 : scanSorted lessO dk b i = x) (h2 : (x : Int) ≠ (b : Int)) (h3 : ¬ (b : Int) - (aa : Int) < 50) (e3 : D1 = swp dk x (x - 1)) (e4 : D2 = if x - aa ≥ 2 then shiftDown lessO (x - 1) D1 else D1) (e5 : D3 = if b - x ≥ 2 then shiftUp lessO b (x + 1) D2 else D2) (hz : D3.size = d.size) : PZ d aa b (s + 1) x D3 := by
  have := h.li; have := hS.le; have := hS.ub
  refine ⟨hz, by omega, by omega, by omega, ?_⟩
  rw [h.at h1, partialIns]
  simp only [e1]
  rw [if_neg (by omega), if_neg (by omega), ← e3, ← e4, ← e5]
end
theorem pins_ (d : Array O) (nn aa b : Nat) (hn : d.size = nn) (hs : nn ≤ 1000000) (ha : aa < b) (hb : b ≤ nn) : Fn Tryd.prog 68 [.sl 0 nn 0, .int .i64 (aa : Int), .int .i64 (b : Int), .fn 35 []] [some (.row 26 27 nn 0 (fun z => oc (d[z]!)))] (Rt (.bool ((Go.Sort.partialInsertionSort lessO d aa b).2)) [some (.row 26 27 nn 0 (fun z => oc (((Go.Sort.partialInsertionSort lessO d aa b).1)[z]!)))]) :=
 enterM (n := 141) (by kernel_rfl) Tryd.func68 rfl rfl rfl fun G w a h0 A => N hX 14 A rfl (ok_d (by omega) <| okE_nil) fun A => N hX 5 A rfl rfl fun A => LOOP3 (fun (s : Nat) (i : Nat) (dk : Array O) => [(0, .sl 0 nn 0), (1, .int .i64 (aa : Int)), (2, .int .i64 (b : Int)), (3, .fn 35 []), (8, .ff), (9, .int .i64 (i : Int)), (10, .int .i64 (s : Int))]) (fun (s : Nat) (i : Nat) (dk : Array O) => [some (.row 26 27 nn 0 (fun z => oc (dk[z]!)))]) (fun (s : Nat) (i : Nat) (dk : Array O) => PZ d aa b s i dk) (fun (s : Nat) (i : Nat) (dk : Array O) => 5 - s) 0 (aa + 1) d ⟨rfl, by omega, Nat.le_refl _, by omega, rfl⟩ ((A.cut [0, 1, 2, 3, 8, 9, 10] rfl).trunc 1 rfl rfl rfl (by simp only [List.length_cons, List.length_nil] at h0; omega)) fun s i dk hI {G a w} A => N hX 7 A rfl rfl fun A => forkD 16 A rfl
   (fun h1 A => N hX 7 A rfl rfl fun A => LOOP1 (fun (x : Nat) => [(0, .sl 0 nn 0), (1, .int .i64 (aa : Int)), (2, .int .i64 (b : Int)), (3, .fn 35 []), (8, .ff), (9, .int .i64 (x : Int)), (10, .int .i64 (s : Int))]) (fun (x : Nat) => [some (.row 26 27 nn 0 (fun z => oc (dk[z]!)))]) (fun (x : Nat) => SS dk b i x) (fun (x : Nat) => b - x) i ⟨Nat.le_refl _, hI.ui, rfl⟩ ((A.cut [0, 1, 2, 3, 8, 9, 10] rfl).trunc 1 rfl rfl rfl (by simp only [List.length_cons, List.length_nil] at h0; omega)) fun x hS {G a w} A => N hX 2 A rfl rfl fun A => DRAWN hX hmo [(14, .opt (decide ((x : Int) < (b : Int))) (.int .i64 (cmpO (dk[((x : Int)).toNat]!) (dk[((x : Int) - 1).toNat]!))))] [] A rfl (ok_r <| ok_r <| ok_g (fun hg => (by have := hI.ls; have := hI.li; have := hI.ui; have := hS.le; have := hS.ub; have := of_decide_eq_true hg; omega)) <| ok_r <| ok_g (fun hg => (by have := hI.ls; have := hI.li; have := hI.ui; have := hS.le; have := hS.ub; have := of_decide_eq_true hg; omega)) <| ok_r <| ok_g (fun hg => (by have := hI.ls; have := hI.li; have := hI.ui; have := hS.le; have := hS.ub; have := of_decide_eq_true hg; omega)) <| ok_r <| ok_r <| ok_g (fun hg => (by have := hI.ls; have := hI.li; have := hI.ui; have := hS.le; have := hS.ub; have := of_decide_eq_true hg; omega)) <| ok_r <| ok_g (fun hg => (by have := hI.ls; have := hI.li; have := hI.ui; have := hS.le; have := hS.ub; have := of_decide_eq_true hg; omega)) <| ok_r <| ok_r <| ok_r <| okE_nil) rfl rfl (by kernel_rfl) (effAll_nil _ _) ⟨.inr ⟨_, _, _, _, _, _, rfl, rfl, rfl, rfl, rfl, fun hg => compare_ (dk[((x : Int)).toNat]!) (dk[((x : Int) - 1).toNat]!)⟩, trivial⟩ fun A => N hX 1 A rfl rfl fun A => fork 36 A rfl
     (fun h2 A => N hX 10 A rfl (ok_d (by have := hI.ls; have := hI.li; have := hI.ui; have := hS.le; have := hS.ub; have := jlt h2; omega) <| okE_nil) fun A => ⟨x + 1, _, (by have := jlt h2; omega), (hS.step (Nat.le_trans (Nat.le_add_left 1 aa) hI.li) h2), ((A.cut [0, 1, 2, 3, 8, 9, 10] rfl).trunc 1 rfl rfl rfl (by simp only [List.length_cons, List.length_nil] at h0; omega))⟩)
     (fun h2 A => N hX 11 A rfl rfl fun A => forkE 41 A rfl
      (fun h3 A => N hX 7 A rfl rfl fun A => RETN hX A rfl rfl rfl h0 rfl rfl rfl rfl (by rw [hI.yes h1 (hS.stop (Nat.le_trans (Nat.le_add_left 1 aa) hI.li) h2) h3]; rfl) (by rw [hI.yes h1 (hS.stop (Nat.le_trans (Nat.le_add_left 1 aa) hI.li) h2) h3]; rfl))
      (fun h3 A => N hX 12 A rfl (ok_d (by have := hI.ls; have := hI.li; have := hI.ui; have := hS.le; have := hS.ub; omega) <| okE_nil) fun A => forkD 45 A rfl
       (fun h4 A => N hX 7 A rfl rfl fun A => RETN hX A rfl rfl rfl h0 rfl rfl rfl rfl (by rw [hI.no h1 (hS.stop (Nat.le_trans (Nat.le_add_left 1 aa) hI.li) h2) h3 h4]; rfl) (by rw [hI.no h1 (hS.stop (Nat.le_trans (Nat.le_add_left 1 aa) hI.li) h2) h3 h4]; rfl))
       (fun h4 A => N hX 4 A rfl rfl fun A => DRAWN hX hmo [] [(15, .tup [], [some (.row 26 27 nn 0 (fun z => oc ((dk.setIfInBounds ((x : Int)).toNat (dk[((x : Int) - 1).toNat]!))[z]!)))]), (17, .tup [], [some (.row 26 27 nn 0 (fun z => oc (((dk.setIfInBounds ((x : Int)).toNat (dk[((x : Int) - 1).toNat]!)).setIfInBounds ((x : Int) - 1).toNat (dk[((x : Int)).toNat]!))[z]!)))])] A rfl (ok_d (by have := hI.ls; have := hI.li; have := hI.ui; have := hS.le; have := hS.ub; omega) <| ok_d (by have := hI.ls; have := hI.li; have := hI.ui; have := hS.le; have := hS.ub; omega) <| ok_d (by have := hI.ls; have := hI.li; have := hI.ui; have := hS.le; have := hS.ub; omega) <| ok_d (by have := hI.ls; have := hI.li; have := hI.ui; have := hS.le; have := hS.ub; omega) <| ok_d (by have := hI.ls; have := hI.li; have := hI.ui; have := hS.le; have := hS.ub; omega) <| ok_d (by have := hI.ls; have := hI.li; have := hI.ui; have := hS.le; have := hS.ub; omega) <| ok_d (by have := hI.ls; have := hI.li; have := hI.ui; have := hS.le; have := hS.ub; omega) <| ok_d (by have := hI.ls; have := hI.li; have := hI.ui; have := hS.le; have := hS.ub; omega) <| ok_d (by have := hI.ls; have := hI.li; have := hI.ui; have := hS.le; have := hS.ub; omega) <| ok_d (by have := hI.ls; have := hI.li; have := hI.ui; have := hS.le; have := hS.ub; omega) <| okE_nil) rfl rfl (by kernel_rfl) ⟨strE (i := 0) (e := 26) (s := 27) (m := nn) (c := 0) hX (((x : Int)).toNat) (fun z => oc ((dk.setIfInBounds ((x : Int)).toNat (dk[((x : Int) - 1).toNat]!))[z]!)) rfl rfl rfl (by have := hI.ls; have := hI.li; have := hI.ui; have := hS.le; have := hS.ub; omega) (fun z hz => by show oc _ = oc _; rw [aset_ne hz]) (by show _ = some (oc _); rw [aset_at (by (try simp only [asz]); rw [hI.sz, hn]; have := hI.ls; have := hI.li; have := hI.ui; have := hS.le; have := hS.ub; omega)]; rfl), ⟨strE (i := 0) (e := 26) (s := 27) (m := nn) (c := 0) hX (((x : Int) - 1).toNat) (fun z => oc (((dk.setIfInBounds ((x : Int)).toNat (dk[((x : Int) - 1).toNat]!)).setIfInBounds ((x : Int) - 1).toNat (dk[((x : Int)).toNat]!))[z]!)) rfl rfl rfl (by have := hI.ls; have := hI.li; have := hI.ui; have := hS.le; have := hS.ub; omega) (fun z hz => by show oc _ = oc _; rw [aset_ne hz]) (by show _ = some (oc _); rw [aset_at (by (try simp only [asz]); rw [hI.sz, hn]; have := hI.ls; have := hI.li; have := hI.ui; have := hS.le; have := hS.ub; omega)]; rfl), trivial⟩⟩ trivial fun A => N hX 10 A rfl (ok_d (by have := hI.ls; have := hI.li; have := hI.ui; have := hS.le; have := hS.ub; omega) <| okE_nil) fun A => forkD 65 A rfl
        (fun h5 A => N hX 9 A rfl (ok_d (by have := hI.ls; have := hI.li; have := hI.ui; have := hS.le; have := hS.ub; omega) <| okE_nil) fun A => have A := A.say 11 (.int .i64 (((x - 1 : Nat)) : Int)) rfl (by congr 1; have := hI.li; have := hS.le; omega); LOOP2 (fun (j : Nat) (ea : Array O) => [(0, .sl 0 nn 0), (1, .int .i64 (aa : Int)), (2, .int .i64 (b : Int)), (3, .fn 35 []), (8, .ff), (9, .int .i64 (x : Int)), (10, .int .i64 (s : Int)), (11, .int .i64 (j : Int))]) (fun (j : Nat) (ea : Array O) => [some (.row 26 27 nn 0 (fun z => oc (ea[z]!)))]) (fun (j : Nat) (ea : Array O) => SH d ((dk.setIfInBounds ((x : Int)).toNat (dk[((x : Int) - 1).toNat]!)).setIfInBounds ((x : Int) - 1).toNat (dk[((x : Int)).toNat]!)) (x - 1) ea j) (fun (j : Nat) (ea : Array O) => j) (x - 1) ((dk.setIfInBounds ((x : Int)).toNat (dk[((x : Int) - 1).toNat]!)).setIfInBounds ((x : Int) - 1).toNat (dk[((x : Int)).toNat]!)) ⟨(by simp only [asz]; exact hI.sz), Nat.le_refl _, rfl⟩ ((A.cut [0, 1, 2, 3, 8, 9, 10, 11] rfl).trunc 1 rfl rfl rfl (by simp only [List.length_cons, List.length_nil] at h0; omega)) fun j ea hA {G a w} A => N hX 7 A rfl rfl fun A => forkD 69 A rfl
          (fun h6 A => N hX 7 A rfl rfl fun A => DRAWN hX hmo [(10, .int .i64 (cmpO (ea[((j : Int)).toNat]!) (ea[((j : Int) - 1).toNat]!)))] [] A rfl (ok_d (by have := hI.ls; have := hI.li; have := hI.ui; have := hS.le; have := hS.ub; have := hA.le; omega) <| ok_d (by have := hI.ls; have := hI.li; have := hI.ui; have := hS.le; have := hS.ub; have := hA.le; omega) <| ok_d (by have := hI.ls; have := hI.li; have := hI.ui; have := hS.le; have := hS.ub; have := hA.le; omega) <| ok_d (by have := hI.ls; have := hI.li; have := hI.ui; have := hS.le; have := hS.ub; have := hA.le; omega) <| ok_d (by have := hI.ls; have := hI.li; have := hI.ui; have := hS.le; have := hS.ub; have := hA.le; omega) <| okE_nil) rfl rfl (by kernel_rfl) (effAll_nil _ _) ⟨.inl ⟨_, _, rfl, rfl, compare_ (ea[((j : Int)).toNat]!) (ea[((j : Int) - 1).toNat]!)⟩, trivial⟩ fun A => N hX 1 A rfl rfl fun A => fork 84 A rfl
           (fun h7 A => N hX 11 A rfl (ok_d (by have := hI.ls; have := hI.li; have := hI.ui; have := hS.le; have := hS.ub; have := hA.le; omega) <| okE_nil) fun A => forkD 104 A rfl
            (fun h8 A => N hX 9 A rfl (ok_d (by have := hI.ls; have := hI.li; have := hI.ui; have := hS.le; have := hS.ub; have := hA.le; omega) <| okE_nil) fun A => LOOP2 (fun (q : Nat) (eb : Array O) => [(0, .sl 0 nn 0), (1, .int .i64 (aa : Int)), (2, .int .i64 (b : Int)), (3, .fn 35 []), (8, .ff), (9, .int .i64 (x : Int)), (10, .int .i64 (s : Int)), (12, .int .i64 (q : Int))]) (fun (q : Nat) (eb : Array O) => [some (.row 26 27 nn 0 (fun z => oc (eb[z]!)))]) (fun (q : Nat) (eb : Array O) => SU d (ea) b (x + 1) eb q) (fun (q : Nat) (eb : Array O) => b - q) (x + 1) ea ⟨hA.sz, Nat.le_refl _, rfl⟩ ((A.cut [0, 1, 2, 3, 8, 9, 10, 12] rfl).trunc 1 rfl rfl rfl (by simp only [List.length_cons, List.length_nil] at h0; omega)) fun q eb hB {G a w} A => N hX 8 A rfl rfl fun A => forkD 109 A rfl
              (fun h9 A => N hX 7 A rfl rfl fun A => DRAWN hX hmo [(10, .int .i64 (cmpO (eb[((q : Int)).toNat]!) (eb[((q : Int) - 1).toNat]!)))] [] A rfl (ok_d (by have := hI.ls; have := hI.li; have := hI.ui; have := hS.le; have := hS.ub; have := hA.le; have := hB.le; omega) <| ok_d (by have := hI.ls; have := hI.li; have := hI.ui; have := hS.le; have := hS.ub; have := hA.le; have := hB.le; omega) <| ok_d (by have := hI.ls; have := hI.li; have := hI.ui; have := hS.le; have := hS.ub; have := hA.le; have := hB.le; omega) <| ok_d (by have := hI.ls; have := hI.li; have := hI.ui; have := hS.le; have := hS.ub; have := hA.le; have := hB.le; omega) <| ok_d (by have := hI.ls; have := hI.li; have := hI.ui; have := hS.le; have := hS.ub; have := hA.le; have := hB.le; omega) <| okE_nil) rfl rfl (by kernel_rfl) (effAll_nil _ _) ⟨.inl ⟨_, _, rfl, rfl, compare_ (eb[((q : Int)).toNat]!) (eb[((q : Int) - 1).toNat]!)⟩, trivial⟩ fun A => N hX 1 A rfl rfl fun A => fork 124 A rfl
               (fun h10 A => N hX 9 A rfl (ok_d (by have := hI.ls; have := hI.li; have := hI.ui; have := hS.le; have := hS.ub; have := hA.le; have := hB.le; omega) <| okE_nil) fun A => ⟨s + 1, x, eb, _, (by have := hI.ls; omega), (hI.step (D1 := (dk.setIfInBounds ((x : Int)).toNat (dk[((x : Int) - 1).toNat]!)).setIfInBounds ((x : Int) - 1).toNat (dk[((x : Int)).toNat]!)) (D2 := ea) h1 hS (hS.stop (Nat.le_trans (Nat.le_add_left 1 aa) hI.li) h2) h3 h4 (swp_is (x := (x : Int)) (y := (x : Int) - 1) rfl (by have := hI.li; have := hS.le; omega)) (by rw [if_pos (by omega)]; exact hA.stop2 h6 h7) (by rw [if_pos (by omega)]; exact hB.stop2 (by omega) h9 h10) hB.sz), ((A.cut [0, 1, 2, 3, 8, 9, 10] rfl).trunc 1 rfl rfl rfl (by simp only [List.length_cons, List.length_nil] at h0; omega)).sayT (by rfl)⟩)
               (fun h10 A => N hX 3 A rfl rfl fun A => DRAWN hX hmo [] [(15, .tup [], [some (.row 26 27 nn 0 (fun z => oc ((eb.setIfInBounds ((q : Int)).toNat (eb[((q : Int) - 1).toNat]!))[z]!)))]), (17, .tup [], [some (.row 26 27 nn 0 (fun z => oc (((eb.setIfInBounds ((q : Int)).toNat (eb[((q : Int) - 1).toNat]!)).setIfInBounds ((q : Int) - 1).toNat (eb[((q : Int)).toNat]!))[z]!)))])] A rfl (ok_d (by have := hI.ls; have := hI.li; have := hI.ui; have := hS.le; have := hS.ub; have := hA.le; have := hB.le; omega) <| ok_d (by have := hI.ls; have := hI.li; have := hI.ui; have := hS.le; have := hS.ub; have := hA.le; have := hB.le; omega) <| ok_d (by have := hI.ls; have := hI.li; have := hI.ui; have := hS.le; have := hS.ub; have := hA.le; have := hB.le; omega) <| ok_d (by have := hI.ls; have := hI.li; have := hI.ui; have := hS.le; have := hS.ub; have := hA.le; have := hB.le; omega) <| ok_d (by have := hI.ls; have := hI.li; have := hI.ui; have := hS.le; have := hS.ub; have := hA.le; have := hB.le; omega) <| ok_d (by have := hI.ls; have := hI.li; have := hI.ui; have := hS.le; have := hS.ub; have := hA.le; have := hB.le; omega) <| ok_d (by have := hI.ls; have := hI.li; have := hI.ui; have := hS.le; have := hS.ub; have := hA.le; have := hB.le; omega) <| ok_d (by have := hI.ls; have := hI.li; have := hI.ui; have := hS.le; have := hS.ub; have := hA.le; have := hB.le; omega) <| ok_d (by have := hI.ls; have := hI.li; have := hI.ui; have := hS.le; have := hS.ub; have := hA.le; have := hB.le; omega) <| ok_d (by have := hI.ls; have := hI.li; have := hI.ui; have := hS.le; have := hS.ub; have := hA.le; have := hB.le; omega) <| okE_nil) rfl rfl (by kernel_rfl) ⟨strE (i := 0) (e := 26) (s := 27) (m := nn) (c := 0) hX (((q : Int)).toNat) (fun z => oc ((eb.setIfInBounds ((q : Int)).toNat (eb[((q : Int) - 1).toNat]!))[z]!)) rfl rfl rfl (by have := hI.ls; have := hI.li; have := hI.ui; have := hS.le; have := hS.ub; have := hA.le; have := hB.le; omega) (fun z hz => by show oc _ = oc _; rw [aset_ne hz]) (by show _ = some (oc _); rw [aset_at (by (try simp only [asz]); rw [hB.sz, hn]; have := hI.ls; have := hI.li; have := hI.ui; have := hS.le; have := hS.ub; have := hA.le; have := hB.le; omega)]; rfl), ⟨strE (i := 0) (e := 26) (s := 27) (m := nn) (c := 0) hX (((q : Int) - 1).toNat) (fun z => oc (((eb.setIfInBounds ((q : Int)).toNat (eb[((q : Int) - 1).toNat]!)).setIfInBounds ((q : Int) - 1).toNat (eb[((q : Int)).toNat]!))[z]!)) rfl rfl rfl (by have := hI.ls; have := hI.li; have := hI.ui; have := hS.le; have := hS.ub; have := hA.le; have := hB.le; omega) (fun z hz => by show oc _ = oc _; rw [aset_ne hz]) (by show _ = some (oc _); rw [aset_at (by (try simp only [asz]); rw [hB.sz, hn]; have := hI.ls; have := hI.li; have := hI.ui; have := hS.le; have := hS.ub; have := hA.le; have := hB.le; omega)]; rfl), trivial⟩⟩ trivial fun A => N hX 7 A rfl (ok_d (by have := hI.ls; have := hI.li; have := hI.ui; have := hS.le; have := hS.ub; have := hA.le; have := hB.le; omega) <| okE_nil) fun A => ⟨q + 1, (eb.setIfInBounds ((q : Int)).toNat (eb[((q : Int) - 1).toNat]!)).setIfInBounds ((q : Int) - 1).toNat (eb[((q : Int)).toNat]!), _, (by omega), (hB.step (by omega) h9 h10 (swp_is (x := (q : Int)) (y := (q : Int) - 1) rfl (by have := hB.le; omega))), ((A.cut [0, 1, 2, 3, 8, 9, 10, 12] rfl).trunc 1 rfl rfl rfl (by simp only [List.length_cons, List.length_nil] at h0; omega)).sayT (by rfl)⟩))
              (fun h9 A => N hX 9 A rfl (ok_d (by have := hI.ls; have := hI.li; have := hI.ui; have := hS.le; have := hS.ub; have := hA.le; have := hB.le; omega) <| okE_nil) fun A => ⟨s + 1, x, eb, _, (by have := hI.ls; omega), (hI.step (D1 := (dk.setIfInBounds ((x : Int)).toNat (dk[((x : Int) - 1).toNat]!)).setIfInBounds ((x : Int) - 1).toNat (dk[((x : Int)).toNat]!)) (D2 := ea) h1 hS (hS.stop (Nat.le_trans (Nat.le_add_left 1 aa) hI.li) h2) h3 h4 (swp_is (x := (x : Int)) (y := (x : Int) - 1) rfl (by have := hI.li; have := hS.le; omega)) (by rw [if_pos (by omega)]; exact hA.stop2 h6 h7) (by rw [if_pos (by omega)]; exact hB.stop1 h9) hB.sz), ((A.cut [0, 1, 2, 3, 8, 9, 10] rfl).trunc 1 rfl rfl rfl (by simp only [List.length_cons, List.length_nil] at h0; omega)).sayT (by rfl)⟩))
            (fun h8 A => N hX 9 A rfl (ok_d (by have := hI.ls; have := hI.li; have := hI.ui; have := hS.le; have := hS.ub; have := hA.le; omega) <| okE_nil) fun A => ⟨s + 1, x, ea, _, (by have := hI.ls; omega), (hI.step (D1 := (dk.setIfInBounds ((x : Int)).toNat (dk[((x : Int) - 1).toNat]!)).setIfInBounds ((x : Int) - 1).toNat (dk[((x : Int)).toNat]!)) (D2 := ea) h1 hS (hS.stop (Nat.le_trans (Nat.le_add_left 1 aa) hI.li) h2) h3 h4 (swp_is (x := (x : Int)) (y := (x : Int) - 1) rfl (by have := hI.li; have := hS.le; omega)) (by rw [if_pos (by omega)]; exact hA.stop2 h6 h7) (by rw [if_neg (by omega)]) hA.sz), ((A.cut [0, 1, 2, 3, 8, 9, 10] rfl).trunc 1 rfl rfl rfl (by simp only [List.length_cons, List.length_nil] at h0; omega)).sayT (by rfl)⟩))
           (fun h7 A => N hX 3 A rfl rfl fun A => DRAWN hX hmo [] [(15, .tup [], [some (.row 26 27 nn 0 (fun z => oc ((ea.setIfInBounds ((j : Int)).toNat (ea[((j : Int) - 1).toNat]!))[z]!)))]), (17, .tup [], [some (.row 26 27 nn 0 (fun z => oc (((ea.setIfInBounds ((j : Int)).toNat (ea[((j : Int) - 1).toNat]!)).setIfInBounds ((j : Int) - 1).toNat (ea[((j : Int)).toNat]!))[z]!)))])] A rfl (ok_d (by have := hI.ls; have := hI.li; have := hI.ui; have := hS.le; have := hS.ub; have := hA.le; omega) <| ok_d (by have := hI.ls; have := hI.li; have := hI.ui; have := hS.le; have := hS.ub; have := hA.le; omega) <| ok_d (by have := hI.ls; have := hI.li; have := hI.ui; have := hS.le; have := hS.ub; have := hA.le; omega) <| ok_d (by have := hI.ls; have := hI.li; have := hI.ui; have := hS.le; have := hS.ub; have := hA.le; omega) <| ok_d (by have := hI.ls; have := hI.li; have := hI.ui; have := hS.le; have := hS.ub; have := hA.le; omega) <| ok_d (by have := hI.ls; have := hI.li; have := hI.ui; have := hS.le; have := hS.ub; have := hA.le; omega) <| ok_d (by have := hI.ls; have := hI.li; have := hI.ui; have := hS.le; have := hS.ub; have := hA.le; omega) <| ok_d (by have := hI.ls; have := hI.li; have := hI.ui; have := hS.le; have := hS.ub; have := hA.le; omega) <| ok_d (by have := hI.ls; have := hI.li; have := hI.ui; have := hS.le; have := hS.ub; have := hA.le; omega) <| ok_d (by have := hI.ls; have := hI.li; have := hI.ui; have := hS.le; have := hS.ub; have := hA.le; omega) <| okE_nil) rfl rfl (by kernel_rfl) ⟨strE (i := 0) (e := 26) (s := 27) (m := nn) (c := 0) hX (((j : Int)).toNat) (fun z => oc ((ea.setIfInBounds ((j : Int)).toNat (ea[((j : Int) - 1).toNat]!))[z]!)) rfl rfl rfl (by have := hI.ls; have := hI.li; have := hI.ui; have := hS.le; have := hS.ub; have := hA.le; omega) (fun z hz => by show oc _ = oc _; rw [aset_ne hz]) (by show _ = some (oc _); rw [aset_at (by (try simp only [asz]); rw [hA.sz, hn]; have := hI.ls; have := hI.li; have := hI.ui; have := hS.le; have := hS.ub; have := hA.le; omega)]; rfl), ⟨strE (i := 0) (e := 26) (s := 27) (m := nn) (c := 0) hX (((j : Int) - 1).toNat) (fun z => oc (((ea.setIfInBounds ((j : Int)).toNat (ea[((j : Int) - 1).toNat]!)).setIfInBounds ((j : Int) - 1).toNat (ea[((j : Int)).toNat]!))[z]!)) rfl rfl rfl (by have := hI.ls; have := hI.li; have := hI.ui; have := hS.le; have := hS.ub; have := hA.le; omega) (fun z hz => by show oc _ = oc _; rw [aset_ne hz]) (by show _ = some (oc _); rw [aset_at (by (try simp only [asz]); rw [hA.sz, hn]; have := hI.ls; have := hI.li; have := hI.ui; have := hS.le; have := hS.ub; have := hA.le; omega)]; rfl), trivial⟩⟩ trivial fun A => N hX 7 A rfl (ok_d (by have := hI.ls; have := hI.li; have := hI.ui; have := hS.le; have := hS.ub; have := hA.le; omega) <| okE_nil) fun A => ⟨j - 1, (ea.setIfInBounds ((j : Int)).toNat (ea[((j : Int) - 1).toNat]!)).setIfInBounds ((j : Int) - 1).toNat (ea[((j : Int)).toNat]!), _, (by omega), (hA.step h6 h7 (swp_is (x := (j : Int)) (y := (j : Int) - 1) rfl (by omega))), ((A.cut [0, 1, 2, 3, 8, 9, 10, 11] rfl).trunc 1 rfl rfl rfl (by simp only [List.length_cons, List.length_nil] at h0; omega)).sayT (by rw [show ((j - 1 : Nat) : Int) = (j : Int) - 1 by omega] <;> rfl)⟩))
          (fun h6 A => N hX 11 A rfl (ok_d (by have := hI.ls; have := hI.li; have := hI.ui; have := hS.le; have := hS.ub; have := hA.le; omega) <| okE_nil) fun A => forkD 104 A rfl
           (fun h11 A => N hX 9 A rfl (ok_d (by have := hI.ls; have := hI.li; have := hI.ui; have := hS.le; have := hS.ub; have := hA.le; omega) <| okE_nil) fun A => LOOP2 (fun (q : Nat) (eb : Array O) => [(0, .sl 0 nn 0), (1, .int .i64 (aa : Int)), (2, .int .i64 (b : Int)), (3, .fn 35 []), (8, .ff), (9, .int .i64 (x : Int)), (10, .int .i64 (s : Int)), (12, .int .i64 (q : Int))]) (fun (q : Nat) (eb : Array O) => [some (.row 26 27 nn 0 (fun z => oc (eb[z]!)))]) (fun (q : Nat) (eb : Array O) => SU d (ea) b (x + 1) eb q) (fun (q : Nat) (eb : Array O) => b - q) (x + 1) ea ⟨hA.sz, Nat.le_refl _, rfl⟩ ((A.cut [0, 1, 2, 3, 8, 9, 10, 12] rfl).trunc 1 rfl rfl rfl (by simp only [List.length_cons, List.length_nil] at h0; omega)) fun q eb hB {G a w} A => N hX 8 A rfl rfl fun A => forkD 109 A rfl
             (fun h12 A => N hX 7 A rfl rfl fun A => DRAWN hX hmo [(10, .int .i64 (cmpO (eb[((q : Int)).toNat]!) (eb[((q : Int) - 1).toNat]!)))] [] A rfl (ok_d (by have := hI.ls; have := hI.li; have := hI.ui; have := hS.le; have := hS.ub; have := hA.le; have := hB.le; omega) <| ok_d (by have := hI.ls; have := hI.li; have := hI.ui; have := hS.le; have := hS.ub; have := hA.le; have := hB.le; omega) <| ok_d (by have := hI.ls; have := hI.li; have := hI.ui; have := hS.le; have := hS.ub; have := hA.le; have := hB.le; omega) <| ok_d (by have := hI.ls; have := hI.li; have := hI.ui; have := hS.le; have := hS.ub; have := hA.le; have := hB.le; omega) <| ok_d (by have := hI.ls; have := hI.li; have := hI.ui; have := hS.le; have := hS.ub; have := hA.le; have := hB.le; omega) <| okE_nil) rfl rfl (by kernel_rfl) (effAll_nil _ _) ⟨.inl ⟨_, _, rfl, rfl, compare_ (eb[((q : Int)).toNat]!) (eb[((q : Int) - 1).toNat]!)⟩, trivial⟩ fun A => N hX 1 A rfl rfl fun A => fork 124 A rfl
              (fun h13 A => N hX 9 A rfl (ok_d (by have := hI.ls; have := hI.li; have := hI.ui; have := hS.le; have := hS.ub; have := hA.le; have := hB.le; omega) <| okE_nil) fun A => ⟨s + 1, x, eb, _, (by have := hI.ls; omega), (hI.step (D1 := (dk.setIfInBounds ((x : Int)).toNat (dk[((x : Int) - 1).toNat]!)).setIfInBounds ((x : Int) - 1).toNat (dk[((x : Int)).toNat]!)) (D2 := ea) h1 hS (hS.stop (Nat.le_trans (Nat.le_add_left 1 aa) hI.li) h2) h3 h4 (swp_is (x := (x : Int)) (y := (x : Int) - 1) rfl (by have := hI.li; have := hS.le; omega)) (by rw [if_pos (by omega)]; exact hA.stop1 h6) (by rw [if_pos (by omega)]; exact hB.stop2 (by omega) h12 h13) hB.sz), ((A.cut [0, 1, 2, 3, 8, 9, 10] rfl).trunc 1 rfl rfl rfl (by simp only [List.length_cons, List.length_nil] at h0; omega)).sayT (by rfl)⟩)
              (fun h13 A => N hX 3 A rfl rfl fun A => DRAWN hX hmo [] [(15, .tup [], [some (.row 26 27 nn 0 (fun z => oc ((eb.setIfInBounds ((q : Int)).toNat (eb[((q : Int) - 1).toNat]!))[z]!)))]), (17, .tup [], [some (.row 26 27 nn 0 (fun z => oc (((eb.setIfInBounds ((q : Int)).toNat (eb[((q : Int) - 1).toNat]!)).setIfInBounds ((q : Int) - 1).toNat (eb[((q : Int)).toNat]!))[z]!)))])] A rfl (ok_d (by have := hI.ls; have := hI.li; have := hI.ui; have := hS.le; have := hS.ub; have := hA.le; have := hB.le; omega) <| ok_d (by have := hI.ls; have := hI.li; have := hI.ui; have := hS.le; have := hS.ub; have := hA.le; have := hB.le; omega) <| ok_d (by have := hI.ls; have := hI.li; have := hI.ui; have := hS.le; have := hS.ub; have := hA.le; have := hB.le; omega) <| ok_d (by have := hI.ls; have := hI.li; have := hI.ui; have := hS.le; have := hS.ub; have := hA.le; have := hB.le; omega) <| ok_d (by have := hI.ls; have := hI.li; have := hI.ui; have := hS.le; have := hS.ub; have := hA.le; have := hB.le; omega) <| ok_d (by have := hI.ls; have := hI.li; have := hI.ui; have := hS.le; have := hS.ub; have := hA.le; have := hB.le; omega) <| ok_d (by have := hI.ls; have := hI.li; have := hI.ui; have := hS.le; have := hS.ub; have := hA.le; have := hB.le; omega) <| ok_d (by have := hI.ls; have := hI.li; have := hI.ui; have := hS.le; have := hS.ub; have := hA.le; have := hB.le; omega) <| ok_d (by have := hI.ls; have := hI.li; have := hI.ui; have := hS.le; have := hS.ub; have := hA.le; have := hB.le; omega) <| ok_d (by have := hI.ls; have := hI.li; have := hI.ui; have := hS.le; have := hS.ub; have := hA.le; have := hB.le; omega) <| okE_nil) rfl rfl (by kernel_rfl) ⟨strE (i := 0) (e := 26) (s := 27) (m := nn) (c := 0) hX (((q : Int)).toNat) (fun z => oc ((eb.setIfInBounds ((q : Int)).toNat (eb[((q : Int) - 1).toNat]!))[z]!)) rfl rfl rfl (by have := hI.ls; have := hI.li; have := hI.ui; have := hS.le; have := hS.ub; have := hA.le; have := hB.le; omega) (fun z hz => by show oc _ = oc _; rw [aset_ne hz]) (by show _ = some (oc _); rw [aset_at (by (try simp only [asz]); rw [hB.sz, hn]; have := hI.ls; have := hI.li; have := hI.ui; have := hS.le; have := hS.ub; have := hA.le; have := hB.le; omega)]; rfl), ⟨strE (i := 0) (e := 26) (s := 27) (m := nn) (c := 0) hX (((q : Int) - 1).toNat) (fun z => oc (((eb.setIfInBounds ((q : Int)).toNat (eb[((q : Int) - 1).toNat]!)).setIfInBounds ((q : Int) - 1).toNat (eb[((q : Int)).toNat]!))[z]!)) rfl rfl rfl (by have := hI.ls; have := hI.li; have := hI.ui; have := hS.le; have := hS.ub; have := hA.le; have := hB.le; omega) (fun z hz => by show oc _ = oc _; rw [aset_ne hz]) (by show _ = some (oc _); rw [aset_at (by (try simp only [asz]); rw [hB.sz, hn]; have := hI.ls; have := hI.li; have := hI.ui; have := hS.le; have := hS.ub; have := hA.le; have := hB.le; omega)]; rfl), trivial⟩⟩ trivial fun A => N hX 7 A rfl (ok_d (by have := hI.ls; have := hI.li; have := hI.ui; have := hS.le; have := hS.ub; have := hA.le; have := hB.le; omega) <| okE_nil) fun A => ⟨q + 1, (eb.setIfInBounds ((q : Int)).toNat (eb[((q : Int) - 1).toNat]!)).setIfInBounds ((q : Int) - 1).toNat (eb[((q : Int)).toNat]!), _, (by omega), (hB.step (by omega) h12 h13 (swp_is (x := (q : Int)) (y := (q : Int) - 1) rfl (by have := hB.le; omega))), ((A.cut [0, 1, 2, 3, 8, 9, 10, 12] rfl).trunc 1 rfl rfl rfl (by simp only [List.length_cons, List.length_nil] at h0; omega)).sayT (by rfl)⟩))
             (fun h12 A => N hX 9 A rfl (ok_d (by have := hI.ls; have := hI.li; have := hI.ui; have := hS.le; have := hS.ub; have := hA.le; have := hB.le; omega) <| okE_nil) fun A => ⟨s + 1, x, eb, _, (by have := hI.ls; omega), (hI.step (D1 := (dk.setIfInBounds ((x : Int)).toNat (dk[((x : Int) - 1).toNat]!)).setIfInBounds ((x : Int) - 1).toNat (dk[((x : Int)).toNat]!)) (D2 := ea) h1 hS (hS.stop (Nat.le_trans (Nat.le_add_left 1 aa) hI.li) h2) h3 h4 (swp_is (x := (x : Int)) (y := (x : Int) - 1) rfl (by have := hI.li; have := hS.le; omega)) (by rw [if_pos (by omega)]; exact hA.stop1 h6) (by rw [if_pos (by omega)]; exact hB.stop1 h12) hB.sz), ((A.cut [0, 1, 2, 3, 8, 9, 10] rfl).trunc 1 rfl rfl rfl (by simp only [List.length_cons, List.length_nil] at h0; omega)).sayT (by rfl)⟩))
           (fun h11 A => N hX 9 A rfl (ok_d (by have := hI.ls; have := hI.li; have := hI.ui; have := hS.le; have := hS.ub; have := hA.le; omega) <| okE_nil) fun A => ⟨s + 1, x, ea, _, (by have := hI.ls; omega), (hI.step (D1 := (dk.setIfInBounds ((x : Int)).toNat (dk[((x : Int) - 1).toNat]!)).setIfInBounds ((x : Int) - 1).toNat (dk[((x : Int)).toNat]!)) (D2 := ea) h1 hS (hS.stop (Nat.le_trans (Nat.le_add_left 1 aa) hI.li) h2) h3 h4 (swp_is (x := (x : Int)) (y := (x : Int) - 1) rfl (by have := hI.li; have := hS.le; omega)) (by rw [if_pos (by omega)]; exact hA.stop1 h6) (by rw [if_neg (by omega)]) hA.sz), ((A.cut [0, 1, 2, 3, 8, 9, 10] rfl).trunc 1 rfl rfl rfl (by simp only [List.length_cons, List.length_nil] at h0; omega)).sayT (by rfl)⟩)))
        (fun h5 A => N hX 11 A rfl (ok_d (by have := hI.ls; have := hI.li; have := hI.ui; have := hS.le; have := hS.ub; omega) <| okE_nil) fun A => forkD 104 A rfl
         (fun h14 A => N hX 9 A rfl (ok_d (by have := hI.ls; have := hI.li; have := hI.ui; have := hS.le; have := hS.ub; omega) <| okE_nil) fun A => LOOP2 (fun (q : Nat) (eb : Array O) => [(0, .sl 0 nn 0), (1, .int .i64 (aa : Int)), (2, .int .i64 (b : Int)), (3, .fn 35 []), (8, .ff), (9, .int .i64 (x : Int)), (10, .int .i64 (s : Int)), (12, .int .i64 (q : Int))]) (fun (q : Nat) (eb : Array O) => [some (.row 26 27 nn 0 (fun z => oc (eb[z]!)))]) (fun (q : Nat) (eb : Array O) => SU d ((dk.setIfInBounds ((x : Int)).toNat (dk[((x : Int) - 1).toNat]!)).setIfInBounds ((x : Int) - 1).toNat (dk[((x : Int)).toNat]!)) b (x + 1) eb q) (fun (q : Nat) (eb : Array O) => b - q) (x + 1) ((dk.setIfInBounds ((x : Int)).toNat (dk[((x : Int) - 1).toNat]!)).setIfInBounds ((x : Int) - 1).toNat (dk[((x : Int)).toNat]!)) ⟨(by simp only [asz]; exact hI.sz), Nat.le_refl _, rfl⟩ ((A.cut [0, 1, 2, 3, 8, 9, 10, 12] rfl).trunc 1 rfl rfl rfl (by simp only [List.length_cons, List.length_nil] at h0; omega)) fun q eb hB {G a w} A => N hX 8 A rfl rfl fun A => forkD 109 A rfl
           (fun h15 A => N hX 7 A rfl rfl fun A => DRAWN hX hmo [(10, .int .i64 (cmpO (eb[((q : Int)).toNat]!) (eb[((q : Int) - 1).toNat]!)))] [] A rfl (ok_d (by have := hI.ls; have := hI.li; have := hI.ui; have := hS.le; have := hS.ub; have := hB.le; omega) <| ok_d (by have := hI.ls; have := hI.li; have := hI.ui; have := hS.le; have := hS.ub; have := hB.le; omega) <| ok_d (by have := hI.ls; have := hI.li; have := hI.ui; have := hS.le; have := hS.ub; have := hB.le; omega) <| ok_d (by have := hI.ls; have := hI.li; have := hI.ui; have := hS.le; have := hS.ub; have := hB.le; omega) <| ok_d (by have := hI.ls; have := hI.li; have := hI.ui; have := hS.le; have := hS.ub; have := hB.le; omega) <| okE_nil) rfl rfl (by kernel_rfl) (effAll_nil _ _) ⟨.inl ⟨_, _, rfl, rfl, compare_ (eb[((q : Int)).toNat]!) (eb[((q : Int) - 1).toNat]!)⟩, trivial⟩ fun A => N hX 1 A rfl rfl fun A => fork 124 A rfl
            (fun h16 A => N hX 9 A rfl (ok_d (by have := hI.ls; have := hI.li; have := hI.ui; have := hS.le; have := hS.ub; have := hB.le; omega) <| okE_nil) fun A => ⟨s + 1, x, eb, _, (by have := hI.ls; omega), (hI.step (D1 := (dk.setIfInBounds ((x : Int)).toNat (dk[((x : Int) - 1).toNat]!)).setIfInBounds ((x : Int) - 1).toNat (dk[((x : Int)).toNat]!)) (D2 := (dk.setIfInBounds ((x : Int)).toNat (dk[((x : Int) - 1).toNat]!)).setIfInBounds ((x : Int) - 1).toNat (dk[((x : Int)).toNat]!)) h1 hS (hS.stop (Nat.le_trans (Nat.le_add_left 1 aa) hI.li) h2) h3 h4 (swp_is (x := (x : Int)) (y := (x : Int) - 1) rfl (by have := hI.li; have := hS.le; omega)) (by rw [if_neg (by omega)]) (by rw [if_pos (by omega)]; exact hB.stop2 (by omega) h15 h16) hB.sz), ((A.cut [0, 1, 2, 3, 8, 9, 10] rfl).trunc 1 rfl rfl rfl (by simp only [List.length_cons, List.length_nil] at h0; omega)).sayT (by rfl)⟩)
            (fun h16 A => N hX 3 A rfl rfl fun A => DRAWN hX hmo [] [(15, .tup [], [some (.row 26 27 nn 0 (fun z => oc ((eb.setIfInBounds ((q : Int)).toNat (eb[((q : Int) - 1).toNat]!))[z]!)))]), (17, .tup [], [some (.row 26 27 nn 0 (fun z => oc (((eb.setIfInBounds ((q : Int)).toNat (eb[((q : Int) - 1).toNat]!)).setIfInBounds ((q : Int) - 1).toNat (eb[((q : Int)).toNat]!))[z]!)))])] A rfl (ok_d (by have := hI.ls; have := hI.li; have := hI.ui; have := hS.le; have := hS.ub; have := hB.le; omega) <| ok_d (by have := hI.ls; have := hI.li; have := hI.ui; have := hS.le; have := hS.ub; have := hB.le; omega) <| ok_d (by have := hI.ls; have := hI.li; have := hI.ui; have := hS.le; have := hS.ub; have := hB.le; omega) <| ok_d (by have := hI.ls; have := hI.li; have := hI.ui; have := hS.le; have := hS.ub; have := hB.le; omega) <| ok_d (by have := hI.ls; have := hI.li; have := hI.ui; have := hS.le; have := hS.ub; have := hB.le; omega) <| ok_d (by have := hI.ls; have := hI.li; have := hI.ui; have := hS.le; have := hS.ub; have := hB.le; omega) <| ok_d (by have := hI.ls; have := hI.li; have := hI.ui; have := hS.le; have := hS.ub; have := hB.le; omega) <| ok_d (by have := hI.ls; have := hI.li; have := hI.ui; have := hS.le; have := hS.ub; have := hB.le; omega) <| ok_d (by have := hI.ls; have := hI.li; have := hI.ui; have := hS.le; have := hS.ub; have := hB.le; omega) <| ok_d (by have := hI.ls; have := hI.li; have := hI.ui; have := hS.le; have := hS.ub; have := hB.le; omega) <| okE_nil) rfl rfl (by kernel_rfl) ⟨strE (i := 0) (e := 26) (s := 27) (m := nn) (c := 0) hX (((q : Int)).toNat) (fun z => oc ((eb.setIfInBounds ((q : Int)).toNat (eb[((q : Int) - 1).toNat]!))[z]!)) rfl rfl rfl (by have := hI.ls; have := hI.li; have := hI.ui; have := hS.le; have := hS.ub; have := hB.le; omega) (fun z hz => by show oc _ = oc _; rw [aset_ne hz]) (by show _ = some (oc _); rw [aset_at (by (try simp only [asz]); rw [hB.sz, hn]; have := hI.ls; have := hI.li; have := hI.ui; have := hS.le; have := hS.ub; have := hB.le; omega)]; rfl), ⟨strE (i := 0) (e := 26) (s := 27) (m := nn) (c := 0) hX (((q : Int) - 1).toNat) (fun z => oc (((eb.setIfInBounds ((q : Int)).toNat (eb[((q : Int) - 1).toNat]!)).setIfInBounds ((q : Int) - 1).toNat (eb[((q : Int)).toNat]!))[z]!)) rfl rfl rfl (by have := hI.ls; have := hI.li; have := hI.ui; have := hS.le; have := hS.ub; have := hB.le; omega) (fun z hz => by show oc _ = oc _; rw [aset_ne hz]) (by show _ = some (oc _); rw [aset_at (by (try simp only [asz]); rw [hB.sz, hn]; have := hI.ls; have := hI.li; have := hI.ui; have := hS.le; have := hS.ub; have := hB.le; omega)]; rfl), trivial⟩⟩ trivial fun A => N hX 7 A rfl (ok_d (by have := hI.ls; have := hI.li; have := hI.ui; have := hS.le; have := hS.ub; have := hB.le; omega) <| okE_nil) fun A => ⟨q + 1, (eb.setIfInBounds ((q : Int)).toNat (eb[((q : Int) - 1).toNat]!)).setIfInBounds ((q : Int) - 1).toNat (eb[((q : Int)).toNat]!), _, (by omega), (hB.step (by omega) h15 h16 (swp_is (x := (q : Int)) (y := (q : Int) - 1) rfl (by have := hB.le; omega))), ((A.cut [0, 1, 2, 3, 8, 9, 10, 12] rfl).trunc 1 rfl rfl rfl (by simp only [List.length_cons, List.length_nil] at h0; omega)).sayT (by rfl)⟩))
           (fun h15 A => N hX 9 A rfl (ok_d (by have := hI.ls; have := hI.li; have := hI.ui; have := hS.le; have := hS.ub; have := hB.le; omega) <| okE_nil) fun A => ⟨s + 1, x, eb, _, (by have := hI.ls; omega), (hI.step (D1 := (dk.setIfInBounds ((x : Int)).toNat (dk[((x : Int) - 1).toNat]!)).setIfInBounds ((x : Int) - 1).toNat (dk[((x : Int)).toNat]!)) (D2 := (dk.setIfInBounds ((x : Int)).toNat (dk[((x : Int) - 1).toNat]!)).setIfInBounds ((x : Int) - 1).toNat (dk[((x : Int)).toNat]!)) h1 hS (hS.stop (Nat.le_trans (Nat.le_add_left 1 aa) hI.li) h2) h3 h4 (swp_is (x := (x : Int)) (y := (x : Int) - 1) rfl (by have := hI.li; have := hS.le; omega)) (by rw [if_neg (by omega)]) (by rw [if_pos (by omega)]; exact hB.stop1 h15) hB.sz), ((A.cut [0, 1, 2, 3, 8, 9, 10] rfl).trunc 1 rfl rfl rfl (by simp only [List.length_cons, List.length_nil] at h0; omega)).sayT (by rfl)⟩))
         (fun h14 A => N hX 9 A rfl (ok_d (by have := hI.ls; have := hI.li; have := hI.ui; have := hS.le; have := hS.ub; omega) <| okE_nil) fun A => ⟨s + 1, x, (dk.setIfInBounds ((x : Int)).toNat (dk[((x : Int) - 1).toNat]!)).setIfInBounds ((x : Int) - 1).toNat (dk[((x : Int)).toNat]!), _, (by have := hI.ls; omega), (hI.step (D1 := (dk.setIfInBounds ((x : Int)).toNat (dk[((x : Int) - 1).toNat]!)).setIfInBounds ((x : Int) - 1).toNat (dk[((x : Int)).toNat]!)) (D2 := (dk.setIfInBounds ((x : Int)).toNat (dk[((x : Int) - 1).toNat]!)).setIfInBounds ((x : Int) - 1).toNat (dk[((x : Int)).toNat]!)) h1 hS (hS.stop (Nat.le_trans (Nat.le_add_left 1 aa) hI.li) h2) h3 h4 (swp_is (x := (x : Int)) (y := (x : Int) - 1) rfl (by have := hI.li; have := hS.le; omega)) (by rw [if_neg (by omega)]) (by rw [if_neg (by omega)]) (by simp only [asz]; exact hI.sz)), ((A.cut [0, 1, 2, 3, 8, 9, 10] rfl).trunc 1 rfl rfl rfl (by simp only [List.length_cons, List.length_nil] at h0; omega)).sayT (by rfl)⟩))))))
   (fun h1 A => N hX 9 A rfl rfl fun A => RETN hX A rfl rfl rfl h0 rfl rfl rfl rfl (by rw [hI.fin h1]; rfl) (by rw [hI.fin h1]; rfl))
theorem pins_i {xaa xb : Int} (d : Array O) (nn aa b : Nat) (eaa : xaa = (aa : Int)) (eb : xb = (b : Int)) (hn : d.size = nn) (hs : nn ≤ 1000000) (ha : aa < b) (hb : b ≤ nn) : Fn Tryd.prog 68 [.sl 0 nn 0, .int .i64 xaa, .int .i64 xb, .fn 35 []] [some (.row 26 27 nn 0 (fun z => oc (d[z]!)))] (Rt (.bool ((Go.Sort.partialInsertionSort lessO d aa b).2)) [some (.row 26 27 nn 0 (fun z => oc (((Go.Sort.partialInsertionSort lessO d aa b).1)[z]!)))]) := by
  subst eaa; subst eb; exact pins_ d nn aa b hn hs ha hb
end Go.Proofs.YtbghlhhoafkmgaaDoor
/- How many bits. -/
namespace Go.Proofs.YtbghlhhoafkmgaaDoor
open Go.RowKit
set_option linter.unusedVariables false
set_option linter.unusedSimpArgs false
set_option maxRecDepth 100000
set_option maxHeartbeats 2000000
set_option simprocs false
open Go.Sort
theorem fdivN (k m : Nat) : Int.fdiv (k : Int) ((m : Nat) : Int) = ((k / m : Nat) : Int) := by
  cases k with
  | zero => simp
  | succ k => rfl
theorem bl_div {n : Nat} (h : 256 ≤ n) : bitsLen n = 8 + bitsLen (n / 256) := by
  have h1 : n / 256 ≠ 0 := by omega
  have e : ∀ m, 2 ≤ m → Nat.log2 m = Nat.log2 (m / 2) + 1 := fun m hm => by rw [Nat.log2_def, if_pos hm]
  have e8 : n / 2 / 2 / 2 / 2 / 2 / 2 / 2 / 2 = n / 256 := by omega
  unfold bitsLen
  rw [if_neg (by omega), if_neg h1, e n (by omega), e (n / 2) (by omega), e (n / 2 / 2) (by omega), e (n / 2 / 2 / 2) (by omega), e (n / 2 / 2 / 2 / 2) (by omega), e (n / 2 / 2 / 2 / 2 / 2) (by omega), e (n / 2 / 2 / 2 / 2 / 2 / 2) (by omega), e (n / 2 / 2 / 2 / 2 / 2 / 2 / 2) (by omega), e8]
  omega
abbrev l8 : List UInt8 := [0, 1, 2, 2, 3, 3, 3, 3, 4, 4, 4, 4, 4, 4, 4, 4, 5, 5, 5, 5, 5, 5, 5, 5, 5, 5, 5, 5, 5, 5, 5, 5, 6, 6, 6, 6, 6, 6, 6, 6, 6, 6, 6, 6, 6, 6, 6, 6, 6, 6, 6, 6, 6, 6, 6, 6, 6, 6, 6, 6, 6, 6, 6, 6, 7, 7, 7, 7, 7, 7, 7, 7, 7, 7, 7, 7, 7, 7, 7, 7, 7, 7, 7, 7, 7, 7, 7, 7, 7, 7, 7, 7, 7, 7, 7, 7, 7, 7, 7, 7, 7, 7, 7, 7, 7, 7, 7, 7, 7, 7, 7, 7, 7, 7, 7, 7, 7, 7, 7, 7, 7, 7, 7, 7, 7, 7, 7, 7, 8, 8, 8, 8, 8, 8, 8, 8, 8, 8, 8, 8, 8, 8, 8, 8, 8, 8, 8, 8, 8, 8, 8, 8, 8, 8, 8, 8, 8, 8, 8, 8, 8, 8, 8, 8, 8, 8, 8, 8, 8, 8, 8, 8, 8, 8, 8, 8, 8, 8, 8, 8, 8, 8, 8, 8, 8, 8, 8, 8, 8, 8, 8, 8, 8, 8, 8, 8, 8, 8, 8, 8, 8, 8, 8, 8, 8, 8, 8, 8, 8, 8, 8, 8, 8, 8, 8, 8, 8, 8, 8, 8, 8, 8, 8, 8, 8, 8, 8, 8, 8, 8, 8, 8, 8, 8, 8, 8, 8, 8, 8, 8, 8, 8, 8, 8, 8, 8, 8, 8, 8, 8, 8, 8, 8, 8, 8, 8]
theorem l8_is : ∀ n : Fin 256, (l8.getD n.val 0).toNat = bitsLen n.val := by decide +kernel
theorem wu8 {n : Nat} (h : n < 256) : IntKind.wrap .u8 (n : Int) = (n : Int) := by simp only [IntKind.wrap, IntKind.signed, IntKind.bits]; simp; omega
theorem wu64 {n : Nat} (h : n < 18446744073709551616) : IntKind.wrap .u64 (n : Int) = (n : Int) := by simp only [IntKind.wrap, IntKind.signed, IntKind.bits]; simp; omega
theorem tab_is {n : Nat} (h : n < 256) : IntKind.wrap .i64 ((((l8.getD ((IntKind.wrap .u8 (n : Int))).toNat 0).toNat : Nat)) : Int) = ((bitsLen n : Nat) : Int) := by
  rw [wu8 h, Int.toNat_natCast]
  have := l8_is ⟨n, h⟩
  simp only at this
  rw [this, wrap_in]
  have : bitsLen n ≤ 8 := by
    unfold bitsLen
    split
    · omega
    · next h0 => have := (Nat.log2_lt (n := n) (k := 8) h0).2 (by omega); omega
  omega
theorem bl_le {n : Nat} (h : n < 1048576) : bitsLen n ≤ 20 := by
  unfold bitsLen
  split
  · omega
  · next h0 => have := (Nat.log2_lt (n := n) (k := 20) h0).2 (by omega); omega
theorem bl_pow {n : Nat} (h : 0 < n) : 2 ^ bitsLen n ≤ 2 * n := by
  unfold bitsLen
  rw [if_neg (by omega), Nat.pow_succ]
  have := Nat.log2_self_le (n := n) (by omega)
  omega
theorem f16 (k : Nat) : Int.fdiv (k : Int) (2 ^ min (16 : Int).toNat (IntKind.bits .u64)) = ((k / 65536 : Nat) : Int) := fdivN k 65536
theorem f8 (k : Nat) : Int.fdiv (k : Int) (2 ^ min (8 : Int).toNat (IntKind.bits .u64)) = ((k / 256 : Nat) : Int) := fdivN k 256
theorem l8_len : (l8.length : Int) = 256 := by decide +kernel
theorem len64_ (k : Nat) (hk : k ≤ 1000000) : Fn Tryd.prog 72 [.int .u64 (k : Int)] [] (Rt (.int .i64 ((Go.Sort.bitsLen k : Nat) : Int)) []) :=
 enterM (n := 25) (by kernel_rfl) Tryd.func72 rfl rfl rfl fun G w a h0 A => N hX 12 A rfl rfl fun A => forkD 4 A rfl
  (fun h1 A => N hX 8 A rfl (ok_d (by omega) <| okE_nil) fun A => N hX 11 A rfl rfl fun A => forkD 8 A rfl
   (fun h2 A => N hX 8 A rfl (ok_d (by omega) <| okE_nil) fun A => N hX 8 A rfl (ok_d (by omega) <| okE_nil) fun A => N hX 5 A rfl rfl fun A => forkD 14 A rfl
    (fun h3 A => N hX 8 A rfl (ok_d (by omega) <| okE_nil) fun A => N hX 7 A rfl (ok_d (by omega) <| okE_nil) fun A => N hX 11 A rfl (ok_d (by omega) <| ok_d (by omega) <| okE_nil) fun A => RETN hX A rfl rfl rfl h0 rfl rfl rfl rfl (absurd h1 (by omega)) rfl)
    (fun h3 A => N hX 15 A rfl (ok_d (by omega) <| ok_d (by omega) <| okE_nil) fun A => RETN hX A rfl rfl rfl h0 rfl rfl rfl rfl (absurd h1 (by omega)) rfl))
   (fun h2 A => N hX 10 A rfl rfl fun A => forkD 14 A rfl
    (fun h4 A => N hX 8 A rfl (ok_d (by omega) <| okE_nil) fun A => N hX 7 A rfl (ok_d (by omega) <| okE_nil) fun A => N hX 11 A rfl (ok_d (by omega) <| ok_d (by omega) <| okE_nil) fun A => RETN hX A rfl rfl rfl h0 rfl rfl rfl rfl (absurd h1 (by omega)) rfl)
    (fun h4 A => N hX 15 A rfl (ok_d (by omega) <| ok_d (by omega) <| okE_nil) fun A => RETN hX A rfl rfl rfl h0 rfl rfl rfl rfl (absurd h1 (by omega)) rfl)))
  (fun h1 A => N hX 10 A rfl rfl fun A => forkD 8 A rfl
   (fun h5 A => N hX 8 A rfl (ok_d (by omega) <| okE_nil) fun A => N hX 8 A rfl (ok_d (by omega) <| okE_nil) fun A => N hX 5 A rfl rfl fun A => forkD 14 A rfl
    (fun h6 A => N hX 8 A rfl (ok_d (by rw [f16] at h6; omega) <| okE_nil) fun A => N hX 7 A rfl (ok_d (by rw [f16] at h6; omega) <| okE_nil) fun A => N hX 11 A rfl (ok_d (by rw [f16] at h6; omega) <| ok_d (by rw [f16] at h6; omega) <| okE_nil) fun A => RETN hX A rfl rfl rfl h0 rfl rfl rfl rfl (absurd h6 (by rw [f16]; omega)) rfl)
    (fun h6 A => N hX 15 A rfl (ok_d (by (try rw [f16]); (try rw [f8]); rw [wu8 (by omega)]; show _ ∧ _ < (l8.length : Int); rw [l8_len]; omega) <| ok_d (by (try rw [f16]); (try rw [f8]); erw [tab_is (by omega)]; have := bl_le (n := k) (by omega); have h8 : ∀ m, m < 256 → bitsLen m ≤ 20 := fun m hm => bl_le (by omega); (try have := h8 (k / 65536) (by omega)); (try have := h8 (k / 256) (by omega)); omega) <| okE_nil) fun A => RETN hX A rfl rfl rfl h0 rfl rfl rfl rfl (by rw [f16]; erw [tab_is (by omega)]; rw [bl_div (n := k) (by omega), bl_div (n := k / 256) (by omega), Nat.div_div_eq_div_mul, show 256 * 256 = 65536 from rfl]; show SV.int _ _ = SV.int _ _; congr 1 <;> omega) rfl))
   (fun h5 A => N hX 10 A rfl rfl fun A => forkD 14 A rfl
    (fun h7 A => N hX 8 A rfl (ok_d (by omega) <| okE_nil) fun A => N hX 7 A rfl (ok_d (by omega) <| okE_nil) fun A => N hX 11 A rfl (ok_d (by (try rw [f16]); (try rw [f8]); rw [wu8 (by omega)]; show _ ∧ _ < (l8.length : Int); rw [l8_len]; omega) <| ok_d (by (try rw [f16]); (try rw [f8]); erw [tab_is (by omega)]; have := bl_le (n := k) (by omega); have h8 : ∀ m, m < 256 → bitsLen m ≤ 20 := fun m hm => bl_le (by omega); (try have := h8 (k / 65536) (by omega)); (try have := h8 (k / 256) (by omega)); omega) <| okE_nil) fun A => RETN hX A rfl rfl rfl h0 rfl rfl rfl rfl (by rw [f8]; erw [tab_is (by omega)]; rw [bl_div (n := k) (by omega)] <;> (show SV.int _ _ = SV.int _ _; congr 1 <;> omega)) rfl)
    (fun h7 A => N hX 15 A rfl (ok_d (by (try rw [f16]); (try rw [f8]); rw [wu8 (by omega)]; show _ ∧ _ < (l8.length : Int); rw [l8_len]; omega) <| ok_d (by (try rw [f16]); (try rw [f8]); erw [tab_is (by omega)]; have := bl_le (n := k) (by omega); have h8 : ∀ m, m < 256 → bitsLen m ≤ 20 := fun m hm => bl_le (by omega); (try have := h8 (k / 65536) (by omega)); (try have := h8 (k / 256) (by omega)); omega) <| okE_nil) fun A => RETN hX A rfl rfl rfl h0 rfl rfl rfl rfl (by erw [tab_is (by omega)] <;> (show SV.int _ _ = SV.int _ _; congr 1 <;> omega)) rfl)))
theorem len_ (k : Nat) (hk : k ≤ 1000000) : Fn Tryd.prog 54 [.int .u64 (k : Int)] [] (Rt (.int .i64 ((Go.Sort.bitsLen k : Nat) : Int)) []) :=
 enterM (n := 8) (by kernel_rfl) Tryd.func54 rfl rfl rfl fun G w a h0 A => N hX 12 A rfl rfl fun A => CALL1 [] (len64_ k (by omega)) A rfl rfl rfl rfl rfl rfl rfl fun A => N hX 4 A rfl rfl fun A => RETN hX A rfl rfl rfl h0 rfl rfl rfl rfl rfl rfl
end Go.Proofs.YtbghlhhoafkmgaaDoor
/- Patterns are broken. -/
namespace Go.Proofs.YtbghlhhoafkmgaaDoor
open Go.RowKit
set_option linter.unusedVariables false
set_option linter.unusedSimpArgs false
set_option maxRecDepth 100000
set_option maxHeartbeats 2000000
set_option simprocs false
open Go.Sort
theorem u_nat (a : UInt64) : BitVec.ofInt (IntKind.bits .u64) ((a.toNat : Nat) : Int) = a.toBitVec := by
  apply BitVec.eq_of_toNat_eq
  show (BitVec.ofInt 64 ((a.toNat : Nat) : Int)).toNat = a.toNat
  rw [BitVec.toNat_ofInt, show ((2 ^ 64 : Nat) : Int) = 18446744073709551616 from rfl]
  have := a.toNat_lt
  omega
theorem u_xor (a b : UInt64) : IntKind.wrap .u64 (((BitVec.ofInt (IntKind.bits .u64) ((a.toNat : Nat) : Int) ^^^ BitVec.ofInt (IntKind.bits .u64) ((b.toNat : Nat) : Int)).toNat : Nat) : Int) = (((a ^^^ b).toNat : Nat) : Int) := by
  rw [u_nat, u_nat]
  have := (a ^^^ b).toNat_lt
  exact wu64 this
theorem u_shl (a : UInt64) (k : Nat) (s : UInt64) (hs : a <<< s = UInt64.ofNat (a.toNat * 2 ^ k)) : IntKind.wrap .u64 (((a.toNat : Nat) : Int) * ((2 ^ k : Nat) : Int)) = (((a <<< s).toNat : Nat) : Int) := by
  rw [hs, UInt64.toNat_ofNat']
  simp only [IntKind.wrap, IntKind.signed, IntKind.bits]
  simp
theorem u_shl13 (a : UInt64) : IntKind.wrap .u64 (((a.toNat : Nat) : Int) * 2 ^ min (13 : Int).toNat (IntKind.bits .u64)) = (((a <<< 13).toNat : Nat) : Int) := by
  have h : (a <<< 13).toNat = a.toNat * 8192 % 18446744073709551616 := by
    rw [UInt64.toNat_shiftLeft, Nat.shiftLeft_eq]; rfl
  rw [h]
  simp only [IntKind.wrap, IntKind.signed, IntKind.bits]
  show ((a.toNat : Nat) : Int) * ((8192 : Nat) : Int) % ((18446744073709551616 : Nat) : Int) = _
  omega
theorem u_shl17 (a : UInt64) : IntKind.wrap .u64 (((a.toNat : Nat) : Int) * 2 ^ min (17 : Int).toNat (IntKind.bits .u64)) = (((a <<< 17).toNat : Nat) : Int) := by
  have h : (a <<< 17).toNat = a.toNat * 131072 % 18446744073709551616 := by
    rw [UInt64.toNat_shiftLeft, Nat.shiftLeft_eq]; rfl
  rw [h]
  simp only [IntKind.wrap, IntKind.signed, IntKind.bits]
  show ((a.toNat : Nat) : Int) * ((131072 : Nat) : Int) % ((18446744073709551616 : Nat) : Int) = _
  omega
theorem u_shr7 (a : UInt64) : Int.fdiv ((a.toNat : Nat) : Int) (2 ^ min (7 : Int).toNat (IntKind.bits .u64)) = (((a >>> 7).toNat : Nat) : Int) := by
  have h : (a >>> 7).toNat = a.toNat / 128 := by
    rw [UInt64.toNat_shiftRight, Nat.shiftRight_eq_div_pow]; rfl
  rw [h]
  exact fdivN _ 128
def oth (r : UInt64) (m : Nat) : Nat := r.toNat &&& (m - 1)
theorem oth_is (r : UInt64) {m : Nat} (h0 : 0 < m) (h : m ≤ 2097152) : IntKind.wrap .i64 (IntKind.wrap .u64 (((BitVec.ofInt (IntKind.bits .u64) ((r.toNat : Nat) : Int) &&& BitVec.ofInt (IntKind.bits .u64) (IntKind.wrap .u64 (((m : Nat) : Int) - 1))).toNat : Nat) : Int)) = ((oth r m : Nat) : Int) := by
  have e : IntKind.wrap .u64 (((m : Nat) : Int) - 1) = (((UInt64.ofNat (m - 1)).toNat : Nat) : Int) := by
    rw [UInt64.toNat_ofNat', show ((m : Nat) : Int) - 1 = ((m - 1 : Nat) : Int) by omega, wu64 (by omega)]
    congr 1
    rw [Nat.mod_eq_of_lt (by omega)]
  rw [e, u_nat, u_nat]
  show IntKind.wrap .i64 (IntKind.wrap .u64 (((r.toBitVec &&& (UInt64.ofNat (m - 1)).toBitVec : BitVec 64).toNat : Nat) : Int)) = _
  rw [BitVec.toNat_and]
  have e2 : (UInt64.ofNat (m - 1)).toBitVec.toNat = m - 1 := by
    show (UInt64.ofNat (m - 1)).toNat = m - 1
    rw [UInt64.toNat_ofNat', Nat.mod_eq_of_lt (by omega)]
  rw [e2]
  have hle : r.toBitVec.toNat &&& (m - 1) ≤ m - 1 := Nat.and_le_right
  rw [wu64 (by omega), wrap_in (by omega)]
  rfl
theorem oth_lt (r : UInt64) {m : Nat} (h0 : 0 < m) : oth r m < m := by
  have : r.toNat &&& (m - 1) ≤ m - 1 := Nat.and_le_right
  unfold oth; omega
def bR (d : Array O) (aa len m idx : Nat) : Nat → UInt64 × Array O
  | 0 => (UInt64.ofNat len, d)
  | t + 1 => breakStep aa len m (bR d aa len m idx t) (idx + t)
structure BK (d : Array O) (aa len m idx t : Nat) (r : UInt64) (dk : Array O) : Prop where
  sz : dk.size = d.size
  le : t ≤ 3
  eq : bR d aa len m idx t = (r, dk)
theorem BK.step {d dk dw : Array O} {aa len m idx t o2 : Nat} {r : UInt64} (h : BK d aa len m idx t r dk) (h1 : t < 3) (ho : o2 = if oth (xorNext r) m ≥ len then oth (xorNext r) m - len else oth (xorNext r) m) (e : dw = swp dk (idx + t) (aa + o2)) : BK d aa len m idx (t + 1) (xorNext r) dw := by
  subst e
  refine ⟨by rw [swp_sz, h.sz], by omega, ?_⟩
  rw [bR, h.eq, breakStep]
  rw [ho]; rfl
theorem bk_done {d dk : Array O} {aa b : Nat} {r : UInt64} (hl : b - aa ≥ 8) (h : BK d aa (b - aa) (1 <<< bitsLen (b - aa)) (aa + (b - aa) / 4 * 2 - 1) 3 r dk) : breakPatterns d aa b = dk := by
  have := h.eq
  unfold breakPatterns
  simp only []
  rw [if_pos hl]
  have e : (bR d aa (b - aa) (1 <<< bitsLen (b - aa)) (aa + (b - aa) / 4 * 2 - 1) 3).2 = dk := by rw [this]
  exact e
theorem nxt_ (r : UInt64)  : Fn Tryd.prog 78 [.ptr 0 0] [some (.blk [.int .u64 (((r).toNat : Nat) : Int)])] (Rt (.int .u64 (((Go.Sort.xorNext r).toNat : Nat) : Int)) [some (.blk [.int .u64 (((Go.Sort.xorNext r).toNat : Nat) : Int)])]) :=
 enterM (n := 33) (by kernel_rfl) Tryd.func78 rfl rfl rfl fun G w a h0 A => N hX 6 A rfl rfl fun A => DRAWN hX hmo [] [] A rfl (ok_d (by omega) <| okE_nil) rfl rfl (by kernel_rfl) (effAll_nil _ _) trivial fun A => N hX 2 A rfl rfl fun A => DRAWN hX hmo [] [] A rfl (ok_d (by omega) <| okE_nil) rfl rfl (by kernel_rfl) (effAll_nil _ _) trivial fun A => N hX 2 A rfl rfl fun A => DRAWN hX hmo [] [] A rfl (ok_d (by omega) <| okE_nil) rfl rfl (by kernel_rfl) (effAll_nil _ _) trivial fun A => N hX 10 A rfl rfl fun A => RETN hX A rfl rfl rfl h0 rfl rfl rfl rfl (by rw [u_shl13, u_xor, u_shr7, u_xor, u_shl17, u_xor]; rfl) (by rw [u_shl13, u_xor, u_shr7, u_xor, u_shl17, u_xor]; rfl)
theorem npt {k : Nat} (h : bitsLen k ≤ 20) : IntKind.wrap .u64 (1 * 2 ^ min (((bitsLen k : Nat) : Int)).toNat (IntKind.bits .u64)) = ((1 <<< bitsLen k : Nat) : Int) := by
  rw [Int.toNat_natCast, Nat.min_eq_left (by show bitsLen k ≤ 64; omega), Nat.shiftLeft_eq]
  have h1 : 2 ^ bitsLen k ≤ 2 ^ 20 := Nat.pow_le_pow_right (by omega) h
  have e : (1 : Int) * 2 ^ bitsLen k = ((1 * 2 ^ bitsLen k : Nat) : Int) := by simp
  rw [e, wu64 (by omega)]
theorem len_w (k : Nat) (hk : k ≤ 1000000) {x : Int} (hx : x = (k : Int)) : Fn Tryd.prog 54 [.int .u64 x] [] (Rt (.int .i64 ((Go.Sort.bitsLen k : Nat) : Int)) []) := by subst hx; exact len_ k hk
theorem npow_ (k : Nat) (hk : k ≤ 1000000) : Fn Tryd.prog 77 [.int .i64 (k : Int)] [] (Rt (.int .u64 ((1 <<< Go.Sort.bitsLen k : Nat) : Int)) []) :=
 enterM (n := 7) (by kernel_rfl) Tryd.func77 rfl rfl rfl fun G w a h0 A => N hX 9 A rfl rfl fun A => CALL1 [] (len_w k (by omega) (wu64 (by omega))) A rfl rfl rfl rfl rfl rfl rfl fun A => N hX 5 A rfl (ok_d (by omega) <| okE_nil) fun A => RETN hX A rfl rfl rfl h0 rfl rfl rfl rfl (by have := bl_le (n := k) (by omega); rw [npt (by omega)]; rfl) rfl
theorem mod_pos (k : Nat) : 0 < 1 <<< bitsLen k := by rw [Nat.shiftLeft_eq, Nat.one_mul]; exact Nat.pow_pos (by omega)
theorem mod_le {k : Nat} (h0 : 0 < k) (h : k ≤ 1000000) : 1 <<< bitsLen k ≤ 2 * k := by rw [Nat.shiftLeft_eq, Nat.one_mul]; exact bl_pow h0
theorem brk_ (d : Array O) (nn aa b : Nat) (hn : d.size = nn) (hs : nn ≤ 1000000) (ha : aa + 12 < b) (hb : b ≤ nn) : Fn Tryd.prog 65 [.sl 0 nn 0, .int .i64 (aa : Int), .int .i64 (b : Int), .fn 35 []] [some (.row 26 27 nn 0 (fun z => oc (d[z]!)))] (Rt (.tup []) [some (.row 26 27 nn 0 (fun z => oc ((Go.Sort.breakPatterns d aa b)[z]!)))]) :=
 enterM (n := 67) (by kernel_rfl) Tryd.func65 rfl rfl rfl fun G w a h0 A => N hX 9 A rfl (ok_d (by omega) <| okE_nil) fun A => have A := A.say 8 (.int .i64 ((b - aa : Nat) : Int)) rfl (by congr 1; omega); N hX 5 A rfl rfl fun A => forkD 17 A rfl
  (fun h1 A => N hX 12 A rfl rfl fun A => CALL1 [] (npow_ (b - aa) (by omega)) A rfl rfl rfl rfl rfl rfl rfl fun A => N hX 15 A rfl (ok_d (by omega) <| ok_d (by have k0 := qdiv (k := 4) (aa := aa) (b := b) (by omega) (by omega); rw [show (b : Int) - (aa : Int) = ((b - aa : Nat) : Int) by omega] at k0; simp only [Int.cast_ofNat_Int] at k0; rw [k0]; omega) <| ok_d (by have k0 := qdiv (k := 4) (aa := aa) (b := b) (by omega) (by omega); rw [show (b : Int) - (aa : Int) = ((b - aa : Nat) : Int) by omega] at k0; simp only [Int.cast_ofNat_Int] at k0; rw [k0]; omega) <| ok_d (by have k0 := qdiv (k := 4) (aa := aa) (b := b) (by omega) (by omega); rw [show (b : Int) - (aa : Int) = ((b - aa : Nat) : Int) by omega] at k0; simp only [Int.cast_ofNat_Int] at k0; rw [k0]; omega) <| okE_nil) fun A => have A := A.say 11 (.int .i64 ((((aa + (b - aa) / 4 * 2 - 1) + 0 : Nat)) : Int)) rfl (by congr 1; have k0 := qdiv (k := 4) (aa := aa) (b := b) (by omega) (by omega); rw [show (b : Int) - (aa : Int) = ((b - aa : Nat) : Int) by omega] at k0; simp only [Int.cast_ofNat_Int] at k0; rw [k0]; omega); have A := A.sayH (H' := [some (.row 26 27 nn 0 (fun z => oc (d[z]!))), some (.blk [.int .u64 (((UInt64.ofNat (b - aa)).toNat : Nat) : Int)])]) (by rw [show IntKind.wrap .u64 ((b - aa : Nat) : Int) = (((UInt64.ofNat (b - aa)).toNat : Nat) : Int) by rw [UInt64.toNat_ofNat', Nat.mod_eq_of_lt (by omega), wu64 (by omega)]]); LOOP3 (fun (t : Nat) (r : UInt64) (dk : Array O) => [(0, .sl 0 nn 0), (1, .int .i64 (aa : Int)), (8, .int .i64 ((b - aa : Nat) : Int)), (9, .ptr 1 0), (10, .int .u64 ((1 <<< Go.Sort.bitsLen (b - aa) : Nat) : Int)), (11, .int .i64 (((aa + (b - aa) / 4 * 2 - 1) + t : Nat) : Int))]) (fun (t : Nat) (r : UInt64) (dk : Array O) => [some (.row 26 27 nn 0 (fun z => oc (dk[z]!))), some (.blk [.int .u64 (((r).toNat : Nat) : Int)])]) (fun (t : Nat) (r : UInt64) (dk : Array O) => BK d aa (b - aa) (1 <<< Go.Sort.bitsLen (b - aa)) (aa + (b - aa) / 4 * 2 - 1) t r dk) (fun (t : Nat) (r : UInt64) (dk : Array O) => 3 - t) 0 (UInt64.ofNat (b - aa)) d ⟨rfl, by omega, rfl⟩ ((A.cut [0, 1, 8, 9, 10, 11] rfl).trunc 2 rfl rfl rfl (by simp only [List.length_cons, List.length_nil] at h0; omega)) fun t r dk hI {G a w} A => N hX 13 A rfl (ok_d (by have := hI.le; omega) <| ok_d (by have k0 := qdiv (k := 4) (aa := aa) (b := b) (by omega) (by omega); rw [show (b : Int) - (aa : Int) = ((b - aa : Nat) : Int) by omega] at k0; simp only [Int.cast_ofNat_Int] at k0; rw [k0]; have := hI.le; omega) <| ok_d (by have k0 := qdiv (k := 4) (aa := aa) (b := b) (by omega) (by omega); rw [show (b : Int) - (aa : Int) = ((b - aa : Nat) : Int) by omega] at k0; simp only [Int.cast_ofNat_Int] at k0; rw [k0]; have := hI.le; omega) <| ok_d (by have k0 := qdiv (k := 4) (aa := aa) (b := b) (by omega) (by omega); rw [show (b : Int) - (aa : Int) = ((b - aa : Nat) : Int) by omega] at k0; simp only [Int.cast_ofNat_Int] at k0; rw [k0]; have := hI.le; omega) <| okE_nil) fun A => forkD 35 A rfl
    (fun h2 A => N hX 7 A rfl rfl fun A => CALL1 [1] (nxt_ r) A rfl rfl rfl rfl rfl rfl rfl fun A => N hX 9 A rfl rfl fun A => have A := A.say 12 (.int .i64 ((oth (Go.Sort.xorNext r) (1 <<< Go.Sort.bitsLen (b - aa)) : Nat) : Int)) rfl (by congr 1; exact oth_is _ (by have := mod_pos (b - aa); omega) (by have := mod_le (k := (b - aa)) (by omega) (by omega); omega)); N hX 6 A rfl rfl fun A => forkD 45 A rfl
     (fun h3 A => N hX 8 A rfl (ok_d (by have := oth_lt (Go.Sort.xorNext r) (mod_pos (b - aa)); have := mod_le (k := (b - aa)) (by omega) (by omega); have := hI.le; omega) <| okE_nil) fun A => DRAWN hX hmo [] [(17, .tup [], [some (.row 26 27 nn 0 (fun z => oc ((dk.setIfInBounds ((((aa + (b - aa) / 4 * 2 - 1) + t : Nat) : Int)).toNat (dk[((aa : Int) + (((oth (Go.Sort.xorNext r) (1 <<< Go.Sort.bitsLen (b - aa)) : Nat) : Int) - ((b - aa : Nat) : Int))).toNat]!))[z]!))), some (.blk [.int .u64 (((Go.Sort.xorNext r).toNat : Nat) : Int)])]), (19, .tup [], [some (.row 26 27 nn 0 (fun z => oc (((dk.setIfInBounds ((((aa + (b - aa) / 4 * 2 - 1) + t : Nat) : Int)).toNat (dk[((aa : Int) + (((oth (Go.Sort.xorNext r) (1 <<< Go.Sort.bitsLen (b - aa)) : Nat) : Int) - ((b - aa : Nat) : Int))).toNat]!)).setIfInBounds ((aa : Int) + (((oth (Go.Sort.xorNext r) (1 <<< Go.Sort.bitsLen (b - aa)) : Nat) : Int) - ((b - aa : Nat) : Int))).toNat (dk[((((aa + (b - aa) / 4 * 2 - 1) + t : Nat) : Int)).toNat]!))[z]!))), some (.blk [.int .u64 (((Go.Sort.xorNext r).toNat : Nat) : Int)])])] A rfl (ok_d (by have := oth_lt (Go.Sort.xorNext r) (mod_pos (b - aa)); have := mod_le (k := (b - aa)) (by omega) (by omega); have := hI.le; omega) <| ok_d (by have := oth_lt (Go.Sort.xorNext r) (mod_pos (b - aa)); have := mod_le (k := (b - aa)) (by omega) (by omega); have := hI.le; omega) <| ok_d (by have := oth_lt (Go.Sort.xorNext r) (mod_pos (b - aa)); have := mod_le (k := (b - aa)) (by omega) (by omega); have := hI.le; omega) <| ok_d (by have := oth_lt (Go.Sort.xorNext r) (mod_pos (b - aa)); have := mod_le (k := (b - aa)) (by omega) (by omega); have := hI.le; omega) <| ok_d (by have := oth_lt (Go.Sort.xorNext r) (mod_pos (b - aa)); have := mod_le (k := (b - aa)) (by omega) (by omega); have := hI.le; omega) <| ok_d (by have := hI.le; omega) <| ok_d (by have := hI.le; omega) <| ok_d (by have := hI.le; omega) <| ok_d (by have := hI.le; omega) <| ok_d (by have := oth_lt (Go.Sort.xorNext r) (mod_pos (b - aa)); have := mod_le (k := (b - aa)) (by omega) (by omega); have := hI.le; omega) <| okE_nil) rfl rfl (by kernel_rfl) ⟨strE (i := 0) (e := 26) (s := 27) (m := nn) (c := 0) hX (((((aa + (b - aa) / 4 * 2 - 1) + t : Nat) : Int)).toNat) (fun z => oc ((dk.setIfInBounds ((((aa + (b - aa) / 4 * 2 - 1) + t : Nat) : Int)).toNat (dk[((aa : Int) + (((oth (Go.Sort.xorNext r) (1 <<< Go.Sort.bitsLen (b - aa)) : Nat) : Int) - ((b - aa : Nat) : Int))).toNat]!))[z]!)) rfl rfl rfl (by have := hI.le; omega) (fun z hz => by show oc _ = oc _; rw [aset_ne hz]) (by show _ = some (oc _); rw [aset_at (by (try simp only [asz]); rw [hI.sz, hn]; have := hI.le; omega)]; rfl), ⟨strE (i := 0) (e := 26) (s := 27) (m := nn) (c := 0) hX (((aa : Int) + (((oth (Go.Sort.xorNext r) (1 <<< Go.Sort.bitsLen (b - aa)) : Nat) : Int) - ((b - aa : Nat) : Int))).toNat) (fun z => oc (((dk.setIfInBounds ((((aa + (b - aa) / 4 * 2 - 1) + t : Nat) : Int)).toNat (dk[((aa : Int) + (((oth (Go.Sort.xorNext r) (1 <<< Go.Sort.bitsLen (b - aa)) : Nat) : Int) - ((b - aa : Nat) : Int))).toNat]!)).setIfInBounds ((aa : Int) + (((oth (Go.Sort.xorNext r) (1 <<< Go.Sort.bitsLen (b - aa)) : Nat) : Int) - ((b - aa : Nat) : Int))).toNat (dk[((((aa + (b - aa) / 4 * 2 - 1) + t : Nat) : Int)).toNat]!))[z]!)) rfl rfl rfl (by have := oth_lt (Go.Sort.xorNext r) (mod_pos (b - aa)); have := mod_le (k := (b - aa)) (by omega) (by omega); have := hI.le; omega) (fun z hz => by show oc _ = oc _; rw [aset_ne hz]) (by show _ = some (oc _); rw [aset_at (by (try simp only [asz]); rw [hI.sz, hn]; have := oth_lt (Go.Sort.xorNext r) (mod_pos (b - aa)); have := mod_le (k := (b - aa)) (by omega) (by omega); have := hI.le; omega)]; rfl), trivial⟩⟩ trivial fun A => N hX 7 A rfl (ok_d (by have := hI.le; omega) <| okE_nil) fun A => ⟨t + 1, Go.Sort.xorNext r, (dk.setIfInBounds ((((aa + (b - aa) / 4 * 2 - 1) + t : Nat) : Int)).toNat (dk[((aa : Int) + (((oth (Go.Sort.xorNext r) (1 <<< Go.Sort.bitsLen (b - aa)) : Nat) : Int) - ((b - aa : Nat) : Int))).toNat]!)).setIfInBounds ((aa : Int) + (((oth (Go.Sort.xorNext r) (1 <<< Go.Sort.bitsLen (b - aa)) : Nat) : Int) - ((b - aa : Nat) : Int))).toNat (dk[((((aa + (b - aa) / 4 * 2 - 1) + t : Nat) : Int)).toNat]!), _, (by have k0 := qdiv (k := 4) (aa := aa) (b := b) (by omega) (by omega); rw [show (b : Int) - (aa : Int) = ((b - aa : Nat) : Int) by omega] at k0; simp only [Int.cast_ofNat_Int] at k0; rw [k0] at h2; omega), (hI.step (o2 := (oth (Go.Sort.xorNext r) (1 <<< Go.Sort.bitsLen (b - aa)) - (b - aa))) (by have k0 := qdiv (k := 4) (aa := aa) (b := b) (by omega) (by omega); rw [show (b : Int) - (aa : Int) = ((b - aa : Nat) : Int) by omega] at k0; simp only [Int.cast_ofNat_Int] at k0; rw [k0] at h2; omega) (by rw [if_pos (by omega)]) (swp_is (by rfl) (by omega))), ((A.cut [0, 1, 8, 9, 10, 11] rfl).trunc 2 rfl rfl rfl (by simp only [List.length_cons, List.length_nil] at h0; omega)).sayT (by rw [show ((((aa + (b - aa) / 4 * 2 - 1) + (t + 1) : Nat)) : Int) = ((((aa + (b - aa) / 4 * 2 - 1) + t : Nat)) : Int) + 1 by omega] <;> rfl)⟩)
     (fun h3 A => N hX 3 A rfl rfl fun A => DRAWN hX hmo [] [(17, .tup [], [some (.row 26 27 nn 0 (fun z => oc ((dk.setIfInBounds ((((aa + (b - aa) / 4 * 2 - 1) + t : Nat) : Int)).toNat (dk[((aa : Int) + ((oth (Go.Sort.xorNext r) (1 <<< Go.Sort.bitsLen (b - aa)) : Nat) : Int)).toNat]!))[z]!))), some (.blk [.int .u64 (((Go.Sort.xorNext r).toNat : Nat) : Int)])]), (19, .tup [], [some (.row 26 27 nn 0 (fun z => oc (((dk.setIfInBounds ((((aa + (b - aa) / 4 * 2 - 1) + t : Nat) : Int)).toNat (dk[((aa : Int) + ((oth (Go.Sort.xorNext r) (1 <<< Go.Sort.bitsLen (b - aa)) : Nat) : Int)).toNat]!)).setIfInBounds ((aa : Int) + ((oth (Go.Sort.xorNext r) (1 <<< Go.Sort.bitsLen (b - aa)) : Nat) : Int)).toNat (dk[((((aa + (b - aa) / 4 * 2 - 1) + t : Nat) : Int)).toNat]!))[z]!))), some (.blk [.int .u64 (((Go.Sort.xorNext r).toNat : Nat) : Int)])])] A rfl (ok_d (by have := oth_lt (Go.Sort.xorNext r) (mod_pos (b - aa)); have := mod_le (k := (b - aa)) (by omega) (by omega); have := hI.le; omega) <| ok_d (by have := oth_lt (Go.Sort.xorNext r) (mod_pos (b - aa)); have := mod_le (k := (b - aa)) (by omega) (by omega); have := hI.le; omega) <| ok_d (by have := oth_lt (Go.Sort.xorNext r) (mod_pos (b - aa)); have := mod_le (k := (b - aa)) (by omega) (by omega); have := hI.le; omega) <| ok_d (by have := oth_lt (Go.Sort.xorNext r) (mod_pos (b - aa)); have := mod_le (k := (b - aa)) (by omega) (by omega); have := hI.le; omega) <| ok_d (by have := oth_lt (Go.Sort.xorNext r) (mod_pos (b - aa)); have := mod_le (k := (b - aa)) (by omega) (by omega); have := hI.le; omega) <| ok_d (by have := hI.le; omega) <| ok_d (by have := hI.le; omega) <| ok_d (by have := hI.le; omega) <| ok_d (by have := hI.le; omega) <| ok_d (by have := oth_lt (Go.Sort.xorNext r) (mod_pos (b - aa)); have := mod_le (k := (b - aa)) (by omega) (by omega); have := hI.le; omega) <| okE_nil) rfl rfl (by kernel_rfl) ⟨strE (i := 0) (e := 26) (s := 27) (m := nn) (c := 0) hX (((((aa + (b - aa) / 4 * 2 - 1) + t : Nat) : Int)).toNat) (fun z => oc ((dk.setIfInBounds ((((aa + (b - aa) / 4 * 2 - 1) + t : Nat) : Int)).toNat (dk[((aa : Int) + ((oth (Go.Sort.xorNext r) (1 <<< Go.Sort.bitsLen (b - aa)) : Nat) : Int)).toNat]!))[z]!)) rfl rfl rfl (by have := hI.le; omega) (fun z hz => by show oc _ = oc _; rw [aset_ne hz]) (by show _ = some (oc _); rw [aset_at (by (try simp only [asz]); rw [hI.sz, hn]; have := hI.le; omega)]; rfl), ⟨strE (i := 0) (e := 26) (s := 27) (m := nn) (c := 0) hX (((aa : Int) + ((oth (Go.Sort.xorNext r) (1 <<< Go.Sort.bitsLen (b - aa)) : Nat) : Int)).toNat) (fun z => oc (((dk.setIfInBounds ((((aa + (b - aa) / 4 * 2 - 1) + t : Nat) : Int)).toNat (dk[((aa : Int) + ((oth (Go.Sort.xorNext r) (1 <<< Go.Sort.bitsLen (b - aa)) : Nat) : Int)).toNat]!)).setIfInBounds ((aa : Int) + ((oth (Go.Sort.xorNext r) (1 <<< Go.Sort.bitsLen (b - aa)) : Nat) : Int)).toNat (dk[((((aa + (b - aa) / 4 * 2 - 1) + t : Nat) : Int)).toNat]!))[z]!)) rfl rfl rfl (by have := oth_lt (Go.Sort.xorNext r) (mod_pos (b - aa)); have := mod_le (k := (b - aa)) (by omega) (by omega); have := hI.le; omega) (fun z hz => by show oc _ = oc _; rw [aset_ne hz]) (by show _ = some (oc _); rw [aset_at (by (try simp only [asz]); rw [hI.sz, hn]; have := oth_lt (Go.Sort.xorNext r) (mod_pos (b - aa)); have := mod_le (k := (b - aa)) (by omega) (by omega); have := hI.le; omega)]; rfl), trivial⟩⟩ trivial fun A => N hX 7 A rfl (ok_d (by have := hI.le; omega) <| okE_nil) fun A => ⟨t + 1, Go.Sort.xorNext r, (dk.setIfInBounds ((((aa + (b - aa) / 4 * 2 - 1) + t : Nat) : Int)).toNat (dk[((aa : Int) + ((oth (Go.Sort.xorNext r) (1 <<< Go.Sort.bitsLen (b - aa)) : Nat) : Int)).toNat]!)).setIfInBounds ((aa : Int) + ((oth (Go.Sort.xorNext r) (1 <<< Go.Sort.bitsLen (b - aa)) : Nat) : Int)).toNat (dk[((((aa + (b - aa) / 4 * 2 - 1) + t : Nat) : Int)).toNat]!), _, (by have k0 := qdiv (k := 4) (aa := aa) (b := b) (by omega) (by omega); rw [show (b : Int) - (aa : Int) = ((b - aa : Nat) : Int) by omega] at k0; simp only [Int.cast_ofNat_Int] at k0; rw [k0] at h2; omega), (hI.step (o2 := (oth (Go.Sort.xorNext r) (1 <<< Go.Sort.bitsLen (b - aa)))) (by have k0 := qdiv (k := 4) (aa := aa) (b := b) (by omega) (by omega); rw [show (b : Int) - (aa : Int) = ((b - aa : Nat) : Int) by omega] at k0; simp only [Int.cast_ofNat_Int] at k0; rw [k0] at h2; omega) (by rw [if_neg (by omega)]) (swp_is (by rfl) (by omega))), ((A.cut [0, 1, 8, 9, 10, 11] rfl).trunc 2 rfl rfl rfl (by simp only [List.length_cons, List.length_nil] at h0; omega)).sayT (by rw [show ((((aa + (b - aa) / 4 * 2 - 1) + (t + 1) : Nat)) : Int) = ((((aa + (b - aa) / 4 * 2 - 1) + t : Nat)) : Int) + 1 by omega] <;> rfl)⟩))
    (fun h2 A => N hX 2 A rfl rfl fun A => ENDN (RETN hX A rfl rfl rfl h0 rfl rfl rfl rfl rfl (by have e : t = 3 := (by have := hI.le; have k0 := qdiv (k := 4) (aa := aa) (b := b) (by omega) (by omega); rw [show (b : Int) - (aa : Int) = ((b - aa : Nat) : Int) by omega] at k0; simp only [Int.cast_ofNat_Int] at k0; rw [k0] at h2; omega); subst e; rw [bk_done (by omega) hI]; rfl))))
  (fun h1 A => N hX 2 A rfl rfl fun A => ENDN (RETN hX A rfl rfl rfl h0 rfl rfl rfl rfl rfl (absurd h1 (by omega))))
theorem brk_i {xaa xb : Int} (d : Array O) (nn aa b : Nat) (eaa : xaa = (aa : Int)) (eb : xb = (b : Int)) (hn : d.size = nn) (hs : nn ≤ 1000000) (ha : aa + 12 < b) (hb : b ≤ nn) : Fn Tryd.prog 65 [.sl 0 nn 0, .int .i64 xaa, .int .i64 xb, .fn 35 []] [some (.row 26 27 nn 0 (fun z => oc (d[z]!)))] (Rt (.tup []) [some (.row 26 27 nn 0 (fun z => oc ((Go.Sort.breakPatterns d aa b)[z]!)))]) := by
  subst eaa; subst eb; exact brk_ d nn aa b hn hs ha hb
end Go.Proofs.YtbghlhhoafkmgaaDoor
/- The sort: what it comes to. -/
namespace Go.Proofs.YtbghlhhoafkmgaaDoor
open Go.RowKit
set_option linter.unusedVariables false
set_option linter.unusedSimpArgs false
set_option maxRecDepth 100000
set_option maxHeartbeats 2000000
set_option simprocs false
open Go.Sort
theorem lx_irr (p : O) : ∀ (f i : Nat), lx p p f i = false
  | 0, _ => rfl
  | f + 1, i => by unfold lx; rw [if_pos rfl]; exact lx_irr p f (i + 1)
theorem lx_tr (p q r : O) : ∀ (f i : Nat), lx p q f i = true → lx q r f i = true → lx p r f i = true
  | 0, _, h, _ => by cases h
  | f + 1, i, h1, h2 => by
    unfold lx at *
    split at h1
    · next e1 =>
      split at h2
      · next e2 => rw [if_pos (e1.trans e2)]; exact lx_tr p q r f (i + 1) h1 h2
      · next e2 => rw [if_neg (fun e => e2 (e1 ▸ e))]; have := of_decide_eq_true h2; exact decide_eq_true (by omega)
    · next e1 =>
      have h1 := of_decide_eq_true h1
      split at h2
      · next e2 => rw [if_neg (fun e => e1 (e2 ▸ e))]; exact decide_eq_true (by omega)
      · next e2 => have h2 := of_decide_eq_true h2; rw [if_neg (by omega)]; exact decide_eq_true (by omega)
theorem lx_ntr (p q r : O) : ∀ (f i : Nat), lx p q f i = false → lx q r f i = false → lx p r f i = false
  | 0, _, _, _ => rfl
  | f + 1, i, h1, h2 => by
    unfold lx at *
    split at h1
    · next e1 =>
      split at h2
      · next e2 => rw [if_pos (e1.trans e2)]; exact lx_ntr p q r f (i + 1) h1 h2
      · next e2 => rw [if_neg (fun e => e2 (e1 ▸ e))]; have := of_decide_eq_false h2; exact decide_eq_false (by omega)
    · next e1 =>
      have h1 := of_decide_eq_false h1
      split at h2
      · next e2 => rw [if_neg (fun e => e1 (e2 ▸ e))]; exact decide_eq_false (by omega)
      · next e2 => have h2 := of_decide_eq_false h2; rw [if_neg (by omega)]; exact decide_eq_false (by omega)
theorem swoO : SWO lessO := ⟨fun x => lx_irr x 27 0, fun x y z => lx_tr x y z 27 0, fun x y z => lx_ntr x y z 27 0⟩
theorem ssz (lt : O → O → Bool) : ∀ (j : Nat) (d : Array O), (shiftDown lt j d).size = d.size
  | 0, d => rfl
  | j + 1, d => by unfold shiftDown; split <;> first | rfl | rw [ssz lt j, swp_sz]
theorem usz (lt : O → O → Bool) (b : Nat) : ∀ (n j : Nat) (d : Array O), b - j = n → (shiftUp lt b j d).size = d.size
  | 0, j, d, h => by unfold shiftUp; rw [if_neg (by omega)]
  | n + 1, j, d, h => by
    unfold shiftUp
    rw [if_pos (by omega)]
    split
    · rfl
    · rw [usz lt b n _ _ (by omega), swp_sz]
theorem pisz (aa b : Nat) : ∀ (s i : Nat) (d : Array O), (partialIns lessO aa b s i d).1.size = d.size
  | 0, i, d => rfl
  | s + 1, i, d => by
    rw [partialIns_succ]
    split
    · rfl
    · split
      · rfl
      · rw [pisz aa b s, fixUp]
        have e : ∀ k (d : Array O), (fixDown lessO aa k d).size = d.size := fun k d => by unfold fixDown; split <;> first | rw [ssz] | rfl
        split
        · rw [usz _ _ _ _ _ rfl, e, swp_sz]
        · rw [e, swp_sz]
theorem pins_sz (d : Array O) (aa b : Nat) : (partialInsertionSort lessO d aa b).1.size = d.size := pisz aa b 5 (aa + 1) d
theorem part_rng {d : Array O} {aa b pv : Nat} (h1 : aa ≤ pv) (h2 : pv < b) (h3 : b ≤ d.size) : aa ≤ (partition lessO d aa b pv).1 ∧ (partition lessO d aa b pv).1 < b ∧ (partition lessO d aa b pv).2.2.size = d.size := by
  obtain ⟨k1, k2, k3, _⟩ := partition_holds lessO swoO d aa b pv h1 h2 h3
  exact ⟨k1, k2, k3.1⟩
theorem parte_rng {d : Array O} {aa b pv : Nat} (h1 : aa ≤ pv) (h2 : pv < b) (h3 : b ≤ d.size) : aa < (partitionEqual lessO d aa b pv).1 ∧ (partitionEqual lessO d aa b pv).1 ≤ b ∧ (partitionEqual lessO d aa b pv).2.size = d.size := by
  obtain ⟨k1, k2, k3, _⟩ := partEqLoop_spec lessO aa b _ (aa + 1) (b - 1) (swp d aa pv) (Nat.le_refl _) (Nat.lt_succ_self aa) (by omega) (by omega) (by rw [swp_sz]; exact h3) (fun t h1 h2 => by omega) (fun t h1 h2 => by omega)
  exact ⟨k1, k2, by have := k3.1; rw [swp_sz] at this; exact this⟩
structure PS where (a b lim : Nat) (wb wp : Bool) (d : Array O)
def PS.out (z : PS) : Array O := pdq lessO z.d z.a z.b z.lim z.wb z.wp
def PS.d1 (z : PS) : Array O := if !z.wb then breakPatterns z.d z.a z.b else z.d
def PS.l1 (z : PS) : Nat := if !z.wb then z.lim - 1 else z.lim
def pvD2 (z : PS) (d1 : Array O) : Array O := if (choosePivot lessO d1 z.a z.b).2 = .decreasing then reverseRange d1 z.a z.b else d1
def pvP (z : PS) (d1 : Array O) : Nat := if (choosePivot lessO d1 z.a z.b).2 = .decreasing then (z.b - 1) - ((choosePivot lessO d1 z.a z.b).1 - z.a) else (choosePivot lessO d1 z.a z.b).1
def pvH (z : PS) (d1 : Array O) : Hint := if (choosePivot lessO d1 z.a z.b).2 = .decreasing then Hint.increasing else (choosePivot lessO d1 z.a z.b).2
def pvI (z : PS) (d2 : Array O) (h : Hint) : Array O × Bool := if z.wb && z.wp && h = .increasing then partialInsertionSort lessO d2 z.a z.b else (d2, false)
theorem d1_sz (z : PS) (h1 : z.a ≤ z.b) (h2 : z.b ≤ z.d.size) : z.d1.size = z.d.size := by
  unfold PS.d1; split
  · exact (breakPatterns_holds z.d z.a z.b h1 h2).1
  · rfl
theorem d2_sz (z : PS) (d1 : Array O) (h1 : z.a ≤ z.b) (h2 : z.b ≤ d1.size) : (pvD2 z d1).size = d1.size := by
  unfold pvD2; split
  · exact (reverseRange_holds d1 z.a z.b h1 h2).1
  · rfl
theorem pi_sz (z : PS) (d2 : Array O) (h : Hint) : (pvI z d2 h).1.size = d2.size := by
  unfold pvI; split
  · exact pins_sz _ _ _
  · rfl
theorem pv_rng (z : PS) (d1 : Array O) (h : z.a < z.b) : z.a ≤ pvP z d1 ∧ pvP z d1 < z.b := by
  have := choosePivot_holds lessO d1 z.a z.b h
  unfold pvP; split <;> omega
def PS.d3 (z : PS) : Array O × Bool := pvI z (pvD2 z z.d1) (pvH z z.d1)
theorem pq_ins (z : PS) (h : z.b - z.a ≤ 12) : z.out = insertionSort lessO z.d z.a z.b := by unfold PS.out; rw [pdq, if_pos h]
theorem pq_heap (z : PS) (h : ¬ z.b - z.a ≤ 12) (h0 : z.lim = 0) : z.out = heapSort lessO z.d z.a z.b := by unfold PS.out; rw [pdq, if_neg h, if_pos h0]
theorem pq_unf (z : PS) (h : ¬ z.b - z.a ≤ 12) (h0 : z.lim ≠ 0) : z.out = if z.d3.2 then z.d3.1 else if z.a > 0 && !lessO (z.d3.1[z.a - 1]!) (z.d3.1[pvP z z.d1]!) then
    (match partitionEqual lessO z.d3.1 z.a z.b (pvP z z.d1) with
    | (mid, d4) => if _h : z.a < mid ∧ mid ≤ z.b then pdq lessO d4 mid z.b z.l1 z.wb z.wp else d4)
  else
    (match partition lessO z.d3.1 z.a z.b (pvP z z.d1) with
    | (mid, ap, d4) =>
      if _h : z.a ≤ mid ∧ mid < z.b then
        if mid - z.a < z.b - mid then
          pdq lessO (pdq lessO d4 z.a mid z.l1 true true) (mid + 1) z.b z.l1 (decide (mid - z.a ≥ (z.b - z.a) / 8)) ap
        else
          pdq lessO (pdq lessO d4 (mid + 1) z.b z.l1 true true) z.a mid z.l1 (decide (z.b - mid ≥ (z.b - z.a) / 8)) ap
      else d4) := by
  unfold PS.out
  rw [pdq, if_neg h, if_neg h0]; rfl
section
variable {z : PS} (h : ¬ z.b - z.a ≤ 12) (h0 : z.lim ≠ 0)
include h h0
theorem pq_pi (e : z.d3.2 = true) : z.out = z.d3.1 := by rw [pq_unf z h h0, if_pos e]
theorem d3_sz (hs : z.b ≤ z.d.size) : z.d3.1.size = z.d.size := by
  have e1 := d1_sz z (by omega) hs
  unfold PS.d3
  rw [pi_sz, d2_sz z _ (by omega) (by omega), e1]
theorem pq_eq (hs : z.b ≤ z.d.size) (e : z.d3.2 = false) (c : (decide (z.a > 0) && !lessO (z.d3.1[z.a - 1]!) (z.d3.1[pvP z z.d1]!)) = true) : z.out = PS.out ⟨(partitionEqual lessO z.d3.1 z.a z.b (pvP z z.d1)).1, z.b, z.l1, z.wb, z.wp, (partitionEqual lessO z.d3.1 z.a z.b (pvP z z.d1)).2⟩ := by
  have h3 := d3_sz h h0 hs
  have hp := pv_rng z z.d1 (by omega)
  have hr := parte_rng (d := z.d3.1) hp.1 hp.2 (by omega)
  rw [pq_unf z h h0, if_neg (by rw [e]; simp), if_pos c]
  show (if _h : z.a < (partitionEqual lessO z.d3.1 z.a z.b (pvP z z.d1)).1 ∧ (partitionEqual lessO z.d3.1 z.a z.b (pvP z z.d1)).1 ≤ z.b then _ else _) = _
  rw [dif_pos ⟨hr.1, hr.2.1⟩]; rfl
theorem pq_lt (hs : z.b ≤ z.d.size) (e : z.d3.2 = false) (c : (decide (z.a > 0) && !lessO (z.d3.1[z.a - 1]!) (z.d3.1[pvP z z.d1]!)) = false) (hl : (partition lessO z.d3.1 z.a z.b (pvP z z.d1)).1 - z.a < z.b - (partition lessO z.d3.1 z.a z.b (pvP z z.d1)).1) : z.out = PS.out ⟨(partition lessO z.d3.1 z.a z.b (pvP z z.d1)).1 + 1, z.b, z.l1, decide ((partition lessO z.d3.1 z.a z.b (pvP z z.d1)).1 - z.a ≥ (z.b - z.a) / 8), (partition lessO z.d3.1 z.a z.b (pvP z z.d1)).2.1, pdq lessO (partition lessO z.d3.1 z.a z.b (pvP z z.d1)).2.2 z.a (partition lessO z.d3.1 z.a z.b (pvP z z.d1)).1 z.l1 true true⟩ := by
  have h3 := d3_sz h h0 hs
  have hp := pv_rng z z.d1 (by omega)
  have hr := part_rng (d := z.d3.1) hp.1 hp.2 (by omega)
  rw [pq_unf z h h0, if_neg (by rw [e]; simp), if_neg (by rw [c]; simp)]
  rcases hq : partition lessO z.d3.1 z.a z.b (pvP z z.d1) with ⟨mid, ap, d4⟩
  rw [hq] at hr hl
  simp only [] at hr hl ⊢
  rw [dif_pos ⟨hr.1, hr.2.1⟩, if_pos hl]; rfl
theorem pq_ge (hs : z.b ≤ z.d.size) (e : z.d3.2 = false) (c : (decide (z.a > 0) && !lessO (z.d3.1[z.a - 1]!) (z.d3.1[pvP z z.d1]!)) = false) (hl : ¬ (partition lessO z.d3.1 z.a z.b (pvP z z.d1)).1 - z.a < z.b - (partition lessO z.d3.1 z.a z.b (pvP z z.d1)).1) : z.out = PS.out ⟨z.a, (partition lessO z.d3.1 z.a z.b (pvP z z.d1)).1, z.l1, decide (z.b - (partition lessO z.d3.1 z.a z.b (pvP z z.d1)).1 ≥ (z.b - z.a) / 8), (partition lessO z.d3.1 z.a z.b (pvP z z.d1)).2.1, pdq lessO (partition lessO z.d3.1 z.a z.b (pvP z z.d1)).2.2 ((partition lessO z.d3.1 z.a z.b (pvP z z.d1)).1 + 1) z.b z.l1 true true⟩ := by
  have h3 := d3_sz h h0 hs
  have hp := pv_rng z z.d1 (by omega)
  have hr := part_rng (d := z.d3.1) hp.1 hp.2 (by omega)
  rw [pq_unf z h h0, if_neg (by rw [e]; simp), if_neg (by rw [c]; simp)]
  rcases hq : partition lessO z.d3.1 z.a z.b (pvP z z.d1) with ⟨mid, ap, d4⟩
  rw [hq] at hr hl
  simp only [] at hr hl ⊢
  rw [dif_pos ⟨hr.1, hr.2.1⟩, if_neg hl]; rfl
end
/-- however it is cut, nothing is lost -/
theorem pdq_sz : ∀ (n : Nat) (z : PS), z.b - z.a ≤ n → z.a ≤ z.b → z.b ≤ z.d.size → z.out.size = z.d.size
  | n, z, hn, hab, hs => by
    by_cases h : z.b - z.a ≤ 12
    · rw [pq_ins z h]; exact (insertionSort_holds swoO z.d z.a z.b hab hs).1.1
    by_cases h0 : z.lim = 0
    · rw [pq_heap z h h0]; exact (heapSort_holds swoO z.d z.a z.b hab hs).1.1
    cases n with
    | zero => omega
    | succ n =>
    have h3 := d3_sz h h0 hs
    cases e : z.d3.2 with
    | true => rw [pq_pi h h0 e, h3]
    | false =>
    have hp := pv_rng z z.d1 (by omega)
    cases c : (decide (z.a > 0) && !lessO (z.d3.1[z.a - 1]!) (z.d3.1[pvP z z.d1]!)) with
    | true =>
      have hr := parte_rng (d := z.d3.1) hp.1 hp.2 (by omega)
      rw [pq_eq h h0 hs e c, pdq_sz n _ (by simp only []; omega) (by simp only []; omega) (by simp only []; omega)]
      simp only []; omega
    | false =>
      have hr := part_rng (d := z.d3.1) hp.1 hp.2 (by omega)
      by_cases hl : (partition lessO z.d3.1 z.a z.b (pvP z z.d1)).1 - z.a < z.b - (partition lessO z.d3.1 z.a z.b (pvP z z.d1)).1
      · have k := pdq_sz n ⟨z.a, (partition lessO z.d3.1 z.a z.b (pvP z z.d1)).1, z.l1, true, true, (partition lessO z.d3.1 z.a z.b (pvP z z.d1)).2.2⟩ (by simp only []; omega) (by simp only []; omega) (by simp only []; omega)
        unfold PS.out at k
        simp only [] at k
        rw [pq_lt h h0 hs e c hl, pdq_sz n _ (by simp only []; omega) (by simp only []; omega) (by simp only [k]; omega)]
        simp only [k]; omega
      · have k := pdq_sz n ⟨(partition lessO z.d3.1 z.a z.b (pvP z z.d1)).1 + 1, z.b, z.l1, true, true, (partition lessO z.d3.1 z.a z.b (pvP z z.d1)).2.2⟩ (by simp only []; omega) (by simp only []; omega) (by simp only []; omega)
        unfold PS.out at k
        simp only [] at k
        rw [pq_ge h h0 hs e c hl, pdq_sz n _ (by simp only []; omega) (by simp only []; omega) (by simp only [k]; omega)]
        simp only [k]; omega
theorem hint_dec {h : Hint} : (hintI h = 2) ↔ h = .decreasing := by cases h <;> decide
theorem hint_inc {h : Hint} : (hintI h == 1) = decide (h = .increasing) := by cases h <;> decide
end Go.Proofs.YtbghlhhoafkmgaaDoor
/- The sort. -/
namespace Go.Proofs.YtbghlhhoafkmgaaDoor
open Go.RowKit
set_option linter.unusedVariables false
set_option linter.unusedSimpArgs false
set_option maxRecDepth 100000
set_option maxHeartbeats 2000000
set_option simprocs false
open Go.Sort
theorem Sy.tell {P : Program} {n : Nat} {T : List (Nat × SV)} {H : Hp} {ks : List Nat} {G0 : Gr} {w0 : World} {G : Gr} {a : Act} {w : World} (A : Sy n T H ks G0 w0 G a w) (t : Nat) (y : SV) {x : SV} (h : look T t = some x) (e : nb x = nb y) : Sy n ((t, y) :: T) H ks G0 w0 G a w :=
  ⟨A.size, A.defers, fun s v hv => by
    unfold look at hv
    cases hb : Nat.beq t s with
    | true => rw [hb] at hv; cases hv; have := Nat.eq_of_beq_eq_true hb; subst this; rw [← den_nb, ← e, den_nb]; exact A.get t x h
    | false => rw [hb] at hv; exact A.get s v hv, A.mem, A.pre, A.own, A.mix⟩
structure PQ (d : Array O) (nn aa b lim : Nat) (z : PS) : Prop where
  sz : z.d.size = nn
  ab : z.a ≤ z.b
  bn : z.b ≤ nn
  ll : z.lim ≤ 100
  dl : z.b - z.a ≤ b - aa
  eq : z.out = pdq lessO d aa b lim true true
structure K1 (nn : Nat) (z : PS) (d1 : Array O) (l1 : Nat) : Prop where
  e1 : d1 = z.d1
  e2 : l1 = z.l1
  sz : d1.size = nn
  ll : l1 ≤ 100
structure K2 (nn : Nat) (z : PS) (d1 d2 : Array O) (pv : Nat) (hh : Int) : Prop where
  e1 : d2 = pvD2 z d1
  e2 : pv = pvP z d1
  e3 : hh = hintI (pvH z d1)
  sz : d2.size = nn
  lo : z.a ≤ pv
  hi : pv < z.b
structure K3 (nn : Nat) (z : PS) (d1 d2 d3 : Array O) : Prop where
  e : pvI z d2 (pvH z d1) = (d3, false)
  sz : d3.size = nn
section
variable {d d1 d2 d3 : Array O} {nn aa b lim l1 pv : Nat} {hh : Int} {z : PS}
theorem PQ.ins (hI : PQ d nn aa b lim z) (h : ((z.b - z.a : Nat) : Int) ≤ 12) : pdq lessO d aa b lim true true = insertionSort lessO z.d z.a z.b := by rw [← hI.eq, pq_ins z (by omega)]
theorem PQ.heap (hI : PQ d nn aa b lim z) (h : ¬ ((z.b - z.a : Nat) : Int) ≤ 12) (h0 : (z.lim : Int) = 0) : pdq lessO d aa b lim true true = heapSort lessO z.d z.a z.b := by rw [← hI.eq, pq_heap z (by omega) (by omega)]
theorem K1.t (hI : PQ d nn aa b lim z) (h : (!z.wb) = true) : K1 nn z (breakPatterns z.d z.a z.b) (z.lim - 1) := by
  have e : z.d1 = breakPatterns z.d z.a z.b := by unfold PS.d1; rw [if_pos h]
  have := hI.ll; have := hI.bn; have := hI.sz
  exact ⟨e.symm, by unfold PS.l1; rw [if_pos h], by rw [← e, d1_sz z hI.ab (by omega), hI.sz], by omega⟩
theorem K1.f (hI : PQ d nn aa b lim z) (h : (!z.wb) = false) : K1 nn z z.d z.lim := by
  have e : z.d1 = z.d := by unfold PS.d1; rw [if_neg (by rw [h]; simp)]
  exact ⟨e.symm, by unfold PS.l1; rw [if_neg (by rw [h]; simp)], hI.sz, hI.ll⟩
theorem K2.t (hI : PQ d nn aa b lim z) (h1 : ¬ ((z.b - z.a : Nat) : Int) ≤ 12) (k : K1 nn z d1 l1) (h : hintI (choosePivot lessO d1 z.a z.b).2 = 2) : K2 nn z d1 (reverseRange d1 z.a z.b) ((z.b - 1) - ((choosePivot lessO d1 z.a z.b).1 - z.a)) 1 := by
  have h' := hint_dec.1 h
  have e1 : pvD2 z d1 = reverseRange d1 z.a z.b := by unfold pvD2; rw [if_pos h']
  have e2 : pvP z d1 = (z.b - 1) - ((choosePivot lessO d1 z.a z.b).1 - z.a) := by unfold pvP; rw [if_pos h']
  have hp := pv_rng z d1 (by omega)
  have hs := d2_sz z d1 hI.ab (by rw [k.sz]; exact hI.bn)
  rw [e1] at hs
  rw [e2] at hp
  exact ⟨e1.symm, e2.symm, by unfold pvH; rw [if_pos h']; rfl, by rw [hs, k.sz], hp.1, hp.2⟩
theorem K2.f (hI : PQ d nn aa b lim z) (h1 : ¬ ((z.b - z.a : Nat) : Int) ≤ 12) (k : K1 nn z d1 l1) (h : hintI (choosePivot lessO d1 z.a z.b).2 ≠ 2) : K2 nn z d1 d1 (choosePivot lessO d1 z.a z.b).1 (hintI (choosePivot lessO d1 z.a z.b).2) := by
  have h' : ¬ (choosePivot lessO d1 z.a z.b).2 = .decreasing := fun e => h (hint_dec.2 e)
  have e1 : pvD2 z d1 = d1 := by unfold pvD2; rw [if_neg h']
  have e2 : pvP z d1 = (choosePivot lessO d1 z.a z.b).1 := by unfold pvP; rw [if_neg h']
  have hp := pv_rng z d1 (by omega)
  rw [e2] at hp
  exact ⟨e1.symm, e2.symm, by unfold pvH; rw [if_neg h'], k.sz, hp.1, hp.2⟩
theorem K3.c (k2 : K2 nn z d1 d2 pv hh) : ((z.wb && z.wp) && (hh == 1)) = (z.wb && z.wp && decide (pvH z d1 = .increasing)) := by rw [k2.e3, hint_inc]
theorem K3.t (k2 : K2 nn z d1 d2 pv hh) (h : ((z.wb && z.wp) && (hh == 1)) = true) (h2 : (partialInsertionSort lessO d2 z.a z.b).2 = false) : K3 nn z d1 d2 (partialInsertionSort lessO d2 z.a z.b).1 := by
  rw [K3.c k2] at h
  refine ⟨?_, by rw [pins_sz, k2.sz]⟩
  unfold pvI; rw [if_pos h, ← h2]
theorem K3.f (k2 : K2 nn z d1 d2 pv hh) (h : ((z.wb && z.wp) && (hh == 1)) = false) : K3 nn z d1 d2 d2 := by
  rw [K3.c k2] at h
  refine ⟨?_, k2.sz⟩
  unfold pvI; rw [if_neg (by rw [h]; simp)]
theorem PQ.pi (hI : PQ d nn aa b lim z) (h1 : ¬ ((z.b - z.a : Nat) : Int) ≤ 12) (h0 : (z.lim : Int) ≠ 0) (k1 : K1 nn z d1 l1) (k2 : K2 nn z d1 d2 pv hh) (h : ((z.wb && z.wp) && (hh == 1)) = true) (h2 : (partialInsertionSort lessO d2 z.a z.b).2 = true) : pdq lessO d aa b lim true true = (partialInsertionSort lessO d2 z.a z.b).1 := by
  rw [K3.c k2] at h
  have e : z.d3 = partialInsertionSort lessO d2 z.a z.b := by
    unfold PS.d3
    rw [← k1.e1, ← k2.e1]; unfold pvI; rw [if_pos h]
  rw [← hI.eq, pq_pi (by omega) (by omega) (by rw [e]; exact h2), e]
theorem PQ.dd (k1 : K1 nn z d1 l1) (k2 : K2 nn z d1 d2 pv hh) (k3 : K3 nn z d1 d2 d3) : z.d3 = (d3, false) := by
  unfold PS.d3; rw [← k1.e1, ← k2.e1, k3.e]
theorem PQ.prt (hI : PQ d nn aa b lim z) (k2 : K2 nn z d1 d2 pv hh) (k3 : K3 nn z d1 d2 d3) : z.a ≤ (partition lessO d3 z.a z.b pv).1 ∧ (partition lessO d3 z.a z.b pv).1 < z.b ∧ (partition lessO d3 z.a z.b pv).2.2.size = nn := by
  have := part_rng (d := d3) (aa := z.a) (b := z.b) (pv := pv) k2.lo k2.hi (by rw [k3.sz]; exact hI.bn)
  rw [k3.sz] at this; exact this
theorem PQ.cond (k3 : K3 nn z d1 d2 d3) (k2 : K2 nn z d1 d2 pv hh) (e3 : z.d3 = (d3, false)) (k1 : K1 nn z d1 l1) {c : Bool} (h : (decide ((z.a : Int) > 0) && !(decide (cmpO (d3[((z.a : Int) - 1).toNat]!) (d3[((pv : Int)).toNat]!) < 0))) = c) : (decide (z.a > 0) && !lessO (z.d3.1[z.a - 1]!) (z.d3.1[pvP z z.d1]!)) = c := by
  rw [e3, ← k1.e1, ← k2.e2, ← h, cmp_less, Int.toNat_natCast]
  by_cases hz : z.a > 0
  · rw [decide_eq_true hz, decide_eq_true (by omega), show ((z.a : Int) - 1).toNat = z.a - 1 by omega]
  · rw [decide_eq_false hz, decide_eq_false (by omega)]; rfl
theorem PQ.stepE (hI : PQ d nn aa b lim z) (h1 : ¬ ((z.b - z.a : Nat) : Int) ≤ 12) (h0 : (z.lim : Int) ≠ 0) (k1 : K1 nn z d1 l1) (k2 : K2 nn z d1 d2 pv hh) (k3 : K3 nn z d1 d2 d3) (c : (decide ((z.a : Int) > 0) && !(decide (cmpO (d3[((z.a : Int) - 1).toNat]!) (d3[((pv : Int)).toNat]!) < 0))) = true) :
    PQ d nn aa b lim ⟨(partitionEqual lessO d3 z.a z.b pv).1, z.b, l1, z.wb, z.wp, (partitionEqual lessO d3 z.a z.b pv).2⟩ := by
  have e3 := PQ.dd k1 k2 k3
  have hr := parte_rng (d := d3) (aa := z.a) (b := z.b) (pv := pv) k2.lo k2.hi (by rw [k3.sz]; exact hI.bn)
  rw [k3.sz] at hr
  have hd := hI.dl
  refine ⟨hr.2.2, hr.2.1, hI.bn, k1.ll, by simp only []; omega, ?_⟩
  rw [← hI.eq, pq_eq (z := z) (by omega) (by omega) (by rw [hI.sz]; exact hI.bn) (by rw [e3]) (PQ.cond k3 k2 e3 k1 c)]
  simp only [e3]
  rw [← k1.e1, ← k2.e2, ← k1.e2]
theorem PQ.stepL (hI : PQ d nn aa b lim z) (h1 : ¬ ((z.b - z.a : Nat) : Int) ≤ 12) (h0 : (z.lim : Int) ≠ 0) (k1 : K1 nn z d1 l1) (k2 : K2 nn z d1 d2 pv hh) (k3 : K3 nn z d1 d2 d3) (c : (decide ((z.a : Int) > 0) && !(decide (cmpO (d3[((z.a : Int) - 1).toNat]!) (d3[((pv : Int)).toNat]!) < 0))) = false) (hl : (((Go.Sort.partition lessO d3 z.a z.b pv).1 - z.a : Nat) : Int) < ((z.b - (Go.Sort.partition lessO d3 z.a z.b pv).1 : Nat) : Int)) :
    PQ d nn aa b lim ⟨(Go.Sort.partition lessO d3 z.a z.b pv).1 + 1, z.b, l1, decide ((((Go.Sort.partition lessO d3 z.a z.b pv).1 - z.a : Nat) : Int) ≥ (((z.b - z.a) / 8 : Nat) : Int)), (partition lessO d3 z.a z.b pv).2.1, pdq lessO (partition lessO d3 z.a z.b pv).2.2 z.a (Go.Sort.partition lessO d3 z.a z.b pv).1 l1 true true⟩ := by
  have e3 := PQ.dd k1 k2 k3
  have hr := hI.prt k2 k3
  have hd := hI.dl; have hbn := hI.bn
  have hs := pdq_sz _ ⟨z.a, (Go.Sort.partition lessO d3 z.a z.b pv).1, l1, true, true, (partition lessO d3 z.a z.b pv).2.2⟩ (Nat.le_refl _) hr.1 (by simp only []; omega)
  refine ⟨by simp only [PS.out] at hs; simp only []; rw [hs, hr.2.2], by simp only []; omega, hI.bn, k1.ll, by simp only []; omega, ?_⟩
  have hlt := pq_lt (z := z) (by omega) (by omega) (by rw [hI.sz]; exact hI.bn) (by rw [e3]) (PQ.cond k3 k2 e3 k1 c)
  simp only [e3] at hlt
  rw [← k1.e1, ← k2.e2, ← k1.e2] at hlt
  rw [← hI.eq, hlt (by omega)]
  rw [show decide ((((Go.Sort.partition lessO d3 z.a z.b pv).1 - z.a : Nat) : Int) ≥ (((z.b - z.a) / 8 : Nat) : Int)) = decide ((Go.Sort.partition lessO d3 z.a z.b pv).1 - z.a ≥ (z.b - z.a) / 8) by apply decide_eq_decide.2; omega]
theorem PQ.stepG (hI : PQ d nn aa b lim z) (h1 : ¬ ((z.b - z.a : Nat) : Int) ≤ 12) (h0 : (z.lim : Int) ≠ 0) (k1 : K1 nn z d1 l1) (k2 : K2 nn z d1 d2 pv hh) (k3 : K3 nn z d1 d2 d3) (c : (decide ((z.a : Int) > 0) && !(decide (cmpO (d3[((z.a : Int) - 1).toNat]!) (d3[((pv : Int)).toNat]!) < 0))) = false) (hl : ¬ (((Go.Sort.partition lessO d3 z.a z.b pv).1 - z.a : Nat) : Int) < ((z.b - (Go.Sort.partition lessO d3 z.a z.b pv).1 : Nat) : Int)) :
    PQ d nn aa b lim ⟨z.a, (Go.Sort.partition lessO d3 z.a z.b pv).1, l1, decide (((z.b - (Go.Sort.partition lessO d3 z.a z.b pv).1 : Nat) : Int) ≥ (((z.b - z.a) / 8 : Nat) : Int)), (partition lessO d3 z.a z.b pv).2.1, pdq lessO (partition lessO d3 z.a z.b pv).2.2 ((Go.Sort.partition lessO d3 z.a z.b pv).1 + 1) z.b l1 true true⟩ := by
  have e3 := PQ.dd k1 k2 k3
  have hr := hI.prt k2 k3
  have hd := hI.dl; have hbn := hI.bn
  have hs := pdq_sz _ ⟨(Go.Sort.partition lessO d3 z.a z.b pv).1 + 1, z.b, l1, true, true, (partition lessO d3 z.a z.b pv).2.2⟩ (Nat.le_refl _) (by simp only []; omega) (by simp only []; omega)
  refine ⟨by simp only [PS.out] at hs; simp only []; rw [hs, hr.2.2], hr.1, by simp only []; omega, k1.ll, by simp only []; omega, ?_⟩
  have hlt := pq_ge (z := z) (by omega) (by omega) (by rw [hI.sz]; exact hI.bn) (by rw [e3]) (PQ.cond k3 k2 e3 k1 c)
  simp only [e3] at hlt
  rw [← k1.e1, ← k2.e2, ← k1.e2] at hlt
  rw [← hI.eq, hlt (by omega)]
  rw [show decide (((z.b - (Go.Sort.partition lessO d3 z.a z.b pv).1 : Nat) : Int) ≥ (((z.b - z.a) / 8 : Nat) : Int)) = decide (z.b - (Go.Sort.partition lessO d3 z.a z.b pv).1 ≥ (z.b - z.a) / 8) by apply decide_eq_decide.2; omega]
end
theorem pdq_aux (M : Nat) : ∀ (d : Array O) (nn aa b lim : Nat), b - aa = M → d.size = nn → nn ≤ 1000000 → aa ≤ b → b ≤ nn → lim ≤ 100 → Fn Tryd.prog 53 [.sl 0 nn 0, .int .i64 (aa : Int), .int .i64 (b : Int), .int .i64 (lim : Int), .fn 35 []] [some (.row 26 27 nn 0 (fun zz => oc (d[zz]!)))] (Rt (.tup []) [some (.row 26 27 nn 0 (fun zz => oc ((Go.Sort.pdq lessO d aa b lim true true)[zz]!)))]) :=
 Nat.strongRecOn M fun M ih => fun d nn aa b lim hM hn hs ha hb hl => by subst hM; exact (
 enterM (n := 148) (by kernel_rfl) Tryd.func53 rfl rfl rfl fun G w a h0 A => N hX 11 A rfl rfl fun A => have A := A.tell (P := Tryd.prog) 10 (.bool true) rfl rfl; have A := A.tell (P := Tryd.prog) 11 (.bool true) rfl rfl; LOOP1 (fun (z : PS) => [(0, .sl 0 nn 0), (1, .int .i64 (z.a : Int)), (2, .int .i64 (z.b : Int)), (3, .int .i64 (z.lim : Int)), (4, .fn 35 []), (10, .bool z.wb), (11, .bool z.wp)]) (fun (z : PS) => [some (.row 26 27 nn 0 (fun zz => oc (z.d[zz]!)))]) (fun (z : PS) => PQ d nn aa b lim z) (fun (z : PS) => z.b - z.a) (⟨aa, b, lim, true, true, d⟩) ⟨hn, ha, hb, hl, Nat.le_refl _, rfl⟩ ((A.cut [0, 1, 2, 3, 4, 10, 11] rfl).trunc 1 rfl rfl rfl (by simp only [List.length_cons, List.length_nil] at h0; omega)) fun z hI {G a w} A => N hX 11 A rfl (ok_d (by have := hI.ab; have := hI.bn; have := hI.ll; have := hI.dl; omega) <| okE_nil) fun A => have A := A.say 12 (.int .i64 ((z.b - z.a : Nat) : Int)) rfl (by congr 1; have := hI.ab; omega); N hX 5 A rfl rfl fun A => forkD 25 A rfl
   (fun h1 A => N hX 7 A rfl rfl fun A => CALL1 [0] (isort_i z.d nn z.a z.b (by have := hI.ab; have := hI.bn; have := hI.ll; have := hI.dl; omega) (by have := hI.ab; have := hI.bn; have := hI.ll; have := hI.dl; omega) (by (try simp only [asz]); rw [hI.sz]) (by have := hI.ab; have := hI.bn; have := hI.ll; have := hI.dl; omega) (by have := hI.ab; have := hI.bn; have := hI.ll; have := hI.dl; omega) (by have := hI.ab; have := hI.bn; have := hI.ll; have := hI.dl; omega)) A rfl rfl rfl rfl rfl rfl rfl fun A => N hX 3 A rfl rfl fun A => RETN hX A rfl rfl rfl h0 rfl rfl rfl rfl rfl (by rw [hI.ins h1]; rfl))
   (fun h1 A => N hX 10 A rfl rfl fun A => forkE 32 A rfl
    (fun h2 A => N hX 7 A rfl rfl fun A => CALL1 [0] (hsort_i z.d nn z.a z.b (by have := hI.ab; have := hI.bn; have := hI.ll; have := hI.dl; omega) (by have := hI.ab; have := hI.bn; have := hI.ll; have := hI.dl; omega) (by (try simp only [asz]); rw [hI.sz]) (by have := hI.ab; have := hI.bn; have := hI.ll; have := hI.dl; omega) (by have := hI.ab; have := hI.bn; have := hI.ll; have := hI.dl; omega) (by have := hI.ab; have := hI.bn; have := hI.ll; have := hI.dl; omega)) A rfl rfl rfl rfl rfl rfl rfl fun A => N hX 3 A rfl rfl fun A => RETN hX A rfl rfl rfl h0 rfl rfl rfl rfl rfl (by rw [hI.heap h1 h2]; rfl))
    (fun h2 A => N hX 10 A rfl rfl fun A => JOIN2 (fun (d1 : Array O) (l1 : Nat) => [(0, .sl 0 nn 0), (1, .int .i64 (z.a : Int)), (2, .int .i64 (z.b : Int)), (3, .int .i64 (l1 : Int)), (4, .fn 35 []), (10, .bool z.wb), (11, .bool z.wp), (12, .int .i64 ((z.b - z.a : Nat) : Int))]) (fun (d1 : Array O) (l1 : Nat) => [some (.row 26 27 nn 0 (fun zz => oc (d1[zz]!)))]) (fun (d1 : Array O) (l1 : Nat) => K1 nn z d1 l1) A (fun {G a w} A => fork 39 A rfl
      (fun h3 A => N hX 7 A rfl rfl fun A => CALL1 [0] (brk_i z.d nn z.a z.b (by have := hI.ab; have := hI.bn; have := hI.ll; have := hI.dl; omega) (by have := hI.ab; have := hI.bn; have := hI.ll; have := hI.dl; omega) (by (try simp only [asz]); rw [hI.sz]) (by have := hI.ab; have := hI.bn; have := hI.ll; have := hI.dl; omega) (by have := hI.ab; have := hI.bn; have := hI.ll; have := hI.dl; omega) (by have := hI.ab; have := hI.bn; have := hI.ll; have := hI.dl; omega)) A rfl rfl rfl rfl rfl rfl rfl fun A => N hX 7 A rfl (ok_d (by have := hI.ab; have := hI.bn; have := hI.ll; have := hI.dl; omega) <| okE_nil) fun A => ⟨Go.Sort.breakPatterns z.d z.a z.b, z.lim - 1, _, (K1.t hI h3), ((A.cut [0, 1, 2, 3, 4, 10, 11, 12] rfl).trunc 1 rfl rfl rfl (by simp only [List.length_cons, List.length_nil] at h0; omega)).sayT (by rw [show ((z.lim - 1 : Nat) : Int) = (z.lim : Int) - 1 by omega] <;> rfl)⟩)
      (fun h3 A => N hX 2 A rfl rfl fun A => ⟨z.d, z.lim, _, (K1.f hI h3), ((A.cut [0, 1, 2, 3, 4, 10, 11, 12] rfl).trunc 1 rfl rfl rfl (by simp only [List.length_cons, List.length_nil] at h0; omega))⟩)) fun d1 l1 hA {G a w} A => N hX 7 A rfl rfl fun A => CALL1 [0] (cpv_i d1 nn z.a z.b (by have := hI.ab; have := hI.bn; have := hI.ll; have := hI.dl; have := hA.ll; omega) (by have := hI.ab; have := hI.bn; have := hI.ll; have := hI.dl; have := hA.ll; omega) hA.sz (by have := hI.ab; have := hI.bn; have := hI.ll; have := hI.dl; have := hA.ll; omega) (by have := hI.ab; have := hI.bn; have := hI.ll; have := hI.dl; have := hA.ll; omega) (by have := hI.ab; have := hI.bn; have := hI.ll; have := hI.dl; have := hA.ll; omega)) A rfl rfl rfl rfl rfl rfl rfl fun A => N hX 14 A rfl rfl fun A => JOIN3 (fun (d2 : Array O) (pv : Nat) (hh : Int) => [(0, .sl 0 nn 0), (1, .int .i64 (z.a : Int)), (2, .int .i64 (z.b : Int)), (3, .int .i64 (l1 : Int)), (4, .fn 35 []), (10, .bool z.wb), (11, .bool z.wp), (12, .int .i64 ((z.b - z.a : Nat) : Int)), (13, .int .i64 (pv : Int)), (14, .int .i64 hh)]) (fun (d2 : Array O) (pv : Nat) (hh : Int) => [some (.row 26 27 nn 0 (fun zz => oc (d2[zz]!)))]) (fun (d2 : Array O) (pv : Nat) (hh : Int) => K2 nn z d1 d2 pv hh) A (fun {G a w} A => forkE 56 A rfl
      (fun h4 A => N hX 7 A rfl rfl fun A => CALL1 [0] (rev_i d1 nn z.a z.b (by have := hI.ab; have := hI.bn; have := hI.ll; have := hI.dl; have := hA.ll; omega) (by have := hI.ab; have := hI.bn; have := hI.ll; have := hI.dl; have := hA.ll; omega) hA.sz (by have := hI.ab; have := hI.bn; have := hI.ll; have := hI.dl; have := hA.ll; omega) (by have := hI.ab; have := hI.bn; have := hI.ll; have := hI.dl; have := hA.ll; omega) (by have := hI.ab; have := hI.bn; have := hI.ll; have := hI.dl; have := hA.ll; omega)) A rfl rfl rfl rfl rfl rfl rfl fun A => N hX 13 A rfl (ok_d (by have := hI.ab; have := hI.bn; have := hI.ll; have := hI.dl; have := hA.ll; omega) <| ok_d (by have := Go.Sort.choosePivot_holds lessO d1 z.a z.b (by omega); have := hI.ab; have := hI.bn; have := hI.ll; have := hI.dl; have := hA.ll; omega) <| ok_d (by have := Go.Sort.choosePivot_holds lessO d1 z.a z.b (by omega); have := hI.ab; have := hI.bn; have := hI.ll; have := hI.dl; have := hA.ll; omega) <| okE_nil) fun A => N hX 3 A rfl rfl fun A => ⟨Go.Sort.reverseRange d1 z.a z.b, (z.b - 1) - ((Go.Sort.choosePivot lessO d1 z.a z.b).1 - z.a), 1, _, (K2.t hI h1 hA h4), ((A.cut [0, 1, 2, 3, 4, 10, 11, 12, 13, 14] rfl).trunc 1 rfl rfl rfl (by simp only [List.length_cons, List.length_nil] at h0; omega)).sayT (by rw [show ((((z.b - 1) - ((Go.Sort.choosePivot lessO d1 z.a z.b).1 - z.a) : Nat)) : Int) = ((z.b : Int) - 1) - ((((Go.Sort.choosePivot lessO d1 z.a z.b).1 : Nat) : Int) - (z.a : Int)) by have := Go.Sort.choosePivot_holds lessO d1 z.a z.b (by omega); omega] <;> rfl)⟩)
      (fun h4 A => N hX 2 A rfl rfl fun A => ⟨d1, (Go.Sort.choosePivot lessO d1 z.a z.b).1, hintI (Go.Sort.choosePivot lessO d1 z.a z.b).2, _, (K2.f hI h1 hA h4), ((A.cut [0, 1, 2, 3, 4, 10, 11, 12, 13, 14] rfl).trunc 1 rfl rfl rfl (by simp only [List.length_cons, List.length_nil] at h0; omega))⟩)) fun d2 pv hh hB {G a w} A => N hX 14 A rfl rfl fun A => JOIN1 (fun (d3 : Array O) => [(0, .sl 0 nn 0), (1, .int .i64 (z.a : Int)), (2, .int .i64 (z.b : Int)), (3, .int .i64 (l1 : Int)), (4, .fn 35 []), (10, .bool z.wb), (11, .bool z.wp), (12, .int .i64 ((z.b - z.a : Nat) : Int)), (13, .int .i64 (pv : Int))]) (fun (d3 : Array O) => [some (.row 26 27 nn 0 (fun zz => oc (d3[zz]!)))]) (fun (d3 : Array O) => K3 nn z d1 d2 d3) A (fun {G a w} A => fork 75 A rfl
      (fun h5 A => N hX 7 A rfl rfl fun A => CALL1 [0] (pins_i d2 nn z.a z.b (by have := hI.ab; have := hI.bn; have := hI.ll; have := hI.dl; have := hA.ll; have := hB.lo; have := hB.hi; omega) (by have := hI.ab; have := hI.bn; have := hI.ll; have := hI.dl; have := hA.ll; have := hB.lo; have := hB.hi; omega) hB.sz (by have := hI.ab; have := hI.bn; have := hI.ll; have := hI.dl; have := hA.ll; have := hB.lo; have := hB.hi; omega) (by have := hI.ab; have := hI.bn; have := hI.ll; have := hI.dl; have := hA.ll; have := hB.lo; have := hB.hi; omega) (by have := hI.ab; have := hI.bn; have := hI.ll; have := hI.dl; have := hA.ll; have := hB.lo; have := hB.hi; omega)) A rfl rfl rfl rfl rfl rfl rfl fun A => N hX 2 A rfl rfl fun A => fork 80 A rfl
       (fun h6 A => N hX 2 A rfl rfl fun A => RETN hX A rfl rfl rfl h0 rfl rfl rfl rfl rfl (by rw [hI.pi h1 h2 hA hB h5 h6]; rfl))
       (fun h6 A => N hX 2 A rfl rfl fun A => ⟨(Go.Sort.partialInsertionSort lessO d2 z.a z.b).1, _, (K3.t hB h5 h6), ((A.cut [0, 1, 2, 3, 4, 10, 11, 12, 13] rfl).trunc 1 rfl rfl rfl (by simp only [List.length_cons, List.length_nil] at h0; omega))⟩))
      (fun h5 A => N hX 2 A rfl rfl fun A => ⟨d2, _, (K3.f hB h5), ((A.cut [0, 1, 2, 3, 4, 10, 11, 12, 13] rfl).trunc 1 rfl rfl rfl (by simp only [List.length_cons, List.length_nil] at h0; omega))⟩)) fun d3 hC {G a w} A => N hX 3 A rfl rfl fun A => DRAWN hX hmo [(13, .opt (decide ((z.a : Int) > 0)) (.int .i64 (cmpO (d3[((z.a : Int) - 1).toNat]!) (d3[((pv : Int)).toNat]!))))] [] A rfl (ok_r <| ok_g (fun hg => (by have := hI.ab; have := hI.bn; have := hI.ll; have := hI.dl; have := hA.ll; have := hB.lo; have := hB.hi; have := of_decide_eq_true hg; omega)) <| ok_r <| ok_r <| ok_g (fun hg => (by have := hI.ab; have := hI.bn; have := hI.ll; have := hI.dl; have := hA.ll; have := hB.lo; have := hB.hi; have := of_decide_eq_true hg; omega)) <| ok_r <| ok_g (fun hg => (by have := hI.ab; have := hI.bn; have := hI.ll; have := hI.dl; have := hA.ll; have := hB.lo; have := hB.hi; have := of_decide_eq_true hg; omega)) <| ok_r <| ok_r <| ok_g (fun hg => (by have := hI.ab; have := hI.bn; have := hI.ll; have := hI.dl; have := hA.ll; have := hB.lo; have := hB.hi; have := of_decide_eq_true hg; omega)) <| ok_r <| ok_g (fun hg => (by have := hI.ab; have := hI.bn; have := hI.ll; have := hI.dl; have := hA.ll; have := hB.lo; have := hB.hi; have := of_decide_eq_true hg; omega)) <| ok_r <| ok_r <| ok_r <| okE_nil) rfl rfl (by kernel_rfl) (effAll_nil _ _) ⟨.inr ⟨_, _, _, _, _, _, rfl, rfl, rfl, rfl, rfl, fun hg => compare_ (d3[((z.a : Int) - 1).toNat]!) (d3[((pv : Int)).toNat]!)⟩, trivial⟩ fun A => N hX 1 A rfl rfl fun A => fork 97 A rfl
     (fun h7 A => N hX 8 A rfl rfl fun A => CALL1 [0] (parte_i d3 nn z.a z.b pv (by have := hI.ab; have := hI.bn; have := hI.ll; have := hI.dl; have := hA.ll; have := hB.lo; have := hB.hi; have := jlt h7; omega) (by have := hI.ab; have := hI.bn; have := hI.ll; have := hI.dl; have := hA.ll; have := hB.lo; have := hB.hi; have := jlt h7; omega) (by have := hI.ab; have := hI.bn; have := hI.ll; have := hI.dl; have := hA.ll; have := hB.lo; have := hB.hi; have := jlt h7; omega) hC.sz (by have := hI.ab; have := hI.bn; have := hI.ll; have := hI.dl; have := hA.ll; have := hB.lo; have := hB.hi; have := jlt h7; omega) (by have := hI.ab; have := hI.bn; have := hI.ll; have := hI.dl; have := hA.ll; have := hB.lo; have := hB.hi; have := jlt h7; omega) (by have := hI.ab; have := hI.bn; have := hI.ll; have := hI.dl; have := hA.ll; have := hB.lo; have := hB.hi; have := jlt h7; omega) (by have := hI.ab; have := hI.bn; have := hI.ll; have := hI.dl; have := hA.ll; have := hB.lo; have := hB.hi; have := jlt h7; omega)) A rfl rfl rfl rfl rfl rfl rfl fun A => N hX 10 A rfl rfl fun A => ⟨⟨(Go.Sort.partitionEqual lessO d3 z.a z.b pv).1, z.b, l1, z.wb, z.wp, (Go.Sort.partitionEqual lessO d3 z.a z.b pv).2⟩, _, (by have := parte_rng (d := d3) (aa := z.a) (b := z.b) (pv := pv) hB.lo hB.hi (by rw [hC.sz]; exact hI.bn); have := hI.ab; have := hI.bn; have := hI.ll; have := hI.dl; have := hA.ll; have := hB.lo; have := hB.hi; have := jlt h7; simp only []; omega), (hI.stepE h1 h2 hA hB hC h7), ((A.cut [0, 1, 2, 3, 4, 10, 11] rfl).trunc 1 rfl rfl rfl (by simp only [List.length_cons, List.length_nil] at h0; omega))⟩)
     (fun h7 A => N hX 10 A rfl rfl fun A => CALL1 [0] (part_i d3 nn z.a z.b pv (by have := hI.ab; have := hI.bn; have := hI.ll; have := hI.dl; have := hA.ll; have := hB.lo; have := hB.hi; omega) (by have := hI.ab; have := hI.bn; have := hI.ll; have := hI.dl; have := hA.ll; have := hB.lo; have := hB.hi; omega) (by have := hI.ab; have := hI.bn; have := hI.ll; have := hI.dl; have := hA.ll; have := hB.lo; have := hB.hi; omega) hC.sz (by have := hI.ab; have := hI.bn; have := hI.ll; have := hI.dl; have := hA.ll; have := hB.lo; have := hB.hi; omega) (by have := hI.ab; have := hI.bn; have := hI.ll; have := hI.dl; have := hA.ll; have := hB.lo; have := hB.hi; omega) (by have := hI.ab; have := hI.bn; have := hI.ll; have := hI.dl; have := hA.ll; have := hB.lo; have := hB.hi; omega) (by have := hI.ab; have := hI.bn; have := hI.ll; have := hI.dl; have := hA.ll; have := hB.lo; have := hB.hi; omega)) A rfl rfl rfl rfl rfl rfl rfl fun A => N hX 26 A rfl (ok_d (by have := hI.prt hB hC; have := hI.ab; have := hI.bn; have := hI.ll; have := hI.dl; have := hA.ll; have := hB.lo; have := hB.hi; omega) <| ok_d (by have := hI.prt hB hC; have := hI.ab; have := hI.bn; have := hI.ll; have := hI.dl; have := hA.ll; have := hB.lo; have := hB.hi; omega) <| okE_nil) fun A => N hX 7 A rfl (ok_d (by have := hI.ab; have := hI.bn; have := hI.ll; have := hI.dl; have := hA.ll; have := hB.lo; have := hB.hi; omega) <| okE_nil) fun A => have A := A.say 18 (.int .i64 (((Go.Sort.partition lessO d3 z.a z.b pv).1 - z.a : Nat) : Int)) rfl (by congr 1; have := hI.prt hB hC; omega); have A := A.say 19 (.int .i64 ((z.b - (Go.Sort.partition lessO d3 z.a z.b pv).1 : Nat) : Int)) rfl (by congr 1; have := hI.prt hB hC; omega); have A := A.say 20 (.int .i64 (((z.b - z.a) / 8 : Nat) : Int)) rfl (by congr 1; have := hI.bn; exact (show _ = _ from by rw [show (((z.b - z.a : Nat)) : Int).tdiv 8 = ((((z.b - z.a) / 8 : Nat)) : Int) from rfl]; exact wrap_in (by omega))); N hX 6 A rfl rfl fun A => forkD 125 A rfl
      (fun h8 A => N hX 16 A rfl rfl fun A => CALL1 [0] (ih _ (by have := hI.prt hB hC; have := hI.ab; have := hI.bn; have := hI.ll; have := hI.dl; have := hA.ll; have := hB.lo; have := hB.hi; omega) ((Go.Sort.partition lessO d3 z.a z.b pv).2.2) nn z.a ((Go.Sort.partition lessO d3 z.a z.b pv).1) l1 rfl (hI.prt hB hC).2.2 hs (by have := hI.prt hB hC; have := hI.ab; have := hI.bn; have := hI.ll; have := hI.dl; have := hA.ll; have := hB.lo; have := hB.hi; omega) (by have := hI.prt hB hC; have := hI.ab; have := hI.bn; have := hI.ll; have := hI.dl; have := hA.ll; have := hB.lo; have := hB.hi; omega) hA.ll) A rfl rfl rfl rfl rfl rfl rfl fun A => N hX 8 A rfl (ok_d (by have := hI.prt hB hC; have := hI.ab; have := hI.bn; have := hI.ll; have := hI.dl; have := hA.ll; have := hB.lo; have := hB.hi; omega) <| okE_nil) fun A => ⟨⟨(Go.Sort.partition lessO d3 z.a z.b pv).1 + 1, z.b, l1, decide ((((Go.Sort.partition lessO d3 z.a z.b pv).1 - z.a : Nat) : Int) ≥ (((z.b - z.a) / 8 : Nat) : Int)), (Go.Sort.partition lessO d3 z.a z.b pv).2.1, Go.Sort.pdq lessO ((Go.Sort.partition lessO d3 z.a z.b pv).2.2) z.a ((Go.Sort.partition lessO d3 z.a z.b pv).1) l1 true true⟩, _, (by have := hI.prt hB hC; have := hI.ab; have := hI.bn; have := hI.ll; have := hI.dl; have := hA.ll; have := hB.lo; have := hB.hi; simp only []; omega), (hI.stepL h1 h2 hA hB hC h7 h8), ((A.cut [0, 1, 2, 3, 4, 10, 11] rfl).trunc 1 rfl rfl rfl (by simp only [List.length_cons, List.length_nil] at h0; omega))⟩)
      (fun h8 A => N hX 17 A rfl (ok_d (by have := hI.prt hB hC; have := hI.ab; have := hI.bn; have := hI.ll; have := hI.dl; have := hA.ll; have := hB.lo; have := hB.hi; omega) <| okE_nil) fun A => CALL1 [0] (ih _ (by have := hI.prt hB hC; have := hI.ab; have := hI.bn; have := hI.ll; have := hI.dl; have := hA.ll; have := hB.lo; have := hB.hi; omega) ((Go.Sort.partition lessO d3 z.a z.b pv).2.2) nn (((Go.Sort.partition lessO d3 z.a z.b pv).1) + 1) z.b l1 rfl (hI.prt hB hC).2.2 hs (by have := hI.prt hB hC; have := hI.ab; have := hI.bn; have := hI.ll; have := hI.dl; have := hA.ll; have := hB.lo; have := hB.hi; omega) (by have := hI.ab; have := hI.bn; have := hI.ll; have := hI.dl; have := hA.ll; have := hB.lo; have := hB.hi; omega) hA.ll) A rfl rfl rfl rfl rfl rfl rfl fun A => N hX 7 A rfl rfl fun A => ⟨⟨z.a, (Go.Sort.partition lessO d3 z.a z.b pv).1, l1, decide (((z.b - (Go.Sort.partition lessO d3 z.a z.b pv).1 : Nat) : Int) ≥ (((z.b - z.a) / 8 : Nat) : Int)), (Go.Sort.partition lessO d3 z.a z.b pv).2.1, Go.Sort.pdq lessO ((Go.Sort.partition lessO d3 z.a z.b pv).2.2) (((Go.Sort.partition lessO d3 z.a z.b pv).1) + 1) z.b l1 true true⟩, _, (by have := hI.prt hB hC; have := hI.ab; have := hI.bn; have := hI.ll; have := hI.dl; have := hA.ll; have := hB.lo; have := hB.hi; simp only []; omega), (hI.stepG h1 h2 hA hB hC h7 h8), ((A.cut [0, 1, 2, 3, 4, 10, 11] rfl).trunc 1 rfl rfl rfl (by simp only [List.length_cons, List.length_nil] at h0; omega))⟩)))))
theorem pdq_ (d : Array O) (nn aa b lim : Nat) (hn : d.size = nn) (hs : nn ≤ 1000000) (ha : aa ≤ b) (hb : b ≤ nn) (hl : lim ≤ 100) : Fn Tryd.prog 53 [.sl 0 nn 0, .int .i64 (aa : Int), .int .i64 (b : Int), .int .i64 (lim : Int), .fn 35 []] [some (.row 26 27 nn 0 (fun zz => oc (d[zz]!)))] (Rt (.tup []) [some (.row 26 27 nn 0 (fun zz => oc ((Go.Sort.pdq lessO d aa b lim true true)[zz]!)))]) := pdq_aux _ d nn aa b lim rfl hn hs ha hb hl
theorem pdq_i {xaa xb xlim : Int} (d : Array O) (nn aa b lim : Nat) (eaa : xaa = (aa : Int)) (eb : xb = (b : Int)) (elim : xlim = (lim : Int)) (hn : d.size = nn) (hs : nn ≤ 1000000) (ha : aa ≤ b) (hb : b ≤ nn) (hl : lim ≤ 100) : Fn Tryd.prog 53 [.sl 0 nn 0, .int .i64 xaa, .int .i64 xb, .int .i64 xlim, .fn 35 []] [some (.row 26 27 nn 0 (fun zz => oc (d[zz]!)))] (Rt (.tup []) [some (.row 26 27 nn 0 (fun zz => oc ((Go.Sort.pdq lessO d aa b lim true true)[zz]!)))]) := by
  subst eaa; subst eb; subst elim; exact pdq_ d nn aa b lim hn hs ha hb hl
end Go.Proofs.YtbghlhhoafkmgaaDoor
/- Outcomes in their order. -/
namespace Go.Proofs.YtbghlhhoafkmgaaDoor
open Go.RowKit
set_option linter.unusedVariables false
set_option linter.unusedSimpArgs false
set_option maxRecDepth 100000
set_option maxHeartbeats 2000000
set_option simprocs false
open Go.Sort
def eqO (p q : O) : Bool := ((p 0 == q 0) && ((p 1 == q 1) && ((p 2 == q 2) && ((p 3 == q 3) && ((p 4 == q 4) && ((p 5 == q 5) && ((p 6 == q 6) && ((p 7 == q 7) && ((p 8 == q 8) && ((p 9 == q 9) && ((p 10 == q 10) && ((p 11 == q 11) && ((p 12 == q 12) && ((p 13 == q 13) && ((p 14 == q 14) && ((p 15 == q 15) && ((p 16 == q 16) && ((p 17 == q 17) && ((p 18 == q 18) && ((p 19 == q 19) && ((p 20 == q 20) && ((p 21 == q 21) && ((p 22 == q 22) && ((p 23 == q 23) && ((p 24 == q 24) && ((p 25 == q 25) && (p 26 == q 26)))))))))))))))))))))))))))
theorem arr_l (os : List O) (k : Nat) : os.toArray[k]! = os.getD k oz := by
  rw [Array.getElem!_eq_getD, Array.getD_eq_getD_getElem?, List.getElem?_toArray]; rfl
def cA (d : Array O) : Nat → List O
  | 0 => []
  | i + 1 => if (decide (0 < i) && eqO (d[i]!) (d[i - 1]!)) = true then cA d i else cA d i ++ [d[i]!]
theorem cA_dup {d : Array O} {i : Nat} (h0 : 0 < i) (h : eqO (d[i]!) (d[i - 1]!) = true) : cA d (i + 1) = cA d i := by
  rw [cA, if_pos (by rw [h, decide_eq_true h0]; rfl)]
theorem cA_new {d : Array O} {i : Nat} (h : eqO (d[i]!) (d[i - 1]!) = false) : cA d (i + 1) = cA d i ++ [d[i]!] := by
  rw [cA, if_neg (by rw [h, Bool.and_false]; simp)]
theorem cA_one (d : Array O) : cA d 1 = [d[0]!] := by rw [cA, if_neg (by simp)]; rfl
structure C1 (d : Array O) (nn k : Nat) : Prop where
  lo : 1 ≤ k
  hi : k ≤ nn
  ln : (cA d k).length = k
  at_ : ∀ p, p < k → (cA d k).getD p oz = d[p]!
structure C2 (d : Array O) (nn k0 : Nat) (e : Array O) (k m : Nat) : Prop where
  sz : e.size = d.size
  lo : k0 ≤ k
  hi : k + 1 ≤ k0 + m
  m1 : 1 ≤ m
  mn : k0 + m ≤ nn
  ln : (cA d (k0 + m)).length = k
  at_ : ∀ p, p < k → e[p]! = (cA d (k0 + m)).getD p oz
  up : ∀ p, k0 + m ≤ p + 1 → e[p]! = d[p]!
section
variable {d e : Array O} {nn k k0 m : Nat}
theorem C1.init (h : ¬ ((nn : Nat) : Int) < 2) : C1 d nn 1 := ⟨Nat.le_refl _, by omega, by rw [cA_one]; rfl, fun p hp => by
  have : p = 0 := by omega
  subst this; rw [cA_one]; rfl⟩
theorem C1.step (h : C1 d nn k) (h1 : (k : Int) < ((nn : Nat) : Int)) (h2 : eqO (d[((k : Int)).toNat]!) (d[((k : Int) - 1).toNat]!) = false) : C1 d nn (k + 1) := by
  have hl := h.lo
  rw [Int.toNat_natCast, show ((k : Int) - 1).toNat = k - 1 by omega] at h2
  refine ⟨by omega, by omega, by rw [cA_new h2, List.length_append, h.ln]; rfl, fun p hp => ?_⟩
  rw [cA_new h2]
  by_cases hpk : p < k
  · rw [getD_app_l (by rw [h.ln]; exact hpk), h.at_ p hpk]
  · have : p = k := by omega
    subst this
    have := getD_app_1 (l := cA d p) (x := d[p]!) (d := oz)
    rw [h.ln] at this; exact this
theorem C1.enter (h : C1 d nn k) (h1 : (k : Int) < ((nn : Nat) : Int)) (h2 : eqO (d[((k : Int)).toNat]!) (d[((k : Int) - 1).toNat]!) = true) : C2 d nn k d k 1 := by
  have hl := h.lo
  rw [Int.toNat_natCast, show ((k : Int) - 1).toNat = k - 1 by omega] at h2
  have e := cA_dup (d := d) (i := k) (by omega) h2
  exact ⟨rfl, Nat.le_refl _, by omega, Nat.le_refl _, by omega, by rw [e, h.ln], fun p hp => by rw [e, h.at_ p hp], fun _ _ => rfl⟩
theorem C1.done (h : C1 d nn k) (h1 : ¬ (k : Int) < ((nn : Nat) : Int)) : (cA d nn).length = nn ∧ ∀ p, p < nn → (cA d nn).getD p oz = d[p]! := by
  have : k = nn := by have := h.hi; omega
  subst this
  exact ⟨h.ln, h.at_⟩
theorem C2.same (h : C2 d nn k0 e k m) (h0 : 1 ≤ k0) (h1 : (m : Int) < ((nn - ((k0 : Int)).toNat : Nat) : Int)) (h2 : (!(eqO (e[(((((k0 : Int)).toNat : Nat) : Int) + (m : Int)).toNat]!) (e[(((((k0 : Int)).toNat : Nat) : Int) + ((m : Int) - 1)).toNat]!))) = false) : C2 d nn k0 e k (m + 1) := by
  have hm := h.m1; have hh := h.hi
  have e1 : (((((k0 : Int)).toNat : Nat) : Int) + (m : Int)).toNat = k0 + m := by omega
  have e2 : (((((k0 : Int)).toNat : Nat) : Int) + ((m : Int) - 1)).toNat = k0 + m - 1 := by omega
  rw [e1, e2, h.up (k0 + m) (by omega), h.up (k0 + m - 1) (by omega)] at h2
  have h3 : eqO (d[k0 + m]!) (d[k0 + m - 1]!) = true := by revert h2; cases eqO (d[k0 + m]!) (d[k0 + m - 1]!) <;> simp
  have ee := cA_dup (d := d) (i := k0 + m) (by omega) h3
  exact ⟨h.sz, h.lo, by omega, by omega, by omega, by rw [← Nat.add_assoc, ee, h.ln], fun p hp => by rw [← Nat.add_assoc, ee, h.at_ p hp], fun p hp => h.up p (by omega)⟩
theorem C2.new (h : C2 d nn k0 e k m) (hn : d.size = nn) (h0 : 1 ≤ k0) (h1 : (m : Int) < ((nn - ((k0 : Int)).toNat : Nat) : Int)) (h2 : (!(eqO (e[(((((k0 : Int)).toNat : Nat) : Int) + (m : Int)).toNat]!) (e[(((((k0 : Int)).toNat : Nat) : Int) + ((m : Int) - 1)).toNat]!))) = true) : C2 d nn k0 (e.setIfInBounds ((k : Int)).toNat (e[(((((k0 : Int)).toNat : Nat) : Int) + (m : Int)).toNat]!)) (k + 1) (m + 1) := by
  have hm := h.m1; have hh := h.hi; have hl := h.lo
  have e1 : (((((k0 : Int)).toNat : Nat) : Int) + (m : Int)).toNat = k0 + m := by omega
  have e2 : (((((k0 : Int)).toNat : Nat) : Int) + ((m : Int) - 1)).toNat = k0 + m - 1 := by omega
  rw [e1, e2, h.up (k0 + m - 1) (by omega), h.up (k0 + m) (by omega)] at h2
  rw [e1, Int.toNat_natCast, h.up (k0 + m) (by omega)]
  have h3 : eqO (d[k0 + m]!) (d[k0 + m - 1]!) = false := by revert h2; cases eqO (d[k0 + m]!) (d[k0 + m - 1]!) <;> simp
  have ee := cA_new (d := d) (i := k0 + m) h3
  have hk : k < e.size := by rw [h.sz, hn]; omega
  refine ⟨by rw [asz, h.sz], by omega, by omega, by omega, by omega, by rw [← Nat.add_assoc, ee, List.length_append, h.ln]; rfl, fun p hp => ?_, fun p hp => ?_⟩
  · rw [← Nat.add_assoc, ee]
    by_cases hpk : p = k
    · subst hpk
      rw [aset_at hk]
      have := getD_app_1 (l := cA d (k0 + m)) (x := d[k0 + m]!) (d := oz)
      rw [h.ln] at this; exact this.symm
    · rw [aset_ne hpk, h.at_ p (by omega), getD_app_l (by rw [h.ln]; omega)]
  · rw [aset_ne (by omega), h.up p (by omega)]
theorem C2.done (h : C2 d nn k0 e k m) (h1 : ¬ (m : Int) < ((nn - ((k0 : Int)).toNat : Nat) : Int)) : (cA d nn).length = k ∧ ∀ p, p < k → (cA d nn).getD p oz = e[p]! := by
  have hmn := h.mn
  have : k0 + m = nn := by omega
  subst this
  exact ⟨h.ln, fun p hp => (h.at_ p hp).symm⟩
theorem cA_small (h : ((nn : Nat) : Int) < 2) : (cA d nn).length = nn ∧ ∀ p, p < nn → (cA d nn).getD p oz = d[p]! := by
  have : nn = 0 ∨ nn = 1 := by omega
  rcases this with rfl | rfl
  · exact ⟨rfl, fun p hp => by omega⟩
  · rw [cA_one]; exact ⟨rfl, fun p hp => by have : p = 0 := by omega
                                            subst this; rfl⟩
end
theorem sortf_ (d : Array O) (nn : Nat) (hn : d.size = nn) (hs : nn ≤ 1000000) : Fn Tryd.prog 34 [.sl 0 nn 0, .fn 35 []] [some (.row 26 27 nn 0 (fun zz => oc (d[zz]!)))] (Rt (.tup []) [some (.row 26 27 nn 0 (fun zz => oc ((Go.Sort.pdq lessO d 0 nn (Go.Sort.bitsLen nn) true true)[zz]!)))]) :=
 enterM (n := 14) (by kernel_rfl) Tryd.func34 rfl rfl rfl fun G w a h0 A => N hX 12 A rfl rfl fun A => CALL1 [] (len_w (nn) (by have := bl_le (n := nn) (by omega); omega) (wu64 (by have := bl_le (n := nn) (by omega); omega))) A rfl rfl rfl rfl rfl rfl rfl fun A => N hX 1 A rfl rfl fun A => CALL1 [0] (pdq_i d nn 0 (nn) (Go.Sort.bitsLen (nn)) (by have := bl_le (n := nn) (by omega); omega) (by have := bl_le (n := nn) (by omega); omega) (by have := bl_le (n := nn) (by omega); omega) hn (by have := bl_le (n := nn) (by omega); omega) (by have := bl_le (n := nn) (by omega); omega) (by have := bl_le (n := nn) (by omega); omega) (by have := bl_le (n := nn) (by omega); omega)) A rfl rfl rfl rfl rfl rfl rfl fun A => N hX 1 A rfl rfl fun A => ENDN (RETN hX A rfl rfl rfl h0 rfl rfl rfl rfl rfl rfl)
theorem clone_ (os : List O) (c : Nat) (hs : os.length ≤ 1000000) : Fn Tryd.prog 33 [.sl 0 os.length c] [some (.lst 27 os.length (fun zz => oc (os.getD zz oz)))] (Rt (.sl 1 os.length 0) [some (.lst 27 os.length (fun zz => oc (os.getD zz oz))), some (.row 26 27 os.length 0 (fun zz => oc (os.toArray[zz]!)))]) :=
 enterM (n := 8) (by kernel_rfl) Tryd.func33 rfl rfl rfl fun G w a h0 A => N hX 9 A rfl rfl fun A => NILL hX A rfl rfl (fun h1 {G a w} A => N hX 9 A rfl rfl fun A => have A := A.nilRow 2 26 27 (fun zz => oc (os.toArray[zz]!)) rfl (fun z => ⟨_, rfl, rfl⟩); have A := A.rowAs 1 os.length (fun zz => oc (os.toArray[zz]!)) rfl h1 (fun _ _ => rfl) (fun z => ⟨_, rfl, rfl⟩); have A := A.say 2 (.sl 1 os.length 0) rfl (by rw [h1]; rfl); RET hX [1] A ⟨rfl, rfl⟩ rfl rfl rfl rfl rfl rfl rfl rfl h0) (fun {G a w} A => N hX 9 A rfl rfl fun A => APPL hX os.length (fun zz => oc (os.toArray[zz]!)) A rfl rfl rfl rfl (Nat.le_refl _) (by omega) hs (by omega) (fun k hk => by omega) (fun k hk => by show oc _ = oc _; rw [Nat.zero_add, arr_l]) (fun z => ⟨_, rfl, rfl⟩) (fun k hk => ⟨_, rfl, okE_nil⟩) fun A => N hX 4 A rfl rfl fun A => RET hX [2] A ⟨rfl, rfl⟩ rfl rfl rfl rfl rfl rfl rfl rfl h0)
theorem compact_ (d : Array O) (nn : Nat) (hn : d.size = nn) (hs : nn ≤ 1000000) : Fn Tryd.prog 36 [.sl 0 nn 0] [some (.row 26 27 nn 0 (fun zz => oc (d[zz]!)))] (Rt (.sl 0 ((cA d nn).length) 0) [some (.row 26 27 ((cA d nn).length) 0 (fun zz => oc ((cA d nn).getD zz oz)))]) :=
 enterM (n := 61) (by kernel_rfl) Tryd.func36 rfl rfl rfl fun G w a h0 A => N hX 13 A rfl rfl fun A => forkD 8 A rfl
  (fun h1 A => N hX 8 A rfl rfl fun A => have hf := cA_small (d := d) h1; have A := A.rowAs 0 (cA d nn).length (fun zz => oc ((cA d nn).getD zz oz)) rfl (by rw [hf.1]; (try rfl); (try simp)) (fun q hq => by show oc _ = oc _; rw [hf.2 q (by simpa using hq)]) (fun z => ⟨_, rfl, rfl⟩); have A := A.say 2 (.sl 0 (cA d nn).length 0) rfl (by rw [hf.1]; (try rfl); (try simp)); RETN hX A rfl rfl rfl h0 rfl rfl rfl rfl rfl rfl)
  (fun h1 A => N hX 10 A rfl rfl fun A => LOOP1 (fun (k : Nat) => [(0, .sl 0 nn 0), (2, .sla none 0 0), (3, .int .i64 (k : Int))]) (fun (k : Nat) => [some (.row 26 27 nn 0 (fun zz => oc (d[zz]!)))]) (fun (k : Nat) => C1 d nn k) (fun (k : Nat) => nn - k) 1 (C1.init h1) ((A.cut [0, 2, 3] rfl).trunc 1 rfl rfl rfl (by simp only [List.length_cons, List.length_nil] at h0; omega)) fun k hI {G a w} A => N hX 9 A rfl rfl fun A => forkD 13 A rfl
    (fun h2 A => N hX 6 A rfl rfl fun A => DRAWN hX hmo [] [] A rfl (ok_d (by have := hI.lo; have := hI.hi; omega) <| ok_d (by have := hI.lo; have := hI.hi; omega) <| ok_d (by have := hI.lo; have := hI.hi; omega) <| ok_d (by have := hI.lo; have := hI.hi; omega) <| ok_d (by have := hI.lo; have := hI.hi; omega) <| okE_nil) rfl rfl (by kernel_rfl) (effAll_nil _ _) trivial fun A => N hX 1 A rfl rfl fun A => fork 25 A rfl
     (fun h3 A => N hX 11 A rfl (ok_d (by have := hI.lo; have := hI.hi; omega) <| okE_nil) fun A => N hX 5 A rfl rfl fun A => LOOP3 (fun (q : Nat) (m : Nat) (e : Array O) => [(0, .sl 0 nn 0), (2, .sla none 0 0), (3, .int .i64 (q : Int)), (4, .st 0 27 (((k : Int)).toNat) (nn - ((k : Int)).toNat) 0), (5, .int .i64 (m : Int))]) (fun (q : Nat) (m : Nat) (e : Array O) => [some (.row 26 27 nn 0 (fun zz => oc (e[zz]!)))]) (fun (q : Nat) (m : Nat) (e : Array O) => C2 d nn k e q m) (fun (q : Nat) (m : Nat) (e : Array O) => nn - m) k 1 d (hI.enter h2 h3) ((A.cut [0, 2, 3, 4, 5] rfl).trunc 1 rfl rfl rfl (by simp only [List.length_cons, List.length_nil] at h0; omega)) fun q m e hJ {G a w} A => N hX 9 A rfl rfl fun A => forkD 32 A rfl
       (fun h4 A => N hX 6 A rfl rfl fun A => DRAWN hX hmo [] [] A rfl (ok_d (by have := hI.lo; have := hI.hi; have := hJ.lo; have := hJ.hi; have := hJ.m1; have := hJ.mn; omega) <| ok_d (by have := hI.lo; have := hI.hi; have := hJ.lo; have := hJ.hi; have := hJ.m1; have := hJ.mn; omega) <| ok_d (by have := hI.lo; have := hI.hi; have := hJ.lo; have := hJ.hi; have := hJ.m1; have := hJ.mn; omega) <| ok_d (by have := hI.lo; have := hI.hi; have := hJ.lo; have := hJ.hi; have := hJ.m1; have := hJ.mn; omega) <| ok_d (by have := hI.lo; have := hI.hi; have := hJ.lo; have := hJ.hi; have := hJ.m1; have := hJ.mn; omega) <| okE_nil) rfl rfl (by kernel_rfl) (effAll_nil _ _) trivial fun A => N hX 1 A rfl rfl fun A => fork 44 A rfl
        (fun h5 A => N hX 10 A rfl (ok_d (by have := hI.lo; have := hI.hi; have := hJ.lo; have := hJ.hi; have := hJ.m1; have := hJ.mn; omega) <| ok_d (by have := hI.lo; have := hI.hi; have := hJ.lo; have := hJ.hi; have := hJ.m1; have := hJ.mn; omega) <| ok_d (by have := hI.lo; have := hI.hi; have := hJ.lo; have := hJ.hi; have := hJ.m1; have := hJ.mn; omega) <| okE_nil) fun A => STR (i := 0) (e := 26) (s := 27) (m := nn) (c := 0) hX (((q : Int)).toNat) (fun zz => oc ((e.setIfInBounds ((q : Int)).toNat (e[(((((k : Int)).toNat : Nat) : Int) + (m : Int)).toNat]!))[zz]!)) A rfl rfl rfl (by have := hI.lo; have := hI.hi; have := hJ.lo; have := hJ.hi; have := hJ.m1; have := hJ.mn; omega) (fun z hz => by show oc _ = oc _; rw [aset_ne hz]) (by show _ = some (oc _); rw [aset_at (by (try simp only [asz]); rw [hJ.sz, hn]; have := hI.lo; have := hI.hi; have := hJ.lo; have := hJ.hi; have := hJ.m1; have := hJ.mn; omega)]; rfl) fun A => N hX 9 A rfl (ok_d (by have := hI.lo; have := hI.hi; have := hJ.lo; have := hJ.hi; have := hJ.m1; have := hJ.mn; omega) <| okE_nil) fun A => N hX 5 A rfl (ok_d (by have := hI.lo; have := hI.hi; have := hJ.lo; have := hJ.hi; have := hJ.m1; have := hJ.mn; omega) <| okE_nil) fun A => ⟨q + 1, m + 1, e.setIfInBounds ((q : Int)).toNat (e[(((((k : Int)).toNat : Nat) : Int) + (m : Int)).toNat]!), _, (by omega), (hJ.new hn hI.lo h4 h5), ((A.cut [0, 2, 3, 4, 5] rfl).trunc 1 rfl rfl rfl (by simp only [List.length_cons, List.length_nil] at h0; omega))⟩)
        (fun h5 A => N hX 9 A rfl (ok_d (by have := hI.lo; have := hI.hi; have := hJ.lo; have := hJ.hi; have := hJ.m1; have := hJ.mn; omega) <| okE_nil) fun A => ⟨q, m + 1, e, _, (by omega), (hJ.same hI.lo h4 h5), ((A.cut [0, 2, 3, 4, 5] rfl).trunc 1 rfl rfl rfl (by simp only [List.length_cons, List.length_nil] at h0; omega))⟩))
       (fun h4 A => N hX 8 A rfl (ok_d (by have := hI.lo; have := hI.hi; have := hJ.lo; have := hJ.hi; have := hJ.m1; have := hJ.mn; omega) <| okE_nil) fun A => CLR hX A rfl (by have := hI.lo; have := hI.hi; have := hJ.lo; have := hJ.hi; have := hJ.m1; have := hJ.mn; omega) fun A => N hX 11 A rfl (ok_d (by show 0 ≤ (q : Int) ∧ (q : Int) ≤ ((((q : Int)).toNat : Nat) : Int); exact (by have := hI.lo; have := hI.hi; have := hJ.lo; have := hJ.hi; have := hJ.m1; have := hJ.mn; omega)) <| okE_nil) fun A => have hf := hJ.done h4; have A := A.rowAs 0 (cA d nn).length (fun zz => oc ((cA d nn).getD zz oz)) rfl (by rw [hf.1]; (try rfl); (try simp)) (fun q hq => by show oc _ = oc _; rw [hf.2 q (by simpa using hq)]) (fun z => ⟨_, rfl, rfl⟩); have A := A.say 2 (.sl 0 (cA d nn).length 0) rfl (by rw [hf.1]; (try rfl); (try simp)); RETN hX A rfl rfl rfl h0 rfl rfl rfl rfl rfl rfl))
     (fun h3 A => N hX 9 A rfl (ok_d (by have := hI.lo; have := hI.hi; omega) <| okE_nil) fun A => ⟨k + 1, _, (by omega), (hI.step h2 h3), ((A.cut [0, 2, 3] rfl).trunc 1 rfl rfl rfl (by simp only [List.length_cons, List.length_nil] at h0; omega))⟩))
    (fun h2 A => N hX 10 A rfl rfl fun A => have hf := hI.done h2; have A := A.rowAs 0 (cA d nn).length (fun zz => oc ((cA d nn).getD zz oz)) rfl (by rw [hf.1]; (try rfl); (try simp)) (fun q hq => by show oc _ = oc _; rw [hf.2 q (by simpa using hq)]) (fun z => ⟨_, rfl, rfl⟩); have A := A.say 2 (.sl 0 (cA d nn).length 0) rfl (by rw [hf.1]; (try rfl); (try simp)); RETN hX A rfl rfl rfl h0 rfl rfl rfl rfl rfl rfl))
theorem ps_sz (os : List O) : (Go.Sort.pdq lessO os.toArray 0 os.length (Go.Sort.bitsLen os.length) true true).size = os.length := by
  have := pdq_sz _ ⟨0, os.length, Go.Sort.bitsLen os.length, true, true, os.toArray⟩ (Nat.le_refl _) (Nat.zero_le _) (by simp)
  simpa [PS.out] using this
def sortL (os : List O) : List O := cA (Go.Sort.pdq lessO os.toArray 0 os.length (Go.Sort.bitsLen os.length) true true) os.length
theorem sort_ (os : List O) (c : Nat) (hs : os.length ≤ 1000000) : Fn Tryd.prog 17 [.sl 0 os.length c] [some (.lst 27 os.length (fun zz => oc (os.getD zz oz)))] (Rt (.sl 1 ((sortL os).length) 0) [some (.lst 27 os.length (fun zz => oc (os.getD zz oz))), some (.row 26 27 ((sortL os).length) 0 (fun zz => oc ((sortL os).getD zz oz)))]) :=
 enterM (n := 10) (by kernel_rfl) Tryd.func17 rfl rfl rfl fun G w a h0 A => N hX 8 A rfl rfl fun A => CALL1 [0] (clone_ os c hs) A rfl rfl rfl rfl rfl rfl rfl fun A => N hX 6 A rfl rfl fun A => CALL1 [1] (sortf_ os.toArray os.length (by simp) hs) A rfl rfl rfl rfl rfl rfl rfl fun A => N hX 5 A rfl rfl fun A => CALL1 [1] (compact_ (Go.Sort.pdq lessO os.toArray 0 os.length (Go.Sort.bitsLen os.length) true true) os.length (ps_sz os) hs) A rfl rfl rfl rfl rfl rfl rfl fun A => N hX 4 A rfl rfl fun A => RET hX [1] A ⟨rfl, rfl⟩ rfl rfl rfl rfl rfl rfl rfl rfl h0
end Go.Proofs.YtbghlhhoafkmgaaDoor
/- The reference of chapter 8: a condition. -/
namespace Go.Proofs.YtbghlhhoafkmgaaDoor
open Go.RowKit
set_option linter.unusedVariables false
set_option linter.unusedSimpArgs false
set_option maxRecDepth 100000
set_option maxHeartbeats 2000000
set_option simprocs false
structure Cn where (kd th rg lc vl : Int)
def Cn.z : Cn := ⟨0, 0, 0, 0, 0⟩
def Cn.n (c : Cn) : Int := one0 c.kd c.th c.rg c.lc c.vl
def rightGo : List Cn → Int → Bool
 | [], h => h == 1
 | c :: r, h => if c.n < 0 ∨ c.n > h then false else rightGo r (h - c.n + 1)
def right (cs : List Cn) : Bool := if cs.length < 1 ∨ cs.length > 32 then false else rightGo cs 0
theorem orf {p q : Prop} [Decidable p] [Decidable q] (h : (decide p || decide q) = false) : ¬ p ∧ ¬ q := by simpa using h
theorem ort {p q : Prop} [Decidable p] [Decidable q] (h : (decide p || decide q) = true) : p ∨ q := by simpa using h
def RI (cs : List Cn) (i : Nat) (hv : Int) : Prop := i ≤ cs.length ∧ cs.length ≤ 32 ∧ 0 ≤ hv ∧ hv ≤ i ∧ right cs = rightGo (cs.drop i) hv
theorem RI.at {cs : List Cn} {i : Nat} {hv : Int} (h : RI cs i hv) (h2 : (i : Int) < (cs.length : Int)) : right cs = if (cs.getD ((i : Int)).toNat Cn.z).n < 0 ∨ (cs.getD ((i : Int)).toNat Cn.z).n > hv then false else rightGo (cs.drop (i + 1)) (hv - (cs.getD ((i : Int)).toNat Cn.z).n + 1) := by
  have hi : i < cs.length := by omega
  have e : cs.drop i = cs[i] :: cs.drop (i + 1) := List.drop_eq_getElem_cons hi
  have hg : cs.getD ((i : Int)).toNat Cn.z = cs[i] := by simp [List.getD, hi]
  rw [h.2.2.2.2, e, hg, rightGo]
theorem RI.step {cs : List Cn} {i : Nat} {hv n : Int} (h : RI cs i hv) (h2 : (i : Int) < (cs.length : Int)) (hn : (cs.getD ((i : Int)).toNat Cn.z).n = n) (h3 : (decide (n < 0) || decide (n > hv)) = false) : RI cs (i + 1) (hv - n + 1) := by
  have h4 := orf h3
  have := h.at h2
  rw [hn, if_neg (by omega)] at this
  exact ⟨by omega, h.2.1, by omega, by have := h.2.2; omega, this⟩
theorem RI.stop {cs : List Cn} {i : Nat} {hv n : Int} (h : RI cs i hv) (h2 : (i : Int) < (cs.length : Int)) (hn : (cs.getD ((i : Int)).toNat Cn.z).n = n) (h3 : (decide (n < 0) || decide (n > hv)) = true) : right cs = false := by
  have h4 := ort h3
  have := h.at h2
  rwa [hn, if_pos (by omega)] at this
theorem RI.done {cs : List Cn} {i : Nat} {hv : Int} (h : RI cs i hv) (h2 : ¬ (i : Int) < (cs.length : Int)) : right cs = (hv == 1) := by
  have : cs.drop i = [] := List.drop_eq_nil_of_le (by have := h.1; omega)
  rw [h.2.2.2.2, this, rightGo]
theorem right0 {cs : List Cn} (h : (decide ((cs.length : Int) < 1) || decide ((cs.length : Int) > 32)) = true) : right cs = false := by
  have := ort h
  rw [right, if_pos (by omega)]
theorem RI.init {cs : List Cn} (h : (decide ((cs.length : Int) < 1) || decide ((cs.length : Int) > 32)) = false) : RI cs 0 0 := by
  have := orf h
  exact ⟨by omega, by omega, by omega, by omega, by rw [right, if_neg (by omega)]; rfl⟩
theorem rright_ (cs : List Cn) (c : Nat) (hc : cs.length < 100000) : Fn Tryd.prog 12 [.sl 0 cs.length c] [some (.lst 5 cs.length (fun k => [.int .i64 (cs.getD k Cn.z).kd, .int .i64 (cs.getD k Cn.z).th, .int .i64 (cs.getD k Cn.z).rg, .int .i64 (cs.getD k Cn.z).lc, .int .i64 (cs.getD k Cn.z).vl]))] (Rt (.bool (right cs)) [some (.lst 5 cs.length (fun k => [.int .i64 (cs.getD k Cn.z).kd, .int .i64 (cs.getD k Cn.z).th, .int .i64 (cs.getD k Cn.z).rg, .int .i64 (cs.getD k Cn.z).lc, .int .i64 (cs.getD k Cn.z).vl]))]) :=
 enterM (n := 38) (by kernel_rfl) Tryd.func12 rfl rfl rfl fun G w a h0 A => N hX 18 A rfl rfl fun A => fork 13 A rfl
  (fun h1 A => N hX 7 A rfl rfl fun A => RETN hX A rfl rfl rfl h0 rfl rfl rfl rfl (by rw [right0 h1]; rfl) rfl)
  (fun h1 A => N hX 15 A rfl rfl fun A => LOOP2 (fun (i : Nat) (hv : Int) => [(0, .sl 0 cs.length c), (2, .ff), (3, .int .i64 hv), (4, .int .i64 (i : Int))]) (fun (i : Nat) (hv : Int) => [some (.lst 5 cs.length (fun k => [.int .i64 (cs.getD k Cn.z).kd, .int .i64 (cs.getD k Cn.z).th, .int .i64 (cs.getD k Cn.z).rg, .int .i64 (cs.getD k Cn.z).lc, .int .i64 (cs.getD k Cn.z).vl]))]) (fun (i : Nat) (hv : Int) => RI cs i hv) (fun (i : Nat) (hv : Int) => cs.length - i) 0 0 (RI.init h1) ((A.cut [0, 2, 3, 4] rfl).trunc 1 rfl rfl rfl (by simp only [List.length_cons, List.length_nil] at h0; omega)) fun i hv hI {G a w} A => N hX 9 A rfl rfl fun A => forkD 17 A rfl
    (fun h2 A => N hX 11 A rfl (ok_d (by have := orf h1; unfold RI at hI; omega) <| ok_d (by have := orf h1; unfold RI at hI; omega) <| okE_nil) fun A => CALL1 [] (one_ ((cs.getD ((i : Int)).toNat Cn.z).kd) ((cs.getD ((i : Int)).toNat Cn.z).th) ((cs.getD ((i : Int)).toNat Cn.z).rg) ((cs.getD ((i : Int)).toNat Cn.z).lc) ((cs.getD ((i : Int)).toNat Cn.z).vl)) A rfl rfl rfl rfl rfl rfl rfl fun A => N hX 15 A rfl rfl fun A => fork 31 A rfl
     (fun h3 A => N hX 7 A rfl rfl fun A => RETN hX A rfl rfl rfl h0 rfl rfl rfl rfl (by rw [RI.stop hI h2 rfl h3]; rfl) rfl)
     (fun h3 A => N hX 12 A rfl (ok_d (by have := orf h1; have := orf h3; unfold RI at hI; omega) <| ok_d (by have := orf h1; have := orf h3; unfold RI at hI; omega) <| okE_nil) fun A => N hX 5 A rfl (ok_d (by have := orf h1; have := orf h3; unfold RI at hI; omega) <| okE_nil) fun A => ⟨i + 1, _, _, (by omega), (RI.step hI h2 rfl h3), ((A.cut [0, 2, 3, 4] rfl).trunc 1 rfl rfl rfl (by simp only [List.length_cons, List.length_nil] at h0; omega))⟩))
    (fun h2 A => N hX 11 A rfl rfl fun A => RETN hX A rfl rfl rfl h0 rfl rfl rfl rfl (by rw [RI.done hI h2]; rfl) rfl))
end Go.Proofs.YtbghlhhoafkmgaaDoor
/- The reference of chapter 8: which outcome comes ahead. -/
namespace Go.Proofs.YtbghlhhoafkmgaaDoor
open Go.RowKit
set_option linter.unusedVariables false
set_option linter.unusedSimpArgs false
set_option maxRecDepth 100000
set_option maxHeartbeats 2000000
set_option simprocs false
structure LI (p q : O) (n m k : Nat) : Prop where
  le : k ≤ m
  eq : lessO p q = lx p q (27 - (n + k)) (n + k)
theorem LI.at {p q : O} {n m k : Nat} (h : LI p q n m k) (hk : n + k < 27) : lessO p q = if p (n + k) = q (n + k) then lx p q (27 - (n + (k + 1))) (n + (k + 1)) else decide (p (n + k) < q (n + k)) := by
  rw [h.eq, show 27 - (n + k) = (27 - (n + (k + 1))) + 1 by omega, lx]; rfl
theorem LI.step {p q : O} {n m k : Nat} (h : LI p q n m k) (hk : n + k < 27) (hm : k < m) (e : p (n + k) = q (n + k)) : LI p q n m (k + 1) := ⟨hm, by rw [h.at hk, if_pos e]⟩
theorem LI.stop {p q : O} {n m k : Nat} (h : LI p q n m k) (hk : n + k < 27) (e : p (n + k) ≠ q (n + k)) : lessO p q = decide (p (n + k) < q (n + k)) := by rw [h.at hk, if_neg e]
theorem LI.re {p q : O} {n m k n' m' k' : Nat} (h : LI p q n m k) (e : n' + k' = n + k) (hm : k' ≤ m') : LI p q n' m' k' := ⟨hm, by rw [h.eq, e]⟩
theorem LI.done {p q : O} {k : Nat} (h : LI p q 24 3 k) (e : k = 3) : lessO p q = false := by subst e; rw [h.eq]; rfl
theorem rless_ (p : O) (q : O)  : Fn Tryd.prog 20 [.agg (oc p), .agg (oc q)] [] (Rt (.bool (lessO p q)) []) :=
 enterM (n := 64) (by kernel_rfl) Tryd.func20 rfl rfl rfl fun G w a h0 A => N hX 14 A rfl rfl fun A => LOOP1 (fun (t : Nat) => [(2, .ptr 0 0), (3, .ptr 1 0), (4, .ff), (5, .int .i64 (t : Int))]) (fun (t : Nat) => [some (.blk (oc p)), some (.blk (oc q))]) (fun (t : Nat) => LI p q (8 * t) 0 0 ∧ t ≤ 3) (fun (t : Nat) => 3 - t) 0 ⟨⟨by omega, rfl⟩, by omega⟩ ((A.cut [2, 3, 4, 5] rfl).trunc 2 rfl rfl rfl (by simp only [List.length_cons, List.length_nil] at h0; omega)) fun t hI {G a w} A => N hX 7 A rfl rfl fun A => forkD 9 A rfl
   (fun h1 A => N hX 11 A rfl rfl fun A => LOOP1 (fun (r : Nat) => [(2, .ptr 0 0), (3, .ptr 1 0), (4, .ff), (5, .int .i64 (t : Int)), (6, .int .i64 (r : Int))]) (fun (r : Nat) => [some (.blk (oc p)), some (.blk (oc q))]) (fun (r : Nat) => LI p q (8 * t) 8 r) (fun (r : Nat) => 8 - r) 0 (hI.1.re (by omega) (by omega)) ((A.cut [2, 3, 4, 5, 6] rfl).trunc 2 rfl rfl rfl (by simp only [List.length_cons, List.length_nil] at h0; omega)) fun r hJ {G a w} A => N hX 7 A rfl rfl fun A => forkD 13 A rfl
     (fun h2 A => N hX 6 A rfl rfl fun A => DRAWN hX hmo [] [] A rfl (ok_d (by omega) <| ok_d (by omega) <| ok_d (by omega) <| ok_d (by omega) <| ok_d (by omega) <| ok_d (by omega) <| ok_d (by omega) <| ok_d (by omega) <| okE_nil) rfl rfl (by kernel_rfl) (effAll_nil _ _) trivial fun A => N hX 1 A rfl rfl fun A => forkN 28 A rfl
      (fun h3 A => N hX 2 A rfl rfl fun A => DRAWN hX hmo [] [] A rfl (ok_d (by omega) <| ok_d (by omega) <| ok_d (by omega) <| ok_d (by omega) <| ok_d (by omega) <| ok_d (by omega) <| ok_d (by omega) <| ok_d (by omega) <| okE_nil) rfl rfl (by kernel_rfl) (effAll_nil _ _) trivial fun A => N hX 2 A rfl rfl fun A => RETN hX A rfl rfl rfl h0 rfl rfl rfl rfl (by rw [s24 p h1 h2, s24 q h1 h2] at h3 ⊢; rw [hJ.stop (by omega) h3]; rfl) rfl)
      (fun h3 A => N hX 9 A rfl (ok_d (by omega) <| okE_nil) fun A => ⟨r + 1, _, (by omega), (hJ.step (by omega) (by omega) (by rwa [s24 p h1 h2, s24 q h1 h2] at h3)), ((A.cut [2, 3, 4, 5, 6] rfl).trunc 2 rfl rfl rfl (by simp only [List.length_cons, List.length_nil] at h0; omega))⟩))
     (fun h2 A => N hX 9 A rfl (ok_d (by omega) <| okE_nil) fun A => ⟨t + 1, _, (by omega), ⟨hJ.re (by have := hJ.le; omega) (by omega), (by omega)⟩, ((A.cut [2, 3, 4, 5] rfl).trunc 2 rfl rfl rfl (by simp only [List.length_cons, List.length_nil] at h0; omega))⟩))
   (fun h1 A => N hX 10 A rfl rfl fun A => LOOP1 (fun (k : Nat) => [(2, .ptr 0 0), (3, .ptr 1 0), (4, .ff), (7, .int .i64 (k : Int))]) (fun (k : Nat) => [some (.blk (oc p)), some (.blk (oc q))]) (fun (k : Nat) => LI p q 24 3 k) (fun (k : Nat) => 3 - k) 0 (hI.1.re (by omega) (by omega)) ((A.cut [2, 3, 4, 7] rfl).trunc 2 rfl rfl rfl (by simp only [List.length_cons, List.length_nil] at h0; omega)) fun k hK {G a w} A => N hX 7 A rfl rfl fun A => forkD 43 A rfl
     (fun h4 A => N hX 6 A rfl rfl fun A => DRAWN hX hmo [] [] A rfl (ok_d (by omega) <| ok_d (by omega) <| ok_d (by omega) <| ok_d (by omega) <| okE_nil) rfl rfl (by kernel_rfl) (effAll_nil _ _) trivial fun A => N hX 1 A rfl rfl fun A => forkN 54 A rfl
      (fun h5 A => N hX 2 A rfl rfl fun A => DRAWN hX hmo [] [] A rfl (ok_d (by omega) <| ok_d (by omega) <| ok_d (by omega) <| ok_d (by omega) <| okE_nil) rfl rfl (by kernel_rfl) (effAll_nil _ _) trivial fun A => N hX 2 A rfl rfl fun A => RETN hX A rfl rfl rfl h0 rfl rfl rfl rfl (by rw [s3 p h4, s3 q h4] at h5 ⊢; rw [hK.stop (by omega) h5]; rfl) rfl)
      (fun h5 A => N hX 9 A rfl (ok_d (by omega) <| okE_nil) fun A => ⟨k + 1, _, (by omega), (hK.step (by omega) (by omega) (by rwa [s3 p h4, s3 q h4] at h5)), ((A.cut [2, 3, 4, 7] rfl).trunc 2 rfl rfl rfl (by simp only [List.length_cons, List.length_nil] at h0; omega))⟩))
     (fun h4 A => N hX 9 A rfl rfl fun A => RETN hX A rfl rfl rfl h0 rfl rfl rfl rfl (by rw [hK.done (by have := hK.le; omega)]; rfl) rfl))
end Go.Proofs.YtbghlhhoafkmgaaDoor
/- The reference of chapter 8: outcomes in their order. -/
namespace Go.Proofs.YtbghlhhoafkmgaaDoor
open Go.RowKit
set_option linter.unusedVariables false
set_option linter.unusedSimpArgs false
set_option maxRecDepth 100000
set_option maxHeartbeats 2000000
set_option simprocs false
def posO (l : List O) (x : O) : Nat := (l.takeWhile fun p => lessO p x).length
def putO (l : List O) (x : O) (k : Nat) : List O := l.take k ++ x :: l.drop k
def insO (l : List O) (x : O) : List O := if (decide (posO l x < l.length) && eqO (l.getD (posO l x) oz) x) = true then l else putO l x (posO l x)
def sortO (os : List O) : List O := os.foldl insO []
def mvO (l : List O) (x : O) (j : Nat) : List O := (l ++ [x]).take (j + 1) ++ l.drop j
structure SI (os : List O) (l : List O) (i : Nat) : Prop where
  le : i ≤ os.length
  eq : l = sortO (os.take i)
  ll : l.length ≤ i
structure PI (l : List O) (x : O) (k : Nat) : Prop where
  le : k ≤ l.length
  eq : k + posO (l.drop k) x = posO l x
theorem PI.step {l : List O} {x : O} {k : Nat} (h : PI l x k) (h2 : (decide ((k : Int) < ((l.length : Nat) : Int)) && lessO (l.getD ((k : Int)).toNat oz) x) = true) : PI l x (k + 1) := by
  rw [Bool.and_eq_true, decide_eq_true_eq] at h2
  have hk : k < l.length := by omega
  refine ⟨hk, ?_⟩
  have e : l.drop k = l[k] :: l.drop (k + 1) := List.drop_eq_getElem_cons hk
  have hg : l.getD ((k : Int)).toNat oz = l[k] := by simp [List.getD, hk]
  rw [hg] at h2
  have := h.eq
  unfold posO at this ⊢
  rw [e, List.takeWhile_cons, if_pos h2.2, List.length_cons] at this
  omega
theorem PI.stop {l : List O} {x : O} {k : Nat} (h : PI l x k) (h2 : (decide ((k : Int) < ((l.length : Nat) : Int)) && lessO (l.getD ((k : Int)).toNat oz) x) = false) : posO l x = k := by
  rw [← h.eq]
  have : posO (l.drop k) x = 0 := by
    by_cases hk : k < l.length
    · have e : l.drop k = l[k] :: l.drop (k + 1) := List.drop_eq_getElem_cons hk
      have hg : l.getD ((k : Int)).toNat oz = l[k] := by simp [List.getD, hk]
      rw [hg] at h2
      have h3 : lessO l[k] x = false := by
        rw [decide_eq_true (by omega), Bool.true_and] at h2; exact h2
      unfold posO
      rw [e, List.takeWhile_cons, if_neg (by rw [h3]; simp)]; rfl
    · have : l.drop k = [] := List.drop_eq_nil_of_le (by omega)
      rw [this]; rfl
  omega
theorem SI.next {os l : List O} {i : Nat} (h : SI os l i) (hi : (i : Int) < ((os.length : Nat) : Int)) {l' : List O} (e : l' = insO l (os.getD ((i : Int)).toNat oz)) : SI os l' (i + 1) := by
  have hi' : i < os.length := by omega
  have hg : os.getD ((i : Int)).toNat oz = os[i] := by simp [List.getD, hi']
  refine ⟨hi', ?_, ?_⟩
  · rw [e, hg, h.eq, sortO, sortO, List.take_succ_eq_append_getElem hi', List.foldl_append]; rfl
  · have := h.ll
    rw [e]; unfold insO putO; split
    · omega
    · simp; omega
theorem ins_same {l : List O} {x : O} {k : Nat} (hp : posO l x = k) (h : (decide ((k : Int) < ((l.length : Nat) : Int)) && eqO (l.getD ((k : Int)).toNat oz) x) = true) : l = insO l x := by
  unfold insO
  rw [hp, if_pos]
  simpa using h
theorem ins_put {l : List O} {x : O} {k : Nat} (hp : posO l x = k) (h : (decide ((k : Int) < ((l.length : Nat) : Int)) && eqO (l.getD ((k : Int)).toNat oz) x) = false) : putO l x k = insO l x := by
  unfold insO
  rw [hp, if_neg]
  intro h2
  have h3 : (decide ((k : Int) < ((l.length : Nat) : Int)) && eqO (l.getD ((k : Int)).toNat oz) x) = true := by simpa using h2
  rw [h3] at h; cases h
theorem SI.done {os l : List O} {i : Nat} (h : SI os l i) (hi : ¬ (i : Int) < ((os.length : Nat) : Int)) : sortO os = l := by
  rw [h.eq, List.take_of_length_le (by omega)]
theorem mv_len {l : List O} {x : O} {j : Nat} (h : j ≤ l.length) : (mvO l x j).length = l.length + 1 := by unfold mvO; simp; omega
theorem mv_get {l : List O} {x : O} {j q : Nat} (h : j ≤ l.length) : (mvO l x j).getD q oz = if q ≤ j then (l ++ [x]).getD q oz else l.getD (q - 1) oz := by
  unfold mvO
  by_cases hq : q ≤ j
  · rw [if_pos hq]
    simp only [List.getD]
    rw [List.getElem?_append_left (by simp; omega), List.getElem?_take_of_lt (by omega)]
  · rw [if_neg hq]
    simp only [List.getD]
    rw [List.getElem?_append_right (by simp; omega), List.getElem?_drop]
    congr 2
    simp; omega
theorem put_get {l : List O} {x : O} {k q : Nat} (h : k ≤ l.length) : (putO l x k).getD q oz = if q < k then l.getD q oz else if q = k then x else l.getD (q - 1) oz := by
  unfold putO
  simp only [List.getD]
  by_cases hq : q < k
  · rw [if_pos hq, List.getElem?_append_left (by simp; omega), List.getElem?_take_of_lt hq]
  · rw [if_neg hq, List.getElem?_append_right (by simp; omega)]
    by_cases hk : q = k
    · subst hk; simp [Nat.min_eq_left h]
    · rw [if_neg hk, show q - (l.take k).length = (q - k - 1) + 1 by simp; omega, List.getElem?_cons_succ, List.getElem?_drop]
      congr 2; omega
theorem mv_start {l : List O} {x : O} {q : Nat} : (mvO l x l.length).getD q oz = (l ++ [x]).getD q oz := by
  rw [mv_get (Nat.le_refl _)]
  split
  · rfl
  · next h => simp only [List.getD]; rw [List.getElem?_eq_none (by omega), List.getElem?_eq_none (by simp; omega)]
theorem mv_ne {l : List O} {x : O} {j q : Nat} (h : j + 1 ≤ l.length) (hq : q ≠ j + 1) : (mvO l x j).getD q oz = (mvO l x (j + 1)).getD q oz := by
  rw [mv_get (by omega), mv_get h]
  by_cases h1 : q ≤ j
  · rw [if_pos h1, if_pos (by omega)]
  · rw [if_neg h1, if_neg (by omega)]
theorem mv_at {l : List O} {x : O} {j : Nat} (h : j + 1 ≤ l.length) : (mvO l x j).getD (j + 1) oz = (mvO l x (j + 1)).getD j oz := by
  rw [mv_get (by omega), mv_get h, if_neg (by omega), if_pos (by omega)]
  simp only [List.getD]; rw [List.getElem?_append_left (by omega)]; rfl
theorem fin_ne {l : List O} {x : O} {k q : Nat} (h : k ≤ l.length) (hq : q ≠ k) : (putO l x k).getD q oz = (mvO l x k).getD q oz := by
  rw [put_get h, mv_get h]
  by_cases h1 : q < k
  · rw [if_pos h1, if_pos (by omega)]; simp only [List.getD]; rw [List.getElem?_append_left (by omega)]
  · rw [if_neg h1, if_neg hq, if_neg (by omega)]
theorem fin_at {l : List O} {x : O} {k : Nat} (h : k ≤ l.length) : (putO l x k).getD k oz = x := by rw [put_get h, if_neg (by omega), if_pos rfl]

end Go.Proofs.YtbghlhhoafkmgaaDoor
/- The reference of chapter 8: outcomes in their order. -/
namespace Go.Proofs.YtbghlhhoafkmgaaDoor
open Go.RowKit
set_option linter.unusedVariables false
set_option linter.unusedSimpArgs false
set_option maxRecDepth 100000
set_option maxHeartbeats 2000000
set_option simprocs false
theorem mv_ne' {l : List O} {x : O} {j q : Nat} (h : j ≤ l.length) (h0 : 0 < j) (hq : q ≠ j) : (mvO l x (j - 1)).getD q oz = (mvO l x j).getD q oz := by
  obtain ⟨i, rfl⟩ : ∃ i, j = i + 1 := ⟨j - 1, by omega⟩
  exact mv_ne h hq
theorem mv_at' {l : List O} {x : O} {j : Nat} (h : j ≤ l.length) (h0 : 0 < j) : (mvO l x (j - 1)).getD j oz = (mvO l x j).getD ((j : Int) - 1).toNat oz := by
  obtain ⟨i, rfl⟩ : ∃ i, j = i + 1 := ⟨j - 1, by omega⟩
  rw [show ((i + 1 : Nat) : Int) - 1 = (i : Int) by omega]
  exact mv_at h
theorem put_len {l : List O} {x : O} {k : Nat} (h : k ≤ l.length) : (putO l x k).length = l.length + 1 := by unfold putO; simp; omega
theorem rsort_ (os : List O) (cc : Nat) (hc : os.length ≤ 1000000) : Fn Tryd.prog 18 [.sl 0 os.length cc] [some (.lst 27 os.length (fun z => oc ((os).getD z oz)))] (Rt (.sl 1 (sortO os).length 0) [some (.lst 27 os.length (fun z => oc ((os).getD z oz))), some (.row 26 27 ((sortO os).length) 0 (fun z => oc ((sortO os).getD z oz)))]) :=
 enterM (n := 76) (by kernel_rfl) Tryd.func18 rfl rfl rfl fun G w a h0 A => N hX 17 A rfl rfl fun A => have A := A.nilRow 3 26 27 (fun z => oc ((([] : List O)).getD z oz)) rfl (fun z => ⟨_, rfl, rfl⟩); LOOP2 (fun (l : List O) (i : Nat) => [(0, .sl 0 os.length cc), (2, .sla none 0 0), (3, .sl 1 l.length 0), (4, .int .i64 (i : Int))]) (fun (l : List O) (i : Nat) => [some (.lst 27 os.length (fun z => oc ((os).getD z oz))), some (.row 26 27 l.length 0 (fun z => oc ((l).getD z oz)))]) (fun (l : List O) (i : Nat) => SI os l i) (fun (l : List O) (i : Nat) => os.length - i) [] 0 ⟨by omega, rfl, by simp⟩ ((A.cut [0, 2, 3, 4] rfl).trunc 2 rfl rfl rfl (by simp only [List.length_cons, List.length_nil] at h0; omega)) fun l i hI {G a w} A => N hX 9 A rfl rfl fun A => forkD 10 A rfl
   (fun h1 A => N hX 12 A rfl rfl fun A => LOOP1 (fun (k : Nat) => [(0, .sl 0 os.length cc), (2, .sla none 0 0), (3, .sl 1 l.length 0), (4, .int .i64 (i : Int)), (5, .int .i64 (k : Int))]) (fun (k : Nat) => [some (.lst 27 os.length (fun z => oc ((os).getD z oz))), some (.row 26 27 l.length 0 (fun z => oc ((l).getD z oz)))]) (fun (k : Nat) => PI l (os.getD ((i : Int)).toNat oz) k) (fun (k : Nat) => l.length - k) 0 ⟨by omega, by simp⟩ ((A.cut [0, 2, 3, 4, 5] rfl).trunc 2 rfl rfl rfl (by simp only [List.length_cons, List.length_nil] at h0; omega)) fun k hJ {G a w} A => N hX 2 A rfl rfl fun A => DRAWN hX hmo [(13, .opt (decide ((k : Int) < ((l.length : Nat) : Int))) (.bool (lessO ((l).getD (((k : Int)).toNat) oz) ((os).getD (((i : Int)).toNat) oz))))] [] A rfl (ok_r <| ok_r <| ok_g (fun hg => (by have := hI.ll; have := hI.le; (try have := hJ.le); have hg := of_decide_eq_true hg; omega)) <| ok_r <| ok_g (fun hg => (by have := hI.ll; have := hI.le; (try have := hJ.le); have hg := of_decide_eq_true hg; omega)) <| ok_r <| ok_r <| ok_g (fun hg => (by have := hI.ll; have := hI.le; (try have := hJ.le); have hg := of_decide_eq_true hg; omega)) <| ok_r <| ok_g (fun hg => (by have := hI.ll; have := hI.le; (try have := hJ.le); have hg := of_decide_eq_true hg; omega)) <| ok_r <| okE_nil) rfl rfl (by kernel_rfl) (effAll_nil _ _) ⟨.inr ⟨_, _, _, _, _, _, rfl, rfl, rfl, rfl, rfl, fun hg => rless_ ((l).getD (((k : Int)).toNat) oz) ((os).getD (((i : Int)).toNat) oz)⟩, trivial⟩ fun A => N hX 1 A rfl rfl fun A => fork 27 A rfl
     (fun h2 A => N hX 10 A rfl (ok_d (by have := hI.ll; have := hI.le; (try have := hJ.le); omega) <| okE_nil) fun A => ⟨k + 1, _, (by have := (hJ.step h2).le; omega), (hJ.step h2), ((A.cut [0, 2, 3, 4, 5] rfl).trunc 2 rfl rfl rfl (by simp only [List.length_cons, List.length_nil] at h0; omega))⟩)
     (fun h2 A => N hX 5 A rfl rfl fun A => DRAWN hX hmo [] [] A rfl (ok_r <| ok_r <| ok_g (fun hg => (by have := hI.ll; have := hI.le; (try have := hJ.le); have hg := of_decide_eq_true hg; omega)) <| ok_r <| ok_g (fun hg => (by have := hI.ll; have := hI.le; (try have := hJ.le); have hg := of_decide_eq_true hg; omega)) <| ok_r <| ok_r <| ok_g (fun hg => (by have := hI.ll; have := hI.le; (try have := hJ.le); have hg := of_decide_eq_true hg; omega)) <| ok_r <| ok_g (fun hg => (by have := hI.ll; have := hI.le; (try have := hJ.le); have hg := of_decide_eq_true hg; omega)) <| ok_r <| ok_r <| ok_r <| okE_nil) rfl rfl (by kernel_rfl) (effAll_nil _ _) trivial fun A => N hX 1 A rfl rfl fun A => fork 44 A rfl
      (fun h3 A => N hX 8 A rfl (ok_d (by have := hI.ll; have := hI.le; (try have := hJ.le); omega) <| okE_nil) fun A => ⟨l, i + 1, _, (by omega), (hI.next h1 (ins_same (hJ.stop h2) h3)), ((A.cut [0, 2, 3, 4] rfl).trunc 2 rfl rfl rfl (by simp only [List.length_cons, List.length_nil] at h0; omega))⟩)
      (fun h3 A => N hX 11 A rfl (ok_d (by have := hI.ll; have := hI.le; (try have := hJ.le); omega) <| ok_d (by have := hI.ll; have := hI.le; (try have := hJ.le); omega) <| okE_nil) fun A => APP1 hX (l.length + 1) (fun z => oc ((mvO l (os.getD ((i : Int)).toNat oz) l.length).getD z oz)) A rfl rfl rfl rfl (by have := hI.ll; have := hI.le; omega) rfl (fun z hz => by show oc _ = oc _; rw [mv_start, getD_app_l hz]) (by show oc _ = _; rw [mv_start, getD_app_1]) (fun z => ⟨_, rfl, rfl⟩) fun A => N hX 13 A rfl (ok_d (by have := hI.ll; have := hI.le; (try have := hJ.le); omega) <| okE_nil) fun A => have A := A.say 6 (.int .i64 ((l.length : Nat) : Int)) rfl (by congr 1; omega); LOOP1 (fun (j : Nat) => [(0, .sl 0 os.length cc), (2, .sla none 0 0), (3, .sl 3 (l.length + 1) 0), (4, .int .i64 (i : Int)), (5, .int .i64 (k : Int)), (6, .int .i64 (j : Int))]) (fun (j : Nat) => [some (.lst 27 os.length (fun z => oc ((os).getD z oz))), none, some (.blk (oc ((os).getD (((i : Int)).toNat) oz))), some (.row 26 27 (l.length + 1) 0 (fun z => oc ((mvO l (os.getD ((i : Int)).toNat oz) j).getD z oz)))]) (fun (j : Nat) => k ≤ j ∧ j ≤ l.length) (fun (j : Nat) => j) l.length ⟨hJ.le, Nat.le_refl _⟩ ((A.cut [0, 2, 3, 4, 5, 6] rfl).trunc 4 rfl rfl rfl (by simp only [List.length_cons, List.length_nil] at h0; omega)) fun j hM {G a w} A => N hX 8 A rfl rfl fun A => forkD 57 A rfl
        (fun h4 A => N hX 14 A rfl (ok_d (by have := hI.ll; have := hI.le; (try have := hJ.le); omega) <| ok_d (by have := hI.ll; have := hI.le; (try have := hJ.le); omega) <| ok_d (by have := hI.ll; have := hI.le; (try have := hJ.le); omega) <| ok_d (by have := hI.ll; have := hI.le; (try have := hJ.le); omega) <| okE_nil) fun A => STR hX j (fun z => oc ((mvO l (os.getD ((i : Int)).toNat oz) (j - 1)).getD z oz)) A rfl rfl rfl (by omega) (fun q hq => by show oc _ = oc _; rw [mv_ne' hM.2 (by omega) hq]) (by show _ = some (oc _); rw [mv_at' hM.2 (by omega)]; rfl) fun A => N hX 8 A rfl (ok_d (by have := hI.ll; have := hI.le; (try have := hJ.le); omega) <| okE_nil) fun A => ⟨j - 1, _, (by omega), (by omega), ((A.cut [0, 2, 3, 4, 5, 6] rfl).trunc 4 rfl rfl rfl (by simp only [List.length_cons, List.length_nil] at h0; omega)).sayT (by rw [show ((j - 1 : Nat) : Int) = (j : Int) - 1 by omega])⟩)
        (fun h4 A => N hX 11 A rfl (ok_d (by have := hI.ll; have := hI.le; (try have := hJ.le); omega) <| ok_d (by have := hI.ll; have := hI.le; (try have := hJ.le); omega) <| ok_d (by have := hI.ll; have := hI.le; (try have := hJ.le); omega) <| okE_nil) fun A => STR hX k (fun z => oc ((putO l (os.getD ((i : Int)).toNat oz) k).getD z oz)) A rfl rfl rfl (by have := hJ.le; omega) (fun q hq => by show oc _ = oc _; rw [show j = k by omega, fin_ne hJ.le hq]) (by show _ = some (oc _); rw [fin_at hJ.le]; rfl) fun A => N hX 8 A rfl (ok_d (by have := hI.ll; have := hI.le; (try have := hJ.le); omega) <| okE_nil) fun A => ⟨putO l (os.getD ((i : Int)).toNat oz) k, i + 1, _, (by omega), (hI.next h1 (ins_put (hJ.stop h2) h3)), ((((A.rowAs 3 (putO l (os.getD ((i : Int)).toNat oz) k).length (fun z => oc ((putO l (os.getD ((i : Int)).toNat oz) k).getD z oz)) rfl (put_len hJ.le) (fun _ _ => rfl) (fun z => ⟨_, rfl, rfl⟩)).say 3 (.sl 3 (putO l (os.getD ((i : Int)).toNat oz) k).length 0) rfl (by rw [put_len hJ.le])).cut [0, 2, 3, 4] rfl).mv 1 [3] rfl rfl rfl rfl (by simp only [List.length_cons, List.length_nil] at h0; omega))⟩))))
   (fun h1 A => N hX 10 A rfl rfl fun A => RET hX [1] A ⟨by rw [hI.done h1], by rw [hI.done h1]⟩ rfl rfl rfl rfl rfl rfl rfl rfl h0)
end Go.Proofs.YtbghlhhoafkmgaaDoor
/- The reference of chapter 8: whether it holds. -/
namespace Go.Proofs.YtbghlhhoafkmgaaDoor
open Go.RowKit
set_option linter.unusedVariables false
set_option linter.unusedSimpArgs false
set_option maxRecDepth 100000
set_option maxHeartbeats 2000000
set_option simprocs false
def stepL (p : O) (c : Cn) (l : List Bool) : List Bool := if c.kd = 1 then l ++ [([[(p 0), (p 1), (p 2), (p 3), (p 4), (p 5), (p 6), (p 7)].getD (c.rg).toNat 0, [(p 8), (p 9), (p 10), (p 11), (p 12), (p 13), (p 14), (p 15)].getD (c.rg).toNat 0, [(p 16), (p 17), (p 18), (p 19), (p 20), (p 21), (p 22), (p 23)].getD (c.rg).toNat 0].getD (c.th).toNat 0) == (c.vl)] else if c.kd = 2 then l ++ [([(p 24), (p 25), (p 26)].getD (c.lc).toNat 0) == (c.vl)] else if c.kd = 3 then l.set (l.length - 1) (!((l).getD ((((l.length : Nat) : Int) - 1).toNat) false)) else if c.kd = 4 then (l.set (l.length - 2) (((l).getD ((((l.length : Nat) : Int) - 2).toNat) false) && ((l).getD ((((l.length : Nat) : Int) - 1).toNat) false))).take (l.length - 1) else if c.kd = 5 then (l.set (l.length - 2) (((l).getD ((((l.length : Nat) : Int) - 2).toNat) false) || ((l).getD ((((l.length : Nat) : Int) - 1).toNat) false))).take (l.length - 1) else l
theorem st1 {p : O} {c : Cn} {l : List Bool} (h : c.kd = 1) : stepL p c l = l ++ [([[(p 0), (p 1), (p 2), (p 3), (p 4), (p 5), (p 6), (p 7)].getD (c.rg).toNat 0, [(p 8), (p 9), (p 10), (p 11), (p 12), (p 13), (p 14), (p 15)].getD (c.rg).toNat 0, [(p 16), (p 17), (p 18), (p 19), (p 20), (p 21), (p 22), (p 23)].getD (c.rg).toNat 0].getD (c.th).toNat 0) == (c.vl)] := by unfold stepL; rw [if_pos h]
theorem st2 {p : O} {c : Cn} {l : List Bool} (h : c.kd = 2) : stepL p c l = l ++ [([(p 24), (p 25), (p 26)].getD (c.lc).toNat 0) == (c.vl)] := by unfold stepL; rw [if_neg (by omega), if_pos h]
theorem st3 {p : O} {c : Cn} {l : List Bool} (h : c.kd = 3) : stepL p c l = l.set (l.length - 1) (!((l).getD ((((l.length : Nat) : Int) - 1).toNat) false)) := by unfold stepL; rw [if_neg (by omega), if_neg (by omega), if_pos h]
theorem st4 {p : O} {c : Cn} {l : List Bool} (h : c.kd = 4) : stepL p c l = (l.set (l.length - 2) (((l).getD ((((l.length : Nat) : Int) - 2).toNat) false) && ((l).getD ((((l.length : Nat) : Int) - 1).toNat) false))).take (l.length - 1) := by unfold stepL; rw [if_neg (by omega), if_neg (by omega), if_neg (by omega), if_pos h]
theorem st5 {p : O} {c : Cn} {l : List Bool} (h : c.kd = 5) : stepL p c l = (l.set (l.length - 2) (((l).getD ((((l.length : Nat) : Int) - 2).toNat) false) || ((l).getD ((((l.length : Nat) : Int) - 1).toNat) false))).take (l.length - 1) := by unfold stepL; rw [if_neg (by omega), if_neg (by omega), if_neg (by omega), if_neg (by omega), if_pos h]
def evalB (p : O) (cs : List Cn) : Bool := if right cs = true then (cs.foldl (fun l c => stepL p c l) []).getD 0 false else false
theorem cn_kind {c : Cn} (h : ¬ c.n < 0) : (c.kd = 1 ∧ c.n = 0 ∧ 0 ≤ c.th ∧ c.th < 3 ∧ 0 ≤ c.rg ∧ c.rg < 8) ∨ (c.kd = 2 ∧ c.n = 0 ∧ 0 ≤ c.lc ∧ c.lc < 3) ∨ (c.kd = 3 ∧ c.n = 1) ∨ (c.kd = 4 ∧ c.n = 2) ∨ (c.kd = 5 ∧ c.n = 2) := by
  unfold Cn.n at *
  unfold one0 at *
  by_cases h1 : c.kd = 1
  · rw [if_pos h1] at h ⊢
    left
    split at h
    · next hh =>
      simp only [Bool.and_eq_true, decide_eq_true_eq, ge_iff_le] at hh
      rw [if_pos (by simp only [Bool.and_eq_true, decide_eq_true_eq, ge_iff_le]; exact hh)]
      split at h
      · omega
      · next hz => rw [if_neg hz]; omega
    · omega
  rw [if_neg h1] at h ⊢
  by_cases h2 : c.kd = 2
  · rw [if_pos h2] at h ⊢
    right; left
    split at h
    · next hh =>
      rw [if_pos hh]
      simp only [Bool.and_eq_true, decide_eq_true_eq, ge_iff_le] at hh
      split at h
      · omega
      · next hz => rw [if_neg hz]; omega
    · omega
  rw [if_neg h2] at h ⊢
  by_cases h3 : c.kd = 3
  · rw [if_pos h3] at h ⊢
    split at h
    · omega
    · next hz => rw [if_neg hz]; omega
  rw [if_neg h3] at h ⊢
  by_cases h4 : c.kd = 4
  · rw [if_pos h4] at h ⊢
    split at h
    · omega
    · next hz => rw [if_neg hz]; omega
  rw [if_neg h4] at h ⊢
  by_cases h5 : c.kd = 5
  · rw [if_pos h5] at h ⊢
    split at h
    · omega
    · next hz => rw [if_neg hz]; omega
  rw [if_neg h5] at h
  omega
structure EI (p : O) (cs : List Cn) (l : List Bool) (i : Nat) : Prop where
  le : i ≤ cs.length
  ll : l.length ≤ i
  rt : rightGo (cs.drop i) (l.length : Int) = true
  eq : l = (cs.take i).foldl (fun l c => stepL p c l) []
section
variable {p : O} {cs : List Cn} {l : List Bool} {i : Nat}
theorem right_of (h1 : (!(right cs)) = false) : right cs = true := by cases h : right cs <;> simp [h] at h1 ⊢
theorem EI.init (h1 : (!(right cs)) = false) : EI p cs [] 0 := by
  have h := right_of h1
  unfold right at h
  split at h
  · cases h
  · exact ⟨by omega, by simp, by simpa using h, rfl⟩
theorem EI.at (hI : EI p cs l i) (h2 : (i : Int) < ((cs.length : Nat) : Int)) : ¬ ((cs.getD ((i : Int)).toNat Cn.z).n < 0 ∨ (cs.getD ((i : Int)).toNat Cn.z).n > (l.length : Int)) ∧ rightGo (cs.drop (i + 1)) ((l.length : Int) - (cs.getD ((i : Int)).toNat Cn.z).n + 1) = true := by
  have hi : i < cs.length := by omega
  have e : cs.drop i = cs[i] :: cs.drop (i + 1) := List.drop_eq_getElem_cons hi
  have hg : (cs.getD ((i : Int)).toNat Cn.z) = cs[i] := by simp [List.getD, hi]
  have h := hI.rt
  rw [e, rightGo] at h
  rw [hg]
  split at h
  · cases h
  · next hh => exact ⟨hh, h⟩
theorem EI.n1 (hI : EI p cs l i) (h1 : (!(right cs)) = false) (h2 : (i : Int) < ((cs.length : Nat) : Int)) (h : (cs.getD ((i : Int)).toNat Cn.z).kd = 1) : 0 ≤ (cs.getD ((i : Int)).toNat Cn.z).th ∧ (cs.getD ((i : Int)).toNat Cn.z).th < 3 ∧ 0 ≤ (cs.getD ((i : Int)).toNat Cn.z).rg ∧ (cs.getD ((i : Int)).toNat Cn.z).rg < 8 ∧ (cs.getD ((i : Int)).toNat Cn.z).n = 0 := by have := cn_kind (fun h => (hI.at h2).1 (.inl h)); omega
theorem EI.n2 (hI : EI p cs l i) (h1 : (!(right cs)) = false) (h2 : (i : Int) < ((cs.length : Nat) : Int)) (h : (cs.getD ((i : Int)).toNat Cn.z).kd = 2) : 0 ≤ (cs.getD ((i : Int)).toNat Cn.z).lc ∧ (cs.getD ((i : Int)).toNat Cn.z).lc < 3 ∧ (cs.getD ((i : Int)).toNat Cn.z).n = 0 := by have := cn_kind (fun h => (hI.at h2).1 (.inl h)); omega
theorem EI.n3 (hI : EI p cs l i) (h1 : (!(right cs)) = false) (h2 : (i : Int) < ((cs.length : Nat) : Int)) (h : (cs.getD ((i : Int)).toNat Cn.z).kd = 3) : 1 ≤ l.length ∧ (cs.getD ((i : Int)).toNat Cn.z).n = 1 := by have h3 := (hI.at h2).1; have := cn_kind (fun h => (hI.at h2).1 (.inl h)); omega
theorem EI.n4 (hI : EI p cs l i) (h1 : (!(right cs)) = false) (h2 : (i : Int) < ((cs.length : Nat) : Int)) (h : (cs.getD ((i : Int)).toNat Cn.z).kd = 4) : 2 ≤ l.length ∧ (cs.getD ((i : Int)).toNat Cn.z).n = 2 := by have h3 := (hI.at h2).1; have := cn_kind (fun h => (hI.at h2).1 (.inl h)); omega
theorem EI.n5 (hI : EI p cs l i) (h1 : (!(right cs)) = false) (h2 : (i : Int) < ((cs.length : Nat) : Int)) (h : (cs.getD ((i : Int)).toNat Cn.z).kd = 5) : 2 ≤ l.length ∧ (cs.getD ((i : Int)).toNat Cn.z).n = 2 := by have h3 := (hI.at h2).1; have := cn_kind (fun h => (hI.at h2).1 (.inl h)); omega
theorem EI.none (hI : EI p cs l i) (h1 : (!(right cs)) = false) (h2 : (i : Int) < ((cs.length : Nat) : Int)) (a1 : (cs.getD ((i : Int)).toNat Cn.z).kd ≠ 1) (a2 : (cs.getD ((i : Int)).toNat Cn.z).kd ≠ 2) (a3 : (cs.getD ((i : Int)).toNat Cn.z).kd ≠ 3) (a4 : (cs.getD ((i : Int)).toNat Cn.z).kd ≠ 4) (a5 : (cs.getD ((i : Int)).toNat Cn.z).kd ≠ 5) : False := by have := cn_kind (fun h => (hI.at h2).1 (.inl h)); omega
theorem EI.len1 (hI : EI p cs l i) (h1 : (!(right cs)) = false) (h2 : (i : Int) < ((cs.length : Nat) : Int)) (h : (cs.getD ((i : Int)).toNat Cn.z).kd = 1) : (stepL p (cs.getD ((i : Int)).toNat Cn.z) l).length = l.length + 1 := by rw [st1 h, List.length_append]; rfl
theorem EI.len2 (hI : EI p cs l i) (h1 : (!(right cs)) = false) (h2 : (i : Int) < ((cs.length : Nat) : Int)) (h : (cs.getD ((i : Int)).toNat Cn.z).kd = 2) : (stepL p (cs.getD ((i : Int)).toNat Cn.z) l).length = l.length + 1 := by rw [st2 h, List.length_append]; rfl
theorem EI.len3 (hI : EI p cs l i) (h1 : (!(right cs)) = false) (h2 : (i : Int) < ((cs.length : Nat) : Int)) (h : (cs.getD ((i : Int)).toNat Cn.z).kd = 3) : (stepL p (cs.getD ((i : Int)).toNat Cn.z) l).length = l.length := by rw [st3 h, List.length_set]
theorem EI.len4 (hI : EI p cs l i) (h1 : (!(right cs)) = false) (h2 : (i : Int) < ((cs.length : Nat) : Int)) (h : (cs.getD ((i : Int)).toNat Cn.z).kd = 4) : (stepL p (cs.getD ((i : Int)).toNat Cn.z) l).length = l.length - 1 := by rw [st4 h, List.length_take, List.length_set]; omega
theorem EI.len5 (hI : EI p cs l i) (h1 : (!(right cs)) = false) (h2 : (i : Int) < ((cs.length : Nat) : Int)) (h : (cs.getD ((i : Int)).toNat Cn.z).kd = 5) : (stepL p (cs.getD ((i : Int)).toNat Cn.z) l).length = l.length - 1 := by rw [st5 h, List.length_take, List.length_set]; omega
theorem EI.next (hI : EI p cs l i) (h1 : (!(right cs)) = false) (h2 : (i : Int) < ((cs.length : Nat) : Int)) : EI p cs (stepL p (cs.getD ((i : Int)).toNat Cn.z) l) (i + 1) := by
  have hi : i < cs.length := by omega
  have hg : (cs.getD ((i : Int)).toNat Cn.z) = cs[i] := by simp [List.getD, hi]
  have ⟨k1, k2⟩ := hI.at h2
  have hl : ((stepL p (cs.getD ((i : Int)).toNat Cn.z) l).length : Int) = (l.length : Int) - (cs.getD ((i : Int)).toNat Cn.z).n + 1 := by
    rcases cn_kind (fun h => k1 (.inl h)) with h | h | h | h | h
    · rw [hI.len1 h1 h2 h.1]; omega
    · rw [hI.len2 h1 h2 h.1]; omega
    · rw [hI.len3 h1 h2 h.1]; omega
    · rw [hI.len4 h1 h2 h.1]; have := hI.n4 h1 h2 h.1; omega
    · rw [hI.len5 h1 h2 h.1]; have := hI.n5 h1 h2 h.1; omega
  refine ⟨hi, by have := hI.ll; omega, by rw [hl]; exact k2, ?_⟩
  rw [List.take_succ_eq_append_getElem hi, List.foldl_append, ← hI.eq, hg]; rfl
theorem EI.fin (hI : EI p cs l i) (h2 : ¬ (i : Int) < ((cs.length : Nat) : Int)) : l.length = 1 := by
  have h := hI.rt
  rw [List.drop_eq_nil_of_le (by omega), rightGo, beq_iff_eq] at h
  omega
theorem EI.done (hI : EI p cs l i) (h1 : (!(right cs)) = false) (h2 : ¬ (i : Int) < ((cs.length : Nat) : Int)) : evalB p cs = l.getD 0 false := by
  unfold evalB
  rw [if_pos (right_of h1)]
  have h := hI.eq
  rw [List.take_of_length_le (by omega)] at h
  rw [← h]
theorem eval_not (h1 : (!(right cs)) = true) : evalB p cs = false := by
  unfold evalB
  rw [if_neg (fun h => by rw [h] at h1; cases h1)]
end
theorem reval_ (p : O) (cs : List Cn) (cc : Nat) (hc : cs.length < 100000) : Fn Tryd.prog 13 [.agg (oc p), .sl 0 cs.length cc] [some (.lst 5 cs.length (fun k => [.int .i64 (cs.getD k Cn.z).kd, .int .i64 (cs.getD k Cn.z).th, .int .i64 (cs.getD k Cn.z).rg, .int .i64 (cs.getD k Cn.z).lc, .int .i64 (cs.getD k Cn.z).vl]))] (Rt (.bool (evalB p cs)) [some (.lst 5 cs.length (fun k => [.int .i64 (cs.getD k Cn.z).kd, .int .i64 (cs.getD k Cn.z).th, .int .i64 (cs.getD k Cn.z).rg, .int .i64 (cs.getD k Cn.z).lc, .int .i64 (cs.getD k Cn.z).vl]))]) :=
 enterM (n := 116) (by kernel_rfl) Tryd.func13 rfl rfl rfl fun G w a h0 A => N hX 9 A rfl rfl fun A => CALL1 [0] (rright_ cs cc hc) A rfl rfl rfl rfl rfl rfl rfl fun A => N hX 10 A rfl rfl fun A => fork 13 A rfl
  (fun h1 A => N hX 7 A rfl rfl fun A => RETN hX A rfl rfl rfl h0 rfl rfl rfl rfl (by rw [eval_not h1]; rfl) rfl)
  (fun h1 A => N hX 15 A rfl rfl fun A => have A := A.nilRow 6 4 1 (fun z => [.bool ((([] : List Bool)).getD z false)]) rfl (fun z => ⟨_, rfl, rfl⟩); LOOP2 (fun (l : List Bool) (i : Nat) => [(1, .sl 0 cs.length cc), (2, .ptr 1 0), (4, .ff), (6, .sl 2 l.length 0), (7, .int .i64 (i : Int))]) (fun (l : List Bool) (i : Nat) => [some (.lst 5 cs.length (fun k => [.int .i64 (cs.getD k Cn.z).kd, .int .i64 (cs.getD k Cn.z).th, .int .i64 (cs.getD k Cn.z).rg, .int .i64 (cs.getD k Cn.z).lc, .int .i64 (cs.getD k Cn.z).vl])), some (.blk (oc p)), some (.row 4 1 l.length 0 (fun z => [.bool ((l).getD z false)]))]) (fun (l : List Bool) (i : Nat) => EI p cs l i) (fun (l : List Bool) (i : Nat) => cs.length - i) [] 0 (EI.init h1) ((A.cut [1, 2, 4, 6, 7] rfl).trunc 3 rfl rfl rfl (by simp only [List.length_cons, List.length_nil] at h0; omega)) fun l i hI {G a w} A => N hX 9 A rfl rfl fun A => forkD 17 A rfl
    (fun h2 A => N hX 16 A rfl (ok_d (by (try have := hI.ll); (try have := hI.le); omega) <| ok_d (by (try have := hI.ll); (try have := hI.le); omega) <| okE_nil) fun A => N hX 19 A rfl rfl fun A => forkE 28 A rfl
     (fun h3 A => N hX 1 A rfl rfl fun A => DRAWN hX hmo [] [(13, .sl 5 (l.length + 1) 0, [some (.lst 5 cs.length (fun k => [.int .i64 (cs.getD k Cn.z).kd, .int .i64 (cs.getD k Cn.z).th, .int .i64 (cs.getD k Cn.z).rg, .int .i64 (cs.getD k Cn.z).lc, .int .i64 (cs.getD k Cn.z).vl])), some (.blk (oc p)), none, some (.blk [.int .i64 ((cs.getD ((i : Int)).toNat Cn.z).kd), .int .i64 ((cs.getD ((i : Int)).toNat Cn.z).th), .int .i64 ((cs.getD ((i : Int)).toNat Cn.z).rg), .int .i64 ((cs.getD ((i : Int)).toNat Cn.z).lc), .int .i64 ((cs.getD ((i : Int)).toNat Cn.z).vl)]), some (.blk [.bool (([[(p 0), (p 1), (p 2), (p 3), (p 4), (p 5), (p 6), (p 7)].getD ((cs.getD ((i : Int)).toNat Cn.z).rg).toNat 0, [(p 8), (p 9), (p 10), (p 11), (p 12), (p 13), (p 14), (p 15)].getD ((cs.getD ((i : Int)).toNat Cn.z).rg).toNat 0, [(p 16), (p 17), (p 18), (p 19), (p 20), (p 21), (p 22), (p 23)].getD ((cs.getD ((i : Int)).toNat Cn.z).rg).toNat 0].getD ((cs.getD ((i : Int)).toNat Cn.z).th).toNat 0) == ((cs.getD ((i : Int)).toNat Cn.z).vl))]), some (.row 4 1 (l.length + 1) 0 (fun z => [.bool ((l ++ [([[(p 0), (p 1), (p 2), (p 3), (p 4), (p 5), (p 6), (p 7)].getD ((cs.getD ((i : Int)).toNat Cn.z).rg).toNat 0, [(p 8), (p 9), (p 10), (p 11), (p 12), (p 13), (p 14), (p 15)].getD ((cs.getD ((i : Int)).toNat Cn.z).rg).toNat 0, [(p 16), (p 17), (p 18), (p 19), (p 20), (p 21), (p 22), (p 23)].getD ((cs.getD ((i : Int)).toNat Cn.z).rg).toNat 0].getD ((cs.getD ((i : Int)).toNat Cn.z).th).toNat 0) == ((cs.getD ((i : Int)).toNat Cn.z).vl)]).getD z false)]))])] A rfl (ok_d (by (try have := hI.ll); (try have := hI.le); have := hI.n1 h1 h2 h3; omega) <| ok_d (by (try have := hI.ll); (try have := hI.le); have := hI.n1 h1 h2 h3; omega) <| ok_d (by (try have := hI.ll); (try have := hI.le); have := hI.n1 h1 h2 h3; omega) <| ok_d (by (try have := hI.ll); (try have := hI.le); have := hI.n1 h1 h2 h3; omega) <| ok_d (by (try have := hI.ll); (try have := hI.le); have := hI.n1 h1 h2 h3; omega) <| ok_d (by (try have := hI.ll); (try have := hI.le); have := hI.n1 h1 h2 h3; omega) <| ok_d (by (try have := hI.ll); (try have := hI.le); have := hI.n1 h1 h2 h3; omega) <| ok_d (by (try have := hI.ll); (try have := hI.le); have := hI.n1 h1 h2 h3; omega) <| ok_d (by (try have := hI.ll); (try have := hI.le); have := hI.n1 h1 h2 h3; omega) <| ok_d (by (try have := hI.ll); (try have := hI.le); have := hI.n1 h1 h2 h3; omega) <| ok_d (by (try have := hI.ll); (try have := hI.le); have := hI.n1 h1 h2 h3; omega) <| ok_d (by (try have := hI.ll); (try have := hI.le); have := hI.n1 h1 h2 h3; omega) <| okE_nil) rfl rfl (by kernel_rfl) ⟨trivial, ⟨appE (i := 2) (e := 4) (s := 1) hX (l.length + 1) (fun z => [.bool ((l ++ [([[(p 0), (p 1), (p 2), (p 3), (p 4), (p 5), (p 6), (p 7)].getD ((cs.getD ((i : Int)).toNat Cn.z).rg).toNat 0, [(p 8), (p 9), (p 10), (p 11), (p 12), (p 13), (p 14), (p 15)].getD ((cs.getD ((i : Int)).toNat Cn.z).rg).toNat 0, [(p 16), (p 17), (p 18), (p 19), (p 20), (p 21), (p 22), (p 23)].getD ((cs.getD ((i : Int)).toNat Cn.z).rg).toNat 0].getD ((cs.getD ((i : Int)).toNat Cn.z).th).toNat 0) == ((cs.getD ((i : Int)).toNat Cn.z).vl)]).getD z false)]) rfl rfl rfl rfl (by have := hI.ll; have := hI.le; omega) rfl (fun z hz => by show [SV.bool _] = [SV.bool _]; rw [getD_app_l hz]) (by show [SV.bool _] = _; rw [getD_app_1]) (fun z => ⟨_, rfl, rfl⟩), trivial⟩⟩ trivial fun A => N hX 8 A rfl (ok_d (by (try have := hI.ll); (try have := hI.le); have := hI.n1 h1 h2 h3; omega) <| okE_nil) fun A => ⟨stepL p (cs.getD ((i : Int)).toNat Cn.z) l, i + 1, _, (by omega), (hI.next h1 h2), ((((A.rowAs 5 (stepL p (cs.getD ((i : Int)).toNat Cn.z) l).length (fun z => [.bool ((stepL p (cs.getD ((i : Int)).toNat Cn.z) l).getD z false)]) rfl (hI.len1 h1 h2 h3) (fun z hz => by show [SV.bool _] = [SV.bool _]; rw [(st1 h3)]) (fun z => ⟨_, rfl, rfl⟩)).say 6 (.sl 5 (stepL p (cs.getD ((i : Int)).toNat Cn.z) l).length 0) rfl (by rw [hI.len1 h1 h2 h3])).cut [1, 2, 4, 6, 7] rfl).mv 1 [1, 5] rfl rfl rfl rfl (by simp only [List.length_cons, List.length_nil] at h0; omega))⟩)
     (fun h3 A => N hX 7 A rfl rfl fun A => forkE 44 A rfl
      (fun h4 A => N hX 1 A rfl rfl fun A => DRAWN hX hmo [] [(10, .sl 5 (l.length + 1) 0, [some (.lst 5 cs.length (fun k => [.int .i64 (cs.getD k Cn.z).kd, .int .i64 (cs.getD k Cn.z).th, .int .i64 (cs.getD k Cn.z).rg, .int .i64 (cs.getD k Cn.z).lc, .int .i64 (cs.getD k Cn.z).vl])), some (.blk (oc p)), none, some (.blk [.int .i64 ((cs.getD ((i : Int)).toNat Cn.z).kd), .int .i64 ((cs.getD ((i : Int)).toNat Cn.z).th), .int .i64 ((cs.getD ((i : Int)).toNat Cn.z).rg), .int .i64 ((cs.getD ((i : Int)).toNat Cn.z).lc), .int .i64 ((cs.getD ((i : Int)).toNat Cn.z).vl)]), some (.blk [.bool (([(p 24), (p 25), (p 26)].getD ((cs.getD ((i : Int)).toNat Cn.z).lc).toNat 0) == ((cs.getD ((i : Int)).toNat Cn.z).vl))]), some (.row 4 1 (l.length + 1) 0 (fun z => [.bool ((l ++ [([(p 24), (p 25), (p 26)].getD ((cs.getD ((i : Int)).toNat Cn.z).lc).toNat 0) == ((cs.getD ((i : Int)).toNat Cn.z).vl)]).getD z false)]))])] A rfl (ok_d (by (try have := hI.ll); (try have := hI.le); have := hI.n2 h1 h2 h4; omega) <| ok_d (by (try have := hI.ll); (try have := hI.le); have := hI.n2 h1 h2 h4; omega) <| ok_d (by (try have := hI.ll); (try have := hI.le); have := hI.n2 h1 h2 h4; omega) <| ok_d (by (try have := hI.ll); (try have := hI.le); have := hI.n2 h1 h2 h4; omega) <| ok_d (by (try have := hI.ll); (try have := hI.le); have := hI.n2 h1 h2 h4; omega) <| ok_d (by (try have := hI.ll); (try have := hI.le); have := hI.n2 h1 h2 h4; omega) <| okE_nil) rfl rfl (by kernel_rfl) ⟨trivial, ⟨appE (i := 2) (e := 4) (s := 1) hX (l.length + 1) (fun z => [.bool ((l ++ [([(p 24), (p 25), (p 26)].getD ((cs.getD ((i : Int)).toNat Cn.z).lc).toNat 0) == ((cs.getD ((i : Int)).toNat Cn.z).vl)]).getD z false)]) rfl rfl rfl rfl (by have := hI.ll; have := hI.le; omega) rfl (fun z hz => by show [SV.bool _] = [SV.bool _]; rw [getD_app_l hz]) (by show [SV.bool _] = _; rw [getD_app_1]) (fun z => ⟨_, rfl, rfl⟩), trivial⟩⟩ trivial fun A => N hX 8 A rfl (ok_d (by (try have := hI.ll); (try have := hI.le); have := hI.n2 h1 h2 h4; omega) <| okE_nil) fun A => ⟨stepL p (cs.getD ((i : Int)).toNat Cn.z) l, i + 1, _, (by omega), (hI.next h1 h2), ((((A.rowAs 5 (stepL p (cs.getD ((i : Int)).toNat Cn.z) l).length (fun z => [.bool ((stepL p (cs.getD ((i : Int)).toNat Cn.z) l).getD z false)]) rfl (hI.len2 h1 h2 h4) (fun z hz => by show [SV.bool _] = [SV.bool _]; rw [(st2 h4)]) (fun z => ⟨_, rfl, rfl⟩)).say 6 (.sl 5 (stepL p (cs.getD ((i : Int)).toNat Cn.z) l).length 0) rfl (by rw [hI.len2 h1 h2 h4])).cut [1, 2, 4, 6, 7] rfl).mv 1 [1, 5] rfl rfl rfl rfl (by simp only [List.length_cons, List.length_nil] at h0; omega))⟩)
      (fun h4 A => N hX 7 A rfl rfl fun A => forkE 57 A rfl
       (fun h5 A => N hX 12 A rfl (ok_d (by (try have := hI.ll); (try have := hI.le); have := hI.n3 h1 h2 h5; omega) <| ok_d (by (try have := hI.ll); (try have := hI.le); have := hI.n3 h1 h2 h5; omega) <| ok_d (by (try have := hI.ll); (try have := hI.le); have := hI.n3 h1 h2 h5; omega) <| ok_d (by (try have := hI.ll); (try have := hI.le); have := hI.n3 h1 h2 h5; omega) <| ok_d (by (try have := hI.ll); (try have := hI.le); have := hI.n3 h1 h2 h5; omega) <| okE_nil) fun A => STR hX (l.length - 1) (fun z => [.bool ((l.set (l.length - 1) (!((l).getD ((((l.length : Nat) : Int) - 1).toNat) false))).getD z false)]) A rfl rfl (by have := hI.n3 h1 h2 h5; omega) (by have := hI.n3 h1 h2 h5; omega) (fun q hq => by show [SV.bool _] = [SV.bool _]; rw [getD_set_ne hq]) (by have := hI.n3 h1 h2 h5; show _ = some [SV.bool _]; rw [getD_set_eq (by omega)]; rfl) fun A => N hX 9 A rfl (ok_d (by (try have := hI.ll); (try have := hI.le); have := hI.n3 h1 h2 h5; omega) <| okE_nil) fun A => ⟨stepL p (cs.getD ((i : Int)).toNat Cn.z) l, i + 1, _, (by omega), (hI.next h1 h2), ((((A.rowAs 2 (stepL p (cs.getD ((i : Int)).toNat Cn.z) l).length (fun z => [.bool ((stepL p (cs.getD ((i : Int)).toNat Cn.z) l).getD z false)]) rfl (hI.len3 h1 h2 h5) (fun z hz => by show [SV.bool _] = [SV.bool _]; rw [(st3 h5)]) (fun z => ⟨_, rfl, rfl⟩)).say 6 (.sl 2 (stepL p (cs.getD ((i : Int)).toNat Cn.z) l).length 0) rfl (by rw [hI.len3 h1 h2 h5])).cut [1, 2, 4, 6, 7] rfl).trunc 3 rfl rfl rfl (by simp only [List.length_cons, List.length_nil] at h0; omega))⟩)
       (fun h5 A => N hX 7 A rfl rfl fun A => forkE 69 A rfl
        (fun h6 A => N hX 19 A rfl (ok_d (by (try have := hI.ll); (try have := hI.le); have := hI.n4 h1 h2 h6; omega) <| ok_d (by (try have := hI.ll); (try have := hI.le); have := hI.n4 h1 h2 h6; omega) <| ok_d (by (try have := hI.ll); (try have := hI.le); have := hI.n4 h1 h2 h6; omega) <| ok_d (by (try have := hI.ll); (try have := hI.le); have := hI.n4 h1 h2 h6; omega) <| ok_r <| ok_g (fun hg => (by (try have := hI.ll); (try have := hI.le); have := hI.n4 h1 h2 h6; omega)) <| ok_r <| ok_r <| ok_g (fun hg => (by (try have := hI.ll); (try have := hI.le); have := hI.n4 h1 h2 h6; omega)) <| ok_r <| ok_g (fun hg => (by (try have := hI.ll); (try have := hI.le); have := hI.n4 h1 h2 h6; omega)) <| ok_r <| ok_d (by (try have := hI.ll); (try have := hI.le); have := hI.n4 h1 h2 h6; omega) <| okE_nil) fun A => STR hX (l.length - 2) (fun z => [.bool ((l.set (l.length - 2) (((l).getD ((((l.length : Nat) : Int) - 2).toNat) false) && ((l).getD ((((l.length : Nat) : Int) - 1).toNat) false))).getD z false)]) A rfl rfl (by have := hI.n4 h1 h2 h6; omega) (by have := hI.n4 h1 h2 h6; omega) (fun q hq => by show [SV.bool _] = [SV.bool _]; rw [getD_set_ne hq]) (by have := hI.n4 h1 h2 h6; show _ = some [SV.bool _]; rw [getD_set_eq (by omega)]; rfl) fun A => N hX 12 A rfl (ok_d (by (try have := hI.ll); (try have := hI.le); have := hI.n4 h1 h2 h6; omega) <| ok_d (by show 0 ≤ ((l.length : Nat) : Int) - 1 ∧ ((l.length : Nat) : Int) - 1 ≤ ((l.length : Nat) : Int); exact (by (try have := hI.ll); (try have := hI.le); have := hI.n4 h1 h2 h6; omega)) <| okE_nil) fun A => N hX 5 A rfl (ok_d (by (try have := hI.ll); (try have := hI.le); have := hI.n4 h1 h2 h6; omega) <| okE_nil) fun A => ⟨stepL p (cs.getD ((i : Int)).toNat Cn.z) l, i + 1, _, (by omega), (hI.next h1 h2), (((((A.shrink 2 (l.length - 1) rfl (by omega)).rowAs 2 (stepL p (cs.getD ((i : Int)).toNat Cn.z) l).length (fun z => [.bool ((stepL p (cs.getD ((i : Int)).toNat Cn.z) l).getD z false)]) rfl (hI.len4 h1 h2 h6) (fun z hz => by show [SV.bool _] = [SV.bool _]; rw [(st4 h6), getD_take hz]) (fun z => ⟨_, rfl, rfl⟩)).say 6 (.sl 2 (stepL p (cs.getD ((i : Int)).toNat Cn.z) l).length 0) rfl (by rw [hI.len4 h1 h2 h6]; congr 1; omega)).cut [1, 2, 4, 6, 7] rfl).trunc 3 rfl rfl rfl (by simp only [List.length_cons, List.length_nil] at h0; omega))⟩)
        (fun h6 A => N hX 7 A rfl rfl fun A => forkE 91 A rfl
         (fun h7 A => N hX 19 A rfl (ok_d (by (try have := hI.ll); (try have := hI.le); have := hI.n5 h1 h2 h7; omega) <| ok_d (by (try have := hI.ll); (try have := hI.le); have := hI.n5 h1 h2 h7; omega) <| ok_d (by (try have := hI.ll); (try have := hI.le); have := hI.n5 h1 h2 h7; omega) <| ok_d (by (try have := hI.ll); (try have := hI.le); have := hI.n5 h1 h2 h7; omega) <| ok_r <| ok_g (fun hg => (by (try have := hI.ll); (try have := hI.le); have := hI.n5 h1 h2 h7; omega)) <| ok_r <| ok_r <| ok_g (fun hg => (by (try have := hI.ll); (try have := hI.le); have := hI.n5 h1 h2 h7; omega)) <| ok_r <| ok_g (fun hg => (by (try have := hI.ll); (try have := hI.le); have := hI.n5 h1 h2 h7; omega)) <| ok_r <| ok_d (by (try have := hI.ll); (try have := hI.le); have := hI.n5 h1 h2 h7; omega) <| okE_nil) fun A => STR hX (l.length - 2) (fun z => [.bool ((l.set (l.length - 2) (((l).getD ((((l.length : Nat) : Int) - 2).toNat) false) || ((l).getD ((((l.length : Nat) : Int) - 1).toNat) false))).getD z false)]) A rfl rfl (by have := hI.n5 h1 h2 h7; omega) (by have := hI.n5 h1 h2 h7; omega) (fun q hq => by show [SV.bool _] = [SV.bool _]; rw [getD_set_ne hq]) (by have := hI.n5 h1 h2 h7; show _ = some [SV.bool _]; rw [getD_set_eq (by omega)]; rfl) fun A => N hX 12 A rfl (ok_d (by (try have := hI.ll); (try have := hI.le); have := hI.n5 h1 h2 h7; omega) <| ok_d (by show 0 ≤ ((l.length : Nat) : Int) - 1 ∧ ((l.length : Nat) : Int) - 1 ≤ ((l.length : Nat) : Int); exact (by (try have := hI.ll); (try have := hI.le); have := hI.n5 h1 h2 h7; omega)) <| okE_nil) fun A => N hX 5 A rfl (ok_d (by (try have := hI.ll); (try have := hI.le); have := hI.n5 h1 h2 h7; omega) <| okE_nil) fun A => ⟨stepL p (cs.getD ((i : Int)).toNat Cn.z) l, i + 1, _, (by omega), (hI.next h1 h2), (((((A.shrink 2 (l.length - 1) rfl (by omega)).rowAs 2 (stepL p (cs.getD ((i : Int)).toNat Cn.z) l).length (fun z => [.bool ((stepL p (cs.getD ((i : Int)).toNat Cn.z) l).getD z false)]) rfl (hI.len5 h1 h2 h7) (fun z hz => by show [SV.bool _] = [SV.bool _]; rw [(st5 h7), getD_take hz]) (fun z => ⟨_, rfl, rfl⟩)).say 6 (.sl 2 (stepL p (cs.getD ((i : Int)).toNat Cn.z) l).length 0) rfl (by rw [hI.len5 h1 h2 h7]; congr 1; omega)).cut [1, 2, 4, 6, 7] rfl).trunc 3 rfl rfl rfl (by simp only [List.length_cons, List.length_nil] at h0; omega))⟩)
         (fun h7 A => N hX 10 A rfl (ok_d (by (try have := hI.ll); (try have := hI.le); omega) <| okE_nil) fun A => ⟨l, i + 1, _, (by omega), (hI.none h1 h2 h3 h4 h5 h6 h7).elim, ((A.cut [1, 2, 4, 6, 7] rfl).trunc 3 rfl rfl rfl (by simp only [List.length_cons, List.length_nil] at h0; omega))⟩))))))
    (fun h2 A => N hX 12 A rfl (ok_d (by (try have := hI.ll); (try have := hI.le); have := hI.fin h2; omega) <| ok_d (by (try have := hI.ll); (try have := hI.le); have := hI.fin h2; omega) <| okE_nil) fun A => RETN hX A rfl rfl rfl h0 rfl rfl rfl rfl (by rw [hI.done h1 h2]; rfl) rfl))
end Go.Proofs.YtbghlhhoafkmgaaDoor
