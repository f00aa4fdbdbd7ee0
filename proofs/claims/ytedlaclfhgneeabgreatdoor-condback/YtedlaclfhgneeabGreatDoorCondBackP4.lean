/- CondBack, part 4: the engine, contracts, theory. -/
import Derived.Test.YtedlaclfhgneeabGreatDoorCondBackP3
import Derived.Sort.AssemblyPlain
import Derived.Lib.ItoaLen
import Derived.Shelf.Spec.SlicesGrow
import Derived.LoopN
namespace Go.Proofs.YtedlaclfhgneeabGreatDoor.Cd
open Go.RowKit
set_option linter.unusedVariables false
set_option linter.unusedSimpArgs false
set_option maxRecDepth 100000
set_option maxHeartbeats 2000000
set_option simprocs false
open Go.Sort
theorem jlt {p : Prop} [Decidable p] {b : Bool} (h : (decide p && b) = true) : p := by rw [Bool.and_eq_true, decide_eq_true_eq] at h; exact h.1
theorem jrt {b c : Bool} (h : (b && c) = true) : c = true := by rw [Bool.and_eq_true] at h; exact h.2
theorem aset_ne {d : Array O} {k z : Nat} {v : O} (h : z ≠ k) : (d.setIfInBounds k v)[z]! = d[z]! := by
  simp only [Array.getElem!_eq_getD, Array.getD_eq_getD_getElem?]
  rw [Array.getElem?_setIfInBounds_ne (Ne.symm h)]
theorem aset_at {d : Array O} {k : Nat} {v : O} (h : k < d.size) : (d.setIfInBounds k v)[k]! = v := by
  simp only [Array.getElem!_eq_getD, Array.getD_eq_getD_getElem?]
  rw [Array.getElem?_setIfInBounds_self_of_lt h]; rfl
theorem asz {d : Array O} {k : Nat} {v : O} : (d.setIfInBounds k v).size = d.size := by simp
theorem swp_sz (d : Array O) (i j : Nat) : (swp d i j).size = d.size := by simp [swp]
theorem swp_is {d : Array O} {x y : Int} {i j : Nat} (hi : x.toNat = i) (hj : y.toNat = j) : (d.setIfInBounds x.toNat (d[y.toNat]!)).setIfInBounds y.toNat (d[x.toNat]!) = swp d i j := by subst hi; subst hj; rfl
structure SO (d : Array O) (a b : Nat) (dk : Array O) (i : Nat) : Prop where
  sz : dk.size = d.size
  le : a + 1 ≤ i
  eq : insOuter lessO a b i dk = insertionSort lessO d a b
structure SJ (d : Array O) (a i : Nat) (dk dj : Array O) (j : Nat) : Prop where
  sz : dj.size = d.size
  le : j ≤ i
  eq : insInner lessO a j dj = insInner lessO a i dk
theorem SJ.step {d dk dj : Array O} {a i j : Nat} (h : SJ d a i dk dj j) (hc : (decide ((j : Int) > (a : Int)) && decide (cmpO (dj[((j : Int)).toNat]!) (dj[((j : Int) - 1).toNat]!) < 0)) = true) :
    SJ d a i dk ((dj.setIfInBounds ((j : Int)).toNat (dj[((j : Int) - 1).toNat]!)).setIfInBounds ((j : Int) - 1).toNat (dj[((j : Int)).toNat]!)) (j - 1) := by
  have h1 := jlt hc
  have h2 := jrt hc
  rw [cmp_less] at h2
  obtain ⟨k, rfl⟩ : ∃ k, j = k + 1 := ⟨j - 1, by omega⟩
  have e1 : (((k + 1 : Nat) : Int) - 1).toNat = k := by omega
  have e2 : (((k + 1 : Nat) : Int)).toNat = k + 1 := by omega
  rw [swp_is e2 e1]
  rw [e1, e2] at h2
  refine ⟨by rw [swp_sz, h.sz], by have := h.le; omega, ?_⟩
  rw [← h.eq, insInner, h2]
  rw [if_pos (by simp; omega)]; rfl
theorem SJ.stop {d dk dj : Array O} {a i j : Nat} (h : SJ d a i dk dj j) (hc : (decide ((j : Int) > (a : Int)) && decide (cmpO (dj[((j : Int)).toNat]!) (dj[((j : Int) - 1).toNat]!) < 0)) = false) : insInner lessO a i dk = dj := by
  rw [cmp_less] at hc
  rw [← h.eq]
  cases j with
  | zero => rfl
  | succ k =>
    have e1 : (((k + 1 : Nat) : Int) - 1).toNat = k := by omega
    have e2 : (((k + 1 : Nat) : Int)).toNat = k + 1 := by omega
    rw [e1, e2] at hc
    rw [insInner, if_neg]
    intro h2
    rw [Bool.and_eq_true] at h2
    rw [h2.2, Bool.and_true, decide_eq_false_iff_not] at hc
    have := of_decide_eq_true h2.1
    omega
theorem SO.step {d dk dj : Array O} {a b i j : Nat} (h : SO d a b dk i) (hi : (i : Int) < (b : Int)) (hJ : SJ d a i dk dj j) (e : insInner lessO a i dk = dj) : SO d a b dj (i + 1) := by
  refine ⟨hJ.sz, by have := h.le; omega, ?_⟩
  rw [← h.eq]
  conv => rhs; unfold insOuter
  rw [if_pos (by omega), e]
theorem SO.done {d dk : Array O} {a b i : Nat} (h : SO d a b dk i) (hi : ¬ (i : Int) < (b : Int)) : insertionSort lessO d a b = dk := by
  rw [← h.eq]
  unfold insOuter
  rw [if_neg (by omega)]
theorem isort_ (d : Array O) (nn aa b : Nat) (hn : d.size = nn) (hs : nn ≤ 1000000) (ha : aa ≤ nn) (hb : b ≤ nn) : Fn Tryz.prog 242 [.sl 0 nn 0, .int .i64 (aa : Int), .int .i64 (b : Int), .fn 163 []] [some (.row 93 27 nn 0 (fun zz => oc (d[zz]!)))] (Rt (.tup []) [some (.row 93 27 nn 0 (fun zz => oc ((Go.Sort.insertionSort lessO d aa b)[zz]!)))]) :=
 enterM (n := 53) (by kernel_rfl) Tryz.func242 rfl rfl rfl fun G w a h0 A => N hX 8 A rfl (ok_d (by (try have := hI.le); (try have := hJ.le); omega) <| okE_nil) fun A => LOOP2 (fun (i : Nat) (dk : Array O) => [(0, .sl 0 nn 0), (1, .int .i64 (aa : Int)), (2, .int .i64 (b : Int)), (3, .fn 163 []), (8, .int .i64 (i : Int))]) (fun (i : Nat) (dk : Array O) => [some (.row 93 27 nn 0 (fun zz => oc (dk[zz]!)))]) (fun (i : Nat) (dk : Array O) => SO d aa b dk i) (fun (i : Nat) (dk : Array O) => b - i) (aa + 1) d ⟨rfl, Nat.le_refl _, rfl⟩ ((A.cut [0, 1, 2, 3, 8] rfl).trunc 1 rfl rfl rfl (by simp only [List.length_cons, List.length_nil] at h0; omega)) fun i dk hI {G a w} A => N hX 8 A rfl rfl fun A => forkD 14 A rfl
   (fun h1 A => N hX 12 A rfl rfl fun A => LOOP2 (fun (j : Nat) (dj : Array O) => [(0, .sl 0 nn 0), (1, .int .i64 (aa : Int)), (2, .int .i64 (b : Int)), (3, .fn 163 []), (8, .int .i64 (i : Int)), (9, .int .i64 (j : Int))]) (fun (j : Nat) (dj : Array O) => [some (.row 93 27 nn 0 (fun zz => oc (dj[zz]!)))]) (fun (j : Nat) (dj : Array O) => SJ d aa i dk dj j) (fun (j : Nat) (dj : Array O) => j) i dk ⟨hI.sz, Nat.le_refl _, rfl⟩ ((A.cut [0, 1, 2, 3, 8, 9] rfl).trunc 1 rfl rfl rfl (by simp only [List.length_cons, List.length_nil] at h0; omega)) fun j dj hJ {G a w} A => N hX 2 A rfl rfl fun A => DRAWN hX hmo [(14, .opt (decide ((j : Int) > (aa : Int))) (.int .i64 (cmpO (dj[((j : Int)).toNat]!) (dj[((j : Int) - 1).toNat]!))))] [] A rfl (ok_r <| ok_r <| ok_g (fun hg => (by (try have := hI.le); (try have := hJ.le); have := of_decide_eq_true hg; omega)) <| ok_r <| ok_g (fun hg => (by (try have := hI.le); (try have := hJ.le); have := of_decide_eq_true hg; omega)) <| ok_r <| ok_g (fun hg => (by (try have := hI.le); (try have := hJ.le); have := of_decide_eq_true hg; omega)) <| ok_r <| ok_r <| ok_g (fun hg => (by (try have := hI.le); (try have := hJ.le); have := of_decide_eq_true hg; omega)) <| ok_r <| ok_g (fun hg => (by (try have := hI.le); (try have := hJ.le); have := of_decide_eq_true hg; omega)) <| ok_r <| ok_r <| okE_nil) rfl rfl (by kernel_rfl) (effAll_nil _ _) ⟨.inr ⟨_, _, _, _, _, _, rfl, rfl, rfl, rfl, rfl, fun hg => compare_ (dj[((j : Int)).toNat]!) (dj[((j : Int) - 1).toNat]!)⟩, trivial⟩ fun A => N hX 1 A rfl rfl fun A => fork 34 A rfl
     (fun h2 A => N hX 5 A rfl rfl fun A => DRAWN hX hmo [] [(15, .tup [], [some (.row 93 27 nn 0 (fun zz => oc ((dj.setIfInBounds ((j : Int)).toNat (dj[((j : Int) - 1).toNat]!))[zz]!)))]), (17, .tup [], [some (.row 93 27 nn 0 (fun zz => oc (((dj.setIfInBounds ((j : Int)).toNat (dj[((j : Int) - 1).toNat]!)).setIfInBounds ((j : Int) - 1).toNat (dj[((j : Int)).toNat]!))[zz]!)))])] A rfl (ok_d (by (try have := hI.le); (try have := hJ.le); have := jlt h2; omega) <| ok_d (by (try have := hI.le); (try have := hJ.le); have := jlt h2; omega) <| ok_d (by (try have := hI.le); (try have := hJ.le); have := jlt h2; omega) <| ok_d (by (try have := hI.le); (try have := hJ.le); have := jlt h2; omega) <| ok_d (by (try have := hI.le); (try have := hJ.le); have := jlt h2; omega) <| ok_d (by (try have := hI.le); (try have := hJ.le); have := jlt h2; omega) <| ok_d (by (try have := hI.le); (try have := hJ.le); have := jlt h2; omega) <| ok_d (by (try have := hI.le); (try have := hJ.le); have := jlt h2; omega) <| ok_d (by (try have := hI.le); (try have := hJ.le); have := jlt h2; omega) <| ok_d (by (try have := hI.le); (try have := hJ.le); have := jlt h2; omega) <| okE_nil) rfl rfl (by kernel_rfl) ⟨strE (i := 0) (e := 93) (s := 27) (m := nn) (c := 0) hX (((j : Int)).toNat) (fun zz => oc ((dj.setIfInBounds ((j : Int)).toNat (dj[((j : Int) - 1).toNat]!))[zz]!)) rfl rfl rfl (by (try have := hI.le); (try have := hJ.le); have := jlt h2; omega) (fun z hz => by show oc _ = oc _; rw [aset_ne hz]) (by show _ = some (oc _); rw [aset_at (by (try simp only [asz]); rw [hJ.sz, hn]; (try have := hI.le); (try have := hJ.le); have := jlt h2; omega)]; rfl), ⟨strE (i := 0) (e := 93) (s := 27) (m := nn) (c := 0) hX (((j : Int) - 1).toNat) (fun zz => oc (((dj.setIfInBounds ((j : Int)).toNat (dj[((j : Int) - 1).toNat]!)).setIfInBounds ((j : Int) - 1).toNat (dj[((j : Int)).toNat]!))[zz]!)) rfl rfl rfl (by (try have := hI.le); (try have := hJ.le); have := jlt h2; omega) (fun z hz => by show oc _ = oc _; rw [aset_ne hz]) (by show _ = some (oc _); rw [aset_at (by (try simp only [asz]); rw [hJ.sz, hn]; (try have := hI.le); (try have := hJ.le); have := jlt h2; omega)]; rfl), trivial⟩⟩ trivial fun A => N hX 7 A rfl (ok_d (by (try have := hI.le); (try have := hJ.le); have := jlt h2; omega) <| okE_nil) fun A => ⟨j - 1, (dj.setIfInBounds ((j : Int)).toNat (dj[((j : Int) - 1).toNat]!)).setIfInBounds ((j : Int) - 1).toNat (dj[((j : Int)).toNat]!), _, (by have := jlt h2; omega), (hJ.step h2), ((A.cut [0, 1, 2, 3, 8, 9] rfl).trunc 1 rfl rfl rfl (by simp only [List.length_cons, List.length_nil] at h0; omega)).sayT (by rw [show ((j - 1 : Nat) : Int) = (j : Int) - 1 by have := jlt h2; omega])⟩)
     (fun h2 A => N hX 9 A rfl (ok_d (by (try have := hI.le); (try have := hJ.le); omega) <| okE_nil) fun A => ⟨i + 1, dj, _, (by omega), (hI.step h1 hJ (hJ.stop h2)), ((A.cut [0, 1, 2, 3, 8] rfl).trunc 1 rfl rfl rfl (by simp only [List.length_cons, List.length_nil] at h0; omega))⟩))
   (fun h1 A => N hX 2 A rfl rfl fun A => ENDN (RETN hX A rfl rfl rfl h0 rfl rfl rfl rfl rfl (by rw [hI.done h1]; rfl)))
theorem isort_i {xaa xb : Int} (d : Array O) (nn aa b : Nat) (eaa : xaa = (aa : Int)) (eb : xb = (b : Int)) (hn : d.size = nn) (hs : nn ≤ 1000000) (ha : aa ≤ nn) (hb : b ≤ nn) : Fn Tryz.prog 242 [.sl 0 nn 0, .int .i64 xaa, .int .i64 xb, .fn 163 []] [some (.row 93 27 nn 0 (fun zz => oc (d[zz]!)))] (Rt (.tup []) [some (.row 93 27 nn 0 (fun zz => oc ((Go.Sort.insertionSort lessO d aa b)[zz]!)))]) := by
  subst eaa; subst eb; exact isort_ d nn aa b hn hs ha hb
end Go.Proofs.YtedlaclfhgneeabGreatDoor.Cd
namespace Go.Proofs.YtedlaclfhgneeabGreatDoor.Cd
open Go.RowKit
set_option linter.unusedVariables false
set_option linter.unusedSimpArgs false
set_option maxRecDepth 100000
set_option maxHeartbeats 2000000
set_option simprocs false
open Go.Sort
theorem fdivN (k m : Nat) : Int.fdiv (k : Int) ((m : Nat) : Int) = ((k / m : Nat) : Int) := by
  cases k with
  | zero => simp
  | succ k => rfl
theorem bl_div {n : Nat} (h : 256 ≤ n) : bitsLen n = 8 + bitsLen (n / 256) := by
  have h1 : n / 256 ≠ 0 := by omega
  have e : ∀ m, 2 ≤ m → Nat.log2 m = Nat.log2 (m / 2) + 1 := fun m hm => by rw [Nat.log2_def, if_pos hm]
  have e8 : n / 2 / 2 / 2 / 2 / 2 / 2 / 2 / 2 = n / 256 := by omega
  unfold bitsLen
  rw [if_neg (by omega), if_neg h1, e n (by omega), e (n / 2) (by omega), e (n / 2 / 2) (by omega), e (n / 2 / 2 / 2) (by omega), e (n / 2 / 2 / 2 / 2) (by omega), e (n / 2 / 2 / 2 / 2 / 2) (by omega), e (n / 2 / 2 / 2 / 2 / 2 / 2) (by omega), e (n / 2 / 2 / 2 / 2 / 2 / 2 / 2) (by omega), e8]
  omega
abbrev l8 : List UInt8 := [0, 1, 2, 2, 3, 3, 3, 3, 4, 4, 4, 4, 4, 4, 4, 4, 5, 5, 5, 5, 5, 5, 5, 5, 5, 5, 5, 5, 5, 5, 5, 5, 6, 6, 6, 6, 6, 6, 6, 6, 6, 6, 6, 6, 6, 6, 6, 6, 6, 6, 6, 6, 6, 6, 6, 6, 6, 6, 6, 6, 6, 6, 6, 6, 7, 7, 7, 7, 7, 7, 7, 7, 7, 7, 7, 7, 7, 7, 7, 7, 7, 7, 7, 7, 7, 7, 7, 7, 7, 7, 7, 7, 7, 7, 7, 7, 7, 7, 7, 7, 7, 7, 7, 7, 7, 7, 7, 7, 7, 7, 7, 7, 7, 7, 7, 7, 7, 7, 7, 7, 7, 7, 7, 7, 7, 7, 7, 7, 8, 8, 8, 8, 8, 8, 8, 8, 8, 8, 8, 8, 8, 8, 8, 8, 8, 8, 8, 8, 8, 8, 8, 8, 8, 8, 8, 8, 8, 8, 8, 8, 8, 8, 8, 8, 8, 8, 8, 8, 8, 8, 8, 8, 8, 8, 8, 8, 8, 8, 8, 8, 8, 8, 8, 8, 8, 8, 8, 8, 8, 8, 8, 8, 8, 8, 8, 8, 8, 8, 8, 8, 8, 8, 8, 8, 8, 8, 8, 8, 8, 8, 8, 8, 8, 8, 8, 8, 8, 8, 8, 8, 8, 8, 8, 8, 8, 8, 8, 8, 8, 8, 8, 8, 8, 8, 8, 8, 8, 8, 8, 8, 8, 8, 8, 8, 8, 8, 8, 8, 8, 8, 8, 8, 8, 8, 8, 8]
theorem l8_is : ∀ n : Fin 256, (l8.getD n.val 0).toNat = bitsLen n.val := by decide +kernel
theorem wu8 {n : Nat} (h : n < 256) : IntKind.wrap .u8 (n : Int) = (n : Int) := by simp only [IntKind.wrap, IntKind.signed, IntKind.bits]; simp; omega
theorem wu64 {n : Nat} (h : n < 18446744073709551616) : IntKind.wrap .u64 (n : Int) = (n : Int) := by simp only [IntKind.wrap, IntKind.signed, IntKind.bits]; simp; omega
theorem tab_is {n : Nat} (h : n < 256) : IntKind.wrap .i64 ((((l8.getD ((IntKind.wrap .u8 (n : Int))).toNat 0).toNat : Nat)) : Int) = ((bitsLen n : Nat) : Int) := by
  rw [wu8 h, Int.toNat_natCast]
  have := l8_is ⟨n, h⟩
  simp only at this
  rw [this, wrap_in]
  have : bitsLen n ≤ 8 := by
    unfold bitsLen
    split
    · omega
    · next h0 => have := (Nat.log2_lt (n := n) (k := 8) h0).2 (by omega); omega
  omega
theorem bl_le {n : Nat} (h : n < 1048576) : bitsLen n ≤ 20 := by
  unfold bitsLen
  split
  · omega
  · next h0 => have := (Nat.log2_lt (n := n) (k := 20) h0).2 (by omega); omega
theorem f16 (k : Nat) : Int.fdiv (k : Int) (2 ^ min (16 : Int).toNat (IntKind.bits .u64)) = ((k / 65536 : Nat) : Int) := fdivN k 65536
theorem f8 (k : Nat) : Int.fdiv (k : Int) (2 ^ min (8 : Int).toNat (IntKind.bits .u64)) = ((k / 256 : Nat) : Int) := fdivN k 256
theorem l8_len : (l8.length : Int) = 256 := by decide +kernel
theorem len64_ (k : Nat) (hk : k ≤ 1000000) : Fn Tryz.prog 251 [.int .u64 (k : Int)] [] (Rt (.int .i64 ((Go.Sort.bitsLen k : Nat) : Int)) []) :=
 enterM (n := 25) (by kernel_rfl) Tryz.func251 rfl rfl rfl fun G w a h0 A => N hX 12 A rfl rfl fun A => forkD 4 A rfl
  (fun h1 A => N hX 8 A rfl (ok_d (by omega) <| okE_nil) fun A => N hX 11 A rfl rfl fun A => forkD 8 A rfl
   (fun h2 A => N hX 8 A rfl (ok_d (by omega) <| okE_nil) fun A => N hX 8 A rfl (ok_d (by omega) <| okE_nil) fun A => N hX 5 A rfl rfl fun A => forkD 14 A rfl
    (fun h3 A => N hX 8 A rfl (ok_d (by omega) <| okE_nil) fun A => N hX 7 A rfl (ok_d (by omega) <| okE_nil) fun A => N hX 11 A rfl (ok_d (by omega) <| ok_d (by omega) <| okE_nil) fun A => RETN hX A rfl rfl rfl h0 rfl rfl rfl rfl (absurd h1 (by omega)) rfl)
    (fun h3 A => N hX 15 A rfl (ok_d (by omega) <| ok_d (by omega) <| okE_nil) fun A => RETN hX A rfl rfl rfl h0 rfl rfl rfl rfl (absurd h1 (by omega)) rfl))
   (fun h2 A => N hX 10 A rfl rfl fun A => forkD 14 A rfl
    (fun h4 A => N hX 8 A rfl (ok_d (by omega) <| okE_nil) fun A => N hX 7 A rfl (ok_d (by omega) <| okE_nil) fun A => N hX 11 A rfl (ok_d (by omega) <| ok_d (by omega) <| okE_nil) fun A => RETN hX A rfl rfl rfl h0 rfl rfl rfl rfl (absurd h1 (by omega)) rfl)
    (fun h4 A => N hX 15 A rfl (ok_d (by omega) <| ok_d (by omega) <| okE_nil) fun A => RETN hX A rfl rfl rfl h0 rfl rfl rfl rfl (absurd h1 (by omega)) rfl)))
  (fun h1 A => N hX 10 A rfl rfl fun A => forkD 8 A rfl
   (fun h5 A => N hX 8 A rfl (ok_d (by omega) <| okE_nil) fun A => N hX 8 A rfl (ok_d (by omega) <| okE_nil) fun A => N hX 5 A rfl rfl fun A => forkD 14 A rfl
    (fun h6 A => N hX 8 A rfl (ok_d (by rw [f16] at h6; omega) <| okE_nil) fun A => N hX 7 A rfl (ok_d (by rw [f16] at h6; omega) <| okE_nil) fun A => N hX 11 A rfl (ok_d (by rw [f16] at h6; omega) <| ok_d (by rw [f16] at h6; omega) <| okE_nil) fun A => RETN hX A rfl rfl rfl h0 rfl rfl rfl rfl (absurd h6 (by rw [f16]; omega)) rfl)
    (fun h6 A => N hX 15 A rfl (ok_d (by (try rw [f16]); (try rw [f8]); rw [wu8 (by omega)]; show _ ∧ _ < (l8.length : Int); rw [l8_len]; omega) <| ok_d (by (try rw [f16]); (try rw [f8]); erw [tab_is (by omega)]; have := bl_le (n := k) (by omega); have h8 : ∀ m, m < 256 → bitsLen m ≤ 20 := fun m hm => bl_le (by omega); (try have := h8 (k / 65536) (by omega)); (try have := h8 (k / 256) (by omega)); omega) <| okE_nil) fun A => RETN hX A rfl rfl rfl h0 rfl rfl rfl rfl (by rw [f16]; erw [tab_is (by omega)]; rw [bl_div (n := k) (by omega), bl_div (n := k / 256) (by omega), Nat.div_div_eq_div_mul, show 256 * 256 = 65536 from rfl]; show SV.int _ _ = SV.int _ _; congr 1 <;> omega) rfl))
   (fun h5 A => N hX 10 A rfl rfl fun A => forkD 14 A rfl
    (fun h7 A => N hX 8 A rfl (ok_d (by omega) <| okE_nil) fun A => N hX 7 A rfl (ok_d (by omega) <| okE_nil) fun A => N hX 11 A rfl (ok_d (by (try rw [f16]); (try rw [f8]); rw [wu8 (by omega)]; show _ ∧ _ < (l8.length : Int); rw [l8_len]; omega) <| ok_d (by (try rw [f16]); (try rw [f8]); erw [tab_is (by omega)]; have := bl_le (n := k) (by omega); have h8 : ∀ m, m < 256 → bitsLen m ≤ 20 := fun m hm => bl_le (by omega); (try have := h8 (k / 65536) (by omega)); (try have := h8 (k / 256) (by omega)); omega) <| okE_nil) fun A => RETN hX A rfl rfl rfl h0 rfl rfl rfl rfl (by rw [f8]; erw [tab_is (by omega)]; rw [bl_div (n := k) (by omega)] <;> (show SV.int _ _ = SV.int _ _; congr 1 <;> omega)) rfl)
    (fun h7 A => N hX 15 A rfl (ok_d (by (try rw [f16]); (try rw [f8]); rw [wu8 (by omega)]; show _ ∧ _ < (l8.length : Int); rw [l8_len]; omega) <| ok_d (by (try rw [f16]); (try rw [f8]); erw [tab_is (by omega)]; have := bl_le (n := k) (by omega); have h8 : ∀ m, m < 256 → bitsLen m ≤ 20 := fun m hm => bl_le (by omega); (try have := h8 (k / 65536) (by omega)); (try have := h8 (k / 256) (by omega)); omega) <| okE_nil) fun A => RETN hX A rfl rfl rfl h0 rfl rfl rfl rfl (by erw [tab_is (by omega)] <;> (show SV.int _ _ = SV.int _ _; congr 1 <;> omega)) rfl)))
theorem len_ (k : Nat) (hk : k ≤ 1000000) : Fn Tryz.prog 208 [.int .u64 (k : Int)] [] (Rt (.int .i64 ((Go.Sort.bitsLen k : Nat) : Int)) []) :=
 enterM (n := 8) (by kernel_rfl) Tryz.func208 rfl rfl rfl fun G w a h0 A => N hX 12 A rfl rfl fun A => CALL1 [] (len64_ k (by omega)) A rfl rfl rfl rfl rfl rfl rfl fun A => N hX 4 A rfl rfl fun A => RETN hX A rfl rfl rfl h0 rfl rfl rfl rfl rfl rfl
theorem len_w (k : Nat) (hk : k ≤ 1000000) {x : Int} (hx : x = (k : Int)) : Fn Tryz.prog 208 [.int .u64 x] [] (Rt (.int .i64 ((Go.Sort.bitsLen k : Nat) : Int)) []) := by subst hx; exact len_ k hk
end Go.Proofs.YtedlaclfhgneeabGreatDoor.Cd
namespace Go.Proofs.YtedlaclfhgneeabGreatDoor.Cd
open Go.RowKit
set_option linter.unusedVariables false
set_option linter.unusedSimpArgs false
set_option maxRecDepth 100000
set_option maxHeartbeats 2000000
set_option simprocs false
open Go.Sort
def eqO (p q : O) : Bool := ((p 0 == q 0) && ((p 1 == q 1) && ((p 2 == q 2) && ((p 3 == q 3) && ((p 4 == q 4) && ((p 5 == q 5) && ((p 6 == q 6) && ((p 7 == q 7) && ((p 8 == q 8) && ((p 9 == q 9) && ((p 10 == q 10) && ((p 11 == q 11) && ((p 12 == q 12) && ((p 13 == q 13) && ((p 14 == q 14) && ((p 15 == q 15) && ((p 16 == q 16) && ((p 17 == q 17) && ((p 18 == q 18) && ((p 19 == q 19) && ((p 20 == q 20) && ((p 21 == q 21) && ((p 22 == q 22) && ((p 23 == q 23) && ((p 24 == q 24) && ((p 25 == q 25) && (p 26 == q 26)))))))))))))))))))))))))))
theorem arr_l (os : List O) (k : Nat) : os.toArray[k]! = os.getD k oz := by
  rw [Array.getElem!_eq_getD, Array.getD_eq_getD_getElem?, List.getElem?_toArray]; rfl
def cA (d : Array O) : Nat → List O
  | 0 => []
  | i + 1 => if (decide (0 < i) && eqO (d[i]!) (d[i - 1]!)) = true then cA d i else cA d i ++ [d[i]!]
theorem cA_dup {d : Array O} {i : Nat} (h0 : 0 < i) (h : eqO (d[i]!) (d[i - 1]!) = true) : cA d (i + 1) = cA d i := by
  rw [cA, if_pos (by rw [h, decide_eq_true h0]; rfl)]
theorem cA_new {d : Array O} {i : Nat} (h : eqO (d[i]!) (d[i - 1]!) = false) : cA d (i + 1) = cA d i ++ [d[i]!] := by
  rw [cA, if_neg (by rw [h, Bool.and_false]; simp)]
theorem cA_one (d : Array O) : cA d 1 = [d[0]!] := by rw [cA, if_neg (by simp)]; rfl
structure C1 (d : Array O) (nn k : Nat) : Prop where
  lo : 1 ≤ k
  hi : k ≤ nn
  ln : (cA d k).length = k
  at_ : ∀ p, p < k → (cA d k).getD p oz = d[p]!
structure C2 (d : Array O) (nn k0 : Nat) (e : Array O) (k m : Nat) : Prop where
  sz : e.size = d.size
  lo : k0 ≤ k
  hi : k + 1 ≤ k0 + m
  m1 : 1 ≤ m
  mn : k0 + m ≤ nn
  ln : (cA d (k0 + m)).length = k
  at_ : ∀ p, p < k → e[p]! = (cA d (k0 + m)).getD p oz
  up : ∀ p, k0 + m ≤ p + 1 → e[p]! = d[p]!
section
variable {d e : Array O} {nn k k0 m : Nat}
theorem C1.init (h : ¬ ((nn : Nat) : Int) < 2) : C1 d nn 1 := ⟨Nat.le_refl _, by omega, by rw [cA_one]; rfl, fun p hp => by
  have : p = 0 := by omega
  subst this; rw [cA_one]; rfl⟩
theorem C1.step (h : C1 d nn k) (h1 : (k : Int) < ((nn : Nat) : Int)) (h2 : eqO (d[((k : Int)).toNat]!) (d[((k : Int) - 1).toNat]!) = false) : C1 d nn (k + 1) := by
  have hl := h.lo
  rw [Int.toNat_natCast, show ((k : Int) - 1).toNat = k - 1 by omega] at h2
  refine ⟨by omega, by omega, by rw [cA_new h2, List.length_append, h.ln]; rfl, fun p hp => ?_⟩
  rw [cA_new h2]
  by_cases hpk : p < k
  · rw [getD_app_l (by rw [h.ln]; exact hpk), h.at_ p hpk]
  · have : p = k := by omega
    subst this
    have := getD_app_1 (l := cA d p) (x := d[p]!) (d := oz)
    rw [h.ln] at this; exact this
theorem C1.enter (h : C1 d nn k) (h1 : (k : Int) < ((nn : Nat) : Int)) (h2 : eqO (d[((k : Int)).toNat]!) (d[((k : Int) - 1).toNat]!) = true) : C2 d nn k d k 1 := by
  have hl := h.lo
  rw [Int.toNat_natCast, show ((k : Int) - 1).toNat = k - 1 by omega] at h2
  have e := cA_dup (d := d) (i := k) (by omega) h2
  exact ⟨rfl, Nat.le_refl _, by omega, Nat.le_refl _, by omega, by rw [e, h.ln], fun p hp => by rw [e, h.at_ p hp], fun _ _ => rfl⟩
theorem C1.done (h : C1 d nn k) (h1 : ¬ (k : Int) < ((nn : Nat) : Int)) : (cA d nn).length = nn ∧ ∀ p, p < nn → (cA d nn).getD p oz = d[p]! := by
  have : k = nn := by have := h.hi; omega
  subst this
  exact ⟨h.ln, h.at_⟩
theorem C2.same (h : C2 d nn k0 e k m) (h0 : 1 ≤ k0) (h1 : (m : Int) < ((nn - ((k0 : Int)).toNat : Nat) : Int)) (h2 : (!(eqO (e[(((((k0 : Int)).toNat : Nat) : Int) + (m : Int)).toNat]!) (e[(((((k0 : Int)).toNat : Nat) : Int) + ((m : Int) - 1)).toNat]!))) = false) : C2 d nn k0 e k (m + 1) := by
  have hm := h.m1; have hh := h.hi
  have e1 : (((((k0 : Int)).toNat : Nat) : Int) + (m : Int)).toNat = k0 + m := by omega
  have e2 : (((((k0 : Int)).toNat : Nat) : Int) + ((m : Int) - 1)).toNat = k0 + m - 1 := by omega
  rw [e1, e2, h.up (k0 + m) (by omega), h.up (k0 + m - 1) (by omega)] at h2
  have h3 : eqO (d[k0 + m]!) (d[k0 + m - 1]!) = true := by revert h2; cases eqO (d[k0 + m]!) (d[k0 + m - 1]!) <;> simp
  have ee := cA_dup (d := d) (i := k0 + m) (by omega) h3
  exact ⟨h.sz, h.lo, by omega, by omega, by omega, by rw [← Nat.add_assoc, ee, h.ln], fun p hp => by rw [← Nat.add_assoc, ee, h.at_ p hp], fun p hp => h.up p (by omega)⟩
theorem C2.new (h : C2 d nn k0 e k m) (hn : d.size = nn) (h0 : 1 ≤ k0) (h1 : (m : Int) < ((nn - ((k0 : Int)).toNat : Nat) : Int)) (h2 : (!(eqO (e[(((((k0 : Int)).toNat : Nat) : Int) + (m : Int)).toNat]!) (e[(((((k0 : Int)).toNat : Nat) : Int) + ((m : Int) - 1)).toNat]!))) = true) : C2 d nn k0 (e.setIfInBounds ((k : Int)).toNat (e[(((((k0 : Int)).toNat : Nat) : Int) + (m : Int)).toNat]!)) (k + 1) (m + 1) := by
  have hm := h.m1; have hh := h.hi; have hl := h.lo
  have e1 : (((((k0 : Int)).toNat : Nat) : Int) + (m : Int)).toNat = k0 + m := by omega
  have e2 : (((((k0 : Int)).toNat : Nat) : Int) + ((m : Int) - 1)).toNat = k0 + m - 1 := by omega
  rw [e1, e2, h.up (k0 + m - 1) (by omega), h.up (k0 + m) (by omega)] at h2
  rw [e1, Int.toNat_natCast, h.up (k0 + m) (by omega)]
  have h3 : eqO (d[k0 + m]!) (d[k0 + m - 1]!) = false := by revert h2; cases eqO (d[k0 + m]!) (d[k0 + m - 1]!) <;> simp
  have ee := cA_new (d := d) (i := k0 + m) h3
  have hk : k < e.size := by rw [h.sz, hn]; omega
  refine ⟨by rw [asz, h.sz], by omega, by omega, by omega, by omega, by rw [← Nat.add_assoc, ee, List.length_append, h.ln]; rfl, fun p hp => ?_, fun p hp => ?_⟩
  · rw [← Nat.add_assoc, ee]
    by_cases hpk : p = k
    · subst hpk
      rw [aset_at hk]
      have := getD_app_1 (l := cA d (k0 + m)) (x := d[k0 + m]!) (d := oz)
      rw [h.ln] at this; exact this.symm
    · rw [aset_ne hpk, h.at_ p (by omega), getD_app_l (by rw [h.ln]; omega)]
  · rw [aset_ne (by omega), h.up p (by omega)]
theorem C2.done (h : C2 d nn k0 e k m) (h1 : ¬ (m : Int) < ((nn - ((k0 : Int)).toNat : Nat) : Int)) : (cA d nn).length = k ∧ ∀ p, p < k → (cA d nn).getD p oz = e[p]! := by
  have hmn := h.mn
  have : k0 + m = nn := by omega
  subst this
  exact ⟨h.ln, fun p hp => (h.at_ p hp).symm⟩
theorem cA_small (h : ((nn : Nat) : Int) < 2) : (cA d nn).length = nn ∧ ∀ p, p < nn → (cA d nn).getD p oz = d[p]! := by
  have : nn = 0 ∨ nn = 1 := by omega
  rcases this with rfl | rfl
  · exact ⟨rfl, fun p hp => by omega⟩
  · rw [cA_one]; exact ⟨rfl, fun p hp => by have : p = 0 := by omega
                                            subst this; rfl⟩
end
theorem pdq2_ (d : Array O) (lim : Int) (hn : d.size = 2) : Fn Tryz.prog 207 [.sl 0 2 0, .int .i64 0, .int .i64 2, .int .i64 lim, .fn 163 []] [some (.row 93 27 2 0 (fun zz => oc (d[zz]!)))] (Rt (.tup []) [some (.row 93 27 2 0 (fun zz => oc ((Go.Sort.insertionSort lessO d 0 2)[zz]!)))]) :=
 enterM (n := 148) (by kernel_rfl) Tryz.func207 rfl rfl rfl fun G w a h0 A => N hX 11 A rfl rfl fun A => LOOP1 (fun (u : Nat) => [(0, .sl 0 2 0), (1, .int .i64 0), (2, .int .i64 2), (3, .int .i64 lim), (4, .fn 163 []), (10, .tt), (11, .tt)]) (fun (u : Nat) => [some (.row 93 27 2 0 (fun zz => oc (d[zz]!)))]) (fun (u : Nat) => u = 0) (fun (u : Nat) => 0) 0 rfl ((A.cut [0, 1, 2, 3, 4, 10, 11] rfl).trunc 1 rfl rfl rfl (by simp only [List.length_cons, List.length_nil] at h0; omega)) fun u hI {G a w} A => N hX 11 A rfl (ok_d (by omega) <| okE_nil) fun A => N hX 5 A rfl rfl fun A => forkD 25 A rfl
   (fun h1 A => N hX 7 A rfl rfl fun A => CALL1 [0] (isort_i d 2 0 2 (by omega) (by omega) hn (by omega) (by omega) (by omega)) A rfl rfl rfl rfl rfl rfl rfl fun A => N hX 3 A rfl rfl fun A => RETN hX A rfl rfl rfl h0 rfl rfl rfl rfl rfl rfl)
   (fun h1 A => absurd (by decide) h1)
theorem sortf2_ (d : Array O) (hn : d.size = 2) : Fn Tryz.prog 162 [.sl 0 2 0, .fn 163 []] [some (.row 93 27 2 0 (fun zz => oc (d[zz]!)))] (Rt (.tup []) [some (.row 93 27 2 0 (fun zz => oc ((Go.Sort.insertionSort lessO d 0 2)[zz]!)))]) :=
 enterM (n := 14) (by kernel_rfl) Tryz.func162 rfl rfl rfl fun G w a h0 A => N hX 12 A rfl rfl fun A => CALL1 [] (len_w 2 (by decide) (wu64 (by decide))) A rfl rfl rfl rfl rfl rfl rfl fun A => N hX 1 A rfl rfl fun A => CALL1 [0] (pdq2_ d ((Go.Sort.bitsLen 2 : Nat) : Int) hn) A rfl rfl rfl rfl rfl rfl rfl fun A => N hX 1 A rfl rfl fun A => ENDN (RETN hX A rfl rfl rfl h0 rfl rfl rfl rfl rfl rfl)
theorem clone_ (os : List O) (c : Nat) (hs : os.length ≤ 1000000) : Fn Tryz.prog 161 [.sl 0 os.length c] [some (.lst 27 os.length (fun zz => oc (os.getD zz oz)))] (Rt (.sl 1 os.length 0) [some (.lst 27 os.length (fun zz => oc (os.getD zz oz))), some (.row 93 27 os.length 0 (fun zz => oc (os.toArray[zz]!)))]) :=
 enterM (n := 8) (by kernel_rfl) Tryz.func161 rfl rfl rfl fun G w a h0 A => N hX 9 A rfl rfl fun A => NILL hX A rfl rfl (fun h1 {G a w} A => N hX 9 A rfl rfl fun A => have A := A.nilRow 2 93 27 (fun zz => oc (os.toArray[zz]!)) rfl (fun z => ⟨_, rfl, rfl⟩); have A := A.rowAs 1 os.length (fun zz => oc (os.toArray[zz]!)) rfl h1 (fun _ _ => rfl) (fun z => ⟨_, rfl, rfl⟩); have A := A.say 2 (.sl 1 os.length 0) rfl (by rw [h1]; rfl); RET hX [1] A ⟨rfl, rfl⟩ rfl rfl rfl rfl rfl rfl rfl rfl h0) (fun {G a w} A => N hX 9 A rfl rfl fun A => APPL hX os.length (fun zz => oc (os.toArray[zz]!)) A rfl rfl rfl rfl (Nat.le_refl _) (by omega) hs (by omega) (fun k hk => by omega) (fun k hk => by show oc _ = oc _; rw [Nat.zero_add, arr_l]) (fun z => ⟨_, rfl, rfl⟩) (fun k hk => ⟨_, rfl, okE_nil⟩) fun A => N hX 4 A rfl rfl fun A => RET hX [2] A ⟨rfl, rfl⟩ rfl rfl rfl rfl rfl rfl rfl rfl h0)
theorem compact_ (d : Array O) (nn : Nat) (hn : d.size = nn) (hs : nn ≤ 1000000) : Fn Tryz.prog 164 [.sl 0 nn 0] [some (.row 93 27 nn 0 (fun zz => oc (d[zz]!)))] (Rt (.sl 0 ((cA d nn).length) 0) [some (.row 93 27 ((cA d nn).length) 0 (fun zz => oc ((cA d nn).getD zz oz)))]) :=
 enterM (n := 61) (by kernel_rfl) Tryz.func164 rfl rfl rfl fun G w a h0 A => N hX 13 A rfl rfl fun A => forkD 8 A rfl
  (fun h1 A => N hX 8 A rfl rfl fun A => have hf := cA_small (d := d) h1; have A := A.rowAs 0 (cA d nn).length (fun zz => oc ((cA d nn).getD zz oz)) rfl (by rw [hf.1]; (try rfl); (try simp)) (fun q hq => by show oc _ = oc _; rw [hf.2 q (by simpa using hq)]) (fun z => ⟨_, rfl, rfl⟩); have A := A.say 2 (.sl 0 (cA d nn).length 0) rfl (by rw [hf.1]; (try rfl); (try simp)); RETN hX A rfl rfl rfl h0 rfl rfl rfl rfl rfl rfl)
  (fun h1 A => N hX 10 A rfl rfl fun A => LOOP1 (fun (k : Nat) => [(0, .sl 0 nn 0), (2, .sla none 0 0), (3, .int .i64 (k : Int))]) (fun (k : Nat) => [some (.row 93 27 nn 0 (fun zz => oc (d[zz]!)))]) (fun (k : Nat) => C1 d nn k) (fun (k : Nat) => nn - k) 1 (C1.init h1) ((A.cut [0, 2, 3] rfl).trunc 1 rfl rfl rfl (by simp only [List.length_cons, List.length_nil] at h0; omega)) fun k hI {G a w} A => N hX 9 A rfl rfl fun A => forkD 13 A rfl
    (fun h2 A => N hX 6 A rfl rfl fun A => DRAWN hX hmo [] [] A rfl (ok_d (by have := hI.lo; have := hI.hi; omega) <| ok_d (by have := hI.lo; have := hI.hi; omega) <| ok_d (by have := hI.lo; have := hI.hi; omega) <| ok_d (by have := hI.lo; have := hI.hi; omega) <| ok_d (by have := hI.lo; have := hI.hi; omega) <| okE_nil) rfl rfl (by kernel_rfl) (effAll_nil _ _) trivial fun A => N hX 1 A rfl rfl fun A => fork 25 A rfl
     (fun h3 A => N hX 11 A rfl (ok_d (by have := hI.lo; have := hI.hi; omega) <| okE_nil) fun A => N hX 5 A rfl rfl fun A => LOOP3 (fun (q : Nat) (m : Nat) (e : Array O) => [(0, .sl 0 nn 0), (2, .sla none 0 0), (3, .int .i64 (q : Int)), (4, .st 0 27 (((k : Int)).toNat) (nn - ((k : Int)).toNat) 0), (5, .int .i64 (m : Int))]) (fun (q : Nat) (m : Nat) (e : Array O) => [some (.row 93 27 nn 0 (fun zz => oc (e[zz]!)))]) (fun (q : Nat) (m : Nat) (e : Array O) => C2 d nn k e q m) (fun (q : Nat) (m : Nat) (e : Array O) => nn - m) k 1 d (hI.enter h2 h3) ((A.cut [0, 2, 3, 4, 5] rfl).trunc 1 rfl rfl rfl (by simp only [List.length_cons, List.length_nil] at h0; omega)) fun q m e hJ {G a w} A => N hX 9 A rfl rfl fun A => forkD 32 A rfl
       (fun h4 A => N hX 6 A rfl rfl fun A => DRAWN hX hmo [] [] A rfl (ok_d (by have := hI.lo; have := hI.hi; have := hJ.lo; have := hJ.hi; have := hJ.m1; have := hJ.mn; omega) <| ok_d (by have := hI.lo; have := hI.hi; have := hJ.lo; have := hJ.hi; have := hJ.m1; have := hJ.mn; omega) <| ok_d (by have := hI.lo; have := hI.hi; have := hJ.lo; have := hJ.hi; have := hJ.m1; have := hJ.mn; omega) <| ok_d (by have := hI.lo; have := hI.hi; have := hJ.lo; have := hJ.hi; have := hJ.m1; have := hJ.mn; omega) <| ok_d (by have := hI.lo; have := hI.hi; have := hJ.lo; have := hJ.hi; have := hJ.m1; have := hJ.mn; omega) <| okE_nil) rfl rfl (by kernel_rfl) (effAll_nil _ _) trivial fun A => N hX 1 A rfl rfl fun A => fork 44 A rfl
        (fun h5 A => N hX 10 A rfl (ok_d (by have := hI.lo; have := hI.hi; have := hJ.lo; have := hJ.hi; have := hJ.m1; have := hJ.mn; omega) <| ok_d (by have := hI.lo; have := hI.hi; have := hJ.lo; have := hJ.hi; have := hJ.m1; have := hJ.mn; omega) <| ok_d (by have := hI.lo; have := hI.hi; have := hJ.lo; have := hJ.hi; have := hJ.m1; have := hJ.mn; omega) <| okE_nil) fun A => STR (i := 0) (e := 93) (s := 27) (m := nn) (c := 0) hX (((q : Int)).toNat) (fun zz => oc ((e.setIfInBounds ((q : Int)).toNat (e[(((((k : Int)).toNat : Nat) : Int) + (m : Int)).toNat]!))[zz]!)) A rfl rfl rfl (by have := hI.lo; have := hI.hi; have := hJ.lo; have := hJ.hi; have := hJ.m1; have := hJ.mn; omega) (fun z hz => by show oc _ = oc _; rw [aset_ne hz]) (by show _ = some (oc _); rw [aset_at (by (try simp only [asz]); rw [hJ.sz, hn]; have := hI.lo; have := hI.hi; have := hJ.lo; have := hJ.hi; have := hJ.m1; have := hJ.mn; omega)]; rfl) fun A => N hX 9 A rfl (ok_d (by have := hI.lo; have := hI.hi; have := hJ.lo; have := hJ.hi; have := hJ.m1; have := hJ.mn; omega) <| okE_nil) fun A => N hX 5 A rfl (ok_d (by have := hI.lo; have := hI.hi; have := hJ.lo; have := hJ.hi; have := hJ.m1; have := hJ.mn; omega) <| okE_nil) fun A => ⟨q + 1, m + 1, e.setIfInBounds ((q : Int)).toNat (e[(((((k : Int)).toNat : Nat) : Int) + (m : Int)).toNat]!), _, (by omega), (hJ.new hn hI.lo h4 h5), ((A.cut [0, 2, 3, 4, 5] rfl).trunc 1 rfl rfl rfl (by simp only [List.length_cons, List.length_nil] at h0; omega))⟩)
        (fun h5 A => N hX 9 A rfl (ok_d (by have := hI.lo; have := hI.hi; have := hJ.lo; have := hJ.hi; have := hJ.m1; have := hJ.mn; omega) <| okE_nil) fun A => ⟨q, m + 1, e, _, (by omega), (hJ.same hI.lo h4 h5), ((A.cut [0, 2, 3, 4, 5] rfl).trunc 1 rfl rfl rfl (by simp only [List.length_cons, List.length_nil] at h0; omega))⟩))
       (fun h4 A => N hX 8 A rfl (ok_d (by have := hI.lo; have := hI.hi; have := hJ.lo; have := hJ.hi; have := hJ.m1; have := hJ.mn; omega) <| okE_nil) fun A => CLR hX A rfl (by have := hI.lo; have := hI.hi; have := hJ.lo; have := hJ.hi; have := hJ.m1; have := hJ.mn; omega) fun A => N hX 11 A rfl (ok_d (by show 0 ≤ (q : Int) ∧ (q : Int) ≤ ((((q : Int)).toNat : Nat) : Int); exact (by have := hI.lo; have := hI.hi; have := hJ.lo; have := hJ.hi; have := hJ.m1; have := hJ.mn; omega)) <| okE_nil) fun A => have hf := hJ.done h4; have A := A.rowAs 0 (cA d nn).length (fun zz => oc ((cA d nn).getD zz oz)) rfl (by rw [hf.1]; (try rfl); (try simp)) (fun q hq => by show oc _ = oc _; rw [hf.2 q (by simpa using hq)]) (fun z => ⟨_, rfl, rfl⟩); have A := A.say 2 (.sl 0 (cA d nn).length 0) rfl (by rw [hf.1]; (try rfl); (try simp)); RETN hX A rfl rfl rfl h0 rfl rfl rfl rfl rfl rfl))
     (fun h3 A => N hX 9 A rfl (ok_d (by have := hI.lo; have := hI.hi; omega) <| okE_nil) fun A => ⟨k + 1, _, (by omega), (hI.step h2 h3), ((A.cut [0, 2, 3] rfl).trunc 1 rfl rfl rfl (by simp only [List.length_cons, List.length_nil] at h0; omega))⟩))
    (fun h2 A => N hX 10 A rfl rfl fun A => have hf := hI.done h2; have A := A.rowAs 0 (cA d nn).length (fun zz => oc ((cA d nn).getD zz oz)) rfl (by rw [hf.1]; (try rfl); (try simp)) (fun q hq => by show oc _ = oc _; rw [hf.2 q (by simpa using hq)]) (fun z => ⟨_, rfl, rfl⟩); have A := A.say 2 (.sl 0 (cA d nn).length 0) rfl (by rw [hf.1]; (try rfl); (try simp)); RETN hX A rfl rfl rfl h0 rfl rfl rfl rfl rfl rfl))
def oA : O := fun k => if k = 24 then 1 else 0
abbrev o2 : List O := [oz, oA]
theorem ins2 : Go.Sort.insertionSort lessO o2.toArray 0 2 = o2.toArray := by
  have h : insInner lessO 0 1 o2.toArray = o2.toArray := by
    have e : lessO (o2.toArray[0 + 1]!) (o2.toArray[0]!) = false := by decide
    rw [insInner, e]; rfl
  unfold Go.Sort.insertionSort
  rw [insOuter, if_pos (by decide), h, insOuter, if_neg (by decide)]
theorem cA2 : cA o2.toArray 2 = o2 := by
  have e : eqO (o2.toArray[1]!) (o2.toArray[1 - 1]!) = false := by decide
  rw [cA_new e, cA_one]; rfl
theorem fn_asH {P : Program} {f : Nat} {az : List SV} {H H2 H3 : Hp} {x : SV} (h : Fn P f az H (Rt x H2)) (e : H2 = H3) : Fn P f az H (Rt x H3) := e ▸ h
theorem fn_as {P : Program} {f : Nat} {az : List SV} {H H2 H3 : Hp} {x y : SV} (h : Fn P f az H (Rt x H2)) (d : x = y) (e : H2 = H3) : Fn P f az H (Rt y H3) := d ▸ e ▸ h
theorem clone2_ (c : Nat) : Fn Tryz.prog 161 [.sl 0 2 c] [some (.lst 27 2 (fun zz => oc (o2.getD zz oz)))] (Rt (.sl 1 2 0) [some (.lst 27 2 (fun zz => oc (o2.getD zz oz))), some (.row 93 27 2 0 (fun zz => oc (o2.toArray[zz]!)))]) := clone_ o2 c (by decide)
theorem sortf2A_  : Fn Tryz.prog 162 [.sl 0 2 0, .fn 163 []] [some (.row 93 27 2 0 (fun zz => oc (o2.toArray[zz]!)))] (Rt (.tup []) [some (.row 93 27 2 0 (fun zz => oc (o2.toArray[zz]!)))]) := fn_asH (sortf2_ o2.toArray rfl) (by rw [ins2])
theorem compact2_  : Fn Tryz.prog 164 [.sl 0 2 0] [some (.row 93 27 2 0 (fun zz => oc (o2.toArray[zz]!)))] (Rt (.sl 0 2 0) [some (.row 93 27 2 0 (fun zz => oc (o2.getD zz oz)))]) := fn_as (compact_ o2.toArray 2 rfl (by decide)) (by rw [cA2]; rfl) (by rw [cA2]; rfl)
theorem sort2_ (c : Nat)  : Fn Tryz.prog 104 [.sl 0 2 c] [some (.lst 27 2 (fun zz => oc (o2.getD zz oz)))] (Rt (.sl 1 2 0) [some (.lst 27 2 (fun zz => oc (o2.getD zz oz))), some (.row 93 27 2 0 (fun zz => oc (o2.getD zz oz)))]) :=
 enterM (n := 10) (by kernel_rfl) Tryz.func104 rfl rfl rfl fun G w a h0 A => N hX 8 A rfl rfl fun A => CALL1 [0] (clone2_ c) A rfl rfl rfl rfl rfl rfl rfl fun A => N hX 6 A rfl rfl fun A => CALL1 [1] sortf2A_ A rfl rfl rfl rfl rfl rfl rfl fun A => N hX 5 A rfl rfl fun A => CALL1 [1] compact2_ A rfl rfl rfl rfl rfl rfl rfl fun A => N hX 4 A rfl rfl fun A => RET hX [1] A ⟨rfl, rfl⟩ rfl rfl rfl rfl rfl rfl rfl rfl h0
end Go.Proofs.YtedlaclfhgneeabGreatDoor.Cd
namespace Go.Proofs.YtedlaclfhgneeabGreatDoor.Cd
open Go.RowKit
set_option linter.unusedVariables false
set_option linter.unusedSimpArgs false
set_option maxRecDepth 100000
set_option maxHeartbeats 2000000
set_option simprocs false
def rightGo : List Cn → Int → Bool
 | [], h => h == 1
 | c :: r, h => if c.n < 0 ∨ c.n > h then false else rightGo r (h - c.n + 1)
def right (cs : List Cn) : Bool := if cs.length < 1 ∨ cs.length > 32 then false else rightGo cs 0
def RI (cs : List Cn) (i : Nat) (hv : Int) : Prop := i ≤ cs.length ∧ cs.length ≤ 32 ∧ 0 ≤ hv ∧ hv ≤ i ∧ right cs = rightGo (cs.drop i) hv
theorem RI.at {cs : List Cn} {i : Nat} {hv : Int} (h : RI cs i hv) (h2 : (i : Int) < (cs.length : Int)) : right cs = if (cs.getD ((i : Int)).toNat Cn.z).n < 0 ∨ (cs.getD ((i : Int)).toNat Cn.z).n > hv then false else rightGo (cs.drop (i + 1)) (hv - (cs.getD ((i : Int)).toNat Cn.z).n + 1) := by
  have hi : i < cs.length := by omega
  have e : cs.drop i = cs[i] :: cs.drop (i + 1) := List.drop_eq_getElem_cons hi
  have hg : cs.getD ((i : Int)).toNat Cn.z = cs[i] := by simp [List.getD, hi]
  rw [h.2.2.2.2, e, hg, rightGo]
theorem RI.done {cs : List Cn} {i : Nat} {hv : Int} (h : RI cs i hv) (h2 : ¬ (i : Int) < (cs.length : Int)) : right cs = (hv == 1) := by
  have : cs.drop i = [] := List.drop_eq_nil_of_le (by have := h.1; omega)
  rw [h.2.2.2.2, this, rightGo]
end Go.Proofs.YtedlaclfhgneeabGreatDoor.Cd
namespace Go.Proofs.YtedlaclfhgneeabGreatDoor.Cd
open Go.RowKit
set_option linter.unusedVariables false
set_option linter.unusedSimpArgs false
set_option maxRecDepth 100000
set_option maxHeartbeats 2000000
set_option simprocs false
end Go.Proofs.YtedlaclfhgneeabGreatDoor.Cd
namespace Go.Proofs.YtedlaclfhgneeabGreatDoor.Cd
open Go.RowKit
set_option linter.unusedVariables false
set_option linter.unusedSimpArgs false
set_option maxRecDepth 100000
set_option maxHeartbeats 2000000
set_option simprocs false
end Go.Proofs.YtedlaclfhgneeabGreatDoor.Cd
namespace Go.Proofs.YtedlaclfhgneeabGreatDoor.Cd
open Go.RowKit
set_option linter.unusedVariables false
set_option linter.unusedSimpArgs false
set_option maxRecDepth 100000
set_option maxHeartbeats 2000000
set_option simprocs false
end Go.Proofs.YtedlaclfhgneeabGreatDoor.Cd
namespace Go.Proofs.YtedlaclfhgneeabGreatDoor.Cd
open Go.RowKit
set_option linter.unusedVariables false
set_option linter.unusedSimpArgs false
set_option maxRecDepth 100000
set_option maxHeartbeats 2000000
set_option simprocs false
def stepL (p : O) (c : Cn) (l : List Bool) : List Bool := if c.k = 1 then l ++ [([[(p 0), (p 1), (p 2), (p 3), (p 4), (p 5), (p 6), (p 7)].getD (c.r).toNat 0, [(p 8), (p 9), (p 10), (p 11), (p 12), (p 13), (p 14), (p 15)].getD (c.r).toNat 0, [(p 16), (p 17), (p 18), (p 19), (p 20), (p 21), (p 22), (p 23)].getD (c.r).toNat 0].getD (c.t).toNat 0) == (c.v)] else if c.k = 2 then l ++ [([(p 24), (p 25), (p 26)].getD (c.l).toNat 0) == (c.v)] else if c.k = 3 then l.set (l.length - 1) (!((l).getD ((((l.length : Nat) : Int) - 1).toNat) false)) else if c.k = 4 then (l.set (l.length - 2) (((l).getD ((((l.length : Nat) : Int) - 2).toNat) false) && ((l).getD ((((l.length : Nat) : Int) - 1).toNat) false))).take (l.length - 1) else if c.k = 5 then (l.set (l.length - 2) (((l).getD ((((l.length : Nat) : Int) - 2).toNat) false) || ((l).getD ((((l.length : Nat) : Int) - 1).toNat) false))).take (l.length - 1) else l
theorem st1 {p : O} {c : Cn} {l : List Bool} (h : c.k = 1) : stepL p c l = l ++ [([[(p 0), (p 1), (p 2), (p 3), (p 4), (p 5), (p 6), (p 7)].getD (c.r).toNat 0, [(p 8), (p 9), (p 10), (p 11), (p 12), (p 13), (p 14), (p 15)].getD (c.r).toNat 0, [(p 16), (p 17), (p 18), (p 19), (p 20), (p 21), (p 22), (p 23)].getD (c.r).toNat 0].getD (c.t).toNat 0) == (c.v)] := by unfold stepL; rw [if_pos h]
theorem st2 {p : O} {c : Cn} {l : List Bool} (h : c.k = 2) : stepL p c l = l ++ [([(p 24), (p 25), (p 26)].getD (c.l).toNat 0) == (c.v)] := by unfold stepL; rw [if_neg (by omega), if_pos h]
theorem st3 {p : O} {c : Cn} {l : List Bool} (h : c.k = 3) : stepL p c l = l.set (l.length - 1) (!((l).getD ((((l.length : Nat) : Int) - 1).toNat) false)) := by unfold stepL; rw [if_neg (by omega), if_neg (by omega), if_pos h]
theorem st4 {p : O} {c : Cn} {l : List Bool} (h : c.k = 4) : stepL p c l = (l.set (l.length - 2) (((l).getD ((((l.length : Nat) : Int) - 2).toNat) false) && ((l).getD ((((l.length : Nat) : Int) - 1).toNat) false))).take (l.length - 1) := by unfold stepL; rw [if_neg (by omega), if_neg (by omega), if_neg (by omega), if_pos h]
theorem st5 {p : O} {c : Cn} {l : List Bool} (h : c.k = 5) : stepL p c l = (l.set (l.length - 2) (((l).getD ((((l.length : Nat) : Int) - 2).toNat) false) || ((l).getD ((((l.length : Nat) : Int) - 1).toNat) false))).take (l.length - 1) := by unfold stepL; rw [if_neg (by omega), if_neg (by omega), if_neg (by omega), if_neg (by omega), if_pos h]
def evalB (p : O) (cs : List Cn) : Bool := if right cs = true then (cs.foldl (fun l c => stepL p c l) []).getD 0 false else false
theorem cn_kind {c : Cn} (h : ¬ c.n < 0) : (c.k = 1 ∧ c.n = 0 ∧ 0 ≤ c.t ∧ c.t < 3 ∧ 0 ≤ c.r ∧ c.r < 8) ∨ (c.k = 2 ∧ c.n = 0 ∧ 0 ≤ c.l ∧ c.l < 3) ∨ (c.k = 3 ∧ c.n = 1) ∨ (c.k = 4 ∧ c.n = 2) ∨ (c.k = 5 ∧ c.n = 2) := by
  unfold Go.Proofs.YtedlaclfhgneeabGreatDoor.Cn.n at *
  unfold one0 at *
  by_cases h1 : c.k = 1
  · rw [if_pos h1] at h ⊢
    left
    split at h
    · next hh =>
      simp only [Bool.and_eq_true, decide_eq_true_eq, ge_iff_le] at hh
      rw [if_pos (by simp only [Bool.and_eq_true, decide_eq_true_eq, ge_iff_le]; exact hh)]
      split at h
      · omega
      · next hz => rw [if_neg hz]; omega
    · omega
  rw [if_neg h1] at h ⊢
  by_cases h2 : c.k = 2
  · rw [if_pos h2] at h ⊢
    right; left
    split at h
    · next hh =>
      rw [if_pos hh]
      simp only [Bool.and_eq_true, decide_eq_true_eq, ge_iff_le] at hh
      split at h
      · omega
      · next hz => rw [if_neg hz]; omega
    · omega
  rw [if_neg h2] at h ⊢
  by_cases h3 : c.k = 3
  · rw [if_pos h3] at h ⊢
    split at h
    · omega
    · next hz => rw [if_neg hz]; omega
  rw [if_neg h3] at h ⊢
  by_cases h4 : c.k = 4
  · rw [if_pos h4] at h ⊢
    split at h
    · omega
    · next hz => rw [if_neg hz]; omega
  rw [if_neg h4] at h ⊢
  by_cases h5 : c.k = 5
  · rw [if_pos h5] at h ⊢
    split at h
    · omega
    · next hz => rw [if_neg hz]; omega
  rw [if_neg h5] at h
  omega
structure EI (p : O) (cs : List Cn) (l : List Bool) (i : Nat) : Prop where
  le : i ≤ cs.length
  ll : l.length ≤ i
  rt : rightGo (cs.drop i) (l.length : Int) = true
  eq : l = (cs.take i).foldl (fun l c => stepL p c l) []
section
variable {p : O} {cs : List Cn} {l : List Bool} {i : Nat}
theorem right_of (h1 : (!(right cs)) = false) : right cs = true := by cases h : right cs <;> simp [h] at h1 ⊢
theorem EI.init (h1 : (!(right cs)) = false) : EI p cs [] 0 := by
  have h := right_of h1
  unfold right at h
  split at h
  · cases h
  · exact ⟨by omega, by simp, by simpa using h, rfl⟩
theorem EI.at (hI : EI p cs l i) (h2 : (i : Int) < ((cs.length : Nat) : Int)) : ¬ ((cs.getD ((i : Int)).toNat Cn.z).n < 0 ∨ (cs.getD ((i : Int)).toNat Cn.z).n > (l.length : Int)) ∧ rightGo (cs.drop (i + 1)) ((l.length : Int) - (cs.getD ((i : Int)).toNat Cn.z).n + 1) = true := by
  have hi : i < cs.length := by omega
  have e : cs.drop i = cs[i] :: cs.drop (i + 1) := List.drop_eq_getElem_cons hi
  have hg : (cs.getD ((i : Int)).toNat Cn.z) = cs[i] := by simp [List.getD, hi]
  have h := hI.rt
  rw [e, rightGo] at h
  rw [hg]
  split at h
  · cases h
  · next hh => exact ⟨hh, h⟩
theorem EI.n4 (hI : EI p cs l i) (h1 : (!(right cs)) = false) (h2 : (i : Int) < ((cs.length : Nat) : Int)) (h : (cs.getD ((i : Int)).toNat Cn.z).k = 4) : 2 ≤ l.length ∧ (cs.getD ((i : Int)).toNat Cn.z).n = 2 := by have h3 := (hI.at h2).1; have := cn_kind (fun h => (hI.at h2).1 (.inl h)); omega
theorem EI.n5 (hI : EI p cs l i) (h1 : (!(right cs)) = false) (h2 : (i : Int) < ((cs.length : Nat) : Int)) (h : (cs.getD ((i : Int)).toNat Cn.z).k = 5) : 2 ≤ l.length ∧ (cs.getD ((i : Int)).toNat Cn.z).n = 2 := by have h3 := (hI.at h2).1; have := cn_kind (fun h => (hI.at h2).1 (.inl h)); omega
theorem EI.len1 (hI : EI p cs l i) (h1 : (!(right cs)) = false) (h2 : (i : Int) < ((cs.length : Nat) : Int)) (h : (cs.getD ((i : Int)).toNat Cn.z).k = 1) : (stepL p (cs.getD ((i : Int)).toNat Cn.z) l).length = l.length + 1 := by rw [st1 h, List.length_append]; rfl
theorem EI.len2 (hI : EI p cs l i) (h1 : (!(right cs)) = false) (h2 : (i : Int) < ((cs.length : Nat) : Int)) (h : (cs.getD ((i : Int)).toNat Cn.z).k = 2) : (stepL p (cs.getD ((i : Int)).toNat Cn.z) l).length = l.length + 1 := by rw [st2 h, List.length_append]; rfl
theorem EI.len3 (hI : EI p cs l i) (h1 : (!(right cs)) = false) (h2 : (i : Int) < ((cs.length : Nat) : Int)) (h : (cs.getD ((i : Int)).toNat Cn.z).k = 3) : (stepL p (cs.getD ((i : Int)).toNat Cn.z) l).length = l.length := by rw [st3 h, List.length_set]
theorem EI.len4 (hI : EI p cs l i) (h1 : (!(right cs)) = false) (h2 : (i : Int) < ((cs.length : Nat) : Int)) (h : (cs.getD ((i : Int)).toNat Cn.z).k = 4) : (stepL p (cs.getD ((i : Int)).toNat Cn.z) l).length = l.length - 1 := by rw [st4 h, List.length_take, List.length_set]; omega
theorem EI.len5 (hI : EI p cs l i) (h1 : (!(right cs)) = false) (h2 : (i : Int) < ((cs.length : Nat) : Int)) (h : (cs.getD ((i : Int)).toNat Cn.z).k = 5) : (stepL p (cs.getD ((i : Int)).toNat Cn.z) l).length = l.length - 1 := by rw [st5 h, List.length_take, List.length_set]; omega
theorem EI.next (hI : EI p cs l i) (h1 : (!(right cs)) = false) (h2 : (i : Int) < ((cs.length : Nat) : Int)) : EI p cs (stepL p (cs.getD ((i : Int)).toNat Cn.z) l) (i + 1) := by
  have hi : i < cs.length := by omega
  have hg : (cs.getD ((i : Int)).toNat Cn.z) = cs[i] := by simp [List.getD, hi]
  have ⟨k1, k2⟩ := hI.at h2
  have hl : ((stepL p (cs.getD ((i : Int)).toNat Cn.z) l).length : Int) = (l.length : Int) - (cs.getD ((i : Int)).toNat Cn.z).n + 1 := by
    rcases cn_kind (fun h => k1 (.inl h)) with h | h | h | h | h
    · rw [hI.len1 h1 h2 h.1]; omega
    · rw [hI.len2 h1 h2 h.1]; omega
    · rw [hI.len3 h1 h2 h.1]; omega
    · rw [hI.len4 h1 h2 h.1]; have := hI.n4 h1 h2 h.1; omega
    · rw [hI.len5 h1 h2 h.1]; have := hI.n5 h1 h2 h.1; omega
  refine ⟨hi, by have := hI.ll; omega, by rw [hl]; exact k2, ?_⟩
  rw [List.take_succ_eq_append_getElem hi, List.foldl_append, ← hI.eq, hg]; rfl
theorem EI.fin (hI : EI p cs l i) (h2 : ¬ (i : Int) < ((cs.length : Nat) : Int)) : l.length = 1 := by
  have h := hI.rt
  rw [List.drop_eq_nil_of_le (by omega), rightGo, beq_iff_eq] at h
  omega
theorem EI.done (hI : EI p cs l i) (h1 : (!(right cs)) = false) (h2 : ¬ (i : Int) < ((cs.length : Nat) : Int)) : evalB p cs = l.getD 0 false := by
  unfold evalB
  rw [if_pos (right_of h1)]
  have h := hI.eq
  rw [List.take_of_length_le (by omega)] at h
  rw [← h]
end
end Go.Proofs.YtedlaclfhgneeabGreatDoor.Cd
namespace Go.Proofs.YtedlaclfhgneeabGreatDoor.Cd
open Go.RowKit
set_option linter.unusedVariables false
set_option linter.unusedSimpArgs false
set_option maxRecDepth 100000
set_option maxHeartbeats 2000000
set_option simprocs false
abbrev cc (c : Cn) : List SV := [.int .i64 c.k, .int .i64 c.t, .int .i64 c.r, .int .i64 c.l, .int .i64 c.v]
set_option simprocs true in
theorem nd_any (c : Cn) : (node0 c.k c.t c.r c.l c.v = true ∧ c.n = parts0 c.k) ∨ (node0 c.k c.t c.r c.l c.v = false ∧ c.n = -1) := by
  unfold Cn.n one0 node0 parts0
  by_cases h1 : c.k = 1
  · by_cases a1 : 0 ≤ c.t <;> by_cases a2 : c.t < 3 <;> by_cases a3 : 0 ≤ c.r <;> by_cases a4 : c.r < 8 <;> by_cases a5 : c.l = 0 <;> simp [h1, a1, a2, a3, a4, a5]
  by_cases h2 : c.k = 2
  · by_cases a1 : 0 ≤ c.l <;> by_cases a2 : c.l < 3 <;> by_cases a3 : c.t = 0 <;> by_cases a4 : c.r = 0 <;> simp [h2, a1, a2, a3, a4]
  by_cases h3 : c.k = 3
  · by_cases a1 : c.t = 0 <;> by_cases a2 : c.r = 0 <;> by_cases a3 : c.l = 0 <;> by_cases a4 : c.v = 0 <;> simp [h3, a1, a2, a3, a4]
  by_cases h4 : c.k = 4
  · by_cases a1 : c.t = 0 <;> by_cases a2 : c.r = 0 <;> by_cases a3 : c.l = 0 <;> by_cases a4 : c.v = 0 <;> simp [h4, a1, a2, a3, a4]
  by_cases h5 : c.k = 5
  · by_cases a1 : c.t = 0 <;> by_cases a2 : c.r = 0 <;> by_cases a3 : c.l = 0 <;> by_cases a4 : c.v = 0 <;> simp [h5, a1, a2, a3, a4]
  simp [h1, h2, h3, h4, h5]
theorem parts_rng (k : Int) : 0 ≤ parts0 k ∧ parts0 k ≤ 2 := by unfold parts0; split <;> (try split) <;> (try split) <;> omega
theorem nd_t {c : Cn} (h : node0 c.k c.t c.r c.l c.v = true) : c.n = parts0 c.k ∧ 0 ≤ parts0 c.k ∧ parts0 c.k ≤ 2 := by
  rcases nd_any c with h1 | h1
  · exact ⟨h1.2, parts_rng _⟩
  · rw [h] at h1; cases h1.1
theorem nd_f {c : Cn} (h : node0 c.k c.t c.r c.l c.v = false) : c.n < 0 := by
  rcases nd_any c with h1 | h1
  · rw [h] at h1; cases h1.1
  · omega
section
variable {L : List Cn} {n i : Nat} {hv : Int}
theorem RI.get (h : RI (L.take n) i hv) (hn : n ≤ L.length) (h1 : (i : Int) < ((n : Nat) : Int)) : (L.take n).getD ((i : Int)).toNat Cn.z = (L.getD ((i : Int)).toNat Cn.z) := getD_take (by omega)
theorem RI.b0 (h : ¬ ((n : Nat) : Int) > 32) (hn : n ≤ L.length) : RI (L.take n) 0 0 := by
  have hl : (L.take n).length = n := by simp; omega
  refine ⟨by omega, by omega, by omega, by omega, ?_⟩
  unfold right
  split
  · next hh =>
    have : n = 0 := by omega
    subst this
    rw [List.take_zero, List.drop_nil, rightGo]; rfl
  · rfl
theorem RI.bad (h : RI (L.take n) i hv) (hn : n ≤ L.length) (h1 : (i : Int) < ((n : Nat) : Int)) (h2 : (!(node0 (L.getD ((i : Int)).toNat Cn.z).k (L.getD ((i : Int)).toNat Cn.z).t (L.getD ((i : Int)).toNat Cn.z).r (L.getD ((i : Int)).toNat Cn.z).l (L.getD ((i : Int)).toNat Cn.z).v)) = true) : right (L.take n) = false := by
  have hl : (L.take n).length = n := by simp; omega
  have e := h.get hn h1
  have := nd_f (c := (L.getD ((i : Int)).toNat Cn.z)) (by revert h2; cases node0 (L.getD ((i : Int)).toNat Cn.z).k (L.getD ((i : Int)).toNat Cn.z).t (L.getD ((i : Int)).toNat Cn.z).r (L.getD ((i : Int)).toNat Cn.z).l (L.getD ((i : Int)).toNat Cn.z).v <;> simp)
  have ha := h.at (by rw [hl]; exact h1)
  rw [e, if_pos (.inl this)] at ha
  exact ha
theorem RI.bad2 (h : RI (L.take n) i hv) (hn : n ≤ L.length) (h1 : (i : Int) < ((n : Nat) : Int)) (h2 : (!(node0 (L.getD ((i : Int)).toNat Cn.z).k (L.getD ((i : Int)).toNat Cn.z).t (L.getD ((i : Int)).toNat Cn.z).r (L.getD ((i : Int)).toNat Cn.z).l (L.getD ((i : Int)).toNat Cn.z).v)) = false) (h3 : hv < parts0 (L.getD ((i : Int)).toNat Cn.z).k) : right (L.take n) = false := by
  have hl : (L.take n).length = n := by simp; omega
  have e := h.get hn h1
  have hq := nd_t (c := (L.getD ((i : Int)).toNat Cn.z)) (by revert h2; cases node0 (L.getD ((i : Int)).toNat Cn.z).k (L.getD ((i : Int)).toNat Cn.z).t (L.getD ((i : Int)).toNat Cn.z).r (L.getD ((i : Int)).toNat Cn.z).l (L.getD ((i : Int)).toNat Cn.z).v <;> simp)
  have ha := h.at (by rw [hl]; exact h1)
  rw [e, if_pos (.inr (by omega))] at ha
  exact ha
theorem RI.go (h : RI (L.take n) i hv) (hn : n ≤ L.length) (h1 : (i : Int) < ((n : Nat) : Int)) (h2 : (!(node0 (L.getD ((i : Int)).toNat Cn.z).k (L.getD ((i : Int)).toNat Cn.z).t (L.getD ((i : Int)).toNat Cn.z).r (L.getD ((i : Int)).toNat Cn.z).l (L.getD ((i : Int)).toNat Cn.z).v)) = false) (h3 : ¬ hv < parts0 (L.getD ((i : Int)).toNat Cn.z).k) : RI (L.take n) (i + 1) (hv + (1 - parts0 (L.getD ((i : Int)).toNat Cn.z).k)) := by
  have hl : (L.take n).length = n := by simp; omega
  have e := h.get hn h1
  have hq := nd_t (c := (L.getD ((i : Int)).toNat Cn.z)) (by revert h2; cases node0 (L.getD ((i : Int)).toNat Cn.z).k (L.getD ((i : Int)).toNat Cn.z).t (L.getD ((i : Int)).toNat Cn.z).r (L.getD ((i : Int)).toNat Cn.z).l (L.getD ((i : Int)).toNat Cn.z).v <;> simp)
  have ha := h.at (by rw [hl]; exact h1)
  rw [e, if_neg (by omega)] at ha
  have k := h.2.2
  exact ⟨by omega, h.2.1, by omega, by omega, by rw [ha, hq.1]; congr 1; omega⟩
end
theorem pright_ (L : List Cn) (n : Nat) (c : Nat) (hn : n ≤ L.length) : Fn Tryz.prog 23 [.sl 0 n c] [some (.lst 5 L.length (fun zz => cc (L.getD zz Cn.z)))] (Rt (.bool (right (L.take n))) [some (.lst 5 L.length (fun zz => cc (L.getD zz Cn.z)))]) :=
 enterM (n := 34) (by kernel_rfl) Tryz.func23 rfl rfl rfl fun G w a h0 A => N hX 13 A rfl rfl fun A => forkD 8 A rfl
  (fun h1 A => N hX 7 A rfl rfl fun A => RETN hX A rfl rfl rfl h0 rfl rfl rfl rfl (by rw [show right (L.take n) = false by unfold right; rw [if_pos (by simp; omega)]]; rfl) rfl)
  (fun h1 A => N hX 17 A rfl rfl fun A => LOOP2 (fun (i : Nat) (hv : Int) => [(2, .ff), (3, .int .i64 hv), (9, .sl 0 n c), (10, .int .i64 ((n : Nat) : Int)), (11, .int .i64 (i : Int))]) (fun (i : Nat) (hv : Int) => [some (.lst 5 L.length (fun zz => cc (L.getD zz Cn.z)))]) (fun (i : Nat) (hv : Int) => RI (L.take n) i hv) (fun (i : Nat) (hv : Int) => n - i) 0 0 (RI.b0 h1 hn) ((A.cut [2, 3, 9, 10, 11] rfl).trunc 1 rfl rfl rfl (by simp only [List.length_cons, List.length_nil] at h0; omega)) fun i hv hI {G a w} A => N hX 6 A rfl rfl fun A => forkD 12 A rfl
    (fun h2 A => N hX 15 A rfl (ok_d (by have hq := hI.2.2; have hl : (L.take n).length = n := (by simp; omega); have h32 := hI.2.1; omega) <| ok_d (by have hq := hI.2.2; have hl : (L.take n).length = n := (by simp; omega); have h32 := hI.2.1; omega) <| okE_nil) fun A => N hX 2 A rfl rfl fun A => CALL1 [] (node_ ((L.getD (((i : Int)).toNat) Cn.z).k) ((L.getD (((i : Int)).toNat) Cn.z).t) ((L.getD (((i : Int)).toNat) Cn.z).r) ((L.getD (((i : Int)).toNat) Cn.z).l) ((L.getD (((i : Int)).toNat) Cn.z).v)) A rfl rfl rfl rfl rfl rfl rfl fun A => N hX 2 A rfl rfl fun A => fork 18 A rfl
     (fun h3 A => N hX 15 A rfl rfl fun A => RETN hX A rfl rfl rfl h0 rfl rfl rfl rfl (by rw [hI.bad hn h2 h3]; rfl) rfl)
     (fun h3 A => N hX 3 A rfl rfl fun A => CALL1 [] (parts_ ((L.getD (((i : Int)).toNat) Cn.z).k)) A rfl rfl rfl rfl rfl rfl rfl fun A => N hX 4 A rfl rfl fun A => forkD 24 A rfl
      (fun h4 A => N hX 7 A rfl rfl fun A => RETN hX A rfl rfl rfl h0 rfl rfl rfl rfl (by rw [hI.bad2 hn h2 h3 h4]; rfl) rfl)
      (fun h4 A => N hX 7 A rfl rfl fun A => CALL1 [] (parts_ ((L.getD (((i : Int)).toNat) Cn.z).k)) A rfl rfl rfl rfl rfl rfl rfl fun A => N hX 6 A rfl (ok_d (by have hq := hI.2.2; have hl : (L.take n).length = n := (by simp; omega); have h32 := hI.2.1; have hp := nd_t (c := (L.getD ((i : Int)).toNat Cn.z)) (by revert h3; cases node0 (L.getD ((i : Int)).toNat Cn.z).k (L.getD ((i : Int)).toNat Cn.z).t (L.getD ((i : Int)).toNat Cn.z).r (L.getD ((i : Int)).toNat Cn.z).l (L.getD ((i : Int)).toNat Cn.z).v <;> simp); omega) <| ok_d (by have hq := hI.2.2; have hl : (L.take n).length = n := (by simp; omega); have h32 := hI.2.1; have hp := nd_t (c := (L.getD ((i : Int)).toNat Cn.z)) (by revert h3; cases node0 (L.getD ((i : Int)).toNat Cn.z).k (L.getD ((i : Int)).toNat Cn.z).t (L.getD ((i : Int)).toNat Cn.z).r (L.getD ((i : Int)).toNat Cn.z).l (L.getD ((i : Int)).toNat Cn.z).v <;> simp); omega) <| okE_nil) fun A => N hX 4 A rfl (ok_d (by have hq := hI.2.2; have hl : (L.take n).length = n := (by simp; omega); have h32 := hI.2.1; have hp := nd_t (c := (L.getD ((i : Int)).toNat Cn.z)) (by revert h3; cases node0 (L.getD ((i : Int)).toNat Cn.z).k (L.getD ((i : Int)).toNat Cn.z).t (L.getD ((i : Int)).toNat Cn.z).r (L.getD ((i : Int)).toNat Cn.z).l (L.getD ((i : Int)).toNat Cn.z).v <;> simp); omega) <| okE_nil) fun A => ⟨i + 1, hv + (1 - parts0 (L.getD ((i : Int)).toNat Cn.z).k), _, (by omega), (hI.go hn h2 h3 h4), ((A.cut [2, 3, 9, 10, 11] rfl).trunc 1 rfl rfl rfl (by simp only [List.length_cons, List.length_nil] at h0; omega))⟩)))
    (fun h2 A => N hX 11 A rfl rfl fun A => RETN hX A rfl rfl rfl h0 rfl rfl rfl rfl (by rw [hI.done (by rw [List.length_take, Nat.min_eq_left hn]; exact h2)]; rfl) rfl))
end Go.Proofs.YtedlaclfhgneeabGreatDoor.Cd
namespace Go.Proofs.YtedlaclfhgneeabGreatDoor.Cd
open Go.RowKit
set_option linter.unusedVariables false
set_option linter.unusedSimpArgs false
set_option maxRecDepth 100000
set_option maxHeartbeats 2000000
set_option simprocs false
def hv0 (p : O) (kd : Int) (th : Int) (rg : Int) (lc : Int) (vl : Int) (l : List Bool) (j : Nat) (k : Nat) : Bool := if kd = 1 then ([[(p 0), (p 1), (p 2), (p 3), (p 4), (p 5), (p 6), (p 7)].getD (rg).toNat 0, [(p 8), (p 9), (p 10), (p 11), (p 12), (p 13), (p 14), (p 15)].getD (rg).toNat 0, [(p 16), (p 17), (p 18), (p 19), (p 20), (p 21), (p 22), (p 23)].getD (rg).toNat 0].getD (th).toNat 0) == vl else if kd = 2 then ([(p 24), (p 25), (p 26)].getD (lc).toNat 0) == vl else if kd = 3 then !(l.getD ((((j : Nat) : Int) + 0).toNat) false) else if kd = 4 then (l.getD ((((j : Nat) : Int) + 0).toNat) false) && (l.getD ((((j : Nat) : Int) + 1).toNat) false) else (l.getD ((((j : Nat) : Int) + 0).toNat) false) || (l.getD ((((j : Nat) : Int) + 1).toNat) false)
theorem hv_ (p : O) (kd : Int) (th : Int) (rg : Int) (lc : Int) (vl : Int) (l : List Bool) (j : Nat) (k : Nat) (hk : j + k ≤ l.length) (q1 : kd = 1 → 0 ≤ th ∧ th < 3 ∧ 0 ≤ rg ∧ rg < 8) (q2 : kd = 2 → 0 ≤ lc ∧ lc < 3) (q3 : kd = 3 → 1 ≤ k) (q4 : kd ≠ 1 → kd ≠ 2 → kd ≠ 3 → 2 ≤ k) : Fn Tryz.prog 166 [.agg [.int .i64 kd, .int .i64 th, .int .i64 rg, .int .i64 lc, .int .i64 vl], .st 1 1 j k 0, .ptr 0 0] [some (.blk (oc p)), some (.row 4 1 l.length 0 (fun zz => [.bool (l.getD zz false)]))] (Rt (.bool (hv0 p kd th rg lc vl l j k)) [some (.blk (oc p)), some (.row 4 1 l.length 0 (fun zz => [.bool (l.getD zz false)]))]) :=
 enterM (n := 55) (by kernel_rfl) Tryz.func166 rfl rfl rfl fun G w a h0 A => N hX 20 A rfl rfl fun A => forkE 8 A rfl
  (fun h1 A => N hX 2 A rfl rfl fun A => DRAWN hX hmo [] [] A rfl (ok_d (by omega) <| ok_d (by omega) <| ok_d (by omega) <| ok_d (by omega) <| okE_nil) rfl rfl (by kernel_rfl) (effAll_nil _ _) trivial fun A => N hX 2 A rfl rfl fun A => RETN hX A rfl rfl rfl h0 rfl rfl rfl rfl (by simp only [oneS, nb, nbL, nbH, hv0, if_pos h1]) rfl)
  (fun h1 A => N hX 7 A rfl rfl fun A => forkE 21 A rfl
   (fun h2 A => N hX 2 A rfl rfl fun A => DRAWN hX hmo [] [] A rfl (ok_d (by omega) <| ok_d (by omega) <| okE_nil) rfl rfl (by kernel_rfl) (effAll_nil _ _) trivial fun A => N hX 2 A rfl rfl fun A => RETN hX A rfl rfl rfl h0 rfl rfl rfl rfl (by simp only [oneS, nb, nbL, nbH, hv0, if_neg (h1), if_pos h2]) rfl)
   (fun h2 A => N hX 7 A rfl rfl fun A => forkE 31 A rfl
    (fun h3 A => N hX 11 A rfl (ok_d (by omega) <| ok_d (by omega) <| okE_nil) fun A => RETN hX A rfl rfl rfl h0 rfl rfl rfl rfl (by simp only [oneS, nb, nbL, nbH, hv0, if_neg (h1), if_neg (h2), if_pos h3]) rfl)
    (fun h3 A => N hX 7 A rfl rfl fun A => forkE 37 A rfl
     (fun h4 A => N hX 15 A rfl (ok_d (by omega) <| ok_d (by omega) <| ok_r <| ok_g (fun hg => (by omega)) <| ok_r <| ok_g (fun hg => (by omega)) <| ok_r <| okE_nil) fun A => RETN hX A rfl rfl rfl h0 rfl rfl rfl rfl (by simp only [oneS, nb, nbL, nbH, hv0, if_neg (h1), if_neg (h2), if_neg (h3), if_pos h4]) rfl)
     (fun h4 A => N hX 18 A rfl (ok_d (by omega) <| ok_d (by omega) <| ok_r <| ok_g (fun hg => (by omega)) <| ok_r <| ok_g (fun hg => (by omega)) <| ok_r <| okE_nil) fun A => RETN hX A rfl rfl rfl h0 rfl rfl rfl rfl (by simp only [oneS, nb, nbL, nbH, hv0, if_neg (h1), if_neg (h2), if_neg (h3), if_neg (h4)]) rfl))))
end Go.Proofs.YtedlaclfhgneeabGreatDoor.Cd
namespace Go.Proofs.YtedlaclfhgneeabGreatDoor.Cd
open Go.RowKit
set_option linter.unusedVariables false
set_option linter.unusedSimpArgs false
set_option maxRecDepth 100000
set_option maxHeartbeats 2000000
set_option simprocs false
theorem set_take {α : Type} : ∀ (l : List α) (k : Nat) (v : α), k < l.length → (l.set k v).take (k + 1) = l.take k ++ [v]
  | [], k, v, h => by simp at h
  | a :: l, 0, v, h => by simp
  | a :: l, k + 1, v, h => by
    rw [List.set_cons_succ, List.take_succ_cons, set_take l k v (by simpa using h)]; rfl
theorem fold_st {p : O} {c : Cn} {l : List Bool} {F : Nat} (hn : ¬ c.n < 0) (hl : c.n ≤ (l.length : Int)) (hp : c.n = parts0 c.k) (hF : F = (((l.length : Nat) : Int) - parts0 c.k).toNat) : l.take F ++ [hv0 p c.k c.t c.r c.l c.v l F (l.length - F)] = stepL p c l := by
  have hk := cn_kind hn
  unfold hv0
  rcases hk with h | h | h | h | h
  · rw [st1 h.1, if_pos h.1, List.take_of_length_le (by omega)]
  · rw [st2 h.1, if_neg (by omega), if_pos h.1, List.take_of_length_le (by omega)]
  · rw [st3 h.1, if_neg (by omega), if_neg (by omega), if_pos h.1]
    have e := set_take l (l.length - 1) (!(l.getD (l.length - 1) false)) (by omega)
    rw [List.take_of_length_le (by simp; omega)] at e
    rw [show F = l.length - 1 by omega, show (((l.length - 1 : Nat) : Int) + 0).toNat = l.length - 1 by omega, show (((l.length : Nat) : Int) - 1).toNat = l.length - 1 by omega, e]
  · rw [st4 h.1, if_neg (by omega), if_neg (by omega), if_neg (by omega), if_pos h.1]
    have e := set_take l (l.length - 2) (l.getD (l.length - 2) false && l.getD (l.length - 1) false) (by omega)
    rw [show F = l.length - 2 by omega, show (((l.length - 2 : Nat) : Int) + 0).toNat = l.length - 2 by omega, show (((l.length - 2 : Nat) : Int) + 1).toNat = l.length - 1 by omega, show (((l.length : Nat) : Int) - 2).toNat = l.length - 2 by omega, show (((l.length : Nat) : Int) - 1).toNat = l.length - 1 by omega, ← e, show l.length - 2 + 1 = l.length - 1 by omega]
  · rw [st5 h.1, if_neg (by omega), if_neg (by omega), if_neg (by omega), if_neg (by omega)]
    have e := set_take l (l.length - 2) (l.getD (l.length - 2) false || l.getD (l.length - 1) false) (by omega)
    rw [show F = l.length - 2 by omega, show (((l.length - 2 : Nat) : Int) + 0).toNat = l.length - 2 by omega, show (((l.length - 2 : Nat) : Int) + 1).toNat = l.length - 1 by omega, show (((l.length : Nat) : Int) - 2).toNat = l.length - 2 by omega, show (((l.length : Nat) : Int) - 1).toNat = l.length - 1 by omega, ← e, show l.length - 2 + 1 = l.length - 1 by omega]
section
variable {p : O} {L : List Cn} {n i : Nat} {l : List Bool}
theorem EI.i0 (hr : right (L.take n) = true) : EI p (L.take n) [] 0 := EI.init (by rw [hr]; rfl)
theorem EI.kn (hI : EI p (L.take n) l i) (hn : n ≤ L.length) (h1 : (i : Int) < ((n : Nat) : Int)) : ¬ (L.getD ((i : Int)).toNat Cn.z).n < 0 ∧ (L.getD ((i : Int)).toNat Cn.z).n ≤ (l.length : Int) ∧ (L.getD ((i : Int)).toNat Cn.z).n = parts0 (L.getD ((i : Int)).toNat Cn.z).k ∧ (((L.getD ((i : Int)).toNat Cn.z).k = 1 ∧ (L.getD ((i : Int)).toNat Cn.z).n = 0 ∧ 0 ≤ (L.getD ((i : Int)).toNat Cn.z).t ∧ (L.getD ((i : Int)).toNat Cn.z).t < 3 ∧ 0 ≤ (L.getD ((i : Int)).toNat Cn.z).r ∧ (L.getD ((i : Int)).toNat Cn.z).r < 8) ∨ ((L.getD ((i : Int)).toNat Cn.z).k = 2 ∧ (L.getD ((i : Int)).toNat Cn.z).n = 0 ∧ 0 ≤ (L.getD ((i : Int)).toNat Cn.z).l ∧ (L.getD ((i : Int)).toNat Cn.z).l < 3) ∨ ((L.getD ((i : Int)).toNat Cn.z).k = 3 ∧ (L.getD ((i : Int)).toNat Cn.z).n = 1) ∨ ((L.getD ((i : Int)).toNat Cn.z).k = 4 ∧ (L.getD ((i : Int)).toNat Cn.z).n = 2) ∨ ((L.getD ((i : Int)).toNat Cn.z).k = 5 ∧ (L.getD ((i : Int)).toNat Cn.z).n = 2)) ∧ l.length ≤ i := by
  have hl : (L.take n).length = n := by simp; omega
  have h := (hI.at (by rw [hl]; exact h1)).1
  rw [getD_take (by omega)] at h
  have hn0 : ¬ (L.getD ((i : Int)).toNat Cn.z).n < 0 := fun h' => h (.inl h')
  refine ⟨hn0, by omega, ?_, cn_kind hn0, hI.ll⟩
  rcases nd_any (L.getD ((i : Int)).toNat Cn.z) with h2 | h2
  · exact h2.2
  · omega
theorem EI.nx (hI : EI p (L.take n) l i) (hr : right (L.take n) = true) (hn : n ≤ L.length) (h1 : (i : Int) < ((n : Nat) : Int)) : EI p (L.take n) (stepL p (L.getD ((i : Int)).toNat Cn.z) l) (i + 1) := by
  have hl : (L.take n).length = n := by simp; omega
  have := hI.next (by rw [hr]; rfl) (by rw [hl]; exact h1)
  rw [getD_take (by omega)] at this
  exact this
theorem EI.fi (hI : EI p (L.take n) l i) (hr : right (L.take n) = true) (hn : n ≤ L.length) (h1 : ¬ (i : Int) < ((n : Nat) : Int)) : l.length = 1 ∧ evalB p (L.take n) = l.getD 0 false := by
  have hl : (L.take n).length = n := by simp; omega
  exact ⟨hI.fin (by rw [hl]; exact h1), hI.done (by rw [hr]; rfl) (by rw [hl]; exact h1)⟩
end
theorem lapp1 {l : List Bool} {k : Nat} {b : Bool} (h : k ≤ l.length) : (l.take k ++ [b]).getD k false = b := by
  have := getD_app_1 (l := l.take k) (x := b) (d := false)
  rw [List.length_take, Nat.min_eq_left h] at this; exact this
theorem foldb_ (p : O) (L : List Cn) (n : Nat) (c : Nat) (hn : n ≤ L.length) (hN : n ≤ 1000000) (hr : right (L.take n) = true) : Fn Tryz.prog 165 [.sl 0 n c, .fn 166 [.ptr 1 0]] [some (.lst 5 L.length (fun zz => cc (L.getD zz Cn.z))), some (.blk (oc p))] (Rt (.bool (evalB p (L.take n))) [some (.lst 5 L.length (fun zz => cc (L.getD zz Cn.z))), some (.blk (oc p))]) :=
 enterM (n := 36) (by kernel_rfl) Tryz.func165 rfl rfl rfl fun G w a h0 A => N hX 19 A rfl rfl fun A => have A := A.nilRow 5 4 1 (fun zz => [.bool (([] : List Bool).getD zz false)]) rfl (fun z => ⟨_, rfl, rfl⟩); LOOP2 (fun (l : List Bool) (i : Nat) => [(1, .fn 166 [.ptr 1 0]), (4, .ff), (5, .sl 2 l.length 0), (9, .sl 0 n c), (10, .int .i64 ((n : Nat) : Int)), (11, .int .i64 (i : Int))]) (fun (l : List Bool) (i : Nat) => [some (.lst 5 L.length (fun zz => cc (L.getD zz Cn.z))), some (.blk (oc p)), some (.row 4 1 l.length 0 (fun zz => [.bool (l.getD zz false)]))]) (fun (l : List Bool) (i : Nat) => EI p (L.take n) l i) (fun (l : List Bool) (i : Nat) => n - i) [] 0 (EI.i0 hr) ((A.cut [1, 4, 5, 9, 10, 11] rfl).trunc 3 rfl rfl rfl (by simp only [List.length_cons, List.length_nil] at h0; omega)) fun l i hI {G a w} A => N hX 6 A rfl rfl fun A => forkD 12 A rfl
   (fun h1 A => N hX 14 A rfl (ok_d (by have hq := hI.kn hn h1; omega) <| ok_d (by have hq := hI.kn hn h1; omega) <| okE_nil) fun A => N hX 5 A rfl rfl fun A => CALL1 [] (parts_ ((L.getD (((i : Int)).toNat) Cn.z).k)) A rfl rfl rfl rfl rfl rfl rfl fun A => N hX 4 A rfl (ok_d (by have hq := hI.kn hn h1; omega) <| okE_nil) fun A => DRAWN hX hmo [] [(8, .bool (hv0 p ((L.getD (((i : Int)).toNat) Cn.z).k) ((L.getD (((i : Int)).toNat) Cn.z).t) ((L.getD (((i : Int)).toNat) Cn.z).r) ((L.getD (((i : Int)).toNat) Cn.z).l) ((L.getD (((i : Int)).toNat) Cn.z).v) l ((((l.length : Nat) : Int) - (parts0 ((L.getD (((i : Int)).toNat) Cn.z).k))).toNat) (l.length - (((l.length : Nat) : Int) - (parts0 ((L.getD (((i : Int)).toNat) Cn.z).k))).toNat)), [some (.lst 5 L.length (fun zz => cc (L.getD zz Cn.z))), some (.blk (oc p)), some (.row 4 1 l.length 0 (fun zz => [.bool (l.getD zz false)])), some (.blk [.int .i64 ((L.getD (((i : Int)).toNat) Cn.z).k), .int .i64 ((L.getD (((i : Int)).toNat) Cn.z).t), .int .i64 ((L.getD (((i : Int)).toNat) Cn.z).r), .int .i64 ((L.getD (((i : Int)).toNat) Cn.z).l), .int .i64 ((L.getD (((i : Int)).toNat) Cn.z).v)])]), (10, .sl 5 (((((l.length : Nat) : Int) - (parts0 ((L.getD (((i : Int)).toNat) Cn.z).k))).toNat) + 1) 0, [some (.lst 5 L.length (fun zz => cc (L.getD zz Cn.z))), some (.blk (oc p)), none, some (.blk [.int .i64 ((L.getD (((i : Int)).toNat) Cn.z).k), .int .i64 ((L.getD (((i : Int)).toNat) Cn.z).t), .int .i64 ((L.getD (((i : Int)).toNat) Cn.z).r), .int .i64 ((L.getD (((i : Int)).toNat) Cn.z).l), .int .i64 ((L.getD (((i : Int)).toNat) Cn.z).v)]), some (.blk [.bool (hv0 p ((L.getD (((i : Int)).toNat) Cn.z).k) ((L.getD (((i : Int)).toNat) Cn.z).t) ((L.getD (((i : Int)).toNat) Cn.z).r) ((L.getD (((i : Int)).toNat) Cn.z).l) ((L.getD (((i : Int)).toNat) Cn.z).v) l ((((l.length : Nat) : Int) - (parts0 ((L.getD (((i : Int)).toNat) Cn.z).k))).toNat) (l.length - (((l.length : Nat) : Int) - (parts0 ((L.getD (((i : Int)).toNat) Cn.z).k))).toNat))]), some (.row 4 1 (((((l.length : Nat) : Int) - (parts0 ((L.getD (((i : Int)).toNat) Cn.z).k))).toNat) + 1) 0 (fun zz => [.bool ((l.take ((((l.length : Nat) : Int) - (parts0 ((L.getD (((i : Int)).toNat) Cn.z).k))).toNat) ++ [hv0 p ((L.getD (((i : Int)).toNat) Cn.z).k) ((L.getD (((i : Int)).toNat) Cn.z).t) ((L.getD (((i : Int)).toNat) Cn.z).r) ((L.getD (((i : Int)).toNat) Cn.z).l) ((L.getD (((i : Int)).toNat) Cn.z).v) l ((((l.length : Nat) : Int) - (parts0 ((L.getD (((i : Int)).toNat) Cn.z).k))).toNat) (l.length - (((l.length : Nat) : Int) - (parts0 ((L.getD (((i : Int)).toNat) Cn.z).k))).toNat)]).getD zz false)]))])] A rfl (ok_d (by show 0 ≤ ((l.length : Nat) : Int) - (parts0 ((L.getD (((i : Int)).toNat) Cn.z).k)) ∧ ((l.length : Nat) : Int) - (parts0 ((L.getD (((i : Int)).toNat) Cn.z).k)) ≤ ((l.length : Nat) : Int); exact (by have hq := hI.kn hn h1; omega)) <| ok_d (by show 0 ≤ ((l.length : Nat) : Int) - (parts0 ((L.getD (((i : Int)).toNat) Cn.z).k)) ∧ ((l.length : Nat) : Int) - (parts0 ((L.getD (((i : Int)).toNat) Cn.z).k)) ≤ ((l.length : Nat) : Int); exact (by have hq := hI.kn hn h1; omega)) <| ok_d (by show 0 ≤ ((l.length : Nat) : Int) - (parts0 ((L.getD (((i : Int)).toNat) Cn.z).k)) ∧ ((l.length : Nat) : Int) - (parts0 ((L.getD (((i : Int)).toNat) Cn.z).k)) ≤ ((l.length : Nat) : Int); exact (by have hq := hI.kn hn h1; omega)) <| ok_d (by have hq := hI.kn hn h1; omega) <| okE_nil) rfl rfl (by kernel_rfl) ⟨callE [1, 2] (hv_ p ((L.getD (((i : Int)).toNat) Cn.z).k) ((L.getD (((i : Int)).toNat) Cn.z).t) ((L.getD (((i : Int)).toNat) Cn.z).r) ((L.getD (((i : Int)).toNat) Cn.z).l) ((L.getD (((i : Int)).toNat) Cn.z).v) l ((((l.length : Nat) : Int) - (parts0 ((L.getD (((i : Int)).toNat) Cn.z).k))).toNat) (l.length - (((l.length : Nat) : Int) - (parts0 ((L.getD (((i : Int)).toNat) Cn.z).k))).toNat) (by have hq := hI.kn hn h1; omega) (by have hq := hI.kn hn h1; omega) (by have hq := hI.kn hn h1; omega) (by have hq := hI.kn hn h1; omega) (by have hq := hI.kn hn h1; omega)) rfl rfl rfl rfl rfl rfl rfl, ⟨trivial, ⟨eff_shrink (e := 4) (s := 1) 2 ((((l.length : Nat) : Int) - (parts0 ((L.getD (((i : Int)).toNat) Cn.z).k))).toNat) rfl (by have hq := hI.kn hn h1; omega) (appE (i := 2) (e := 4) (s := 1) hX (((((l.length : Nat) : Int) - (parts0 ((L.getD (((i : Int)).toNat) Cn.z).k))).toNat) + 1) (fun zz => [.bool ((l.take ((((l.length : Nat) : Int) - (parts0 ((L.getD (((i : Int)).toNat) Cn.z).k))).toNat) ++ [hv0 p ((L.getD (((i : Int)).toNat) Cn.z).k) ((L.getD (((i : Int)).toNat) Cn.z).t) ((L.getD (((i : Int)).toNat) Cn.z).r) ((L.getD (((i : Int)).toNat) Cn.z).l) ((L.getD (((i : Int)).toNat) Cn.z).v) l ((((l.length : Nat) : Int) - (parts0 ((L.getD (((i : Int)).toNat) Cn.z).k))).toNat) (l.length - (((l.length : Nat) : Int) - (parts0 ((L.getD (((i : Int)).toNat) Cn.z).k))).toNat)]).getD zz false)]) rfl rfl rfl rfl (by have hq := hI.kn hn h1; omega) rfl (fun q hq => by show [SV.bool _] = [SV.bool _]; rw [getD_app_l (by rw [List.length_take]; have hq := hI.kn hn h1; omega), getD_take hq]) (by show [SV.bool _] = _; rw [lapp1 (by have hq := hI.kn hn h1; omega)]) (fun z => ⟨_, rfl, rfl⟩)), trivial⟩⟩⟩ trivial fun A => N hX 6 A rfl (ok_d (by have hq := hI.kn hn h1; omega) <| okE_nil) fun A => ⟨stepL p (L.getD ((i : Int)).toNat Cn.z) l, i + 1, _, (by omega), (hI.nx hr hn h1), ((((A.rowAs 5 (stepL p (L.getD ((i : Int)).toNat Cn.z) l).length (fun zz => [.bool ((stepL p (L.getD ((i : Int)).toNat Cn.z) l).getD zz false)]) rfl (by rw [← (fold_st (F := (((l.length : Nat) : Int) - parts0 (L.getD ((i : Int)).toNat Cn.z).k).toNat) (hI.kn hn h1).1 (hI.kn hn h1).2.1 (hI.kn hn h1).2.2.1 rfl), List.length_append, List.length_take, List.length_cons, List.length_nil]; have hq := hI.kn hn h1; omega) (fun q hq => by show [SV.bool _] = [SV.bool _]; rw [← (fold_st (F := (((l.length : Nat) : Int) - parts0 (L.getD ((i : Int)).toNat Cn.z).k).toNat) (hI.kn hn h1).1 (hI.kn hn h1).2.1 (hI.kn hn h1).2.2.1 rfl)]) (fun z => ⟨_, rfl, rfl⟩)).say 5 (.sl 5 (stepL p (L.getD ((i : Int)).toNat Cn.z) l).length 0) rfl (by rw [show (stepL p (L.getD ((i : Int)).toNat Cn.z) l).length = (((l.length : Nat) : Int) - parts0 (L.getD ((i : Int)).toNat Cn.z).k).toNat + 1 from (by rw [← (fold_st (F := (((l.length : Nat) : Int) - parts0 (L.getD ((i : Int)).toNat Cn.z).k).toNat) (hI.kn hn h1).1 (hI.kn hn h1).2.1 (hI.kn hn h1).2.2.1 rfl), List.length_append, List.length_take, List.length_cons, List.length_nil]; have hq := hI.kn hn h1; omega)])).cut [1, 4, 5, 9, 10, 11] rfl).mv 2 [5] rfl rfl rfl rfl (by simp only [List.length_cons, List.length_nil] at h0; omega))⟩)
   (fun h1 A => N hX 12 A rfl (ok_d (by have hq := (hI.fi hr hn h1).1; omega) <| ok_d (by have hq := (hI.fi hr hn h1).1; omega) <| okE_nil) fun A => RETN hX A rfl rfl rfl h0 rfl rfl rfl rfl (by rw [(hI.fi hr hn h1).2]; rfl) rfl)
end Go.Proofs.YtedlaclfhgneeabGreatDoor.Cd
namespace Go.Proofs.YtedlaclfhgneeabGreatDoor.Cd
open Go.RowKit
set_option linter.unusedVariables false
set_option linter.unusedSimpArgs false
set_option maxRecDepth 100000
set_option maxHeartbeats 2000000
set_option simprocs false
theorem holds_ (p : O) (L : List Cn) (n : Nat) (c : Nat) (hn : n ≤ L.length) (hN : n ≤ 1000000) (hr : right (L.take n) = true) : Fn Tryz.prog 107 [.agg (oc p), .sl 0 n c] [some (.lst 5 L.length (fun zz => cc (L.getD zz Cn.z)))] (Rt (.bool (evalB p (L.take n))) [some (.lst 5 L.length (fun zz => cc (L.getD zz Cn.z)))]) :=
 enterM (n := 8) (by kernel_rfl) Tryz.func107 rfl rfl rfl fun G w a h0 A => N hX 10 A rfl rfl fun A => CALL1 [0, 1] (foldb_ p L n c hn hN hr) A rfl rfl rfl rfl rfl rfl rfl fun A => N hX 4 A rfl rfl fun A => RETN hX A rfl rfl rfl h0 rfl rfl rfl rfl rfl rfl
theorem jone_ (p : O) (qu : Int) (L : List Cn) (n : Nat) (c : Nat) (hn : n ≤ L.length) (hN : n ≤ 1000000) (hr : right (L.take n) = true) : Fn Tryz.prog 106 [.agg (oc p), .ptr 0 0, .ptr 1 0] [some (.blk [.sl 2 n c]), some (.blk [.int .i64 qu]), some (.lst 5 L.length (fun zz => cc (L.getD zz Cn.z)))] (Rt (.bool ((evalB p (L.take n)) == (!(qu == 3)))) [some (.blk [.sl 2 n c]), some (.blk [.int .i64 qu]), some (.lst 5 L.length (fun zz => cc (L.getD zz Cn.z)))]) :=
 enterM (n := 11) (by kernel_rfl) Tryz.func106 rfl rfl rfl fun G w a h0 A => N hX 7 A rfl rfl fun A => DRAWN hX hmo [] [(2, .bool (evalB p (L.take n)), [some (.blk [.sl 2 n c]), some (.blk [.int .i64 qu]), some (.lst 5 L.length (fun zz => cc (L.getD zz Cn.z))), some (.blk (oc p))])] A rfl rfl rfl rfl (by kernel_rfl) ⟨callE [2] (holds_ p L n c hn hN hr) rfl rfl rfl rfl rfl rfl rfl, trivial⟩ trivial fun A => N hX 2 A rfl rfl fun A => RETN hX A rfl rfl rfl h0 rfl rfl rfl rfl rfl rfl
def px (b : O → Bool) : List O → Int → Int
  | [], _ => -1
  | x :: r, i => if b x = true then i else px b r (i + 1)
structure XI (b : O → Bool) (S : List O) (i : Nat) : Prop where
  le : i ≤ S.length
  eq : px b S 0 = px b (S.drop i) (i : Int)
section
variable {b : O → Bool} {S : List O} {i : Nat}
theorem XI.at (h : XI b S i) (h1 : (i : Int) < ((S.length : Nat) : Int)) : px b S 0 = if b (S.getD ((i : Int)).toNat oz) = true then (i : Int) else px b (S.drop (i + 1)) ((i : Int) + 1) := by
  have hi : i < S.length := by omega
  rw [h.eq, List.drop_eq_getElem_cons hi, px, show S.getD ((i : Int)).toNat oz = S[i] by simp [List.getD, hi]]
theorem XI.yes (h : XI b S i) (h1 : (i : Int) < ((S.length : Nat) : Int)) (h2 : b (S.getD ((i : Int)).toNat oz) = true) : px b S 0 = (i : Int) := by rw [h.at h1, if_pos h2]
theorem XI.no (h : XI b S i) (h1 : (i : Int) < ((S.length : Nat) : Int)) (h2 : b (S.getD ((i : Int)).toNat oz) = false) : XI b S (i + 1) := ⟨by omega, by rw [h.at h1, if_neg (by rw [h2]; simp)]; rfl⟩
theorem XI.out (h : XI b S i) (h1 : ¬ (i : Int) < ((S.length : Nat) : Int)) : px b S 0 = -1 := by rw [h.eq, List.drop_eq_nil_of_le (by omega), px]
end
theorem bfal {x y : Bool} (h : x ≠ y) : (x == y) = false := by cases x <;> cases y <;> simp at h ⊢
theorem btru {x y : Bool} (h : x = y) : (x == y) = true := by rw [h]; simp
theorem index_ (qu : Int) (L : List Cn) (n : Nat) (c : Nat) (S : List O) (hn : n ≤ L.length) (hN : n ≤ 1000000) (hr : right (L.take n) = true) (hS : S.length ≤ 1000000) : Fn Tryz.prog 105 [.sl 3 S.length 0, .fn 106 [.ptr 0 0, .ptr 1 0]] [some (.blk [.sl 2 n c]), some (.blk [.int .i64 qu]), some (.lst 5 L.length (fun zz => cc (L.getD zz Cn.z))), some (.row 93 27 S.length 0 (fun zz => oc (S.getD zz oz)))] (Rt (.int .i64 (px (fun x => (evalB x (L.take n)) == (!(qu == 3))) S 0)) [some (.blk [.sl 2 n c]), some (.blk [.int .i64 qu]), some (.lst 5 L.length (fun zz => cc (L.getD zz Cn.z))), some (.row 93 27 S.length 0 (fun zz => oc (S.getD zz oz)))]) :=
 enterM (n := 19) (by kernel_rfl) Tryz.func105 rfl rfl rfl fun G w a h0 A => N hX 14 A rfl rfl fun A => LOOP1 (fun (i : Nat) => [(0, .sl 3 S.length 0), (1, .fn 106 [.ptr 0 0, .ptr 1 0]), (4, .int .i64 0), (7, .int .i64 ((S.length : Nat) : Int)), (8, .int .i64 (i : Int))]) (fun (i : Nat) => [some (.blk [.sl 2 n c]), some (.blk [.int .i64 qu]), some (.lst 5 L.length (fun zz => cc (L.getD zz Cn.z))), some (.row 93 27 S.length 0 (fun zz => oc (S.getD zz oz)))]) (fun (i : Nat) => XI (fun x => (evalB x (L.take n)) == (!(qu == 3))) S i) (fun (i : Nat) => S.length - i) 0 ⟨Nat.zero_le _, by simp⟩ ((A.cut [0, 1, 4, 7, 8] rfl).trunc 4 rfl rfl rfl (by simp only [List.length_cons, List.length_nil] at h0; omega)) fun i hI {G a w} A => N hX 6 A rfl rfl fun A => forkD 9 A rfl
   (fun h1 A => N hX 18 A rfl (ok_d (by (try have := hI.le); omega) <| ok_d (by (try have := hI.le); omega) <| okE_nil) fun A => CALL1 [0, 1, 2] (jone_ (S.getD (((i : Int)).toNat) oz) qu L n c hn hN hr) A rfl rfl rfl rfl rfl rfl rfl fun A => N hX 2 A rfl rfl fun A => forkE 16 A rfl
    (fun h2 A => N hX 8 A rfl rfl fun A => RETN hX A rfl rfl rfl h0 rfl rfl rfl rfl (by rw [hI.yes h1 (btru h2)]; rfl) rfl)
    (fun h2 A => N hX 8 A rfl (ok_d (by (try have := hI.le); omega) <| okE_nil) fun A => ⟨i + 1, _, (by omega), (hI.no h1 (bfal h2)), ((A.cut [0, 1, 4, 7, 8] rfl).trunc 4 rfl rfl rfl (by simp only [List.length_cons, List.length_nil] at h0; omega))⟩))
   (fun h1 A => N hX 9 A rfl rfl fun A => RETN hX A rfl rfl rfl h0 rfl rfl rfl rfl (by rw [hI.out h1]; rfl) rfl)
end Go.Proofs.YtedlaclfhgneeabGreatDoor.Cd
namespace Go.Proofs.YtedlaclfhgneeabGreatDoor.Cd
open Go.RowKit
set_option linter.unusedVariables false
set_option linter.unusedSimpArgs false
set_option maxRecDepth 100000
set_option maxHeartbeats 2000000
set_option simprocs false
theorem fn_asX {P : Program} {f : Nat} {az : List SV} {H H2 : Hp} {x y : SV} (h : Fn P f az H (Rt x H2)) (e : ∀ G, den G x = den G y) : Fn P f az H (Rt y H2) :=
  ⟨h.1, fun G w vs hM hv => Calls.mono (h.2 G w vs hM hv) fun e' w' ⟨x', H', F, v, ⟨q1, q2⟩, r⟩ => by subst q1; subst q2; exact ⟨y, _, F, v, ⟨rfl, rfl⟩, by rw [← e]; exact r.1, r.2⟩⟩
def aC : Cn := ⟨2, 0, 0, 0, 1⟩
def nC : Cn := ⟨3, 0, 0, 0, 0⟩
theorem tyC : (∀ x, (cc x).length = 5) ∧ (∀ x, inL 0 (cc x) = true) ∧ (∀ x, ∃ vs, denL [] (cc x) = some vs) := ⟨fun _ => rfl, fun _ => rfl, fun _ => ⟨_, rfl⟩⟩
theorem tyO : (∀ x, (oc x).length = 27) ∧ (∀ x, inL 0 (oc x) = true) ∧ (∀ x, ∃ vs, denL [] (oc x) = some vs) := ⟨fun _ => rfl, fun _ => rfl, fun _ => ⟨_, rfl⟩⟩
theorem rightA_ (c : Nat) : Fn Tryz.prog 23 [.sl 0 1 c] [some (.lst 5 1 (fun zz => cc ([aC].getD zz Cn.z)))] (Rt .tt [some (.lst 5 1 (fun zz => cc ([aC].getD zz Cn.z)))]) := fn_asX (pright_ [aC] 1 c (by decide)) fun _ => rfl
theorem indexA_ : Fn Tryz.prog 105 [.sl 3 2 0, .fn 106 [.ptr 0 0, .ptr 1 0]] [some (.blk [.sl 2 1 1]), some (.blk [.int .i64 1]), some (.lst 5 1 (fun zz => cc ([aC].getD zz Cn.z))), some (.row 93 27 2 0 (fun zz => oc (o2.getD zz oz)))] (Rt (.int .i64 1) [some (.blk [.sl 2 1 1]), some (.blk [.int .i64 1]), some (.lst 5 1 (fun zz => cc ([aC].getD zz Cn.z))), some (.row 93 27 2 0 (fun zz => oc (o2.getD zz oz)))]) := fn_asX (index_ 1 [aC] 1 1 o2 (by decide) (by decide) rfl (by decide)) fun _ => rfl
theorem judgeA_   : Fn Tryz.prog 44 [.int .i64 1, .sl 0 1 1, .sl 1 2 2] [some (.lst 5 1 (fun zz => cc ([aC].getD zz Cn.z))), some (.lst 27 2 (fun zz => oc (o2.getD zz oz)))] (Rt (.tup [.agg [.tt, .tt, .int .i64 0, .int .i64 0, .int .i64 0, .int .i64 0, .int .i64 0, .int .i64 0, .int .i64 0, .int .i64 0, .int .i64 0, .int .i64 0, .int .i64 0, .int .i64 0, .int .i64 0, .int .i64 0, .int .i64 0, .int .i64 0, .int .i64 0, .int .i64 0, .int .i64 0, .int .i64 0, .int .i64 0, .int .i64 0, .int .i64 0, .int .i64 0, .int .i64 1, .int .i64 0, .int .i64 0, .int .i64 2], .int .i64 0]) [some (.lst 5 1 (fun zz => cc ([aC].getD zz Cn.z))), some (.lst 27 2 (fun zz => oc (o2.getD zz oz)))]) :=
 enterM (n := 50) (by kernel_rfl) Tryz.func44 rfl rfl rfl fun G w a h0 A => N hX 23 A rfl rfl fun A => fork 20 A rfl
  (fun h1 A => N hX 9 A rfl rfl fun A => RETN hX A rfl rfl rfl h0 rfl rfl rfl rfl (absurd h1 (by decide)) rfl)
  (fun h1 A => N hX 7 A rfl rfl fun A => CALL1 [0] (rightA_ 1) A rfl rfl rfl rfl rfl rfl rfl fun A => N hX 9 A rfl rfl fun A => CALL1 [1] (sort2_ 2) A rfl rfl rfl rfl rfl rfl rfl fun A => N hX 7 A rfl rfl fun A => CALL1 [3, 2, 0, 5] indexA_ A rfl rfl rfl rfl rfl rfl rfl fun A => N hX 32 A rfl rfl fun A => forkD 43 A rfl
   (fun h2 A => N hX 11 A rfl (ok_d (by decide) <| ok_d (by decide) <| okE_nil) fun A => N hX 7 A rfl rfl fun A => RETN hX A rfl rfl rfl h0 rfl rfl rfl rfl rfl rfl)
   (fun h2 A => absurd (by decide) h2))
end Go.Proofs.YtedlaclfhgneeabGreatDoor.Cd
namespace Go.Proofs.YtedlaclfhgneeabGreatDoor.Cd
open Go.RowKit
set_option linter.unusedVariables false
set_option linter.unusedSimpArgs false
set_option maxRecDepth 100000
set_option maxHeartbeats 2000000
set_option simprocs false
def ixf (v : Int) : List Int → Int → Int
  | [], _ => -1
  | x :: r, i => if v = x then i else ixf v r (i + 1)
structure VI (v : Int) (ks : List Int) (i : Nat) : Prop where
  le : i ≤ ks.length
  eq : ixf v ks 0 = ixf v (ks.drop i) (i : Int)
theorem VI.at {v : Int} {ks : List Int} {i : Nat} (h : VI v ks i) (h1 : i < ks.length) : ixf v ks 0 = if v = ks.getD ((i : Int)).toNat 0 then (i : Int) else ixf v (ks.drop (i + 1)) ((i : Int) + 1) := by
  rw [h.eq, List.drop_eq_getElem_cons h1, ixf, show ks.getD ((i : Int)).toNat 0 = ks[i] by simp [List.getD, h1]]
theorem VI.yes {v : Int} {ks : List Int} {i : Nat} (h : VI v ks i) (h1 : i < ks.length) (h2 : v = ks.getD ((i : Int)).toNat 0) : ixf v ks 0 = (i : Int) := by rw [h.at h1, if_pos h2]
theorem VI.no {v : Int} {ks : List Int} {i : Nat} (h : VI v ks i) (h1 : i < ks.length) (h2 : v ≠ ks.getD ((i : Int)).toNat 0) : VI v ks (i + 1) := ⟨h1, by rw [h.at h1, if_neg h2]; rfl⟩
theorem VI.out {v : Int} {ks : List Int} {i : Nat} (h : VI v ks i) (h1 : ¬ i < ks.length) : ixf v ks 0 = -1 := by rw [h.eq, List.drop_eq_nil_of_le (by omega), ixf]
def apT (ks : List Int) (t : List UInt8) (k : Int) : List UInt8 := if ixf k ks 0 ≥ 0 then ([40] ++ t) ++ [41] else t
theorem ix45_ (v : Int)  : Fn Tryz.prog 214 [.sl 0 2 2, .int .i64 v] [some (.blk [.int .i64 4, .int .i64 5])] (Rt (.int .i64 (ixf v [4, 5] 0)) [some (.blk [.int .i64 4, .int .i64 5])]) :=
 enterM (n := 19) (by kernel_rfl) Tryz.func214 rfl rfl rfl fun G w a h0 A => N hX 14 A rfl rfl fun A => LOOP1 (fun (i : Nat) => [(0, .sl 0 2 2), (1, .int .i64 v), (4, .int .i64 0), (7, .int .i64 ((2 : Nat) : Int)), (8, .int .i64 (i : Int))]) (fun (i : Nat) => [some (.blk [.int .i64 4, .int .i64 5])]) (fun (i : Nat) => VI v [4, 5] i) (fun (i : Nat) => 2 - i) 0 ⟨Nat.zero_le _, rfl⟩ ((A.cut [0, 1, 4, 7, 8] rfl).trunc 1 rfl rfl rfl (by simp only [List.length_cons, List.length_nil] at h0; omega)) fun i hI {G a w} A => N hX 6 A rfl rfl fun A => forkD 9 A rfl
   (fun h1 A => N hX 21 A rfl (ok_d (by omega) <| ok_d (by omega) <| okE_nil) fun A => forkE 16 A rfl
    (fun h2 A => N hX 8 A rfl rfl fun A => RETN hX A rfl rfl rfl h0 rfl rfl rfl rfl (by rw [hI.yes (by show i < 2; omega) h2]; rfl) rfl)
    (fun h2 A => N hX 8 A rfl (ok_d (by omega) <| okE_nil) fun A => ⟨i + 1, _, (by omega), (hI.no (by show i < 2; omega) h2), ((A.cut [0, 1, 4, 7, 8] rfl).trunc 1 rfl rfl rfl (by simp only [List.length_cons, List.length_nil] at h0; omega))⟩))
   (fun h1 A => N hX 9 A rfl rfl fun A => RETN hX A rfl rfl rfl h0 rfl rfl rfl rfl (by rw [hI.out (by show ¬ i < 2; omega)]; rfl) rfl)
theorem con45_ (v : Int)  : Fn Tryz.prog 178 [.sl 0 2 2, .int .i64 v] [some (.blk [.int .i64 4, .int .i64 5])] (Rt (.bool (decide (ixf v [4, 5] 0 ≥ 0))) [some (.blk [.int .i64 4, .int .i64 5])]) :=
 enterM (n := 9) (by kernel_rfl) Tryz.func178 rfl rfl rfl fun G w a h0 A => N hX 9 A rfl rfl fun A => CALL1 [0] (ix45_ v) A rfl rfl rfl rfl rfl rfl rfl fun A => N hX 5 A rfl rfl fun A => RETN hX A rfl rfl rfl h0 rfl rfl rfl rfl rfl rfl
theorem ap45_ (t : List UInt8) (k : Int) (ht : t.length ≤ 2000000) : Fn Tryz.prog 125 [.agg [.str t, .int .i64 k], .sl 0 2 2] [some (.blk [.int .i64 4, .int .i64 5])] (Rt (.str (apT [4, 5] t k)) [some (.blk [.int .i64 4, .int .i64 5])]) :=
 enterM (n := 15) (by kernel_rfl) Tryz.func125 rfl rfl rfl fun G w a h0 A => N hX 12 A rfl rfl fun A => CALL1 [0] (con45_ k) A rfl rfl rfl rfl rfl rfl rfl fun A => N hX 2 A rfl rfl fun A => forkD 8 A rfl
  (fun h1 A => N hX 11 A rfl (ok_d (by simp only [List.length_append, List.length_cons, List.length_nil]; omega) <| ok_d (by simp only [List.length_append, List.length_cons, List.length_nil]; omega) <| okE_nil) fun A => RETN hX A rfl rfl rfl h0 rfl rfl rfl rfl (by unfold apT; rw [if_pos h1]; rfl) rfl)
  (fun h1 A => N hX 11 A rfl rfl fun A => RETN hX A rfl rfl rfl h0 rfl rfl rfl rfl (by unfold apT; rw [if_neg h1]; rfl) rfl)
theorem ix5_ (v : Int)  : Fn Tryz.prog 214 [.sl 0 1 1, .int .i64 v] [some (.blk [.int .i64 5])] (Rt (.int .i64 (ixf v [5] 0)) [some (.blk [.int .i64 5])]) :=
 enterM (n := 19) (by kernel_rfl) Tryz.func214 rfl rfl rfl fun G w a h0 A => N hX 14 A rfl rfl fun A => LOOP1 (fun (i : Nat) => [(0, .sl 0 1 1), (1, .int .i64 v), (4, .int .i64 0), (7, .int .i64 ((1 : Nat) : Int)), (8, .int .i64 (i : Int))]) (fun (i : Nat) => [some (.blk [.int .i64 5])]) (fun (i : Nat) => VI v [5] i) (fun (i : Nat) => 1 - i) 0 ⟨Nat.zero_le _, rfl⟩ ((A.cut [0, 1, 4, 7, 8] rfl).trunc 1 rfl rfl rfl (by simp only [List.length_cons, List.length_nil] at h0; omega)) fun i hI {G a w} A => N hX 6 A rfl rfl fun A => forkD 9 A rfl
   (fun h1 A => N hX 21 A rfl (ok_d (by omega) <| ok_d (by omega) <| okE_nil) fun A => forkE 16 A rfl
    (fun h2 A => N hX 8 A rfl rfl fun A => RETN hX A rfl rfl rfl h0 rfl rfl rfl rfl (by rw [hI.yes (by show i < 1; omega) h2]; rfl) rfl)
    (fun h2 A => N hX 8 A rfl (ok_d (by omega) <| okE_nil) fun A => ⟨i + 1, _, (by omega), (hI.no (by show i < 1; omega) h2), ((A.cut [0, 1, 4, 7, 8] rfl).trunc 1 rfl rfl rfl (by simp only [List.length_cons, List.length_nil] at h0; omega))⟩))
   (fun h1 A => N hX 9 A rfl rfl fun A => RETN hX A rfl rfl rfl h0 rfl rfl rfl rfl (by rw [hI.out (by show ¬ i < 1; omega)]; rfl) rfl)
theorem con5_ (v : Int)  : Fn Tryz.prog 178 [.sl 0 1 1, .int .i64 v] [some (.blk [.int .i64 5])] (Rt (.bool (decide (ixf v [5] 0 ≥ 0))) [some (.blk [.int .i64 5])]) :=
 enterM (n := 9) (by kernel_rfl) Tryz.func178 rfl rfl rfl fun G w a h0 A => N hX 9 A rfl rfl fun A => CALL1 [0] (ix5_ v) A rfl rfl rfl rfl rfl rfl rfl fun A => N hX 5 A rfl rfl fun A => RETN hX A rfl rfl rfl h0 rfl rfl rfl rfl rfl rfl
theorem ap5_ (t : List UInt8) (k : Int) (ht : t.length ≤ 2000000) : Fn Tryz.prog 125 [.agg [.str t, .int .i64 k], .sl 0 1 1] [some (.blk [.int .i64 5])] (Rt (.str (apT [5] t k)) [some (.blk [.int .i64 5])]) :=
 enterM (n := 15) (by kernel_rfl) Tryz.func125 rfl rfl rfl fun G w a h0 A => N hX 12 A rfl rfl fun A => CALL1 [0] (con5_ k) A rfl rfl rfl rfl rfl rfl rfl fun A => N hX 2 A rfl rfl fun A => forkD 8 A rfl
  (fun h1 A => N hX 11 A rfl (ok_d (by simp only [List.length_append, List.length_cons, List.length_nil]; omega) <| ok_d (by simp only [List.length_append, List.length_cons, List.length_nil]; omega) <| okE_nil) fun A => RETN hX A rfl rfl rfl h0 rfl rfl rfl rfl (by unfold apT; rw [if_pos h1]; rfl) rfl)
  (fun h1 A => N hX 11 A rfl rfl fun A => RETN hX A rfl rfl rfl h0 rfl rfl rfl rfl (by unfold apT; rw [if_neg h1]; rfl) rfl)
theorem locs_   : Fn Tryz.prog 124 [] [] (Rt (.sl 0 3 3) [some (.blk [.str [120], .str [121], .str [122]])]) :=
 enterM (n := 2) (by kernel_rfl) Tryz.func124 rfl rfl rfl fun G w a h0 A => N hX 12 A rfl rfl fun A => RET hX [0] A ⟨rfl, rfl⟩ rfl rfl rfl rfl rfl rfl rfl rfl h0
theorem fn_itoa (b : Nat) (o : Obj) (hT : ∀ w : World, w.heap[b]? = some o → Lib.TabIs Tryz.prog w "internal/strconv.uint64pow10" .u64 Lib.pow10Tab) (v : Int) (h0 : -9223372036854775808 ≤ v) (h1 : v ≤ 9223372036854775807) : Fn Tryz.prog 123 [.int .i64 v] [some (.fac b o)] (Rt (.str (Lib.itoa v)) [some (.fac b o)]) := by
  refine ⟨by kernel_rfl, fun G w vs hM hv => ?_⟩
  cases hv
  obtain ⟨L, e1, e2, e3⟩ := hM.ent 0 _ rfl
  refine (itoa_any v h0 h1 w (hT w e3)).mono ?_
  rintro e w' ⟨rfl, hg⟩
  have hl : G.length = 1 := hM.len.symm
  refine ⟨_, _, [], _, ⟨rfl, rfl⟩, rfl, rfl, ?_, (Mix.refl _ w).grow hg, ?_, fun i e he _ => he, fun i e he hm => ?_⟩
  · rw [List.append_nil]
    refine ⟨hM.len, fun i e he => (hM.ent i e he).mix hg.mix (fun _ _ _ => rfl), hM.sep⟩
  · rw [hl]; exact Nat.le_refl _
  · cases i with
    | zero => cases he; cases hm
    | succ i => cases he
end Go.Proofs.YtedlaclfhgneeabGreatDoor.Cd
namespace Go.Proofs.YtedlaclfhgneeabGreatDoor.Cd
open Go.RowKit
set_option linter.unusedVariables false
set_option linter.unusedSimpArgs false
set_option maxRecDepth 100000
set_option maxHeartbeats 2000000
set_option simprocs false
abbrev Pc := List UInt8 × Int
def pz : Pc := ([], 0)
theorem ap_len (ks : List Int) (t : List UInt8) (k : Int) : (apT ks t k).length ≤ t.length + 2 := by
  unfold apT; split
  · simp only [List.length_append, List.length_cons, List.length_nil]; omega
  · omega
theorem wr_f {R : List (List UInt8)} {l : List Pc} {j : Nat} {rg vl : Int} (ql : ∀ q, (l.getD q pz).1.length ≤ 1000000) (qR : ∀ q, (R.getD q []).length ≤ 100) (qv : -9223372036854775808 ≤ vl ∧ vl ≤ 9223372036854775807) : (l.getD ((((j : Nat) : Int) + 0).toNat) pz).1.length ≤ 1000000 ∧ (l.getD ((((j : Nat) : Int) + 1).toNat) pz).1.length ≤ 1000000 ∧ (R.getD (rg).toNat []).length ≤ 100 ∧ (Lib.itoa vl).length ≤ 21 ∧ (apT [4, 5] (l.getD ((((j : Nat) : Int) + 0).toNat) pz).1 (l.getD ((((j : Nat) : Int) + 0).toNat) pz).2).length ≤ 1000002 ∧ (apT [5] (l.getD ((((j : Nat) : Int) + 0).toNat) pz).1 (l.getD ((((j : Nat) : Int) + 0).toNat) pz).2).length ≤ 1000002 ∧ (apT [4, 5] (l.getD ((((j : Nat) : Int) + 1).toNat) pz).1 (l.getD ((((j : Nat) : Int) + 1).toNat) pz).2).length ≤ 1000002 ∧ (apT [5] (l.getD ((((j : Nat) : Int) + 1).toNat) pz).1 (l.getD ((((j : Nat) : Int) + 1).toNat) pz).2).length ≤ 1000002 := by
  have h0 := ql ((((j : Nat) : Int) + 0).toNat); have h1 := ql ((((j : Nat) : Int) + 1).toNat)
  exact ⟨h0, h1, qR _, Lib.itoa_length_le vl qv.1 qv.2, Nat.le_trans (ap_len _ _ _) (by omega), Nat.le_trans (ap_len _ _ _) (by omega), Nat.le_trans (ap_len _ _ _) (by omega), Nat.le_trans (ap_len _ _ _) (by omega)⟩
theorem wr_l (lc : Int) (h : 0 ≤ lc ∧ lc < 3) : ([[120], [121], [122]].getD (lc).toNat ([] : List UInt8)).length ≤ 1 := by
  have : (lc).toNat = 0 ∨ (lc).toNat = 1 ∨ (lc).toNat = 2 := by omega
  rcases this with e | e | e <;> rw [e] <;> decide
def wr0 (R : List (List UInt8)) (kd : Int) (th : Int) (rg : Int) (lc : Int) (vl : Int) (l : List Pc) (j : Nat) (k : Nat) : List UInt8 := if kd = 1 then ((((Lib.itoa th) ++ [58]) ++ (R.getD ((rg).toNat) [])) ++ [61]) ++ (Lib.itoa vl) else if kd = 2 then (([[120], [121], [122]].getD (lc).toNat []) ++ [61]) ++ (Lib.itoa vl) else if kd = 3 then [126] ++ (apT [4, 5] ((l.getD ((((j : Nat) : Int) + 0).toNat) pz).1) ((l.getD ((((j : Nat) : Int) + 0).toNat) pz).2)) else if kd = 4 then ((((apT [5] ((l.getD ((((j : Nat) : Int) + 0).toNat) pz).1) ((l.getD ((((j : Nat) : Int) + 0).toNat) pz).2)) ++ [32]) ++ [47, 92]) ++ [32]) ++ (apT [4, 5] ((l.getD ((((j : Nat) : Int) + 1).toNat) pz).1) ((l.getD ((((j : Nat) : Int) + 1).toNat) pz).2)) else (((((l.getD ((((j : Nat) : Int) + 0).toNat) pz).1) ++ [32]) ++ [92, 47]) ++ [32]) ++ (apT [5] ((l.getD ((((j : Nat) : Int) + 1).toNat) pz).1) ((l.getD ((((j : Nat) : Int) + 1).toNat) pz).2))
theorem wr_ (R : List (List UInt8)) (kd : Int) (th : Int) (rg : Int) (lc : Int) (vl : Int) (l : List Pc) (j : Nat) (k : Nat) (b : Nat) (o : Obj) (hT : ∀ w : World, w.heap[b]? = some o → Lib.TabIs Tryz.prog w "internal/strconv.uint64pow10" .u64 Lib.pow10Tab) (hk : j + k ≤ l.length) (q1 : kd = 1 → 0 ≤ th ∧ th < 3 ∧ 0 ≤ rg ∧ rg < 8) (q2 : kd = 2 → 0 ≤ lc ∧ lc < 3) (q3 : kd = 3 → 1 ≤ k) (q4 : kd ≠ 1 → kd ≠ 2 → kd ≠ 3 → 2 ≤ k) (qv : -9223372036854775808 ≤ vl ∧ vl ≤ 9223372036854775807) (ql : ∀ q, (l.getD q pz).1.length ≤ 1000000) (qR : ∀ q, (R.getD q []).length ≤ 100) (hR : 8 ≤ R.length) : Fn Tryz.prog 54 [.sl 0 R.length 8, .agg [.int .i64 kd, .int .i64 th, .int .i64 rg, .int .i64 lc, .int .i64 vl], .st 1 2 j k 0] [some (.row 9 1 R.length 8 (fun zz => [.str (R.getD zz [])])), some (.row 114 2 l.length 0 (fun zz => [.str (l.getD zz pz).1, .int .i64 (l.getD zz pz).2])), some (.fac b o)] (Rt (.str (wr0 R kd th rg lc vl l j k)) [some (.row 9 1 R.length 8 (fun zz => [.str (R.getD zz [])])), some (.row 114 2 l.length 0 (fun zz => [.str (l.getD zz pz).1, .int .i64 (l.getD zz pz).2])), some (.fac b o)]) :=
 enterM (n := 75) (by kernel_rfl) Tryz.func54 rfl rfl rfl fun G w a h0 A => N hX 20 A rfl rfl fun A => forkE 9 A rfl
  (fun h1 A => N hX 2 A rfl rfl fun A => DRAWN hX hmo [] [(2, .str (Lib.itoa th), [some (.row 9 1 R.length 8 (fun zz => [.str (R.getD zz [])])), some (.row 114 2 l.length 0 (fun zz => [.str (l.getD zz pz).1, .int .i64 (l.getD zz pz).2])), some (.fac b o), some (.blk [.int .i64 kd, .int .i64 th, .int .i64 rg, .int .i64 lc, .int .i64 vl])]), (13, .str (Lib.itoa vl), [some (.row 9 1 R.length 8 (fun zz => [.str (R.getD zz [])])), some (.row 114 2 l.length 0 (fun zz => [.str (l.getD zz pz).1, .int .i64 (l.getD zz pz).2])), some (.fac b o), some (.blk [.int .i64 kd, .int .i64 th, .int .i64 rg, .int .i64 lc, .int .i64 vl])])] A rfl (ok_d (by have hz := wr_f (j := j) (rg := rg) ql qR qv; have := Lib.itoa_length_le th (by omega) (by omega); (try simp only [List.length_append, List.length_cons, List.length_nil]); omega) <| ok_d (by have hz := wr_f (j := j) (rg := rg) ql qR qv; have := Lib.itoa_length_le th (by omega) (by omega); (try simp only [List.length_append, List.length_cons, List.length_nil]); omega) <| ok_d (by have hz := wr_f (j := j) (rg := rg) ql qR qv; have := Lib.itoa_length_le th (by omega) (by omega); (try simp only [List.length_append, List.length_cons, List.length_nil]); omega) <| ok_d (by have hz := wr_f (j := j) (rg := rg) ql qR qv; have := Lib.itoa_length_le th (by omega) (by omega); (try simp only [List.length_append, List.length_cons, List.length_nil]); omega) <| ok_d (by have hz := wr_f (j := j) (rg := rg) ql qR qv; have := Lib.itoa_length_le th (by omega) (by omega); (try simp only [List.length_append, List.length_cons, List.length_nil]); omega) <| ok_d (by have hz := wr_f (j := j) (rg := rg) ql qR qv; have := Lib.itoa_length_le th (by omega) (by omega); (try simp only [List.length_append, List.length_cons, List.length_nil]); omega) <| ok_d (by have hz := wr_f (j := j) (rg := rg) ql qR qv; have := Lib.itoa_length_le th (by omega) (by omega); (try simp only [List.length_append, List.length_cons, List.length_nil]); omega) <| ok_d (by have hz := wr_f (j := j) (rg := rg) ql qR qv; have := Lib.itoa_length_le th (by omega) (by omega); (try simp only [List.length_append, List.length_cons, List.length_nil]); omega) <| ok_d (by have hz := wr_f (j := j) (rg := rg) ql qR qv; have := Lib.itoa_length_le th (by omega) (by omega); (try simp only [List.length_append, List.length_cons, List.length_nil]); omega) <| ok_d (by have hz := wr_f (j := j) (rg := rg) ql qR qv; have := Lib.itoa_length_le th (by omega) (by omega); (try simp only [List.length_append, List.length_cons, List.length_nil]); omega) <| ok_d (by have hz := wr_f (j := j) (rg := rg) ql qR qv; have := Lib.itoa_length_le th (by omega) (by omega); (try simp only [List.length_append, List.length_cons, List.length_nil]); omega) <| ok_d (by have hz := wr_f (j := j) (rg := rg) ql qR qv; have := Lib.itoa_length_le th (by omega) (by omega); (try simp only [List.length_append, List.length_cons, List.length_nil]); omega) <| ok_d (by have hz := wr_f (j := j) (rg := rg) ql qR qv; have := Lib.itoa_length_le th (by omega) (by omega); (try simp only [List.length_append, List.length_cons, List.length_nil]); omega) <| okE_nil) rfl rfl (by kernel_rfl) ⟨callE [2] (fn_itoa b o hT th (by omega) (by omega)) rfl rfl rfl rfl rfl rfl rfl, ⟨callE [2] (fn_itoa b o hT vl (by omega) (by omega)) rfl rfl rfl rfl rfl rfl rfl, trivial⟩⟩ trivial fun A => N hX 2 A rfl rfl fun A => RETN hX A rfl rfl rfl h0 rfl rfl rfl rfl (by simp only [oneS, nb, nbL, nbH, wr0, if_pos h1]) rfl)
  (fun h1 A => N hX 7 A rfl rfl fun A => forkE 26 A rfl
   (fun h2 A => N hX 2 A rfl rfl fun A => DRAWN hX hmo [] [(0, .sl 4 3 3, [some (.row 9 1 R.length 8 (fun zz => [.str (R.getD zz [])])), some (.row 114 2 l.length 0 (fun zz => [.str (l.getD zz pz).1, .int .i64 (l.getD zz pz).2])), some (.fac b o), some (.blk [.int .i64 kd, .int .i64 th, .int .i64 rg, .int .i64 lc, .int .i64 vl]), some (.blk [.str [120], .str [121], .str [122]])]), (8, .str (Lib.itoa vl), [some (.row 9 1 R.length 8 (fun zz => [.str (R.getD zz [])])), some (.row 114 2 l.length 0 (fun zz => [.str (l.getD zz pz).1, .int .i64 (l.getD zz pz).2])), some (.fac b o), some (.blk [.int .i64 kd, .int .i64 th, .int .i64 rg, .int .i64 lc, .int .i64 vl]), some (.blk [.str [120], .str [121], .str [122]])])] A rfl (ok_d (by omega) <| ok_d (by omega) <| ok_d (by omega) <| ok_d (by omega) <| ok_d (by have hz := wr_f (j := j) (rg := rg) ql qR qv; have hx := wr_l lc (by omega); (try simp only [List.length_append, List.length_cons, List.length_nil]); omega) <| ok_d (by have hz := wr_f (j := j) (rg := rg) ql qR qv; have hx := wr_l lc (by omega); (try simp only [List.length_append, List.length_cons, List.length_nil]); omega) <| ok_d (by have hz := wr_f (j := j) (rg := rg) ql qR qv; have hx := wr_l lc (by omega); (try simp only [List.length_append, List.length_cons, List.length_nil]); omega) <| okE_nil) rfl rfl (by kernel_rfl) ⟨callE [] locs_ rfl rfl rfl rfl rfl rfl rfl, ⟨callE [2] (fn_itoa b o hT vl (by omega) (by omega)) rfl rfl rfl rfl rfl rfl rfl, trivial⟩⟩ trivial fun A => N hX 2 A rfl rfl fun A => RETN hX A rfl rfl rfl h0 rfl rfl rfl rfl (by simp only [oneS, nb, nbL, nbH, wr0, if_neg (h1), if_pos h2]) rfl)
   (fun h2 A => N hX 7 A rfl rfl fun A => forkE 38 A rfl
    (fun h3 A => N hX 7 A rfl (ok_d (by have hz := wr_f (j := j) (rg := rg) ql qR qv; (try simp only [List.length_append, List.length_cons, List.length_nil]); omega) <| ok_d (by have hz := wr_f (j := j) (rg := rg) ql qR qv; (try simp only [List.length_append, List.length_cons, List.length_nil]); omega) <| okE_nil) fun A => CALL1 [4] (ap45_ ((l.getD ((((j : Nat) : Int) + 0).toNat) pz).1) ((l.getD ((((j : Nat) : Int) + 0).toNat) pz).2) (by have hz := wr_f (j := j) (rg := rg) ql qR qv; (try simp only [List.length_append, List.length_cons, List.length_nil]); omega)) A rfl rfl rfl rfl rfl rfl rfl fun A => N hX 5 A rfl (ok_d (by have hz := wr_f (j := j) (rg := rg) ql qR qv; (try simp only [List.length_append, List.length_cons, List.length_nil]); omega) <| okE_nil) fun A => RETN hX A rfl rfl rfl h0 rfl rfl rfl rfl (by simp only [oneS, nb, nbL, nbH, wr0, if_neg (h1), if_neg (h2), if_pos h3]) rfl)
    (fun h3 A => N hX 7 A rfl rfl fun A => forkE 46 A rfl
     (fun h4 A => N hX 2 A rfl rfl fun A => ANY hmo [.st 1 2 j k 0, .el 1 2 (((j : Nat) : Int) + 0) 0, .agg [.str ((l.getD ((((j : Nat) : Int) + 0).toNat) pz).1), .int .i64 ((l.getD ((((j : Nat) : Int) + 0).toNat) pz).2)], .sl 4 1 1, .str (apT [5] ((l.getD ((((j : Nat) : Int) + 0).toNat) pz).1) ((l.getD ((((j : Nat) : Int) + 0).toNat) pz).2)), .str ((apT [5] ((l.getD ((((j : Nat) : Int) + 0).toNat) pz).1) ((l.getD ((((j : Nat) : Int) + 0).toNat) pz).2)) ++ [32]), .str (((apT [5] ((l.getD ((((j : Nat) : Int) + 0).toNat) pz).1) ((l.getD ((((j : Nat) : Int) + 0).toNat) pz).2)) ++ [32]) ++ [47, 92]), .str ((((apT [5] ((l.getD ((((j : Nat) : Int) + 0).toNat) pz).1) ((l.getD ((((j : Nat) : Int) + 0).toNat) pz).2)) ++ [32]) ++ [47, 92]) ++ [32]), .st 1 2 j k 0, .el 1 2 (((j : Nat) : Int) + 1) 0, .agg [.str ((l.getD ((((j : Nat) : Int) + 1).toNat) pz).1), .int .i64 ((l.getD ((((j : Nat) : Int) + 1).toNat) pz).2)], .sl 5 2 2, .str (apT [4, 5] ((l.getD ((((j : Nat) : Int) + 1).toNat) pz).1) ((l.getD ((((j : Nat) : Int) + 1).toNat) pz).2)), .str (((((apT [5] ((l.getD ((((j : Nat) : Int) + 0).toNat) pz).1) ((l.getD ((((j : Nat) : Int) + 0).toNat) pz).2)) ++ [32]) ++ [47, 92]) ++ [32]) ++ (apT [4, 5] ((l.getD ((((j : Nat) : Int) + 1).toNat) pz).1) ((l.getD ((((j : Nat) : Int) + 1).toNat) pz).2))), .str (((((apT [5] ((l.getD ((((j : Nat) : Int) + 0).toNat) pz).1) ((l.getD ((((j : Nat) : Int) + 0).toNat) pz).2)) ++ [32]) ++ [47, 92]) ++ [32]) ++ (apT [4, 5] ((l.getD ((((j : Nat) : Int) + 1).toNat) pz).1) ((l.getD ((((j : Nat) : Int) + 1).toNat) pz).2)))] [3, 4, 11, 12] [4, 5] 2 [([], [4, 5], [some (.row 9 1 R.length 8 (fun zz => [.str (R.getD zz [])])), some (.row 114 2 l.length 0 (fun zz => [.str (l.getD zz pz).1, .int .i64 (l.getD zz pz).2])), some (.fac b o), some (.blk [.int .i64 kd, .int .i64 th, .int .i64 rg, .int .i64 lc, .int .i64 vl]), none, none]), ([3], [5], [some (.row 9 1 R.length 8 (fun zz => [.str (R.getD zz [])])), some (.row 114 2 l.length 0 (fun zz => [.str (l.getD zz pz).1, .int .i64 (l.getD zz pz).2])), some (.fac b o), some (.blk [.int .i64 kd, .int .i64 th, .int .i64 rg, .int .i64 lc, .int .i64 vl]), some (.blk [.int .i64 5]), none]), ([11], [4], [some (.row 9 1 R.length 8 (fun zz => [.str (R.getD zz [])])), some (.row 114 2 l.length 0 (fun zz => [.str (l.getD zz pz).1, .int .i64 (l.getD zz pz).2])), some (.fac b o), some (.blk [.int .i64 kd, .int .i64 th, .int .i64 rg, .int .i64 lc, .int .i64 vl]), none, some (.blk [.int .i64 4, .int .i64 5])]), ([3, 4], [5], [some (.row 9 1 R.length 8 (fun zz => [.str (R.getD zz [])])), some (.row 114 2 l.length 0 (fun zz => [.str (l.getD zz pz).1, .int .i64 (l.getD zz pz).2])), some (.fac b o), some (.blk [.int .i64 kd, .int .i64 th, .int .i64 rg, .int .i64 lc, .int .i64 vl]), some (.blk [.int .i64 5]), none]), ([3, 11], [], [some (.row 9 1 R.length 8 (fun zz => [.str (R.getD zz [])])), some (.row 114 2 l.length 0 (fun zz => [.str (l.getD zz pz).1, .int .i64 (l.getD zz pz).2])), some (.fac b o), some (.blk [.int .i64 kd, .int .i64 th, .int .i64 rg, .int .i64 lc, .int .i64 vl]), some (.blk [.int .i64 5]), some (.blk [.int .i64 4, .int .i64 5])]), ([3, 4, 11], [], [some (.row 9 1 R.length 8 (fun zz => [.str (R.getD zz [])])), some (.row 114 2 l.length 0 (fun zz => [.str (l.getD zz pz).1, .int .i64 (l.getD zz pz).2])), some (.fac b o), some (.blk [.int .i64 kd, .int .i64 th, .int .i64 rg, .int .i64 lc, .int .i64 vl]), some (.blk [.int .i64 5]), some (.blk [.int .i64 4, .int .i64 5])]), ([3, 4, 11, 12], [], [some (.row 9 1 R.length 8 (fun zz => [.str (R.getD zz [])])), some (.row 114 2 l.length 0 (fun zz => [.str (l.getD zz pz).1, .int .i64 (l.getD zz pz).2])), some (.fac b o), some (.blk [.int .i64 kd, .int .i64 th, .int .i64 rg, .int .i64 lc, .int .i64 vl]), some (.blk [.int .i64 5]), some (.blk [.int .i64 4, .int .i64 5])])] [[true, true, true, true, false, false, false, false, true, true, true, true, false, false, false], [true, true, true, false, true, false, false, false, true, true, true, true, false, false, false], [true, true, true, true, false, false, false, false, true, true, true, false, false, false, false], [true, true, false, false, false, true, true, true, true, true, true, true, false, false, false], [true, true, true, false, true, false, false, false, true, true, true, false, false, false, false], [true, true, false, false, false, true, true, true, true, true, true, false, true, false, false], [true, true, false, false, false, true, true, true, true, true, false, false, false, true, true]] A rfl rfl rfl rfl (by kernel_rfl) rfl (by kernel_rfl) ⟨⟨⟨_, _, _, _, 0, rfl, rfl, rfl, rfl, eff_at (eff_auto (X := ⟨_, true⟩) (out := .val _ _) hX rfl rfl) rfl⟩, ⟨⟨_, _, _, _, 0, rfl, rfl, rfl, rfl, eff_at (eff_auto (X := ⟨_, true⟩) (out := .val _ _) hX rfl (ok_d (by have hz := wr_f (j := j) (rg := rg) ql qR qv; (try simp only [List.length_append, List.length_cons, List.length_nil]); omega) <| okE_nil)) rfl⟩, ⟨⟨_, _, _, _, 0, rfl, rfl, rfl, rfl, eff_at (eff_auto (X := ⟨_, true⟩) (out := .val _ _) hX rfl (ok_d (by have hz := wr_f (j := j) (rg := rg) ql qR qv; (try simp only [List.length_append, List.length_cons, List.length_nil]); omega) <| okE_nil)) rfl⟩, ⟨⟨_, _, _, _, 1, rfl, rfl, rfl, rfl, new_at 4 (X := ⟨_, true⟩) hX rfl rfl (le0 h0 rfl) rfl rfl rfl rfl⟩, ⟨⟨_, _, _, _, 0, rfl, rfl, rfl, rfl, eff_at (eff_auto (X := ⟨_, true⟩) (out := .val _ _) hX rfl rfl) rfl⟩, ⟨⟨_, _, _, _, 0, rfl, rfl, rfl, rfl, eff_at (eff_auto (X := ⟨_, true⟩) (out := .val _ _) hX rfl (ok_d (by have hz := wr_f (j := j) (rg := rg) ql qR qv; (try simp only [List.length_append, List.length_cons, List.length_nil]); omega) <| okE_nil)) rfl⟩, ⟨⟨_, _, _, _, 0, rfl, rfl, rfl, rfl, eff_at (eff_auto (X := ⟨_, true⟩) (out := .val _ _) hX rfl (ok_d (by have hz := wr_f (j := j) (rg := rg) ql qR qv; (try simp only [List.length_append, List.length_cons, List.length_nil]); omega) <| okE_nil)) rfl⟩, ⟨⟨_, _, _, _, 2, rfl, rfl, rfl, rfl, new_at 5 (X := ⟨_, true⟩) hX rfl rfl (le0 h0 rfl) rfl rfl rfl rfl⟩, trivial⟩⟩⟩⟩⟩⟩⟩⟩, ⟨⟨⟨_, _, _, _, 1, rfl, rfl, rfl, rfl, eff_at (eff_auto (X := ⟨_, true⟩) (out := .val _ _) hX rfl rfl) rfl⟩, ⟨⟨_, _, _, _, 1, rfl, rfl, rfl, rfl, eff_at (eff_auto (X := ⟨_, true⟩) (out := .val _ _) hX rfl (ok_d (by have hz := wr_f (j := j) (rg := rg) ql qR qv; (try simp only [List.length_append, List.length_cons, List.length_nil]); omega) <| okE_nil)) rfl⟩, ⟨⟨_, _, _, _, 1, rfl, rfl, rfl, rfl, eff_at (eff_auto (X := ⟨_, true⟩) (out := .val _ _) hX rfl (ok_d (by have hz := wr_f (j := j) (rg := rg) ql qR qv; (try simp only [List.length_append, List.length_cons, List.length_nil]); omega) <| okE_nil)) rfl⟩, ⟨⟨_, _, _, _, 3, rfl, rfl, rfl, rfl, eff_at (callE [4] (ap5_ ((l.getD ((((j : Nat) : Int) + 0).toNat) pz).1) ((l.getD ((((j : Nat) : Int) + 0).toNat) pz).2) (by have hz := wr_f (j := j) (rg := rg) ql qR qv; (try simp only [List.length_append, List.length_cons, List.length_nil]); omega)) rfl rfl rfl rfl rfl rfl rfl) rfl⟩, ⟨⟨_, _, _, _, 1, rfl, rfl, rfl, rfl, eff_at (eff_auto (X := ⟨_, true⟩) (out := .val _ _) hX rfl rfl) rfl⟩, ⟨⟨_, _, _, _, 1, rfl, rfl, rfl, rfl, eff_at (eff_auto (X := ⟨_, true⟩) (out := .val _ _) hX rfl (ok_d (by have hz := wr_f (j := j) (rg := rg) ql qR qv; (try simp only [List.length_append, List.length_cons, List.length_nil]); omega) <| okE_nil)) rfl⟩, ⟨⟨_, _, _, _, 1, rfl, rfl, rfl, rfl, eff_at (eff_auto (X := ⟨_, true⟩) (out := .val _ _) hX rfl (ok_d (by have hz := wr_f (j := j) (rg := rg) ql qR qv; (try simp only [List.length_append, List.length_cons, List.length_nil]); omega) <| okE_nil)) rfl⟩, ⟨⟨_, _, _, _, 4, rfl, rfl, rfl, rfl, new_at 5 (X := ⟨_, true⟩) hX rfl rfl (le0 h0 rfl) rfl rfl rfl rfl⟩, trivial⟩⟩⟩⟩⟩⟩⟩⟩, ⟨⟨⟨_, _, _, _, 2, rfl, rfl, rfl, rfl, eff_at (eff_auto (X := ⟨_, true⟩) (out := .val _ _) hX rfl rfl) rfl⟩, ⟨⟨_, _, _, _, 2, rfl, rfl, rfl, rfl, eff_at (eff_auto (X := ⟨_, true⟩) (out := .val _ _) hX rfl (ok_d (by have hz := wr_f (j := j) (rg := rg) ql qR qv; (try simp only [List.length_append, List.length_cons, List.length_nil]); omega) <| okE_nil)) rfl⟩, ⟨⟨_, _, _, _, 2, rfl, rfl, rfl, rfl, eff_at (eff_auto (X := ⟨_, true⟩) (out := .val _ _) hX rfl (ok_d (by have hz := wr_f (j := j) (rg := rg) ql qR qv; (try simp only [List.length_append, List.length_cons, List.length_nil]); omega) <| okE_nil)) rfl⟩, ⟨⟨_, _, _, _, 4, rfl, rfl, rfl, rfl, new_at 4 (X := ⟨_, true⟩) hX rfl rfl (le0 h0 rfl) rfl rfl rfl rfl⟩, ⟨⟨_, _, _, _, 2, rfl, rfl, rfl, rfl, eff_at (eff_auto (X := ⟨_, true⟩) (out := .val _ _) hX rfl rfl) rfl⟩, ⟨⟨_, _, _, _, 2, rfl, rfl, rfl, rfl, eff_at (eff_auto (X := ⟨_, true⟩) (out := .val _ _) hX rfl (ok_d (by have hz := wr_f (j := j) (rg := rg) ql qR qv; (try simp only [List.length_append, List.length_cons, List.length_nil]); omega) <| okE_nil)) rfl⟩, ⟨⟨_, _, _, _, 2, rfl, rfl, rfl, rfl, eff_at (eff_auto (X := ⟨_, true⟩) (out := .val _ _) hX rfl (ok_d (by have hz := wr_f (j := j) (rg := rg) ql qR qv; (try simp only [List.length_append, List.length_cons, List.length_nil]); omega) <| okE_nil)) rfl⟩, trivial⟩⟩⟩⟩⟩⟩⟩, ⟨⟨⟨_, _, _, _, 3, rfl, rfl, rfl, rfl, eff_at (eff_auto (X := ⟨_, true⟩) (out := .val _ _) hX rfl rfl) rfl⟩, ⟨⟨_, _, _, _, 3, rfl, rfl, rfl, rfl, eff_at (eff_auto (X := ⟨_, true⟩) (out := .val _ _) hX rfl (ok_d (by have hz := wr_f (j := j) (rg := rg) ql qR qv; (try simp only [List.length_append, List.length_cons, List.length_nil]); omega) <| okE_nil)) rfl⟩, ⟨⟨_, _, _, _, 3, rfl, rfl, rfl, rfl, eff_at (eff_auto (X := ⟨_, true⟩) (out := .val _ _) hX rfl (ok_d (by have hz := wr_f (j := j) (rg := rg) ql qR qv; (try simp only [List.length_append, List.length_cons, List.length_nil]); omega) <| okE_nil)) rfl⟩, ⟨⟨_, _, _, _, 3, rfl, rfl, rfl, rfl, eff_at (eff_auto (X := ⟨_, true⟩) (out := .val _ _) hX rfl (ok_d (by have hz := wr_f (j := j) (rg := rg) ql qR qv; (try simp only [List.length_append, List.length_cons, List.length_nil]); omega) <| okE_nil)) rfl⟩, ⟨⟨_, _, _, _, 3, rfl, rfl, rfl, rfl, eff_at (eff_auto (X := ⟨_, true⟩) (out := .val _ _) hX rfl (ok_d (by have hz := wr_f (j := j) (rg := rg) ql qR qv; (try simp only [List.length_append, List.length_cons, List.length_nil]); omega) <| okE_nil)) rfl⟩, ⟨⟨_, _, _, _, 3, rfl, rfl, rfl, rfl, eff_at (eff_auto (X := ⟨_, true⟩) (out := .val _ _) hX rfl rfl) rfl⟩, ⟨⟨_, _, _, _, 3, rfl, rfl, rfl, rfl, eff_at (eff_auto (X := ⟨_, true⟩) (out := .val _ _) hX rfl (ok_d (by have hz := wr_f (j := j) (rg := rg) ql qR qv; (try simp only [List.length_append, List.length_cons, List.length_nil]); omega) <| okE_nil)) rfl⟩, ⟨⟨_, _, _, _, 3, rfl, rfl, rfl, rfl, eff_at (eff_auto (X := ⟨_, true⟩) (out := .val _ _) hX rfl (ok_d (by have hz := wr_f (j := j) (rg := rg) ql qR qv; (try simp only [List.length_append, List.length_cons, List.length_nil]); omega) <| okE_nil)) rfl⟩, ⟨⟨_, _, _, _, 5, rfl, rfl, rfl, rfl, new_at 5 (X := ⟨_, true⟩) hX rfl rfl (le0 h0 rfl) rfl rfl rfl rfl⟩, trivial⟩⟩⟩⟩⟩⟩⟩⟩⟩, ⟨⟨⟨_, _, _, _, 4, rfl, rfl, rfl, rfl, eff_at (eff_auto (X := ⟨_, true⟩) (out := .val _ _) hX rfl rfl) rfl⟩, ⟨⟨_, _, _, _, 4, rfl, rfl, rfl, rfl, eff_at (eff_auto (X := ⟨_, true⟩) (out := .val _ _) hX rfl (ok_d (by have hz := wr_f (j := j) (rg := rg) ql qR qv; (try simp only [List.length_append, List.length_cons, List.length_nil]); omega) <| okE_nil)) rfl⟩, ⟨⟨_, _, _, _, 4, rfl, rfl, rfl, rfl, eff_at (eff_auto (X := ⟨_, true⟩) (out := .val _ _) hX rfl (ok_d (by have hz := wr_f (j := j) (rg := rg) ql qR qv; (try simp only [List.length_append, List.length_cons, List.length_nil]); omega) <| okE_nil)) rfl⟩, ⟨⟨_, _, _, _, 5, rfl, rfl, rfl, rfl, eff_at (callE [4] (ap5_ ((l.getD ((((j : Nat) : Int) + 0).toNat) pz).1) ((l.getD ((((j : Nat) : Int) + 0).toNat) pz).2) (by have hz := wr_f (j := j) (rg := rg) ql qR qv; (try simp only [List.length_append, List.length_cons, List.length_nil]); omega)) rfl rfl rfl rfl rfl rfl rfl) rfl⟩, ⟨⟨_, _, _, _, 4, rfl, rfl, rfl, rfl, eff_at (eff_auto (X := ⟨_, true⟩) (out := .val _ _) hX rfl rfl) rfl⟩, ⟨⟨_, _, _, _, 4, rfl, rfl, rfl, rfl, eff_at (eff_auto (X := ⟨_, true⟩) (out := .val _ _) hX rfl (ok_d (by have hz := wr_f (j := j) (rg := rg) ql qR qv; (try simp only [List.length_append, List.length_cons, List.length_nil]); omega) <| okE_nil)) rfl⟩, ⟨⟨_, _, _, _, 4, rfl, rfl, rfl, rfl, eff_at (eff_auto (X := ⟨_, true⟩) (out := .val _ _) hX rfl (ok_d (by have hz := wr_f (j := j) (rg := rg) ql qR qv; (try simp only [List.length_append, List.length_cons, List.length_nil]); omega) <| okE_nil)) rfl⟩, trivial⟩⟩⟩⟩⟩⟩⟩, ⟨⟨⟨_, _, _, _, 5, rfl, rfl, rfl, rfl, eff_at (eff_auto (X := ⟨_, true⟩) (out := .val _ _) hX rfl rfl) rfl⟩, ⟨⟨_, _, _, _, 5, rfl, rfl, rfl, rfl, eff_at (eff_auto (X := ⟨_, true⟩) (out := .val _ _) hX rfl (ok_d (by have hz := wr_f (j := j) (rg := rg) ql qR qv; (try simp only [List.length_append, List.length_cons, List.length_nil]); omega) <| okE_nil)) rfl⟩, ⟨⟨_, _, _, _, 5, rfl, rfl, rfl, rfl, eff_at (eff_auto (X := ⟨_, true⟩) (out := .val _ _) hX rfl (ok_d (by have hz := wr_f (j := j) (rg := rg) ql qR qv; (try simp only [List.length_append, List.length_cons, List.length_nil]); omega) <| okE_nil)) rfl⟩, ⟨⟨_, _, _, _, 5, rfl, rfl, rfl, rfl, eff_at (eff_auto (X := ⟨_, true⟩) (out := .val _ _) hX rfl (ok_d (by have hz := wr_f (j := j) (rg := rg) ql qR qv; (try simp only [List.length_append, List.length_cons, List.length_nil]); omega) <| okE_nil)) rfl⟩, ⟨⟨_, _, _, _, 5, rfl, rfl, rfl, rfl, eff_at (eff_auto (X := ⟨_, true⟩) (out := .val _ _) hX rfl (ok_d (by have hz := wr_f (j := j) (rg := rg) ql qR qv; (try simp only [List.length_append, List.length_cons, List.length_nil]); omega) <| okE_nil)) rfl⟩, ⟨⟨_, _, _, _, 5, rfl, rfl, rfl, rfl, eff_at (eff_auto (X := ⟨_, true⟩) (out := .val _ _) hX rfl rfl) rfl⟩, ⟨⟨_, _, _, _, 5, rfl, rfl, rfl, rfl, eff_at (eff_auto (X := ⟨_, true⟩) (out := .val _ _) hX rfl (ok_d (by have hz := wr_f (j := j) (rg := rg) ql qR qv; (try simp only [List.length_append, List.length_cons, List.length_nil]); omega) <| okE_nil)) rfl⟩, ⟨⟨_, _, _, _, 5, rfl, rfl, rfl, rfl, eff_at (eff_auto (X := ⟨_, true⟩) (out := .val _ _) hX rfl (ok_d (by have hz := wr_f (j := j) (rg := rg) ql qR qv; (try simp only [List.length_append, List.length_cons, List.length_nil]); omega) <| okE_nil)) rfl⟩, ⟨⟨_, _, _, _, 6, rfl, rfl, rfl, rfl, eff_at (callE [5] (ap45_ ((l.getD ((((j : Nat) : Int) + 1).toNat) pz).1) ((l.getD ((((j : Nat) : Int) + 1).toNat) pz).2) (by have hz := wr_f (j := j) (rg := rg) ql qR qv; (try simp only [List.length_append, List.length_cons, List.length_nil]); omega)) rfl rfl rfl rfl rfl rfl rfl) rfl⟩, trivial⟩⟩⟩⟩⟩⟩⟩⟩⟩, ⟨⟨⟨_, _, _, _, 6, rfl, rfl, rfl, rfl, eff_at (eff_auto (X := ⟨_, true⟩) (out := .val _ _) hX rfl rfl) rfl⟩, ⟨⟨_, _, _, _, 6, rfl, rfl, rfl, rfl, eff_at (eff_auto (X := ⟨_, true⟩) (out := .val _ _) hX rfl (ok_d (by have hz := wr_f (j := j) (rg := rg) ql qR qv; (try simp only [List.length_append, List.length_cons, List.length_nil]); omega) <| okE_nil)) rfl⟩, ⟨⟨_, _, _, _, 6, rfl, rfl, rfl, rfl, eff_at (eff_auto (X := ⟨_, true⟩) (out := .val _ _) hX rfl (ok_d (by have hz := wr_f (j := j) (rg := rg) ql qR qv; (try simp only [List.length_append, List.length_cons, List.length_nil]); omega) <| okE_nil)) rfl⟩, ⟨⟨_, _, _, _, 6, rfl, rfl, rfl, rfl, eff_at (eff_auto (X := ⟨_, true⟩) (out := .val _ _) hX rfl (ok_d (by have hz := wr_f (j := j) (rg := rg) ql qR qv; (try simp only [List.length_append, List.length_cons, List.length_nil]); omega) <| okE_nil)) rfl⟩, ⟨⟨_, _, _, _, 6, rfl, rfl, rfl, rfl, eff_at (eff_auto (X := ⟨_, true⟩) (out := .val _ _) hX rfl (ok_d (by have hz := wr_f (j := j) (rg := rg) ql qR qv; (try simp only [List.length_append, List.length_cons, List.length_nil]); omega) <| okE_nil)) rfl⟩, ⟨⟨_, _, _, _, 6, rfl, rfl, rfl, rfl, eff_at (eff_auto (X := ⟨_, true⟩) (out := .val _ _) hX rfl rfl) rfl⟩, ⟨⟨_, _, _, _, 6, rfl, rfl, rfl, rfl, eff_at (eff_auto (X := ⟨_, true⟩) (out := .val _ _) hX rfl (ok_d (by have hz := wr_f (j := j) (rg := rg) ql qR qv; (try simp only [List.length_append, List.length_cons, List.length_nil]); omega) <| okE_nil)) rfl⟩, ⟨⟨_, _, _, _, 6, rfl, rfl, rfl, rfl, eff_at (eff_auto (X := ⟨_, true⟩) (out := .val _ _) hX rfl (ok_d (by have hz := wr_f (j := j) (rg := rg) ql qR qv; (try simp only [List.length_append, List.length_cons, List.length_nil]); omega) <| okE_nil)) rfl⟩, ⟨⟨_, _, _, _, 6, rfl, rfl, rfl, rfl, eff_at (eff_auto (X := ⟨_, true⟩) (out := .val _ _) hX rfl rfl) rfl⟩, trivial⟩⟩⟩⟩⟩⟩⟩⟩⟩, trivial⟩⟩⟩⟩⟩⟩⟩ fun A => N hX 2 A rfl rfl fun A => RETN hX A rfl rfl rfl h0 rfl rfl rfl rfl (by simp only [oneS, nb, nbL, nbH, wr0, if_neg (h1), if_neg (h2), if_neg (h3), if_pos h4]) rfl)
     (fun h4 A => N hX 5 A rfl rfl fun A => DRAWN hX hmo [] [(11, .str (apT [5] ((l.getD ((((j : Nat) : Int) + 1).toNat) pz).1) ((l.getD ((((j : Nat) : Int) + 1).toNat) pz).2)), [some (.row 9 1 R.length 8 (fun zz => [.str (R.getD zz [])])), some (.row 114 2 l.length 0 (fun zz => [.str (l.getD zz pz).1, .int .i64 (l.getD zz pz).2])), some (.fac b o), some (.blk [.int .i64 kd, .int .i64 th, .int .i64 rg, .int .i64 lc, .int .i64 vl]), some (.blk [.int .i64 5])])] A rfl (ok_d (by have hz := wr_f (j := j) (rg := rg) ql qR qv; (try simp only [List.length_append, List.length_cons, List.length_nil]); omega) <| ok_d (by have hz := wr_f (j := j) (rg := rg) ql qR qv; (try simp only [List.length_append, List.length_cons, List.length_nil]); omega) <| ok_d (by have hz := wr_f (j := j) (rg := rg) ql qR qv; (try simp only [List.length_append, List.length_cons, List.length_nil]); omega) <| ok_d (by have hz := wr_f (j := j) (rg := rg) ql qR qv; (try simp only [List.length_append, List.length_cons, List.length_nil]); omega) <| ok_d (by have hz := wr_f (j := j) (rg := rg) ql qR qv; (try simp only [List.length_append, List.length_cons, List.length_nil]); omega) <| ok_d (by have hz := wr_f (j := j) (rg := rg) ql qR qv; (try simp only [List.length_append, List.length_cons, List.length_nil]); omega) <| ok_d (by have hz := wr_f (j := j) (rg := rg) ql qR qv; (try simp only [List.length_append, List.length_cons, List.length_nil]); omega) <| ok_d (by have hz := wr_f (j := j) (rg := rg) ql qR qv; (try simp only [List.length_append, List.length_cons, List.length_nil]); omega) <| ok_d (by have hz := wr_f (j := j) (rg := rg) ql qR qv; (try simp only [List.length_append, List.length_cons, List.length_nil]); omega) <| ok_d (by have hz := wr_f (j := j) (rg := rg) ql qR qv; (try simp only [List.length_append, List.length_cons, List.length_nil]); omega) <| ok_d (by have hz := wr_f (j := j) (rg := rg) ql qR qv; (try simp only [List.length_append, List.length_cons, List.length_nil]); omega) <| ok_d (by have hz := wr_f (j := j) (rg := rg) ql qR qv; (try simp only [List.length_append, List.length_cons, List.length_nil]); omega) <| ok_d (by have hz := wr_f (j := j) (rg := rg) ql qR qv; (try simp only [List.length_append, List.length_cons, List.length_nil]); omega) <| ok_d (by have hz := wr_f (j := j) (rg := rg) ql qR qv; (try simp only [List.length_append, List.length_cons, List.length_nil]); omega) <| ok_d (by have hz := wr_f (j := j) (rg := rg) ql qR qv; (try simp only [List.length_append, List.length_cons, List.length_nil]); omega) <| ok_d (by have hz := wr_f (j := j) (rg := rg) ql qR qv; (try simp only [List.length_append, List.length_cons, List.length_nil]); omega) <| ok_d (by have hz := wr_f (j := j) (rg := rg) ql qR qv; (try simp only [List.length_append, List.length_cons, List.length_nil]); omega) <| ok_d (by have hz := wr_f (j := j) (rg := rg) ql qR qv; (try simp only [List.length_append, List.length_cons, List.length_nil]); omega) <| ok_d (by have hz := wr_f (j := j) (rg := rg) ql qR qv; (try simp only [List.length_append, List.length_cons, List.length_nil]); omega) <| ok_d (by have hz := wr_f (j := j) (rg := rg) ql qR qv; (try simp only [List.length_append, List.length_cons, List.length_nil]); omega) <| ok_d (by have hz := wr_f (j := j) (rg := rg) ql qR qv; (try simp only [List.length_append, List.length_cons, List.length_nil]); omega) <| ok_d (by have hz := wr_f (j := j) (rg := rg) ql qR qv; (try simp only [List.length_append, List.length_cons, List.length_nil]); omega) <| ok_d (by have hz := wr_f (j := j) (rg := rg) ql qR qv; (try simp only [List.length_append, List.length_cons, List.length_nil]); omega) <| ok_d (by have hz := wr_f (j := j) (rg := rg) ql qR qv; (try simp only [List.length_append, List.length_cons, List.length_nil]); omega) <| okE_nil) rfl rfl (by kernel_rfl) ⟨trivial, ⟨callE [4] (ap5_ ((l.getD ((((j : Nat) : Int) + 1).toNat) pz).1) ((l.getD ((((j : Nat) : Int) + 1).toNat) pz).2) (by have hz := wr_f (j := j) (rg := rg) ql qR qv; (try simp only [List.length_append, List.length_cons, List.length_nil]); omega)) rfl rfl rfl rfl rfl rfl rfl, trivial⟩⟩ trivial fun A => N hX 2 A rfl rfl fun A => RETN hX A rfl rfl rfl h0 rfl rfl rfl rfl (by simp only [oneS, nb, nbL, nbH, wr0, if_neg (h1), if_neg (h2), if_neg (h3), if_neg (h4)]) rfl))))
theorem pone_ (R : List (List UInt8)) (kd : Int) (th : Int) (rg : Int) (lc : Int) (vl : Int) (l : List Pc) (j : Nat) (k : Nat) (b : Nat) (o : Obj) (hT : ∀ w : World, w.heap[b]? = some o → Lib.TabIs Tryz.prog w "internal/strconv.uint64pow10" .u64 Lib.pow10Tab) (hk : j + k ≤ l.length) (q1 : kd = 1 → 0 ≤ th ∧ th < 3 ∧ 0 ≤ rg ∧ rg < 8) (q2 : kd = 2 → 0 ≤ lc ∧ lc < 3) (q3 : kd = 3 → 1 ≤ k) (q4 : kd ≠ 1 → kd ≠ 2 → kd ≠ 3 → 2 ≤ k) (qv : -9223372036854775808 ≤ vl ∧ vl ≤ 9223372036854775807) (ql : ∀ q, (l.getD q pz).1.length ≤ 1000000) (qR : ∀ q, (R.getD q []).length ≤ 100) (hR : 8 ≤ R.length) : Fn Tryz.prog 53 [.agg [.int .i64 kd, .int .i64 th, .int .i64 rg, .int .i64 lc, .int .i64 vl], .st 2 2 j k 0, .ptr 0 0] [some (.blk [.sl 1 R.length 8]), some (.row 9 1 R.length 8 (fun zz => [.str (R.getD zz [])])), some (.row 114 2 l.length 0 (fun zz => [.str (l.getD zz pz).1, .int .i64 (l.getD zz pz).2])), some (.fac b o)] (Rt (.agg [.str (wr0 R kd th rg lc vl l j k), .int .i64 kd]) [some (.blk [.sl 1 R.length 8]), some (.row 9 1 R.length 8 (fun zz => [.str (R.getD zz [])])), some (.row 114 2 l.length 0 (fun zz => [.str (l.getD zz pz).1, .int .i64 (l.getD zz pz).2])), some (.fac b o)]) :=
 enterM (n := 13) (by kernel_rfl) Tryz.func53 rfl rfl rfl fun G w a h0 A => N hX 7 A rfl rfl fun A => DRAWN hX hmo [] [(3, .str (wr0 R kd th rg lc vl l j k), [some (.blk [.sl 1 R.length 8]), some (.row 9 1 R.length 8 (fun zz => [.str (R.getD zz [])])), some (.row 114 2 l.length 0 (fun zz => [.str (l.getD zz pz).1, .int .i64 (l.getD zz pz).2])), some (.fac b o), some (.blk [.int .i64 kd, .int .i64 th, .int .i64 rg, .int .i64 lc, .int .i64 vl]), some (.blk [.str [], .int .i64 0])])] A rfl rfl rfl rfl (by kernel_rfl) ⟨callE [1, 2, 3] (wr_ R kd th rg lc vl l j k b o hT hk q1 q2 q3 q4 qv ql qR hR) rfl rfl rfl rfl rfl rfl rfl, ⟨trivial, trivial⟩⟩ trivial fun A => N hX 2 A rfl rfl fun A => RETN hX A rfl rfl rfl h0 rfl rfl rfl rfl rfl rfl
end Go.Proofs.YtedlaclfhgneeabGreatDoor.Cd
namespace Go.Proofs.YtedlaclfhgneeabGreatDoor
open Go.RowKit
set_option linter.unusedVariables false
set_option linter.unusedSimpArgs false
set_option maxRecDepth 100000
set_option maxHeartbeats 2000000
set_option simprocs false
section
variable {ws : List Tk} {k : Nat} {s : As} {m : List UInt8} {x : Int} {ls rs : List (List UInt8)}
theorem nxK_ge : k ≤ nxK ws k := by unfold nxK; split <;> omega
theorem tkK_ge : k ≤ tkK ws k m := by unfold tkK; split <;> omega
theorem nbK_ge : k ≤ nbK ws k := by unfold nbK; (repeat' split) <;> omega
theorem mkA_ge : s.p ≤ (mkA ws s m).p := by
  unfold mkA; split
  · exact tkK_ge
  · rw [refA_p]; exact tkK_ge
theorem numA_ge : s.p ≤ (numA ws s).p := by
  unfold numA; split
  · exact nbK_ge
  · rw [refA_p]; exact Nat.le_trans nbK_ge tkK_ge
theorem knA_ge : s.p ≤ (knA ws s ls).p := by
  unfold knA; split
  · split
    · rw [refA_p]; exact Nat.le_refl _
    · exact nxK_ge
  · rw [refA_p]; exact Nat.le_refl _
theorem hoA_ge : s.p ≤ (hoA ws s rs).p := by
  have h1 : s.p ≤ (hoS ws s).p := by
    unfold hoS; split
    · rw [refA_p]; exact Nat.le_refl _
    · exact Nat.le_refl _
  unfold hoA; split
  · exact Nat.le_trans h1 (Nat.le_trans nxK_ge (Nat.le_trans (mkA_ge (s := ⟨nxK ws (hoS ws s).p, (hoS ws s).e, (hoS ws s).a⟩)) knA_ge))
  · exact knA_ge
theorem leA_ge : s.p ≤ (leA ws s rs).p := Nat.le_trans hoA_ge (Nat.le_trans mkA_ge numA_ge)
end
theorem brk_congr {wf wg : Nat → Int} : ∀ {n : Nat}, (∀ j, j < n → wf j = wg j) → brk wf n = brk wg n
  | 0, _ => rfl
  | n + 1, h => by
    show brk wf n + (if wf n ≤ 5 then 0 else 1) = brk wg n + (if wg n ≤ 5 then 0 else 1)
    rw [brk_congr (fun j hj => h j (by omega)), h n (by omega)]
theorem brk_upd (wf : Nat → Int) (m : Nat) (x : Int) : brk (updW wf m x) (m + 1) = brk wf m + (if x ≤ 5 then 0 else 1) := by
  show brk (updW wf m x) m + (if updW wf m x m ≤ 5 then 0 else 1) = _
  rw [brk_congr (wg := wf) (fun j hj => updW_l hj), updW_1]
theorem brk_setk {k : Int} (hk : k ≤ 5) (wf : Nat → Int) : ∀ (n : Nat) (ns : List Cn), brk wf (setF k wf n ns).1 = brk wf n
  | 0, ns => rfl
  | n + 1, ns => by
    unfold setF
    by_cases h : wf n ≤ k
    · rw [if_pos h, brk_setk hk wf n]
      show brk wf n = brk wf n + _
      rw [if_pos (by omega)]; rfl
    · rw [if_neg h]
theorem begF_ok {ws : List Tk} : ∀ (f : Nat) (z : Bg), z.p ≤ ws.length → z.op = (brk z.wf z.m : Int) → (begF ws f z).p ≤ ws.length ∧ z.p ≤ (begF ws f z).p ∧ (begF ws f z).m + z.p ≤ z.m + (begF ws f z).p ∧ (begF ws f z).op = (brk (begF ws f z).wf (begF ws f z).m : Int)
  | 0, z, h, ho => ⟨h, Nat.le_refl _, Nat.le_refl _, ho⟩
  | f + 1, z, h, ho => by
    unfold begF
    by_cases h1 : tkB ws z.p [126] = true
    · rw [if_pos h1]
      have e := tk_go h1
      have hl := tkb_lt h1
      have := begF_ok (ws := ws) f ⟨tkK ws z.p [126], z.m + 1, updW z.wf z.m 3, z.op⟩ (by show tkK ws z.p [126] ≤ _; omega) (by show z.op = ((brk (updW z.wf z.m 3) (z.m + 1) : Nat) : Int); rw [brk_upd, if_pos (by decide)]; exact ho)
      obtain ⟨a, b, c, d⟩ := this
      exact ⟨a, by have : tkK ws z.p [126] ≤ _ := b; omega, by have b' : tkK ws z.p [126] ≤ _ := b; have c' : _ + tkK ws z.p [126] ≤ z.m + 1 + _ := c; omega, d⟩
    · rw [if_neg h1]
      have h1' : tkB ws z.p [126] = false := by simpa using h1
      have e1 := tk_st h1'
      by_cases h2 : tkB ws (tkK ws z.p [126]) [40] = true
      · rw [if_pos h2]
        have e := tk_go h2
        have hl := tkb_lt h2
        have := begF_ok (ws := ws) f ⟨tkK ws (tkK ws z.p [126]) [40], z.m + 1, updW z.wf z.m 6, z.op + 1⟩ (by show tkK ws (tkK ws z.p [126]) [40] ≤ _; omega) (by show z.op + 1 = ((brk (updW z.wf z.m 6) (z.m + 1) : Nat) : Int); rw [brk_upd, if_neg (by decide)]; omega)
        obtain ⟨a, b, c, d⟩ := this
        exact ⟨a, by have : tkK ws (tkK ws z.p [126]) [40] ≤ _ := b; omega, by have b' : tkK ws (tkK ws z.p [126]) [40] ≤ _ := b; have c' : _ + tkK ws (tkK ws z.p [126]) [40] ≤ z.m + 1 + _ := c; omega, d⟩
      · rw [if_neg h2]
        have h2' : tkB ws (tkK ws z.p [126]) [40] = false := by simpa using h2
        have e2 := tk_st h2'
        refine ⟨?_, ?_, ?_, ho⟩
        · show tkK ws (tkK ws z.p [126]) [40] ≤ _; omega
        · show z.p ≤ tkK ws (tkK ws z.p [126]) [40]; omega
        · show z.m + z.p ≤ z.m + tkK ws (tkK ws z.p [126]) [40]; omega
theorem endF_ok {ws : List Tk} {wf : Nat → Int} : ∀ (f : Nat) (z : Eg), z.p ≤ ws.length → z.op = (brk wf z.m : Int) → (endF ws wf f z).p ≤ ws.length ∧ z.p ≤ (endF ws wf f z).p ∧ (endF ws wf f z).ns.length + (endF ws wf f z).m ≤ z.ns.length + z.m ∧ (endF ws wf f z).op = (brk wf (endF ws wf f z).m : Int)
  | 0, z, h, ho => ⟨h, Nat.le_refl _, Nat.le_refl _, ho⟩
  | f + 1, z, h, ho => by
    unfold endF
    by_cases h0 : z.op > 0
    · rw [if_pos h0]
      by_cases h1 : tkB ws z.p [41] = true
      · rw [if_pos h1]
        have e := tk_go h1
        have hl := tkb_lt h1
        have hp := brk_pop (wf := wf) (n := z.m) (ns := z.ns) (by omega)
        have hs := set_add 5 wf z.m z.ns
        have en : ((((setF 5 wf z.m z.ns).1 : Nat) : Int) - 1).toNat = (setF 5 wf z.m z.ns).1 - 1 := by omega
        have := endF_ok (ws := ws) (wf := wf) f ⟨tkK ws z.p [41], (setF 5 wf z.m z.ns).2, ((((setF 5 wf z.m z.ns).1 : Nat) : Int) - 1).toNat, z.op - 1⟩ (by show tkK ws z.p [41] ≤ _; omega) (by show z.op - 1 = ((brk wf ((((setF 5 wf z.m z.ns).1 : Nat) : Int) - 1).toNat : Nat) : Int); rw [en]; omega)
        obtain ⟨a, b, c, d⟩ := this
        refine ⟨a, ?_, ?_, d⟩
        · have b' : tkK ws z.p [41] ≤ _ := b; omega
        · have c' : _ ≤ (setF 5 wf z.m z.ns).2.length + ((((setF 5 wf z.m z.ns).1 : Nat) : Int) - 1).toNat := c; omega
      · rw [if_neg h1]
        have h1' : tkB ws z.p [41] = false := by simpa using h1
        have e1 := tk_st h1'
        refine ⟨?_, ?_, Nat.le_refl _, ho⟩
        · show tkK ws z.p [41] ≤ _; omega
        · show z.p ≤ tkK ws z.p [41]; omega
    · rw [if_neg h0]; exact ⟨h, Nat.le_refl _, Nat.le_refl _, ho⟩
theorem joF_ok {ws : List Tk} {p : Nat} {ns : List Cn} {m : Nat} {wf : Nat → Int} (h : p ≤ ws.length) : (joF ws p ns m wf).2.1 ≤ ws.length ∧ p ≤ (joF ws p ns m wf).2.1 ∧ ((joF ws p ns m wf).1 = true → p < (joF ws p ns m wf).2.1 ∧ (joF ws p ns m wf).2.2.1.length + (joF ws p ns m wf).2.2.2.1 ≤ ns.length + m + 1) ∧ ((joF ws p ns m wf).1 = false → (joF ws p ns m wf).2.2.1.length + (joF ws p ns m wf).2.2.2.1 ≤ ns.length + m) ∧ brk (joF ws p ns m wf).2.2.2.2 (joF ws p ns m wf).2.2.2.1 = brk wf m := by
  unfold joF
  by_cases h1 : tkB ws p [47, 92] = true
  · rw [if_pos h1]
    have e := tk_go h1
    have hl := tkb_lt h1
    have hs := set_add 4 wf m ns
    refine ⟨by show tkK ws p [47, 92] ≤ _; omega, by show p ≤ tkK ws p [47, 92]; omega, fun _ => ⟨by show p < tkK ws p [47, 92]; omega, by show (setF 4 wf m ns).2.length + ((setF 4 wf m ns).1 + 1) ≤ _; omega⟩, (fun e => (by cases e)), ?_⟩
    show brk (updW wf (setF 4 wf m ns).1 4) ((setF 4 wf m ns).1 + 1) = _
    rw [brk_upd, if_pos (by decide), brk_setk (by decide)]; rfl
  · rw [if_neg h1]
    have h1' : tkB ws p [47, 92] = false := by simpa using h1
    have e1 := tk_st h1'
    by_cases h2 : tkB ws (tkK ws p [47, 92]) [92, 47] = true
    · rw [if_pos h2]
      have e := tk_go h2
      have hl := tkb_lt h2
      have hs := set_add 5 wf m ns
      refine ⟨by show tkK ws (tkK ws p [47, 92]) [92, 47] ≤ _; omega, by show p ≤ tkK ws (tkK ws p [47, 92]) [92, 47]; omega, fun _ => ⟨by show p < tkK ws (tkK ws p [47, 92]) [92, 47]; omega, by show (setF 5 wf m ns).2.length + ((setF 5 wf m ns).1 + 1) ≤ _; omega⟩, (fun e => (by cases e)), ?_⟩
      show brk (updW wf (setF 5 wf m ns).1 5) ((setF 5 wf m ns).1 + 1) = _
      rw [brk_upd, if_pos (by decide), brk_setk (by decide)]; rfl
    · rw [if_neg h2]
      have h2' : tkB ws (tkK ws p [47, 92]) [92, 47] = false := by simpa using h2
      have e2 := tk_st h2'
      exact ⟨by show tkK ws (tkK ws p [47, 92]) [92, 47] ≤ _; omega, by show p ≤ tkK ws (tkK ws p [47, 92]) [92, 47]; omega, (fun e => (by cases e)), fun _ => Nat.le_refl _, rfl⟩
structure Cs where (s : As) (ns : List Cn) (m : Nat) (wf : Nat → Int) (op : Int)
def coB (ws : List Tk) (z : Cs) : Bg := (begF ws (ws.length - z.s.p + 1) (⟨z.s.p, z.m, z.wf, z.op⟩ : Bg))
def coS1 (ws : List Tk) (z : Cs) : As := ⟨(coB ws z).p, z.s.e, z.s.a⟩
def coL (ws : List Tk) (rs : List (List UInt8)) (z : Cs) : As := leA ws (coS1 ws z) rs
def coN (ws : List Tk) (rs : List (List UInt8)) (z : Cs) : List Cn := z.ns ++ [leC ws (coS1 ws z) rs]
def coE (ws : List Tk) (rs : List (List UInt8)) (z : Cs) : Eg := endF ws (coB ws z).wf (ws.length - (coL ws rs z).p + 1) ⟨(coL ws rs z).p, coN ws rs z, (coB ws z).m, (coB ws z).op⟩
def coJ (ws : List Tk) (rs : List (List UInt8)) (z : Cs) : Bool × Nat × List Cn × Nat × (Nat → Int) := joF ws (coE ws rs z).p (coE ws rs z).ns (coE ws rs z).m (coB ws z).wf
def coR (ws : List Tk) (rs : List (List UInt8)) (z : Cs) : Bool × Cs := ((coJ ws rs z).1, ⟨⟨(coJ ws rs z).2.1, (coL ws rs z).e, (coL ws rs z).a⟩, (coJ ws rs z).2.2.1, (coJ ws rs z).2.2.2.1, (coJ ws rs z).2.2.2.2, (coE ws rs z).op⟩)
def coF (ws : List Tk) (rs : List (List UInt8)) : Nat → Cs → Cs
  | 0, z => z
  | f + 1, z => if (coR ws rs z).1 = true then coF ws rs f (coR ws rs z).2 else (coR ws rs z).2
theorem coR_ok {ws : List Tk} {rs : List (List UInt8)} {z : Cs} (hk : z.s.p ≤ ws.length) (ho : z.op = (brk z.wf z.m : Int)) (hs : z.ns.length + z.m ≤ 2 * z.s.p) : (coR ws rs z).2.s.p ≤ ws.length ∧ z.s.p ≤ (coR ws rs z).2.s.p ∧ ((coR ws rs z).1 = true → z.s.p < (coR ws rs z).2.s.p ∧ (coR ws rs z).2.ns.length + (coR ws rs z).2.m ≤ 2 * (coR ws rs z).2.s.p) ∧ (coR ws rs z).2.ns.length + (coR ws rs z).2.m ≤ 2 * (coR ws rs z).2.s.p + 1 ∧ (coR ws rs z).2.op = (brk (coR ws rs z).2.wf (coR ws rs z).2.m : Int) := by
  obtain ⟨b1, b2, b3, b4⟩ := begF_ok (ws := ws) (ws.length - z.s.p + 1) (⟨z.s.p, z.m, z.wf, z.op⟩ : Bg) hk ho
  have b2 : z.s.p ≤ (coB ws z).p := b2
  have b3 : (coB ws z).m + z.s.p ≤ z.m + (coB ws z).p := b3
  have l1 : (coL ws rs z).p ≤ ws.length := leA_le (s := coS1 ws z) b1
  have l2 : (coB ws z).p ≤ (coL ws rs z).p := leA_ge (s := coS1 ws z)
  have ln : (coN ws rs z).length = z.ns.length + 1 := by unfold coN; rw [List.length_append]; rfl
  obtain ⟨e1, e2, e3, e4⟩ := endF_ok (ws := ws) (wf := (coB ws z).wf) (ws.length - (coL ws rs z).p + 1) (⟨(coL ws rs z).p, coN ws rs z, (coB ws z).m, (coB ws z).op⟩ : Eg) l1 b4
  have e1 : (coE ws rs z).p ≤ ws.length := e1
  have e2 : (coL ws rs z).p ≤ (coE ws rs z).p := e2
  have e3 : (coE ws rs z).ns.length + (coE ws rs z).m ≤ (coN ws rs z).length + (coB ws z).m := e3
  obtain ⟨j1, j2, j3, j4, j5⟩ := joF_ok (ws := ws) (p := (coE ws rs z).p) (ns := (coE ws rs z).ns) (m := (coE ws rs z).m) (wf := (coB ws z).wf) e1
  have j2 : (coE ws rs z).p ≤ (coJ ws rs z).2.1 := j2
  refine ⟨j1, by show z.s.p ≤ (coJ ws rs z).2.1; omega, fun h => ?_, ?_, ?_⟩
  · obtain ⟨k1, k2⟩ := j3 h
    have k1 : (coE ws rs z).p < (coJ ws rs z).2.1 := k1
    have k2 : (coJ ws rs z).2.2.1.length + (coJ ws rs z).2.2.2.1 ≤ (coE ws rs z).ns.length + (coE ws rs z).m + 1 := k2
    exact ⟨by show z.s.p < (coJ ws rs z).2.1; omega, by show (coJ ws rs z).2.2.1.length + (coJ ws rs z).2.2.2.1 ≤ 2 * (coJ ws rs z).2.1; omega⟩
  · show (coJ ws rs z).2.2.1.length + (coJ ws rs z).2.2.2.1 ≤ 2 * (coJ ws rs z).2.1 + 1
    cases hj : (coJ ws rs z).1 with
    | true =>
      obtain ⟨k1, k2⟩ := j3 hj
      have k1 : (coE ws rs z).p < (coJ ws rs z).2.1 := k1
      have k2 : (coJ ws rs z).2.2.1.length + (coJ ws rs z).2.2.2.1 ≤ (coE ws rs z).ns.length + (coE ws rs z).m + 1 := k2
      omega
    | false =>
      have k2 : (coJ ws rs z).2.2.1.length + (coJ ws rs z).2.2.2.1 ≤ (coE ws rs z).ns.length + (coE ws rs z).m := j4 hj
      omega
  · show (coE ws rs z).op = ((brk (coJ ws rs z).2.2.2.2 (coJ ws rs z).2.2.2.1 : Nat) : Int)
    have j5 : brk (coJ ws rs z).2.2.2.2 (coJ ws rs z).2.2.2.1 = brk (coB ws z).wf (coE ws rs z).m := j5
    rw [j5]; exact e4
theorem coF_fuel {ws : List Tk} {rs : List (List UInt8)} : ∀ (f g : Nat) (z : Cs), z.s.p ≤ ws.length → z.op = (brk z.wf z.m : Int) → z.ns.length + z.m ≤ 2 * z.s.p → ws.length - z.s.p < f → ws.length - z.s.p < g → coF ws rs f z = coF ws rs g z
  | 0, g, z, _, _, _, h, _ => by omega
  | f + 1, 0, z, _, _, _, _, h => by omega
  | f + 1, g + 1, z, hk, ho, hs, h1, h2 => by
    obtain ⟨r1, r2, r3, r4, r5⟩ := coR_ok (rs := rs) hk ho hs
    unfold coF
    cases hc : (coR ws rs z).1 with
    | false => rw [if_neg (by decide), if_neg (by decide)]
    | true =>
      rw [if_pos rfl, if_pos rfl]
      obtain ⟨k1, k2⟩ := r3 hc
      exact coF_fuel f g _ r1 r5 k2 (by omega) (by omega)
structure CoI (ws : List Tk) (rs : List (List UInt8)) (z0 z : Cs) (mr : Bool) : Prop where
  t : mr = true → coF ws rs (ws.length - z.s.p + 1) z = coF ws rs (ws.length - z0.s.p + 1) z0
  f : mr = false → z = coF ws rs (ws.length - z0.s.p + 1) z0
  le : z.s.p ≤ ws.length
  op : z.op = (brk z.wf z.m : Int)
  sm : mr = true → z.ns.length + z.m ≤ 2 * z.s.p
  s2 : z.ns.length + z.m ≤ 2 * z.s.p + 1
section
variable {ws : List Tk} {rs : List (List UInt8)} {z0 z : Cs} {mr : Bool}
theorem CoI.i0 (h1 : z0.s.p ≤ ws.length) (h2 : z0.op = (brk z0.wf z0.m : Int)) (h3 : z0.ns.length + z0.m ≤ 2 * z0.s.p) : CoI ws rs z0 z0 true := ⟨fun _ => rfl, (fun e => (by cases e)), h1, h2, fun _ => h3, by omega⟩
theorem CoI.go (h : CoI ws rs z0 z mr) (hm : mr = true) : CoI ws rs z0 (coR ws rs z).2 (coR ws rs z).1 := by
  obtain ⟨r1, r2, r3, r4, r5⟩ := coR_ok (rs := rs) h.le h.op (h.sm hm)
  have ht := h.t hm
  refine ⟨fun e => ?_, fun e => ?_, r1, r5, fun e => (r3 e).2, r4⟩
  · rw [← ht]
    have : coF ws rs (ws.length - z.s.p + 1) z = coF ws rs (ws.length - z.s.p) (coR ws rs z).2 := by
      conv => lhs; unfold coF
      rw [if_pos e]
    rw [this]
    exact coF_fuel _ _ _ r1 r5 (r3 e).2 (by omega) (by have := (r3 e).1; omega)
  · rw [← ht]
    unfold coF
    rw [if_neg (by rw [e]; decide)]
theorem CoI.ms (h : CoI ws rs z0 z mr) (hm : mr = true) : (bif (coR ws rs z).1 then ws.length - (coR ws rs z).2.s.p + 1 else 0) < (bif mr then ws.length - z.s.p + 1 else 0) := by
  obtain ⟨r1, r2, r3, r4, r5⟩ := coR_ok (rs := rs) h.le h.op (h.sm hm)
  subst hm
  cases hc : (coR ws rs z).1 with
  | false => show 0 < ws.length - z.s.p + 1; omega
  | true => have := (r3 hc).1; show ws.length - (coR ws rs z).2.s.p + 1 < ws.length - z.s.p + 1; omega
theorem CoI.fin (h : CoI ws rs z0 z mr) (hm : mr = false) : coF ws rs (ws.length - z0.s.p + 1) z0 = z := (h.f hm).symm
end
theorem condition_ (ws : List Tk) (cw : Nat) (rs : List (List UInt8)) (cr : Nat) (s : As) (ns : List Cn) (m : Nat) (wf : Nat → Int) (op : Int) (hk : s.p ≤ ws.length) (hn : ws.length ≤ 10000) (hw : WsOK ws) (hns : ns.length + m ≤ 100000) (hm : m ≤ 100000) (hrs : rs.length ≤ 1000) (hop : op = (brk wf m : Int)) (hsm : ns.length + m ≤ 2 * s.p) : Fn Tryz.prog 48 [.ptr 0 0] [some (.blk [.ptr 1 0, .sl 4 rs.length cr, .sl 5 ns.length 0, .sl 6 m 0, .int .i64 op]), some (.blk [.ptr 2 0, .int .i64 s.e, .int .i64 s.a]), some (.blk [.sl 3 ws.length cw, .int .i64 ((s.p : Nat) : Int)]), some (.lst 4 ws.length (fun zz => tkc (ws.getD zz tok0))), some (.lst 1 rs.length (fun zz => [.str (rs.getD zz [])])), some (.row 88 5 ns.length 0 (fun zz => cc (ns.getD zz Cn.z))), some (.row 3 1 m 0 (fun zz => [.int .i64 (wf zz)]))] (Rt (.tup []) [some (.blk [.ptr 1 0, .sl 4 rs.length cr, .sl 7 (((setF 5 (coF ws rs (ws.length - s.p + 1) (⟨s, ns, m, wf, op⟩ : Cs)).wf (coF ws rs (ws.length - s.p + 1) (⟨s, ns, m, wf, op⟩ : Cs)).m (coF ws rs (ws.length - s.p + 1) (⟨s, ns, m, wf, op⟩ : Cs)).ns).2).length) 0, .sl 8 ((setF 5 (coF ws rs (ws.length - s.p + 1) (⟨s, ns, m, wf, op⟩ : Cs)).wf (coF ws rs (ws.length - s.p + 1) (⟨s, ns, m, wf, op⟩ : Cs)).m (coF ws rs (ws.length - s.p + 1) (⟨s, ns, m, wf, op⟩ : Cs)).ns).1) 0, .int .i64 ((coF ws rs (ws.length - s.p + 1) (⟨s, ns, m, wf, op⟩ : Cs)).op)]), some (.blk [.ptr 2 0, .int .i64 ((bif decide ((coF ws rs (ws.length - s.p + 1) (⟨s, ns, m, wf, op⟩ : Cs)).op > 0) then refA ws (coF ws rs (ws.length - s.p + 1) (⟨s, ns, m, wf, op⟩ : Cs)).s 22 else (coF ws rs (ws.length - s.p + 1) (⟨s, ns, m, wf, op⟩ : Cs)).s).e), .int .i64 ((bif decide ((coF ws rs (ws.length - s.p + 1) (⟨s, ns, m, wf, op⟩ : Cs)).op > 0) then refA ws (coF ws rs (ws.length - s.p + 1) (⟨s, ns, m, wf, op⟩ : Cs)).s 22 else (coF ws rs (ws.length - s.p + 1) (⟨s, ns, m, wf, op⟩ : Cs)).s).a)]), some (.blk [.sl 3 ws.length cw, .int .i64 (((bif decide ((coF ws rs (ws.length - s.p + 1) (⟨s, ns, m, wf, op⟩ : Cs)).op > 0) then refA ws (coF ws rs (ws.length - s.p + 1) (⟨s, ns, m, wf, op⟩ : Cs)).s 22 else (coF ws rs (ws.length - s.p + 1) (⟨s, ns, m, wf, op⟩ : Cs)).s).p : Nat) : Int)]), some (.lst 4 ws.length (fun zz => tkc (ws.getD zz tok0))), some (.lst 1 rs.length (fun zz => [.str (rs.getD zz [])])), none, none, some (.row 88 5 (((setF 5 (coF ws rs (ws.length - s.p + 1) (⟨s, ns, m, wf, op⟩ : Cs)).wf (coF ws rs (ws.length - s.p + 1) (⟨s, ns, m, wf, op⟩ : Cs)).m (coF ws rs (ws.length - s.p + 1) (⟨s, ns, m, wf, op⟩ : Cs)).ns).2).length) 0 (fun zz => cc (((setF 5 (coF ws rs (ws.length - s.p + 1) (⟨s, ns, m, wf, op⟩ : Cs)).wf (coF ws rs (ws.length - s.p + 1) (⟨s, ns, m, wf, op⟩ : Cs)).m (coF ws rs (ws.length - s.p + 1) (⟨s, ns, m, wf, op⟩ : Cs)).ns).2).getD zz Cn.z))), some (.row 3 1 ((setF 5 (coF ws rs (ws.length - s.p + 1) (⟨s, ns, m, wf, op⟩ : Cs)).wf (coF ws rs (ws.length - s.p + 1) (⟨s, ns, m, wf, op⟩ : Cs)).m (coF ws rs (ws.length - s.p + 1) (⟨s, ns, m, wf, op⟩ : Cs)).ns).1) 0 (fun zz => [.int .i64 (((coF ws rs (ws.length - s.p + 1) (⟨s, ns, m, wf, op⟩ : Cs)).wf) zz)]))]) :=
 enterM (n := 24) (by kernel_rfl) Tryz.func48 rfl rfl rfl fun G w a h0 A => N hX 4 A rfl rfl fun A => have A := sy_sayD A 2 (.bool true) rfl (fun _ => rfl); N hX 3 A rfl rfl fun A => have A := (A.cut [0, 2] rfl).mx (T' := [(0, .ptr 0 0), (2, .bool true)]) (H' := [some (.blk [.ptr 1 0, .sl 4 rs.length cr, .sl 7 ns.length 0, .sl 8 m 0, .int .i64 op]), some (.blk [.ptr 2 0, .int .i64 s.e, .int .i64 s.a]), some (.blk [.sl 3 ws.length cw, .int .i64 ((s.p : Nat) : Int)]), some (.lst 4 ws.length (fun zz => tkc (ws.getD zz tok0))), some (.lst 1 rs.length (fun zz => [.str (rs.getD zz [])])), none, none, some (.row 88 5 ns.length 0 (fun zz => cc (ns.getD zz Cn.z))), some (.row 3 1 m 0 (fun zz => [.int .i64 (wf zz)]))]) 7 [5, 6] [true, true, true, true, true, false, false, true, true] rfl rfl rfl rfl rfl (by simp only [List.length_cons, List.length_nil] at h0; omega); LOOP2 (fun (z : Cs) (mr : Bool) => [(0, .ptr 0 0), (2, .bool mr)]) (fun (z : Cs) (mr : Bool) => [some (.blk [.ptr 1 0, .sl 4 rs.length cr, .sl 7 z.ns.length 0, .sl 8 z.m 0, .int .i64 z.op]), some (.blk [.ptr 2 0, .int .i64 z.s.e, .int .i64 z.s.a]), some (.blk [.sl 3 ws.length cw, .int .i64 ((z.s.p : Nat) : Int)]), some (.lst 4 ws.length (fun zz => tkc (ws.getD zz tok0))), some (.lst 1 rs.length (fun zz => [.str (rs.getD zz [])])), none, none, some (.row 88 5 z.ns.length 0 (fun zz => cc (z.ns.getD zz Cn.z))), some (.row 3 1 z.m 0 (fun zz => [.int .i64 (z.wf zz)]))]) (fun (z : Cs) (mr : Bool) => CoI ws rs (⟨s, ns, m, wf, op⟩ : Cs) z mr) (fun (z : Cs) (mr : Bool) => (bif mr then ws.length - z.s.p + 1 else 0)) (⟨s, ns, m, wf, op⟩ : Cs) true (CoI.i0 hk hop hsm) ((A.cut [0, 2] rfl).trunc 9 rfl rfl rfl (by simp only [List.length_cons, List.length_nil] at h0; omega)) fun z mr hI {G a w} A => N hX 6 A rfl rfl fun A => fork 3 A rfl
   (fun h1 A => N hX 8 A rfl rfl fun A => CALL1 [0, 1, 2, 3, 4, 7, 8] (begun_ ws cw rs cr z.s z.ns z.m z.wf z.op hI.le (by obtain ⟨b1, b2, b3, b4⟩ := begF_ok (ws := ws) (ws.length - z.s.p + 1) (⟨z.s.p, z.m, z.wf, z.op⟩ : Bg) hI.le hI.op; have q0 := hI.sm h1; have b3 : (begF ws (ws.length - z.s.p + 1) (⟨z.s.p, z.m, z.wf, z.op⟩ : Bg)).m + z.s.p ≤ z.m + (begF ws (ws.length - z.s.p + 1) (⟨z.s.p, z.m, z.wf, z.op⟩ : Bg)).p := b3; have b2 : z.s.p ≤ (begF ws (ws.length - z.s.p + 1) (⟨z.s.p, z.m, z.wf, z.op⟩ : Bg)).p := b2; have qb := brk_le z.wf z.m; have qo := hI.op; have qc := brk_le (begF ws (ws.length - z.s.p + 1) (⟨z.s.p, z.m, z.wf, z.op⟩ : Bg)).wf (begF ws (ws.length - z.s.p + 1) (⟨z.s.p, z.m, z.wf, z.op⟩ : Bg)).m; omega) hw (by obtain ⟨b1, b2, b3, b4⟩ := begF_ok (ws := ws) (ws.length - z.s.p + 1) (⟨z.s.p, z.m, z.wf, z.op⟩ : Bg) hI.le hI.op; have q0 := hI.sm h1; have b3 : (begF ws (ws.length - z.s.p + 1) (⟨z.s.p, z.m, z.wf, z.op⟩ : Bg)).m + z.s.p ≤ z.m + (begF ws (ws.length - z.s.p + 1) (⟨z.s.p, z.m, z.wf, z.op⟩ : Bg)).p := b3; have b2 : z.s.p ≤ (begF ws (ws.length - z.s.p + 1) (⟨z.s.p, z.m, z.wf, z.op⟩ : Bg)).p := b2; have qb := brk_le z.wf z.m; have qo := hI.op; have qc := brk_le (begF ws (ws.length - z.s.p + 1) (⟨z.s.p, z.m, z.wf, z.op⟩ : Bg)).wf (begF ws (ws.length - z.s.p + 1) (⟨z.s.p, z.m, z.wf, z.op⟩ : Bg)).m; have l1 : (leA ws (⟨(begF ws (ws.length - z.s.p + 1) (⟨z.s.p, z.m, z.wf, z.op⟩ : Bg)).p, z.s.e, z.s.a⟩ : As) rs).p ≤ ws.length := leA_le (s := (⟨(begF ws (ws.length - z.s.p + 1) (⟨z.s.p, z.m, z.wf, z.op⟩ : Bg)).p, z.s.e, z.s.a⟩ : As)) b1; have l2 : (begF ws (ws.length - z.s.p + 1) (⟨z.s.p, z.m, z.wf, z.op⟩ : Bg)).p ≤ (leA ws (⟨(begF ws (ws.length - z.s.p + 1) (⟨z.s.p, z.m, z.wf, z.op⟩ : Bg)).p, z.s.e, z.s.a⟩ : As) rs).p := leA_ge (s := (⟨(begF ws (ws.length - z.s.p + 1) (⟨z.s.p, z.m, z.wf, z.op⟩ : Bg)).p, z.s.e, z.s.a⟩ : As)); have ln : (z.ns ++ [leC ws (⟨(begF ws (ws.length - z.s.p + 1) (⟨z.s.p, z.m, z.wf, z.op⟩ : Bg)).p, z.s.e, z.s.a⟩ : As) rs]).length = z.ns.length + 1 := (by rw [List.length_append]; rfl); obtain ⟨e1, e2, e3, e4⟩ := endF_ok (ws := ws) (wf := (begF ws (ws.length - z.s.p + 1) (⟨z.s.p, z.m, z.wf, z.op⟩ : Bg)).wf) (ws.length - (leA ws (⟨(begF ws (ws.length - z.s.p + 1) (⟨z.s.p, z.m, z.wf, z.op⟩ : Bg)).p, z.s.e, z.s.a⟩ : As) rs).p + 1) (⟨(leA ws (⟨(begF ws (ws.length - z.s.p + 1) (⟨z.s.p, z.m, z.wf, z.op⟩ : Bg)).p, z.s.e, z.s.a⟩ : As) rs).p, (z.ns ++ [leC ws (⟨(begF ws (ws.length - z.s.p + 1) (⟨z.s.p, z.m, z.wf, z.op⟩ : Bg)).p, z.s.e, z.s.a⟩ : As) rs]), (begF ws (ws.length - z.s.p + 1) (⟨z.s.p, z.m, z.wf, z.op⟩ : Bg)).m, (begF ws (ws.length - z.s.p + 1) (⟨z.s.p, z.m, z.wf, z.op⟩ : Bg)).op⟩ : Eg) l1 b4; have e3 : (endF ws ((begF ws (ws.length - z.s.p + 1) (⟨z.s.p, z.m, z.wf, z.op⟩ : Bg)).wf) (ws.length - (leA ws (⟨(begF ws (ws.length - z.s.p + 1) (⟨z.s.p, z.m, z.wf, z.op⟩ : Bg)).p, z.s.e, z.s.a⟩ : As) rs).p + 1) (⟨(leA ws (⟨(begF ws (ws.length - z.s.p + 1) (⟨z.s.p, z.m, z.wf, z.op⟩ : Bg)).p, z.s.e, z.s.a⟩ : As) rs).p, (z.ns ++ [leC ws (⟨(begF ws (ws.length - z.s.p + 1) (⟨z.s.p, z.m, z.wf, z.op⟩ : Bg)).p, z.s.e, z.s.a⟩ : As) rs]), (begF ws (ws.length - z.s.p + 1) (⟨z.s.p, z.m, z.wf, z.op⟩ : Bg)).m, (begF ws (ws.length - z.s.p + 1) (⟨z.s.p, z.m, z.wf, z.op⟩ : Bg)).op⟩ : Eg)).ns.length + (endF ws ((begF ws (ws.length - z.s.p + 1) (⟨z.s.p, z.m, z.wf, z.op⟩ : Bg)).wf) (ws.length - (leA ws (⟨(begF ws (ws.length - z.s.p + 1) (⟨z.s.p, z.m, z.wf, z.op⟩ : Bg)).p, z.s.e, z.s.a⟩ : As) rs).p + 1) (⟨(leA ws (⟨(begF ws (ws.length - z.s.p + 1) (⟨z.s.p, z.m, z.wf, z.op⟩ : Bg)).p, z.s.e, z.s.a⟩ : As) rs).p, (z.ns ++ [leC ws (⟨(begF ws (ws.length - z.s.p + 1) (⟨z.s.p, z.m, z.wf, z.op⟩ : Bg)).p, z.s.e, z.s.a⟩ : As) rs]), (begF ws (ws.length - z.s.p + 1) (⟨z.s.p, z.m, z.wf, z.op⟩ : Bg)).m, (begF ws (ws.length - z.s.p + 1) (⟨z.s.p, z.m, z.wf, z.op⟩ : Bg)).op⟩ : Eg)).m ≤ (z.ns ++ [leC ws (⟨(begF ws (ws.length - z.s.p + 1) (⟨z.s.p, z.m, z.wf, z.op⟩ : Bg)).p, z.s.e, z.s.a⟩ : As) rs]).length + (begF ws (ws.length - z.s.p + 1) (⟨z.s.p, z.m, z.wf, z.op⟩ : Bg)).m := e3; omega) (by obtain ⟨b1, b2, b3, b4⟩ := begF_ok (ws := ws) (ws.length - z.s.p + 1) (⟨z.s.p, z.m, z.wf, z.op⟩ : Bg) hI.le hI.op; have q0 := hI.sm h1; have b3 : (begF ws (ws.length - z.s.p + 1) (⟨z.s.p, z.m, z.wf, z.op⟩ : Bg)).m + z.s.p ≤ z.m + (begF ws (ws.length - z.s.p + 1) (⟨z.s.p, z.m, z.wf, z.op⟩ : Bg)).p := b3; have b2 : z.s.p ≤ (begF ws (ws.length - z.s.p + 1) (⟨z.s.p, z.m, z.wf, z.op⟩ : Bg)).p := b2; have qb := brk_le z.wf z.m; have qo := hI.op; have qc := brk_le (begF ws (ws.length - z.s.p + 1) (⟨z.s.p, z.m, z.wf, z.op⟩ : Bg)).wf (begF ws (ws.length - z.s.p + 1) (⟨z.s.p, z.m, z.wf, z.op⟩ : Bg)).m; have l1 : (leA ws (⟨(begF ws (ws.length - z.s.p + 1) (⟨z.s.p, z.m, z.wf, z.op⟩ : Bg)).p, z.s.e, z.s.a⟩ : As) rs).p ≤ ws.length := leA_le (s := (⟨(begF ws (ws.length - z.s.p + 1) (⟨z.s.p, z.m, z.wf, z.op⟩ : Bg)).p, z.s.e, z.s.a⟩ : As)) b1; have l2 : (begF ws (ws.length - z.s.p + 1) (⟨z.s.p, z.m, z.wf, z.op⟩ : Bg)).p ≤ (leA ws (⟨(begF ws (ws.length - z.s.p + 1) (⟨z.s.p, z.m, z.wf, z.op⟩ : Bg)).p, z.s.e, z.s.a⟩ : As) rs).p := leA_ge (s := (⟨(begF ws (ws.length - z.s.p + 1) (⟨z.s.p, z.m, z.wf, z.op⟩ : Bg)).p, z.s.e, z.s.a⟩ : As)); have ln : (z.ns ++ [leC ws (⟨(begF ws (ws.length - z.s.p + 1) (⟨z.s.p, z.m, z.wf, z.op⟩ : Bg)).p, z.s.e, z.s.a⟩ : As) rs]).length = z.ns.length + 1 := (by rw [List.length_append]; rfl); obtain ⟨e1, e2, e3, e4⟩ := endF_ok (ws := ws) (wf := (begF ws (ws.length - z.s.p + 1) (⟨z.s.p, z.m, z.wf, z.op⟩ : Bg)).wf) (ws.length - (leA ws (⟨(begF ws (ws.length - z.s.p + 1) (⟨z.s.p, z.m, z.wf, z.op⟩ : Bg)).p, z.s.e, z.s.a⟩ : As) rs).p + 1) (⟨(leA ws (⟨(begF ws (ws.length - z.s.p + 1) (⟨z.s.p, z.m, z.wf, z.op⟩ : Bg)).p, z.s.e, z.s.a⟩ : As) rs).p, (z.ns ++ [leC ws (⟨(begF ws (ws.length - z.s.p + 1) (⟨z.s.p, z.m, z.wf, z.op⟩ : Bg)).p, z.s.e, z.s.a⟩ : As) rs]), (begF ws (ws.length - z.s.p + 1) (⟨z.s.p, z.m, z.wf, z.op⟩ : Bg)).m, (begF ws (ws.length - z.s.p + 1) (⟨z.s.p, z.m, z.wf, z.op⟩ : Bg)).op⟩ : Eg) l1 b4; have e3 : (endF ws ((begF ws (ws.length - z.s.p + 1) (⟨z.s.p, z.m, z.wf, z.op⟩ : Bg)).wf) (ws.length - (leA ws (⟨(begF ws (ws.length - z.s.p + 1) (⟨z.s.p, z.m, z.wf, z.op⟩ : Bg)).p, z.s.e, z.s.a⟩ : As) rs).p + 1) (⟨(leA ws (⟨(begF ws (ws.length - z.s.p + 1) (⟨z.s.p, z.m, z.wf, z.op⟩ : Bg)).p, z.s.e, z.s.a⟩ : As) rs).p, (z.ns ++ [leC ws (⟨(begF ws (ws.length - z.s.p + 1) (⟨z.s.p, z.m, z.wf, z.op⟩ : Bg)).p, z.s.e, z.s.a⟩ : As) rs]), (begF ws (ws.length - z.s.p + 1) (⟨z.s.p, z.m, z.wf, z.op⟩ : Bg)).m, (begF ws (ws.length - z.s.p + 1) (⟨z.s.p, z.m, z.wf, z.op⟩ : Bg)).op⟩ : Eg)).ns.length + (endF ws ((begF ws (ws.length - z.s.p + 1) (⟨z.s.p, z.m, z.wf, z.op⟩ : Bg)).wf) (ws.length - (leA ws (⟨(begF ws (ws.length - z.s.p + 1) (⟨z.s.p, z.m, z.wf, z.op⟩ : Bg)).p, z.s.e, z.s.a⟩ : As) rs).p + 1) (⟨(leA ws (⟨(begF ws (ws.length - z.s.p + 1) (⟨z.s.p, z.m, z.wf, z.op⟩ : Bg)).p, z.s.e, z.s.a⟩ : As) rs).p, (z.ns ++ [leC ws (⟨(begF ws (ws.length - z.s.p + 1) (⟨z.s.p, z.m, z.wf, z.op⟩ : Bg)).p, z.s.e, z.s.a⟩ : As) rs]), (begF ws (ws.length - z.s.p + 1) (⟨z.s.p, z.m, z.wf, z.op⟩ : Bg)).m, (begF ws (ws.length - z.s.p + 1) (⟨z.s.p, z.m, z.wf, z.op⟩ : Bg)).op⟩ : Eg)).m ≤ (z.ns ++ [leC ws (⟨(begF ws (ws.length - z.s.p + 1) (⟨z.s.p, z.m, z.wf, z.op⟩ : Bg)).p, z.s.e, z.s.a⟩ : As) rs]).length + (begF ws (ws.length - z.s.p + 1) (⟨z.s.p, z.m, z.wf, z.op⟩ : Bg)).m := e3; omega) (by obtain ⟨b1, b2, b3, b4⟩ := begF_ok (ws := ws) (ws.length - z.s.p + 1) (⟨z.s.p, z.m, z.wf, z.op⟩ : Bg) hI.le hI.op; have q0 := hI.sm h1; have b3 : (begF ws (ws.length - z.s.p + 1) (⟨z.s.p, z.m, z.wf, z.op⟩ : Bg)).m + z.s.p ≤ z.m + (begF ws (ws.length - z.s.p + 1) (⟨z.s.p, z.m, z.wf, z.op⟩ : Bg)).p := b3; have b2 : z.s.p ≤ (begF ws (ws.length - z.s.p + 1) (⟨z.s.p, z.m, z.wf, z.op⟩ : Bg)).p := b2; have qb := brk_le z.wf z.m; have qo := hI.op; have qc := brk_le (begF ws (ws.length - z.s.p + 1) (⟨z.s.p, z.m, z.wf, z.op⟩ : Bg)).wf (begF ws (ws.length - z.s.p + 1) (⟨z.s.p, z.m, z.wf, z.op⟩ : Bg)).m; omega)) A rfl rfl rfl rfl rfl rfl rfl fun A => N hX 5 A rfl rfl fun A => CALL1 [0, 1, 2, 3, 4, 9, 10] (leaf_ ws cw rs cr (⟨(begF ws (ws.length - z.s.p + 1) (⟨z.s.p, z.m, z.wf, z.op⟩ : Bg)).p, z.s.e, z.s.a⟩ : As) z.ns ((begF ws (ws.length - z.s.p + 1) (⟨z.s.p, z.m, z.wf, z.op⟩ : Bg)).m) ((begF ws (ws.length - z.s.p + 1) (⟨z.s.p, z.m, z.wf, z.op⟩ : Bg)).wf) ((begF ws (ws.length - z.s.p + 1) (⟨z.s.p, z.m, z.wf, z.op⟩ : Bg)).op) (by obtain ⟨b1, b2, b3, b4⟩ := begF_ok (ws := ws) (ws.length - z.s.p + 1) (⟨z.s.p, z.m, z.wf, z.op⟩ : Bg) hI.le hI.op; have q0 := hI.sm h1; have b3 : (begF ws (ws.length - z.s.p + 1) (⟨z.s.p, z.m, z.wf, z.op⟩ : Bg)).m + z.s.p ≤ z.m + (begF ws (ws.length - z.s.p + 1) (⟨z.s.p, z.m, z.wf, z.op⟩ : Bg)).p := b3; have b2 : z.s.p ≤ (begF ws (ws.length - z.s.p + 1) (⟨z.s.p, z.m, z.wf, z.op⟩ : Bg)).p := b2; have qb := brk_le z.wf z.m; have qo := hI.op; have qc := brk_le (begF ws (ws.length - z.s.p + 1) (⟨z.s.p, z.m, z.wf, z.op⟩ : Bg)).wf (begF ws (ws.length - z.s.p + 1) (⟨z.s.p, z.m, z.wf, z.op⟩ : Bg)).m; exact b1) (by obtain ⟨b1, b2, b3, b4⟩ := begF_ok (ws := ws) (ws.length - z.s.p + 1) (⟨z.s.p, z.m, z.wf, z.op⟩ : Bg) hI.le hI.op; have q0 := hI.sm h1; have b3 : (begF ws (ws.length - z.s.p + 1) (⟨z.s.p, z.m, z.wf, z.op⟩ : Bg)).m + z.s.p ≤ z.m + (begF ws (ws.length - z.s.p + 1) (⟨z.s.p, z.m, z.wf, z.op⟩ : Bg)).p := b3; have b2 : z.s.p ≤ (begF ws (ws.length - z.s.p + 1) (⟨z.s.p, z.m, z.wf, z.op⟩ : Bg)).p := b2; have qb := brk_le z.wf z.m; have qo := hI.op; have qc := brk_le (begF ws (ws.length - z.s.p + 1) (⟨z.s.p, z.m, z.wf, z.op⟩ : Bg)).wf (begF ws (ws.length - z.s.p + 1) (⟨z.s.p, z.m, z.wf, z.op⟩ : Bg)).m; omega) hw (by obtain ⟨b1, b2, b3, b4⟩ := begF_ok (ws := ws) (ws.length - z.s.p + 1) (⟨z.s.p, z.m, z.wf, z.op⟩ : Bg) hI.le hI.op; have q0 := hI.sm h1; have b3 : (begF ws (ws.length - z.s.p + 1) (⟨z.s.p, z.m, z.wf, z.op⟩ : Bg)).m + z.s.p ≤ z.m + (begF ws (ws.length - z.s.p + 1) (⟨z.s.p, z.m, z.wf, z.op⟩ : Bg)).p := b3; have b2 : z.s.p ≤ (begF ws (ws.length - z.s.p + 1) (⟨z.s.p, z.m, z.wf, z.op⟩ : Bg)).p := b2; have qb := brk_le z.wf z.m; have qo := hI.op; have qc := brk_le (begF ws (ws.length - z.s.p + 1) (⟨z.s.p, z.m, z.wf, z.op⟩ : Bg)).wf (begF ws (ws.length - z.s.p + 1) (⟨z.s.p, z.m, z.wf, z.op⟩ : Bg)).m; have l1 : (leA ws (⟨(begF ws (ws.length - z.s.p + 1) (⟨z.s.p, z.m, z.wf, z.op⟩ : Bg)).p, z.s.e, z.s.a⟩ : As) rs).p ≤ ws.length := leA_le (s := (⟨(begF ws (ws.length - z.s.p + 1) (⟨z.s.p, z.m, z.wf, z.op⟩ : Bg)).p, z.s.e, z.s.a⟩ : As)) b1; have l2 : (begF ws (ws.length - z.s.p + 1) (⟨z.s.p, z.m, z.wf, z.op⟩ : Bg)).p ≤ (leA ws (⟨(begF ws (ws.length - z.s.p + 1) (⟨z.s.p, z.m, z.wf, z.op⟩ : Bg)).p, z.s.e, z.s.a⟩ : As) rs).p := leA_ge (s := (⟨(begF ws (ws.length - z.s.p + 1) (⟨z.s.p, z.m, z.wf, z.op⟩ : Bg)).p, z.s.e, z.s.a⟩ : As)); have ln : (z.ns ++ [leC ws (⟨(begF ws (ws.length - z.s.p + 1) (⟨z.s.p, z.m, z.wf, z.op⟩ : Bg)).p, z.s.e, z.s.a⟩ : As) rs]).length = z.ns.length + 1 := (by rw [List.length_append]; rfl); obtain ⟨e1, e2, e3, e4⟩ := endF_ok (ws := ws) (wf := (begF ws (ws.length - z.s.p + 1) (⟨z.s.p, z.m, z.wf, z.op⟩ : Bg)).wf) (ws.length - (leA ws (⟨(begF ws (ws.length - z.s.p + 1) (⟨z.s.p, z.m, z.wf, z.op⟩ : Bg)).p, z.s.e, z.s.a⟩ : As) rs).p + 1) (⟨(leA ws (⟨(begF ws (ws.length - z.s.p + 1) (⟨z.s.p, z.m, z.wf, z.op⟩ : Bg)).p, z.s.e, z.s.a⟩ : As) rs).p, (z.ns ++ [leC ws (⟨(begF ws (ws.length - z.s.p + 1) (⟨z.s.p, z.m, z.wf, z.op⟩ : Bg)).p, z.s.e, z.s.a⟩ : As) rs]), (begF ws (ws.length - z.s.p + 1) (⟨z.s.p, z.m, z.wf, z.op⟩ : Bg)).m, (begF ws (ws.length - z.s.p + 1) (⟨z.s.p, z.m, z.wf, z.op⟩ : Bg)).op⟩ : Eg) l1 b4; have e3 : (endF ws ((begF ws (ws.length - z.s.p + 1) (⟨z.s.p, z.m, z.wf, z.op⟩ : Bg)).wf) (ws.length - (leA ws (⟨(begF ws (ws.length - z.s.p + 1) (⟨z.s.p, z.m, z.wf, z.op⟩ : Bg)).p, z.s.e, z.s.a⟩ : As) rs).p + 1) (⟨(leA ws (⟨(begF ws (ws.length - z.s.p + 1) (⟨z.s.p, z.m, z.wf, z.op⟩ : Bg)).p, z.s.e, z.s.a⟩ : As) rs).p, (z.ns ++ [leC ws (⟨(begF ws (ws.length - z.s.p + 1) (⟨z.s.p, z.m, z.wf, z.op⟩ : Bg)).p, z.s.e, z.s.a⟩ : As) rs]), (begF ws (ws.length - z.s.p + 1) (⟨z.s.p, z.m, z.wf, z.op⟩ : Bg)).m, (begF ws (ws.length - z.s.p + 1) (⟨z.s.p, z.m, z.wf, z.op⟩ : Bg)).op⟩ : Eg)).ns.length + (endF ws ((begF ws (ws.length - z.s.p + 1) (⟨z.s.p, z.m, z.wf, z.op⟩ : Bg)).wf) (ws.length - (leA ws (⟨(begF ws (ws.length - z.s.p + 1) (⟨z.s.p, z.m, z.wf, z.op⟩ : Bg)).p, z.s.e, z.s.a⟩ : As) rs).p + 1) (⟨(leA ws (⟨(begF ws (ws.length - z.s.p + 1) (⟨z.s.p, z.m, z.wf, z.op⟩ : Bg)).p, z.s.e, z.s.a⟩ : As) rs).p, (z.ns ++ [leC ws (⟨(begF ws (ws.length - z.s.p + 1) (⟨z.s.p, z.m, z.wf, z.op⟩ : Bg)).p, z.s.e, z.s.a⟩ : As) rs]), (begF ws (ws.length - z.s.p + 1) (⟨z.s.p, z.m, z.wf, z.op⟩ : Bg)).m, (begF ws (ws.length - z.s.p + 1) (⟨z.s.p, z.m, z.wf, z.op⟩ : Bg)).op⟩ : Eg)).m ≤ (z.ns ++ [leC ws (⟨(begF ws (ws.length - z.s.p + 1) (⟨z.s.p, z.m, z.wf, z.op⟩ : Bg)).p, z.s.e, z.s.a⟩ : As) rs]).length + (begF ws (ws.length - z.s.p + 1) (⟨z.s.p, z.m, z.wf, z.op⟩ : Bg)).m := e3; omega) (by obtain ⟨b1, b2, b3, b4⟩ := begF_ok (ws := ws) (ws.length - z.s.p + 1) (⟨z.s.p, z.m, z.wf, z.op⟩ : Bg) hI.le hI.op; have q0 := hI.sm h1; have b3 : (begF ws (ws.length - z.s.p + 1) (⟨z.s.p, z.m, z.wf, z.op⟩ : Bg)).m + z.s.p ≤ z.m + (begF ws (ws.length - z.s.p + 1) (⟨z.s.p, z.m, z.wf, z.op⟩ : Bg)).p := b3; have b2 : z.s.p ≤ (begF ws (ws.length - z.s.p + 1) (⟨z.s.p, z.m, z.wf, z.op⟩ : Bg)).p := b2; have qb := brk_le z.wf z.m; have qo := hI.op; have qc := brk_le (begF ws (ws.length - z.s.p + 1) (⟨z.s.p, z.m, z.wf, z.op⟩ : Bg)).wf (begF ws (ws.length - z.s.p + 1) (⟨z.s.p, z.m, z.wf, z.op⟩ : Bg)).m; have l1 : (leA ws (⟨(begF ws (ws.length - z.s.p + 1) (⟨z.s.p, z.m, z.wf, z.op⟩ : Bg)).p, z.s.e, z.s.a⟩ : As) rs).p ≤ ws.length := leA_le (s := (⟨(begF ws (ws.length - z.s.p + 1) (⟨z.s.p, z.m, z.wf, z.op⟩ : Bg)).p, z.s.e, z.s.a⟩ : As)) b1; have l2 : (begF ws (ws.length - z.s.p + 1) (⟨z.s.p, z.m, z.wf, z.op⟩ : Bg)).p ≤ (leA ws (⟨(begF ws (ws.length - z.s.p + 1) (⟨z.s.p, z.m, z.wf, z.op⟩ : Bg)).p, z.s.e, z.s.a⟩ : As) rs).p := leA_ge (s := (⟨(begF ws (ws.length - z.s.p + 1) (⟨z.s.p, z.m, z.wf, z.op⟩ : Bg)).p, z.s.e, z.s.a⟩ : As)); have ln : (z.ns ++ [leC ws (⟨(begF ws (ws.length - z.s.p + 1) (⟨z.s.p, z.m, z.wf, z.op⟩ : Bg)).p, z.s.e, z.s.a⟩ : As) rs]).length = z.ns.length + 1 := (by rw [List.length_append]; rfl); obtain ⟨e1, e2, e3, e4⟩ := endF_ok (ws := ws) (wf := (begF ws (ws.length - z.s.p + 1) (⟨z.s.p, z.m, z.wf, z.op⟩ : Bg)).wf) (ws.length - (leA ws (⟨(begF ws (ws.length - z.s.p + 1) (⟨z.s.p, z.m, z.wf, z.op⟩ : Bg)).p, z.s.e, z.s.a⟩ : As) rs).p + 1) (⟨(leA ws (⟨(begF ws (ws.length - z.s.p + 1) (⟨z.s.p, z.m, z.wf, z.op⟩ : Bg)).p, z.s.e, z.s.a⟩ : As) rs).p, (z.ns ++ [leC ws (⟨(begF ws (ws.length - z.s.p + 1) (⟨z.s.p, z.m, z.wf, z.op⟩ : Bg)).p, z.s.e, z.s.a⟩ : As) rs]), (begF ws (ws.length - z.s.p + 1) (⟨z.s.p, z.m, z.wf, z.op⟩ : Bg)).m, (begF ws (ws.length - z.s.p + 1) (⟨z.s.p, z.m, z.wf, z.op⟩ : Bg)).op⟩ : Eg) l1 b4; have e3 : (endF ws ((begF ws (ws.length - z.s.p + 1) (⟨z.s.p, z.m, z.wf, z.op⟩ : Bg)).wf) (ws.length - (leA ws (⟨(begF ws (ws.length - z.s.p + 1) (⟨z.s.p, z.m, z.wf, z.op⟩ : Bg)).p, z.s.e, z.s.a⟩ : As) rs).p + 1) (⟨(leA ws (⟨(begF ws (ws.length - z.s.p + 1) (⟨z.s.p, z.m, z.wf, z.op⟩ : Bg)).p, z.s.e, z.s.a⟩ : As) rs).p, (z.ns ++ [leC ws (⟨(begF ws (ws.length - z.s.p + 1) (⟨z.s.p, z.m, z.wf, z.op⟩ : Bg)).p, z.s.e, z.s.a⟩ : As) rs]), (begF ws (ws.length - z.s.p + 1) (⟨z.s.p, z.m, z.wf, z.op⟩ : Bg)).m, (begF ws (ws.length - z.s.p + 1) (⟨z.s.p, z.m, z.wf, z.op⟩ : Bg)).op⟩ : Eg)).ns.length + (endF ws ((begF ws (ws.length - z.s.p + 1) (⟨z.s.p, z.m, z.wf, z.op⟩ : Bg)).wf) (ws.length - (leA ws (⟨(begF ws (ws.length - z.s.p + 1) (⟨z.s.p, z.m, z.wf, z.op⟩ : Bg)).p, z.s.e, z.s.a⟩ : As) rs).p + 1) (⟨(leA ws (⟨(begF ws (ws.length - z.s.p + 1) (⟨z.s.p, z.m, z.wf, z.op⟩ : Bg)).p, z.s.e, z.s.a⟩ : As) rs).p, (z.ns ++ [leC ws (⟨(begF ws (ws.length - z.s.p + 1) (⟨z.s.p, z.m, z.wf, z.op⟩ : Bg)).p, z.s.e, z.s.a⟩ : As) rs]), (begF ws (ws.length - z.s.p + 1) (⟨z.s.p, z.m, z.wf, z.op⟩ : Bg)).m, (begF ws (ws.length - z.s.p + 1) (⟨z.s.p, z.m, z.wf, z.op⟩ : Bg)).op⟩ : Eg)).m ≤ (z.ns ++ [leC ws (⟨(begF ws (ws.length - z.s.p + 1) (⟨z.s.p, z.m, z.wf, z.op⟩ : Bg)).p, z.s.e, z.s.a⟩ : As) rs]).length + (begF ws (ws.length - z.s.p + 1) (⟨z.s.p, z.m, z.wf, z.op⟩ : Bg)).m := e3; omega) hrs) A rfl rfl rfl rfl rfl rfl rfl fun A => N hX 4 A rfl rfl fun A => CALL1 [0, 1, 2, 3, 4, 11, 12] (ended_ ws cw rs cr (leA ws (⟨(begF ws (ws.length - z.s.p + 1) (⟨z.s.p, z.m, z.wf, z.op⟩ : Bg)).p, z.s.e, z.s.a⟩ : As) rs) (z.ns ++ [leC ws (⟨(begF ws (ws.length - z.s.p + 1) (⟨z.s.p, z.m, z.wf, z.op⟩ : Bg)).p, z.s.e, z.s.a⟩ : As) rs]) ((begF ws (ws.length - z.s.p + 1) (⟨z.s.p, z.m, z.wf, z.op⟩ : Bg)).m) ((begF ws (ws.length - z.s.p + 1) (⟨z.s.p, z.m, z.wf, z.op⟩ : Bg)).wf) ((begF ws (ws.length - z.s.p + 1) (⟨z.s.p, z.m, z.wf, z.op⟩ : Bg)).op) (by obtain ⟨b1, b2, b3, b4⟩ := begF_ok (ws := ws) (ws.length - z.s.p + 1) (⟨z.s.p, z.m, z.wf, z.op⟩ : Bg) hI.le hI.op; have q0 := hI.sm h1; have b3 : (begF ws (ws.length - z.s.p + 1) (⟨z.s.p, z.m, z.wf, z.op⟩ : Bg)).m + z.s.p ≤ z.m + (begF ws (ws.length - z.s.p + 1) (⟨z.s.p, z.m, z.wf, z.op⟩ : Bg)).p := b3; have b2 : z.s.p ≤ (begF ws (ws.length - z.s.p + 1) (⟨z.s.p, z.m, z.wf, z.op⟩ : Bg)).p := b2; have qb := brk_le z.wf z.m; have qo := hI.op; have qc := brk_le (begF ws (ws.length - z.s.p + 1) (⟨z.s.p, z.m, z.wf, z.op⟩ : Bg)).wf (begF ws (ws.length - z.s.p + 1) (⟨z.s.p, z.m, z.wf, z.op⟩ : Bg)).m; have l1 : (leA ws (⟨(begF ws (ws.length - z.s.p + 1) (⟨z.s.p, z.m, z.wf, z.op⟩ : Bg)).p, z.s.e, z.s.a⟩ : As) rs).p ≤ ws.length := leA_le (s := (⟨(begF ws (ws.length - z.s.p + 1) (⟨z.s.p, z.m, z.wf, z.op⟩ : Bg)).p, z.s.e, z.s.a⟩ : As)) b1; have l2 : (begF ws (ws.length - z.s.p + 1) (⟨z.s.p, z.m, z.wf, z.op⟩ : Bg)).p ≤ (leA ws (⟨(begF ws (ws.length - z.s.p + 1) (⟨z.s.p, z.m, z.wf, z.op⟩ : Bg)).p, z.s.e, z.s.a⟩ : As) rs).p := leA_ge (s := (⟨(begF ws (ws.length - z.s.p + 1) (⟨z.s.p, z.m, z.wf, z.op⟩ : Bg)).p, z.s.e, z.s.a⟩ : As)); exact l1) (by obtain ⟨b1, b2, b3, b4⟩ := begF_ok (ws := ws) (ws.length - z.s.p + 1) (⟨z.s.p, z.m, z.wf, z.op⟩ : Bg) hI.le hI.op; have q0 := hI.sm h1; have b3 : (begF ws (ws.length - z.s.p + 1) (⟨z.s.p, z.m, z.wf, z.op⟩ : Bg)).m + z.s.p ≤ z.m + (begF ws (ws.length - z.s.p + 1) (⟨z.s.p, z.m, z.wf, z.op⟩ : Bg)).p := b3; have b2 : z.s.p ≤ (begF ws (ws.length - z.s.p + 1) (⟨z.s.p, z.m, z.wf, z.op⟩ : Bg)).p := b2; have qb := brk_le z.wf z.m; have qo := hI.op; have qc := brk_le (begF ws (ws.length - z.s.p + 1) (⟨z.s.p, z.m, z.wf, z.op⟩ : Bg)).wf (begF ws (ws.length - z.s.p + 1) (⟨z.s.p, z.m, z.wf, z.op⟩ : Bg)).m; omega) hw (by obtain ⟨b1, b2, b3, b4⟩ := begF_ok (ws := ws) (ws.length - z.s.p + 1) (⟨z.s.p, z.m, z.wf, z.op⟩ : Bg) hI.le hI.op; have q0 := hI.sm h1; have b3 : (begF ws (ws.length - z.s.p + 1) (⟨z.s.p, z.m, z.wf, z.op⟩ : Bg)).m + z.s.p ≤ z.m + (begF ws (ws.length - z.s.p + 1) (⟨z.s.p, z.m, z.wf, z.op⟩ : Bg)).p := b3; have b2 : z.s.p ≤ (begF ws (ws.length - z.s.p + 1) (⟨z.s.p, z.m, z.wf, z.op⟩ : Bg)).p := b2; have qb := brk_le z.wf z.m; have qo := hI.op; have qc := brk_le (begF ws (ws.length - z.s.p + 1) (⟨z.s.p, z.m, z.wf, z.op⟩ : Bg)).wf (begF ws (ws.length - z.s.p + 1) (⟨z.s.p, z.m, z.wf, z.op⟩ : Bg)).m; have l1 : (leA ws (⟨(begF ws (ws.length - z.s.p + 1) (⟨z.s.p, z.m, z.wf, z.op⟩ : Bg)).p, z.s.e, z.s.a⟩ : As) rs).p ≤ ws.length := leA_le (s := (⟨(begF ws (ws.length - z.s.p + 1) (⟨z.s.p, z.m, z.wf, z.op⟩ : Bg)).p, z.s.e, z.s.a⟩ : As)) b1; have l2 : (begF ws (ws.length - z.s.p + 1) (⟨z.s.p, z.m, z.wf, z.op⟩ : Bg)).p ≤ (leA ws (⟨(begF ws (ws.length - z.s.p + 1) (⟨z.s.p, z.m, z.wf, z.op⟩ : Bg)).p, z.s.e, z.s.a⟩ : As) rs).p := leA_ge (s := (⟨(begF ws (ws.length - z.s.p + 1) (⟨z.s.p, z.m, z.wf, z.op⟩ : Bg)).p, z.s.e, z.s.a⟩ : As)); have ln : (z.ns ++ [leC ws (⟨(begF ws (ws.length - z.s.p + 1) (⟨z.s.p, z.m, z.wf, z.op⟩ : Bg)).p, z.s.e, z.s.a⟩ : As) rs]).length = z.ns.length + 1 := (by rw [List.length_append]; rfl); obtain ⟨e1, e2, e3, e4⟩ := endF_ok (ws := ws) (wf := (begF ws (ws.length - z.s.p + 1) (⟨z.s.p, z.m, z.wf, z.op⟩ : Bg)).wf) (ws.length - (leA ws (⟨(begF ws (ws.length - z.s.p + 1) (⟨z.s.p, z.m, z.wf, z.op⟩ : Bg)).p, z.s.e, z.s.a⟩ : As) rs).p + 1) (⟨(leA ws (⟨(begF ws (ws.length - z.s.p + 1) (⟨z.s.p, z.m, z.wf, z.op⟩ : Bg)).p, z.s.e, z.s.a⟩ : As) rs).p, (z.ns ++ [leC ws (⟨(begF ws (ws.length - z.s.p + 1) (⟨z.s.p, z.m, z.wf, z.op⟩ : Bg)).p, z.s.e, z.s.a⟩ : As) rs]), (begF ws (ws.length - z.s.p + 1) (⟨z.s.p, z.m, z.wf, z.op⟩ : Bg)).m, (begF ws (ws.length - z.s.p + 1) (⟨z.s.p, z.m, z.wf, z.op⟩ : Bg)).op⟩ : Eg) l1 b4; have e3 : (endF ws ((begF ws (ws.length - z.s.p + 1) (⟨z.s.p, z.m, z.wf, z.op⟩ : Bg)).wf) (ws.length - (leA ws (⟨(begF ws (ws.length - z.s.p + 1) (⟨z.s.p, z.m, z.wf, z.op⟩ : Bg)).p, z.s.e, z.s.a⟩ : As) rs).p + 1) (⟨(leA ws (⟨(begF ws (ws.length - z.s.p + 1) (⟨z.s.p, z.m, z.wf, z.op⟩ : Bg)).p, z.s.e, z.s.a⟩ : As) rs).p, (z.ns ++ [leC ws (⟨(begF ws (ws.length - z.s.p + 1) (⟨z.s.p, z.m, z.wf, z.op⟩ : Bg)).p, z.s.e, z.s.a⟩ : As) rs]), (begF ws (ws.length - z.s.p + 1) (⟨z.s.p, z.m, z.wf, z.op⟩ : Bg)).m, (begF ws (ws.length - z.s.p + 1) (⟨z.s.p, z.m, z.wf, z.op⟩ : Bg)).op⟩ : Eg)).ns.length + (endF ws ((begF ws (ws.length - z.s.p + 1) (⟨z.s.p, z.m, z.wf, z.op⟩ : Bg)).wf) (ws.length - (leA ws (⟨(begF ws (ws.length - z.s.p + 1) (⟨z.s.p, z.m, z.wf, z.op⟩ : Bg)).p, z.s.e, z.s.a⟩ : As) rs).p + 1) (⟨(leA ws (⟨(begF ws (ws.length - z.s.p + 1) (⟨z.s.p, z.m, z.wf, z.op⟩ : Bg)).p, z.s.e, z.s.a⟩ : As) rs).p, (z.ns ++ [leC ws (⟨(begF ws (ws.length - z.s.p + 1) (⟨z.s.p, z.m, z.wf, z.op⟩ : Bg)).p, z.s.e, z.s.a⟩ : As) rs]), (begF ws (ws.length - z.s.p + 1) (⟨z.s.p, z.m, z.wf, z.op⟩ : Bg)).m, (begF ws (ws.length - z.s.p + 1) (⟨z.s.p, z.m, z.wf, z.op⟩ : Bg)).op⟩ : Eg)).m ≤ (z.ns ++ [leC ws (⟨(begF ws (ws.length - z.s.p + 1) (⟨z.s.p, z.m, z.wf, z.op⟩ : Bg)).p, z.s.e, z.s.a⟩ : As) rs]).length + (begF ws (ws.length - z.s.p + 1) (⟨z.s.p, z.m, z.wf, z.op⟩ : Bg)).m := e3; omega) (by obtain ⟨b1, b2, b3, b4⟩ := begF_ok (ws := ws) (ws.length - z.s.p + 1) (⟨z.s.p, z.m, z.wf, z.op⟩ : Bg) hI.le hI.op; have q0 := hI.sm h1; have b3 : (begF ws (ws.length - z.s.p + 1) (⟨z.s.p, z.m, z.wf, z.op⟩ : Bg)).m + z.s.p ≤ z.m + (begF ws (ws.length - z.s.p + 1) (⟨z.s.p, z.m, z.wf, z.op⟩ : Bg)).p := b3; have b2 : z.s.p ≤ (begF ws (ws.length - z.s.p + 1) (⟨z.s.p, z.m, z.wf, z.op⟩ : Bg)).p := b2; have qb := brk_le z.wf z.m; have qo := hI.op; have qc := brk_le (begF ws (ws.length - z.s.p + 1) (⟨z.s.p, z.m, z.wf, z.op⟩ : Bg)).wf (begF ws (ws.length - z.s.p + 1) (⟨z.s.p, z.m, z.wf, z.op⟩ : Bg)).m; have l1 : (leA ws (⟨(begF ws (ws.length - z.s.p + 1) (⟨z.s.p, z.m, z.wf, z.op⟩ : Bg)).p, z.s.e, z.s.a⟩ : As) rs).p ≤ ws.length := leA_le (s := (⟨(begF ws (ws.length - z.s.p + 1) (⟨z.s.p, z.m, z.wf, z.op⟩ : Bg)).p, z.s.e, z.s.a⟩ : As)) b1; have l2 : (begF ws (ws.length - z.s.p + 1) (⟨z.s.p, z.m, z.wf, z.op⟩ : Bg)).p ≤ (leA ws (⟨(begF ws (ws.length - z.s.p + 1) (⟨z.s.p, z.m, z.wf, z.op⟩ : Bg)).p, z.s.e, z.s.a⟩ : As) rs).p := leA_ge (s := (⟨(begF ws (ws.length - z.s.p + 1) (⟨z.s.p, z.m, z.wf, z.op⟩ : Bg)).p, z.s.e, z.s.a⟩ : As)); have ln : (z.ns ++ [leC ws (⟨(begF ws (ws.length - z.s.p + 1) (⟨z.s.p, z.m, z.wf, z.op⟩ : Bg)).p, z.s.e, z.s.a⟩ : As) rs]).length = z.ns.length + 1 := (by rw [List.length_append]; rfl); obtain ⟨e1, e2, e3, e4⟩ := endF_ok (ws := ws) (wf := (begF ws (ws.length - z.s.p + 1) (⟨z.s.p, z.m, z.wf, z.op⟩ : Bg)).wf) (ws.length - (leA ws (⟨(begF ws (ws.length - z.s.p + 1) (⟨z.s.p, z.m, z.wf, z.op⟩ : Bg)).p, z.s.e, z.s.a⟩ : As) rs).p + 1) (⟨(leA ws (⟨(begF ws (ws.length - z.s.p + 1) (⟨z.s.p, z.m, z.wf, z.op⟩ : Bg)).p, z.s.e, z.s.a⟩ : As) rs).p, (z.ns ++ [leC ws (⟨(begF ws (ws.length - z.s.p + 1) (⟨z.s.p, z.m, z.wf, z.op⟩ : Bg)).p, z.s.e, z.s.a⟩ : As) rs]), (begF ws (ws.length - z.s.p + 1) (⟨z.s.p, z.m, z.wf, z.op⟩ : Bg)).m, (begF ws (ws.length - z.s.p + 1) (⟨z.s.p, z.m, z.wf, z.op⟩ : Bg)).op⟩ : Eg) l1 b4; have e3 : (endF ws ((begF ws (ws.length - z.s.p + 1) (⟨z.s.p, z.m, z.wf, z.op⟩ : Bg)).wf) (ws.length - (leA ws (⟨(begF ws (ws.length - z.s.p + 1) (⟨z.s.p, z.m, z.wf, z.op⟩ : Bg)).p, z.s.e, z.s.a⟩ : As) rs).p + 1) (⟨(leA ws (⟨(begF ws (ws.length - z.s.p + 1) (⟨z.s.p, z.m, z.wf, z.op⟩ : Bg)).p, z.s.e, z.s.a⟩ : As) rs).p, (z.ns ++ [leC ws (⟨(begF ws (ws.length - z.s.p + 1) (⟨z.s.p, z.m, z.wf, z.op⟩ : Bg)).p, z.s.e, z.s.a⟩ : As) rs]), (begF ws (ws.length - z.s.p + 1) (⟨z.s.p, z.m, z.wf, z.op⟩ : Bg)).m, (begF ws (ws.length - z.s.p + 1) (⟨z.s.p, z.m, z.wf, z.op⟩ : Bg)).op⟩ : Eg)).ns.length + (endF ws ((begF ws (ws.length - z.s.p + 1) (⟨z.s.p, z.m, z.wf, z.op⟩ : Bg)).wf) (ws.length - (leA ws (⟨(begF ws (ws.length - z.s.p + 1) (⟨z.s.p, z.m, z.wf, z.op⟩ : Bg)).p, z.s.e, z.s.a⟩ : As) rs).p + 1) (⟨(leA ws (⟨(begF ws (ws.length - z.s.p + 1) (⟨z.s.p, z.m, z.wf, z.op⟩ : Bg)).p, z.s.e, z.s.a⟩ : As) rs).p, (z.ns ++ [leC ws (⟨(begF ws (ws.length - z.s.p + 1) (⟨z.s.p, z.m, z.wf, z.op⟩ : Bg)).p, z.s.e, z.s.a⟩ : As) rs]), (begF ws (ws.length - z.s.p + 1) (⟨z.s.p, z.m, z.wf, z.op⟩ : Bg)).m, (begF ws (ws.length - z.s.p + 1) (⟨z.s.p, z.m, z.wf, z.op⟩ : Bg)).op⟩ : Eg)).m ≤ (z.ns ++ [leC ws (⟨(begF ws (ws.length - z.s.p + 1) (⟨z.s.p, z.m, z.wf, z.op⟩ : Bg)).p, z.s.e, z.s.a⟩ : As) rs]).length + (begF ws (ws.length - z.s.p + 1) (⟨z.s.p, z.m, z.wf, z.op⟩ : Bg)).m := e3; omega) (by obtain ⟨b1, b2, b3, b4⟩ := begF_ok (ws := ws) (ws.length - z.s.p + 1) (⟨z.s.p, z.m, z.wf, z.op⟩ : Bg) hI.le hI.op; have q0 := hI.sm h1; have b3 : (begF ws (ws.length - z.s.p + 1) (⟨z.s.p, z.m, z.wf, z.op⟩ : Bg)).m + z.s.p ≤ z.m + (begF ws (ws.length - z.s.p + 1) (⟨z.s.p, z.m, z.wf, z.op⟩ : Bg)).p := b3; have b2 : z.s.p ≤ (begF ws (ws.length - z.s.p + 1) (⟨z.s.p, z.m, z.wf, z.op⟩ : Bg)).p := b2; have qb := brk_le z.wf z.m; have qo := hI.op; have qc := brk_le (begF ws (ws.length - z.s.p + 1) (⟨z.s.p, z.m, z.wf, z.op⟩ : Bg)).wf (begF ws (ws.length - z.s.p + 1) (⟨z.s.p, z.m, z.wf, z.op⟩ : Bg)).m; exact b4)) A rfl rfl rfl rfl rfl rfl rfl fun A => N hX 5 A rfl rfl fun A => CALL1 [0, 1, 2, 3, 4, 13, 14] (joined_ ws cw rs cr (⟨(endF ws ((begF ws (ws.length - z.s.p + 1) (⟨z.s.p, z.m, z.wf, z.op⟩ : Bg)).wf) (ws.length - (leA ws (⟨(begF ws (ws.length - z.s.p + 1) (⟨z.s.p, z.m, z.wf, z.op⟩ : Bg)).p, z.s.e, z.s.a⟩ : As) rs).p + 1) (⟨(leA ws (⟨(begF ws (ws.length - z.s.p + 1) (⟨z.s.p, z.m, z.wf, z.op⟩ : Bg)).p, z.s.e, z.s.a⟩ : As) rs).p, (z.ns ++ [leC ws (⟨(begF ws (ws.length - z.s.p + 1) (⟨z.s.p, z.m, z.wf, z.op⟩ : Bg)).p, z.s.e, z.s.a⟩ : As) rs]), (begF ws (ws.length - z.s.p + 1) (⟨z.s.p, z.m, z.wf, z.op⟩ : Bg)).m, (begF ws (ws.length - z.s.p + 1) (⟨z.s.p, z.m, z.wf, z.op⟩ : Bg)).op⟩ : Eg)).p, (leA ws (⟨(begF ws (ws.length - z.s.p + 1) (⟨z.s.p, z.m, z.wf, z.op⟩ : Bg)).p, z.s.e, z.s.a⟩ : As) rs).e, (leA ws (⟨(begF ws (ws.length - z.s.p + 1) (⟨z.s.p, z.m, z.wf, z.op⟩ : Bg)).p, z.s.e, z.s.a⟩ : As) rs).a⟩ : As) ((endF ws ((begF ws (ws.length - z.s.p + 1) (⟨z.s.p, z.m, z.wf, z.op⟩ : Bg)).wf) (ws.length - (leA ws (⟨(begF ws (ws.length - z.s.p + 1) (⟨z.s.p, z.m, z.wf, z.op⟩ : Bg)).p, z.s.e, z.s.a⟩ : As) rs).p + 1) (⟨(leA ws (⟨(begF ws (ws.length - z.s.p + 1) (⟨z.s.p, z.m, z.wf, z.op⟩ : Bg)).p, z.s.e, z.s.a⟩ : As) rs).p, (z.ns ++ [leC ws (⟨(begF ws (ws.length - z.s.p + 1) (⟨z.s.p, z.m, z.wf, z.op⟩ : Bg)).p, z.s.e, z.s.a⟩ : As) rs]), (begF ws (ws.length - z.s.p + 1) (⟨z.s.p, z.m, z.wf, z.op⟩ : Bg)).m, (begF ws (ws.length - z.s.p + 1) (⟨z.s.p, z.m, z.wf, z.op⟩ : Bg)).op⟩ : Eg)).ns) ((endF ws ((begF ws (ws.length - z.s.p + 1) (⟨z.s.p, z.m, z.wf, z.op⟩ : Bg)).wf) (ws.length - (leA ws (⟨(begF ws (ws.length - z.s.p + 1) (⟨z.s.p, z.m, z.wf, z.op⟩ : Bg)).p, z.s.e, z.s.a⟩ : As) rs).p + 1) (⟨(leA ws (⟨(begF ws (ws.length - z.s.p + 1) (⟨z.s.p, z.m, z.wf, z.op⟩ : Bg)).p, z.s.e, z.s.a⟩ : As) rs).p, (z.ns ++ [leC ws (⟨(begF ws (ws.length - z.s.p + 1) (⟨z.s.p, z.m, z.wf, z.op⟩ : Bg)).p, z.s.e, z.s.a⟩ : As) rs]), (begF ws (ws.length - z.s.p + 1) (⟨z.s.p, z.m, z.wf, z.op⟩ : Bg)).m, (begF ws (ws.length - z.s.p + 1) (⟨z.s.p, z.m, z.wf, z.op⟩ : Bg)).op⟩ : Eg)).m) ((begF ws (ws.length - z.s.p + 1) (⟨z.s.p, z.m, z.wf, z.op⟩ : Bg)).wf) ((endF ws ((begF ws (ws.length - z.s.p + 1) (⟨z.s.p, z.m, z.wf, z.op⟩ : Bg)).wf) (ws.length - (leA ws (⟨(begF ws (ws.length - z.s.p + 1) (⟨z.s.p, z.m, z.wf, z.op⟩ : Bg)).p, z.s.e, z.s.a⟩ : As) rs).p + 1) (⟨(leA ws (⟨(begF ws (ws.length - z.s.p + 1) (⟨z.s.p, z.m, z.wf, z.op⟩ : Bg)).p, z.s.e, z.s.a⟩ : As) rs).p, (z.ns ++ [leC ws (⟨(begF ws (ws.length - z.s.p + 1) (⟨z.s.p, z.m, z.wf, z.op⟩ : Bg)).p, z.s.e, z.s.a⟩ : As) rs]), (begF ws (ws.length - z.s.p + 1) (⟨z.s.p, z.m, z.wf, z.op⟩ : Bg)).m, (begF ws (ws.length - z.s.p + 1) (⟨z.s.p, z.m, z.wf, z.op⟩ : Bg)).op⟩ : Eg)).op) (by obtain ⟨b1, b2, b3, b4⟩ := begF_ok (ws := ws) (ws.length - z.s.p + 1) (⟨z.s.p, z.m, z.wf, z.op⟩ : Bg) hI.le hI.op; have q0 := hI.sm h1; have b3 : (begF ws (ws.length - z.s.p + 1) (⟨z.s.p, z.m, z.wf, z.op⟩ : Bg)).m + z.s.p ≤ z.m + (begF ws (ws.length - z.s.p + 1) (⟨z.s.p, z.m, z.wf, z.op⟩ : Bg)).p := b3; have b2 : z.s.p ≤ (begF ws (ws.length - z.s.p + 1) (⟨z.s.p, z.m, z.wf, z.op⟩ : Bg)).p := b2; have qb := brk_le z.wf z.m; have qo := hI.op; have qc := brk_le (begF ws (ws.length - z.s.p + 1) (⟨z.s.p, z.m, z.wf, z.op⟩ : Bg)).wf (begF ws (ws.length - z.s.p + 1) (⟨z.s.p, z.m, z.wf, z.op⟩ : Bg)).m; have l1 : (leA ws (⟨(begF ws (ws.length - z.s.p + 1) (⟨z.s.p, z.m, z.wf, z.op⟩ : Bg)).p, z.s.e, z.s.a⟩ : As) rs).p ≤ ws.length := leA_le (s := (⟨(begF ws (ws.length - z.s.p + 1) (⟨z.s.p, z.m, z.wf, z.op⟩ : Bg)).p, z.s.e, z.s.a⟩ : As)) b1; have l2 : (begF ws (ws.length - z.s.p + 1) (⟨z.s.p, z.m, z.wf, z.op⟩ : Bg)).p ≤ (leA ws (⟨(begF ws (ws.length - z.s.p + 1) (⟨z.s.p, z.m, z.wf, z.op⟩ : Bg)).p, z.s.e, z.s.a⟩ : As) rs).p := leA_ge (s := (⟨(begF ws (ws.length - z.s.p + 1) (⟨z.s.p, z.m, z.wf, z.op⟩ : Bg)).p, z.s.e, z.s.a⟩ : As)); have ln : (z.ns ++ [leC ws (⟨(begF ws (ws.length - z.s.p + 1) (⟨z.s.p, z.m, z.wf, z.op⟩ : Bg)).p, z.s.e, z.s.a⟩ : As) rs]).length = z.ns.length + 1 := (by rw [List.length_append]; rfl); obtain ⟨e1, e2, e3, e4⟩ := endF_ok (ws := ws) (wf := (begF ws (ws.length - z.s.p + 1) (⟨z.s.p, z.m, z.wf, z.op⟩ : Bg)).wf) (ws.length - (leA ws (⟨(begF ws (ws.length - z.s.p + 1) (⟨z.s.p, z.m, z.wf, z.op⟩ : Bg)).p, z.s.e, z.s.a⟩ : As) rs).p + 1) (⟨(leA ws (⟨(begF ws (ws.length - z.s.p + 1) (⟨z.s.p, z.m, z.wf, z.op⟩ : Bg)).p, z.s.e, z.s.a⟩ : As) rs).p, (z.ns ++ [leC ws (⟨(begF ws (ws.length - z.s.p + 1) (⟨z.s.p, z.m, z.wf, z.op⟩ : Bg)).p, z.s.e, z.s.a⟩ : As) rs]), (begF ws (ws.length - z.s.p + 1) (⟨z.s.p, z.m, z.wf, z.op⟩ : Bg)).m, (begF ws (ws.length - z.s.p + 1) (⟨z.s.p, z.m, z.wf, z.op⟩ : Bg)).op⟩ : Eg) l1 b4; have e3 : (endF ws ((begF ws (ws.length - z.s.p + 1) (⟨z.s.p, z.m, z.wf, z.op⟩ : Bg)).wf) (ws.length - (leA ws (⟨(begF ws (ws.length - z.s.p + 1) (⟨z.s.p, z.m, z.wf, z.op⟩ : Bg)).p, z.s.e, z.s.a⟩ : As) rs).p + 1) (⟨(leA ws (⟨(begF ws (ws.length - z.s.p + 1) (⟨z.s.p, z.m, z.wf, z.op⟩ : Bg)).p, z.s.e, z.s.a⟩ : As) rs).p, (z.ns ++ [leC ws (⟨(begF ws (ws.length - z.s.p + 1) (⟨z.s.p, z.m, z.wf, z.op⟩ : Bg)).p, z.s.e, z.s.a⟩ : As) rs]), (begF ws (ws.length - z.s.p + 1) (⟨z.s.p, z.m, z.wf, z.op⟩ : Bg)).m, (begF ws (ws.length - z.s.p + 1) (⟨z.s.p, z.m, z.wf, z.op⟩ : Bg)).op⟩ : Eg)).ns.length + (endF ws ((begF ws (ws.length - z.s.p + 1) (⟨z.s.p, z.m, z.wf, z.op⟩ : Bg)).wf) (ws.length - (leA ws (⟨(begF ws (ws.length - z.s.p + 1) (⟨z.s.p, z.m, z.wf, z.op⟩ : Bg)).p, z.s.e, z.s.a⟩ : As) rs).p + 1) (⟨(leA ws (⟨(begF ws (ws.length - z.s.p + 1) (⟨z.s.p, z.m, z.wf, z.op⟩ : Bg)).p, z.s.e, z.s.a⟩ : As) rs).p, (z.ns ++ [leC ws (⟨(begF ws (ws.length - z.s.p + 1) (⟨z.s.p, z.m, z.wf, z.op⟩ : Bg)).p, z.s.e, z.s.a⟩ : As) rs]), (begF ws (ws.length - z.s.p + 1) (⟨z.s.p, z.m, z.wf, z.op⟩ : Bg)).m, (begF ws (ws.length - z.s.p + 1) (⟨z.s.p, z.m, z.wf, z.op⟩ : Bg)).op⟩ : Eg)).m ≤ (z.ns ++ [leC ws (⟨(begF ws (ws.length - z.s.p + 1) (⟨z.s.p, z.m, z.wf, z.op⟩ : Bg)).p, z.s.e, z.s.a⟩ : As) rs]).length + (begF ws (ws.length - z.s.p + 1) (⟨z.s.p, z.m, z.wf, z.op⟩ : Bg)).m := e3; exact e1) (by obtain ⟨b1, b2, b3, b4⟩ := begF_ok (ws := ws) (ws.length - z.s.p + 1) (⟨z.s.p, z.m, z.wf, z.op⟩ : Bg) hI.le hI.op; have q0 := hI.sm h1; have b3 : (begF ws (ws.length - z.s.p + 1) (⟨z.s.p, z.m, z.wf, z.op⟩ : Bg)).m + z.s.p ≤ z.m + (begF ws (ws.length - z.s.p + 1) (⟨z.s.p, z.m, z.wf, z.op⟩ : Bg)).p := b3; have b2 : z.s.p ≤ (begF ws (ws.length - z.s.p + 1) (⟨z.s.p, z.m, z.wf, z.op⟩ : Bg)).p := b2; have qb := brk_le z.wf z.m; have qo := hI.op; have qc := brk_le (begF ws (ws.length - z.s.p + 1) (⟨z.s.p, z.m, z.wf, z.op⟩ : Bg)).wf (begF ws (ws.length - z.s.p + 1) (⟨z.s.p, z.m, z.wf, z.op⟩ : Bg)).m; omega) hw (by obtain ⟨b1, b2, b3, b4⟩ := begF_ok (ws := ws) (ws.length - z.s.p + 1) (⟨z.s.p, z.m, z.wf, z.op⟩ : Bg) hI.le hI.op; have q0 := hI.sm h1; have b3 : (begF ws (ws.length - z.s.p + 1) (⟨z.s.p, z.m, z.wf, z.op⟩ : Bg)).m + z.s.p ≤ z.m + (begF ws (ws.length - z.s.p + 1) (⟨z.s.p, z.m, z.wf, z.op⟩ : Bg)).p := b3; have b2 : z.s.p ≤ (begF ws (ws.length - z.s.p + 1) (⟨z.s.p, z.m, z.wf, z.op⟩ : Bg)).p := b2; have qb := brk_le z.wf z.m; have qo := hI.op; have qc := brk_le (begF ws (ws.length - z.s.p + 1) (⟨z.s.p, z.m, z.wf, z.op⟩ : Bg)).wf (begF ws (ws.length - z.s.p + 1) (⟨z.s.p, z.m, z.wf, z.op⟩ : Bg)).m; have l1 : (leA ws (⟨(begF ws (ws.length - z.s.p + 1) (⟨z.s.p, z.m, z.wf, z.op⟩ : Bg)).p, z.s.e, z.s.a⟩ : As) rs).p ≤ ws.length := leA_le (s := (⟨(begF ws (ws.length - z.s.p + 1) (⟨z.s.p, z.m, z.wf, z.op⟩ : Bg)).p, z.s.e, z.s.a⟩ : As)) b1; have l2 : (begF ws (ws.length - z.s.p + 1) (⟨z.s.p, z.m, z.wf, z.op⟩ : Bg)).p ≤ (leA ws (⟨(begF ws (ws.length - z.s.p + 1) (⟨z.s.p, z.m, z.wf, z.op⟩ : Bg)).p, z.s.e, z.s.a⟩ : As) rs).p := leA_ge (s := (⟨(begF ws (ws.length - z.s.p + 1) (⟨z.s.p, z.m, z.wf, z.op⟩ : Bg)).p, z.s.e, z.s.a⟩ : As)); have ln : (z.ns ++ [leC ws (⟨(begF ws (ws.length - z.s.p + 1) (⟨z.s.p, z.m, z.wf, z.op⟩ : Bg)).p, z.s.e, z.s.a⟩ : As) rs]).length = z.ns.length + 1 := (by rw [List.length_append]; rfl); obtain ⟨e1, e2, e3, e4⟩ := endF_ok (ws := ws) (wf := (begF ws (ws.length - z.s.p + 1) (⟨z.s.p, z.m, z.wf, z.op⟩ : Bg)).wf) (ws.length - (leA ws (⟨(begF ws (ws.length - z.s.p + 1) (⟨z.s.p, z.m, z.wf, z.op⟩ : Bg)).p, z.s.e, z.s.a⟩ : As) rs).p + 1) (⟨(leA ws (⟨(begF ws (ws.length - z.s.p + 1) (⟨z.s.p, z.m, z.wf, z.op⟩ : Bg)).p, z.s.e, z.s.a⟩ : As) rs).p, (z.ns ++ [leC ws (⟨(begF ws (ws.length - z.s.p + 1) (⟨z.s.p, z.m, z.wf, z.op⟩ : Bg)).p, z.s.e, z.s.a⟩ : As) rs]), (begF ws (ws.length - z.s.p + 1) (⟨z.s.p, z.m, z.wf, z.op⟩ : Bg)).m, (begF ws (ws.length - z.s.p + 1) (⟨z.s.p, z.m, z.wf, z.op⟩ : Bg)).op⟩ : Eg) l1 b4; have e3 : (endF ws ((begF ws (ws.length - z.s.p + 1) (⟨z.s.p, z.m, z.wf, z.op⟩ : Bg)).wf) (ws.length - (leA ws (⟨(begF ws (ws.length - z.s.p + 1) (⟨z.s.p, z.m, z.wf, z.op⟩ : Bg)).p, z.s.e, z.s.a⟩ : As) rs).p + 1) (⟨(leA ws (⟨(begF ws (ws.length - z.s.p + 1) (⟨z.s.p, z.m, z.wf, z.op⟩ : Bg)).p, z.s.e, z.s.a⟩ : As) rs).p, (z.ns ++ [leC ws (⟨(begF ws (ws.length - z.s.p + 1) (⟨z.s.p, z.m, z.wf, z.op⟩ : Bg)).p, z.s.e, z.s.a⟩ : As) rs]), (begF ws (ws.length - z.s.p + 1) (⟨z.s.p, z.m, z.wf, z.op⟩ : Bg)).m, (begF ws (ws.length - z.s.p + 1) (⟨z.s.p, z.m, z.wf, z.op⟩ : Bg)).op⟩ : Eg)).ns.length + (endF ws ((begF ws (ws.length - z.s.p + 1) (⟨z.s.p, z.m, z.wf, z.op⟩ : Bg)).wf) (ws.length - (leA ws (⟨(begF ws (ws.length - z.s.p + 1) (⟨z.s.p, z.m, z.wf, z.op⟩ : Bg)).p, z.s.e, z.s.a⟩ : As) rs).p + 1) (⟨(leA ws (⟨(begF ws (ws.length - z.s.p + 1) (⟨z.s.p, z.m, z.wf, z.op⟩ : Bg)).p, z.s.e, z.s.a⟩ : As) rs).p, (z.ns ++ [leC ws (⟨(begF ws (ws.length - z.s.p + 1) (⟨z.s.p, z.m, z.wf, z.op⟩ : Bg)).p, z.s.e, z.s.a⟩ : As) rs]), (begF ws (ws.length - z.s.p + 1) (⟨z.s.p, z.m, z.wf, z.op⟩ : Bg)).m, (begF ws (ws.length - z.s.p + 1) (⟨z.s.p, z.m, z.wf, z.op⟩ : Bg)).op⟩ : Eg)).m ≤ (z.ns ++ [leC ws (⟨(begF ws (ws.length - z.s.p + 1) (⟨z.s.p, z.m, z.wf, z.op⟩ : Bg)).p, z.s.e, z.s.a⟩ : As) rs]).length + (begF ws (ws.length - z.s.p + 1) (⟨z.s.p, z.m, z.wf, z.op⟩ : Bg)).m := e3; omega) (by obtain ⟨b1, b2, b3, b4⟩ := begF_ok (ws := ws) (ws.length - z.s.p + 1) (⟨z.s.p, z.m, z.wf, z.op⟩ : Bg) hI.le hI.op; have q0 := hI.sm h1; have b3 : (begF ws (ws.length - z.s.p + 1) (⟨z.s.p, z.m, z.wf, z.op⟩ : Bg)).m + z.s.p ≤ z.m + (begF ws (ws.length - z.s.p + 1) (⟨z.s.p, z.m, z.wf, z.op⟩ : Bg)).p := b3; have b2 : z.s.p ≤ (begF ws (ws.length - z.s.p + 1) (⟨z.s.p, z.m, z.wf, z.op⟩ : Bg)).p := b2; have qb := brk_le z.wf z.m; have qo := hI.op; have qc := brk_le (begF ws (ws.length - z.s.p + 1) (⟨z.s.p, z.m, z.wf, z.op⟩ : Bg)).wf (begF ws (ws.length - z.s.p + 1) (⟨z.s.p, z.m, z.wf, z.op⟩ : Bg)).m; have l1 : (leA ws (⟨(begF ws (ws.length - z.s.p + 1) (⟨z.s.p, z.m, z.wf, z.op⟩ : Bg)).p, z.s.e, z.s.a⟩ : As) rs).p ≤ ws.length := leA_le (s := (⟨(begF ws (ws.length - z.s.p + 1) (⟨z.s.p, z.m, z.wf, z.op⟩ : Bg)).p, z.s.e, z.s.a⟩ : As)) b1; have l2 : (begF ws (ws.length - z.s.p + 1) (⟨z.s.p, z.m, z.wf, z.op⟩ : Bg)).p ≤ (leA ws (⟨(begF ws (ws.length - z.s.p + 1) (⟨z.s.p, z.m, z.wf, z.op⟩ : Bg)).p, z.s.e, z.s.a⟩ : As) rs).p := leA_ge (s := (⟨(begF ws (ws.length - z.s.p + 1) (⟨z.s.p, z.m, z.wf, z.op⟩ : Bg)).p, z.s.e, z.s.a⟩ : As)); have ln : (z.ns ++ [leC ws (⟨(begF ws (ws.length - z.s.p + 1) (⟨z.s.p, z.m, z.wf, z.op⟩ : Bg)).p, z.s.e, z.s.a⟩ : As) rs]).length = z.ns.length + 1 := (by rw [List.length_append]; rfl); obtain ⟨e1, e2, e3, e4⟩ := endF_ok (ws := ws) (wf := (begF ws (ws.length - z.s.p + 1) (⟨z.s.p, z.m, z.wf, z.op⟩ : Bg)).wf) (ws.length - (leA ws (⟨(begF ws (ws.length - z.s.p + 1) (⟨z.s.p, z.m, z.wf, z.op⟩ : Bg)).p, z.s.e, z.s.a⟩ : As) rs).p + 1) (⟨(leA ws (⟨(begF ws (ws.length - z.s.p + 1) (⟨z.s.p, z.m, z.wf, z.op⟩ : Bg)).p, z.s.e, z.s.a⟩ : As) rs).p, (z.ns ++ [leC ws (⟨(begF ws (ws.length - z.s.p + 1) (⟨z.s.p, z.m, z.wf, z.op⟩ : Bg)).p, z.s.e, z.s.a⟩ : As) rs]), (begF ws (ws.length - z.s.p + 1) (⟨z.s.p, z.m, z.wf, z.op⟩ : Bg)).m, (begF ws (ws.length - z.s.p + 1) (⟨z.s.p, z.m, z.wf, z.op⟩ : Bg)).op⟩ : Eg) l1 b4; have e3 : (endF ws ((begF ws (ws.length - z.s.p + 1) (⟨z.s.p, z.m, z.wf, z.op⟩ : Bg)).wf) (ws.length - (leA ws (⟨(begF ws (ws.length - z.s.p + 1) (⟨z.s.p, z.m, z.wf, z.op⟩ : Bg)).p, z.s.e, z.s.a⟩ : As) rs).p + 1) (⟨(leA ws (⟨(begF ws (ws.length - z.s.p + 1) (⟨z.s.p, z.m, z.wf, z.op⟩ : Bg)).p, z.s.e, z.s.a⟩ : As) rs).p, (z.ns ++ [leC ws (⟨(begF ws (ws.length - z.s.p + 1) (⟨z.s.p, z.m, z.wf, z.op⟩ : Bg)).p, z.s.e, z.s.a⟩ : As) rs]), (begF ws (ws.length - z.s.p + 1) (⟨z.s.p, z.m, z.wf, z.op⟩ : Bg)).m, (begF ws (ws.length - z.s.p + 1) (⟨z.s.p, z.m, z.wf, z.op⟩ : Bg)).op⟩ : Eg)).ns.length + (endF ws ((begF ws (ws.length - z.s.p + 1) (⟨z.s.p, z.m, z.wf, z.op⟩ : Bg)).wf) (ws.length - (leA ws (⟨(begF ws (ws.length - z.s.p + 1) (⟨z.s.p, z.m, z.wf, z.op⟩ : Bg)).p, z.s.e, z.s.a⟩ : As) rs).p + 1) (⟨(leA ws (⟨(begF ws (ws.length - z.s.p + 1) (⟨z.s.p, z.m, z.wf, z.op⟩ : Bg)).p, z.s.e, z.s.a⟩ : As) rs).p, (z.ns ++ [leC ws (⟨(begF ws (ws.length - z.s.p + 1) (⟨z.s.p, z.m, z.wf, z.op⟩ : Bg)).p, z.s.e, z.s.a⟩ : As) rs]), (begF ws (ws.length - z.s.p + 1) (⟨z.s.p, z.m, z.wf, z.op⟩ : Bg)).m, (begF ws (ws.length - z.s.p + 1) (⟨z.s.p, z.m, z.wf, z.op⟩ : Bg)).op⟩ : Eg)).m ≤ (z.ns ++ [leC ws (⟨(begF ws (ws.length - z.s.p + 1) (⟨z.s.p, z.m, z.wf, z.op⟩ : Bg)).p, z.s.e, z.s.a⟩ : As) rs]).length + (begF ws (ws.length - z.s.p + 1) (⟨z.s.p, z.m, z.wf, z.op⟩ : Bg)).m := e3; omega)) A rfl rfl rfl rfl rfl rfl rfl fun A => N hX 1 A rfl rfl fun A => N hX 1 A rfl rfl fun A => ⟨(coR ws rs z).2, (coR ws rs z).1, _, (hI.ms h1), (hI.go h1), ((A.cut [0, 2] rfl).mv 7 [15, 16] rfl rfl rfl rfl (by simp only [List.length_cons, List.length_nil] at h0; omega))⟩)
   (fun h1 A => N hX 13 A rfl rfl fun A => forkD 16 A rfl
    (fun h2 A => N hX 6 A rfl rfl fun A => CALL1 [1, 2, 3] (refuse_ ws cw z.s 22 hI.le (by have q0 := hI.s2; have q1 := hI.le; have q2 := brk_le z.wf z.m; have q3 := hI.op; omega) hw) A rfl rfl rfl rfl rfl rfl rfl fun A => N hX 4 A rfl rfl fun A => CALL1 [0, 1, 2, 3, 4, 7, 8] (settle_ ws cw rs cr (refA ws z.s 22) z.ns z.m z.wf z.op 5 (by rw [refA_p]; exact hI.le) (by have q0 := hI.s2; have q1 := hI.le; have q2 := brk_le z.wf z.m; have q3 := hI.op; omega) hw (by have q0 := hI.s2; have q1 := hI.le; have q2 := brk_le z.wf z.m; have q3 := hI.op; omega) (by have q0 := hI.s2; have q1 := hI.le; have q2 := brk_le z.wf z.m; have q3 := hI.op; omega)) A rfl rfl rfl rfl rfl rfl rfl fun A => N hX 1 A rfl rfl fun A => ENDN ((by rw [hI.fin h1, decide_eq_true h2]; exact RET hX [9, 10] A ⟨rfl, rfl⟩ rfl rfl rfl rfl rfl rfl rfl rfl h0)))
    (fun h2 A => N hX 5 A rfl rfl fun A => CALL1 [0, 1, 2, 3, 4, 7, 8] (settle_ ws cw rs cr z.s z.ns z.m z.wf z.op 5 hI.le (by have q0 := hI.s2; have q1 := hI.le; have q2 := brk_le z.wf z.m; have q3 := hI.op; omega) hw (by have q0 := hI.s2; have q1 := hI.le; have q2 := brk_le z.wf z.m; have q3 := hI.op; omega) (by have q0 := hI.s2; have q1 := hI.le; have q2 := brk_le z.wf z.m; have q3 := hI.op; omega)) A rfl rfl rfl rfl rfl rfl rfl fun A => N hX 1 A rfl rfl fun A => ENDN ((by rw [hI.fin h1, decide_eq_false h2]; exact RET hX [9, 10] A ⟨rfl, rfl⟩ rfl rfl rfl rfl rfl rfl rfl rfl h0))))
def regsA : List (List UInt8) := [[88, 48], [88, 49], [88, 50], [88, 51], [88, 52], [88, 53], [88, 54], [88, 55]]
def nameA (r : Int) : List UInt8 := if r < 0 then [] else (regsA[r.toNat]?).getD []
def regA (q : List UInt8) : Int := Old.idxL regsA q 0
theorem nameA_o {g : Int} (h : ((decide (g < 0)) || (decide (g > 7))) = true) : nameA g = [] := by
  unfold nameA
  simp only [Bool.or_eq_true, decide_eq_true_eq] at h
  rcases h with h | h
  · rw [if_pos h]
  · rw [if_neg (by omega), List.getElem?_eq_none (by show regsA.length ≤ _; have : regsA.length = 8 := rfl; omega)]; rfl


end Go.Proofs.YtedlaclfhgneeabGreatDoor
namespace Go.Proofs.YtedlaclfhgneeabGreatDoor
open Go.Shelf Go.RowKit
set_option linter.unusedVariables false

end Go.Proofs.YtedlaclfhgneeabGreatDoor
namespace Go.Proofs.YtedlaclfhgneeabGreatDoor
open Go.RowKit
set_option linter.unusedVariables false
set_option linter.unusedSimpArgs false
set_option maxRecDepth 100000
set_option maxHeartbeats 2000000
set_option simprocs false
section
variable {P : Program} {n : Nat} {ks : List Nat} {G0 : Gr} {w0 : World} {T : List (Nat × SV)} {H : Hp} {G : Gr} {a : Act} {w w' : World} {Q : Exit → Act → World → Prop} {K : List Fr} {ops : Array Oper} {o : Oper} {rest : List Oper} {c : Code}
end
def c5 : List (List UInt8 × Int) := [([65, 68, 68], 1), ([83, 85, 66], 2), ([69, 79, 82], 3), ([65, 78, 68], 4), ([79, 82, 82], 5)]
abbrev sz : List UInt8 × Bool × Bool := ([], false, false)
def a2 : List (List UInt8 × Int) := [([83, 87, 80], 6), ([76, 68, 65, 68, 68], 1)]
def s4 : List (List UInt8 × Bool × Bool) := [([], false, false), ([65], true, false), ([76], false, true), ([65, 76], true, true)]
def f3 : List (List UInt8 × Int × Int) := [([83, 89], 3, 3), ([76, 68], 1, 3), ([83, 84], 2, 2)]

section
variable {n : Nat} {ks : List Nat} {G0 : Gr} {w0 : World} {T : List (Nat × SV)} {H : Hp} {G : Gr} {a : Act} {w : World} {Q : Exit → Act → World → Prop} {K : List Fr} {ops : Array Oper} {o : Oper} {rest : List Oper}
end
section
variable {n : Nat} {ks : List Nat} {G0 : Gr} {w0 : World} {T : List (Nat × SV)} {H : Hp} {G : Gr} {a : Act} {w : World} {Q : Exit → Act → World → Prop} {K : List Fr} {ops : Array Oper} {o : Oper} {rest : List Oper}
end
end Go.Proofs.YtedlaclfhgneeabGreatDoor
namespace Go.Proofs.YtedlaclfhgneeabGreatDoor
open Go.RowKit
set_option linter.unusedVariables false
set_option linter.unusedSimpArgs false
set_option maxRecDepth 100000
set_option maxHeartbeats 2000000
section
variable {g : Lg} {L : List Rw} {i : In} {lb : List UInt8}
end
end Go.Proofs.YtedlaclfhgneeabGreatDoor
namespace Go.Proofs.YtedlaclfhgneeabGreatDoor
open Go.RowKit
set_option linter.unusedVariables false
set_option linter.unusedSimpArgs false
set_option linter.unusedSectionVars false
section
variable {P : Program} {n : Nat} {ks : List Nat} {G0 : Gr} {w0 : World} {T : List (Nat × SV)} {H : Hp} {G : Gr} {a : Act} {w w' : World} {Q : Exit → Act → World → Prop} {K : List Fr} {ops : Array Oper} {o : Oper} {rest : List Oper} {fuel i : Nat} {listed : Array Bool}
end
end Go.Proofs.YtedlaclfhgneeabGreatDoor
namespace Go.Proofs.YtedlaclfhgneeabGreatDoor
open Go.RowKit
set_option linter.unusedVariables false
set_option linter.unusedSimpArgs false
set_option maxRecDepth 100000
set_option maxHeartbeats 2000000
set_option simprocs false

end Go.Proofs.YtedlaclfhgneeabGreatDoor
namespace Go.Proofs.YtedlaclfhgneeabGreatDoor
open Go.RowKit
set_option linter.unusedVariables false
set_option linter.unusedSimpArgs false
end Go.Proofs.YtedlaclfhgneeabGreatDoor
namespace Go.Proofs.YtedlaclfhgneeabGreatDoor.Old
set_option linter.unusedSimpArgs false
open Go.RowKit
end Go.Proofs.YtedlaclfhgneeabGreatDoor.Old
namespace Go.Proofs.YtedlaclfhgneeabGreatDoor
set_option linter.unusedSimpArgs false
end Go.Proofs.YtedlaclfhgneeabGreatDoor
namespace Go.Proofs.YtedlaclfhgneeabGreatDoor
open Go.RowKit
set_option linter.unusedVariables false
set_option linter.unusedSimpArgs false
set_option maxRecDepth 100000
set_option maxHeartbeats 2000000
set_option simprocs false
theorem regnm_a (r : Int) : regnm0 [88, 48] [88, 49] [88, 50] [88, 51] [88, 52] [88, 53] [88, 54] [88, 55] r = nameA r := by
  unfold regnm0
  split
  · next h => rw [nameA_o (by revert h; simp only [Bool.or_eq_true, decide_eq_true_eq]; omega)]
  · next h =>
    have : r = 0 ∨ r = 1 ∨ r = 2 ∨ r = 3 ∨ r = 4 ∨ r = 5 ∨ r = 6 ∨ r = 7 := by
      revert h; simp only [Bool.or_eq_true, decide_eq_true_eq]; omega
    rcases this with e | e | e | e | e | e | e | e <;> subst e <;> rfl
theorem aname_ (r : Int)  : Fn Tryz.prog 14 [.int .i64 r] [] (Rt (.str (nameA r)) []) :=
 enterM (n := 6) (by kernel_rfl) Tryz.func14 rfl rfl rfl fun G w a h0 A => N hX 7 A rfl rfl fun A => CALL1 [] aregs_ A rfl rfl rfl rfl rfl rfl rfl fun A => N hX 1 A rfl rfl fun A => CALL1 [] (regnm_ [88, 48] [88, 49] [88, 50] [88, 51] [88, 52] [88, 53] [88, 54] [88, 55] r) A rfl rfl rfl rfl rfl rfl rfl fun A => N hX 4 A rfl rfl fun A => RETN hX A rfl rfl rfl h0 rfl rfl rfl rfl (by rw [← regnm_a] <;> rfl) rfl
def regsV : List (List UInt8) := [[97, 48], [97, 49], [97, 50], [97, 51], [97, 52], [97, 53], [97, 54], [97, 55]]
def nameV (r : Int) : List UInt8 := if r < 0 then [] else (regsV[r.toNat]?).getD []
def regV (q : List UInt8) : Int := Old.idxL regsV q 0
theorem nameV_o {g : Int} (h : ((decide (g < 0)) || (decide (g > 7))) = true) : nameV g = [] := by
  unfold nameV
  simp only [Bool.or_eq_true, decide_eq_true_eq] at h
  rcases h with h | h
  · rw [if_pos h]
  · rw [if_neg (by omega), List.getElem?_eq_none (by show regsV.length ≤ _; have : regsV.length = 8 := rfl; omega)]; rfl
theorem regnm_v (r : Int) : regnm0 [97, 48] [97, 49] [97, 50] [97, 51] [97, 52] [97, 53] [97, 54] [97, 55] r = nameV r := by
  unfold regnm0
  split
  · next h => rw [nameV_o (by revert h; simp only [Bool.or_eq_true, decide_eq_true_eq]; omega)]
  · next h =>
    have : r = 0 ∨ r = 1 ∨ r = 2 ∨ r = 3 ∨ r = 4 ∨ r = 5 ∨ r = 6 ∨ r = 7 := by
      revert h; simp only [Bool.or_eq_true, decide_eq_true_eq]; omega
    rcases this with e | e | e | e | e | e | e | e <;> subst e <;> rfl
theorem vname_ (r : Int)  : Fn Tryz.prog 110 [.int .i64 r] [] (Rt (.str (nameV r)) []) :=
 enterM (n := 6) (by kernel_rfl) Tryz.func110 rfl rfl rfl fun G w a h0 A => N hX 7 A rfl rfl fun A => CALL1 [] rregs_ A rfl rfl rfl rfl rfl rfl rfl fun A => N hX 1 A rfl rfl fun A => CALL1 [] (regnm_ [97, 48] [97, 49] [97, 50] [97, 51] [97, 52] [97, 53] [97, 54] [97, 55] r) A rfl rfl rfl rfl rfl rfl rfl fun A => N hX 4 A rfl rfl fun A => RETN hX A rfl rfl rfl h0 rfl rfl rfl rfl (by rw [← regnm_v] <;> rfl) rfl
def rgA (nf : Int → List UInt8) (k j : Nat) : List UInt8 := if j < k then nf j else []
theorem rgA_ne {nf : Int → List UInt8} {k j : Nat} (h : j ≠ k) : rgA nf (k + 1) j = rgA nf k j := by
  unfold rgA
  by_cases hj : j < k
  · rw [if_pos hj, if_pos (by omega)]
  · rw [if_neg hj, if_neg (by omega)]
theorem rgA_at {nf : Int → List UInt8} {k : Nat} : rgA nf (k + 1) k = nf k := by unfold rgA; rw [if_pos (by omega)]
def rgL (nf : Int → List UInt8) : List (List UInt8) := [nf 0, nf 1, nf 2, nf 3, nf 4, nf 5, nf 6, nf 7]
theorem rgA_8 {nf : Int → List UInt8} (j : Nat) (h : j < 8) : (rgL nf).getD j [] = rgA nf 8 j := by
  have : j = 0 ∨ j = 1 ∨ j = 2 ∨ j = 3 ∨ j = 4 ∨ j = 5 ∨ j = 6 ∨ j = 7 := by omega
  rcases this with e | e | e | e | e | e | e | e <;> subst e <;> rfl
theorem regnX_   : Fn Tryz.prog 108 [.fn 109 []] [] (Rt (.sl 0 8 8) [some (.row 9 1 8 8 (fun zz => [.str ((rgL Old.nameF).getD zz [])]))]) :=
 enterM (n := 19) (by kernel_rfl) Tryz.func108 rfl rfl rfl fun G w a h0 A => N hX 7 A rfl rfl fun A => q_eff A rfl (mkE' (m := 8) (fun j => [.str (rgA Old.nameF 0 j)]) (fun j => by show [SV.str (rgA Old.nameF 0 j)] = _; unfold rgA; rw [if_neg (by omega)]) rfl rfl rfl rfl (by kernel_rfl) strInfo (by omega) rfl) fun A => N hX 12 A rfl rfl fun A => LOOP1 (fun (k : Nat) => [(0, .fn 109 []), (2, .sla none 0 0), (3, .sl 0 8 8), (7, .int .i64 ((8 : Nat) : Int)), (8, .int .i64 (k : Int))]) (fun (k : Nat) => [some (.row 9 1 8 8 (fun j => [.str (rgA Old.nameF k j)]))]) (fun (k : Nat) => k ≤ 8 ∧ True) (fun (k : Nat) => 8 - k) 0 ⟨by omega, trivial⟩ ((A.cut [0, 2, 3, 7, 8] rfl).trunc 1 rfl rfl rfl (by simp only [List.length_cons, List.length_nil] at h0; omega)) fun k hI {G a w} A => N hX 6 A rfl rfl fun A => forkD 9 A rfl
   (fun h1 A => N hX 16 A rfl rfl fun A => CALL1 [] (xname_ (k : Int)) A rfl rfl rfl rfl rfl rfl rfl fun A => N hX 1 A rfl (ok_d (by have := hI.1; omega) <| okE_nil) fun A => STR (i := 0) (e := 9) (s := 1) (m := 8) (c := 8) hX k (fun j => [.str (rgA Old.nameF (k + 1) j)]) A rfl rfl (Int.toNat_natCast k) (by omega) (fun z hz => by show [SV.str _] = [SV.str _]; rw [rgA_ne hz]) (by show _ = some [SV.str _]; rw [rgA_at]; rfl) fun A => N hX 7 A rfl (ok_d (by have := hI.1; omega) <| okE_nil) fun A => ⟨k + 1, _, (by omega), ⟨by omega, trivial⟩, ((A.cut [0, 2, 3, 7, 8] rfl).trunc 1 rfl rfl rfl (by simp only [List.length_cons, List.length_nil] at h0; omega))⟩)
   (fun h1 A => N hX 10 A rfl rfl fun A => have A := A.rowAs 0 8 (fun zz => [.str ((rgL Old.nameF).getD zz [])]) rfl rfl (fun j hj => by show [SV.str _] = [SV.str (rgA Old.nameF k j)]; rw [show k = 8 by have := hI.1; omega, rgA_8 j hj]) (fun z => ⟨_, rfl, rfl⟩); RET hX [0] A ⟨rfl, rfl⟩ rfl rfl rfl rfl rfl rfl rfl rfl h0)
theorem regnV_   : Fn Tryz.prog 108 [.fn 110 []] [] (Rt (.sl 0 8 8) [some (.row 9 1 8 8 (fun zz => [.str ((rgL nameV).getD zz [])]))]) :=
 enterM (n := 19) (by kernel_rfl) Tryz.func108 rfl rfl rfl fun G w a h0 A => N hX 7 A rfl rfl fun A => q_eff A rfl (mkE' (m := 8) (fun j => [.str (rgA nameV 0 j)]) (fun j => by show [SV.str (rgA nameV 0 j)] = _; unfold rgA; rw [if_neg (by omega)]) rfl rfl rfl rfl (by kernel_rfl) strInfo (by omega) rfl) fun A => N hX 12 A rfl rfl fun A => LOOP1 (fun (k : Nat) => [(0, .fn 110 []), (2, .sla none 0 0), (3, .sl 0 8 8), (7, .int .i64 ((8 : Nat) : Int)), (8, .int .i64 (k : Int))]) (fun (k : Nat) => [some (.row 9 1 8 8 (fun j => [.str (rgA nameV k j)]))]) (fun (k : Nat) => k ≤ 8 ∧ True) (fun (k : Nat) => 8 - k) 0 ⟨by omega, trivial⟩ ((A.cut [0, 2, 3, 7, 8] rfl).trunc 1 rfl rfl rfl (by simp only [List.length_cons, List.length_nil] at h0; omega)) fun k hI {G a w} A => N hX 6 A rfl rfl fun A => forkD 9 A rfl
   (fun h1 A => N hX 16 A rfl rfl fun A => CALL1 [] (vname_ (k : Int)) A rfl rfl rfl rfl rfl rfl rfl fun A => N hX 1 A rfl (ok_d (by have := hI.1; omega) <| okE_nil) fun A => STR (i := 0) (e := 9) (s := 1) (m := 8) (c := 8) hX k (fun j => [.str (rgA nameV (k + 1) j)]) A rfl rfl (Int.toNat_natCast k) (by omega) (fun z hz => by show [SV.str _] = [SV.str _]; rw [rgA_ne hz]) (by show _ = some [SV.str _]; rw [rgA_at]; rfl) fun A => N hX 7 A rfl (ok_d (by have := hI.1; omega) <| okE_nil) fun A => ⟨k + 1, _, (by omega), ⟨by omega, trivial⟩, ((A.cut [0, 2, 3, 7, 8] rfl).trunc 1 rfl rfl rfl (by simp only [List.length_cons, List.length_nil] at h0; omega))⟩)
   (fun h1 A => N hX 10 A rfl rfl fun A => have A := A.rowAs 0 8 (fun zz => [.str ((rgL nameV).getD zz [])]) rfl rfl (fun j hj => by show [SV.str _] = [SV.str (rgA nameV k j)]; rw [show k = 8 by have := hI.1; omega, rgA_8 j hj]) (fun z => ⟨_, rfl, rfl⟩); RET hX [0] A ⟨rfl, rfl⟩ rfl rfl rfl rfl rfl rfl rfl rfl h0)
theorem regnA_   : Fn Tryz.prog 108 [.fn 14 []] [] (Rt (.sl 0 8 8) [some (.row 9 1 8 8 (fun zz => [.str ((rgL nameA).getD zz [])]))]) :=
 enterM (n := 19) (by kernel_rfl) Tryz.func108 rfl rfl rfl fun G w a h0 A => N hX 7 A rfl rfl fun A => q_eff A rfl (mkE' (m := 8) (fun j => [.str (rgA nameA 0 j)]) (fun j => by show [SV.str (rgA nameA 0 j)] = _; unfold rgA; rw [if_neg (by omega)]) rfl rfl rfl rfl (by kernel_rfl) strInfo (by omega) rfl) fun A => N hX 12 A rfl rfl fun A => LOOP1 (fun (k : Nat) => [(0, .fn 14 []), (2, .sla none 0 0), (3, .sl 0 8 8), (7, .int .i64 ((8 : Nat) : Int)), (8, .int .i64 (k : Int))]) (fun (k : Nat) => [some (.row 9 1 8 8 (fun j => [.str (rgA nameA k j)]))]) (fun (k : Nat) => k ≤ 8 ∧ True) (fun (k : Nat) => 8 - k) 0 ⟨by omega, trivial⟩ ((A.cut [0, 2, 3, 7, 8] rfl).trunc 1 rfl rfl rfl (by simp only [List.length_cons, List.length_nil] at h0; omega)) fun k hI {G a w} A => N hX 6 A rfl rfl fun A => forkD 9 A rfl
   (fun h1 A => N hX 16 A rfl rfl fun A => CALL1 [] (aname_ (k : Int)) A rfl rfl rfl rfl rfl rfl rfl fun A => N hX 1 A rfl (ok_d (by have := hI.1; omega) <| okE_nil) fun A => STR (i := 0) (e := 9) (s := 1) (m := 8) (c := 8) hX k (fun j => [.str (rgA nameA (k + 1) j)]) A rfl rfl (Int.toNat_natCast k) (by omega) (fun z hz => by show [SV.str _] = [SV.str _]; rw [rgA_ne hz]) (by show _ = some [SV.str _]; rw [rgA_at]; rfl) fun A => N hX 7 A rfl (ok_d (by have := hI.1; omega) <| okE_nil) fun A => ⟨k + 1, _, (by omega), ⟨by omega, trivial⟩, ((A.cut [0, 2, 3, 7, 8] rfl).trunc 1 rfl rfl rfl (by simp only [List.length_cons, List.length_nil] at h0; omega))⟩)
   (fun h1 A => N hX 10 A rfl rfl fun A => have A := A.rowAs 0 8 (fun zz => [.str ((rgL nameA).getD zz [])]) rfl rfl (fun j hj => by show [SV.str _] = [SV.str (rgA nameA k j)]; rw [show k = 8 by have := hI.1; omega, rgA_8 j hj]) (fun z => ⟨_, rfl, rfl⟩); RET hX [0] A ⟨rfl, rfl⟩ rfl rfl rfl rfl rfl rfl rfl rfl h0)
theorem regs1_   : Fn Tryz.prog 45 [.int .i64 1] [] (Rt (.sl 0 8 8) [some (.row 9 1 8 8 (fun zz => [.str ((rgL Old.nameF).getD zz [])]))]) :=
 enterM (n := 13) (by kernel_rfl) Tryz.func45 rfl rfl rfl fun G w a h0 A => N hX 18 A rfl rfl fun A => forkE 4 A rfl
  (fun h1 A => N hX 3 A rfl rfl fun A => CALL1 [] regnX_ A rfl rfl rfl rfl rfl rfl rfl fun A => N hX 4 A rfl rfl fun A => RET hX [0] A ⟨rfl, rfl⟩ rfl rfl rfl rfl rfl rfl rfl rfl h0)
  (fun h1 A => absurd rfl h1)
theorem regs2_   : Fn Tryz.prog 45 [.int .i64 2] [] (Rt (.sl 0 8 8) [some (.row 9 1 8 8 (fun zz => [.str ((rgL nameV).getD zz [])]))]) :=
 enterM (n := 13) (by kernel_rfl) Tryz.func45 rfl rfl rfl fun G w a h0 A => N hX 18 A rfl rfl fun A => forkE 4 A rfl
  (fun h1 A => absurd h1 (by decide))
  (fun h1 A => N hX 7 A rfl rfl fun A => forkE 7 A rfl
   (fun h2 A => N hX 3 A rfl rfl fun A => CALL1 [] regnV_ A rfl rfl rfl rfl rfl rfl rfl fun A => N hX 4 A rfl rfl fun A => RET hX [0] A ⟨rfl, rfl⟩ rfl rfl rfl rfl rfl rfl rfl rfl h0)
   (fun h2 A => absurd rfl h2))
theorem regs3_   : Fn Tryz.prog 45 [.int .i64 3] [] (Rt (.sl 0 8 8) [some (.row 9 1 8 8 (fun zz => [.str ((rgL nameA).getD zz [])]))]) :=
 enterM (n := 13) (by kernel_rfl) Tryz.func45 rfl rfl rfl fun G w a h0 A => N hX 18 A rfl rfl fun A => forkE 4 A rfl
  (fun h1 A => absurd h1 (by decide))
  (fun h1 A => N hX 7 A rfl rfl fun A => forkE 7 A rfl
   (fun h2 A => absurd h2 (by decide))
   (fun h2 A => N hX 7 A rfl rfl fun A => forkE 10 A rfl
    (fun h3 A => N hX 3 A rfl rfl fun A => CALL1 [] regnA_ A rfl rfl rfl rfl rfl rfl rfl fun A => N hX 4 A rfl rfl fun A => RET hX [0] A ⟨rfl, rfl⟩ rfl rfl rfl rfl rfl rfl rfl rfl h0)
    (fun h3 A => absurd rfl h3)))
def cpZ (ws : List Tk) (rs : List (List UInt8)) : Cs := coF ws rs (ws.length - 0 + 1) ⟨⟨0, 0, 0⟩, [], 0, fun _ => 0, 0⟩
def cpS (ws : List Tk) (rs : List (List UInt8)) : As := endA ws (bif decide ((cpZ ws rs).op > 0) then refA ws (cpZ ws rs).s 22 else (cpZ ws rs).s)
def cpN (ws : List Tk) (rs : List (List UInt8)) : List Cn := (setF 5 (cpZ ws rs).wf (cpZ ws rs).m (cpZ ws rs).ns).2
theorem coF_ok {ws : List Tk} {rs : List (List UInt8)} : ∀ (f : Nat) (z : Cs), z.s.p ≤ ws.length → z.op = (brk z.wf z.m : Int) → z.ns.length + z.m ≤ 2 * z.s.p → (coF ws rs f z).s.p ≤ ws.length ∧ (coF ws rs f z).ns.length + (coF ws rs f z).m ≤ 2 * (coF ws rs f z).s.p + 1
  | 0, z, hk, ho, hs => ⟨hk, by show z.ns.length + z.m ≤ _; exact Nat.le_succ_of_le hs⟩
  | f + 1, z, hk, ho, hs => by
    obtain ⟨r1, r2, r3, r4, r5⟩ := coR_ok (rs := rs) hk ho hs
    unfold coF
    cases hc : (coR ws rs z).1 with
    | false => rw [if_neg (by decide)]; exact ⟨r1, r4⟩
    | true => rw [if_pos rfl]; exact coF_ok f _ r1 r5 (r3 hc).2
theorem cpZ_ok (ws : List Tk) (rs : List (List UInt8)) : (cpZ ws rs).s.p ≤ ws.length ∧ (cpZ ws rs).ns.length + (cpZ ws rs).m ≤ 2 * (cpZ ws rs).s.p + 1 := coF_ok _ _ (Nat.zero_le _) rfl (Nat.le_refl _)
theorem cp_le (ws : List Tk) (rs : List (List UInt8)) : (bif decide ((cpZ ws rs).op > 0) then refA ws (cpZ ws rs).s 22 else (cpZ ws rs).s).p ≤ ws.length := by
  cases decide ((cpZ ws rs).op > 0)
  · exact (cpZ_ok ws rs).1
  · show (refA ws (cpZ ws rs).s 22).p ≤ _; rw [refA_p]; exact (cpZ_ok ws rs).1
def cpE (ws : List Tk) (rs : List (List UInt8)) : Int := if (cpS ws rs).e ≠ 0 then (cpS ws rs).e else 2
def cpA (ws : List Tk) (rs : List (List UInt8)) : Int := if (cpS ws rs).e ≠ 0 then (cpS ws rs).a else atW ws 0
theorem cparse1_no (ws : List Tk) (cw : Nat) (hn : ws.length ≤ 10000) (hw : WsOK ws) (hq : ¬ ((cpS ws (rgL Old.nameF)).e = 0 ∧ (cpN ws (rgL Old.nameF)).length ≤ 32)) : Fn Tryz.prog 19 [.int .i64 1, .sl 0 ws.length cw] [some (.lst 4 ws.length (fun zz => tkc (ws.getD zz tok0)))] (Rt (.tup [.sla none 0 0, .int .i64 (cpE ws (rgL Old.nameF)), .int .i64 (cpA ws (rgL Old.nameF))]) [some (.lst 4 ws.length (fun zz => tkc (ws.getD zz tok0)))]) :=
 enterM (n := 59) (by kernel_rfl) Tryz.func19 rfl rfl rfl fun G w a h0 A => N hX 10 A rfl rfl fun A => CALL1 [] regs1_ A rfl rfl rfl rfl rfl rfl rfl fun A => N hX 7 A rfl rfl fun A => NILR hX A rfl rfl (by omega) fun A => N hX 8 A rfl rfl fun A => CALL1 [0] (askNew_ ws cw (by omega)) A rfl rfl rfl rfl rfl rfl rfl fun A => N hX 7 A rfl rfl fun A => have A := A.freeze 1 rfl; have A := A.freeze 4 rfl; have A := A.nilCell 5 88 5 (fun zz => cc (([] : List Cn).getD zz Cn.z)) [.ptr 2 0, .sl 1 8 8, .sl 6 0 0, .sla none 0 0, .int .i64 0] rfl (fun G' hG vs h => (denL_at (den_nil hG) [.ptr 2 0, .sl 1 8 8] [.sla none 0 0, .int .i64 0]).trans h) (fun z => ⟨_, rfl, rfl⟩); have A := A.nilCell 5 3 1 (fun zz => [.int .i64 ((fun _ => 0) zz)]) [.ptr 2 0, .sl 1 8 8, .sl 6 0 0, .sl 7 0 0, .int .i64 0] rfl (fun G' hG vs h => (denL_at (den_nil hG) [.ptr 2 0, .sl 1 8 8, .sl 6 0 0] [.int .i64 0]).trans h) (fun z => ⟨_, rfl, rfl⟩); N hX 8 A rfl rfl fun A => CALL1 [3, 4] (at_W ws 0 0 (by first | exact Nat.zero_le _ | exact cp_le ws (rgL Old.nameF) | exact endA_le (cp_le ws (rgL Old.nameF))) (by omega) hw) A rfl rfl rfl rfl rfl rfl rfl fun A => N hX 6 A rfl rfl fun A => CALL1 [5, 2, 3, 4, 1, 6, 7] (condition_ ws 0 (rgL Old.nameF) 8 (⟨0, 0, 0⟩ : As) ([] : List Cn) 0 (fun _ => 0) 0 (Nat.zero_le _) (by omega) hw (by decide) (by decide) (by show 8 ≤ 1000; decide) rfl (Nat.le_refl _)) A rfl rfl rfl rfl rfl rfl rfl fun A => N hX 8 A rfl rfl fun A => CALL1 [2, 3, 4] (end_ ws 0 (bif decide ((coF ws (rgL Old.nameF) (ws.length - (⟨0, 0, 0⟩ : As).p + 1) (⟨(⟨0, 0, 0⟩ : As), ([] : List Cn), 0, fun _ => 0, 0⟩ : Cs)).op > 0) then refA ws (coF ws (rgL Old.nameF) (ws.length - (⟨0, 0, 0⟩ : As).p + 1) (⟨(⟨0, 0, 0⟩ : As), ([] : List Cn), 0, fun _ => 0, 0⟩ : Cs)).s 22 else (coF ws (rgL Old.nameF) (ws.length - (⟨0, 0, 0⟩ : As).p + 1) (⟨(⟨0, 0, 0⟩ : As), ([] : List Cn), 0, fun _ => 0, 0⟩ : Cs)).s) (by first | exact Nat.zero_le _ | exact cp_le ws (rgL Old.nameF) | exact endA_le (cp_le ws (rgL Old.nameF))) (by omega) hw) A rfl rfl rfl rfl rfl rfl rfl fun A => N hX 9 A rfl rfl fun A => CALL1 [2, 3, 4] (fault_ ws 0 (endA ws (bif decide ((coF ws (rgL Old.nameF) (ws.length - (⟨0, 0, 0⟩ : As).p + 1) (⟨(⟨0, 0, 0⟩ : As), ([] : List Cn), 0, fun _ => 0, 0⟩ : Cs)).op > 0) then refA ws (coF ws (rgL Old.nameF) (ws.length - (⟨0, 0, 0⟩ : As).p + 1) (⟨(⟨0, 0, 0⟩ : As), ([] : List Cn), 0, fun _ => 0, 0⟩ : Cs)).s 22 else (coF ws (rgL Old.nameF) (ws.length - (⟨0, 0, 0⟩ : As).p + 1) (⟨(⟨0, 0, 0⟩ : As), ([] : List Cn), 0, fun _ => 0, 0⟩ : Cs)).s)) (by first | exact Nat.zero_le _ | exact cp_le ws (rgL Old.nameF) | exact endA_le (cp_le ws (rgL Old.nameF))) (by omega) hw) A rfl rfl rfl rfl rfl rfl rfl fun A => N hX 13 A rfl rfl fun A => forkN 45 A rfl
  (fun h1 A => N hX 11 A rfl rfl fun A => (by unfold cpE cpA; rw [if_pos (show (cpS ws (rgL Old.nameF)).e ≠ 0 from h1), if_pos (show (cpS ws (rgL Old.nameF)).e ≠ 0 from h1)]; exact RETN hX A rfl rfl rfl h0 rfl rfl rfl rfl rfl rfl))
  (fun h1 A => N hX 14 A rfl rfl fun A => forkD 53 A rfl
   (fun h2 A => N hX 10 A rfl rfl fun A => (by unfold cpE cpA; rw [if_neg (show ¬ (cpS ws (rgL Old.nameF)).e ≠ 0 from not_not_intro h1), if_neg (show ¬ (cpS ws (rgL Old.nameF)).e ≠ 0 from not_not_intro h1)]; exact RETN hX A rfl rfl rfl h0 rfl rfl rfl rfl rfl rfl))
   (fun h2 A => N hX 15 A rfl rfl fun A => (by exact absurd ⟨(show (cpS ws (rgL Old.nameF)).e = 0 from h1), (by have : ¬ (((cpN ws (rgL Old.nameF)).length : Nat) : Int) > 32 := h2; omega)⟩ hq)))
theorem cparse1_ok (ws : List Tk) (cw : Nat) (hn : ws.length ≤ 10000) (hw : WsOK ws) (hq : (cpS ws (rgL Old.nameF)).e = 0 ∧ (cpN ws (rgL Old.nameF)).length ≤ 32) : Fn Tryz.prog 19 [.int .i64 1, .sl 0 ws.length cw] [some (.lst 4 ws.length (fun zz => tkc (ws.getD zz tok0)))] (Rt (.tup [.sl 1 ((cpN ws (rgL Old.nameF)).length) 0, .int .i64 0, .int .i64 0]) [some (.lst 4 ws.length (fun zz => tkc (ws.getD zz tok0))), some (.row 88 5 ((cpN ws (rgL Old.nameF)).length) 0 (fun zz => cc ((cpN ws (rgL Old.nameF)).getD zz Cn.z)))]) :=
 enterM (n := 59) (by kernel_rfl) Tryz.func19 rfl rfl rfl fun G w a h0 A => N hX 10 A rfl rfl fun A => CALL1 [] regs1_ A rfl rfl rfl rfl rfl rfl rfl fun A => N hX 7 A rfl rfl fun A => NILR hX A rfl rfl (by omega) fun A => N hX 8 A rfl rfl fun A => CALL1 [0] (askNew_ ws cw (by omega)) A rfl rfl rfl rfl rfl rfl rfl fun A => N hX 7 A rfl rfl fun A => have A := A.freeze 1 rfl; have A := A.freeze 4 rfl; have A := A.nilCell 5 88 5 (fun zz => cc (([] : List Cn).getD zz Cn.z)) [.ptr 2 0, .sl 1 8 8, .sl 6 0 0, .sla none 0 0, .int .i64 0] rfl (fun G' hG vs h => (denL_at (den_nil hG) [.ptr 2 0, .sl 1 8 8] [.sla none 0 0, .int .i64 0]).trans h) (fun z => ⟨_, rfl, rfl⟩); have A := A.nilCell 5 3 1 (fun zz => [.int .i64 ((fun _ => 0) zz)]) [.ptr 2 0, .sl 1 8 8, .sl 6 0 0, .sl 7 0 0, .int .i64 0] rfl (fun G' hG vs h => (denL_at (den_nil hG) [.ptr 2 0, .sl 1 8 8, .sl 6 0 0] [.int .i64 0]).trans h) (fun z => ⟨_, rfl, rfl⟩); N hX 8 A rfl rfl fun A => CALL1 [3, 4] (at_W ws 0 0 (by first | exact Nat.zero_le _ | exact cp_le ws (rgL Old.nameF) | exact endA_le (cp_le ws (rgL Old.nameF))) (by omega) hw) A rfl rfl rfl rfl rfl rfl rfl fun A => N hX 6 A rfl rfl fun A => CALL1 [5, 2, 3, 4, 1, 6, 7] (condition_ ws 0 (rgL Old.nameF) 8 (⟨0, 0, 0⟩ : As) ([] : List Cn) 0 (fun _ => 0) 0 (Nat.zero_le _) (by omega) hw (by decide) (by decide) (by show 8 ≤ 1000; decide) rfl (Nat.le_refl _)) A rfl rfl rfl rfl rfl rfl rfl fun A => N hX 8 A rfl rfl fun A => CALL1 [2, 3, 4] (end_ ws 0 (bif decide ((coF ws (rgL Old.nameF) (ws.length - (⟨0, 0, 0⟩ : As).p + 1) (⟨(⟨0, 0, 0⟩ : As), ([] : List Cn), 0, fun _ => 0, 0⟩ : Cs)).op > 0) then refA ws (coF ws (rgL Old.nameF) (ws.length - (⟨0, 0, 0⟩ : As).p + 1) (⟨(⟨0, 0, 0⟩ : As), ([] : List Cn), 0, fun _ => 0, 0⟩ : Cs)).s 22 else (coF ws (rgL Old.nameF) (ws.length - (⟨0, 0, 0⟩ : As).p + 1) (⟨(⟨0, 0, 0⟩ : As), ([] : List Cn), 0, fun _ => 0, 0⟩ : Cs)).s) (by first | exact Nat.zero_le _ | exact cp_le ws (rgL Old.nameF) | exact endA_le (cp_le ws (rgL Old.nameF))) (by omega) hw) A rfl rfl rfl rfl rfl rfl rfl fun A => N hX 9 A rfl rfl fun A => CALL1 [2, 3, 4] (fault_ ws 0 (endA ws (bif decide ((coF ws (rgL Old.nameF) (ws.length - (⟨0, 0, 0⟩ : As).p + 1) (⟨(⟨0, 0, 0⟩ : As), ([] : List Cn), 0, fun _ => 0, 0⟩ : Cs)).op > 0) then refA ws (coF ws (rgL Old.nameF) (ws.length - (⟨0, 0, 0⟩ : As).p + 1) (⟨(⟨0, 0, 0⟩ : As), ([] : List Cn), 0, fun _ => 0, 0⟩ : Cs)).s 22 else (coF ws (rgL Old.nameF) (ws.length - (⟨0, 0, 0⟩ : As).p + 1) (⟨(⟨0, 0, 0⟩ : As), ([] : List Cn), 0, fun _ => 0, 0⟩ : Cs)).s)) (by first | exact Nat.zero_le _ | exact cp_le ws (rgL Old.nameF) | exact endA_le (cp_le ws (rgL Old.nameF))) (by omega) hw) A rfl rfl rfl rfl rfl rfl rfl fun A => N hX 13 A rfl rfl fun A => forkN 45 A rfl
  (fun h1 A => N hX 11 A rfl rfl fun A => (by exact absurd (show (cpS ws (rgL Old.nameF)).e = 0 from hq.1) h1))
  (fun h1 A => N hX 14 A rfl rfl fun A => forkD 53 A rfl
   (fun h2 A => N hX 10 A rfl rfl fun A => (by exact absurd (show (((cpN ws (rgL Old.nameF)).length : Nat) : Int) > 32 from h2) (by have := hq.2; omega)))
   (fun h2 A => N hX 15 A rfl rfl fun A => (by exact RET hX [8] A ⟨rfl, rfl⟩ rfl rfl rfl rfl rfl rfl rfl rfl h0)))
theorem cparse2_no (ws : List Tk) (cw : Nat) (hn : ws.length ≤ 10000) (hw : WsOK ws) (hq : ¬ ((cpS ws (rgL nameV)).e = 0 ∧ (cpN ws (rgL nameV)).length ≤ 32)) : Fn Tryz.prog 19 [.int .i64 2, .sl 0 ws.length cw] [some (.lst 4 ws.length (fun zz => tkc (ws.getD zz tok0)))] (Rt (.tup [.sla none 0 0, .int .i64 (cpE ws (rgL nameV)), .int .i64 (cpA ws (rgL nameV))]) [some (.lst 4 ws.length (fun zz => tkc (ws.getD zz tok0)))]) :=
 enterM (n := 59) (by kernel_rfl) Tryz.func19 rfl rfl rfl fun G w a h0 A => N hX 10 A rfl rfl fun A => CALL1 [] regs2_ A rfl rfl rfl rfl rfl rfl rfl fun A => N hX 7 A rfl rfl fun A => NILR hX A rfl rfl (by omega) fun A => N hX 8 A rfl rfl fun A => CALL1 [0] (askNew_ ws cw (by omega)) A rfl rfl rfl rfl rfl rfl rfl fun A => N hX 7 A rfl rfl fun A => have A := A.freeze 1 rfl; have A := A.freeze 4 rfl; have A := A.nilCell 5 88 5 (fun zz => cc (([] : List Cn).getD zz Cn.z)) [.ptr 2 0, .sl 1 8 8, .sl 6 0 0, .sla none 0 0, .int .i64 0] rfl (fun G' hG vs h => (denL_at (den_nil hG) [.ptr 2 0, .sl 1 8 8] [.sla none 0 0, .int .i64 0]).trans h) (fun z => ⟨_, rfl, rfl⟩); have A := A.nilCell 5 3 1 (fun zz => [.int .i64 ((fun _ => 0) zz)]) [.ptr 2 0, .sl 1 8 8, .sl 6 0 0, .sl 7 0 0, .int .i64 0] rfl (fun G' hG vs h => (denL_at (den_nil hG) [.ptr 2 0, .sl 1 8 8, .sl 6 0 0] [.int .i64 0]).trans h) (fun z => ⟨_, rfl, rfl⟩); N hX 8 A rfl rfl fun A => CALL1 [3, 4] (at_W ws 0 0 (by first | exact Nat.zero_le _ | exact cp_le ws (rgL nameV) | exact endA_le (cp_le ws (rgL nameV))) (by omega) hw) A rfl rfl rfl rfl rfl rfl rfl fun A => N hX 6 A rfl rfl fun A => CALL1 [5, 2, 3, 4, 1, 6, 7] (condition_ ws 0 (rgL nameV) 8 (⟨0, 0, 0⟩ : As) ([] : List Cn) 0 (fun _ => 0) 0 (Nat.zero_le _) (by omega) hw (by decide) (by decide) (by show 8 ≤ 1000; decide) rfl (Nat.le_refl _)) A rfl rfl rfl rfl rfl rfl rfl fun A => N hX 8 A rfl rfl fun A => CALL1 [2, 3, 4] (end_ ws 0 (bif decide ((coF ws (rgL nameV) (ws.length - (⟨0, 0, 0⟩ : As).p + 1) (⟨(⟨0, 0, 0⟩ : As), ([] : List Cn), 0, fun _ => 0, 0⟩ : Cs)).op > 0) then refA ws (coF ws (rgL nameV) (ws.length - (⟨0, 0, 0⟩ : As).p + 1) (⟨(⟨0, 0, 0⟩ : As), ([] : List Cn), 0, fun _ => 0, 0⟩ : Cs)).s 22 else (coF ws (rgL nameV) (ws.length - (⟨0, 0, 0⟩ : As).p + 1) (⟨(⟨0, 0, 0⟩ : As), ([] : List Cn), 0, fun _ => 0, 0⟩ : Cs)).s) (by first | exact Nat.zero_le _ | exact cp_le ws (rgL nameV) | exact endA_le (cp_le ws (rgL nameV))) (by omega) hw) A rfl rfl rfl rfl rfl rfl rfl fun A => N hX 9 A rfl rfl fun A => CALL1 [2, 3, 4] (fault_ ws 0 (endA ws (bif decide ((coF ws (rgL nameV) (ws.length - (⟨0, 0, 0⟩ : As).p + 1) (⟨(⟨0, 0, 0⟩ : As), ([] : List Cn), 0, fun _ => 0, 0⟩ : Cs)).op > 0) then refA ws (coF ws (rgL nameV) (ws.length - (⟨0, 0, 0⟩ : As).p + 1) (⟨(⟨0, 0, 0⟩ : As), ([] : List Cn), 0, fun _ => 0, 0⟩ : Cs)).s 22 else (coF ws (rgL nameV) (ws.length - (⟨0, 0, 0⟩ : As).p + 1) (⟨(⟨0, 0, 0⟩ : As), ([] : List Cn), 0, fun _ => 0, 0⟩ : Cs)).s)) (by first | exact Nat.zero_le _ | exact cp_le ws (rgL nameV) | exact endA_le (cp_le ws (rgL nameV))) (by omega) hw) A rfl rfl rfl rfl rfl rfl rfl fun A => N hX 13 A rfl rfl fun A => forkN 45 A rfl
  (fun h1 A => N hX 11 A rfl rfl fun A => (by unfold cpE cpA; rw [if_pos (show (cpS ws (rgL nameV)).e ≠ 0 from h1), if_pos (show (cpS ws (rgL nameV)).e ≠ 0 from h1)]; exact RETN hX A rfl rfl rfl h0 rfl rfl rfl rfl rfl rfl))
  (fun h1 A => N hX 14 A rfl rfl fun A => forkD 53 A rfl
   (fun h2 A => N hX 10 A rfl rfl fun A => (by unfold cpE cpA; rw [if_neg (show ¬ (cpS ws (rgL nameV)).e ≠ 0 from not_not_intro h1), if_neg (show ¬ (cpS ws (rgL nameV)).e ≠ 0 from not_not_intro h1)]; exact RETN hX A rfl rfl rfl h0 rfl rfl rfl rfl rfl rfl))
   (fun h2 A => N hX 15 A rfl rfl fun A => (by exact absurd ⟨(show (cpS ws (rgL nameV)).e = 0 from h1), (by have : ¬ (((cpN ws (rgL nameV)).length : Nat) : Int) > 32 := h2; omega)⟩ hq)))
theorem cparse2_ok (ws : List Tk) (cw : Nat) (hn : ws.length ≤ 10000) (hw : WsOK ws) (hq : (cpS ws (rgL nameV)).e = 0 ∧ (cpN ws (rgL nameV)).length ≤ 32) : Fn Tryz.prog 19 [.int .i64 2, .sl 0 ws.length cw] [some (.lst 4 ws.length (fun zz => tkc (ws.getD zz tok0)))] (Rt (.tup [.sl 1 ((cpN ws (rgL nameV)).length) 0, .int .i64 0, .int .i64 0]) [some (.lst 4 ws.length (fun zz => tkc (ws.getD zz tok0))), some (.row 88 5 ((cpN ws (rgL nameV)).length) 0 (fun zz => cc ((cpN ws (rgL nameV)).getD zz Cn.z)))]) :=
 enterM (n := 59) (by kernel_rfl) Tryz.func19 rfl rfl rfl fun G w a h0 A => N hX 10 A rfl rfl fun A => CALL1 [] regs2_ A rfl rfl rfl rfl rfl rfl rfl fun A => N hX 7 A rfl rfl fun A => NILR hX A rfl rfl (by omega) fun A => N hX 8 A rfl rfl fun A => CALL1 [0] (askNew_ ws cw (by omega)) A rfl rfl rfl rfl rfl rfl rfl fun A => N hX 7 A rfl rfl fun A => have A := A.freeze 1 rfl; have A := A.freeze 4 rfl; have A := A.nilCell 5 88 5 (fun zz => cc (([] : List Cn).getD zz Cn.z)) [.ptr 2 0, .sl 1 8 8, .sl 6 0 0, .sla none 0 0, .int .i64 0] rfl (fun G' hG vs h => (denL_at (den_nil hG) [.ptr 2 0, .sl 1 8 8] [.sla none 0 0, .int .i64 0]).trans h) (fun z => ⟨_, rfl, rfl⟩); have A := A.nilCell 5 3 1 (fun zz => [.int .i64 ((fun _ => 0) zz)]) [.ptr 2 0, .sl 1 8 8, .sl 6 0 0, .sl 7 0 0, .int .i64 0] rfl (fun G' hG vs h => (denL_at (den_nil hG) [.ptr 2 0, .sl 1 8 8, .sl 6 0 0] [.int .i64 0]).trans h) (fun z => ⟨_, rfl, rfl⟩); N hX 8 A rfl rfl fun A => CALL1 [3, 4] (at_W ws 0 0 (by first | exact Nat.zero_le _ | exact cp_le ws (rgL nameV) | exact endA_le (cp_le ws (rgL nameV))) (by omega) hw) A rfl rfl rfl rfl rfl rfl rfl fun A => N hX 6 A rfl rfl fun A => CALL1 [5, 2, 3, 4, 1, 6, 7] (condition_ ws 0 (rgL nameV) 8 (⟨0, 0, 0⟩ : As) ([] : List Cn) 0 (fun _ => 0) 0 (Nat.zero_le _) (by omega) hw (by decide) (by decide) (by show 8 ≤ 1000; decide) rfl (Nat.le_refl _)) A rfl rfl rfl rfl rfl rfl rfl fun A => N hX 8 A rfl rfl fun A => CALL1 [2, 3, 4] (end_ ws 0 (bif decide ((coF ws (rgL nameV) (ws.length - (⟨0, 0, 0⟩ : As).p + 1) (⟨(⟨0, 0, 0⟩ : As), ([] : List Cn), 0, fun _ => 0, 0⟩ : Cs)).op > 0) then refA ws (coF ws (rgL nameV) (ws.length - (⟨0, 0, 0⟩ : As).p + 1) (⟨(⟨0, 0, 0⟩ : As), ([] : List Cn), 0, fun _ => 0, 0⟩ : Cs)).s 22 else (coF ws (rgL nameV) (ws.length - (⟨0, 0, 0⟩ : As).p + 1) (⟨(⟨0, 0, 0⟩ : As), ([] : List Cn), 0, fun _ => 0, 0⟩ : Cs)).s) (by first | exact Nat.zero_le _ | exact cp_le ws (rgL nameV) | exact endA_le (cp_le ws (rgL nameV))) (by omega) hw) A rfl rfl rfl rfl rfl rfl rfl fun A => N hX 9 A rfl rfl fun A => CALL1 [2, 3, 4] (fault_ ws 0 (endA ws (bif decide ((coF ws (rgL nameV) (ws.length - (⟨0, 0, 0⟩ : As).p + 1) (⟨(⟨0, 0, 0⟩ : As), ([] : List Cn), 0, fun _ => 0, 0⟩ : Cs)).op > 0) then refA ws (coF ws (rgL nameV) (ws.length - (⟨0, 0, 0⟩ : As).p + 1) (⟨(⟨0, 0, 0⟩ : As), ([] : List Cn), 0, fun _ => 0, 0⟩ : Cs)).s 22 else (coF ws (rgL nameV) (ws.length - (⟨0, 0, 0⟩ : As).p + 1) (⟨(⟨0, 0, 0⟩ : As), ([] : List Cn), 0, fun _ => 0, 0⟩ : Cs)).s)) (by first | exact Nat.zero_le _ | exact cp_le ws (rgL nameV) | exact endA_le (cp_le ws (rgL nameV))) (by omega) hw) A rfl rfl rfl rfl rfl rfl rfl fun A => N hX 13 A rfl rfl fun A => forkN 45 A rfl
  (fun h1 A => N hX 11 A rfl rfl fun A => (by exact absurd (show (cpS ws (rgL nameV)).e = 0 from hq.1) h1))
  (fun h1 A => N hX 14 A rfl rfl fun A => forkD 53 A rfl
   (fun h2 A => N hX 10 A rfl rfl fun A => (by exact absurd (show (((cpN ws (rgL nameV)).length : Nat) : Int) > 32 from h2) (by have := hq.2; omega)))
   (fun h2 A => N hX 15 A rfl rfl fun A => (by exact RET hX [8] A ⟨rfl, rfl⟩ rfl rfl rfl rfl rfl rfl rfl rfl h0)))
theorem cparse3_no (ws : List Tk) (cw : Nat) (hn : ws.length ≤ 10000) (hw : WsOK ws) (hq : ¬ ((cpS ws (rgL nameA)).e = 0 ∧ (cpN ws (rgL nameA)).length ≤ 32)) : Fn Tryz.prog 19 [.int .i64 3, .sl 0 ws.length cw] [some (.lst 4 ws.length (fun zz => tkc (ws.getD zz tok0)))] (Rt (.tup [.sla none 0 0, .int .i64 (cpE ws (rgL nameA)), .int .i64 (cpA ws (rgL nameA))]) [some (.lst 4 ws.length (fun zz => tkc (ws.getD zz tok0)))]) :=
 enterM (n := 59) (by kernel_rfl) Tryz.func19 rfl rfl rfl fun G w a h0 A => N hX 10 A rfl rfl fun A => CALL1 [] regs3_ A rfl rfl rfl rfl rfl rfl rfl fun A => N hX 7 A rfl rfl fun A => NILR hX A rfl rfl (by omega) fun A => N hX 8 A rfl rfl fun A => CALL1 [0] (askNew_ ws cw (by omega)) A rfl rfl rfl rfl rfl rfl rfl fun A => N hX 7 A rfl rfl fun A => have A := A.freeze 1 rfl; have A := A.freeze 4 rfl; have A := A.nilCell 5 88 5 (fun zz => cc (([] : List Cn).getD zz Cn.z)) [.ptr 2 0, .sl 1 8 8, .sl 6 0 0, .sla none 0 0, .int .i64 0] rfl (fun G' hG vs h => (denL_at (den_nil hG) [.ptr 2 0, .sl 1 8 8] [.sla none 0 0, .int .i64 0]).trans h) (fun z => ⟨_, rfl, rfl⟩); have A := A.nilCell 5 3 1 (fun zz => [.int .i64 ((fun _ => 0) zz)]) [.ptr 2 0, .sl 1 8 8, .sl 6 0 0, .sl 7 0 0, .int .i64 0] rfl (fun G' hG vs h => (denL_at (den_nil hG) [.ptr 2 0, .sl 1 8 8, .sl 6 0 0] [.int .i64 0]).trans h) (fun z => ⟨_, rfl, rfl⟩); N hX 8 A rfl rfl fun A => CALL1 [3, 4] (at_W ws 0 0 (by first | exact Nat.zero_le _ | exact cp_le ws (rgL nameA) | exact endA_le (cp_le ws (rgL nameA))) (by omega) hw) A rfl rfl rfl rfl rfl rfl rfl fun A => N hX 6 A rfl rfl fun A => CALL1 [5, 2, 3, 4, 1, 6, 7] (condition_ ws 0 (rgL nameA) 8 (⟨0, 0, 0⟩ : As) ([] : List Cn) 0 (fun _ => 0) 0 (Nat.zero_le _) (by omega) hw (by decide) (by decide) (by show 8 ≤ 1000; decide) rfl (Nat.le_refl _)) A rfl rfl rfl rfl rfl rfl rfl fun A => N hX 8 A rfl rfl fun A => CALL1 [2, 3, 4] (end_ ws 0 (bif decide ((coF ws (rgL nameA) (ws.length - (⟨0, 0, 0⟩ : As).p + 1) (⟨(⟨0, 0, 0⟩ : As), ([] : List Cn), 0, fun _ => 0, 0⟩ : Cs)).op > 0) then refA ws (coF ws (rgL nameA) (ws.length - (⟨0, 0, 0⟩ : As).p + 1) (⟨(⟨0, 0, 0⟩ : As), ([] : List Cn), 0, fun _ => 0, 0⟩ : Cs)).s 22 else (coF ws (rgL nameA) (ws.length - (⟨0, 0, 0⟩ : As).p + 1) (⟨(⟨0, 0, 0⟩ : As), ([] : List Cn), 0, fun _ => 0, 0⟩ : Cs)).s) (by first | exact Nat.zero_le _ | exact cp_le ws (rgL nameA) | exact endA_le (cp_le ws (rgL nameA))) (by omega) hw) A rfl rfl rfl rfl rfl rfl rfl fun A => N hX 9 A rfl rfl fun A => CALL1 [2, 3, 4] (fault_ ws 0 (endA ws (bif decide ((coF ws (rgL nameA) (ws.length - (⟨0, 0, 0⟩ : As).p + 1) (⟨(⟨0, 0, 0⟩ : As), ([] : List Cn), 0, fun _ => 0, 0⟩ : Cs)).op > 0) then refA ws (coF ws (rgL nameA) (ws.length - (⟨0, 0, 0⟩ : As).p + 1) (⟨(⟨0, 0, 0⟩ : As), ([] : List Cn), 0, fun _ => 0, 0⟩ : Cs)).s 22 else (coF ws (rgL nameA) (ws.length - (⟨0, 0, 0⟩ : As).p + 1) (⟨(⟨0, 0, 0⟩ : As), ([] : List Cn), 0, fun _ => 0, 0⟩ : Cs)).s)) (by first | exact Nat.zero_le _ | exact cp_le ws (rgL nameA) | exact endA_le (cp_le ws (rgL nameA))) (by omega) hw) A rfl rfl rfl rfl rfl rfl rfl fun A => N hX 13 A rfl rfl fun A => forkN 45 A rfl
  (fun h1 A => N hX 11 A rfl rfl fun A => (by unfold cpE cpA; rw [if_pos (show (cpS ws (rgL nameA)).e ≠ 0 from h1), if_pos (show (cpS ws (rgL nameA)).e ≠ 0 from h1)]; exact RETN hX A rfl rfl rfl h0 rfl rfl rfl rfl rfl rfl))
  (fun h1 A => N hX 14 A rfl rfl fun A => forkD 53 A rfl
   (fun h2 A => N hX 10 A rfl rfl fun A => (by unfold cpE cpA; rw [if_neg (show ¬ (cpS ws (rgL nameA)).e ≠ 0 from not_not_intro h1), if_neg (show ¬ (cpS ws (rgL nameA)).e ≠ 0 from not_not_intro h1)]; exact RETN hX A rfl rfl rfl h0 rfl rfl rfl rfl rfl rfl))
   (fun h2 A => N hX 15 A rfl rfl fun A => (by exact absurd ⟨(show (cpS ws (rgL nameA)).e = 0 from h1), (by have : ¬ (((cpN ws (rgL nameA)).length : Nat) : Int) > 32 := h2; omega)⟩ hq)))
theorem cparse3_ok (ws : List Tk) (cw : Nat) (hn : ws.length ≤ 10000) (hw : WsOK ws) (hq : (cpS ws (rgL nameA)).e = 0 ∧ (cpN ws (rgL nameA)).length ≤ 32) : Fn Tryz.prog 19 [.int .i64 3, .sl 0 ws.length cw] [some (.lst 4 ws.length (fun zz => tkc (ws.getD zz tok0)))] (Rt (.tup [.sl 1 ((cpN ws (rgL nameA)).length) 0, .int .i64 0, .int .i64 0]) [some (.lst 4 ws.length (fun zz => tkc (ws.getD zz tok0))), some (.row 88 5 ((cpN ws (rgL nameA)).length) 0 (fun zz => cc ((cpN ws (rgL nameA)).getD zz Cn.z)))]) :=
 enterM (n := 59) (by kernel_rfl) Tryz.func19 rfl rfl rfl fun G w a h0 A => N hX 10 A rfl rfl fun A => CALL1 [] regs3_ A rfl rfl rfl rfl rfl rfl rfl fun A => N hX 7 A rfl rfl fun A => NILR hX A rfl rfl (by omega) fun A => N hX 8 A rfl rfl fun A => CALL1 [0] (askNew_ ws cw (by omega)) A rfl rfl rfl rfl rfl rfl rfl fun A => N hX 7 A rfl rfl fun A => have A := A.freeze 1 rfl; have A := A.freeze 4 rfl; have A := A.nilCell 5 88 5 (fun zz => cc (([] : List Cn).getD zz Cn.z)) [.ptr 2 0, .sl 1 8 8, .sl 6 0 0, .sla none 0 0, .int .i64 0] rfl (fun G' hG vs h => (denL_at (den_nil hG) [.ptr 2 0, .sl 1 8 8] [.sla none 0 0, .int .i64 0]).trans h) (fun z => ⟨_, rfl, rfl⟩); have A := A.nilCell 5 3 1 (fun zz => [.int .i64 ((fun _ => 0) zz)]) [.ptr 2 0, .sl 1 8 8, .sl 6 0 0, .sl 7 0 0, .int .i64 0] rfl (fun G' hG vs h => (denL_at (den_nil hG) [.ptr 2 0, .sl 1 8 8, .sl 6 0 0] [.int .i64 0]).trans h) (fun z => ⟨_, rfl, rfl⟩); N hX 8 A rfl rfl fun A => CALL1 [3, 4] (at_W ws 0 0 (by first | exact Nat.zero_le _ | exact cp_le ws (rgL nameA) | exact endA_le (cp_le ws (rgL nameA))) (by omega) hw) A rfl rfl rfl rfl rfl rfl rfl fun A => N hX 6 A rfl rfl fun A => CALL1 [5, 2, 3, 4, 1, 6, 7] (condition_ ws 0 (rgL nameA) 8 (⟨0, 0, 0⟩ : As) ([] : List Cn) 0 (fun _ => 0) 0 (Nat.zero_le _) (by omega) hw (by decide) (by decide) (by show 8 ≤ 1000; decide) rfl (Nat.le_refl _)) A rfl rfl rfl rfl rfl rfl rfl fun A => N hX 8 A rfl rfl fun A => CALL1 [2, 3, 4] (end_ ws 0 (bif decide ((coF ws (rgL nameA) (ws.length - (⟨0, 0, 0⟩ : As).p + 1) (⟨(⟨0, 0, 0⟩ : As), ([] : List Cn), 0, fun _ => 0, 0⟩ : Cs)).op > 0) then refA ws (coF ws (rgL nameA) (ws.length - (⟨0, 0, 0⟩ : As).p + 1) (⟨(⟨0, 0, 0⟩ : As), ([] : List Cn), 0, fun _ => 0, 0⟩ : Cs)).s 22 else (coF ws (rgL nameA) (ws.length - (⟨0, 0, 0⟩ : As).p + 1) (⟨(⟨0, 0, 0⟩ : As), ([] : List Cn), 0, fun _ => 0, 0⟩ : Cs)).s) (by first | exact Nat.zero_le _ | exact cp_le ws (rgL nameA) | exact endA_le (cp_le ws (rgL nameA))) (by omega) hw) A rfl rfl rfl rfl rfl rfl rfl fun A => N hX 9 A rfl rfl fun A => CALL1 [2, 3, 4] (fault_ ws 0 (endA ws (bif decide ((coF ws (rgL nameA) (ws.length - (⟨0, 0, 0⟩ : As).p + 1) (⟨(⟨0, 0, 0⟩ : As), ([] : List Cn), 0, fun _ => 0, 0⟩ : Cs)).op > 0) then refA ws (coF ws (rgL nameA) (ws.length - (⟨0, 0, 0⟩ : As).p + 1) (⟨(⟨0, 0, 0⟩ : As), ([] : List Cn), 0, fun _ => 0, 0⟩ : Cs)).s 22 else (coF ws (rgL nameA) (ws.length - (⟨0, 0, 0⟩ : As).p + 1) (⟨(⟨0, 0, 0⟩ : As), ([] : List Cn), 0, fun _ => 0, 0⟩ : Cs)).s)) (by first | exact Nat.zero_le _ | exact cp_le ws (rgL nameA) | exact endA_le (cp_le ws (rgL nameA))) (by omega) hw) A rfl rfl rfl rfl rfl rfl rfl fun A => N hX 13 A rfl rfl fun A => forkN 45 A rfl
  (fun h1 A => N hX 11 A rfl rfl fun A => (by exact absurd (show (cpS ws (rgL nameA)).e = 0 from hq.1) h1))
  (fun h1 A => N hX 14 A rfl rfl fun A => forkD 53 A rfl
   (fun h2 A => N hX 10 A rfl rfl fun A => (by exact absurd (show (((cpN ws (rgL nameA)).length : Nat) : Int) > 32 from h2) (by have := hq.2; omega)))
   (fun h2 A => N hX 15 A rfl rfl fun A => (by exact RET hX [8] A ⟨rfl, rfl⟩ rfl rfl rfl rfl rfl rfl rfl rfl h0)))
end Go.Proofs.YtedlaclfhgneeabGreatDoor
namespace Go.Proofs.YtedlaclfhgneeabGreatDoor.Cd
open Go.RowKit
set_option linter.unusedVariables false
set_option linter.unusedSimpArgs false
set_option maxRecDepth 100000
set_option maxHeartbeats 2000000
set_option simprocs false
def stepP (R : List (List UInt8)) (c : Cn) (l : List Pc) : List Pc := l.take (((l.length : Nat) : Int) - parts0 c.k).toNat ++ [(wr0 R c.k c.t c.r c.l c.v l (((l.length : Nat) : Int) - parts0 c.k).toNat (l.length - (((l.length : Nat) : Int) - parts0 c.k).toNat), c.k)]
def foldP (R : List (List UInt8)) (cs : List Cn) : List Pc := cs.foldl (fun l c => stepP R c l) []
structure FI (R : List (List UInt8)) (cs : List Cn) (l : List Pc) (i : Nat) : Prop where
  lb : ∃ lb, EI oz cs lb i ∧ lb.length = l.length
  eq : l = foldP R (cs.take i)
theorem stepP_len {R : List (List UInt8)} {c : Cn} {l : List Pc} (h : 0 ≤ parts0 c.k) : (stepP R c l).length = (((l.length : Nat) : Int) - parts0 c.k).toNat + 1 := by
  unfold stepP; rw [List.length_append, List.length_take, List.length_cons, List.length_nil]; omega
section
variable {R : List (List UInt8)} {L : List Cn} {n i : Nat} {l : List Pc}
theorem FI.i0 (hr : right (L.take n) = true) : FI R (L.take n) [] 0 := ⟨⟨[], EI.i0 hr, rfl⟩, by simp [foldP]⟩
theorem FI.kn (hI : FI R (L.take n) l i) (hn : n ≤ L.length) (h1 : (i : Int) < ((n : Nat) : Int)) : ¬ (L.getD ((i : Int)).toNat Cn.z).n < 0 ∧ (L.getD ((i : Int)).toNat Cn.z).n ≤ (l.length : Int) ∧ (L.getD ((i : Int)).toNat Cn.z).n = parts0 (L.getD ((i : Int)).toNat Cn.z).k ∧ (((L.getD ((i : Int)).toNat Cn.z).k = 1 ∧ (L.getD ((i : Int)).toNat Cn.z).n = 0 ∧ 0 ≤ (L.getD ((i : Int)).toNat Cn.z).t ∧ (L.getD ((i : Int)).toNat Cn.z).t < 3 ∧ 0 ≤ (L.getD ((i : Int)).toNat Cn.z).r ∧ (L.getD ((i : Int)).toNat Cn.z).r < 8) ∨ ((L.getD ((i : Int)).toNat Cn.z).k = 2 ∧ (L.getD ((i : Int)).toNat Cn.z).n = 0 ∧ 0 ≤ (L.getD ((i : Int)).toNat Cn.z).l ∧ (L.getD ((i : Int)).toNat Cn.z).l < 3) ∨ ((L.getD ((i : Int)).toNat Cn.z).k = 3 ∧ (L.getD ((i : Int)).toNat Cn.z).n = 1) ∨ ((L.getD ((i : Int)).toNat Cn.z).k = 4 ∧ (L.getD ((i : Int)).toNat Cn.z).n = 2) ∨ ((L.getD ((i : Int)).toNat Cn.z).k = 5 ∧ (L.getD ((i : Int)).toNat Cn.z).n = 2)) ∧ l.length ≤ i := by
  obtain ⟨lb, h2, h3⟩ := hI.lb
  have := h2.kn hn h1
  rw [h3] at this
  exact this
theorem FI.nx (hI : FI R (L.take n) l i) (hr : right (L.take n) = true) (hn : n ≤ L.length) (h1 : (i : Int) < ((n : Nat) : Int)) : FI R (L.take n) (stepP R (L.getD ((i : Int)).toNat Cn.z) l) (i + 1) := by
  obtain ⟨lb, h2, h3⟩ := hI.lb
  have k := h2.kn hn h1
  refine ⟨⟨_, h2.nx hr hn h1, ?_⟩, ?_⟩
  · rw [← fold_st (p := oz) (l := lb) k.1 k.2.1 k.2.2.1 rfl, stepP_len (by omega), List.length_append, List.length_take, List.length_cons, List.length_nil, h3]; omega
  · have hi : i < (L.take n).length := by simp; omega
    rw [List.take_succ_eq_append_getElem hi, foldP, List.foldl_append, ← foldP, ← hI.eq]
    have e : (L.take n)[i] = (L.getD ((i : Int)).toNat Cn.z) := by simp [List.getD, show i < L.length by omega]
    rw [e]; rfl
theorem FI.fi (hI : FI R (L.take n) l i) (hr : right (L.take n) = true) (hn : n ≤ L.length) (h1 : ¬ (i : Int) < ((n : Nat) : Int)) : l.length = 1 ∧ l = foldP R (L.take n) := by
  obtain ⟨lb, h2, h3⟩ := hI.lb
  have := h2.fi hr hn h1
  have he := hI.eq
  rw [List.take_of_length_le (by simp; omega)] at he
  exact ⟨by omega, he⟩
theorem FI.sm (hI : FI R (L.take n) l i) (hl : ∀ i q, ((foldP R ((L.take n).take i)).getD q pz).1.length ≤ 1000000) : ∀ q, (l.getD q pz).1.length ≤ 1000000 := fun q => by rw [hI.eq]; exact hl i q
theorem papp1 {k : Nat} {x : Pc} (h : k ≤ l.length) : (l.take k ++ [x]).getD k pz = x := by
  have := getD_app_1 (l := l.take k) (x := x) (d := pz)
  rw [List.length_take, Nat.min_eq_left h] at this; exact this
end
theorem foldp_ (R : List (List UInt8)) (L : List Cn) (n : Nat) (c : Nat) (b : Nat) (o : Obj) (hT : ∀ w : World, w.heap[b]? = some o → Lib.TabIs Tryz.prog w "internal/strconv.uint64pow10" .u64 Lib.pow10Tab) (hn : n ≤ L.length) (hN : n ≤ 1000000) (hr : right (L.take n) = true) (hv : ∀ q, -9223372036854775808 ≤ (L.getD q Cn.z).v ∧ (L.getD q Cn.z).v ≤ 9223372036854775807) (hl : ∀ i q, ((foldP R ((L.take n).take i)).getD q pz).1.length ≤ 1000000) (qR : ∀ q, (R.getD q []).length ≤ 100) (hR : 8 ≤ R.length) : Fn Tryz.prog 52 [.sl 0 n c, .fn 53 [.ptr 1 0]] [some (.lst 5 L.length (fun zz => cc (L.getD zz Cn.z))), some (.blk [.sl 2 R.length 8]), some (.row 9 1 R.length 8 (fun zz => [.str (R.getD zz [])])), some (.fac b o)] (Rt (.agg [.str (((foldP R (L.take n)).getD 0 pz).1), .int .i64 (((foldP R (L.take n)).getD 0 pz).2)]) [some (.lst 5 L.length (fun zz => cc (L.getD zz Cn.z))), some (.blk [.sl 2 R.length 8]), some (.row 9 1 R.length 8 (fun zz => [.str (R.getD zz [])])), some (.fac b o)]) :=
 enterM (n := 36) (by kernel_rfl) Tryz.func52 rfl rfl rfl fun G w a h0 A => N hX 19 A rfl rfl fun A => have A := A.nilRow 5 114 2 (fun zz => [.str (([] : List Pc).getD zz pz).1, .int .i64 (([] : List Pc).getD zz pz).2]) rfl (fun z => ⟨_, rfl, rfl⟩); LOOP2 (fun (l : List Pc) (i : Nat) => [(1, .fn 53 [.ptr 1 0]), (4, .ptr 4 0), (5, .sl 5 l.length 0), (9, .sl 0 n c), (10, .int .i64 ((n : Nat) : Int)), (11, .int .i64 (i : Int))]) (fun (l : List Pc) (i : Nat) => [some (.lst 5 L.length (fun zz => cc (L.getD zz Cn.z))), some (.blk [.sl 2 R.length 8]), some (.row 9 1 R.length 8 (fun zz => [.str (R.getD zz [])])), some (.fac b o), some (.blk [.str [], .int .i64 0]), some (.row 114 2 l.length 0 (fun zz => [.str (l.getD zz pz).1, .int .i64 (l.getD zz pz).2]))]) (fun (l : List Pc) (i : Nat) => FI R (L.take n) l i) (fun (l : List Pc) (i : Nat) => n - i) [] 0 (FI.i0 hr) ((A.cut [1, 4, 5, 9, 10, 11] rfl).trunc 6 rfl rfl rfl (by simp only [List.length_cons, List.length_nil] at h0; omega)) fun l i hI {G a w} A => N hX 6 A rfl rfl fun A => forkD 12 A rfl
   (fun h1 A => N hX 14 A rfl (ok_d (by have hq := hI.kn hn h1; omega) <| ok_d (by have hq := hI.kn hn h1; omega) <| okE_nil) fun A => N hX 5 A rfl rfl fun A => CALL1 [] (parts_ ((L.getD (((i : Int)).toNat) Cn.z).k)) A rfl rfl rfl rfl rfl rfl rfl fun A => N hX 4 A rfl (ok_d (by have hq := hI.kn hn h1; omega) <| okE_nil) fun A => DRAWN hX hmo [] [(8, .agg [.str (wr0 R ((L.getD (((i : Int)).toNat) Cn.z).k) ((L.getD (((i : Int)).toNat) Cn.z).t) ((L.getD (((i : Int)).toNat) Cn.z).r) ((L.getD (((i : Int)).toNat) Cn.z).l) ((L.getD (((i : Int)).toNat) Cn.z).v) l ((((l.length : Nat) : Int) - (parts0 ((L.getD (((i : Int)).toNat) Cn.z).k))).toNat) (l.length - (((l.length : Nat) : Int) - (parts0 ((L.getD (((i : Int)).toNat) Cn.z).k))).toNat)), .int .i64 ((L.getD (((i : Int)).toNat) Cn.z).k)], [some (.lst 5 L.length (fun zz => cc (L.getD zz Cn.z))), some (.blk [.sl 2 R.length 8]), some (.row 9 1 R.length 8 (fun zz => [.str (R.getD zz [])])), some (.fac b o), some (.blk [.str [], .int .i64 0]), some (.row 114 2 l.length 0 (fun zz => [.str (l.getD zz pz).1, .int .i64 (l.getD zz pz).2])), some (.blk [.int .i64 ((L.getD (((i : Int)).toNat) Cn.z).k), .int .i64 ((L.getD (((i : Int)).toNat) Cn.z).t), .int .i64 ((L.getD (((i : Int)).toNat) Cn.z).r), .int .i64 ((L.getD (((i : Int)).toNat) Cn.z).l), .int .i64 ((L.getD (((i : Int)).toNat) Cn.z).v)])]), (10, .sl 8 (((((l.length : Nat) : Int) - (parts0 ((L.getD (((i : Int)).toNat) Cn.z).k))).toNat) + 1) 0, [some (.lst 5 L.length (fun zz => cc (L.getD zz Cn.z))), some (.blk [.sl 2 R.length 8]), some (.row 9 1 R.length 8 (fun zz => [.str (R.getD zz [])])), some (.fac b o), some (.blk [.str [], .int .i64 0]), none, some (.blk [.int .i64 ((L.getD (((i : Int)).toNat) Cn.z).k), .int .i64 ((L.getD (((i : Int)).toNat) Cn.z).t), .int .i64 ((L.getD (((i : Int)).toNat) Cn.z).r), .int .i64 ((L.getD (((i : Int)).toNat) Cn.z).l), .int .i64 ((L.getD (((i : Int)).toNat) Cn.z).v)]), some (.blk [.str (wr0 R ((L.getD (((i : Int)).toNat) Cn.z).k) ((L.getD (((i : Int)).toNat) Cn.z).t) ((L.getD (((i : Int)).toNat) Cn.z).r) ((L.getD (((i : Int)).toNat) Cn.z).l) ((L.getD (((i : Int)).toNat) Cn.z).v) l ((((l.length : Nat) : Int) - (parts0 ((L.getD (((i : Int)).toNat) Cn.z).k))).toNat) (l.length - (((l.length : Nat) : Int) - (parts0 ((L.getD (((i : Int)).toNat) Cn.z).k))).toNat)), .int .i64 ((L.getD (((i : Int)).toNat) Cn.z).k)]), some (.row 114 2 (((((l.length : Nat) : Int) - (parts0 ((L.getD (((i : Int)).toNat) Cn.z).k))).toNat) + 1) 0 (fun zz => [.str ((l.take ((((l.length : Nat) : Int) - (parts0 ((L.getD (((i : Int)).toNat) Cn.z).k))).toNat) ++ [(wr0 R ((L.getD (((i : Int)).toNat) Cn.z).k) ((L.getD (((i : Int)).toNat) Cn.z).t) ((L.getD (((i : Int)).toNat) Cn.z).r) ((L.getD (((i : Int)).toNat) Cn.z).l) ((L.getD (((i : Int)).toNat) Cn.z).v) l ((((l.length : Nat) : Int) - (parts0 ((L.getD (((i : Int)).toNat) Cn.z).k))).toNat) (l.length - (((l.length : Nat) : Int) - (parts0 ((L.getD (((i : Int)).toNat) Cn.z).k))).toNat), (L.getD (((i : Int)).toNat) Cn.z).k)]).getD zz pz).1, .int .i64 ((l.take ((((l.length : Nat) : Int) - (parts0 ((L.getD (((i : Int)).toNat) Cn.z).k))).toNat) ++ [(wr0 R ((L.getD (((i : Int)).toNat) Cn.z).k) ((L.getD (((i : Int)).toNat) Cn.z).t) ((L.getD (((i : Int)).toNat) Cn.z).r) ((L.getD (((i : Int)).toNat) Cn.z).l) ((L.getD (((i : Int)).toNat) Cn.z).v) l ((((l.length : Nat) : Int) - (parts0 ((L.getD (((i : Int)).toNat) Cn.z).k))).toNat) (l.length - (((l.length : Nat) : Int) - (parts0 ((L.getD (((i : Int)).toNat) Cn.z).k))).toNat), (L.getD (((i : Int)).toNat) Cn.z).k)]).getD zz pz).2]))])] A rfl (ok_d (by show 0 ≤ ((l.length : Nat) : Int) - (parts0 ((L.getD (((i : Int)).toNat) Cn.z).k)) ∧ ((l.length : Nat) : Int) - (parts0 ((L.getD (((i : Int)).toNat) Cn.z).k)) ≤ ((l.length : Nat) : Int); exact (by have hq := hI.kn hn h1; omega)) <| ok_d (by show 0 ≤ ((l.length : Nat) : Int) - (parts0 ((L.getD (((i : Int)).toNat) Cn.z).k)) ∧ ((l.length : Nat) : Int) - (parts0 ((L.getD (((i : Int)).toNat) Cn.z).k)) ≤ ((l.length : Nat) : Int); exact (by have hq := hI.kn hn h1; omega)) <| ok_d (by show 0 ≤ ((l.length : Nat) : Int) - (parts0 ((L.getD (((i : Int)).toNat) Cn.z).k)) ∧ ((l.length : Nat) : Int) - (parts0 ((L.getD (((i : Int)).toNat) Cn.z).k)) ≤ ((l.length : Nat) : Int); exact (by have hq := hI.kn hn h1; omega)) <| ok_d (by have hq := hI.kn hn h1; omega) <| okE_nil) rfl rfl (by kernel_rfl) ⟨callE [1, 2, 5, 3] (pone_ R ((L.getD (((i : Int)).toNat) Cn.z).k) ((L.getD (((i : Int)).toNat) Cn.z).t) ((L.getD (((i : Int)).toNat) Cn.z).r) ((L.getD (((i : Int)).toNat) Cn.z).l) ((L.getD (((i : Int)).toNat) Cn.z).v) l ((((l.length : Nat) : Int) - (parts0 ((L.getD (((i : Int)).toNat) Cn.z).k))).toNat) (l.length - (((l.length : Nat) : Int) - (parts0 ((L.getD (((i : Int)).toNat) Cn.z).k))).toNat) b o hT (by have hq := hI.kn hn h1; omega) (by have hq := hI.kn hn h1; omega) (by have hq := hI.kn hn h1; omega) (by have hq := hI.kn hn h1; omega) (by have hq := hI.kn hn h1; omega) (hv _) (hI.sm hl) qR hR) rfl rfl rfl rfl rfl rfl rfl, ⟨trivial, ⟨eff_shrink (e := 114) (s := 2) 5 ((((l.length : Nat) : Int) - (parts0 ((L.getD (((i : Int)).toNat) Cn.z).k))).toNat) rfl (by have hq := hI.kn hn h1; omega) (appE (i := 5) (e := 114) (s := 2) hX (((((l.length : Nat) : Int) - (parts0 ((L.getD (((i : Int)).toNat) Cn.z).k))).toNat) + 1) (fun zz => [.str ((l.take ((((l.length : Nat) : Int) - (parts0 ((L.getD (((i : Int)).toNat) Cn.z).k))).toNat) ++ [(wr0 R ((L.getD (((i : Int)).toNat) Cn.z).k) ((L.getD (((i : Int)).toNat) Cn.z).t) ((L.getD (((i : Int)).toNat) Cn.z).r) ((L.getD (((i : Int)).toNat) Cn.z).l) ((L.getD (((i : Int)).toNat) Cn.z).v) l ((((l.length : Nat) : Int) - (parts0 ((L.getD (((i : Int)).toNat) Cn.z).k))).toNat) (l.length - (((l.length : Nat) : Int) - (parts0 ((L.getD (((i : Int)).toNat) Cn.z).k))).toNat), (L.getD (((i : Int)).toNat) Cn.z).k)]).getD zz pz).1, .int .i64 ((l.take ((((l.length : Nat) : Int) - (parts0 ((L.getD (((i : Int)).toNat) Cn.z).k))).toNat) ++ [(wr0 R ((L.getD (((i : Int)).toNat) Cn.z).k) ((L.getD (((i : Int)).toNat) Cn.z).t) ((L.getD (((i : Int)).toNat) Cn.z).r) ((L.getD (((i : Int)).toNat) Cn.z).l) ((L.getD (((i : Int)).toNat) Cn.z).v) l ((((l.length : Nat) : Int) - (parts0 ((L.getD (((i : Int)).toNat) Cn.z).k))).toNat) (l.length - (((l.length : Nat) : Int) - (parts0 ((L.getD (((i : Int)).toNat) Cn.z).k))).toNat), (L.getD (((i : Int)).toNat) Cn.z).k)]).getD zz pz).2]) rfl rfl rfl rfl (by have hq := hI.kn hn h1; omega) rfl (fun q hq => by show [SV.str _, SV.int _ _] = [SV.str _, SV.int _ _]; rw [getD_app_l (by rw [List.length_take]; have hq := hI.kn hn h1; omega), getD_take hq]) (by show [SV.str _, SV.int _ _] = _; rw [papp1 (by have hq := hI.kn hn h1; omega)]) (fun z => ⟨_, rfl, rfl⟩)), trivial⟩⟩⟩ trivial fun A => N hX 6 A rfl (ok_d (by have hq := hI.kn hn h1; omega) <| okE_nil) fun A => ⟨stepP R (L.getD ((i : Int)).toNat Cn.z) l, i + 1, _, (by omega), (hI.nx hr hn h1), ((((A.rowAs 8 (stepP R (L.getD ((i : Int)).toNat Cn.z) l).length (fun zz => [.str ((stepP R (L.getD ((i : Int)).toNat Cn.z) l).getD zz pz).1, .int .i64 ((stepP R (L.getD ((i : Int)).toNat Cn.z) l).getD zz pz).2]) rfl (stepP_len (R := R) (c := (L.getD ((i : Int)).toNat Cn.z)) (l := l) (by have hq := hI.kn hn h1; omega)) (fun q hq => rfl) (fun z => ⟨_, rfl, rfl⟩)).say 5 (.sl 8 (stepP R (L.getD ((i : Int)).toNat Cn.z) l).length 0) rfl (by rw [(stepP_len (R := R) (c := (L.getD ((i : Int)).toNat Cn.z)) (l := l) (by have hq := hI.kn hn h1; omega))])).cut [1, 4, 5, 9, 10, 11] rfl).mv 4 [4, 8] rfl rfl rfl rfl (by simp only [List.length_cons, List.length_nil] at h0; omega))⟩)
   (fun h1 A => N hX 12 A rfl (ok_d (by have hq := (hI.fi hr hn h1).1; omega) <| ok_d (by have hq := (hI.fi hr hn h1).1; omega) <| okE_nil) fun A => RETN hX A rfl rfl rfl h0 rfl rfl rfl rfl (by rw [← (hI.fi hr hn h1).2]; rfl) rfl)
theorem rgL_len {nf : Int → List UInt8} (h : ∀ x, (nf x).length ≤ 20) (q : Nat) : ((rgL nf).getD q []).length ≤ 100 := by
  by_cases hq : q < 8
  · have : q = 0 ∨ q = 1 ∨ q = 2 ∨ q = 3 ∨ q = 4 ∨ q = 5 ∨ q = 6 ∨ q = 7 := by omega
    rcases this with e | e | e | e | e | e | e | e <;> subst e <;> exact Nat.le_trans (h _) (by decide)
  · rw [List.getD_eq_getElem?_getD, List.getElem?_eq_none (by show 8 ≤ q; omega)]; decide
theorem nameF_len (x : Int) : (Old.nameF x).length ≤ 20 := by
  by_cases h0 : x < 0
  · rw [Old.name_neg h0]; decide
  · by_cases h7 : x > 7
    · rw [Old.name_big h7]; decide
    · have : x = 0 ∨ x = 1 ∨ x = 2 ∨ x = 3 ∨ x = 4 ∨ x = 5 ∨ x = 6 ∨ x = 7 := by omega
      rcases this with e | e | e | e | e | e | e | e <;> subst e <;> decide
theorem nameV_len (x : Int) : (nameV x).length ≤ 20 := by
  unfold nameV; split
  · decide
  · by_cases h7 : x > 7
    · rw [List.getElem?_eq_none (by show 8 ≤ x.toNat; omega)]; decide
    · have : x = 0 ∨ x = 1 ∨ x = 2 ∨ x = 3 ∨ x = 4 ∨ x = 5 ∨ x = 6 ∨ x = 7 := by omega
      rcases this with e | e | e | e | e | e | e | e <;> subst e <;> decide
theorem nameA_len (x : Int) : (nameA x).length ≤ 20 := by
  unfold nameA; split
  · decide
  · by_cases h7 : x > 7
    · rw [List.getElem?_eq_none (by show 8 ≤ x.toNat; omega)]; decide
    · have : x = 0 ∨ x = 1 ∨ x = 2 ∨ x = 3 ∨ x = 4 ∨ x = 5 ∨ x = 6 ∨ x = 7 := by omega
      rcases this with e | e | e | e | e | e | e | e <;> subst e <;> decide
theorem print1_ (L : List Cn) (n : Nat) (c : Nat) (b : Nat) (o : Obj) (hT : ∀ w : World, w.heap[b]? = some o → Lib.TabIs Tryz.prog w "internal/strconv.uint64pow10" .u64 Lib.pow10Tab) (hn : n ≤ L.length) (hN : n ≤ 1000000) (hr : right (L.take n) = true) (hv : ∀ q, -9223372036854775808 ≤ (L.getD q Cn.z).v ∧ (L.getD q Cn.z).v ≤ 9223372036854775807) (hl : ∀ i q, ((foldP (rgL Old.nameF) ((L.take n).take i)).getD q pz).1.length ≤ 1000000) : Fn Tryz.prog 22 [.int .i64 1, .sl 0 n c] [some (.lst 5 L.length (fun zz => cc (L.getD zz Cn.z))), some (.fac b o)] (Rt (.tup [.str (((foldP (rgL Old.nameF) (L.take n)).getD 0 pz).1), .int .i64 0]) [some (.lst 5 L.length (fun zz => cc (L.getD zz Cn.z))), some (.fac b o)]) :=
 enterM (n := 20) (by kernel_rfl) Tryz.func22 rfl rfl rfl fun G w a h0 A => N hX 9 A rfl rfl fun A => CALL1 [] regs1_ A rfl rfl rfl rfl rfl rfl rfl fun A => N hX 8 A rfl rfl fun A => NILR hX A rfl rfl (by omega) fun A => N hX 9 A rfl rfl fun A => CALL1 [0] (pright_ L n c hn) A rfl rfl rfl rfl rfl rfl rfl fun A => N hX 3 A rfl rfl fun A => fork 14 A rfl
  (fun h1 A => absurd h1 (by rw [hr]; decide))
  (fun h1 A => N hX 7 A rfl rfl fun A => CALL1 [0, 3, 2, 1] (foldp_ (rgL Old.nameF) L n c b o hT hn hN hr hv hl (rgL_len nameF_len) (by decide)) A rfl rfl rfl rfl rfl rfl rfl fun A => N hX 13 A rfl rfl fun A => RETN hX A rfl rfl rfl h0 rfl rfl rfl rfl rfl rfl)
theorem print1n_ (L : List Cn) (n : Nat) (c : Nat) (hn : n ≤ L.length) (hr : right (L.take n) = false) : Fn Tryz.prog 22 [.int .i64 1, .sl 0 n c] [some (.lst 5 L.length (fun zz => cc (L.getD zz Cn.z)))] (Rt (.tup [.str [], .int .i64 22]) [some (.lst 5 L.length (fun zz => cc (L.getD zz Cn.z)))]) :=
 enterM (n := 20) (by kernel_rfl) Tryz.func22 rfl rfl rfl fun G w a h0 A => N hX 9 A rfl rfl fun A => CALL1 [] regs1_ A rfl rfl rfl rfl rfl rfl rfl fun A => N hX 8 A rfl rfl fun A => NILR hX A rfl rfl (by omega) fun A => N hX 9 A rfl rfl fun A => CALL1 [0] (pright_ L n c hn) A rfl rfl rfl rfl rfl rfl rfl fun A => N hX 3 A rfl rfl fun A => fork 14 A rfl
  (fun h1 A => N hX 8 A rfl rfl fun A => RETN hX A rfl rfl rfl h0 rfl rfl rfl rfl rfl rfl)
  (fun h1 A => absurd h1 (by rw [hr]; decide))
theorem print2_ (L : List Cn) (n : Nat) (c : Nat) (b : Nat) (o : Obj) (hT : ∀ w : World, w.heap[b]? = some o → Lib.TabIs Tryz.prog w "internal/strconv.uint64pow10" .u64 Lib.pow10Tab) (hn : n ≤ L.length) (hN : n ≤ 1000000) (hr : right (L.take n) = true) (hv : ∀ q, -9223372036854775808 ≤ (L.getD q Cn.z).v ∧ (L.getD q Cn.z).v ≤ 9223372036854775807) (hl : ∀ i q, ((foldP (rgL nameV) ((L.take n).take i)).getD q pz).1.length ≤ 1000000) : Fn Tryz.prog 22 [.int .i64 2, .sl 0 n c] [some (.lst 5 L.length (fun zz => cc (L.getD zz Cn.z))), some (.fac b o)] (Rt (.tup [.str (((foldP (rgL nameV) (L.take n)).getD 0 pz).1), .int .i64 0]) [some (.lst 5 L.length (fun zz => cc (L.getD zz Cn.z))), some (.fac b o)]) :=
 enterM (n := 20) (by kernel_rfl) Tryz.func22 rfl rfl rfl fun G w a h0 A => N hX 9 A rfl rfl fun A => CALL1 [] regs2_ A rfl rfl rfl rfl rfl rfl rfl fun A => N hX 8 A rfl rfl fun A => NILR hX A rfl rfl (by omega) fun A => N hX 9 A rfl rfl fun A => CALL1 [0] (pright_ L n c hn) A rfl rfl rfl rfl rfl rfl rfl fun A => N hX 3 A rfl rfl fun A => fork 14 A rfl
  (fun h1 A => absurd h1 (by rw [hr]; decide))
  (fun h1 A => N hX 7 A rfl rfl fun A => CALL1 [0, 3, 2, 1] (foldp_ (rgL nameV) L n c b o hT hn hN hr hv hl (rgL_len nameV_len) (by decide)) A rfl rfl rfl rfl rfl rfl rfl fun A => N hX 13 A rfl rfl fun A => RETN hX A rfl rfl rfl h0 rfl rfl rfl rfl rfl rfl)
theorem print2n_ (L : List Cn) (n : Nat) (c : Nat) (hn : n ≤ L.length) (hr : right (L.take n) = false) : Fn Tryz.prog 22 [.int .i64 2, .sl 0 n c] [some (.lst 5 L.length (fun zz => cc (L.getD zz Cn.z)))] (Rt (.tup [.str [], .int .i64 22]) [some (.lst 5 L.length (fun zz => cc (L.getD zz Cn.z)))]) :=
 enterM (n := 20) (by kernel_rfl) Tryz.func22 rfl rfl rfl fun G w a h0 A => N hX 9 A rfl rfl fun A => CALL1 [] regs2_ A rfl rfl rfl rfl rfl rfl rfl fun A => N hX 8 A rfl rfl fun A => NILR hX A rfl rfl (by omega) fun A => N hX 9 A rfl rfl fun A => CALL1 [0] (pright_ L n c hn) A rfl rfl rfl rfl rfl rfl rfl fun A => N hX 3 A rfl rfl fun A => fork 14 A rfl
  (fun h1 A => N hX 8 A rfl rfl fun A => RETN hX A rfl rfl rfl h0 rfl rfl rfl rfl rfl rfl)
  (fun h1 A => absurd h1 (by rw [hr]; decide))
theorem print3_ (L : List Cn) (n : Nat) (c : Nat) (b : Nat) (o : Obj) (hT : ∀ w : World, w.heap[b]? = some o → Lib.TabIs Tryz.prog w "internal/strconv.uint64pow10" .u64 Lib.pow10Tab) (hn : n ≤ L.length) (hN : n ≤ 1000000) (hr : right (L.take n) = true) (hv : ∀ q, -9223372036854775808 ≤ (L.getD q Cn.z).v ∧ (L.getD q Cn.z).v ≤ 9223372036854775807) (hl : ∀ i q, ((foldP (rgL nameA) ((L.take n).take i)).getD q pz).1.length ≤ 1000000) : Fn Tryz.prog 22 [.int .i64 3, .sl 0 n c] [some (.lst 5 L.length (fun zz => cc (L.getD zz Cn.z))), some (.fac b o)] (Rt (.tup [.str (((foldP (rgL nameA) (L.take n)).getD 0 pz).1), .int .i64 0]) [some (.lst 5 L.length (fun zz => cc (L.getD zz Cn.z))), some (.fac b o)]) :=
 enterM (n := 20) (by kernel_rfl) Tryz.func22 rfl rfl rfl fun G w a h0 A => N hX 9 A rfl rfl fun A => CALL1 [] regs3_ A rfl rfl rfl rfl rfl rfl rfl fun A => N hX 8 A rfl rfl fun A => NILR hX A rfl rfl (by omega) fun A => N hX 9 A rfl rfl fun A => CALL1 [0] (pright_ L n c hn) A rfl rfl rfl rfl rfl rfl rfl fun A => N hX 3 A rfl rfl fun A => fork 14 A rfl
  (fun h1 A => absurd h1 (by rw [hr]; decide))
  (fun h1 A => N hX 7 A rfl rfl fun A => CALL1 [0, 3, 2, 1] (foldp_ (rgL nameA) L n c b o hT hn hN hr hv hl (rgL_len nameA_len) (by decide)) A rfl rfl rfl rfl rfl rfl rfl fun A => N hX 13 A rfl rfl fun A => RETN hX A rfl rfl rfl h0 rfl rfl rfl rfl rfl rfl)
theorem print3n_ (L : List Cn) (n : Nat) (c : Nat) (hn : n ≤ L.length) (hr : right (L.take n) = false) : Fn Tryz.prog 22 [.int .i64 3, .sl 0 n c] [some (.lst 5 L.length (fun zz => cc (L.getD zz Cn.z)))] (Rt (.tup [.str [], .int .i64 22]) [some (.lst 5 L.length (fun zz => cc (L.getD zz Cn.z)))]) :=
 enterM (n := 20) (by kernel_rfl) Tryz.func22 rfl rfl rfl fun G w a h0 A => N hX 9 A rfl rfl fun A => CALL1 [] regs3_ A rfl rfl rfl rfl rfl rfl rfl fun A => N hX 8 A rfl rfl fun A => NILR hX A rfl rfl (by omega) fun A => N hX 9 A rfl rfl fun A => CALL1 [0] (pright_ L n c hn) A rfl rfl rfl rfl rfl rfl rfl fun A => N hX 3 A rfl rfl fun A => fork 14 A rfl
  (fun h1 A => N hX 8 A rfl rfl fun A => RETN hX A rfl rfl rfl h0 rfl rfl rfl rfl rfl rfl)
  (fun h1 A => absurd h1 (by rw [hr]; decide))
end Go.Proofs.YtedlaclfhgneeabGreatDoor.Cd
namespace Go.Proofs.YtedlaclfhgneeabGreatDoor.Cd
open Go.RowKit
set_option linter.unusedVariables false
set_option linter.unusedSimpArgs false
set_option maxRecDepth 100000
theorem node_full {c : Cn} (h : ¬ c.n < 0) : (c.k = 1 ∧ c.n = 0 ∧ 0 ≤ c.t ∧ c.t < 3 ∧ 0 ≤ c.r ∧ c.r < 8 ∧ c.l = 0) ∨ (c.k = 2 ∧ c.n = 0 ∧ 0 ≤ c.l ∧ c.l < 3 ∧ c.t = 0 ∧ c.r = 0) ∨ (c = ⟨3, 0, 0, 0, 0⟩ ∧ c.n = 1) ∨ (c = ⟨4, 0, 0, 0, 0⟩ ∧ c.n = 2) ∨ (c = ⟨5, 0, 0, 0, 0⟩ ∧ c.n = 2) := by
  rcases nd_any c with ⟨h1, h2⟩ | ⟨_, h2⟩
  · rw [h2]
    obtain ⟨k, t, r, l, v⟩ := c
    simp only at h1 ⊢
    unfold node0 at h1
    unfold parts0
    by_cases k1 : k = 1
    · subst k1
      rw [if_pos rfl] at h1
      split at h1
      · next hh =>
        simp only [Bool.and_eq_true, decide_eq_true_eq, beq_iff_eq] at h1 hh
        exact .inl ⟨rfl, rfl, hh.1, hh.2, h1.1.1, h1.1.2, h1.2⟩
      · cases h1
    · rw [if_neg k1] at h1
      by_cases k2 : k = 2
      · subst k2
        rw [if_pos rfl] at h1
        simp only [Bool.and_eq_true, decide_eq_true_eq, beq_iff_eq] at h1
        exact .inr (.inl ⟨rfl, rfl, h1.1.1.1, h1.1.1.2, h1.1.2, h1.2⟩)
      · rw [if_neg k2] at h1
        by_cases k3 : k = 3
        · subst k3
          rw [if_pos rfl] at h1
          simp only [Bool.and_eq_true, beq_iff_eq] at h1
          obtain ⟨_, rfl, rfl, rfl, rfl⟩ := h1
          exact .inr (.inr (.inl ⟨rfl, rfl⟩))
        · rw [if_neg k3] at h1
          by_cases k4 : k = 4
          · subst k4
            rw [if_pos rfl] at h1
            simp only [Bool.and_eq_true, beq_iff_eq] at h1
            obtain ⟨_, rfl, rfl, rfl, rfl⟩ := h1
            exact .inr (.inr (.inr (.inl ⟨rfl, rfl⟩)))
          · rw [if_neg k4] at h1
            by_cases k5 : k = 5
            · subst k5
              rw [if_pos rfl] at h1
              simp only [Bool.and_eq_true, beq_iff_eq] at h1
              obtain ⟨_, rfl, rfl, rfl, rfl⟩ := h1
              exact .inr (.inr (.inr (.inr ⟨rfl, rfl⟩)))
            · rw [if_neg k5] at h1; cases h1
  · omega
theorem n_leaf {c : Cn} (h : (c.k = 1 ∧ 0 ≤ c.t ∧ c.t < 3 ∧ 0 ≤ c.r ∧ c.r < 8 ∧ c.l = 0) ∨ (c.k = 2 ∧ 0 ≤ c.l ∧ c.l < 3 ∧ c.t = 0 ∧ c.r = 0)) : c.n = 0 := by
  rcases nd_any c with ⟨h1, h2⟩ | ⟨h1, _⟩
  · rw [h2]; unfold parts0; rw [if_neg (by omega), if_neg (by omega), if_neg (by omega)]
  · exfalso
    obtain ⟨k, t, r, l, v⟩ := c
    simp only at h1 h
    unfold node0 at h1
    rcases h with ⟨k1, a1, a2, a3, a4, a5⟩ | ⟨k1, a1, a2, a3, a4⟩
    · rw [if_pos k1, if_pos (by simp only [Bool.and_eq_true, decide_eq_true_eq]; exact ⟨a1, a2⟩), decide_eq_true a3, decide_eq_true a4, a5] at h1; cases h1
    · rw [if_neg (by omega), if_pos k1, decide_eq_true a1, decide_eq_true a2, a3, a4] at h1; cases h1
theorem right_rows : ∀ (t : Tre), t.ok → ∀ (rest : List Cn) (h : Int), 0 ≤ h → rightGo (t.rows ++ rest) h = rightGo rest (h + 1)
  | .lf c, ok, rest, h, h0 => by
    show rightGo (c :: rest) h = _
    have e := n_leaf ok.1
    rw [rightGo, e, if_neg (by omega), show h - 0 + 1 = h + 1 by omega]
  | .un c t, ok, rest, h, h0 => by
    have hc : c.n = 1 := by rw [ok.1]; rfl
    rw [Tre.rows, List.append_assoc, right_rows t ok.2 _ h h0]
    show rightGo (c :: rest) (h + 1) = _
    rw [rightGo, hc, if_neg (by omega), show h + 1 - 1 + 1 = h + 1 by omega]
  | .bi c l r, ok, rest, h, h0 => by
    have hc : c.n = 2 := by rcases ok.1 with e | e <;> rw [e] <;> rfl
    rw [Tre.rows, List.append_assoc, List.append_assoc, right_rows l ok.2.1 _ h h0, right_rows r ok.2.2 _ (h + 1) (by omega)]
    show rightGo (c :: rest) (h + 1 + 1) = _
    rw [rightGo, hc, if_neg (by omega), show h + 1 + 1 - 2 + 1 = h + 1 by omega]
theorem rows_pos : ∀ t : Tre, 0 < t.rows.length
  | .lf c => by show 0 < 1; omega
  | .un c t => by rw [Tre.rows, List.length_append]; show 0 < _ + 1; omega
  | .bi c l r => by rw [Tre.rows, List.length_append]; show 0 < _ + 1; omega
theorem right_tree {t : Tre} (ok : t.ok) (hl : t.rows.length ≤ 32) : right t.rows = true := by
  unfold right
  have := rows_pos t
  rw [if_neg (by omega)]
  have := right_rows t ok [] 0 (by omega)
  rw [List.append_nil] at this
  rw [this]; rfl
theorem rows_val : ∀ (t : Tre), t.ok → ∀ c ∈ t.rows, okV c.v
  | .lf c, ok, x, hx => by rw [List.mem_singleton.1 hx]; exact ok.2
  | .un c t, ok, x, hx => by
    rw [Tre.rows] at hx
    rcases List.mem_append.1 hx with hx | hx
    · exact rows_val t ok.2 x hx
    · rw [List.mem_singleton.1 hx, ok.1]; exact ⟨by decide, by decide⟩
  | .bi c l r, ok, x, hx => by
    rw [Tre.rows] at hx
    rcases List.mem_append.1 hx with hx | hx
    · rcases List.mem_append.1 hx with hx | hx
      · exact rows_val l ok.2.1 x hx
      · exact rows_val r ok.2.2 x hx
    · rw [List.mem_singleton.1 hx]
      rcases ok.1 with e | e <;> rw [e] <;> exact ⟨by decide, by decide⟩
/-! ### The stack of texts is the stack of trees -/
def gT (nf : Int → List UInt8) (t : Tre) : Pc := (txT nf t, t.c.k)
theorem ap45 (s : List UInt8) (k : Int) : apT [4, 5] s k = bkT s (lvl k) 2 := by
  unfold apT bkT lvl
  by_cases h5 : k = 5
  · subst h5; rfl
  · by_cases h4 : k = 4
    · subst h4; rfl
    · have : ixf k [4, 5] 0 = -1 := by simp [ixf, h4, h5]
      rw [this, if_neg h5, if_neg h4, if_neg (by decide)]; rfl
theorem ap5 (s : List UInt8) (k : Int) : apT [5] s k = bkT s (lvl k) 1 := by
  unfold apT bkT lvl
  by_cases h5 : k = 5
  · subst h5; rfl
  · have : ixf k [5] 0 = -1 := by simp [ixf, h5]
    rw [this, if_neg h5, if_neg (by decide)]
    split <;> rfl
section
variable {nf : Int → List UInt8} {R : List (List UInt8)}
theorem getD_mid {a b : List Pc} {x : Pc} {k : Nat} (h : k = a.length) : (a ++ x :: b).getD k pz = x := by
  subst h; rw [List.getD_eq_getElem?_getD, List.getElem?_append_right (Nat.le_refl _)]; simp
theorem last1 {ts : List Tre} (h : 1 ≤ ts.length) : ∃ a t, ts = a ++ [t] := ⟨ts.dropLast, ts.getLast (by intro e; rw [e] at h; simp at h), (List.dropLast_concat_getLast _).symm⟩
theorem last2 {ts : List Tre} (h : 2 ≤ ts.length) : ∃ a t u, ts = a ++ [t, u] := by
  obtain ⟨b, u, e⟩ := last1 (ts := ts) (by omega)
  obtain ⟨a, t, e2⟩ := last1 (ts := b) (by rw [e] at h; simp at h; omega)
  exact ⟨a, t, u, by rw [e, e2]; simp⟩
def fl (ts : List Tre) : List Cn := (ts.map Tre.rows).flatten
theorem fl_app (a b : List Tre) : fl (a ++ b) = fl a ++ fl b := by simp [fl]
theorem fl_one (t : Tre) : fl [t] = t.rows := by simp [fl]
theorem mem1 {a : List Tre} (t : Tre) (ha : ∀ x ∈ a, x.ok) (ht : t.ok) : ∀ x ∈ a ++ [t], x.ok := fun x hx => by
  rcases List.mem_append.1 hx with hx | hx
  · exact ha x hx
  · rw [List.mem_singleton.1 hx]; exact ht
theorem step_tr (hR : ∀ g : Int, 0 ≤ g → g < 8 → R.getD g.toNat [] = nf g) {c : Cn} {ts : List Tre} (hn : ¬ c.n < 0) (hl : c.n ≤ (ts.length : Int)) (hv : okV c.v) (hok : ∀ t ∈ ts, t.ok) : ∃ ts2 : List Tre, (∀ t ∈ ts2, t.ok) ∧ stepP R c (ts.map (gT nf)) = ts2.map (gT nf) ∧ (ts2.length : Int) = (ts.length : Int) - c.n + 1 ∧ fl ts2 = fl ts ++ [c] := by
  rcases node_full hn with h | h | ⟨h, h'⟩ | ⟨h, h'⟩ | ⟨h, h'⟩
  · refine ⟨ts ++ [.lf c], mem1 (.lf c) hok ⟨.inl ⟨h.1, h.2.2⟩, hv⟩, ?_, by rw [h.2.1]; simp, by rw [fl_app, fl_one]; rfl⟩
    have hp : parts0 c.k = 0 := by rw [h.1]; rfl
    unfold stepP
    rw [hp, show ((((ts.map (gT nf)).length : Nat) : Int) - 0).toNat = (ts.map (gT nf)).length by omega, List.take_length, List.map_append]
    congr 1
    show [(_, _)] = [(txT nf (.lf c), c.k)]
    unfold wr0 txT
    rw [if_pos h.1, if_pos h.1, hR c.r h.2.2.2.2.1 h.2.2.2.2.2.1]
  · refine ⟨ts ++ [.lf c], mem1 (.lf c) hok ⟨.inr ⟨h.1, h.2.2⟩, hv⟩, ?_, by rw [h.2.1]; simp, by rw [fl_app, fl_one]; rfl⟩
    have hp : parts0 c.k = 0 := by rw [h.1]; rfl
    unfold stepP
    rw [hp, show ((((ts.map (gT nf)).length : Nat) : Int) - 0).toNat = (ts.map (gT nf)).length by omega, List.take_length, List.map_append]
    congr 1
    show [(_, _)] = [(txT nf (.lf c), c.k)]
    unfold wr0 txT
    rw [if_neg (by omega), if_pos h.1, if_neg (by omega)]
    have : c.l = 0 ∨ c.l = 1 ∨ c.l = 2 := by omega
    rcases this with e | e | e <;> rw [e] <;> rfl
  · obtain ⟨a, t, rfl⟩ := last1 (ts := ts) (by omega)
    have hp : parts0 c.k = 1 := by rw [h]; rfl
    have hlen : (((((a ++ [t]).map (gT nf)).length : Nat) : Int) - 1).toNat = (a.map (gT nf)).length := by simp
    refine ⟨a ++ [.un c t], mem1 (.un c t) (fun x hx => hok x (List.mem_append_left _ hx)) ⟨h, hok t (by simp)⟩, ?_, by rw [h']; simp, ?_⟩
    · unfold stepP
      rw [hp, hlen, List.map_append, List.take_left, List.map_append]
      congr 1
      show [(_, _)] = [(txT nf (.un c t), c.k)]
      unfold wr0 txT
      have k3 : c.k = 3 := by rw [h]
      rw [if_neg (by omega), if_neg (by omega), if_pos k3, ap45]
      have g0 : ((a.map (gT nf)) ++ ([t].map (gT nf))).getD ((((a.map (gT nf)).length : Nat) : Int) + 0).toNat pz = gT nf t := getD_mid (by omega)
      rw [g0]; rfl
    · rw [fl_app, fl_one, fl_app, fl_one, Tre.rows]; simp
  · obtain ⟨a, t, u, rfl⟩ := last2 (ts := ts) (by omega)
    have hp : parts0 c.k = 2 := by rw [h]; rfl
    have hlen : (((((a ++ [t, u]).map (gT nf)).length : Nat) : Int) - 2).toNat = (a.map (gT nf)).length := by simp
    refine ⟨a ++ [.bi c t u], mem1 (.bi c t u) (fun x hx => hok x (List.mem_append_left _ hx)) ⟨.inl h, hok t (by simp), hok u (by simp)⟩, ?_, by rw [h']; simp, ?_⟩
    · unfold stepP
      rw [hp, hlen, List.map_append, List.take_left, List.map_append]
      congr 1
      show [(_, _)] = [(txT nf (.bi c t u), c.k)]
      unfold wr0 txT
      have k3 : c.k = 4 := by rw [h]
      rw [if_neg (by omega), if_neg (by omega), if_neg (by omega), if_pos k3, if_pos k3, ap45, ap5]
      have g0 : ((a.map (gT nf)) ++ ([t, u].map (gT nf))).getD ((((a.map (gT nf)).length : Nat) : Int) + 0).toNat pz = gT nf t := getD_mid (by omega)
      have g1 : ((a.map (gT nf)) ++ ([t, u].map (gT nf))).getD ((((a.map (gT nf)).length : Nat) : Int) + 1).toNat pz = gT nf u := by
        have e : (a.map (gT nf)) ++ ([t, u].map (gT nf)) = ((a ++ [t]).map (gT nf)) ++ gT nf u :: [] := by simp
        rw [e]; exact getD_mid (by simp only [List.length_map, List.length_append, List.length_cons, List.length_nil]; omega)
      rw [g0, g1]; simp [gT, List.append_assoc]
    · rw [fl_app, fl_one, fl_app, Tre.rows]; simp [fl]
  · obtain ⟨a, t, u, rfl⟩ := last2 (ts := ts) (by omega)
    have hp : parts0 c.k = 2 := by rw [h]; rfl
    have hlen : (((((a ++ [t, u]).map (gT nf)).length : Nat) : Int) - 2).toNat = (a.map (gT nf)).length := by simp
    refine ⟨a ++ [.bi c t u], mem1 (.bi c t u) (fun x hx => hok x (List.mem_append_left _ hx)) ⟨.inr h, hok t (by simp), hok u (by simp)⟩, ?_, by rw [h']; simp, ?_⟩
    · unfold stepP
      rw [hp, hlen, List.map_append, List.take_left, List.map_append]
      congr 1
      show [(_, _)] = [(txT nf (.bi c t u), c.k)]
      unfold wr0 txT
      have k3 : c.k = 5 := by rw [h]
      rw [if_neg (by omega), if_neg (by omega), if_neg (by omega), if_neg (by omega), if_neg (by omega), ap5]
      have g0 : ((a.map (gT nf)) ++ ([t, u].map (gT nf))).getD ((((a.map (gT nf)).length : Nat) : Int) + 0).toNat pz = gT nf t := getD_mid (by omega)
      have g1 : ((a.map (gT nf)) ++ ([t, u].map (gT nf))).getD ((((a.map (gT nf)).length : Nat) : Int) + 1).toNat pz = gT nf u := by
        have e : (a.map (gT nf)) ++ ([t, u].map (gT nf)) = ((a ++ [t]).map (gT nf)) ++ gT nf u :: [] := by simp
        rw [e]; exact getD_mid (by simp only [List.length_map, List.length_append, List.length_cons, List.length_nil]; omega)
      rw [g0, g1]; simp [gT, List.append_assoc]
    · rw [fl_app, fl_one, fl_app, Tre.rows]; simp [fl]
theorem pre_tr (hR : ∀ g : Int, 0 ≤ g → g < 8 → R.getD g.toNat [] = nf g) : ∀ (cs rest : List Cn) (ts : List Tre), (∀ t ∈ ts, t.ok) → (∀ c ∈ cs, okV c.v) → rightGo (cs ++ rest) (ts.length : Int) = true → ∃ ts2 : List Tre, (∀ t ∈ ts2, t.ok) ∧ cs.foldl (fun l c => stepP R c l) (ts.map (gT nf)) = ts2.map (gT nf) ∧ fl ts2 = fl ts ++ cs ∧ rightGo rest (ts2.length : Int) = true
  | [], rest, ts, hok, _, h => ⟨ts, hok, rfl, by simp, h⟩
  | c :: cs, rest, ts, hok, hv, h => by
    rw [List.cons_append, rightGo] at h
    split at h
    · cases h
    · next hc =>
      obtain ⟨ts2, k1, k2, k3, k4⟩ := step_tr (nf := nf) hR (c := c) (ts := ts) (fun h => hc (.inl h)) (by omega) (hv c (by simp)) hok
      obtain ⟨ts3, m1, m2, m3, m4⟩ := pre_tr hR cs rest ts2 k1 (fun x hx => hv x (by simp [hx])) (by rw [k3]; exact h)
      refine ⟨ts3, m1, ?_, ?_, m4⟩
      · rw [List.foldl_cons, k2, m2]
      · rw [m3, k4]; simp
theorem right_go {cs : List Cn} (h : right cs = true) : rightGo cs 0 = true ∧ cs.length ≤ 32 := by
  unfold right at h
  split at h
  · cases h
  · exact ⟨h, by omega⟩
theorem tree_of (hR : ∀ g : Int, 0 ≤ g → g < 8 → R.getD g.toNat [] = nf g) {cs : List Cn} (h : right cs = true) (hv : ∀ c ∈ cs, okV c.v) : ∃ t : Tre, t.ok ∧ foldP R cs = [gT nf t] ∧ t.rows = cs := by
  obtain ⟨ts2, k1, k2, k3, k4⟩ := pre_tr (nf := nf) hR cs [] [] (fun t ht => by cases ht) hv (by rw [List.append_nil]; exact (right_go h).1)
  have hl : ts2.length = 1 := by
    have : (((ts2.length : Nat) : Int) == 1) = true := k4
    have := eq_of_beq this
    omega
  match ts2, hl with
  | [t], _ => exact ⟨t, k1 t (by simp), k2, by have := k3; rw [fl_one] at this; exact this⟩
theorem bkT_len (s : List UInt8) (l k : Int) : (bkT s l k).length ≤ s.length + 2 := by
  unfold bkT; split
  · simp only [List.length_append, List.length_cons, List.length_nil]; omega
  · omega
theorem loc_len {k : Int} (h : 0 ≤ k ∧ k < 3) : (Old.locN k.toNat).length ≤ 1 := by
  have : k = 0 ∨ k = 1 ∨ k = 2 := by omega
  rcases this with e | e | e <;> subst e <;> decide
theorem tx_len (hL : ∀ x, (nf x).length ≤ 20) : ∀ t : Tre, t.ok → (txT nf t).length ≤ 64 * t.rows.length
  | .lf c, h => by
    have h1 := Lib.itoa_length_le c.v h.2.1 h.2.2
    have h2 := hL c.r
    unfold txT
    show _ ≤ 64 * 1
    rcases h.1 with h3 | h3
    · have h4 : (Lib.itoa c.t).length ≤ 21 := Lib.itoa_length_le c.t (by omega) (by omega)
      rw [if_pos h3.1]
      simp only [List.length_append, List.length_cons, List.length_nil]; omega
    · have h4 := loc_len (k := c.l) ⟨h3.2.1, h3.2.2.1⟩
      rw [if_neg (by omega)]
      simp only [List.length_append, List.length_cons, List.length_nil]; omega
  | .un c t, h => by
    have h1 := tx_len hL t h.2
    have h2 := bkT_len (txT nf t) (lvl t.c.k) 2
    unfold txT Tre.rows
    simp only [List.length_append, List.length_cons, List.length_nil]; omega
  | .bi c l r, h => by
    have h1 := tx_len hL l h.2.1
    have h2 := tx_len hL r h.2.2
    have h3 := bkT_len (txT nf l) (lvl l.c.k) 1
    have h4 := bkT_len (txT nf r) (lvl r.c.k) 2
    have h6 := bkT_len (txT nf r) (lvl r.c.k) 1
    unfold txT Tre.rows
    split <;> (simp only [List.length_append, List.length_cons, List.length_nil]; omega)
theorem fl_mem {ts : List Tre} {t : Tre} (h : t ∈ ts) : t.rows.length ≤ (fl ts).length := by
  induction ts with
  | nil => cases h
  | cons x l ih =>
    have e : fl (x :: l) = x.rows ++ fl l := by simp [fl]
    rw [e, List.length_append]
    rcases List.mem_cons.1 h with rfl | h
    · omega
    · have := ih h; omega
theorem fold_len (hR : ∀ g : Int, 0 ≤ g → g < 8 → R.getD g.toNat [] = nf g) (hL : ∀ x, (nf x).length ≤ 20) {cs : List Cn} (h : right cs = true) (hv : ∀ c ∈ cs, okV c.v) (i q : Nat) : ((foldP R (cs.take i)).getD q pz).1.length ≤ 1000000 := by
  obtain ⟨ts2, k1, k2, k3, k4⟩ := pre_tr (nf := nf) hR (cs.take i) (cs.drop i) [] (fun t ht => by cases ht) (fun c hc => hv c (List.mem_of_mem_take hc)) (by rw [List.take_append_drop]; exact (right_go h).1)
  have e : foldP R (cs.take i) = ts2.map (gT nf) := k2
  rw [e]
  by_cases hq : q < ts2.length
  · have : (ts2.map (gT nf)).getD q pz = gT nf ts2[q] := by simp [List.getD, hq]
    rw [this]
    have h1 := tx_len hL _ (k1 _ (List.getElem_mem hq))
    have h2 := fl_mem (List.getElem_mem hq)
    rw [k3] at h2
    have h3 : (cs.take i).length ≤ 32 := by rw [List.length_take]; have := (right_go h).2; omega
    have h4 : (fl [] ++ cs.take i).length = (cs.take i).length := by simp [fl]
    show (txT nf _).length ≤ _
    omega
  · rw [List.getD_eq_getElem?_getD, List.getElem?_eq_none (by simp; omega)]; show pz.1.length ≤ _; decide
theorem back_tr {rf : List UInt8 → Int} (hR : ∀ g : Int, 0 ≤ g → g < 8 → R.getD g.toNat [] = nf g) (hL : ∀ x, (nf x).length ≤ 20) (hn : ∀ x, 0 ≤ x → x < 8 → Nam (nf x)) (hrf : ∀ x, 0 ≤ x → x < 8 → rf (nf x) = x) {cs : List Cn} (h : right cs = true) (hv : ∀ c ∈ cs, okV c.v) : ((foldP R cs).getD 0 pz).1.length ≤ 2048 ∧ ∃ ws, tokensR ((foldP R cs).getD 0 pz).1 = (ws, 0, 0) ∧ rpS rf ws = ⟨0, 0, ws.length⟩ ∧ rpN rf ws = cs := by
  obtain ⟨t, k1, k2, k3⟩ := tree_of (nf := nf) hR h hv
  have e : ((foldP R cs).getD 0 pz).1 = txT nf t := by rw [k2]; rfl
  have hl : (txT nf t).length ≤ 2048 := by
    have h1 := tx_len hL t k1
    rw [k3] at h1
    have := (right_go h).2
    omega
  rw [e]
  refine ⟨hl, ?_⟩
  obtain ⟨ws, w1, w2⟩ := lexK_tokens (by have := (lk_tree hn t k1).1 [] [] sep_nil lk_nil; rwa [List.append_nil, List.append_nil] at this) (by omega)
  obtain ⟨r1, r2⟩ := rd_back hrf k1 w2
  exact ⟨ws, w1, r1, r2.trans k3⟩
theorem read_right {rf : List UInt8 → Int} {ws : List Tk} (hW : ∀ t ∈ ws, TkW t) (h8 : ∀ q, rf q < 8) (h : (rpS rf ws).e = 0) (hl : (rpN rf ws).length ≤ 32) : right (rpN rf ws) = true ∧ ∀ c ∈ rpN rf ws, okV c.v := by
  obtain ⟨t, k1, k2⟩ := rp_tree hW h8 h
  rw [k2] at hl ⊢
  exact ⟨right_tree k1 hl, rows_val t k1⟩
end
end Go.Proofs.YtedlaclfhgneeabGreatDoor.Cd
namespace Go.Proofs.YtedlaclfhgneeabGreatDoor
open Go.RowKit
set_option linter.unusedVariables false
set_option linter.unusedSimpArgs false
set_option maxRecDepth 100000
set_option maxHeartbeats 2000000
set_option simprocs false
theorem regs0_ (ar : Int) (ha : ¬ (1 ≤ ar ∧ ar ≤ 3)) : Fn Tryz.prog 45 [.int .i64 ar] [] (Rt (.sla none 0 0) []) :=
 enterM (n := 13) (by kernel_rfl) Tryz.func45 rfl rfl rfl fun G w a h0 A => N hX 18 A rfl rfl fun A => forkE 4 A rfl
  (fun h1 A => N hX 3 A rfl rfl fun A => CALL1 [] regnX_ A rfl rfl rfl rfl rfl rfl rfl fun A => N hX 4 A rfl rfl fun A => (by exact absurd h1 (by omega)))
  (fun h1 A => N hX 7 A rfl rfl fun A => forkE 7 A rfl
   (fun h2 A => N hX 3 A rfl rfl fun A => CALL1 [] regnV_ A rfl rfl rfl rfl rfl rfl rfl fun A => N hX 4 A rfl rfl fun A => (by exact absurd h2 (by omega)))
   (fun h2 A => N hX 7 A rfl rfl fun A => forkE 10 A rfl
    (fun h3 A => N hX 3 A rfl rfl fun A => CALL1 [] regnA_ A rfl rfl rfl rfl rfl rfl rfl fun A => N hX 4 A rfl rfl fun A => (by exact absurd h3 (by omega)))
    (fun h3 A => N hX 10 A rfl rfl fun A => (by exact RETN hX A rfl rfl rfl h0 rfl rfl rfl rfl rfl rfl))))
theorem cparse_arch (ar : Int) (ws : List Tk) (cw : Nat) (ha : ¬ (1 ≤ ar ∧ ar ≤ 3)) : Fn Tryz.prog 19 [.int .i64 ar, .sl 0 ws.length cw] [some (.lst 4 ws.length (fun zz => tkc (ws.getD zz tok0)))] (Rt (.tup [.sla none 0 0, .int .i64 36, .int .i64 0]) [some (.lst 4 ws.length (fun zz => tkc (ws.getD zz tok0)))]) :=
 enterM (n := 59) (by kernel_rfl) Tryz.func19 rfl rfl rfl fun G w a h0 A => N hX 10 A rfl rfl fun A => CALL1 [] (regs0_ ar ha) A rfl rfl rfl rfl rfl rfl rfl fun A => N hX 7 A rfl rfl fun A => NILQ (r := .tt) A rfl rfl rfl rfl rfl (e := 9) (by kernel_rfl) rfl fun A => N hX 11 A rfl rfl fun A => RETN hX A rfl rfl rfl h0 rfl rfl rfl rfl rfl rfl

theorem condsL_ (ns : List Cn) (cx : Nat) (hns : ns.length ≤ 1000) : Fn Tryz.prog 21 [.sl 0 ns.length 0, .sl 1 ns.length cx] [some (.row 88 5 ns.length 0 (fun zz => cc (ns.getD zz Cn.z))), some (.lst 5 ns.length (fun zz => cc (ns.getD zz Cn.z)))] (Rt (.tt) [some (.row 88 5 ns.length 0 (fun zz => cc (ns.getD zz Cn.z))), some (.lst 5 ns.length (fun zz => cc (ns.getD zz Cn.z)))]) :=
 enterM (n := 26) (by kernel_rfl) Tryz.func21 rfl rfl rfl fun G w a h0 A => N hX 15 A rfl rfl fun A => forkN 10 A rfl
  (fun h1 A => N hX 7 A rfl rfl fun A => RETN hX A rfl rfl rfl h0 rfl rfl rfl rfl (absurd h1 (by simp)) rfl)
  (fun h1 A => N hX 10 A rfl rfl fun A => LOOP1 (fun (i7 : Nat) => [(0, .sl 0 ns.length 0), (1, .sl 1 ns.length cx), (4, .ff), (5, .int .i64 (i7 : Int))]) (fun (i7 : Nat) => [some (.row 88 5 ns.length 0 (fun zz => cc (ns.getD zz Cn.z))), some (.lst 5 ns.length (fun zz => cc (ns.getD zz Cn.z)))]) (fun (i7 : Nat) => i7 ≤ ns.length) (fun (i7 : Nat) => ns.length - i7) 0 (Nat.zero_le _) ((A.cut [0, 1, 4, 5] rfl).trunc 2 rfl rfl rfl (by simp only [List.length_cons, List.length_nil] at h0; omega)) fun i7 hI {G a w} A => N hX 9 A rfl rfl fun A => forkD 14 A rfl
    (fun h2 A => N hX 6 A rfl rfl fun A => DRAWN hX hmo [] [] A rfl (ok_d (by omega) <| ok_d (by omega) <| ok_d (by omega) <| ok_d (by omega) <| okE_nil) rfl rfl (by kernel_rfl) (effAll_nil _ _) trivial fun A => N hX 1 A rfl rfl fun A => fork 25 A rfl
     (fun h3 A => N hX 7 A rfl rfl fun A => RETN hX A rfl rfl rfl h0 rfl rfl rfl rfl (absurd h3 (by simp)) rfl)
     (fun h3 A => N hX 9 A rfl (ok_d (by omega) <| okE_nil) fun A => ⟨i7 + 1, _, (by omega), (by omega), ((A.cut [0, 1, 4, 5] rfl).trunc 2 rfl rfl rfl (by simp only [List.length_cons, List.length_nil] at h0; omega))⟩))
    (fun h2 A => N hX 9 A rfl rfl fun A => RETN hX A rfl rfl rfl h0 rfl rfl rfl rfl rfl rfl))
theorem condsM_ (ns : List Cn) (cx : Nat) (hns : ns.length ≤ 1000) : Fn Tryz.prog 21 [.sl 0 ns.length cx, .sl 1 ns.length 0] [some (.lst 5 ns.length (fun zz => cc (ns.getD zz Cn.z))), some (.row 88 5 ns.length 0 (fun zz => cc (ns.getD zz Cn.z)))] (Rt (.tt) [some (.lst 5 ns.length (fun zz => cc (ns.getD zz Cn.z))), some (.row 88 5 ns.length 0 (fun zz => cc (ns.getD zz Cn.z)))]) :=
 enterM (n := 26) (by kernel_rfl) Tryz.func21 rfl rfl rfl fun G w a h0 A => N hX 15 A rfl rfl fun A => forkN 10 A rfl
  (fun h1 A => N hX 7 A rfl rfl fun A => RETN hX A rfl rfl rfl h0 rfl rfl rfl rfl (absurd h1 (by simp)) rfl)
  (fun h1 A => N hX 10 A rfl rfl fun A => LOOP1 (fun (i7 : Nat) => [(0, .sl 0 ns.length cx), (1, .sl 1 ns.length 0), (4, .ff), (5, .int .i64 (i7 : Int))]) (fun (i7 : Nat) => [some (.lst 5 ns.length (fun zz => cc (ns.getD zz Cn.z))), some (.row 88 5 ns.length 0 (fun zz => cc (ns.getD zz Cn.z)))]) (fun (i7 : Nat) => i7 ≤ ns.length) (fun (i7 : Nat) => ns.length - i7) 0 (Nat.zero_le _) ((A.cut [0, 1, 4, 5] rfl).trunc 2 rfl rfl rfl (by simp only [List.length_cons, List.length_nil] at h0; omega)) fun i7 hI {G a w} A => N hX 9 A rfl rfl fun A => forkD 14 A rfl
    (fun h2 A => N hX 6 A rfl rfl fun A => DRAWN hX hmo [] [] A rfl (ok_d (by omega) <| ok_d (by omega) <| ok_d (by omega) <| ok_d (by omega) <| okE_nil) rfl rfl (by kernel_rfl) (effAll_nil _ _) trivial fun A => N hX 1 A rfl rfl fun A => fork 25 A rfl
     (fun h3 A => N hX 7 A rfl rfl fun A => RETN hX A rfl rfl rfl h0 rfl rfl rfl rfl (absurd h3 (by simp)) rfl)
     (fun h3 A => N hX 9 A rfl (ok_d (by omega) <| okE_nil) fun A => ⟨i7 + 1, _, (by omega), (by omega), ((A.cut [0, 1, 4, 5] rfl).trunc 2 rfl rfl rfl (by simp only [List.length_cons, List.length_nil] at h0; omega))⟩))
    (fun h2 A => N hX 9 A rfl rfl fun A => RETN hX A rfl rfl rfl h0 rfl rfl rfl rfl rfl rfl))
theorem cprint_arch (ar : Int) (L : List Cn) (n : Nat) (c : Nat) (ha : ¬ (1 ≤ ar ∧ ar ≤ 3)) : Fn Tryz.prog 22 [.int .i64 ar, .sl 0 n c] [some (.lst 5 L.length (fun zz => cc (L.getD zz Cn.z)))] (Rt (.tup [.str [], .int .i64 36]) [some (.lst 5 L.length (fun zz => cc (L.getD zz Cn.z)))]) :=
 enterM (n := 20) (by kernel_rfl) Tryz.func22 rfl rfl rfl fun G w a h0 A => N hX 9 A rfl rfl fun A => CALL1 [] (regs0_ ar ha) A rfl rfl rfl rfl rfl rfl rfl fun A => N hX 8 A rfl rfl fun A => NILQ (r := .tt) A rfl rfl rfl rfl rfl (e := 9) (by kernel_rfl) rfl fun A => N hX 10 A rfl rfl fun A => RETN hX A rfl rfl rfl h0 rfl rfl rfl rfl rfl rfl
def aO (s : Old.Rs) : As := ⟨s.p, s.e, s.a⟩
structure Rel (x : As) (s : Old.Rs) : Prop where
  e : x.e = s.e
  a : x.a = s.a
  p : s.e = 0 → x.p = s.p
def Mi (ws : List Tk) : Prop := ∀ k, k < ws.length → (ws.getD k tok0).text = [45] → (ws.getD k tok0).kind ≠ 2 → (ws.getD k tok0).kind = 3
section
variable {rf : List UInt8 → Int} {ws : List Tk} {rs ls : List (List UInt8)} {x : As} {s : Old.Rs} {m : List UInt8} {k : Int} {ns : List Cn}
theorem Rel.eq (h : Rel x s) (h0 : s.e = 0) : x = aO s := by
  obtain ⟨p, e, a⟩ := x
  have h1 : e = s.e := h.e
  have h2 : a = s.a := h.a
  have h3 : p = s.p := h.p h0
  rw [h1, h2, h3]; rfl
theorem Rel.of (h : s.e ≠ 0) (h1 : x.e = s.e) (h2 : x.a = s.a) : Rel x s := ⟨h1, h2, fun e => absurd e h⟩
theorem kp_ref (h : x.e ≠ 0) : refA ws x k = x := by unfold refA refAt; rw [if_neg h]
theorem kp_mk (h : x.e ≠ 0) : (mkA ws x m).e = x.e ∧ (mkA ws x m).a = x.a := by
  unfold mkA; split
  · exact ⟨rfl, rfl⟩
  · rw [kp_ref (show (goA x (tkK ws x.p m)).e ≠ 0 from h)]; exact ⟨rfl, rfl⟩
theorem kp_num (h : x.e ≠ 0) : (numA ws x).e = x.e ∧ (numA ws x).a = x.a := by
  unfold numA; split
  · exact ⟨rfl, rfl⟩
  · rw [kp_ref (show (goA x (tkK ws (nbK ws x.p) [45])).e ≠ 0 from h)]; exact ⟨rfl, rfl⟩
theorem kp_kn (h : x.e ≠ 0) : (knA ws x ls).e = x.e ∧ (knA ws x ls).a = x.a := by
  unfold knA; split
  · split
    · rw [kp_ref h]; exact ⟨rfl, rfl⟩
    · exact ⟨rfl, rfl⟩
  · rw [kp_ref h]; exact ⟨rfl, rfl⟩
theorem kp_hs (h : x.e ≠ 0) : hoS ws x = x := by unfold hoS; split <;> first | exact kp_ref h | rfl
theorem kp_ho (h : x.e ≠ 0) : (hoA ws x rs).e = x.e ∧ (hoA ws x rs).a = x.a := by
  unfold hoA; split
  · rw [kp_hs h]
    have h1 := kp_mk (ws := ws) (m := [58]) (x := ⟨nxK ws x.p, x.e, x.a⟩) h
    have h2 := kp_kn (ws := ws) (ls := rs) (x := mkA ws ⟨nxK ws x.p, x.e, x.a⟩ [58]) (by rw [h1.1]; exact h)
    exact ⟨h2.1.trans h1.1, h2.2.trans h1.2⟩
  · exact kp_kn h
theorem kp_le (h : x.e ≠ 0) : (leA ws x rs).e = x.e ∧ (leA ws x rs).a = x.a := by
  have h1 := kp_ho (ws := ws) (rs := rs) h
  have h2 := kp_mk (ws := ws) (m := [61]) (x := hoA ws x rs) (by rw [h1.1]; exact h)
  have h3 := kp_num (ws := ws) (x := mkA ws (hoA ws x rs) [61]) (by rw [h2.1, h1.1]; exact h)
  exact ⟨h3.1.trans (h2.1.trans h1.1), h3.2.trans (h2.2.trans h1.2)⟩
theorem at_in {k : Nat} (h : k < ws.length) : atW ws k = (ws.getD k tok0).at_ := by unfold atW; rw [if_pos h]
theorem ref_y {k : Int} (h0 : s.e = 0) (h : s.p < ws.length) : Rel (refA ws (aO s) k) (Old.failR s k (ws.getD s.p tok0).at_) := by
  rw [fail_y h0]; unfold refA refAt; rw [if_pos (show (aO s).e = 0 from h0), if_pos (show (aO s).p < ws.length from h), show atW ws (aO s).p = _ from at_in h]; exact ⟨rfl, rfl, fun _ => rfl⟩
theorem ref_n {k : Int} (h0 : s.e = 0) (h : ¬ s.p < ws.length) : Rel (refA ws (aO s) k) (Old.failR s 24 (atW ws s.p)) := by
  rw [fail_y h0]; unfold refA refAt; rw [if_pos (show (aO s).e = 0 from h0), if_neg (show ¬ (aO s).p < ws.length from h)]; exact ⟨rfl, rfl, fun _ => rfl⟩
theorem rel_odd (hw : WsOK ws) (h0 : s.e = 0) : Rel (refA ws (aO s) 22) (Old.oddR ws false s) := by
  by_cases h : s.p < ws.length
  · rw [odd_g h]; exact ref_y h0 h
  · rw [odd_e hw h]; exact ref_n h0 h
theorem rel_mark (hw : WsOK ws) (h : Rel x s) : Rel (mkA ws x m) (Old.markR ws m s) := by
  by_cases h0 : s.e = 0
  · rw [h.eq h0]
    cases hb : tkB ws s.p m with
    | true => rw [mark_y h0 hb]; unfold mkA; rw [if_pos (show tkB ws (aO s).p m = true from hb)]; exact ⟨rfl, rfl, fun _ => rfl⟩
    | false => rw [mark_n h0 hb]; unfold mkA; rw [if_neg (show ¬ tkB ws (aO s).p m = true from bne hb)]; exact rel_odd (s := ⟨s.e, s.a, tkK ws s.p m⟩) hw h0
  · rw [mark_s h0]
    have := kp_mk (ws := ws) (m := m) (x := x) (by rw [h.e]; exact h0)
    exact .of h0 (this.1.trans h.e) (this.2.trans h.a)
theorem tok_out {k : Nat} (h : ¬ k < ws.length) : ws.getD k tok0 = tok0 := by rw [List.getD_eq_getElem?_getD, List.getElem?_eq_none (by omega)]; rfl
theorem rel_reg (hw : WsOK ws) (hr : ∀ q, rf q = idxS rs q) (h : Rel x s) : Rel (knA ws x rs) (regG rf ws s).1 ∧ ((regG rf ws s).1.e = 0 → knI ws x rs = (regG rf ws s).2) := by
  by_cases h0 : s.e = 0
  · rw [h.eq h0]
    by_cases hl : s.p < ws.length
    · by_cases hk : (ws.getD s.p tok0).kind = 1
      · by_cases hi : rf (ws.getD s.p tok0).text < 0
        · rw [reg_n h0 (by rw [decide_eq_true hi, Bool.or_true])]
          refine ⟨?_, fun e => absurd e (odd_ne h0)⟩
          unfold knA; rw [if_pos (show (ws.getD (aO s).p tok0).kind = 1 from hk), if_pos (show idxS rs (ws.getD (aO s).p tok0).text < 0 by rw [← hr]; exact hi), odd_w hl hk]
          exact ref_y h0 hl
        · rw [reg_y h0 (by rw [decide_eq_true hl, beq_iff_eq.2 hk, decide_eq_false hi]; rfl)]
          have hi2 : ¬ idxS rs (ws.getD (aO s).p tok0).text < 0 := by rw [← hr]; exact hi
          refine ⟨?_, fun _ => ?_⟩
          · unfold knA; rw [if_pos (show (ws.getD (aO s).p tok0).kind = 1 from hk), if_neg hi2]; exact ⟨rfl, rfl, fun _ => rfl⟩
          · unfold knI; rw [if_pos (show (ws.getD (aO s).p tok0).kind = 1 from hk), if_neg hi2]; exact (hr _).symm
      · rw [reg_n h0 (by rw [beq_eq_false_iff_ne.2 hk, decide_eq_true hl]; rfl)]
        refine ⟨?_, fun e => absurd e (odd_ne h0)⟩
        unfold knA; rw [if_neg (show ¬ (ws.getD (aO s).p tok0).kind = 1 from hk), odd_f hl hk]
        exact ref_y h0 hl
    · rw [reg_n h0 (by rw [decide_eq_false hl]; rfl)]
      refine ⟨?_, fun e => absurd e (odd_ne h0)⟩
      unfold knA; rw [if_neg (show ¬ (ws.getD (aO s).p tok0).kind = 1 by rw [show ws.getD (aO s).p tok0 = tok0 from tok_out hl]; decide), odd_e hw hl]
      exact ref_n h0 hl
  · rw [reg_s h0]
    have := kp_kn (ws := ws) (ls := rs) (x := x) (by rw [h.e]; exact h0)
    exact ⟨.of h0 (this.1.trans h.e) (this.2.trans h.a), fun e => absurd e h0⟩
theorem mn_tk (hm : Mi ws) (k : Nat) : mnB ws k = tkB ws k [45] := by
  unfold mnB tkB
  by_cases hl : k < ws.length
  · rw [decide_eq_true hl, Bool.true_and, Bool.true_and]
    by_cases ht : (ws.getD k tok0).text = [45]
    · by_cases h2 : (ws.getD k tok0).kind = 2
      · rw [h2, beq_iff_eq.2 ht]; rfl
      · rw [hm k hl ht h2, beq_iff_eq.2 ht]; rfl
    · rw [beq_eq_false_iff_ne.2 ht, Bool.and_false, Bool.and_false]
  · rw [decide_eq_false hl]; rfl
theorem num_nu {k : Nat} : ((!(decide (k < ws.length))) || (!((ws.getD k tok0).kind == 2))) = !(nuB ws k) := by
  unfold nuB; cases decide (k < ws.length) <;> cases ((ws.getD k tok0).kind == 2) <;> rfl
theorem nuN {k : Nat} (h : nuB ws k = true) : k < ws.length := by
  unfold nuB at h; rw [Bool.and_eq_true] at h; exact of_decide_eq_true h.1
theorem rel_num (hw : WsOK ws) (hm : Mi ws) (h : Rel x s) : Rel (numA ws x) (Old.numS ws s).1 ∧ ((Old.numS ws s).1.e = 0 → nbV ws x.p = (Old.numS ws s).2) := by
  by_cases h0 : s.e = 0
  · rw [h.eq h0, numM h0]
    have hp : (aO s).p = s.p := rfl
    cases hb : tkB ws s.p [45] with
    | true =>
      have hk := tkK_y hb
      have hmn := (mn_tk hm s.p).trans hb
      cases hn : nuB ws (s.p + 1) with
      | true =>
        rw [numE_y (by show ((!(decide (tkK ws s.p [45] < ws.length))) || (!((ws.getD (tkK ws s.p [45]) tok0).kind == 2))) = false; rw [num_nu, hk, hn]; rfl)]
        refine ⟨?_, fun _ => ?_⟩
        · unfold numA nbB nbK; rw [hp, if_pos hmn, if_pos hn, if_pos hmn, if_pos hn]
          refine ⟨rfl, rfl, fun _ => ?_⟩
          show s.p + 1 + 1 = nxK ws (tkK ws s.p [45]); rw [hk, nxK_y (nuN hn)]
        · unfold nbV; rw [hp, if_pos hmn, if_pos hn, if_pos rfl]; show _ = IntKind.wrap .i64 (0 - (ws.getD (tkK ws s.p [45]) tok0).n); rw [hk]
      | false =>
        rw [numE_n (by show ((!(decide (tkK ws s.p [45] < ws.length))) || (!((ws.getD (tkK ws s.p [45]) tok0).kind == 2))) = true; rw [num_nu, hk, hn]; rfl)]
        refine ⟨?_, fun e => absurd e (odd_ne (s := ⟨s.e, s.a, tkK ws s.p [45]⟩) h0)⟩
        unfold numA nbB nbK; rw [hp, if_pos hmn, if_neg (bne hn), if_pos hmn, if_neg (bne hn)]
        exact rel_odd (s := ⟨s.e, s.a, tkK ws s.p [45]⟩) hw h0
    | false =>
      have hk := tkK_n hb
      have hmn := (mn_tk hm s.p).trans hb
      cases hn : nuB ws s.p with
      | true =>
        rw [numE_y (by show ((!(decide (tkK ws s.p [45] < ws.length))) || (!((ws.getD (tkK ws s.p [45]) tok0).kind == 2))) = false; rw [num_nu, hk, hn]; rfl)]
        refine ⟨?_, fun _ => ?_⟩
        · unfold numA nbB nbK; rw [hp, if_neg (bne hmn), if_pos hn, if_neg (bne hmn), if_pos hn]
          refine ⟨rfl, rfl, fun _ => ?_⟩
          show s.p + 1 = nxK ws (tkK ws s.p [45]); rw [hk, nxK_y (nuN hn)]
        · unfold nbV; rw [hp, if_neg (bne hmn), if_pos hn, if_neg (by decide)]; show _ = (ws.getD (tkK ws s.p [45]) tok0).n; rw [hk]
      | false =>
        rw [numE_n (by show ((!(decide (tkK ws s.p [45] < ws.length))) || (!((ws.getD (tkK ws s.p [45]) tok0).kind == 2))) = true; rw [num_nu, hk, hn]; rfl)]
        refine ⟨?_, fun e => absurd e (odd_ne (s := ⟨s.e, s.a, tkK ws s.p [45]⟩) h0)⟩
        unfold numA nbB nbK; rw [hp, if_neg (bne hmn), if_neg (bne hn), if_neg (bne hmn), if_neg (bne hn)]
        exact rel_odd (s := ⟨s.e, s.a, tkK ws s.p [45]⟩) hw h0
  · rw [num_s h0]
    have := kp_num (ws := ws) (x := x) (by rw [h.e]; exact h0)
    exact ⟨.of h0 (this.1.trans h.e) (this.2.trans h.a), fun e => absurd e h0⟩
theorem mark_e0 (h : (Old.markR ws m s).e = 0) : s.e = 0 := by
  apply Classical.byContradiction; intro h0
  rw [mark_s h0] at h; exact h0 h
theorem num_e0 (h : (Old.numS ws s).1.e = 0) : s.e = 0 := by
  apply Classical.byContradiction; intro h0
  rw [num_s h0] at h; exact h0 h
theorem loc_ix (q : List UInt8) : Old.locF q = idxS [[120], [121], [122]] q := (idxS_L _ q).symm
theorem hoS_in (h : (decide ((ws.getD s.p tok0).n < 0) || decide ((ws.getD s.p tok0).n > 2)) = false) : hoS ws (aO s) = aO s := by
  rw [Bool.or_eq_false_iff] at h
  have h1 := of_decide_eq_false h.1
  have h2 := of_decide_eq_false h.2
  unfold hoS
  rw [if_neg]
  show ¬ (decide ((ws.getD s.p tok0).n < 0) || decide ((ws.getD s.p tok0).n ≥ 3)) = true
  rw [decide_eq_false h1, decide_eq_false (by omega)]; decide
theorem hoS_out (h : (decide ((ws.getD s.p tok0).n < 0) || decide ((ws.getD s.p tok0).n > 2)) = true) : hoS ws (aO s) = refA ws (aO s) 22 := by
  unfold hoS
  rw [if_pos]
  show (decide ((ws.getD s.p tok0).n < 0) || decide ((ws.getD s.p tok0).n ≥ 3)) = true
  rw [Bool.or_eq_true] at h ⊢
  rcases h with h | h
  · exact .inl h
  · exact .inr (decide_eq_true (by have := of_decide_eq_true h; omega))
theorem leaf_bad (h : s.e ≠ 0) (hr : Rel (hoA ws x rs) s) : Rel (leA ws x rs) s := by
  have k3 := kp_mk (ws := ws) (m := [61]) (x := hoA ws x rs) (by rw [hr.e]; exact h)
  have k4 := kp_num (ws := ws) (x := mkA ws (hoA ws x rs) [61]) (by rw [k3.1, hr.e]; exact h)
  exact .of h (k4.1.trans (k3.1.trans hr.e)) (k4.2.trans (k3.2.trans hr.a))
theorem rel_leaf (hw : WsOK ws) (hm : Mi ws) (hr : ∀ q, rf q = idxS rs q) (h0 : s.e = 0) : Rel (leA ws (aO s) rs) (atZ rf ws s ns).1 ∧ ((atZ rf ws s ns).1.e = 0 → (atZ rf ws s ns).2 = ns ++ [leC ws (aO s) rs]) := by
  cases h1 : (decide (s.p < ws.length) && ((ws.getD s.p tok0).kind == 2)) with
  | true =>
    have hl : s.p < ws.length := by rw [Bool.and_eq_true] at h1; exact of_decide_eq_true h1.1
    have hk : (ws.getD s.p tok0).kind = 2 := by rw [Bool.and_eq_true] at h1; exact beq_iff_eq.1 h1.2
    have hk' : (ws.getD (aO s).p tok0).kind = 2 := hk
    cases h2 : (decide ((ws.getD s.p tok0).n < 0) || decide ((ws.getD s.p tok0).n > 2)) with
    | true =>
      rw [at_1 h1 h2]
      have q := ref_y (ws := ws) (k := 22) h0 hl
      have qe : (Old.failR s 22 (ws.getD s.p tok0).at_).e ≠ 0 := by rw [fail_y h0]; exact (by decide : (22 : Int) ≠ 0)
      refine ⟨?_, fun e => absurd e qe⟩
      have x0 : (hoS ws (aO s)).e ≠ 0 := by rw [hoS_out h2, q.e]; exact qe
      have h3 : (hoA ws (aO s) rs).e = (hoS ws (aO s)).e ∧ (hoA ws (aO s) rs).a = (hoS ws (aO s)).a := by
        unfold hoA; rw [if_pos hk']
        have k1 := kp_mk (ws := ws) (m := [58]) (x := ⟨nxK ws (hoS ws (aO s)).p, (hoS ws (aO s)).e, (hoS ws (aO s)).a⟩) x0
        have k2 := kp_kn (ws := ws) (ls := rs) (x := mkA ws ⟨nxK ws (hoS ws (aO s)).p, (hoS ws (aO s)).e, (hoS ws (aO s)).a⟩ [58]) (by rw [k1.1]; exact x0)
        exact ⟨k2.1.trans k1.1, k2.2.trans k1.2⟩
      have k3 := kp_mk (ws := ws) (m := [61]) (x := hoA ws (aO s) rs) (by rw [h3.1]; exact x0)
      have k4 := kp_num (ws := ws) (x := mkA ws (hoA ws (aO s) rs) [61]) (by rw [k3.1, h3.1]; exact x0)
      refine .of qe ?_ ?_
      · show (numA ws (mkA ws (hoA ws (aO s) rs) [61])).e = _; rw [k4.1, k3.1, h3.1, hoS_out h2, q.e]
      · show (numA ws (mkA ws (hoA ws (aO s) rs) [61])).a = _; rw [k4.2, k3.2, h3.2, hoS_out h2, q.a]
    | false =>
      rw [at_2 h1 h2]
      have r1 : Rel (mkA ws ⟨nxK ws (hoS ws (aO s)).p, (hoS ws (aO s)).e, (hoS ws (aO s)).a⟩ [58]) (Old.markR ws [58] ⟨s.e, s.a, nxK ws s.p⟩) := by
        rw [hoS_in h2]; exact rel_mark hw ⟨rfl, rfl, fun _ => rfl⟩
      have r2 := rel_reg hw hr r1
      have r3 : Rel (mkA ws (hoA ws (aO s) rs) [61]) (Old.markR ws [61] (atR rf ws s).1) := by
        unfold hoA; rw [if_pos hk']; exact rel_mark hw r2.1
      have r4 := rel_num hw hm r3
      refine ⟨r4.1, fun e => ?_⟩
      have e2 : (atR rf ws s).1.e = 0 := mark_e0 (num_e0 e)
      rw [putN_y (show (atV rf ws s).1.e = 0 from e)]
      have v1 := r2.2 e2
      have v2 := r4.2 e
      have : leC ws (aO s) rs = ⟨1, (ws.getD s.p tok0).n, (atR rf ws s).2, 0, (atV rf ws s).2⟩ := by
        unfold leC; rw [v2]; unfold hoC; rw [if_pos hk', v1]; rfl
      rw [this]
  | false =>
    have hk : ¬ (ws.getD (aO s).p tok0).kind = 2 := by
      intro h
      by_cases hl : s.p < ws.length
      · rw [decide_eq_true hl, beq_iff_eq.2 (show (ws.getD s.p tok0).kind = 2 from h)] at h1; cases h1
      · rw [show ws.getD (aO s).p tok0 = tok0 from tok_out hl] at h; exact absurd h (by decide)
    have hA : hoA ws (aO s) rs = knA ws (aO s) [[120], [121], [122]] := by unfold hoA; rw [if_neg hk]
    cases h4 : (decide (s.p < ws.length) && ((ws.getD s.p tok0).kind == 1)) with
    | true =>
      have hl : s.p < ws.length := by rw [Bool.and_eq_true] at h4; exact of_decide_eq_true h4.1
      have hk1 : (ws.getD (aO s).p tok0).kind = 1 := by rw [Bool.and_eq_true] at h4; exact beq_iff_eq.1 h4.2
      by_cases hi : Old.locF (ws.getD s.p tok0).text ≥ 0
      · rw [at_3 h1 (by rw [h4, decide_eq_true hi]; rfl)]
        have hi2 : ¬ idxS [[120], [121], [122]] (ws.getD (aO s).p tok0).text < 0 := by rw [← loc_ix]; show ¬ Old.locF (ws.getD s.p tok0).text < 0; omega
        have hA2 : hoA ws (aO s) rs = ⟨nxK ws s.p, s.e, s.a⟩ := by rw [hA]; unfold knA; rw [if_pos hk1, if_neg hi2]; rfl
        have r3 : Rel (mkA ws (hoA ws (aO s) rs) [61]) (Old.markR ws [61] ⟨s.e, s.a, nxK ws s.p⟩) := by rw [hA2]; exact rel_mark hw ⟨rfl, rfl, fun _ => rfl⟩
        have r4 := rel_num hw hm r3
        refine ⟨r4.1, fun e => ?_⟩
        rw [putN_y (show (atL ws s).1.e = 0 from e)]
        have v2 := r4.2 e
        have : leC ws (aO s) rs = ⟨2, 0, 0, Old.locF (ws.getD s.p tok0).text, (atL ws s).2⟩ := by
          unfold leC; rw [v2]; unfold hoC; rw [if_neg hk]; unfold knI; rw [if_pos hk1, if_neg hi2, ← loc_ix]; rfl
        rw [this]
      · have h3 : ((decide (s.p < ws.length) && ((ws.getD s.p tok0).kind == 1)) && decide (Old.locF (ws.getD s.p tok0).text ≥ 0)) = false := by rw [decide_eq_false hi, Bool.and_false]
        rw [at_4 h1 h3 h4]
        have q := ref_y (ws := ws) (k := 21) h0 hl
        have qe : (Old.failR s 21 (ws.getD s.p tok0).at_).e ≠ 0 := by rw [fail_y h0]; exact (by decide : (21 : Int) ≠ 0)
        have hA2 : hoA ws (aO s) rs = refA ws (aO s) 21 := by rw [hA]; unfold knA; rw [if_pos hk1, if_pos (show idxS [[120], [121], [122]] (ws.getD (aO s).p tok0).text < 0 by rw [← loc_ix]; show Old.locF (ws.getD s.p tok0).text < 0; omega)]
        exact ⟨leaf_bad qe (by rw [hA2]; exact q), fun e => absurd e qe⟩
    | false =>
      have h3 : ((decide (s.p < ws.length) && ((ws.getD s.p tok0).kind == 1)) && decide (Old.locF (ws.getD s.p tok0).text ≥ 0)) = false := by rw [h4]; rfl
      have hk1 : ¬ (ws.getD (aO s).p tok0).kind = 1 := by
        intro h
        by_cases hl : s.p < ws.length
        · rw [decide_eq_true hl, beq_iff_eq.2 (show (ws.getD s.p tok0).kind = 1 from h)] at h4; cases h4
        · rw [show ws.getD (aO s).p tok0 = tok0 from tok_out hl] at h; exact absurd h (by decide)
      have hA2 : hoA ws (aO s) rs = refA ws (aO s) 22 := by rw [hA]; unfold knA; rw [if_neg hk1]
      by_cases hl : s.p < ws.length
      · rw [at_5 h1 h3 h4 hl]
        have qe : (Old.failR s 22 (ws.getD s.p tok0).at_).e ≠ 0 := by rw [fail_y h0]; exact (by decide : (22 : Int) ≠ 0)
        exact ⟨leaf_bad qe (by rw [hA2]; exact ref_y h0 hl), fun e => absurd e qe⟩
      · rw [at_6 h1 h3 h4 hl]
        have qe : (Old.failR s 24 (atW ws s.p)).e ≠ 0 := by rw [fail_y h0]; exact (by decide : (24 : Int) ≠ 0)
        exact ⟨leaf_bad qe (by rw [hA2]; exact ref_n h0 hl), fun e => absurd e qe⟩
end
end Go.Proofs.YtedlaclfhgneeabGreatDoor
