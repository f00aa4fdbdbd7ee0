/- CondParses, part 5: the engine, contracts, theory. -/
import Derived.Test.YtedlaclfhgneeabGreatDoorCondParsesP4
import Derived.Lib.ItoaLen
import Derived.WalkSmall
import Derived.ProofKit
import Derived.OpenShut
import Derived.ChangeOld
namespace Go.Proofs.YtedlaclfhgneeabGreatDoor.Cd
open Go.RowKit
set_option linter.unusedVariables false
set_option linter.unusedSimpArgs false
set_option maxRecDepth 100000
set_option maxHeartbeats 2000000
set_option simprocs false
open Go.Sort
theorem fdivN (k m : Nat) : Int.fdiv (k : Int) ((m : Nat) : Int) = ((k / m : Nat) : Int) := by
  cases k with
  | zero => simp
  | succ k => rfl
theorem bl_div {n : Nat} (h : 256 ≤ n) : bitsLen n = 8 + bitsLen (n / 256) := by
  have h1 : n / 256 ≠ 0 := by omega
  have e : ∀ m, 2 ≤ m → Nat.log2 m = Nat.log2 (m / 2) + 1 := fun m hm => by rw [Nat.log2_def, if_pos hm]
  have e8 : n / 2 / 2 / 2 / 2 / 2 / 2 / 2 / 2 = n / 256 := by omega
  unfold bitsLen
  rw [if_neg (by omega), if_neg h1, e n (by omega), e (n / 2) (by omega), e (n / 2 / 2) (by omega), e (n / 2 / 2 / 2) (by omega), e (n / 2 / 2 / 2 / 2) (by omega), e (n / 2 / 2 / 2 / 2 / 2) (by omega), e (n / 2 / 2 / 2 / 2 / 2 / 2) (by omega), e (n / 2 / 2 / 2 / 2 / 2 / 2 / 2) (by omega), e8]
  omega
abbrev l8 : List UInt8 := [0, 1, 2, 2, 3, 3, 3, 3, 4, 4, 4, 4, 4, 4, 4, 4, 5, 5, 5, 5, 5, 5, 5, 5, 5, 5, 5, 5, 5, 5, 5, 5, 6, 6, 6, 6, 6, 6, 6, 6, 6, 6, 6, 6, 6, 6, 6, 6, 6, 6, 6, 6, 6, 6, 6, 6, 6, 6, 6, 6, 6, 6, 6, 6, 7, 7, 7, 7, 7, 7, 7, 7, 7, 7, 7, 7, 7, 7, 7, 7, 7, 7, 7, 7, 7, 7, 7, 7, 7, 7, 7, 7, 7, 7, 7, 7, 7, 7, 7, 7, 7, 7, 7, 7, 7, 7, 7, 7, 7, 7, 7, 7, 7, 7, 7, 7, 7, 7, 7, 7, 7, 7, 7, 7, 7, 7, 7, 7, 8, 8, 8, 8, 8, 8, 8, 8, 8, 8, 8, 8, 8, 8, 8, 8, 8, 8, 8, 8, 8, 8, 8, 8, 8, 8, 8, 8, 8, 8, 8, 8, 8, 8, 8, 8, 8, 8, 8, 8, 8, 8, 8, 8, 8, 8, 8, 8, 8, 8, 8, 8, 8, 8, 8, 8, 8, 8, 8, 8, 8, 8, 8, 8, 8, 8, 8, 8, 8, 8, 8, 8, 8, 8, 8, 8, 8, 8, 8, 8, 8, 8, 8, 8, 8, 8, 8, 8, 8, 8, 8, 8, 8, 8, 8, 8, 8, 8, 8, 8, 8, 8, 8, 8, 8, 8, 8, 8, 8, 8, 8, 8, 8, 8, 8, 8, 8, 8, 8, 8, 8, 8, 8, 8, 8, 8, 8, 8]
theorem l8_is : ∀ n : Fin 256, (l8.getD n.val 0).toNat = bitsLen n.val := by decide +kernel
theorem wu8 {n : Nat} (h : n < 256) : IntKind.wrap .u8 (n : Int) = (n : Int) := by simp only [IntKind.wrap, IntKind.signed, IntKind.bits]; simp; omega
theorem wu64 {n : Nat} (h : n < 18446744073709551616) : IntKind.wrap .u64 (n : Int) = (n : Int) := by simp only [IntKind.wrap, IntKind.signed, IntKind.bits]; simp; omega
theorem tab_is {n : Nat} (h : n < 256) : IntKind.wrap .i64 ((((l8.getD ((IntKind.wrap .u8 (n : Int))).toNat 0).toNat : Nat)) : Int) = ((bitsLen n : Nat) : Int) := by
  rw [wu8 h, Int.toNat_natCast]
  have := l8_is ⟨n, h⟩
  simp only at this
  rw [this, wrap_in]
  have : bitsLen n ≤ 8 := by
    unfold bitsLen
    split
    · omega
    · next h0 => have := (Nat.log2_lt (n := n) (k := 8) h0).2 (by omega); omega
  omega
theorem bl_le {n : Nat} (h : n < 1048576) : bitsLen n ≤ 20 := by
  unfold bitsLen
  split
  · omega
  · next h0 => have := (Nat.log2_lt (n := n) (k := 20) h0).2 (by omega); omega
theorem f16 (k : Nat) : Int.fdiv (k : Int) (2 ^ min (16 : Int).toNat (IntKind.bits .u64)) = ((k / 65536 : Nat) : Int) := fdivN k 65536
theorem f8 (k : Nat) : Int.fdiv (k : Int) (2 ^ min (8 : Int).toNat (IntKind.bits .u64)) = ((k / 256 : Nat) : Int) := fdivN k 256
theorem l8_len : (l8.length : Int) = 256 := by decide +kernel
theorem len64_ (k : Nat) (hk : k ≤ 1000000) : Fn Tryz.prog 251 [.int .u64 (k : Int)] [] (Rt (.int .i64 ((Go.Sort.bitsLen k : Nat) : Int)) []) :=
 enterM (n := 25) (by kernel_rfl) Tryz.func251 rfl rfl rfl fun G w a h0 A => N hX 12 A rfl rfl fun A => forkD 4 A rfl
  (fun h1 A => N hX 8 A rfl (ok_d (by omega) <| okE_nil) fun A => N hX 11 A rfl rfl fun A => forkD 8 A rfl
   (fun h2 A => N hX 8 A rfl (ok_d (by omega) <| okE_nil) fun A => N hX 8 A rfl (ok_d (by omega) <| okE_nil) fun A => N hX 5 A rfl rfl fun A => forkD 14 A rfl
    (fun h3 A => N hX 8 A rfl (ok_d (by omega) <| okE_nil) fun A => N hX 7 A rfl (ok_d (by omega) <| okE_nil) fun A => N hX 11 A rfl (ok_d (by omega) <| ok_d (by omega) <| okE_nil) fun A => RETN hX A rfl rfl rfl h0 rfl rfl rfl rfl (absurd h1 (by omega)) rfl)
    (fun h3 A => N hX 15 A rfl (ok_d (by omega) <| ok_d (by omega) <| okE_nil) fun A => RETN hX A rfl rfl rfl h0 rfl rfl rfl rfl (absurd h1 (by omega)) rfl))
   (fun h2 A => N hX 10 A rfl rfl fun A => forkD 14 A rfl
    (fun h4 A => N hX 8 A rfl (ok_d (by omega) <| okE_nil) fun A => N hX 7 A rfl (ok_d (by omega) <| okE_nil) fun A => N hX 11 A rfl (ok_d (by omega) <| ok_d (by omega) <| okE_nil) fun A => RETN hX A rfl rfl rfl h0 rfl rfl rfl rfl (absurd h1 (by omega)) rfl)
    (fun h4 A => N hX 15 A rfl (ok_d (by omega) <| ok_d (by omega) <| okE_nil) fun A => RETN hX A rfl rfl rfl h0 rfl rfl rfl rfl (absurd h1 (by omega)) rfl)))
  (fun h1 A => N hX 10 A rfl rfl fun A => forkD 8 A rfl
   (fun h5 A => N hX 8 A rfl (ok_d (by omega) <| okE_nil) fun A => N hX 8 A rfl (ok_d (by omega) <| okE_nil) fun A => N hX 5 A rfl rfl fun A => forkD 14 A rfl
    (fun h6 A => N hX 8 A rfl (ok_d (by rw [f16] at h6; omega) <| okE_nil) fun A => N hX 7 A rfl (ok_d (by rw [f16] at h6; omega) <| okE_nil) fun A => N hX 11 A rfl (ok_d (by rw [f16] at h6; omega) <| ok_d (by rw [f16] at h6; omega) <| okE_nil) fun A => RETN hX A rfl rfl rfl h0 rfl rfl rfl rfl (absurd h6 (by rw [f16]; omega)) rfl)
    (fun h6 A => N hX 15 A rfl (ok_d (by (try rw [f16]); (try rw [f8]); rw [wu8 (by omega)]; show _ ∧ _ < (l8.length : Int); rw [l8_len]; omega) <| ok_d (by (try rw [f16]); (try rw [f8]); erw [tab_is (by omega)]; have := bl_le (n := k) (by omega); have h8 : ∀ m, m < 256 → bitsLen m ≤ 20 := fun m hm => bl_le (by omega); (try have := h8 (k / 65536) (by omega)); (try have := h8 (k / 256) (by omega)); omega) <| okE_nil) fun A => RETN hX A rfl rfl rfl h0 rfl rfl rfl rfl (by rw [f16]; erw [tab_is (by omega)]; rw [bl_div (n := k) (by omega), bl_div (n := k / 256) (by omega), Nat.div_div_eq_div_mul, show 256 * 256 = 65536 from rfl]; show SV.int _ _ = SV.int _ _; congr 1 <;> omega) rfl))
   (fun h5 A => N hX 10 A rfl rfl fun A => forkD 14 A rfl
    (fun h7 A => N hX 8 A rfl (ok_d (by omega) <| okE_nil) fun A => N hX 7 A rfl (ok_d (by omega) <| okE_nil) fun A => N hX 11 A rfl (ok_d (by (try rw [f16]); (try rw [f8]); rw [wu8 (by omega)]; show _ ∧ _ < (l8.length : Int); rw [l8_len]; omega) <| ok_d (by (try rw [f16]); (try rw [f8]); erw [tab_is (by omega)]; have := bl_le (n := k) (by omega); have h8 : ∀ m, m < 256 → bitsLen m ≤ 20 := fun m hm => bl_le (by omega); (try have := h8 (k / 65536) (by omega)); (try have := h8 (k / 256) (by omega)); omega) <| okE_nil) fun A => RETN hX A rfl rfl rfl h0 rfl rfl rfl rfl (by rw [f8]; erw [tab_is (by omega)]; rw [bl_div (n := k) (by omega)] <;> (show SV.int _ _ = SV.int _ _; congr 1 <;> omega)) rfl)
    (fun h7 A => N hX 15 A rfl (ok_d (by (try rw [f16]); (try rw [f8]); rw [wu8 (by omega)]; show _ ∧ _ < (l8.length : Int); rw [l8_len]; omega) <| ok_d (by (try rw [f16]); (try rw [f8]); erw [tab_is (by omega)]; have := bl_le (n := k) (by omega); have h8 : ∀ m, m < 256 → bitsLen m ≤ 20 := fun m hm => bl_le (by omega); (try have := h8 (k / 65536) (by omega)); (try have := h8 (k / 256) (by omega)); omega) <| okE_nil) fun A => RETN hX A rfl rfl rfl h0 rfl rfl rfl rfl (by erw [tab_is (by omega)] <;> (show SV.int _ _ = SV.int _ _; congr 1 <;> omega)) rfl)))
theorem len_ (k : Nat) (hk : k ≤ 1000000) : Fn Tryz.prog 208 [.int .u64 (k : Int)] [] (Rt (.int .i64 ((Go.Sort.bitsLen k : Nat) : Int)) []) :=
 enterM (n := 8) (by kernel_rfl) Tryz.func208 rfl rfl rfl fun G w a h0 A => N hX 12 A rfl rfl fun A => CALL1 [] (len64_ k (by omega)) A rfl rfl rfl rfl rfl rfl rfl fun A => N hX 4 A rfl rfl fun A => RETN hX A rfl rfl rfl h0 rfl rfl rfl rfl rfl rfl
theorem len_w (k : Nat) (hk : k ≤ 1000000) {x : Int} (hx : x = (k : Int)) : Fn Tryz.prog 208 [.int .u64 x] [] (Rt (.int .i64 ((Go.Sort.bitsLen k : Nat) : Int)) []) := by subst hx; exact len_ k hk
end Go.Proofs.YtedlaclfhgneeabGreatDoor.Cd
namespace Go.Proofs.YtedlaclfhgneeabGreatDoor.Cd
open Go.RowKit
set_option linter.unusedVariables false
set_option linter.unusedSimpArgs false
set_option maxRecDepth 100000
set_option maxHeartbeats 2000000
set_option simprocs false
open Go.Sort
def eqO (p q : O) : Bool := ((p 0 == q 0) && ((p 1 == q 1) && ((p 2 == q 2) && ((p 3 == q 3) && ((p 4 == q 4) && ((p 5 == q 5) && ((p 6 == q 6) && ((p 7 == q 7) && ((p 8 == q 8) && ((p 9 == q 9) && ((p 10 == q 10) && ((p 11 == q 11) && ((p 12 == q 12) && ((p 13 == q 13) && ((p 14 == q 14) && ((p 15 == q 15) && ((p 16 == q 16) && ((p 17 == q 17) && ((p 18 == q 18) && ((p 19 == q 19) && ((p 20 == q 20) && ((p 21 == q 21) && ((p 22 == q 22) && ((p 23 == q 23) && ((p 24 == q 24) && ((p 25 == q 25) && (p 26 == q 26)))))))))))))))))))))))))))
theorem arr_l (os : List O) (k : Nat) : os.toArray[k]! = os.getD k oz := by
  rw [Array.getElem!_eq_getD, Array.getD_eq_getD_getElem?, List.getElem?_toArray]; rfl
def cA (d : Array O) : Nat → List O
  | 0 => []
  | i + 1 => if (decide (0 < i) && eqO (d[i]!) (d[i - 1]!)) = true then cA d i else cA d i ++ [d[i]!]
theorem cA_dup {d : Array O} {i : Nat} (h0 : 0 < i) (h : eqO (d[i]!) (d[i - 1]!) = true) : cA d (i + 1) = cA d i := by
  rw [cA, if_pos (by rw [h, decide_eq_true h0]; rfl)]
theorem cA_new {d : Array O} {i : Nat} (h : eqO (d[i]!) (d[i - 1]!) = false) : cA d (i + 1) = cA d i ++ [d[i]!] := by
  rw [cA, if_neg (by rw [h, Bool.and_false]; simp)]
theorem cA_one (d : Array O) : cA d 1 = [d[0]!] := by rw [cA, if_neg (by simp)]; rfl
structure C1 (d : Array O) (nn k : Nat) : Prop where
  lo : 1 ≤ k
  hi : k ≤ nn
  ln : (cA d k).length = k
  at_ : ∀ p, p < k → (cA d k).getD p oz = d[p]!
structure C2 (d : Array O) (nn k0 : Nat) (e : Array O) (k m : Nat) : Prop where
  sz : e.size = d.size
  lo : k0 ≤ k
  hi : k + 1 ≤ k0 + m
  m1 : 1 ≤ m
  mn : k0 + m ≤ nn
  ln : (cA d (k0 + m)).length = k
  at_ : ∀ p, p < k → e[p]! = (cA d (k0 + m)).getD p oz
  up : ∀ p, k0 + m ≤ p + 1 → e[p]! = d[p]!
section
variable {d e : Array O} {nn k k0 m : Nat}
theorem C1.init (h : ¬ ((nn : Nat) : Int) < 2) : C1 d nn 1 := ⟨Nat.le_refl _, by omega, by rw [cA_one]; rfl, fun p hp => by
  have : p = 0 := by omega
  subst this; rw [cA_one]; rfl⟩
theorem C1.step (h : C1 d nn k) (h1 : (k : Int) < ((nn : Nat) : Int)) (h2 : eqO (d[((k : Int)).toNat]!) (d[((k : Int) - 1).toNat]!) = false) : C1 d nn (k + 1) := by
  have hl := h.lo
  rw [Int.toNat_natCast, show ((k : Int) - 1).toNat = k - 1 by omega] at h2
  refine ⟨by omega, by omega, by rw [cA_new h2, List.length_append, h.ln]; rfl, fun p hp => ?_⟩
  rw [cA_new h2]
  by_cases hpk : p < k
  · rw [getD_app_l (by rw [h.ln]; exact hpk), h.at_ p hpk]
  · have : p = k := by omega
    subst this
    have := getD_app_1 (l := cA d p) (x := d[p]!) (d := oz)
    rw [h.ln] at this; exact this
theorem C1.enter (h : C1 d nn k) (h1 : (k : Int) < ((nn : Nat) : Int)) (h2 : eqO (d[((k : Int)).toNat]!) (d[((k : Int) - 1).toNat]!) = true) : C2 d nn k d k 1 := by
  have hl := h.lo
  rw [Int.toNat_natCast, show ((k : Int) - 1).toNat = k - 1 by omega] at h2
  have e := cA_dup (d := d) (i := k) (by omega) h2
  exact ⟨rfl, Nat.le_refl _, by omega, Nat.le_refl _, by omega, by rw [e, h.ln], fun p hp => by rw [e, h.at_ p hp], fun _ _ => rfl⟩
theorem C1.done (h : C1 d nn k) (h1 : ¬ (k : Int) < ((nn : Nat) : Int)) : (cA d nn).length = nn ∧ ∀ p, p < nn → (cA d nn).getD p oz = d[p]! := by
  have : k = nn := by have := h.hi; omega
  subst this
  exact ⟨h.ln, h.at_⟩
theorem C2.same (h : C2 d nn k0 e k m) (h0 : 1 ≤ k0) (h1 : (m : Int) < ((nn - ((k0 : Int)).toNat : Nat) : Int)) (h2 : (!(eqO (e[(((((k0 : Int)).toNat : Nat) : Int) + (m : Int)).toNat]!) (e[(((((k0 : Int)).toNat : Nat) : Int) + ((m : Int) - 1)).toNat]!))) = false) : C2 d nn k0 e k (m + 1) := by
  have hm := h.m1; have hh := h.hi
  have e1 : (((((k0 : Int)).toNat : Nat) : Int) + (m : Int)).toNat = k0 + m := by omega
  have e2 : (((((k0 : Int)).toNat : Nat) : Int) + ((m : Int) - 1)).toNat = k0 + m - 1 := by omega
  rw [e1, e2, h.up (k0 + m) (by omega), h.up (k0 + m - 1) (by omega)] at h2
  have h3 : eqO (d[k0 + m]!) (d[k0 + m - 1]!) = true := by revert h2; cases eqO (d[k0 + m]!) (d[k0 + m - 1]!) <;> simp
  have ee := cA_dup (d := d) (i := k0 + m) (by omega) h3
  exact ⟨h.sz, h.lo, by omega, by omega, by omega, by rw [← Nat.add_assoc, ee, h.ln], fun p hp => by rw [← Nat.add_assoc, ee, h.at_ p hp], fun p hp => h.up p (by omega)⟩
theorem C2.new (h : C2 d nn k0 e k m) (hn : d.size = nn) (h0 : 1 ≤ k0) (h1 : (m : Int) < ((nn - ((k0 : Int)).toNat : Nat) : Int)) (h2 : (!(eqO (e[(((((k0 : Int)).toNat : Nat) : Int) + (m : Int)).toNat]!) (e[(((((k0 : Int)).toNat : Nat) : Int) + ((m : Int) - 1)).toNat]!))) = true) : C2 d nn k0 (e.setIfInBounds ((k : Int)).toNat (e[(((((k0 : Int)).toNat : Nat) : Int) + (m : Int)).toNat]!)) (k + 1) (m + 1) := by
  have hm := h.m1; have hh := h.hi; have hl := h.lo
  have e1 : (((((k0 : Int)).toNat : Nat) : Int) + (m : Int)).toNat = k0 + m := by omega
  have e2 : (((((k0 : Int)).toNat : Nat) : Int) + ((m : Int) - 1)).toNat = k0 + m - 1 := by omega
  rw [e1, e2, h.up (k0 + m - 1) (by omega), h.up (k0 + m) (by omega)] at h2
  rw [e1, Int.toNat_natCast, h.up (k0 + m) (by omega)]
  have h3 : eqO (d[k0 + m]!) (d[k0 + m - 1]!) = false := by revert h2; cases eqO (d[k0 + m]!) (d[k0 + m - 1]!) <;> simp
  have ee := cA_new (d := d) (i := k0 + m) h3
  have hk : k < e.size := by rw [h.sz, hn]; omega
  refine ⟨by rw [asz, h.sz], by omega, by omega, by omega, by omega, by rw [← Nat.add_assoc, ee, List.length_append, h.ln]; rfl, fun p hp => ?_, fun p hp => ?_⟩
  · rw [← Nat.add_assoc, ee]
    by_cases hpk : p = k
    · subst hpk
      rw [aset_at hk]
      have := getD_app_1 (l := cA d (k0 + m)) (x := d[k0 + m]!) (d := oz)
      rw [h.ln] at this; exact this.symm
    · rw [aset_ne hpk, h.at_ p (by omega), getD_app_l (by rw [h.ln]; omega)]
  · rw [aset_ne (by omega), h.up p (by omega)]
theorem C2.done (h : C2 d nn k0 e k m) (h1 : ¬ (m : Int) < ((nn - ((k0 : Int)).toNat : Nat) : Int)) : (cA d nn).length = k ∧ ∀ p, p < k → (cA d nn).getD p oz = e[p]! := by
  have hmn := h.mn
  have : k0 + m = nn := by omega
  subst this
  exact ⟨h.ln, fun p hp => (h.at_ p hp).symm⟩
theorem cA_small (h : ((nn : Nat) : Int) < 2) : (cA d nn).length = nn ∧ ∀ p, p < nn → (cA d nn).getD p oz = d[p]! := by
  have : nn = 0 ∨ nn = 1 := by omega
  rcases this with rfl | rfl
  · exact ⟨rfl, fun p hp => by omega⟩
  · rw [cA_one]; exact ⟨rfl, fun p hp => by have : p = 0 := by omega
                                            subst this; rfl⟩
end
theorem pdq2_ (d : Array O) (lim : Int) (hn : d.size = 2) : Fn Tryz.prog 207 [.sl 0 2 0, .int .i64 0, .int .i64 2, .int .i64 lim, .fn 163 []] [some (.row 93 27 2 0 (fun zz => oc (d[zz]!)))] (Rt (.tup []) [some (.row 93 27 2 0 (fun zz => oc ((Go.Sort.insertionSort lessO d 0 2)[zz]!)))]) :=
 enterM (n := 148) (by kernel_rfl) Tryz.func207 rfl rfl rfl fun G w a h0 A => N hX 11 A rfl rfl fun A => LOOP1 (fun (u : Nat) => [(0, .sl 0 2 0), (1, .int .i64 0), (2, .int .i64 2), (3, .int .i64 lim), (4, .fn 163 []), (10, .tt), (11, .tt)]) (fun (u : Nat) => [some (.row 93 27 2 0 (fun zz => oc (d[zz]!)))]) (fun (u : Nat) => u = 0) (fun (u : Nat) => 0) 0 rfl ((A.cut [0, 1, 2, 3, 4, 10, 11] rfl).trunc 1 rfl rfl rfl (by simp only [List.length_cons, List.length_nil] at h0; omega)) fun u hI {G a w} A => N hX 11 A rfl (ok_d (by omega) <| okE_nil) fun A => N hX 5 A rfl rfl fun A => forkD 25 A rfl
   (fun h1 A => N hX 7 A rfl rfl fun A => CALL1 [0] (isort_i d 2 0 2 (by omega) (by omega) hn (by omega) (by omega) (by omega)) A rfl rfl rfl rfl rfl rfl rfl fun A => N hX 3 A rfl rfl fun A => RETN hX A rfl rfl rfl h0 rfl rfl rfl rfl rfl rfl)
   (fun h1 A => absurd (by decide) h1)
theorem sortf2_ (d : Array O) (hn : d.size = 2) : Fn Tryz.prog 162 [.sl 0 2 0, .fn 163 []] [some (.row 93 27 2 0 (fun zz => oc (d[zz]!)))] (Rt (.tup []) [some (.row 93 27 2 0 (fun zz => oc ((Go.Sort.insertionSort lessO d 0 2)[zz]!)))]) :=
 enterM (n := 14) (by kernel_rfl) Tryz.func162 rfl rfl rfl fun G w a h0 A => N hX 12 A rfl rfl fun A => CALL1 [] (len_w 2 (by decide) (wu64 (by decide))) A rfl rfl rfl rfl rfl rfl rfl fun A => N hX 1 A rfl rfl fun A => CALL1 [0] (pdq2_ d ((Go.Sort.bitsLen 2 : Nat) : Int) hn) A rfl rfl rfl rfl rfl rfl rfl fun A => N hX 1 A rfl rfl fun A => ENDN (RETN hX A rfl rfl rfl h0 rfl rfl rfl rfl rfl rfl)
theorem clone_ (os : List O) (c : Nat) (hs : os.length ≤ 1000000) : Fn Tryz.prog 161 [.sl 0 os.length c] [some (.lst 27 os.length (fun zz => oc (os.getD zz oz)))] (Rt (.sl 1 os.length 0) [some (.lst 27 os.length (fun zz => oc (os.getD zz oz))), some (.row 93 27 os.length 0 (fun zz => oc (os.toArray[zz]!)))]) :=
 enterM (n := 8) (by kernel_rfl) Tryz.func161 rfl rfl rfl fun G w a h0 A => N hX 9 A rfl rfl fun A => NILL hX A rfl rfl (fun h1 {G a w} A => N hX 9 A rfl rfl fun A => have A := A.nilRow 2 93 27 (fun zz => oc (os.toArray[zz]!)) rfl (fun z => ⟨_, rfl, rfl⟩); have A := A.rowAs 1 os.length (fun zz => oc (os.toArray[zz]!)) rfl h1 (fun _ _ => rfl) (fun z => ⟨_, rfl, rfl⟩); have A := A.say 2 (.sl 1 os.length 0) rfl (by rw [h1]; rfl); RET hX [1] A ⟨rfl, rfl⟩ rfl rfl rfl rfl rfl rfl rfl rfl h0) (fun {G a w} A => N hX 9 A rfl rfl fun A => APPL hX os.length (fun zz => oc (os.toArray[zz]!)) A rfl rfl rfl rfl (Nat.le_refl _) (by omega) hs (by omega) (fun k hk => by omega) (fun k hk => by show oc _ = oc _; rw [Nat.zero_add, arr_l]) (fun z => ⟨_, rfl, rfl⟩) (fun k hk => ⟨_, rfl, okE_nil⟩) fun A => N hX 4 A rfl rfl fun A => RET hX [2] A ⟨rfl, rfl⟩ rfl rfl rfl rfl rfl rfl rfl rfl h0)
theorem compact_ (d : Array O) (nn : Nat) (hn : d.size = nn) (hs : nn ≤ 1000000) : Fn Tryz.prog 164 [.sl 0 nn 0] [some (.row 93 27 nn 0 (fun zz => oc (d[zz]!)))] (Rt (.sl 0 ((cA d nn).length) 0) [some (.row 93 27 ((cA d nn).length) 0 (fun zz => oc ((cA d nn).getD zz oz)))]) :=
 enterM (n := 61) (by kernel_rfl) Tryz.func164 rfl rfl rfl fun G w a h0 A => N hX 13 A rfl rfl fun A => forkD 8 A rfl
  (fun h1 A => N hX 8 A rfl rfl fun A => have hf := cA_small (d := d) h1; have A := A.rowAs 0 (cA d nn).length (fun zz => oc ((cA d nn).getD zz oz)) rfl (by rw [hf.1]; (try rfl); (try simp)) (fun q hq => by show oc _ = oc _; rw [hf.2 q (by simpa using hq)]) (fun z => ⟨_, rfl, rfl⟩); have A := A.say 2 (.sl 0 (cA d nn).length 0) rfl (by rw [hf.1]; (try rfl); (try simp)); RETN hX A rfl rfl rfl h0 rfl rfl rfl rfl rfl rfl)
  (fun h1 A => N hX 10 A rfl rfl fun A => LOOP1 (fun (k : Nat) => [(0, .sl 0 nn 0), (2, .sla none 0 0), (3, .int .i64 (k : Int))]) (fun (k : Nat) => [some (.row 93 27 nn 0 (fun zz => oc (d[zz]!)))]) (fun (k : Nat) => C1 d nn k) (fun (k : Nat) => nn - k) 1 (C1.init h1) ((A.cut [0, 2, 3] rfl).trunc 1 rfl rfl rfl (by simp only [List.length_cons, List.length_nil] at h0; omega)) fun k hI {G a w} A => N hX 9 A rfl rfl fun A => forkD 13 A rfl
    (fun h2 A => N hX 6 A rfl rfl fun A => DRAWN hX hmo [] [] A rfl (ok_d (by have := hI.lo; have := hI.hi; omega) <| ok_d (by have := hI.lo; have := hI.hi; omega) <| ok_d (by have := hI.lo; have := hI.hi; omega) <| ok_d (by have := hI.lo; have := hI.hi; omega) <| ok_d (by have := hI.lo; have := hI.hi; omega) <| okE_nil) rfl rfl (by kernel_rfl) (effAll_nil _ _) trivial fun A => N hX 1 A rfl rfl fun A => fork 25 A rfl
     (fun h3 A => N hX 11 A rfl (ok_d (by have := hI.lo; have := hI.hi; omega) <| okE_nil) fun A => N hX 5 A rfl rfl fun A => LOOP3 (fun (q : Nat) (m : Nat) (e : Array O) => [(0, .sl 0 nn 0), (2, .sla none 0 0), (3, .int .i64 (q : Int)), (4, .st 0 27 (((k : Int)).toNat) (nn - ((k : Int)).toNat) 0), (5, .int .i64 (m : Int))]) (fun (q : Nat) (m : Nat) (e : Array O) => [some (.row 93 27 nn 0 (fun zz => oc (e[zz]!)))]) (fun (q : Nat) (m : Nat) (e : Array O) => C2 d nn k e q m) (fun (q : Nat) (m : Nat) (e : Array O) => nn - m) k 1 d (hI.enter h2 h3) ((A.cut [0, 2, 3, 4, 5] rfl).trunc 1 rfl rfl rfl (by simp only [List.length_cons, List.length_nil] at h0; omega)) fun q m e hJ {G a w} A => N hX 9 A rfl rfl fun A => forkD 32 A rfl
       (fun h4 A => N hX 6 A rfl rfl fun A => DRAWN hX hmo [] [] A rfl (ok_d (by have := hI.lo; have := hI.hi; have := hJ.lo; have := hJ.hi; have := hJ.m1; have := hJ.mn; omega) <| ok_d (by have := hI.lo; have := hI.hi; have := hJ.lo; have := hJ.hi; have := hJ.m1; have := hJ.mn; omega) <| ok_d (by have := hI.lo; have := hI.hi; have := hJ.lo; have := hJ.hi; have := hJ.m1; have := hJ.mn; omega) <| ok_d (by have := hI.lo; have := hI.hi; have := hJ.lo; have := hJ.hi; have := hJ.m1; have := hJ.mn; omega) <| ok_d (by have := hI.lo; have := hI.hi; have := hJ.lo; have := hJ.hi; have := hJ.m1; have := hJ.mn; omega) <| okE_nil) rfl rfl (by kernel_rfl) (effAll_nil _ _) trivial fun A => N hX 1 A rfl rfl fun A => fork 44 A rfl
        (fun h5 A => N hX 10 A rfl (ok_d (by have := hI.lo; have := hI.hi; have := hJ.lo; have := hJ.hi; have := hJ.m1; have := hJ.mn; omega) <| ok_d (by have := hI.lo; have := hI.hi; have := hJ.lo; have := hJ.hi; have := hJ.m1; have := hJ.mn; omega) <| ok_d (by have := hI.lo; have := hI.hi; have := hJ.lo; have := hJ.hi; have := hJ.m1; have := hJ.mn; omega) <| okE_nil) fun A => STR (i := 0) (e := 93) (s := 27) (m := nn) (c := 0) hX (((q : Int)).toNat) (fun zz => oc ((e.setIfInBounds ((q : Int)).toNat (e[(((((k : Int)).toNat : Nat) : Int) + (m : Int)).toNat]!))[zz]!)) A rfl rfl rfl (by have := hI.lo; have := hI.hi; have := hJ.lo; have := hJ.hi; have := hJ.m1; have := hJ.mn; omega) (fun z hz => by show oc _ = oc _; rw [aset_ne hz]) (by show _ = some (oc _); rw [aset_at (by (try simp only [asz]); rw [hJ.sz, hn]; have := hI.lo; have := hI.hi; have := hJ.lo; have := hJ.hi; have := hJ.m1; have := hJ.mn; omega)]; rfl) fun A => N hX 9 A rfl (ok_d (by have := hI.lo; have := hI.hi; have := hJ.lo; have := hJ.hi; have := hJ.m1; have := hJ.mn; omega) <| okE_nil) fun A => N hX 5 A rfl (ok_d (by have := hI.lo; have := hI.hi; have := hJ.lo; have := hJ.hi; have := hJ.m1; have := hJ.mn; omega) <| okE_nil) fun A => ⟨q + 1, m + 1, e.setIfInBounds ((q : Int)).toNat (e[(((((k : Int)).toNat : Nat) : Int) + (m : Int)).toNat]!), _, (by omega), (hJ.new hn hI.lo h4 h5), ((A.cut [0, 2, 3, 4, 5] rfl).trunc 1 rfl rfl rfl (by simp only [List.length_cons, List.length_nil] at h0; omega))⟩)
        (fun h5 A => N hX 9 A rfl (ok_d (by have := hI.lo; have := hI.hi; have := hJ.lo; have := hJ.hi; have := hJ.m1; have := hJ.mn; omega) <| okE_nil) fun A => ⟨q, m + 1, e, _, (by omega), (hJ.same hI.lo h4 h5), ((A.cut [0, 2, 3, 4, 5] rfl).trunc 1 rfl rfl rfl (by simp only [List.length_cons, List.length_nil] at h0; omega))⟩))
       (fun h4 A => N hX 8 A rfl (ok_d (by have := hI.lo; have := hI.hi; have := hJ.lo; have := hJ.hi; have := hJ.m1; have := hJ.mn; omega) <| okE_nil) fun A => CLR hX A rfl (by have := hI.lo; have := hI.hi; have := hJ.lo; have := hJ.hi; have := hJ.m1; have := hJ.mn; omega) fun A => N hX 11 A rfl (ok_d (by show 0 ≤ (q : Int) ∧ (q : Int) ≤ ((((q : Int)).toNat : Nat) : Int); exact (by have := hI.lo; have := hI.hi; have := hJ.lo; have := hJ.hi; have := hJ.m1; have := hJ.mn; omega)) <| okE_nil) fun A => have hf := hJ.done h4; have A := A.rowAs 0 (cA d nn).length (fun zz => oc ((cA d nn).getD zz oz)) rfl (by rw [hf.1]; (try rfl); (try simp)) (fun q hq => by show oc _ = oc _; rw [hf.2 q (by simpa using hq)]) (fun z => ⟨_, rfl, rfl⟩); have A := A.say 2 (.sl 0 (cA d nn).length 0) rfl (by rw [hf.1]; (try rfl); (try simp)); RETN hX A rfl rfl rfl h0 rfl rfl rfl rfl rfl rfl))
     (fun h3 A => N hX 9 A rfl (ok_d (by have := hI.lo; have := hI.hi; omega) <| okE_nil) fun A => ⟨k + 1, _, (by omega), (hI.step h2 h3), ((A.cut [0, 2, 3] rfl).trunc 1 rfl rfl rfl (by simp only [List.length_cons, List.length_nil] at h0; omega))⟩))
    (fun h2 A => N hX 10 A rfl rfl fun A => have hf := hI.done h2; have A := A.rowAs 0 (cA d nn).length (fun zz => oc ((cA d nn).getD zz oz)) rfl (by rw [hf.1]; (try rfl); (try simp)) (fun q hq => by show oc _ = oc _; rw [hf.2 q (by simpa using hq)]) (fun z => ⟨_, rfl, rfl⟩); have A := A.say 2 (.sl 0 (cA d nn).length 0) rfl (by rw [hf.1]; (try rfl); (try simp)); RETN hX A rfl rfl rfl h0 rfl rfl rfl rfl rfl rfl))
def oA : O := fun k => if k = 24 then 1 else 0
abbrev o2 : List O := [oz, oA]
theorem ins2 : Go.Sort.insertionSort lessO o2.toArray 0 2 = o2.toArray := by
  have h : insInner lessO 0 1 o2.toArray = o2.toArray := by
    have e : lessO (o2.toArray[0 + 1]!) (o2.toArray[0]!) = false := by decide
    rw [insInner, e]; rfl
  unfold Go.Sort.insertionSort
  rw [insOuter, if_pos (by decide), h, insOuter, if_neg (by decide)]
theorem cA2 : cA o2.toArray 2 = o2 := by
  have e : eqO (o2.toArray[1]!) (o2.toArray[1 - 1]!) = false := by decide
  rw [cA_new e, cA_one]; rfl
theorem fn_asH {P : Program} {f : Nat} {az : List SV} {H H2 H3 : Hp} {x : SV} (h : Fn P f az H (Rt x H2)) (e : H2 = H3) : Fn P f az H (Rt x H3) := e ▸ h
theorem fn_as {P : Program} {f : Nat} {az : List SV} {H H2 H3 : Hp} {x y : SV} (h : Fn P f az H (Rt x H2)) (d : x = y) (e : H2 = H3) : Fn P f az H (Rt y H3) := d ▸ e ▸ h
theorem clone2_ (c : Nat) : Fn Tryz.prog 161 [.sl 0 2 c] [some (.lst 27 2 (fun zz => oc (o2.getD zz oz)))] (Rt (.sl 1 2 0) [some (.lst 27 2 (fun zz => oc (o2.getD zz oz))), some (.row 93 27 2 0 (fun zz => oc (o2.toArray[zz]!)))]) := clone_ o2 c (by decide)
theorem sortf2A_  : Fn Tryz.prog 162 [.sl 0 2 0, .fn 163 []] [some (.row 93 27 2 0 (fun zz => oc (o2.toArray[zz]!)))] (Rt (.tup []) [some (.row 93 27 2 0 (fun zz => oc (o2.toArray[zz]!)))]) := fn_asH (sortf2_ o2.toArray rfl) (by rw [ins2])
theorem compact2_  : Fn Tryz.prog 164 [.sl 0 2 0] [some (.row 93 27 2 0 (fun zz => oc (o2.toArray[zz]!)))] (Rt (.sl 0 2 0) [some (.row 93 27 2 0 (fun zz => oc (o2.getD zz oz)))]) := fn_as (compact_ o2.toArray 2 rfl (by decide)) (by rw [cA2]; rfl) (by rw [cA2]; rfl)
theorem sort2_ (c : Nat)  : Fn Tryz.prog 104 [.sl 0 2 c] [some (.lst 27 2 (fun zz => oc (o2.getD zz oz)))] (Rt (.sl 1 2 0) [some (.lst 27 2 (fun zz => oc (o2.getD zz oz))), some (.row 93 27 2 0 (fun zz => oc (o2.getD zz oz)))]) :=
 enterM (n := 10) (by kernel_rfl) Tryz.func104 rfl rfl rfl fun G w a h0 A => N hX 8 A rfl rfl fun A => CALL1 [0] (clone2_ c) A rfl rfl rfl rfl rfl rfl rfl fun A => N hX 6 A rfl rfl fun A => CALL1 [1] sortf2A_ A rfl rfl rfl rfl rfl rfl rfl fun A => N hX 5 A rfl rfl fun A => CALL1 [1] compact2_ A rfl rfl rfl rfl rfl rfl rfl fun A => N hX 4 A rfl rfl fun A => RET hX [1] A ⟨rfl, rfl⟩ rfl rfl rfl rfl rfl rfl rfl rfl h0
end Go.Proofs.YtedlaclfhgneeabGreatDoor.Cd
namespace Go.Proofs.YtedlaclfhgneeabGreatDoor.Cd
open Go.RowKit
set_option linter.unusedVariables false
set_option linter.unusedSimpArgs false
set_option maxRecDepth 100000
set_option maxHeartbeats 2000000
set_option simprocs false
def _root_.Go.Proofs.YtedlaclfhgneeabGreatDoor.Cn.n (c : Cn) : Int := one0 c.k c.t c.r c.l c.v
def rightGo : List Cn → Int → Bool
 | [], h => h == 1
 | c :: r, h => if c.n < 0 ∨ c.n > h then false else rightGo r (h - c.n + 1)
def right (cs : List Cn) : Bool := if cs.length < 1 ∨ cs.length > 32 then false else rightGo cs 0
def RI (cs : List Cn) (i : Nat) (hv : Int) : Prop := i ≤ cs.length ∧ cs.length ≤ 32 ∧ 0 ≤ hv ∧ hv ≤ i ∧ right cs = rightGo (cs.drop i) hv
theorem RI.at {cs : List Cn} {i : Nat} {hv : Int} (h : RI cs i hv) (h2 : (i : Int) < (cs.length : Int)) : right cs = if (cs.getD ((i : Int)).toNat Cn.z).n < 0 ∨ (cs.getD ((i : Int)).toNat Cn.z).n > hv then false else rightGo (cs.drop (i + 1)) (hv - (cs.getD ((i : Int)).toNat Cn.z).n + 1) := by
  have hi : i < cs.length := by omega
  have e : cs.drop i = cs[i] :: cs.drop (i + 1) := List.drop_eq_getElem_cons hi
  have hg : cs.getD ((i : Int)).toNat Cn.z = cs[i] := by simp [List.getD, hi]
  rw [h.2.2.2.2, e, hg, rightGo]
theorem RI.done {cs : List Cn} {i : Nat} {hv : Int} (h : RI cs i hv) (h2 : ¬ (i : Int) < (cs.length : Int)) : right cs = (hv == 1) := by
  have : cs.drop i = [] := List.drop_eq_nil_of_le (by have := h.1; omega)
  rw [h.2.2.2.2, this, rightGo]
end Go.Proofs.YtedlaclfhgneeabGreatDoor.Cd
namespace Go.Proofs.YtedlaclfhgneeabGreatDoor.Cd
open Go.RowKit
set_option linter.unusedVariables false
set_option linter.unusedSimpArgs false
set_option maxRecDepth 100000
set_option maxHeartbeats 2000000
set_option simprocs false
end Go.Proofs.YtedlaclfhgneeabGreatDoor.Cd
namespace Go.Proofs.YtedlaclfhgneeabGreatDoor.Cd
open Go.RowKit
set_option linter.unusedVariables false
set_option linter.unusedSimpArgs false
set_option maxRecDepth 100000
set_option maxHeartbeats 2000000
set_option simprocs false
end Go.Proofs.YtedlaclfhgneeabGreatDoor.Cd
namespace Go.Proofs.YtedlaclfhgneeabGreatDoor.Cd
open Go.RowKit
set_option linter.unusedVariables false
set_option linter.unusedSimpArgs false
set_option maxRecDepth 100000
set_option maxHeartbeats 2000000
set_option simprocs false
end Go.Proofs.YtedlaclfhgneeabGreatDoor.Cd
namespace Go.Proofs.YtedlaclfhgneeabGreatDoor.Cd
open Go.RowKit
set_option linter.unusedVariables false
set_option linter.unusedSimpArgs false
set_option maxRecDepth 100000
set_option maxHeartbeats 2000000
set_option simprocs false
def stepL (p : O) (c : Cn) (l : List Bool) : List Bool := if c.k = 1 then l ++ [([[(p 0), (p 1), (p 2), (p 3), (p 4), (p 5), (p 6), (p 7)].getD (c.r).toNat 0, [(p 8), (p 9), (p 10), (p 11), (p 12), (p 13), (p 14), (p 15)].getD (c.r).toNat 0, [(p 16), (p 17), (p 18), (p 19), (p 20), (p 21), (p 22), (p 23)].getD (c.r).toNat 0].getD (c.t).toNat 0) == (c.v)] else if c.k = 2 then l ++ [([(p 24), (p 25), (p 26)].getD (c.l).toNat 0) == (c.v)] else if c.k = 3 then l.set (l.length - 1) (!((l).getD ((((l.length : Nat) : Int) - 1).toNat) false)) else if c.k = 4 then (l.set (l.length - 2) (((l).getD ((((l.length : Nat) : Int) - 2).toNat) false) && ((l).getD ((((l.length : Nat) : Int) - 1).toNat) false))).take (l.length - 1) else if c.k = 5 then (l.set (l.length - 2) (((l).getD ((((l.length : Nat) : Int) - 2).toNat) false) || ((l).getD ((((l.length : Nat) : Int) - 1).toNat) false))).take (l.length - 1) else l
theorem st1 {p : O} {c : Cn} {l : List Bool} (h : c.k = 1) : stepL p c l = l ++ [([[(p 0), (p 1), (p 2), (p 3), (p 4), (p 5), (p 6), (p 7)].getD (c.r).toNat 0, [(p 8), (p 9), (p 10), (p 11), (p 12), (p 13), (p 14), (p 15)].getD (c.r).toNat 0, [(p 16), (p 17), (p 18), (p 19), (p 20), (p 21), (p 22), (p 23)].getD (c.r).toNat 0].getD (c.t).toNat 0) == (c.v)] := by unfold stepL; rw [if_pos h]
theorem st2 {p : O} {c : Cn} {l : List Bool} (h : c.k = 2) : stepL p c l = l ++ [([(p 24), (p 25), (p 26)].getD (c.l).toNat 0) == (c.v)] := by unfold stepL; rw [if_neg (by omega), if_pos h]
theorem st3 {p : O} {c : Cn} {l : List Bool} (h : c.k = 3) : stepL p c l = l.set (l.length - 1) (!((l).getD ((((l.length : Nat) : Int) - 1).toNat) false)) := by unfold stepL; rw [if_neg (by omega), if_neg (by omega), if_pos h]
theorem st4 {p : O} {c : Cn} {l : List Bool} (h : c.k = 4) : stepL p c l = (l.set (l.length - 2) (((l).getD ((((l.length : Nat) : Int) - 2).toNat) false) && ((l).getD ((((l.length : Nat) : Int) - 1).toNat) false))).take (l.length - 1) := by unfold stepL; rw [if_neg (by omega), if_neg (by omega), if_neg (by omega), if_pos h]
theorem st5 {p : O} {c : Cn} {l : List Bool} (h : c.k = 5) : stepL p c l = (l.set (l.length - 2) (((l).getD ((((l.length : Nat) : Int) - 2).toNat) false) || ((l).getD ((((l.length : Nat) : Int) - 1).toNat) false))).take (l.length - 1) := by unfold stepL; rw [if_neg (by omega), if_neg (by omega), if_neg (by omega), if_neg (by omega), if_pos h]
def evalB (p : O) (cs : List Cn) : Bool := if right cs = true then (cs.foldl (fun l c => stepL p c l) []).getD 0 false else false
theorem cn_kind {c : Cn} (h : ¬ c.n < 0) : (c.k = 1 ∧ c.n = 0 ∧ 0 ≤ c.t ∧ c.t < 3 ∧ 0 ≤ c.r ∧ c.r < 8) ∨ (c.k = 2 ∧ c.n = 0 ∧ 0 ≤ c.l ∧ c.l < 3) ∨ (c.k = 3 ∧ c.n = 1) ∨ (c.k = 4 ∧ c.n = 2) ∨ (c.k = 5 ∧ c.n = 2) := by
  unfold Go.Proofs.YtedlaclfhgneeabGreatDoor.Cn.n at *
  unfold one0 at *
  by_cases h1 : c.k = 1
  · rw [if_pos h1] at h ⊢
    left
    split at h
    · next hh =>
      simp only [Bool.and_eq_true, decide_eq_true_eq, ge_iff_le] at hh
      rw [if_pos (by simp only [Bool.and_eq_true, decide_eq_true_eq, ge_iff_le]; exact hh)]
      split at h
      · omega
      · next hz => rw [if_neg hz]; omega
    · omega
  rw [if_neg h1] at h ⊢
  by_cases h2 : c.k = 2
  · rw [if_pos h2] at h ⊢
    right; left
    split at h
    · next hh =>
      rw [if_pos hh]
      simp only [Bool.and_eq_true, decide_eq_true_eq, ge_iff_le] at hh
      split at h
      · omega
      · next hz => rw [if_neg hz]; omega
    · omega
  rw [if_neg h2] at h ⊢
  by_cases h3 : c.k = 3
  · rw [if_pos h3] at h ⊢
    split at h
    · omega
    · next hz => rw [if_neg hz]; omega
  rw [if_neg h3] at h ⊢
  by_cases h4 : c.k = 4
  · rw [if_pos h4] at h ⊢
    split at h
    · omega
    · next hz => rw [if_neg hz]; omega
  rw [if_neg h4] at h ⊢
  by_cases h5 : c.k = 5
  · rw [if_pos h5] at h ⊢
    split at h
    · omega
    · next hz => rw [if_neg hz]; omega
  rw [if_neg h5] at h
  omega
structure EI (p : O) (cs : List Cn) (l : List Bool) (i : Nat) : Prop where
  le : i ≤ cs.length
  ll : l.length ≤ i
  rt : rightGo (cs.drop i) (l.length : Int) = true
  eq : l = (cs.take i).foldl (fun l c => stepL p c l) []
section
variable {p : O} {cs : List Cn} {l : List Bool} {i : Nat}
theorem right_of (h1 : (!(right cs)) = false) : right cs = true := by cases h : right cs <;> simp [h] at h1 ⊢
theorem EI.init (h1 : (!(right cs)) = false) : EI p cs [] 0 := by
  have h := right_of h1
  unfold right at h
  split at h
  · cases h
  · exact ⟨by omega, by simp, by simpa using h, rfl⟩
theorem EI.at (hI : EI p cs l i) (h2 : (i : Int) < ((cs.length : Nat) : Int)) : ¬ ((cs.getD ((i : Int)).toNat Cn.z).n < 0 ∨ (cs.getD ((i : Int)).toNat Cn.z).n > (l.length : Int)) ∧ rightGo (cs.drop (i + 1)) ((l.length : Int) - (cs.getD ((i : Int)).toNat Cn.z).n + 1) = true := by
  have hi : i < cs.length := by omega
  have e : cs.drop i = cs[i] :: cs.drop (i + 1) := List.drop_eq_getElem_cons hi
  have hg : (cs.getD ((i : Int)).toNat Cn.z) = cs[i] := by simp [List.getD, hi]
  have h := hI.rt
  rw [e, rightGo] at h
  rw [hg]
  split at h
  · cases h
  · next hh => exact ⟨hh, h⟩
theorem EI.n4 (hI : EI p cs l i) (h1 : (!(right cs)) = false) (h2 : (i : Int) < ((cs.length : Nat) : Int)) (h : (cs.getD ((i : Int)).toNat Cn.z).k = 4) : 2 ≤ l.length ∧ (cs.getD ((i : Int)).toNat Cn.z).n = 2 := by have h3 := (hI.at h2).1; have := cn_kind (fun h => (hI.at h2).1 (.inl h)); omega
theorem EI.n5 (hI : EI p cs l i) (h1 : (!(right cs)) = false) (h2 : (i : Int) < ((cs.length : Nat) : Int)) (h : (cs.getD ((i : Int)).toNat Cn.z).k = 5) : 2 ≤ l.length ∧ (cs.getD ((i : Int)).toNat Cn.z).n = 2 := by have h3 := (hI.at h2).1; have := cn_kind (fun h => (hI.at h2).1 (.inl h)); omega
theorem EI.len1 (hI : EI p cs l i) (h1 : (!(right cs)) = false) (h2 : (i : Int) < ((cs.length : Nat) : Int)) (h : (cs.getD ((i : Int)).toNat Cn.z).k = 1) : (stepL p (cs.getD ((i : Int)).toNat Cn.z) l).length = l.length + 1 := by rw [st1 h, List.length_append]; rfl
theorem EI.len2 (hI : EI p cs l i) (h1 : (!(right cs)) = false) (h2 : (i : Int) < ((cs.length : Nat) : Int)) (h : (cs.getD ((i : Int)).toNat Cn.z).k = 2) : (stepL p (cs.getD ((i : Int)).toNat Cn.z) l).length = l.length + 1 := by rw [st2 h, List.length_append]; rfl
theorem EI.len3 (hI : EI p cs l i) (h1 : (!(right cs)) = false) (h2 : (i : Int) < ((cs.length : Nat) : Int)) (h : (cs.getD ((i : Int)).toNat Cn.z).k = 3) : (stepL p (cs.getD ((i : Int)).toNat Cn.z) l).length = l.length := by rw [st3 h, List.length_set]
theorem EI.len4 (hI : EI p cs l i) (h1 : (!(right cs)) = false) (h2 : (i : Int) < ((cs.length : Nat) : Int)) (h : (cs.getD ((i : Int)).toNat Cn.z).k = 4) : (stepL p (cs.getD ((i : Int)).toNat Cn.z) l).length = l.length - 1 := by rw [st4 h, List.length_take, List.length_set]; omega
theorem EI.len5 (hI : EI p cs l i) (h1 : (!(right cs)) = false) (h2 : (i : Int) < ((cs.length : Nat) : Int)) (h : (cs.getD ((i : Int)).toNat Cn.z).k = 5) : (stepL p (cs.getD ((i : Int)).toNat Cn.z) l).length = l.length - 1 := by rw [st5 h, List.length_take, List.length_set]; omega
theorem EI.next (hI : EI p cs l i) (h1 : (!(right cs)) = false) (h2 : (i : Int) < ((cs.length : Nat) : Int)) : EI p cs (stepL p (cs.getD ((i : Int)).toNat Cn.z) l) (i + 1) := by
  have hi : i < cs.length := by omega
  have hg : (cs.getD ((i : Int)).toNat Cn.z) = cs[i] := by simp [List.getD, hi]
  have ⟨k1, k2⟩ := hI.at h2
  have hl : ((stepL p (cs.getD ((i : Int)).toNat Cn.z) l).length : Int) = (l.length : Int) - (cs.getD ((i : Int)).toNat Cn.z).n + 1 := by
    rcases cn_kind (fun h => k1 (.inl h)) with h | h | h | h | h
    · rw [hI.len1 h1 h2 h.1]; omega
    · rw [hI.len2 h1 h2 h.1]; omega
    · rw [hI.len3 h1 h2 h.1]; omega
    · rw [hI.len4 h1 h2 h.1]; have := hI.n4 h1 h2 h.1; omega
    · rw [hI.len5 h1 h2 h.1]; have := hI.n5 h1 h2 h.1; omega
  refine ⟨hi, by have := hI.ll; omega, by rw [hl]; exact k2, ?_⟩
  rw [List.take_succ_eq_append_getElem hi, List.foldl_append, ← hI.eq, hg]; rfl
theorem EI.fin (hI : EI p cs l i) (h2 : ¬ (i : Int) < ((cs.length : Nat) : Int)) : l.length = 1 := by
  have h := hI.rt
  rw [List.drop_eq_nil_of_le (by omega), rightGo, beq_iff_eq] at h
  omega
theorem EI.done (hI : EI p cs l i) (h1 : (!(right cs)) = false) (h2 : ¬ (i : Int) < ((cs.length : Nat) : Int)) : evalB p cs = l.getD 0 false := by
  unfold evalB
  rw [if_pos (right_of h1)]
  have h := hI.eq
  rw [List.take_of_length_le (by omega)] at h
  rw [← h]
end
end Go.Proofs.YtedlaclfhgneeabGreatDoor.Cd
namespace Go.Proofs.YtedlaclfhgneeabGreatDoor.Cd
open Go.RowKit
set_option linter.unusedVariables false
set_option linter.unusedSimpArgs false
set_option maxRecDepth 100000
set_option maxHeartbeats 2000000
set_option simprocs false
abbrev cc (c : Cn) : List SV := [.int .i64 c.k, .int .i64 c.t, .int .i64 c.r, .int .i64 c.l, .int .i64 c.v]
set_option simprocs true in
theorem nd_any (c : Cn) : (node0 c.k c.t c.r c.l c.v = true ∧ c.n = parts0 c.k) ∨ (node0 c.k c.t c.r c.l c.v = false ∧ c.n = -1) := by
  unfold Cn.n one0 node0 parts0
  by_cases h1 : c.k = 1
  · by_cases a1 : 0 ≤ c.t <;> by_cases a2 : c.t < 3 <;> by_cases a3 : 0 ≤ c.r <;> by_cases a4 : c.r < 8 <;> by_cases a5 : c.l = 0 <;> simp [h1, a1, a2, a3, a4, a5]
  by_cases h2 : c.k = 2
  · by_cases a1 : 0 ≤ c.l <;> by_cases a2 : c.l < 3 <;> by_cases a3 : c.t = 0 <;> by_cases a4 : c.r = 0 <;> simp [h2, a1, a2, a3, a4]
  by_cases h3 : c.k = 3
  · by_cases a1 : c.t = 0 <;> by_cases a2 : c.r = 0 <;> by_cases a3 : c.l = 0 <;> by_cases a4 : c.v = 0 <;> simp [h3, a1, a2, a3, a4]
  by_cases h4 : c.k = 4
  · by_cases a1 : c.t = 0 <;> by_cases a2 : c.r = 0 <;> by_cases a3 : c.l = 0 <;> by_cases a4 : c.v = 0 <;> simp [h4, a1, a2, a3, a4]
  by_cases h5 : c.k = 5
  · by_cases a1 : c.t = 0 <;> by_cases a2 : c.r = 0 <;> by_cases a3 : c.l = 0 <;> by_cases a4 : c.v = 0 <;> simp [h5, a1, a2, a3, a4]
  simp [h1, h2, h3, h4, h5]
theorem parts_rng (k : Int) : 0 ≤ parts0 k ∧ parts0 k ≤ 2 := by unfold parts0; split <;> (try split) <;> (try split) <;> omega
theorem nd_t {c : Cn} (h : node0 c.k c.t c.r c.l c.v = true) : c.n = parts0 c.k ∧ 0 ≤ parts0 c.k ∧ parts0 c.k ≤ 2 := by
  rcases nd_any c with h1 | h1
  · exact ⟨h1.2, parts_rng _⟩
  · rw [h] at h1; cases h1.1
theorem nd_f {c : Cn} (h : node0 c.k c.t c.r c.l c.v = false) : c.n < 0 := by
  rcases nd_any c with h1 | h1
  · rw [h] at h1; cases h1.1
  · omega
section
variable {L : List Cn} {n i : Nat} {hv : Int}
theorem RI.get (h : RI (L.take n) i hv) (hn : n ≤ L.length) (h1 : (i : Int) < ((n : Nat) : Int)) : (L.take n).getD ((i : Int)).toNat Cn.z = (L.getD ((i : Int)).toNat Cn.z) := getD_take (by omega)
theorem RI.b0 (h : ¬ ((n : Nat) : Int) > 32) (hn : n ≤ L.length) : RI (L.take n) 0 0 := by
  have hl : (L.take n).length = n := by simp; omega
  refine ⟨by omega, by omega, by omega, by omega, ?_⟩
  unfold right
  split
  · next hh =>
    have : n = 0 := by omega
    subst this
    rw [List.take_zero, List.drop_nil, rightGo]; rfl
  · rfl
theorem RI.bad (h : RI (L.take n) i hv) (hn : n ≤ L.length) (h1 : (i : Int) < ((n : Nat) : Int)) (h2 : (!(node0 (L.getD ((i : Int)).toNat Cn.z).k (L.getD ((i : Int)).toNat Cn.z).t (L.getD ((i : Int)).toNat Cn.z).r (L.getD ((i : Int)).toNat Cn.z).l (L.getD ((i : Int)).toNat Cn.z).v)) = true) : right (L.take n) = false := by
  have hl : (L.take n).length = n := by simp; omega
  have e := h.get hn h1
  have := nd_f (c := (L.getD ((i : Int)).toNat Cn.z)) (by revert h2; cases node0 (L.getD ((i : Int)).toNat Cn.z).k (L.getD ((i : Int)).toNat Cn.z).t (L.getD ((i : Int)).toNat Cn.z).r (L.getD ((i : Int)).toNat Cn.z).l (L.getD ((i : Int)).toNat Cn.z).v <;> simp)
  have ha := h.at (by rw [hl]; exact h1)
  rw [e, if_pos (.inl this)] at ha
  exact ha
theorem RI.bad2 (h : RI (L.take n) i hv) (hn : n ≤ L.length) (h1 : (i : Int) < ((n : Nat) : Int)) (h2 : (!(node0 (L.getD ((i : Int)).toNat Cn.z).k (L.getD ((i : Int)).toNat Cn.z).t (L.getD ((i : Int)).toNat Cn.z).r (L.getD ((i : Int)).toNat Cn.z).l (L.getD ((i : Int)).toNat Cn.z).v)) = false) (h3 : hv < parts0 (L.getD ((i : Int)).toNat Cn.z).k) : right (L.take n) = false := by
  have hl : (L.take n).length = n := by simp; omega
  have e := h.get hn h1
  have hq := nd_t (c := (L.getD ((i : Int)).toNat Cn.z)) (by revert h2; cases node0 (L.getD ((i : Int)).toNat Cn.z).k (L.getD ((i : Int)).toNat Cn.z).t (L.getD ((i : Int)).toNat Cn.z).r (L.getD ((i : Int)).toNat Cn.z).l (L.getD ((i : Int)).toNat Cn.z).v <;> simp)
  have ha := h.at (by rw [hl]; exact h1)
  rw [e, if_pos (.inr (by omega))] at ha
  exact ha
theorem RI.go (h : RI (L.take n) i hv) (hn : n ≤ L.length) (h1 : (i : Int) < ((n : Nat) : Int)) (h2 : (!(node0 (L.getD ((i : Int)).toNat Cn.z).k (L.getD ((i : Int)).toNat Cn.z).t (L.getD ((i : Int)).toNat Cn.z).r (L.getD ((i : Int)).toNat Cn.z).l (L.getD ((i : Int)).toNat Cn.z).v)) = false) (h3 : ¬ hv < parts0 (L.getD ((i : Int)).toNat Cn.z).k) : RI (L.take n) (i + 1) (hv + (1 - parts0 (L.getD ((i : Int)).toNat Cn.z).k)) := by
  have hl : (L.take n).length = n := by simp; omega
  have e := h.get hn h1
  have hq := nd_t (c := (L.getD ((i : Int)).toNat Cn.z)) (by revert h2; cases node0 (L.getD ((i : Int)).toNat Cn.z).k (L.getD ((i : Int)).toNat Cn.z).t (L.getD ((i : Int)).toNat Cn.z).r (L.getD ((i : Int)).toNat Cn.z).l (L.getD ((i : Int)).toNat Cn.z).v <;> simp)
  have ha := h.at (by rw [hl]; exact h1)
  rw [e, if_neg (by omega)] at ha
  have k := h.2.2
  exact ⟨by omega, h.2.1, by omega, by omega, by rw [ha, hq.1]; congr 1; omega⟩
end
theorem pright_ (L : List Cn) (n : Nat) (c : Nat) (hn : n ≤ L.length) : Fn Tryz.prog 23 [.sl 0 n c] [some (.lst 5 L.length (fun zz => cc (L.getD zz Cn.z)))] (Rt (.bool (right (L.take n))) [some (.lst 5 L.length (fun zz => cc (L.getD zz Cn.z)))]) :=
 enterM (n := 34) (by kernel_rfl) Tryz.func23 rfl rfl rfl fun G w a h0 A => N hX 13 A rfl rfl fun A => forkD 8 A rfl
  (fun h1 A => N hX 7 A rfl rfl fun A => RETN hX A rfl rfl rfl h0 rfl rfl rfl rfl (by rw [show right (L.take n) = false by unfold right; rw [if_pos (by simp; omega)]]; rfl) rfl)
  (fun h1 A => N hX 17 A rfl rfl fun A => LOOP2 (fun (i : Nat) (hv : Int) => [(2, .ff), (3, .int .i64 hv), (9, .sl 0 n c), (10, .int .i64 ((n : Nat) : Int)), (11, .int .i64 (i : Int))]) (fun (i : Nat) (hv : Int) => [some (.lst 5 L.length (fun zz => cc (L.getD zz Cn.z)))]) (fun (i : Nat) (hv : Int) => RI (L.take n) i hv) (fun (i : Nat) (hv : Int) => n - i) 0 0 (RI.b0 h1 hn) ((A.cut [2, 3, 9, 10, 11] rfl).trunc 1 rfl rfl rfl (by simp only [List.length_cons, List.length_nil] at h0; omega)) fun i hv hI {G a w} A => N hX 6 A rfl rfl fun A => forkD 12 A rfl
    (fun h2 A => N hX 15 A rfl (ok_d (by have hq := hI.2.2; have hl : (L.take n).length = n := (by simp; omega); have h32 := hI.2.1; omega) <| ok_d (by have hq := hI.2.2; have hl : (L.take n).length = n := (by simp; omega); have h32 := hI.2.1; omega) <| okE_nil) fun A => N hX 2 A rfl rfl fun A => CALL1 [] (node_ ((L.getD (((i : Int)).toNat) Cn.z).k) ((L.getD (((i : Int)).toNat) Cn.z).t) ((L.getD (((i : Int)).toNat) Cn.z).r) ((L.getD (((i : Int)).toNat) Cn.z).l) ((L.getD (((i : Int)).toNat) Cn.z).v)) A rfl rfl rfl rfl rfl rfl rfl fun A => N hX 2 A rfl rfl fun A => fork 18 A rfl
     (fun h3 A => N hX 15 A rfl rfl fun A => RETN hX A rfl rfl rfl h0 rfl rfl rfl rfl (by rw [hI.bad hn h2 h3]; rfl) rfl)
     (fun h3 A => N hX 3 A rfl rfl fun A => CALL1 [] (parts_ ((L.getD (((i : Int)).toNat) Cn.z).k)) A rfl rfl rfl rfl rfl rfl rfl fun A => N hX 4 A rfl rfl fun A => forkD 24 A rfl
      (fun h4 A => N hX 7 A rfl rfl fun A => RETN hX A rfl rfl rfl h0 rfl rfl rfl rfl (by rw [hI.bad2 hn h2 h3 h4]; rfl) rfl)
      (fun h4 A => N hX 7 A rfl rfl fun A => CALL1 [] (parts_ ((L.getD (((i : Int)).toNat) Cn.z).k)) A rfl rfl rfl rfl rfl rfl rfl fun A => N hX 6 A rfl (ok_d (by have hq := hI.2.2; have hl : (L.take n).length = n := (by simp; omega); have h32 := hI.2.1; have hp := nd_t (c := (L.getD ((i : Int)).toNat Cn.z)) (by revert h3; cases node0 (L.getD ((i : Int)).toNat Cn.z).k (L.getD ((i : Int)).toNat Cn.z).t (L.getD ((i : Int)).toNat Cn.z).r (L.getD ((i : Int)).toNat Cn.z).l (L.getD ((i : Int)).toNat Cn.z).v <;> simp); omega) <| ok_d (by have hq := hI.2.2; have hl : (L.take n).length = n := (by simp; omega); have h32 := hI.2.1; have hp := nd_t (c := (L.getD ((i : Int)).toNat Cn.z)) (by revert h3; cases node0 (L.getD ((i : Int)).toNat Cn.z).k (L.getD ((i : Int)).toNat Cn.z).t (L.getD ((i : Int)).toNat Cn.z).r (L.getD ((i : Int)).toNat Cn.z).l (L.getD ((i : Int)).toNat Cn.z).v <;> simp); omega) <| okE_nil) fun A => N hX 4 A rfl (ok_d (by have hq := hI.2.2; have hl : (L.take n).length = n := (by simp; omega); have h32 := hI.2.1; have hp := nd_t (c := (L.getD ((i : Int)).toNat Cn.z)) (by revert h3; cases node0 (L.getD ((i : Int)).toNat Cn.z).k (L.getD ((i : Int)).toNat Cn.z).t (L.getD ((i : Int)).toNat Cn.z).r (L.getD ((i : Int)).toNat Cn.z).l (L.getD ((i : Int)).toNat Cn.z).v <;> simp); omega) <| okE_nil) fun A => ⟨i + 1, hv + (1 - parts0 (L.getD ((i : Int)).toNat Cn.z).k), _, (by omega), (hI.go hn h2 h3 h4), ((A.cut [2, 3, 9, 10, 11] rfl).trunc 1 rfl rfl rfl (by simp only [List.length_cons, List.length_nil] at h0; omega))⟩)))
    (fun h2 A => N hX 11 A rfl rfl fun A => RETN hX A rfl rfl rfl h0 rfl rfl rfl rfl (by rw [hI.done (by rw [List.length_take, Nat.min_eq_left hn]; exact h2)]; rfl) rfl))
end Go.Proofs.YtedlaclfhgneeabGreatDoor.Cd
namespace Go.Proofs.YtedlaclfhgneeabGreatDoor.Cd
open Go.RowKit
set_option linter.unusedVariables false
set_option linter.unusedSimpArgs false
set_option maxRecDepth 100000
set_option maxHeartbeats 2000000
set_option simprocs false
def hv0 (p : O) (kd : Int) (th : Int) (rg : Int) (lc : Int) (vl : Int) (l : List Bool) (j : Nat) (k : Nat) : Bool := if kd = 1 then ([[(p 0), (p 1), (p 2), (p 3), (p 4), (p 5), (p 6), (p 7)].getD (rg).toNat 0, [(p 8), (p 9), (p 10), (p 11), (p 12), (p 13), (p 14), (p 15)].getD (rg).toNat 0, [(p 16), (p 17), (p 18), (p 19), (p 20), (p 21), (p 22), (p 23)].getD (rg).toNat 0].getD (th).toNat 0) == vl else if kd = 2 then ([(p 24), (p 25), (p 26)].getD (lc).toNat 0) == vl else if kd = 3 then !(l.getD ((((j : Nat) : Int) + 0).toNat) false) else if kd = 4 then (l.getD ((((j : Nat) : Int) + 0).toNat) false) && (l.getD ((((j : Nat) : Int) + 1).toNat) false) else (l.getD ((((j : Nat) : Int) + 0).toNat) false) || (l.getD ((((j : Nat) : Int) + 1).toNat) false)
theorem hv_ (p : O) (kd : Int) (th : Int) (rg : Int) (lc : Int) (vl : Int) (l : List Bool) (j : Nat) (k : Nat) (hk : j + k ≤ l.length) (q1 : kd = 1 → 0 ≤ th ∧ th < 3 ∧ 0 ≤ rg ∧ rg < 8) (q2 : kd = 2 → 0 ≤ lc ∧ lc < 3) (q3 : kd = 3 → 1 ≤ k) (q4 : kd ≠ 1 → kd ≠ 2 → kd ≠ 3 → 2 ≤ k) : Fn Tryz.prog 166 [.agg [.int .i64 kd, .int .i64 th, .int .i64 rg, .int .i64 lc, .int .i64 vl], .st 1 1 j k 0, .ptr 0 0] [some (.blk (oc p)), some (.row 4 1 l.length 0 (fun zz => [.bool (l.getD zz false)]))] (Rt (.bool (hv0 p kd th rg lc vl l j k)) [some (.blk (oc p)), some (.row 4 1 l.length 0 (fun zz => [.bool (l.getD zz false)]))]) :=
 enterM (n := 55) (by kernel_rfl) Tryz.func166 rfl rfl rfl fun G w a h0 A => N hX 20 A rfl rfl fun A => forkE 8 A rfl
  (fun h1 A => N hX 2 A rfl rfl fun A => DRAWN hX hmo [] [] A rfl (ok_d (by omega) <| ok_d (by omega) <| ok_d (by omega) <| ok_d (by omega) <| okE_nil) rfl rfl (by kernel_rfl) (effAll_nil _ _) trivial fun A => N hX 2 A rfl rfl fun A => RETN hX A rfl rfl rfl h0 rfl rfl rfl rfl (by simp only [oneS, nb, nbL, nbH, hv0, if_pos h1]) rfl)
  (fun h1 A => N hX 7 A rfl rfl fun A => forkE 21 A rfl
   (fun h2 A => N hX 2 A rfl rfl fun A => DRAWN hX hmo [] [] A rfl (ok_d (by omega) <| ok_d (by omega) <| okE_nil) rfl rfl (by kernel_rfl) (effAll_nil _ _) trivial fun A => N hX 2 A rfl rfl fun A => RETN hX A rfl rfl rfl h0 rfl rfl rfl rfl (by simp only [oneS, nb, nbL, nbH, hv0, if_neg (h1), if_pos h2]) rfl)
   (fun h2 A => N hX 7 A rfl rfl fun A => forkE 31 A rfl
    (fun h3 A => N hX 11 A rfl (ok_d (by omega) <| ok_d (by omega) <| okE_nil) fun A => RETN hX A rfl rfl rfl h0 rfl rfl rfl rfl (by simp only [oneS, nb, nbL, nbH, hv0, if_neg (h1), if_neg (h2), if_pos h3]) rfl)
    (fun h3 A => N hX 7 A rfl rfl fun A => forkE 37 A rfl
     (fun h4 A => N hX 15 A rfl (ok_d (by omega) <| ok_d (by omega) <| ok_r <| ok_g (fun hg => (by omega)) <| ok_r <| ok_g (fun hg => (by omega)) <| ok_r <| okE_nil) fun A => RETN hX A rfl rfl rfl h0 rfl rfl rfl rfl (by simp only [oneS, nb, nbL, nbH, hv0, if_neg (h1), if_neg (h2), if_neg (h3), if_pos h4]) rfl)
     (fun h4 A => N hX 18 A rfl (ok_d (by omega) <| ok_d (by omega) <| ok_r <| ok_g (fun hg => (by omega)) <| ok_r <| ok_g (fun hg => (by omega)) <| ok_r <| okE_nil) fun A => RETN hX A rfl rfl rfl h0 rfl rfl rfl rfl (by simp only [oneS, nb, nbL, nbH, hv0, if_neg (h1), if_neg (h2), if_neg (h3), if_neg (h4)]) rfl))))
end Go.Proofs.YtedlaclfhgneeabGreatDoor.Cd
namespace Go.Proofs.YtedlaclfhgneeabGreatDoor.Cd
open Go.RowKit
set_option linter.unusedVariables false
set_option linter.unusedSimpArgs false
set_option maxRecDepth 100000
set_option maxHeartbeats 2000000
set_option simprocs false
theorem set_take {α : Type} : ∀ (l : List α) (k : Nat) (v : α), k < l.length → (l.set k v).take (k + 1) = l.take k ++ [v]
  | [], k, v, h => by simp at h
  | a :: l, 0, v, h => by simp
  | a :: l, k + 1, v, h => by
    rw [List.set_cons_succ, List.take_succ_cons, set_take l k v (by simpa using h)]; rfl
theorem fold_st {p : O} {c : Cn} {l : List Bool} {F : Nat} (hn : ¬ c.n < 0) (hl : c.n ≤ (l.length : Int)) (hp : c.n = parts0 c.k) (hF : F = (((l.length : Nat) : Int) - parts0 c.k).toNat) : l.take F ++ [hv0 p c.k c.t c.r c.l c.v l F (l.length - F)] = stepL p c l := by
  have hk := cn_kind hn
  unfold hv0
  rcases hk with h | h | h | h | h
  · rw [st1 h.1, if_pos h.1, List.take_of_length_le (by omega)]
  · rw [st2 h.1, if_neg (by omega), if_pos h.1, List.take_of_length_le (by omega)]
  · rw [st3 h.1, if_neg (by omega), if_neg (by omega), if_pos h.1]
    have e := set_take l (l.length - 1) (!(l.getD (l.length - 1) false)) (by omega)
    rw [List.take_of_length_le (by simp; omega)] at e
    rw [show F = l.length - 1 by omega, show (((l.length - 1 : Nat) : Int) + 0).toNat = l.length - 1 by omega, show (((l.length : Nat) : Int) - 1).toNat = l.length - 1 by omega, e]
  · rw [st4 h.1, if_neg (by omega), if_neg (by omega), if_neg (by omega), if_pos h.1]
    have e := set_take l (l.length - 2) (l.getD (l.length - 2) false && l.getD (l.length - 1) false) (by omega)
    rw [show F = l.length - 2 by omega, show (((l.length - 2 : Nat) : Int) + 0).toNat = l.length - 2 by omega, show (((l.length - 2 : Nat) : Int) + 1).toNat = l.length - 1 by omega, show (((l.length : Nat) : Int) - 2).toNat = l.length - 2 by omega, show (((l.length : Nat) : Int) - 1).toNat = l.length - 1 by omega, ← e, show l.length - 2 + 1 = l.length - 1 by omega]
  · rw [st5 h.1, if_neg (by omega), if_neg (by omega), if_neg (by omega), if_neg (by omega)]
    have e := set_take l (l.length - 2) (l.getD (l.length - 2) false || l.getD (l.length - 1) false) (by omega)
    rw [show F = l.length - 2 by omega, show (((l.length - 2 : Nat) : Int) + 0).toNat = l.length - 2 by omega, show (((l.length - 2 : Nat) : Int) + 1).toNat = l.length - 1 by omega, show (((l.length : Nat) : Int) - 2).toNat = l.length - 2 by omega, show (((l.length : Nat) : Int) - 1).toNat = l.length - 1 by omega, ← e, show l.length - 2 + 1 = l.length - 1 by omega]
section
variable {p : O} {L : List Cn} {n i : Nat} {l : List Bool}
theorem EI.i0 (hr : right (L.take n) = true) : EI p (L.take n) [] 0 := EI.init (by rw [hr]; rfl)
theorem EI.kn (hI : EI p (L.take n) l i) (hn : n ≤ L.length) (h1 : (i : Int) < ((n : Nat) : Int)) : ¬ (L.getD ((i : Int)).toNat Cn.z).n < 0 ∧ (L.getD ((i : Int)).toNat Cn.z).n ≤ (l.length : Int) ∧ (L.getD ((i : Int)).toNat Cn.z).n = parts0 (L.getD ((i : Int)).toNat Cn.z).k ∧ (((L.getD ((i : Int)).toNat Cn.z).k = 1 ∧ (L.getD ((i : Int)).toNat Cn.z).n = 0 ∧ 0 ≤ (L.getD ((i : Int)).toNat Cn.z).t ∧ (L.getD ((i : Int)).toNat Cn.z).t < 3 ∧ 0 ≤ (L.getD ((i : Int)).toNat Cn.z).r ∧ (L.getD ((i : Int)).toNat Cn.z).r < 8) ∨ ((L.getD ((i : Int)).toNat Cn.z).k = 2 ∧ (L.getD ((i : Int)).toNat Cn.z).n = 0 ∧ 0 ≤ (L.getD ((i : Int)).toNat Cn.z).l ∧ (L.getD ((i : Int)).toNat Cn.z).l < 3) ∨ ((L.getD ((i : Int)).toNat Cn.z).k = 3 ∧ (L.getD ((i : Int)).toNat Cn.z).n = 1) ∨ ((L.getD ((i : Int)).toNat Cn.z).k = 4 ∧ (L.getD ((i : Int)).toNat Cn.z).n = 2) ∨ ((L.getD ((i : Int)).toNat Cn.z).k = 5 ∧ (L.getD ((i : Int)).toNat Cn.z).n = 2)) ∧ l.length ≤ i := by
  have hl : (L.take n).length = n := by simp; omega
  have h := (hI.at (by rw [hl]; exact h1)).1
  rw [getD_take (by omega)] at h
  have hn0 : ¬ (L.getD ((i : Int)).toNat Cn.z).n < 0 := fun h' => h (.inl h')
  refine ⟨hn0, by omega, ?_, cn_kind hn0, hI.ll⟩
  rcases nd_any (L.getD ((i : Int)).toNat Cn.z) with h2 | h2
  · exact h2.2
  · omega
theorem EI.nx (hI : EI p (L.take n) l i) (hr : right (L.take n) = true) (hn : n ≤ L.length) (h1 : (i : Int) < ((n : Nat) : Int)) : EI p (L.take n) (stepL p (L.getD ((i : Int)).toNat Cn.z) l) (i + 1) := by
  have hl : (L.take n).length = n := by simp; omega
  have := hI.next (by rw [hr]; rfl) (by rw [hl]; exact h1)
  rw [getD_take (by omega)] at this
  exact this
theorem EI.fi (hI : EI p (L.take n) l i) (hr : right (L.take n) = true) (hn : n ≤ L.length) (h1 : ¬ (i : Int) < ((n : Nat) : Int)) : l.length = 1 ∧ evalB p (L.take n) = l.getD 0 false := by
  have hl : (L.take n).length = n := by simp; omega
  exact ⟨hI.fin (by rw [hl]; exact h1), hI.done (by rw [hr]; rfl) (by rw [hl]; exact h1)⟩
end
theorem lapp1 {l : List Bool} {k : Nat} {b : Bool} (h : k ≤ l.length) : (l.take k ++ [b]).getD k false = b := by
  have := getD_app_1 (l := l.take k) (x := b) (d := false)
  rw [List.length_take, Nat.min_eq_left h] at this; exact this
theorem foldb_ (p : O) (L : List Cn) (n : Nat) (c : Nat) (hn : n ≤ L.length) (hN : n ≤ 1000000) (hr : right (L.take n) = true) : Fn Tryz.prog 165 [.sl 0 n c, .fn 166 [.ptr 1 0]] [some (.lst 5 L.length (fun zz => cc (L.getD zz Cn.z))), some (.blk (oc p))] (Rt (.bool (evalB p (L.take n))) [some (.lst 5 L.length (fun zz => cc (L.getD zz Cn.z))), some (.blk (oc p))]) :=
 enterM (n := 36) (by kernel_rfl) Tryz.func165 rfl rfl rfl fun G w a h0 A => N hX 19 A rfl rfl fun A => have A := A.nilRow 5 4 1 (fun zz => [.bool (([] : List Bool).getD zz false)]) rfl (fun z => ⟨_, rfl, rfl⟩); LOOP2 (fun (l : List Bool) (i : Nat) => [(1, .fn 166 [.ptr 1 0]), (4, .ff), (5, .sl 2 l.length 0), (9, .sl 0 n c), (10, .int .i64 ((n : Nat) : Int)), (11, .int .i64 (i : Int))]) (fun (l : List Bool) (i : Nat) => [some (.lst 5 L.length (fun zz => cc (L.getD zz Cn.z))), some (.blk (oc p)), some (.row 4 1 l.length 0 (fun zz => [.bool (l.getD zz false)]))]) (fun (l : List Bool) (i : Nat) => EI p (L.take n) l i) (fun (l : List Bool) (i : Nat) => n - i) [] 0 (EI.i0 hr) ((A.cut [1, 4, 5, 9, 10, 11] rfl).trunc 3 rfl rfl rfl (by simp only [List.length_cons, List.length_nil] at h0; omega)) fun l i hI {G a w} A => N hX 6 A rfl rfl fun A => forkD 12 A rfl
   (fun h1 A => N hX 14 A rfl (ok_d (by have hq := hI.kn hn h1; omega) <| ok_d (by have hq := hI.kn hn h1; omega) <| okE_nil) fun A => N hX 5 A rfl rfl fun A => CALL1 [] (parts_ ((L.getD (((i : Int)).toNat) Cn.z).k)) A rfl rfl rfl rfl rfl rfl rfl fun A => N hX 4 A rfl (ok_d (by have hq := hI.kn hn h1; omega) <| okE_nil) fun A => DRAWN hX hmo [] [(8, .bool (hv0 p ((L.getD (((i : Int)).toNat) Cn.z).k) ((L.getD (((i : Int)).toNat) Cn.z).t) ((L.getD (((i : Int)).toNat) Cn.z).r) ((L.getD (((i : Int)).toNat) Cn.z).l) ((L.getD (((i : Int)).toNat) Cn.z).v) l ((((l.length : Nat) : Int) - (parts0 ((L.getD (((i : Int)).toNat) Cn.z).k))).toNat) (l.length - (((l.length : Nat) : Int) - (parts0 ((L.getD (((i : Int)).toNat) Cn.z).k))).toNat)), [some (.lst 5 L.length (fun zz => cc (L.getD zz Cn.z))), some (.blk (oc p)), some (.row 4 1 l.length 0 (fun zz => [.bool (l.getD zz false)])), some (.blk [.int .i64 ((L.getD (((i : Int)).toNat) Cn.z).k), .int .i64 ((L.getD (((i : Int)).toNat) Cn.z).t), .int .i64 ((L.getD (((i : Int)).toNat) Cn.z).r), .int .i64 ((L.getD (((i : Int)).toNat) Cn.z).l), .int .i64 ((L.getD (((i : Int)).toNat) Cn.z).v)])]), (10, .sl 5 (((((l.length : Nat) : Int) - (parts0 ((L.getD (((i : Int)).toNat) Cn.z).k))).toNat) + 1) 0, [some (.lst 5 L.length (fun zz => cc (L.getD zz Cn.z))), some (.blk (oc p)), none, some (.blk [.int .i64 ((L.getD (((i : Int)).toNat) Cn.z).k), .int .i64 ((L.getD (((i : Int)).toNat) Cn.z).t), .int .i64 ((L.getD (((i : Int)).toNat) Cn.z).r), .int .i64 ((L.getD (((i : Int)).toNat) Cn.z).l), .int .i64 ((L.getD (((i : Int)).toNat) Cn.z).v)]), some (.blk [.bool (hv0 p ((L.getD (((i : Int)).toNat) Cn.z).k) ((L.getD (((i : Int)).toNat) Cn.z).t) ((L.getD (((i : Int)).toNat) Cn.z).r) ((L.getD (((i : Int)).toNat) Cn.z).l) ((L.getD (((i : Int)).toNat) Cn.z).v) l ((((l.length : Nat) : Int) - (parts0 ((L.getD (((i : Int)).toNat) Cn.z).k))).toNat) (l.length - (((l.length : Nat) : Int) - (parts0 ((L.getD (((i : Int)).toNat) Cn.z).k))).toNat))]), some (.row 4 1 (((((l.length : Nat) : Int) - (parts0 ((L.getD (((i : Int)).toNat) Cn.z).k))).toNat) + 1) 0 (fun zz => [.bool ((l.take ((((l.length : Nat) : Int) - (parts0 ((L.getD (((i : Int)).toNat) Cn.z).k))).toNat) ++ [hv0 p ((L.getD (((i : Int)).toNat) Cn.z).k) ((L.getD (((i : Int)).toNat) Cn.z).t) ((L.getD (((i : Int)).toNat) Cn.z).r) ((L.getD (((i : Int)).toNat) Cn.z).l) ((L.getD (((i : Int)).toNat) Cn.z).v) l ((((l.length : Nat) : Int) - (parts0 ((L.getD (((i : Int)).toNat) Cn.z).k))).toNat) (l.length - (((l.length : Nat) : Int) - (parts0 ((L.getD (((i : Int)).toNat) Cn.z).k))).toNat)]).getD zz false)]))])] A rfl (ok_d (by show 0 ≤ ((l.length : Nat) : Int) - (parts0 ((L.getD (((i : Int)).toNat) Cn.z).k)) ∧ ((l.length : Nat) : Int) - (parts0 ((L.getD (((i : Int)).toNat) Cn.z).k)) ≤ ((l.length : Nat) : Int); exact (by have hq := hI.kn hn h1; omega)) <| ok_d (by show 0 ≤ ((l.length : Nat) : Int) - (parts0 ((L.getD (((i : Int)).toNat) Cn.z).k)) ∧ ((l.length : Nat) : Int) - (parts0 ((L.getD (((i : Int)).toNat) Cn.z).k)) ≤ ((l.length : Nat) : Int); exact (by have hq := hI.kn hn h1; omega)) <| ok_d (by show 0 ≤ ((l.length : Nat) : Int) - (parts0 ((L.getD (((i : Int)).toNat) Cn.z).k)) ∧ ((l.length : Nat) : Int) - (parts0 ((L.getD (((i : Int)).toNat) Cn.z).k)) ≤ ((l.length : Nat) : Int); exact (by have hq := hI.kn hn h1; omega)) <| ok_d (by have hq := hI.kn hn h1; omega) <| okE_nil) rfl rfl (by kernel_rfl) ⟨callE [1, 2] (hv_ p ((L.getD (((i : Int)).toNat) Cn.z).k) ((L.getD (((i : Int)).toNat) Cn.z).t) ((L.getD (((i : Int)).toNat) Cn.z).r) ((L.getD (((i : Int)).toNat) Cn.z).l) ((L.getD (((i : Int)).toNat) Cn.z).v) l ((((l.length : Nat) : Int) - (parts0 ((L.getD (((i : Int)).toNat) Cn.z).k))).toNat) (l.length - (((l.length : Nat) : Int) - (parts0 ((L.getD (((i : Int)).toNat) Cn.z).k))).toNat) (by have hq := hI.kn hn h1; omega) (by have hq := hI.kn hn h1; omega) (by have hq := hI.kn hn h1; omega) (by have hq := hI.kn hn h1; omega) (by have hq := hI.kn hn h1; omega)) rfl rfl rfl rfl rfl rfl rfl, ⟨trivial, ⟨eff_shrink (e := 4) (s := 1) 2 ((((l.length : Nat) : Int) - (parts0 ((L.getD (((i : Int)).toNat) Cn.z).k))).toNat) rfl (by have hq := hI.kn hn h1; omega) (appE (i := 2) (e := 4) (s := 1) hX (((((l.length : Nat) : Int) - (parts0 ((L.getD (((i : Int)).toNat) Cn.z).k))).toNat) + 1) (fun zz => [.bool ((l.take ((((l.length : Nat) : Int) - (parts0 ((L.getD (((i : Int)).toNat) Cn.z).k))).toNat) ++ [hv0 p ((L.getD (((i : Int)).toNat) Cn.z).k) ((L.getD (((i : Int)).toNat) Cn.z).t) ((L.getD (((i : Int)).toNat) Cn.z).r) ((L.getD (((i : Int)).toNat) Cn.z).l) ((L.getD (((i : Int)).toNat) Cn.z).v) l ((((l.length : Nat) : Int) - (parts0 ((L.getD (((i : Int)).toNat) Cn.z).k))).toNat) (l.length - (((l.length : Nat) : Int) - (parts0 ((L.getD (((i : Int)).toNat) Cn.z).k))).toNat)]).getD zz false)]) rfl rfl rfl rfl (by have hq := hI.kn hn h1; omega) rfl (fun q hq => by show [SV.bool _] = [SV.bool _]; rw [getD_app_l (by rw [List.length_take]; have hq := hI.kn hn h1; omega), getD_take hq]) (by show [SV.bool _] = _; rw [lapp1 (by have hq := hI.kn hn h1; omega)]) (fun z => ⟨_, rfl, rfl⟩)), trivial⟩⟩⟩ trivial fun A => N hX 6 A rfl (ok_d (by have hq := hI.kn hn h1; omega) <| okE_nil) fun A => ⟨stepL p (L.getD ((i : Int)).toNat Cn.z) l, i + 1, _, (by omega), (hI.nx hr hn h1), ((((A.rowAs 5 (stepL p (L.getD ((i : Int)).toNat Cn.z) l).length (fun zz => [.bool ((stepL p (L.getD ((i : Int)).toNat Cn.z) l).getD zz false)]) rfl (by rw [← (fold_st (F := (((l.length : Nat) : Int) - parts0 (L.getD ((i : Int)).toNat Cn.z).k).toNat) (hI.kn hn h1).1 (hI.kn hn h1).2.1 (hI.kn hn h1).2.2.1 rfl), List.length_append, List.length_take, List.length_cons, List.length_nil]; have hq := hI.kn hn h1; omega) (fun q hq => by show [SV.bool _] = [SV.bool _]; rw [← (fold_st (F := (((l.length : Nat) : Int) - parts0 (L.getD ((i : Int)).toNat Cn.z).k).toNat) (hI.kn hn h1).1 (hI.kn hn h1).2.1 (hI.kn hn h1).2.2.1 rfl)]) (fun z => ⟨_, rfl, rfl⟩)).say 5 (.sl 5 (stepL p (L.getD ((i : Int)).toNat Cn.z) l).length 0) rfl (by rw [show (stepL p (L.getD ((i : Int)).toNat Cn.z) l).length = (((l.length : Nat) : Int) - parts0 (L.getD ((i : Int)).toNat Cn.z).k).toNat + 1 from (by rw [← (fold_st (F := (((l.length : Nat) : Int) - parts0 (L.getD ((i : Int)).toNat Cn.z).k).toNat) (hI.kn hn h1).1 (hI.kn hn h1).2.1 (hI.kn hn h1).2.2.1 rfl), List.length_append, List.length_take, List.length_cons, List.length_nil]; have hq := hI.kn hn h1; omega)])).cut [1, 4, 5, 9, 10, 11] rfl).mv 2 [5] rfl rfl rfl rfl (by simp only [List.length_cons, List.length_nil] at h0; omega))⟩)
   (fun h1 A => N hX 12 A rfl (ok_d (by have hq := (hI.fi hr hn h1).1; omega) <| ok_d (by have hq := (hI.fi hr hn h1).1; omega) <| okE_nil) fun A => RETN hX A rfl rfl rfl h0 rfl rfl rfl rfl (by rw [(hI.fi hr hn h1).2]; rfl) rfl)
end Go.Proofs.YtedlaclfhgneeabGreatDoor.Cd
namespace Go.Proofs.YtedlaclfhgneeabGreatDoor.Cd
open Go.RowKit
set_option linter.unusedVariables false
set_option linter.unusedSimpArgs false
set_option maxRecDepth 100000
set_option maxHeartbeats 2000000
set_option simprocs false
theorem holds_ (p : O) (L : List Cn) (n : Nat) (c : Nat) (hn : n ≤ L.length) (hN : n ≤ 1000000) (hr : right (L.take n) = true) : Fn Tryz.prog 107 [.agg (oc p), .sl 0 n c] [some (.lst 5 L.length (fun zz => cc (L.getD zz Cn.z)))] (Rt (.bool (evalB p (L.take n))) [some (.lst 5 L.length (fun zz => cc (L.getD zz Cn.z)))]) :=
 enterM (n := 8) (by kernel_rfl) Tryz.func107 rfl rfl rfl fun G w a h0 A => N hX 10 A rfl rfl fun A => CALL1 [0, 1] (foldb_ p L n c hn hN hr) A rfl rfl rfl rfl rfl rfl rfl fun A => N hX 4 A rfl rfl fun A => RETN hX A rfl rfl rfl h0 rfl rfl rfl rfl rfl rfl
theorem jone_ (p : O) (qu : Int) (L : List Cn) (n : Nat) (c : Nat) (hn : n ≤ L.length) (hN : n ≤ 1000000) (hr : right (L.take n) = true) : Fn Tryz.prog 106 [.agg (oc p), .ptr 0 0, .ptr 1 0] [some (.blk [.sl 2 n c]), some (.blk [.int .i64 qu]), some (.lst 5 L.length (fun zz => cc (L.getD zz Cn.z)))] (Rt (.bool ((evalB p (L.take n)) == (!(qu == 3)))) [some (.blk [.sl 2 n c]), some (.blk [.int .i64 qu]), some (.lst 5 L.length (fun zz => cc (L.getD zz Cn.z)))]) :=
 enterM (n := 11) (by kernel_rfl) Tryz.func106 rfl rfl rfl fun G w a h0 A => N hX 7 A rfl rfl fun A => DRAWN hX hmo [] [(2, .bool (evalB p (L.take n)), [some (.blk [.sl 2 n c]), some (.blk [.int .i64 qu]), some (.lst 5 L.length (fun zz => cc (L.getD zz Cn.z))), some (.blk (oc p))])] A rfl rfl rfl rfl (by kernel_rfl) ⟨callE [2] (holds_ p L n c hn hN hr) rfl rfl rfl rfl rfl rfl rfl, trivial⟩ trivial fun A => N hX 2 A rfl rfl fun A => RETN hX A rfl rfl rfl h0 rfl rfl rfl rfl rfl rfl
def px (b : O → Bool) : List O → Int → Int
  | [], _ => -1
  | x :: r, i => if b x = true then i else px b r (i + 1)
structure XI (b : O → Bool) (S : List O) (i : Nat) : Prop where
  le : i ≤ S.length
  eq : px b S 0 = px b (S.drop i) (i : Int)
section
variable {b : O → Bool} {S : List O} {i : Nat}
theorem XI.at (h : XI b S i) (h1 : (i : Int) < ((S.length : Nat) : Int)) : px b S 0 = if b (S.getD ((i : Int)).toNat oz) = true then (i : Int) else px b (S.drop (i + 1)) ((i : Int) + 1) := by
  have hi : i < S.length := by omega
  rw [h.eq, List.drop_eq_getElem_cons hi, px, show S.getD ((i : Int)).toNat oz = S[i] by simp [List.getD, hi]]
theorem XI.yes (h : XI b S i) (h1 : (i : Int) < ((S.length : Nat) : Int)) (h2 : b (S.getD ((i : Int)).toNat oz) = true) : px b S 0 = (i : Int) := by rw [h.at h1, if_pos h2]
theorem XI.no (h : XI b S i) (h1 : (i : Int) < ((S.length : Nat) : Int)) (h2 : b (S.getD ((i : Int)).toNat oz) = false) : XI b S (i + 1) := ⟨by omega, by rw [h.at h1, if_neg (by rw [h2]; simp)]; rfl⟩
theorem XI.out (h : XI b S i) (h1 : ¬ (i : Int) < ((S.length : Nat) : Int)) : px b S 0 = -1 := by rw [h.eq, List.drop_eq_nil_of_le (by omega), px]
end
theorem bfal {x y : Bool} (h : x ≠ y) : (x == y) = false := by cases x <;> cases y <;> simp at h ⊢
theorem btru {x y : Bool} (h : x = y) : (x == y) = true := by rw [h]; simp
theorem index_ (qu : Int) (L : List Cn) (n : Nat) (c : Nat) (S : List O) (hn : n ≤ L.length) (hN : n ≤ 1000000) (hr : right (L.take n) = true) (hS : S.length ≤ 1000000) : Fn Tryz.prog 105 [.sl 3 S.length 0, .fn 106 [.ptr 0 0, .ptr 1 0]] [some (.blk [.sl 2 n c]), some (.blk [.int .i64 qu]), some (.lst 5 L.length (fun zz => cc (L.getD zz Cn.z))), some (.row 93 27 S.length 0 (fun zz => oc (S.getD zz oz)))] (Rt (.int .i64 (px (fun x => (evalB x (L.take n)) == (!(qu == 3))) S 0)) [some (.blk [.sl 2 n c]), some (.blk [.int .i64 qu]), some (.lst 5 L.length (fun zz => cc (L.getD zz Cn.z))), some (.row 93 27 S.length 0 (fun zz => oc (S.getD zz oz)))]) :=
 enterM (n := 19) (by kernel_rfl) Tryz.func105 rfl rfl rfl fun G w a h0 A => N hX 14 A rfl rfl fun A => LOOP1 (fun (i : Nat) => [(0, .sl 3 S.length 0), (1, .fn 106 [.ptr 0 0, .ptr 1 0]), (4, .int .i64 0), (7, .int .i64 ((S.length : Nat) : Int)), (8, .int .i64 (i : Int))]) (fun (i : Nat) => [some (.blk [.sl 2 n c]), some (.blk [.int .i64 qu]), some (.lst 5 L.length (fun zz => cc (L.getD zz Cn.z))), some (.row 93 27 S.length 0 (fun zz => oc (S.getD zz oz)))]) (fun (i : Nat) => XI (fun x => (evalB x (L.take n)) == (!(qu == 3))) S i) (fun (i : Nat) => S.length - i) 0 ⟨Nat.zero_le _, by simp⟩ ((A.cut [0, 1, 4, 7, 8] rfl).trunc 4 rfl rfl rfl (by simp only [List.length_cons, List.length_nil] at h0; omega)) fun i hI {G a w} A => N hX 6 A rfl rfl fun A => forkD 9 A rfl
   (fun h1 A => N hX 18 A rfl (ok_d (by (try have := hI.le); omega) <| ok_d (by (try have := hI.le); omega) <| okE_nil) fun A => CALL1 [0, 1, 2] (jone_ (S.getD (((i : Int)).toNat) oz) qu L n c hn hN hr) A rfl rfl rfl rfl rfl rfl rfl fun A => N hX 2 A rfl rfl fun A => forkE 16 A rfl
    (fun h2 A => N hX 8 A rfl rfl fun A => RETN hX A rfl rfl rfl h0 rfl rfl rfl rfl (by rw [hI.yes h1 (btru h2)]; rfl) rfl)
    (fun h2 A => N hX 8 A rfl (ok_d (by (try have := hI.le); omega) <| okE_nil) fun A => ⟨i + 1, _, (by omega), (hI.no h1 (bfal h2)), ((A.cut [0, 1, 4, 7, 8] rfl).trunc 4 rfl rfl rfl (by simp only [List.length_cons, List.length_nil] at h0; omega))⟩))
   (fun h1 A => N hX 9 A rfl rfl fun A => RETN hX A rfl rfl rfl h0 rfl rfl rfl rfl (by rw [hI.out h1]; rfl) rfl)
end Go.Proofs.YtedlaclfhgneeabGreatDoor.Cd
namespace Go.Proofs.YtedlaclfhgneeabGreatDoor.Cd
open Go.RowKit
set_option linter.unusedVariables false
set_option linter.unusedSimpArgs false
set_option maxRecDepth 100000
set_option maxHeartbeats 2000000
set_option simprocs false
theorem fn_asX {P : Program} {f : Nat} {az : List SV} {H H2 : Hp} {x y : SV} (h : Fn P f az H (Rt x H2)) (e : ∀ G, den G x = den G y) : Fn P f az H (Rt y H2) :=
  ⟨h.1, fun G w vs hM hv => Calls.mono (h.2 G w vs hM hv) fun e' w' ⟨x', H', F, v, ⟨q1, q2⟩, r⟩ => by subst q1; subst q2; exact ⟨y, _, F, v, ⟨rfl, rfl⟩, by rw [← e]; exact r.1, r.2⟩⟩
def aC : Cn := ⟨2, 0, 0, 0, 1⟩
def nC : Cn := ⟨3, 0, 0, 0, 0⟩
theorem tyC : (∀ x, (cc x).length = 5) ∧ (∀ x, inL 0 (cc x) = true) ∧ (∀ x, ∃ vs, denL [] (cc x) = some vs) := ⟨fun _ => rfl, fun _ => rfl, fun _ => ⟨_, rfl⟩⟩
theorem tyO : (∀ x, (oc x).length = 27) ∧ (∀ x, inL 0 (oc x) = true) ∧ (∀ x, ∃ vs, denL [] (oc x) = some vs) := ⟨fun _ => rfl, fun _ => rfl, fun _ => ⟨_, rfl⟩⟩
theorem rightA_ (c : Nat) : Fn Tryz.prog 23 [.sl 0 1 c] [some (.lst 5 1 (fun zz => cc ([aC].getD zz Cn.z)))] (Rt .tt [some (.lst 5 1 (fun zz => cc ([aC].getD zz Cn.z)))]) := fn_asX (pright_ [aC] 1 c (by decide)) fun _ => rfl
theorem indexA_ : Fn Tryz.prog 105 [.sl 3 2 0, .fn 106 [.ptr 0 0, .ptr 1 0]] [some (.blk [.sl 2 1 1]), some (.blk [.int .i64 1]), some (.lst 5 1 (fun zz => cc ([aC].getD zz Cn.z))), some (.row 93 27 2 0 (fun zz => oc (o2.getD zz oz)))] (Rt (.int .i64 1) [some (.blk [.sl 2 1 1]), some (.blk [.int .i64 1]), some (.lst 5 1 (fun zz => cc ([aC].getD zz Cn.z))), some (.row 93 27 2 0 (fun zz => oc (o2.getD zz oz)))]) := fn_asX (index_ 1 [aC] 1 1 o2 (by decide) (by decide) rfl (by decide)) fun _ => rfl
theorem judgeA_   : Fn Tryz.prog 44 [.int .i64 1, .sl 0 1 1, .sl 1 2 2] [some (.lst 5 1 (fun zz => cc ([aC].getD zz Cn.z))), some (.lst 27 2 (fun zz => oc (o2.getD zz oz)))] (Rt (.tup [.agg [.tt, .tt, .int .i64 0, .int .i64 0, .int .i64 0, .int .i64 0, .int .i64 0, .int .i64 0, .int .i64 0, .int .i64 0, .int .i64 0, .int .i64 0, .int .i64 0, .int .i64 0, .int .i64 0, .int .i64 0, .int .i64 0, .int .i64 0, .int .i64 0, .int .i64 0, .int .i64 0, .int .i64 0, .int .i64 0, .int .i64 0, .int .i64 0, .int .i64 0, .int .i64 1, .int .i64 0, .int .i64 0, .int .i64 2], .int .i64 0]) [some (.lst 5 1 (fun zz => cc ([aC].getD zz Cn.z))), some (.lst 27 2 (fun zz => oc (o2.getD zz oz)))]) :=
 enterM (n := 50) (by kernel_rfl) Tryz.func44 rfl rfl rfl fun G w a h0 A => N hX 23 A rfl rfl fun A => fork 20 A rfl
  (fun h1 A => N hX 9 A rfl rfl fun A => RETN hX A rfl rfl rfl h0 rfl rfl rfl rfl (absurd h1 (by decide)) rfl)
  (fun h1 A => N hX 7 A rfl rfl fun A => CALL1 [0] (rightA_ 1) A rfl rfl rfl rfl rfl rfl rfl fun A => N hX 9 A rfl rfl fun A => CALL1 [1] (sort2_ 2) A rfl rfl rfl rfl rfl rfl rfl fun A => N hX 7 A rfl rfl fun A => CALL1 [3, 2, 0, 5] indexA_ A rfl rfl rfl rfl rfl rfl rfl fun A => N hX 32 A rfl rfl fun A => forkD 43 A rfl
   (fun h2 A => N hX 11 A rfl (ok_d (by decide) <| ok_d (by decide) <| okE_nil) fun A => N hX 7 A rfl rfl fun A => RETN hX A rfl rfl rfl h0 rfl rfl rfl rfl rfl rfl)
   (fun h2 A => absurd (by decide) h2))
end Go.Proofs.YtedlaclfhgneeabGreatDoor.Cd
namespace Go.Proofs.YtedlaclfhgneeabGreatDoor.Cd
open Go.RowKit
set_option linter.unusedVariables false
set_option linter.unusedSimpArgs false
set_option maxRecDepth 100000
set_option maxHeartbeats 2000000
set_option simprocs false
def ixf (v : Int) : List Int → Int → Int
  | [], _ => -1
  | x :: r, i => if v = x then i else ixf v r (i + 1)
structure VI (v : Int) (ks : List Int) (i : Nat) : Prop where
  le : i ≤ ks.length
  eq : ixf v ks 0 = ixf v (ks.drop i) (i : Int)
theorem VI.at {v : Int} {ks : List Int} {i : Nat} (h : VI v ks i) (h1 : i < ks.length) : ixf v ks 0 = if v = ks.getD ((i : Int)).toNat 0 then (i : Int) else ixf v (ks.drop (i + 1)) ((i : Int) + 1) := by
  rw [h.eq, List.drop_eq_getElem_cons h1, ixf, show ks.getD ((i : Int)).toNat 0 = ks[i] by simp [List.getD, h1]]
theorem VI.yes {v : Int} {ks : List Int} {i : Nat} (h : VI v ks i) (h1 : i < ks.length) (h2 : v = ks.getD ((i : Int)).toNat 0) : ixf v ks 0 = (i : Int) := by rw [h.at h1, if_pos h2]
theorem VI.no {v : Int} {ks : List Int} {i : Nat} (h : VI v ks i) (h1 : i < ks.length) (h2 : v ≠ ks.getD ((i : Int)).toNat 0) : VI v ks (i + 1) := ⟨h1, by rw [h.at h1, if_neg h2]; rfl⟩
theorem VI.out {v : Int} {ks : List Int} {i : Nat} (h : VI v ks i) (h1 : ¬ i < ks.length) : ixf v ks 0 = -1 := by rw [h.eq, List.drop_eq_nil_of_le (by omega), ixf]
def apT (ks : List Int) (t : List UInt8) (k : Int) : List UInt8 := if ixf k ks 0 ≥ 0 then ([40] ++ t) ++ [41] else t
theorem ix45_ (v : Int)  : Fn Tryz.prog 214 [.sl 0 2 2, .int .i64 v] [some (.blk [.int .i64 4, .int .i64 5])] (Rt (.int .i64 (ixf v [4, 5] 0)) [some (.blk [.int .i64 4, .int .i64 5])]) :=
 enterM (n := 19) (by kernel_rfl) Tryz.func214 rfl rfl rfl fun G w a h0 A => N hX 14 A rfl rfl fun A => LOOP1 (fun (i : Nat) => [(0, .sl 0 2 2), (1, .int .i64 v), (4, .int .i64 0), (7, .int .i64 ((2 : Nat) : Int)), (8, .int .i64 (i : Int))]) (fun (i : Nat) => [some (.blk [.int .i64 4, .int .i64 5])]) (fun (i : Nat) => VI v [4, 5] i) (fun (i : Nat) => 2 - i) 0 ⟨Nat.zero_le _, rfl⟩ ((A.cut [0, 1, 4, 7, 8] rfl).trunc 1 rfl rfl rfl (by simp only [List.length_cons, List.length_nil] at h0; omega)) fun i hI {G a w} A => N hX 6 A rfl rfl fun A => forkD 9 A rfl
   (fun h1 A => N hX 21 A rfl (ok_d (by omega) <| ok_d (by omega) <| okE_nil) fun A => forkE 16 A rfl
    (fun h2 A => N hX 8 A rfl rfl fun A => RETN hX A rfl rfl rfl h0 rfl rfl rfl rfl (by rw [hI.yes (by show i < 2; omega) h2]; rfl) rfl)
    (fun h2 A => N hX 8 A rfl (ok_d (by omega) <| okE_nil) fun A => ⟨i + 1, _, (by omega), (hI.no (by show i < 2; omega) h2), ((A.cut [0, 1, 4, 7, 8] rfl).trunc 1 rfl rfl rfl (by simp only [List.length_cons, List.length_nil] at h0; omega))⟩))
   (fun h1 A => N hX 9 A rfl rfl fun A => RETN hX A rfl rfl rfl h0 rfl rfl rfl rfl (by rw [hI.out (by show ¬ i < 2; omega)]; rfl) rfl)
theorem con45_ (v : Int)  : Fn Tryz.prog 178 [.sl 0 2 2, .int .i64 v] [some (.blk [.int .i64 4, .int .i64 5])] (Rt (.bool (decide (ixf v [4, 5] 0 ≥ 0))) [some (.blk [.int .i64 4, .int .i64 5])]) :=
 enterM (n := 9) (by kernel_rfl) Tryz.func178 rfl rfl rfl fun G w a h0 A => N hX 9 A rfl rfl fun A => CALL1 [0] (ix45_ v) A rfl rfl rfl rfl rfl rfl rfl fun A => N hX 5 A rfl rfl fun A => RETN hX A rfl rfl rfl h0 rfl rfl rfl rfl rfl rfl
theorem ap45_ (t : List UInt8) (k : Int) (ht : t.length ≤ 2000000) : Fn Tryz.prog 125 [.agg [.str t, .int .i64 k], .sl 0 2 2] [some (.blk [.int .i64 4, .int .i64 5])] (Rt (.str (apT [4, 5] t k)) [some (.blk [.int .i64 4, .int .i64 5])]) :=
 enterM (n := 15) (by kernel_rfl) Tryz.func125 rfl rfl rfl fun G w a h0 A => N hX 12 A rfl rfl fun A => CALL1 [0] (con45_ k) A rfl rfl rfl rfl rfl rfl rfl fun A => N hX 2 A rfl rfl fun A => forkD 8 A rfl
  (fun h1 A => N hX 11 A rfl (ok_d (by simp only [List.length_append, List.length_cons, List.length_nil]; omega) <| ok_d (by simp only [List.length_append, List.length_cons, List.length_nil]; omega) <| okE_nil) fun A => RETN hX A rfl rfl rfl h0 rfl rfl rfl rfl (by unfold apT; rw [if_pos h1]; rfl) rfl)
  (fun h1 A => N hX 11 A rfl rfl fun A => RETN hX A rfl rfl rfl h0 rfl rfl rfl rfl (by unfold apT; rw [if_neg h1]; rfl) rfl)
theorem ix5_ (v : Int)  : Fn Tryz.prog 214 [.sl 0 1 1, .int .i64 v] [some (.blk [.int .i64 5])] (Rt (.int .i64 (ixf v [5] 0)) [some (.blk [.int .i64 5])]) :=
 enterM (n := 19) (by kernel_rfl) Tryz.func214 rfl rfl rfl fun G w a h0 A => N hX 14 A rfl rfl fun A => LOOP1 (fun (i : Nat) => [(0, .sl 0 1 1), (1, .int .i64 v), (4, .int .i64 0), (7, .int .i64 ((1 : Nat) : Int)), (8, .int .i64 (i : Int))]) (fun (i : Nat) => [some (.blk [.int .i64 5])]) (fun (i : Nat) => VI v [5] i) (fun (i : Nat) => 1 - i) 0 ⟨Nat.zero_le _, rfl⟩ ((A.cut [0, 1, 4, 7, 8] rfl).trunc 1 rfl rfl rfl (by simp only [List.length_cons, List.length_nil] at h0; omega)) fun i hI {G a w} A => N hX 6 A rfl rfl fun A => forkD 9 A rfl
   (fun h1 A => N hX 21 A rfl (ok_d (by omega) <| ok_d (by omega) <| okE_nil) fun A => forkE 16 A rfl
    (fun h2 A => N hX 8 A rfl rfl fun A => RETN hX A rfl rfl rfl h0 rfl rfl rfl rfl (by rw [hI.yes (by show i < 1; omega) h2]; rfl) rfl)
    (fun h2 A => N hX 8 A rfl (ok_d (by omega) <| okE_nil) fun A => ⟨i + 1, _, (by omega), (hI.no (by show i < 1; omega) h2), ((A.cut [0, 1, 4, 7, 8] rfl).trunc 1 rfl rfl rfl (by simp only [List.length_cons, List.length_nil] at h0; omega))⟩))
   (fun h1 A => N hX 9 A rfl rfl fun A => RETN hX A rfl rfl rfl h0 rfl rfl rfl rfl (by rw [hI.out (by show ¬ i < 1; omega)]; rfl) rfl)
theorem con5_ (v : Int)  : Fn Tryz.prog 178 [.sl 0 1 1, .int .i64 v] [some (.blk [.int .i64 5])] (Rt (.bool (decide (ixf v [5] 0 ≥ 0))) [some (.blk [.int .i64 5])]) :=
 enterM (n := 9) (by kernel_rfl) Tryz.func178 rfl rfl rfl fun G w a h0 A => N hX 9 A rfl rfl fun A => CALL1 [0] (ix5_ v) A rfl rfl rfl rfl rfl rfl rfl fun A => N hX 5 A rfl rfl fun A => RETN hX A rfl rfl rfl h0 rfl rfl rfl rfl rfl rfl
theorem ap5_ (t : List UInt8) (k : Int) (ht : t.length ≤ 2000000) : Fn Tryz.prog 125 [.agg [.str t, .int .i64 k], .sl 0 1 1] [some (.blk [.int .i64 5])] (Rt (.str (apT [5] t k)) [some (.blk [.int .i64 5])]) :=
 enterM (n := 15) (by kernel_rfl) Tryz.func125 rfl rfl rfl fun G w a h0 A => N hX 12 A rfl rfl fun A => CALL1 [0] (con5_ k) A rfl rfl rfl rfl rfl rfl rfl fun A => N hX 2 A rfl rfl fun A => forkD 8 A rfl
  (fun h1 A => N hX 11 A rfl (ok_d (by simp only [List.length_append, List.length_cons, List.length_nil]; omega) <| ok_d (by simp only [List.length_append, List.length_cons, List.length_nil]; omega) <| okE_nil) fun A => RETN hX A rfl rfl rfl h0 rfl rfl rfl rfl (by unfold apT; rw [if_pos h1]; rfl) rfl)
  (fun h1 A => N hX 11 A rfl rfl fun A => RETN hX A rfl rfl rfl h0 rfl rfl rfl rfl (by unfold apT; rw [if_neg h1]; rfl) rfl)
theorem locs_   : Fn Tryz.prog 124 [] [] (Rt (.sl 0 3 3) [some (.blk [.str [120], .str [121], .str [122]])]) :=
 enterM (n := 2) (by kernel_rfl) Tryz.func124 rfl rfl rfl fun G w a h0 A => N hX 12 A rfl rfl fun A => RET hX [0] A ⟨rfl, rfl⟩ rfl rfl rfl rfl rfl rfl rfl rfl h0
theorem fn_itoa (b : Nat) (o : Obj) (hT : ∀ w : World, w.heap[b]? = some o → Lib.TabIs Tryz.prog w "internal/strconv.uint64pow10" .u64 Lib.pow10Tab) (v : Int) (h0 : -9223372036854775808 ≤ v) (h1 : v ≤ 9223372036854775807) : Fn Tryz.prog 123 [.int .i64 v] [some (.fac b o)] (Rt (.str (Lib.itoa v)) [some (.fac b o)]) := by
  refine ⟨by kernel_rfl, fun G w vs hM hv => ?_⟩
  cases hv
  obtain ⟨L, e1, e2, e3⟩ := hM.ent 0 _ rfl
  refine (itoa_any v h0 h1 w (hT w e3)).mono ?_
  rintro e w' ⟨rfl, hg⟩
  have hl : G.length = 1 := hM.len.symm
  refine ⟨_, _, [], _, ⟨rfl, rfl⟩, rfl, rfl, ?_, (Mix.refl _ w).grow hg, ?_, fun i e he _ => he, fun i e he hm => ?_⟩
  · rw [List.append_nil]
    refine ⟨hM.len, fun i e he => (hM.ent i e he).mix hg.mix (fun _ _ _ => rfl), hM.sep⟩
  · rw [hl]; exact Nat.le_refl _
  · cases i with
    | zero => cases he; cases hm
    | succ i => cases he
end Go.Proofs.YtedlaclfhgneeabGreatDoor.Cd
namespace Go.Proofs.YtedlaclfhgneeabGreatDoor.Cd
open Go.RowKit
set_option linter.unusedVariables false
set_option linter.unusedSimpArgs false
set_option maxRecDepth 100000
set_option maxHeartbeats 2000000
set_option simprocs false
abbrev Pc := List UInt8 × Int
def pz : Pc := ([], 0)
theorem ap_len (ks : List Int) (t : List UInt8) (k : Int) : (apT ks t k).length ≤ t.length + 2 := by
  unfold apT; split
  · simp only [List.length_append, List.length_cons, List.length_nil]; omega
  · omega
theorem wr_f {R : List (List UInt8)} {l : List Pc} {j : Nat} {rg vl : Int} (ql : ∀ q, (l.getD q pz).1.length ≤ 1000000) (qR : ∀ q, (R.getD q []).length ≤ 100) (qv : -9223372036854775808 ≤ vl ∧ vl ≤ 9223372036854775807) : (l.getD ((((j : Nat) : Int) + 0).toNat) pz).1.length ≤ 1000000 ∧ (l.getD ((((j : Nat) : Int) + 1).toNat) pz).1.length ≤ 1000000 ∧ (R.getD (rg).toNat []).length ≤ 100 ∧ (Lib.itoa vl).length ≤ 21 ∧ (apT [4, 5] (l.getD ((((j : Nat) : Int) + 0).toNat) pz).1 (l.getD ((((j : Nat) : Int) + 0).toNat) pz).2).length ≤ 1000002 ∧ (apT [5] (l.getD ((((j : Nat) : Int) + 0).toNat) pz).1 (l.getD ((((j : Nat) : Int) + 0).toNat) pz).2).length ≤ 1000002 ∧ (apT [4, 5] (l.getD ((((j : Nat) : Int) + 1).toNat) pz).1 (l.getD ((((j : Nat) : Int) + 1).toNat) pz).2).length ≤ 1000002 ∧ (apT [5] (l.getD ((((j : Nat) : Int) + 1).toNat) pz).1 (l.getD ((((j : Nat) : Int) + 1).toNat) pz).2).length ≤ 1000002 := by
  have h0 := ql ((((j : Nat) : Int) + 0).toNat); have h1 := ql ((((j : Nat) : Int) + 1).toNat)
  exact ⟨h0, h1, qR _, Lib.itoa_length_le vl qv.1 qv.2, Nat.le_trans (ap_len _ _ _) (by omega), Nat.le_trans (ap_len _ _ _) (by omega), Nat.le_trans (ap_len _ _ _) (by omega), Nat.le_trans (ap_len _ _ _) (by omega)⟩
theorem wr_l (lc : Int) (h : 0 ≤ lc ∧ lc < 3) : ([[120], [121], [122]].getD (lc).toNat ([] : List UInt8)).length ≤ 1 := by
  have : (lc).toNat = 0 ∨ (lc).toNat = 1 ∨ (lc).toNat = 2 := by omega
  rcases this with e | e | e <;> rw [e] <;> decide
def wr0 (R : List (List UInt8)) (kd : Int) (th : Int) (rg : Int) (lc : Int) (vl : Int) (l : List Pc) (j : Nat) (k : Nat) : List UInt8 := if kd = 1 then ((((Lib.itoa th) ++ [58]) ++ (R.getD ((rg).toNat) [])) ++ [61]) ++ (Lib.itoa vl) else if kd = 2 then (([[120], [121], [122]].getD (lc).toNat []) ++ [61]) ++ (Lib.itoa vl) else if kd = 3 then [126] ++ (apT [4, 5] ((l.getD ((((j : Nat) : Int) + 0).toNat) pz).1) ((l.getD ((((j : Nat) : Int) + 0).toNat) pz).2)) else if kd = 4 then ((((apT [5] ((l.getD ((((j : Nat) : Int) + 0).toNat) pz).1) ((l.getD ((((j : Nat) : Int) + 0).toNat) pz).2)) ++ [32]) ++ [47, 92]) ++ [32]) ++ (apT [4, 5] ((l.getD ((((j : Nat) : Int) + 1).toNat) pz).1) ((l.getD ((((j : Nat) : Int) + 1).toNat) pz).2)) else (((((l.getD ((((j : Nat) : Int) + 0).toNat) pz).1) ++ [32]) ++ [92, 47]) ++ [32]) ++ (apT [5] ((l.getD ((((j : Nat) : Int) + 1).toNat) pz).1) ((l.getD ((((j : Nat) : Int) + 1).toNat) pz).2))
theorem wr_ (R : List (List UInt8)) (kd : Int) (th : Int) (rg : Int) (lc : Int) (vl : Int) (l : List Pc) (j : Nat) (k : Nat) (b : Nat) (o : Obj) (hT : ∀ w : World, w.heap[b]? = some o → Lib.TabIs Tryz.prog w "internal/strconv.uint64pow10" .u64 Lib.pow10Tab) (hk : j + k ≤ l.length) (q1 : kd = 1 → 0 ≤ th ∧ th < 3 ∧ 0 ≤ rg ∧ rg < 8) (q2 : kd = 2 → 0 ≤ lc ∧ lc < 3) (q3 : kd = 3 → 1 ≤ k) (q4 : kd ≠ 1 → kd ≠ 2 → kd ≠ 3 → 2 ≤ k) (qv : -9223372036854775808 ≤ vl ∧ vl ≤ 9223372036854775807) (ql : ∀ q, (l.getD q pz).1.length ≤ 1000000) (qR : ∀ q, (R.getD q []).length ≤ 100) (hR : 8 ≤ R.length) : Fn Tryz.prog 54 [.sl 0 R.length 8, .agg [.int .i64 kd, .int .i64 th, .int .i64 rg, .int .i64 lc, .int .i64 vl], .st 1 2 j k 0] [some (.row 9 1 R.length 8 (fun zz => [.str (R.getD zz [])])), some (.row 114 2 l.length 0 (fun zz => [.str (l.getD zz pz).1, .int .i64 (l.getD zz pz).2])), some (.fac b o)] (Rt (.str (wr0 R kd th rg lc vl l j k)) [some (.row 9 1 R.length 8 (fun zz => [.str (R.getD zz [])])), some (.row 114 2 l.length 0 (fun zz => [.str (l.getD zz pz).1, .int .i64 (l.getD zz pz).2])), some (.fac b o)]) :=
 enterM (n := 75) (by kernel_rfl) Tryz.func54 rfl rfl rfl fun G w a h0 A => N hX 20 A rfl rfl fun A => forkE 9 A rfl
  (fun h1 A => N hX 2 A rfl rfl fun A => DRAWN hX hmo [] [(2, .str (Lib.itoa th), [some (.row 9 1 R.length 8 (fun zz => [.str (R.getD zz [])])), some (.row 114 2 l.length 0 (fun zz => [.str (l.getD zz pz).1, .int .i64 (l.getD zz pz).2])), some (.fac b o), some (.blk [.int .i64 kd, .int .i64 th, .int .i64 rg, .int .i64 lc, .int .i64 vl])]), (13, .str (Lib.itoa vl), [some (.row 9 1 R.length 8 (fun zz => [.str (R.getD zz [])])), some (.row 114 2 l.length 0 (fun zz => [.str (l.getD zz pz).1, .int .i64 (l.getD zz pz).2])), some (.fac b o), some (.blk [.int .i64 kd, .int .i64 th, .int .i64 rg, .int .i64 lc, .int .i64 vl])])] A rfl (ok_d (by have hz := wr_f (j := j) (rg := rg) ql qR qv; have := Lib.itoa_length_le th (by omega) (by omega); (try simp only [List.length_append, List.length_cons, List.length_nil]); omega) <| ok_d (by have hz := wr_f (j := j) (rg := rg) ql qR qv; have := Lib.itoa_length_le th (by omega) (by omega); (try simp only [List.length_append, List.length_cons, List.length_nil]); omega) <| ok_d (by have hz := wr_f (j := j) (rg := rg) ql qR qv; have := Lib.itoa_length_le th (by omega) (by omega); (try simp only [List.length_append, List.length_cons, List.length_nil]); omega) <| ok_d (by have hz := wr_f (j := j) (rg := rg) ql qR qv; have := Lib.itoa_length_le th (by omega) (by omega); (try simp only [List.length_append, List.length_cons, List.length_nil]); omega) <| ok_d (by have hz := wr_f (j := j) (rg := rg) ql qR qv; have := Lib.itoa_length_le th (by omega) (by omega); (try simp only [List.length_append, List.length_cons, List.length_nil]); omega) <| ok_d (by have hz := wr_f (j := j) (rg := rg) ql qR qv; have := Lib.itoa_length_le th (by omega) (by omega); (try simp only [List.length_append, List.length_cons, List.length_nil]); omega) <| ok_d (by have hz := wr_f (j := j) (rg := rg) ql qR qv; have := Lib.itoa_length_le th (by omega) (by omega); (try simp only [List.length_append, List.length_cons, List.length_nil]); omega) <| ok_d (by have hz := wr_f (j := j) (rg := rg) ql qR qv; have := Lib.itoa_length_le th (by omega) (by omega); (try simp only [List.length_append, List.length_cons, List.length_nil]); omega) <| ok_d (by have hz := wr_f (j := j) (rg := rg) ql qR qv; have := Lib.itoa_length_le th (by omega) (by omega); (try simp only [List.length_append, List.length_cons, List.length_nil]); omega) <| ok_d (by have hz := wr_f (j := j) (rg := rg) ql qR qv; have := Lib.itoa_length_le th (by omega) (by omega); (try simp only [List.length_append, List.length_cons, List.length_nil]); omega) <| ok_d (by have hz := wr_f (j := j) (rg := rg) ql qR qv; have := Lib.itoa_length_le th (by omega) (by omega); (try simp only [List.length_append, List.length_cons, List.length_nil]); omega) <| ok_d (by have hz := wr_f (j := j) (rg := rg) ql qR qv; have := Lib.itoa_length_le th (by omega) (by omega); (try simp only [List.length_append, List.length_cons, List.length_nil]); omega) <| ok_d (by have hz := wr_f (j := j) (rg := rg) ql qR qv; have := Lib.itoa_length_le th (by omega) (by omega); (try simp only [List.length_append, List.length_cons, List.length_nil]); omega) <| okE_nil) rfl rfl (by kernel_rfl) ⟨callE [2] (fn_itoa b o hT th (by omega) (by omega)) rfl rfl rfl rfl rfl rfl rfl, ⟨callE [2] (fn_itoa b o hT vl (by omega) (by omega)) rfl rfl rfl rfl rfl rfl rfl, trivial⟩⟩ trivial fun A => N hX 2 A rfl rfl fun A => RETN hX A rfl rfl rfl h0 rfl rfl rfl rfl (by simp only [oneS, nb, nbL, nbH, wr0, if_pos h1]) rfl)
  (fun h1 A => N hX 7 A rfl rfl fun A => forkE 26 A rfl
   (fun h2 A => N hX 2 A rfl rfl fun A => DRAWN hX hmo [] [(0, .sl 4 3 3, [some (.row 9 1 R.length 8 (fun zz => [.str (R.getD zz [])])), some (.row 114 2 l.length 0 (fun zz => [.str (l.getD zz pz).1, .int .i64 (l.getD zz pz).2])), some (.fac b o), some (.blk [.int .i64 kd, .int .i64 th, .int .i64 rg, .int .i64 lc, .int .i64 vl]), some (.blk [.str [120], .str [121], .str [122]])]), (8, .str (Lib.itoa vl), [some (.row 9 1 R.length 8 (fun zz => [.str (R.getD zz [])])), some (.row 114 2 l.length 0 (fun zz => [.str (l.getD zz pz).1, .int .i64 (l.getD zz pz).2])), some (.fac b o), some (.blk [.int .i64 kd, .int .i64 th, .int .i64 rg, .int .i64 lc, .int .i64 vl]), some (.blk [.str [120], .str [121], .str [122]])])] A rfl (ok_d (by omega) <| ok_d (by omega) <| ok_d (by omega) <| ok_d (by omega) <| ok_d (by have hz := wr_f (j := j) (rg := rg) ql qR qv; have hx := wr_l lc (by omega); (try simp only [List.length_append, List.length_cons, List.length_nil]); omega) <| ok_d (by have hz := wr_f (j := j) (rg := rg) ql qR qv; have hx := wr_l lc (by omega); (try simp only [List.length_append, List.length_cons, List.length_nil]); omega) <| ok_d (by have hz := wr_f (j := j) (rg := rg) ql qR qv; have hx := wr_l lc (by omega); (try simp only [List.length_append, List.length_cons, List.length_nil]); omega) <| okE_nil) rfl rfl (by kernel_rfl) ⟨callE [] locs_ rfl rfl rfl rfl rfl rfl rfl, ⟨callE [2] (fn_itoa b o hT vl (by omega) (by omega)) rfl rfl rfl rfl rfl rfl rfl, trivial⟩⟩ trivial fun A => N hX 2 A rfl rfl fun A => RETN hX A rfl rfl rfl h0 rfl rfl rfl rfl (by simp only [oneS, nb, nbL, nbH, wr0, if_neg (h1), if_pos h2]) rfl)
   (fun h2 A => N hX 7 A rfl rfl fun A => forkE 38 A rfl
    (fun h3 A => N hX 7 A rfl (ok_d (by have hz := wr_f (j := j) (rg := rg) ql qR qv; (try simp only [List.length_append, List.length_cons, List.length_nil]); omega) <| ok_d (by have hz := wr_f (j := j) (rg := rg) ql qR qv; (try simp only [List.length_append, List.length_cons, List.length_nil]); omega) <| okE_nil) fun A => CALL1 [4] (ap45_ ((l.getD ((((j : Nat) : Int) + 0).toNat) pz).1) ((l.getD ((((j : Nat) : Int) + 0).toNat) pz).2) (by have hz := wr_f (j := j) (rg := rg) ql qR qv; (try simp only [List.length_append, List.length_cons, List.length_nil]); omega)) A rfl rfl rfl rfl rfl rfl rfl fun A => N hX 5 A rfl (ok_d (by have hz := wr_f (j := j) (rg := rg) ql qR qv; (try simp only [List.length_append, List.length_cons, List.length_nil]); omega) <| okE_nil) fun A => RETN hX A rfl rfl rfl h0 rfl rfl rfl rfl (by simp only [oneS, nb, nbL, nbH, wr0, if_neg (h1), if_neg (h2), if_pos h3]) rfl)
    (fun h3 A => N hX 7 A rfl rfl fun A => forkE 46 A rfl
     (fun h4 A => N hX 2 A rfl rfl fun A => ANY hmo [.st 1 2 j k 0, .el 1 2 (((j : Nat) : Int) + 0) 0, .agg [.str ((l.getD ((((j : Nat) : Int) + 0).toNat) pz).1), .int .i64 ((l.getD ((((j : Nat) : Int) + 0).toNat) pz).2)], .sl 4 1 1, .str (apT [5] ((l.getD ((((j : Nat) : Int) + 0).toNat) pz).1) ((l.getD ((((j : Nat) : Int) + 0).toNat) pz).2)), .str ((apT [5] ((l.getD ((((j : Nat) : Int) + 0).toNat) pz).1) ((l.getD ((((j : Nat) : Int) + 0).toNat) pz).2)) ++ [32]), .str (((apT [5] ((l.getD ((((j : Nat) : Int) + 0).toNat) pz).1) ((l.getD ((((j : Nat) : Int) + 0).toNat) pz).2)) ++ [32]) ++ [47, 92]), .str ((((apT [5] ((l.getD ((((j : Nat) : Int) + 0).toNat) pz).1) ((l.getD ((((j : Nat) : Int) + 0).toNat) pz).2)) ++ [32]) ++ [47, 92]) ++ [32]), .st 1 2 j k 0, .el 1 2 (((j : Nat) : Int) + 1) 0, .agg [.str ((l.getD ((((j : Nat) : Int) + 1).toNat) pz).1), .int .i64 ((l.getD ((((j : Nat) : Int) + 1).toNat) pz).2)], .sl 5 2 2, .str (apT [4, 5] ((l.getD ((((j : Nat) : Int) + 1).toNat) pz).1) ((l.getD ((((j : Nat) : Int) + 1).toNat) pz).2)), .str (((((apT [5] ((l.getD ((((j : Nat) : Int) + 0).toNat) pz).1) ((l.getD ((((j : Nat) : Int) + 0).toNat) pz).2)) ++ [32]) ++ [47, 92]) ++ [32]) ++ (apT [4, 5] ((l.getD ((((j : Nat) : Int) + 1).toNat) pz).1) ((l.getD ((((j : Nat) : Int) + 1).toNat) pz).2))), .str (((((apT [5] ((l.getD ((((j : Nat) : Int) + 0).toNat) pz).1) ((l.getD ((((j : Nat) : Int) + 0).toNat) pz).2)) ++ [32]) ++ [47, 92]) ++ [32]) ++ (apT [4, 5] ((l.getD ((((j : Nat) : Int) + 1).toNat) pz).1) ((l.getD ((((j : Nat) : Int) + 1).toNat) pz).2)))] [3, 4, 11, 12] [4, 5] 2 [([], [4, 5], [some (.row 9 1 R.length 8 (fun zz => [.str (R.getD zz [])])), some (.row 114 2 l.length 0 (fun zz => [.str (l.getD zz pz).1, .int .i64 (l.getD zz pz).2])), some (.fac b o), some (.blk [.int .i64 kd, .int .i64 th, .int .i64 rg, .int .i64 lc, .int .i64 vl]), none, none]), ([3], [5], [some (.row 9 1 R.length 8 (fun zz => [.str (R.getD zz [])])), some (.row 114 2 l.length 0 (fun zz => [.str (l.getD zz pz).1, .int .i64 (l.getD zz pz).2])), some (.fac b o), some (.blk [.int .i64 kd, .int .i64 th, .int .i64 rg, .int .i64 lc, .int .i64 vl]), some (.blk [.int .i64 5]), none]), ([11], [4], [some (.row 9 1 R.length 8 (fun zz => [.str (R.getD zz [])])), some (.row 114 2 l.length 0 (fun zz => [.str (l.getD zz pz).1, .int .i64 (l.getD zz pz).2])), some (.fac b o), some (.blk [.int .i64 kd, .int .i64 th, .int .i64 rg, .int .i64 lc, .int .i64 vl]), none, some (.blk [.int .i64 4, .int .i64 5])]), ([3, 4], [5], [some (.row 9 1 R.length 8 (fun zz => [.str (R.getD zz [])])), some (.row 114 2 l.length 0 (fun zz => [.str (l.getD zz pz).1, .int .i64 (l.getD zz pz).2])), some (.fac b o), some (.blk [.int .i64 kd, .int .i64 th, .int .i64 rg, .int .i64 lc, .int .i64 vl]), some (.blk [.int .i64 5]), none]), ([3, 11], [], [some (.row 9 1 R.length 8 (fun zz => [.str (R.getD zz [])])), some (.row 114 2 l.length 0 (fun zz => [.str (l.getD zz pz).1, .int .i64 (l.getD zz pz).2])), some (.fac b o), some (.blk [.int .i64 kd, .int .i64 th, .int .i64 rg, .int .i64 lc, .int .i64 vl]), some (.blk [.int .i64 5]), some (.blk [.int .i64 4, .int .i64 5])]), ([3, 4, 11], [], [some (.row 9 1 R.length 8 (fun zz => [.str (R.getD zz [])])), some (.row 114 2 l.length 0 (fun zz => [.str (l.getD zz pz).1, .int .i64 (l.getD zz pz).2])), some (.fac b o), some (.blk [.int .i64 kd, .int .i64 th, .int .i64 rg, .int .i64 lc, .int .i64 vl]), some (.blk [.int .i64 5]), some (.blk [.int .i64 4, .int .i64 5])]), ([3, 4, 11, 12], [], [some (.row 9 1 R.length 8 (fun zz => [.str (R.getD zz [])])), some (.row 114 2 l.length 0 (fun zz => [.str (l.getD zz pz).1, .int .i64 (l.getD zz pz).2])), some (.fac b o), some (.blk [.int .i64 kd, .int .i64 th, .int .i64 rg, .int .i64 lc, .int .i64 vl]), some (.blk [.int .i64 5]), some (.blk [.int .i64 4, .int .i64 5])])] [[true, true, true, true, false, false, false, false, true, true, true, true, false, false, false], [true, true, true, false, true, false, false, false, true, true, true, true, false, false, false], [true, true, true, true, false, false, false, false, true, true, true, false, false, false, false], [true, true, false, false, false, true, true, true, true, true, true, true, false, false, false], [true, true, true, false, true, false, false, false, true, true, true, false, false, false, false], [true, true, false, false, false, true, true, true, true, true, true, false, true, false, false], [true, true, false, false, false, true, true, true, true, true, false, false, false, true, true]] A rfl rfl rfl rfl (by kernel_rfl) rfl (by kernel_rfl) ⟨⟨⟨_, _, _, _, 0, rfl, rfl, rfl, rfl, eff_at (eff_auto (X := ⟨_, true⟩) (out := .val _ _) hX rfl rfl) rfl⟩, ⟨⟨_, _, _, _, 0, rfl, rfl, rfl, rfl, eff_at (eff_auto (X := ⟨_, true⟩) (out := .val _ _) hX rfl (ok_d (by have hz := wr_f (j := j) (rg := rg) ql qR qv; (try simp only [List.length_append, List.length_cons, List.length_nil]); omega) <| okE_nil)) rfl⟩, ⟨⟨_, _, _, _, 0, rfl, rfl, rfl, rfl, eff_at (eff_auto (X := ⟨_, true⟩) (out := .val _ _) hX rfl (ok_d (by have hz := wr_f (j := j) (rg := rg) ql qR qv; (try simp only [List.length_append, List.length_cons, List.length_nil]); omega) <| okE_nil)) rfl⟩, ⟨⟨_, _, _, _, 1, rfl, rfl, rfl, rfl, new_at 4 (X := ⟨_, true⟩) hX rfl rfl (le0 h0 rfl) rfl rfl rfl rfl⟩, ⟨⟨_, _, _, _, 0, rfl, rfl, rfl, rfl, eff_at (eff_auto (X := ⟨_, true⟩) (out := .val _ _) hX rfl rfl) rfl⟩, ⟨⟨_, _, _, _, 0, rfl, rfl, rfl, rfl, eff_at (eff_auto (X := ⟨_, true⟩) (out := .val _ _) hX rfl (ok_d (by have hz := wr_f (j := j) (rg := rg) ql qR qv; (try simp only [List.length_append, List.length_cons, List.length_nil]); omega) <| okE_nil)) rfl⟩, ⟨⟨_, _, _, _, 0, rfl, rfl, rfl, rfl, eff_at (eff_auto (X := ⟨_, true⟩) (out := .val _ _) hX rfl (ok_d (by have hz := wr_f (j := j) (rg := rg) ql qR qv; (try simp only [List.length_append, List.length_cons, List.length_nil]); omega) <| okE_nil)) rfl⟩, ⟨⟨_, _, _, _, 2, rfl, rfl, rfl, rfl, new_at 5 (X := ⟨_, true⟩) hX rfl rfl (le0 h0 rfl) rfl rfl rfl rfl⟩, trivial⟩⟩⟩⟩⟩⟩⟩⟩, ⟨⟨⟨_, _, _, _, 1, rfl, rfl, rfl, rfl, eff_at (eff_auto (X := ⟨_, true⟩) (out := .val _ _) hX rfl rfl) rfl⟩, ⟨⟨_, _, _, _, 1, rfl, rfl, rfl, rfl, eff_at (eff_auto (X := ⟨_, true⟩) (out := .val _ _) hX rfl (ok_d (by have hz := wr_f (j := j) (rg := rg) ql qR qv; (try simp only [List.length_append, List.length_cons, List.length_nil]); omega) <| okE_nil)) rfl⟩, ⟨⟨_, _, _, _, 1, rfl, rfl, rfl, rfl, eff_at (eff_auto (X := ⟨_, true⟩) (out := .val _ _) hX rfl (ok_d (by have hz := wr_f (j := j) (rg := rg) ql qR qv; (try simp only [List.length_append, List.length_cons, List.length_nil]); omega) <| okE_nil)) rfl⟩, ⟨⟨_, _, _, _, 3, rfl, rfl, rfl, rfl, eff_at (callE [4] (ap5_ ((l.getD ((((j : Nat) : Int) + 0).toNat) pz).1) ((l.getD ((((j : Nat) : Int) + 0).toNat) pz).2) (by have hz := wr_f (j := j) (rg := rg) ql qR qv; (try simp only [List.length_append, List.length_cons, List.length_nil]); omega)) rfl rfl rfl rfl rfl rfl rfl) rfl⟩, ⟨⟨_, _, _, _, 1, rfl, rfl, rfl, rfl, eff_at (eff_auto (X := ⟨_, true⟩) (out := .val _ _) hX rfl rfl) rfl⟩, ⟨⟨_, _, _, _, 1, rfl, rfl, rfl, rfl, eff_at (eff_auto (X := ⟨_, true⟩) (out := .val _ _) hX rfl (ok_d (by have hz := wr_f (j := j) (rg := rg) ql qR qv; (try simp only [List.length_append, List.length_cons, List.length_nil]); omega) <| okE_nil)) rfl⟩, ⟨⟨_, _, _, _, 1, rfl, rfl, rfl, rfl, eff_at (eff_auto (X := ⟨_, true⟩) (out := .val _ _) hX rfl (ok_d (by have hz := wr_f (j := j) (rg := rg) ql qR qv; (try simp only [List.length_append, List.length_cons, List.length_nil]); omega) <| okE_nil)) rfl⟩, ⟨⟨_, _, _, _, 4, rfl, rfl, rfl, rfl, new_at 5 (X := ⟨_, true⟩) hX rfl rfl (le0 h0 rfl) rfl rfl rfl rfl⟩, trivial⟩⟩⟩⟩⟩⟩⟩⟩, ⟨⟨⟨_, _, _, _, 2, rfl, rfl, rfl, rfl, eff_at (eff_auto (X := ⟨_, true⟩) (out := .val _ _) hX rfl rfl) rfl⟩, ⟨⟨_, _, _, _, 2, rfl, rfl, rfl, rfl, eff_at (eff_auto (X := ⟨_, true⟩) (out := .val _ _) hX rfl (ok_d (by have hz := wr_f (j := j) (rg := rg) ql qR qv; (try simp only [List.length_append, List.length_cons, List.length_nil]); omega) <| okE_nil)) rfl⟩, ⟨⟨_, _, _, _, 2, rfl, rfl, rfl, rfl, eff_at (eff_auto (X := ⟨_, true⟩) (out := .val _ _) hX rfl (ok_d (by have hz := wr_f (j := j) (rg := rg) ql qR qv; (try simp only [List.length_append, List.length_cons, List.length_nil]); omega) <| okE_nil)) rfl⟩, ⟨⟨_, _, _, _, 4, rfl, rfl, rfl, rfl, new_at 4 (X := ⟨_, true⟩) hX rfl rfl (le0 h0 rfl) rfl rfl rfl rfl⟩, ⟨⟨_, _, _, _, 2, rfl, rfl, rfl, rfl, eff_at (eff_auto (X := ⟨_, true⟩) (out := .val _ _) hX rfl rfl) rfl⟩, ⟨⟨_, _, _, _, 2, rfl, rfl, rfl, rfl, eff_at (eff_auto (X := ⟨_, true⟩) (out := .val _ _) hX rfl (ok_d (by have hz := wr_f (j := j) (rg := rg) ql qR qv; (try simp only [List.length_append, List.length_cons, List.length_nil]); omega) <| okE_nil)) rfl⟩, ⟨⟨_, _, _, _, 2, rfl, rfl, rfl, rfl, eff_at (eff_auto (X := ⟨_, true⟩) (out := .val _ _) hX rfl (ok_d (by have hz := wr_f (j := j) (rg := rg) ql qR qv; (try simp only [List.length_append, List.length_cons, List.length_nil]); omega) <| okE_nil)) rfl⟩, trivial⟩⟩⟩⟩⟩⟩⟩, ⟨⟨⟨_, _, _, _, 3, rfl, rfl, rfl, rfl, eff_at (eff_auto (X := ⟨_, true⟩) (out := .val _ _) hX rfl rfl) rfl⟩, ⟨⟨_, _, _, _, 3, rfl, rfl, rfl, rfl, eff_at (eff_auto (X := ⟨_, true⟩) (out := .val _ _) hX rfl (ok_d (by have hz := wr_f (j := j) (rg := rg) ql qR qv; (try simp only [List.length_append, List.length_cons, List.length_nil]); omega) <| okE_nil)) rfl⟩, ⟨⟨_, _, _, _, 3, rfl, rfl, rfl, rfl, eff_at (eff_auto (X := ⟨_, true⟩) (out := .val _ _) hX rfl (ok_d (by have hz := wr_f (j := j) (rg := rg) ql qR qv; (try simp only [List.length_append, List.length_cons, List.length_nil]); omega) <| okE_nil)) rfl⟩, ⟨⟨_, _, _, _, 3, rfl, rfl, rfl, rfl, eff_at (eff_auto (X := ⟨_, true⟩) (out := .val _ _) hX rfl (ok_d (by have hz := wr_f (j := j) (rg := rg) ql qR qv; (try simp only [List.length_append, List.length_cons, List.length_nil]); omega) <| okE_nil)) rfl⟩, ⟨⟨_, _, _, _, 3, rfl, rfl, rfl, rfl, eff_at (eff_auto (X := ⟨_, true⟩) (out := .val _ _) hX rfl (ok_d (by have hz := wr_f (j := j) (rg := rg) ql qR qv; (try simp only [List.length_append, List.length_cons, List.length_nil]); omega) <| okE_nil)) rfl⟩, ⟨⟨_, _, _, _, 3, rfl, rfl, rfl, rfl, eff_at (eff_auto (X := ⟨_, true⟩) (out := .val _ _) hX rfl rfl) rfl⟩, ⟨⟨_, _, _, _, 3, rfl, rfl, rfl, rfl, eff_at (eff_auto (X := ⟨_, true⟩) (out := .val _ _) hX rfl (ok_d (by have hz := wr_f (j := j) (rg := rg) ql qR qv; (try simp only [List.length_append, List.length_cons, List.length_nil]); omega) <| okE_nil)) rfl⟩, ⟨⟨_, _, _, _, 3, rfl, rfl, rfl, rfl, eff_at (eff_auto (X := ⟨_, true⟩) (out := .val _ _) hX rfl (ok_d (by have hz := wr_f (j := j) (rg := rg) ql qR qv; (try simp only [List.length_append, List.length_cons, List.length_nil]); omega) <| okE_nil)) rfl⟩, ⟨⟨_, _, _, _, 5, rfl, rfl, rfl, rfl, new_at 5 (X := ⟨_, true⟩) hX rfl rfl (le0 h0 rfl) rfl rfl rfl rfl⟩, trivial⟩⟩⟩⟩⟩⟩⟩⟩⟩, ⟨⟨⟨_, _, _, _, 4, rfl, rfl, rfl, rfl, eff_at (eff_auto (X := ⟨_, true⟩) (out := .val _ _) hX rfl rfl) rfl⟩, ⟨⟨_, _, _, _, 4, rfl, rfl, rfl, rfl, eff_at (eff_auto (X := ⟨_, true⟩) (out := .val _ _) hX rfl (ok_d (by have hz := wr_f (j := j) (rg := rg) ql qR qv; (try simp only [List.length_append, List.length_cons, List.length_nil]); omega) <| okE_nil)) rfl⟩, ⟨⟨_, _, _, _, 4, rfl, rfl, rfl, rfl, eff_at (eff_auto (X := ⟨_, true⟩) (out := .val _ _) hX rfl (ok_d (by have hz := wr_f (j := j) (rg := rg) ql qR qv; (try simp only [List.length_append, List.length_cons, List.length_nil]); omega) <| okE_nil)) rfl⟩, ⟨⟨_, _, _, _, 5, rfl, rfl, rfl, rfl, eff_at (callE [4] (ap5_ ((l.getD ((((j : Nat) : Int) + 0).toNat) pz).1) ((l.getD ((((j : Nat) : Int) + 0).toNat) pz).2) (by have hz := wr_f (j := j) (rg := rg) ql qR qv; (try simp only [List.length_append, List.length_cons, List.length_nil]); omega)) rfl rfl rfl rfl rfl rfl rfl) rfl⟩, ⟨⟨_, _, _, _, 4, rfl, rfl, rfl, rfl, eff_at (eff_auto (X := ⟨_, true⟩) (out := .val _ _) hX rfl rfl) rfl⟩, ⟨⟨_, _, _, _, 4, rfl, rfl, rfl, rfl, eff_at (eff_auto (X := ⟨_, true⟩) (out := .val _ _) hX rfl (ok_d (by have hz := wr_f (j := j) (rg := rg) ql qR qv; (try simp only [List.length_append, List.length_cons, List.length_nil]); omega) <| okE_nil)) rfl⟩, ⟨⟨_, _, _, _, 4, rfl, rfl, rfl, rfl, eff_at (eff_auto (X := ⟨_, true⟩) (out := .val _ _) hX rfl (ok_d (by have hz := wr_f (j := j) (rg := rg) ql qR qv; (try simp only [List.length_append, List.length_cons, List.length_nil]); omega) <| okE_nil)) rfl⟩, trivial⟩⟩⟩⟩⟩⟩⟩, ⟨⟨⟨_, _, _, _, 5, rfl, rfl, rfl, rfl, eff_at (eff_auto (X := ⟨_, true⟩) (out := .val _ _) hX rfl rfl) rfl⟩, ⟨⟨_, _, _, _, 5, rfl, rfl, rfl, rfl, eff_at (eff_auto (X := ⟨_, true⟩) (out := .val _ _) hX rfl (ok_d (by have hz := wr_f (j := j) (rg := rg) ql qR qv; (try simp only [List.length_append, List.length_cons, List.length_nil]); omega) <| okE_nil)) rfl⟩, ⟨⟨_, _, _, _, 5, rfl, rfl, rfl, rfl, eff_at (eff_auto (X := ⟨_, true⟩) (out := .val _ _) hX rfl (ok_d (by have hz := wr_f (j := j) (rg := rg) ql qR qv; (try simp only [List.length_append, List.length_cons, List.length_nil]); omega) <| okE_nil)) rfl⟩, ⟨⟨_, _, _, _, 5, rfl, rfl, rfl, rfl, eff_at (eff_auto (X := ⟨_, true⟩) (out := .val _ _) hX rfl (ok_d (by have hz := wr_f (j := j) (rg := rg) ql qR qv; (try simp only [List.length_append, List.length_cons, List.length_nil]); omega) <| okE_nil)) rfl⟩, ⟨⟨_, _, _, _, 5, rfl, rfl, rfl, rfl, eff_at (eff_auto (X := ⟨_, true⟩) (out := .val _ _) hX rfl (ok_d (by have hz := wr_f (j := j) (rg := rg) ql qR qv; (try simp only [List.length_append, List.length_cons, List.length_nil]); omega) <| okE_nil)) rfl⟩, ⟨⟨_, _, _, _, 5, rfl, rfl, rfl, rfl, eff_at (eff_auto (X := ⟨_, true⟩) (out := .val _ _) hX rfl rfl) rfl⟩, ⟨⟨_, _, _, _, 5, rfl, rfl, rfl, rfl, eff_at (eff_auto (X := ⟨_, true⟩) (out := .val _ _) hX rfl (ok_d (by have hz := wr_f (j := j) (rg := rg) ql qR qv; (try simp only [List.length_append, List.length_cons, List.length_nil]); omega) <| okE_nil)) rfl⟩, ⟨⟨_, _, _, _, 5, rfl, rfl, rfl, rfl, eff_at (eff_auto (X := ⟨_, true⟩) (out := .val _ _) hX rfl (ok_d (by have hz := wr_f (j := j) (rg := rg) ql qR qv; (try simp only [List.length_append, List.length_cons, List.length_nil]); omega) <| okE_nil)) rfl⟩, ⟨⟨_, _, _, _, 6, rfl, rfl, rfl, rfl, eff_at (callE [5] (ap45_ ((l.getD ((((j : Nat) : Int) + 1).toNat) pz).1) ((l.getD ((((j : Nat) : Int) + 1).toNat) pz).2) (by have hz := wr_f (j := j) (rg := rg) ql qR qv; (try simp only [List.length_append, List.length_cons, List.length_nil]); omega)) rfl rfl rfl rfl rfl rfl rfl) rfl⟩, trivial⟩⟩⟩⟩⟩⟩⟩⟩⟩, ⟨⟨⟨_, _, _, _, 6, rfl, rfl, rfl, rfl, eff_at (eff_auto (X := ⟨_, true⟩) (out := .val _ _) hX rfl rfl) rfl⟩, ⟨⟨_, _, _, _, 6, rfl, rfl, rfl, rfl, eff_at (eff_auto (X := ⟨_, true⟩) (out := .val _ _) hX rfl (ok_d (by have hz := wr_f (j := j) (rg := rg) ql qR qv; (try simp only [List.length_append, List.length_cons, List.length_nil]); omega) <| okE_nil)) rfl⟩, ⟨⟨_, _, _, _, 6, rfl, rfl, rfl, rfl, eff_at (eff_auto (X := ⟨_, true⟩) (out := .val _ _) hX rfl (ok_d (by have hz := wr_f (j := j) (rg := rg) ql qR qv; (try simp only [List.length_append, List.length_cons, List.length_nil]); omega) <| okE_nil)) rfl⟩, ⟨⟨_, _, _, _, 6, rfl, rfl, rfl, rfl, eff_at (eff_auto (X := ⟨_, true⟩) (out := .val _ _) hX rfl (ok_d (by have hz := wr_f (j := j) (rg := rg) ql qR qv; (try simp only [List.length_append, List.length_cons, List.length_nil]); omega) <| okE_nil)) rfl⟩, ⟨⟨_, _, _, _, 6, rfl, rfl, rfl, rfl, eff_at (eff_auto (X := ⟨_, true⟩) (out := .val _ _) hX rfl (ok_d (by have hz := wr_f (j := j) (rg := rg) ql qR qv; (try simp only [List.length_append, List.length_cons, List.length_nil]); omega) <| okE_nil)) rfl⟩, ⟨⟨_, _, _, _, 6, rfl, rfl, rfl, rfl, eff_at (eff_auto (X := ⟨_, true⟩) (out := .val _ _) hX rfl rfl) rfl⟩, ⟨⟨_, _, _, _, 6, rfl, rfl, rfl, rfl, eff_at (eff_auto (X := ⟨_, true⟩) (out := .val _ _) hX rfl (ok_d (by have hz := wr_f (j := j) (rg := rg) ql qR qv; (try simp only [List.length_append, List.length_cons, List.length_nil]); omega) <| okE_nil)) rfl⟩, ⟨⟨_, _, _, _, 6, rfl, rfl, rfl, rfl, eff_at (eff_auto (X := ⟨_, true⟩) (out := .val _ _) hX rfl (ok_d (by have hz := wr_f (j := j) (rg := rg) ql qR qv; (try simp only [List.length_append, List.length_cons, List.length_nil]); omega) <| okE_nil)) rfl⟩, ⟨⟨_, _, _, _, 6, rfl, rfl, rfl, rfl, eff_at (eff_auto (X := ⟨_, true⟩) (out := .val _ _) hX rfl rfl) rfl⟩, trivial⟩⟩⟩⟩⟩⟩⟩⟩⟩, trivial⟩⟩⟩⟩⟩⟩⟩ fun A => N hX 2 A rfl rfl fun A => RETN hX A rfl rfl rfl h0 rfl rfl rfl rfl (by simp only [oneS, nb, nbL, nbH, wr0, if_neg (h1), if_neg (h2), if_neg (h3), if_pos h4]) rfl)
     (fun h4 A => N hX 5 A rfl rfl fun A => DRAWN hX hmo [] [(11, .str (apT [5] ((l.getD ((((j : Nat) : Int) + 1).toNat) pz).1) ((l.getD ((((j : Nat) : Int) + 1).toNat) pz).2)), [some (.row 9 1 R.length 8 (fun zz => [.str (R.getD zz [])])), some (.row 114 2 l.length 0 (fun zz => [.str (l.getD zz pz).1, .int .i64 (l.getD zz pz).2])), some (.fac b o), some (.blk [.int .i64 kd, .int .i64 th, .int .i64 rg, .int .i64 lc, .int .i64 vl]), some (.blk [.int .i64 5])])] A rfl (ok_d (by have hz := wr_f (j := j) (rg := rg) ql qR qv; (try simp only [List.length_append, List.length_cons, List.length_nil]); omega) <| ok_d (by have hz := wr_f (j := j) (rg := rg) ql qR qv; (try simp only [List.length_append, List.length_cons, List.length_nil]); omega) <| ok_d (by have hz := wr_f (j := j) (rg := rg) ql qR qv; (try simp only [List.length_append, List.length_cons, List.length_nil]); omega) <| ok_d (by have hz := wr_f (j := j) (rg := rg) ql qR qv; (try simp only [List.length_append, List.length_cons, List.length_nil]); omega) <| ok_d (by have hz := wr_f (j := j) (rg := rg) ql qR qv; (try simp only [List.length_append, List.length_cons, List.length_nil]); omega) <| ok_d (by have hz := wr_f (j := j) (rg := rg) ql qR qv; (try simp only [List.length_append, List.length_cons, List.length_nil]); omega) <| ok_d (by have hz := wr_f (j := j) (rg := rg) ql qR qv; (try simp only [List.length_append, List.length_cons, List.length_nil]); omega) <| ok_d (by have hz := wr_f (j := j) (rg := rg) ql qR qv; (try simp only [List.length_append, List.length_cons, List.length_nil]); omega) <| ok_d (by have hz := wr_f (j := j) (rg := rg) ql qR qv; (try simp only [List.length_append, List.length_cons, List.length_nil]); omega) <| ok_d (by have hz := wr_f (j := j) (rg := rg) ql qR qv; (try simp only [List.length_append, List.length_cons, List.length_nil]); omega) <| ok_d (by have hz := wr_f (j := j) (rg := rg) ql qR qv; (try simp only [List.length_append, List.length_cons, List.length_nil]); omega) <| ok_d (by have hz := wr_f (j := j) (rg := rg) ql qR qv; (try simp only [List.length_append, List.length_cons, List.length_nil]); omega) <| ok_d (by have hz := wr_f (j := j) (rg := rg) ql qR qv; (try simp only [List.length_append, List.length_cons, List.length_nil]); omega) <| ok_d (by have hz := wr_f (j := j) (rg := rg) ql qR qv; (try simp only [List.length_append, List.length_cons, List.length_nil]); omega) <| ok_d (by have hz := wr_f (j := j) (rg := rg) ql qR qv; (try simp only [List.length_append, List.length_cons, List.length_nil]); omega) <| ok_d (by have hz := wr_f (j := j) (rg := rg) ql qR qv; (try simp only [List.length_append, List.length_cons, List.length_nil]); omega) <| ok_d (by have hz := wr_f (j := j) (rg := rg) ql qR qv; (try simp only [List.length_append, List.length_cons, List.length_nil]); omega) <| ok_d (by have hz := wr_f (j := j) (rg := rg) ql qR qv; (try simp only [List.length_append, List.length_cons, List.length_nil]); omega) <| ok_d (by have hz := wr_f (j := j) (rg := rg) ql qR qv; (try simp only [List.length_append, List.length_cons, List.length_nil]); omega) <| ok_d (by have hz := wr_f (j := j) (rg := rg) ql qR qv; (try simp only [List.length_append, List.length_cons, List.length_nil]); omega) <| ok_d (by have hz := wr_f (j := j) (rg := rg) ql qR qv; (try simp only [List.length_append, List.length_cons, List.length_nil]); omega) <| ok_d (by have hz := wr_f (j := j) (rg := rg) ql qR qv; (try simp only [List.length_append, List.length_cons, List.length_nil]); omega) <| ok_d (by have hz := wr_f (j := j) (rg := rg) ql qR qv; (try simp only [List.length_append, List.length_cons, List.length_nil]); omega) <| ok_d (by have hz := wr_f (j := j) (rg := rg) ql qR qv; (try simp only [List.length_append, List.length_cons, List.length_nil]); omega) <| okE_nil) rfl rfl (by kernel_rfl) ⟨trivial, ⟨callE [4] (ap5_ ((l.getD ((((j : Nat) : Int) + 1).toNat) pz).1) ((l.getD ((((j : Nat) : Int) + 1).toNat) pz).2) (by have hz := wr_f (j := j) (rg := rg) ql qR qv; (try simp only [List.length_append, List.length_cons, List.length_nil]); omega)) rfl rfl rfl rfl rfl rfl rfl, trivial⟩⟩ trivial fun A => N hX 2 A rfl rfl fun A => RETN hX A rfl rfl rfl h0 rfl rfl rfl rfl (by simp only [oneS, nb, nbL, nbH, wr0, if_neg (h1), if_neg (h2), if_neg (h3), if_neg (h4)]) rfl))))
theorem pone_ (R : List (List UInt8)) (kd : Int) (th : Int) (rg : Int) (lc : Int) (vl : Int) (l : List Pc) (j : Nat) (k : Nat) (b : Nat) (o : Obj) (hT : ∀ w : World, w.heap[b]? = some o → Lib.TabIs Tryz.prog w "internal/strconv.uint64pow10" .u64 Lib.pow10Tab) (hk : j + k ≤ l.length) (q1 : kd = 1 → 0 ≤ th ∧ th < 3 ∧ 0 ≤ rg ∧ rg < 8) (q2 : kd = 2 → 0 ≤ lc ∧ lc < 3) (q3 : kd = 3 → 1 ≤ k) (q4 : kd ≠ 1 → kd ≠ 2 → kd ≠ 3 → 2 ≤ k) (qv : -9223372036854775808 ≤ vl ∧ vl ≤ 9223372036854775807) (ql : ∀ q, (l.getD q pz).1.length ≤ 1000000) (qR : ∀ q, (R.getD q []).length ≤ 100) (hR : 8 ≤ R.length) : Fn Tryz.prog 53 [.agg [.int .i64 kd, .int .i64 th, .int .i64 rg, .int .i64 lc, .int .i64 vl], .st 2 2 j k 0, .ptr 0 0] [some (.blk [.sl 1 R.length 8]), some (.row 9 1 R.length 8 (fun zz => [.str (R.getD zz [])])), some (.row 114 2 l.length 0 (fun zz => [.str (l.getD zz pz).1, .int .i64 (l.getD zz pz).2])), some (.fac b o)] (Rt (.agg [.str (wr0 R kd th rg lc vl l j k), .int .i64 kd]) [some (.blk [.sl 1 R.length 8]), some (.row 9 1 R.length 8 (fun zz => [.str (R.getD zz [])])), some (.row 114 2 l.length 0 (fun zz => [.str (l.getD zz pz).1, .int .i64 (l.getD zz pz).2])), some (.fac b o)]) :=
 enterM (n := 13) (by kernel_rfl) Tryz.func53 rfl rfl rfl fun G w a h0 A => N hX 7 A rfl rfl fun A => DRAWN hX hmo [] [(3, .str (wr0 R kd th rg lc vl l j k), [some (.blk [.sl 1 R.length 8]), some (.row 9 1 R.length 8 (fun zz => [.str (R.getD zz [])])), some (.row 114 2 l.length 0 (fun zz => [.str (l.getD zz pz).1, .int .i64 (l.getD zz pz).2])), some (.fac b o), some (.blk [.int .i64 kd, .int .i64 th, .int .i64 rg, .int .i64 lc, .int .i64 vl]), some (.blk [.str [], .int .i64 0])])] A rfl rfl rfl rfl (by kernel_rfl) ⟨callE [1, 2, 3] (wr_ R kd th rg lc vl l j k b o hT hk q1 q2 q3 q4 qv ql qR hR) rfl rfl rfl rfl rfl rfl rfl, ⟨trivial, trivial⟩⟩ trivial fun A => N hX 2 A rfl rfl fun A => RETN hX A rfl rfl rfl h0 rfl rfl rfl rfl rfl rfl
end Go.Proofs.YtedlaclfhgneeabGreatDoor.Cd
namespace Go.Proofs.YtedlaclfhgneeabGreatDoor.Cd
open Go.RowKit
set_option linter.unusedVariables false
set_option linter.unusedSimpArgs false
set_option maxRecDepth 100000
set_option maxHeartbeats 2000000
set_option simprocs false
def stepP (R : List (List UInt8)) (c : Cn) (l : List Pc) : List Pc := l.take (((l.length : Nat) : Int) - parts0 c.k).toNat ++ [(wr0 R c.k c.t c.r c.l c.v l (((l.length : Nat) : Int) - parts0 c.k).toNat (l.length - (((l.length : Nat) : Int) - parts0 c.k).toNat), c.k)]
def foldP (R : List (List UInt8)) (cs : List Cn) : List Pc := cs.foldl (fun l c => stepP R c l) []
structure FI (R : List (List UInt8)) (cs : List Cn) (l : List Pc) (i : Nat) : Prop where
  lb : ∃ lb, EI oz cs lb i ∧ lb.length = l.length
  eq : l = foldP R (cs.take i)
theorem stepP_len {R : List (List UInt8)} {c : Cn} {l : List Pc} (h : 0 ≤ parts0 c.k) : (stepP R c l).length = (((l.length : Nat) : Int) - parts0 c.k).toNat + 1 := by
  unfold stepP; rw [List.length_append, List.length_take, List.length_cons, List.length_nil]; omega
section
variable {R : List (List UInt8)} {L : List Cn} {n i : Nat} {l : List Pc}
theorem FI.i0 (hr : right (L.take n) = true) : FI R (L.take n) [] 0 := ⟨⟨[], EI.i0 hr, rfl⟩, by simp [foldP]⟩
theorem FI.kn (hI : FI R (L.take n) l i) (hn : n ≤ L.length) (h1 : (i : Int) < ((n : Nat) : Int)) : ¬ (L.getD ((i : Int)).toNat Cn.z).n < 0 ∧ (L.getD ((i : Int)).toNat Cn.z).n ≤ (l.length : Int) ∧ (L.getD ((i : Int)).toNat Cn.z).n = parts0 (L.getD ((i : Int)).toNat Cn.z).k ∧ (((L.getD ((i : Int)).toNat Cn.z).k = 1 ∧ (L.getD ((i : Int)).toNat Cn.z).n = 0 ∧ 0 ≤ (L.getD ((i : Int)).toNat Cn.z).t ∧ (L.getD ((i : Int)).toNat Cn.z).t < 3 ∧ 0 ≤ (L.getD ((i : Int)).toNat Cn.z).r ∧ (L.getD ((i : Int)).toNat Cn.z).r < 8) ∨ ((L.getD ((i : Int)).toNat Cn.z).k = 2 ∧ (L.getD ((i : Int)).toNat Cn.z).n = 0 ∧ 0 ≤ (L.getD ((i : Int)).toNat Cn.z).l ∧ (L.getD ((i : Int)).toNat Cn.z).l < 3) ∨ ((L.getD ((i : Int)).toNat Cn.z).k = 3 ∧ (L.getD ((i : Int)).toNat Cn.z).n = 1) ∨ ((L.getD ((i : Int)).toNat Cn.z).k = 4 ∧ (L.getD ((i : Int)).toNat Cn.z).n = 2) ∨ ((L.getD ((i : Int)).toNat Cn.z).k = 5 ∧ (L.getD ((i : Int)).toNat Cn.z).n = 2)) ∧ l.length ≤ i := by
  obtain ⟨lb, h2, h3⟩ := hI.lb
  have := h2.kn hn h1
  rw [h3] at this
  exact this
theorem FI.nx (hI : FI R (L.take n) l i) (hr : right (L.take n) = true) (hn : n ≤ L.length) (h1 : (i : Int) < ((n : Nat) : Int)) : FI R (L.take n) (stepP R (L.getD ((i : Int)).toNat Cn.z) l) (i + 1) := by
  obtain ⟨lb, h2, h3⟩ := hI.lb
  have k := h2.kn hn h1
  refine ⟨⟨_, h2.nx hr hn h1, ?_⟩, ?_⟩
  · rw [← fold_st (p := oz) (l := lb) k.1 k.2.1 k.2.2.1 rfl, stepP_len (by omega), List.length_append, List.length_take, List.length_cons, List.length_nil, h3]; omega
  · have hi : i < (L.take n).length := by simp; omega
    rw [List.take_succ_eq_append_getElem hi, foldP, List.foldl_append, ← foldP, ← hI.eq]
    have e : (L.take n)[i] = (L.getD ((i : Int)).toNat Cn.z) := by simp [List.getD, show i < L.length by omega]
    rw [e]; rfl
theorem FI.fi (hI : FI R (L.take n) l i) (hr : right (L.take n) = true) (hn : n ≤ L.length) (h1 : ¬ (i : Int) < ((n : Nat) : Int)) : l.length = 1 ∧ l = foldP R (L.take n) := by
  obtain ⟨lb, h2, h3⟩ := hI.lb
  have := h2.fi hr hn h1
  have he := hI.eq
  rw [List.take_of_length_le (by simp; omega)] at he
  exact ⟨by omega, he⟩
theorem FI.sm (hI : FI R (L.take n) l i) (hl : ∀ i q, ((foldP R ((L.take n).take i)).getD q pz).1.length ≤ 1000000) : ∀ q, (l.getD q pz).1.length ≤ 1000000 := fun q => by rw [hI.eq]; exact hl i q
theorem papp1 {k : Nat} {x : Pc} (h : k ≤ l.length) : (l.take k ++ [x]).getD k pz = x := by
  have := getD_app_1 (l := l.take k) (x := x) (d := pz)
  rw [List.length_take, Nat.min_eq_left h] at this; exact this
end
theorem foldp_ (R : List (List UInt8)) (L : List Cn) (n : Nat) (c : Nat) (b : Nat) (o : Obj) (hT : ∀ w : World, w.heap[b]? = some o → Lib.TabIs Tryz.prog w "internal/strconv.uint64pow10" .u64 Lib.pow10Tab) (hn : n ≤ L.length) (hN : n ≤ 1000000) (hr : right (L.take n) = true) (hv : ∀ q, -9223372036854775808 ≤ (L.getD q Cn.z).v ∧ (L.getD q Cn.z).v ≤ 9223372036854775807) (hl : ∀ i q, ((foldP R ((L.take n).take i)).getD q pz).1.length ≤ 1000000) (qR : ∀ q, (R.getD q []).length ≤ 100) (hR : 8 ≤ R.length) : Fn Tryz.prog 52 [.sl 0 n c, .fn 53 [.ptr 1 0]] [some (.lst 5 L.length (fun zz => cc (L.getD zz Cn.z))), some (.blk [.sl 2 R.length 8]), some (.row 9 1 R.length 8 (fun zz => [.str (R.getD zz [])])), some (.fac b o)] (Rt (.agg [.str (((foldP R (L.take n)).getD 0 pz).1), .int .i64 (((foldP R (L.take n)).getD 0 pz).2)]) [some (.lst 5 L.length (fun zz => cc (L.getD zz Cn.z))), some (.blk [.sl 2 R.length 8]), some (.row 9 1 R.length 8 (fun zz => [.str (R.getD zz [])])), some (.fac b o)]) :=
 enterM (n := 36) (by kernel_rfl) Tryz.func52 rfl rfl rfl fun G w a h0 A => N hX 19 A rfl rfl fun A => have A := A.nilRow 5 114 2 (fun zz => [.str (([] : List Pc).getD zz pz).1, .int .i64 (([] : List Pc).getD zz pz).2]) rfl (fun z => ⟨_, rfl, rfl⟩); LOOP2 (fun (l : List Pc) (i : Nat) => [(1, .fn 53 [.ptr 1 0]), (4, .ptr 4 0), (5, .sl 5 l.length 0), (9, .sl 0 n c), (10, .int .i64 ((n : Nat) : Int)), (11, .int .i64 (i : Int))]) (fun (l : List Pc) (i : Nat) => [some (.lst 5 L.length (fun zz => cc (L.getD zz Cn.z))), some (.blk [.sl 2 R.length 8]), some (.row 9 1 R.length 8 (fun zz => [.str (R.getD zz [])])), some (.fac b o), some (.blk [.str [], .int .i64 0]), some (.row 114 2 l.length 0 (fun zz => [.str (l.getD zz pz).1, .int .i64 (l.getD zz pz).2]))]) (fun (l : List Pc) (i : Nat) => FI R (L.take n) l i) (fun (l : List Pc) (i : Nat) => n - i) [] 0 (FI.i0 hr) ((A.cut [1, 4, 5, 9, 10, 11] rfl).trunc 6 rfl rfl rfl (by simp only [List.length_cons, List.length_nil] at h0; omega)) fun l i hI {G a w} A => N hX 6 A rfl rfl fun A => forkD 12 A rfl
   (fun h1 A => N hX 14 A rfl (ok_d (by have hq := hI.kn hn h1; omega) <| ok_d (by have hq := hI.kn hn h1; omega) <| okE_nil) fun A => N hX 5 A rfl rfl fun A => CALL1 [] (parts_ ((L.getD (((i : Int)).toNat) Cn.z).k)) A rfl rfl rfl rfl rfl rfl rfl fun A => N hX 4 A rfl (ok_d (by have hq := hI.kn hn h1; omega) <| okE_nil) fun A => DRAWN hX hmo [] [(8, .agg [.str (wr0 R ((L.getD (((i : Int)).toNat) Cn.z).k) ((L.getD (((i : Int)).toNat) Cn.z).t) ((L.getD (((i : Int)).toNat) Cn.z).r) ((L.getD (((i : Int)).toNat) Cn.z).l) ((L.getD (((i : Int)).toNat) Cn.z).v) l ((((l.length : Nat) : Int) - (parts0 ((L.getD (((i : Int)).toNat) Cn.z).k))).toNat) (l.length - (((l.length : Nat) : Int) - (parts0 ((L.getD (((i : Int)).toNat) Cn.z).k))).toNat)), .int .i64 ((L.getD (((i : Int)).toNat) Cn.z).k)], [some (.lst 5 L.length (fun zz => cc (L.getD zz Cn.z))), some (.blk [.sl 2 R.length 8]), some (.row 9 1 R.length 8 (fun zz => [.str (R.getD zz [])])), some (.fac b o), some (.blk [.str [], .int .i64 0]), some (.row 114 2 l.length 0 (fun zz => [.str (l.getD zz pz).1, .int .i64 (l.getD zz pz).2])), some (.blk [.int .i64 ((L.getD (((i : Int)).toNat) Cn.z).k), .int .i64 ((L.getD (((i : Int)).toNat) Cn.z).t), .int .i64 ((L.getD (((i : Int)).toNat) Cn.z).r), .int .i64 ((L.getD (((i : Int)).toNat) Cn.z).l), .int .i64 ((L.getD (((i : Int)).toNat) Cn.z).v)])]), (10, .sl 8 (((((l.length : Nat) : Int) - (parts0 ((L.getD (((i : Int)).toNat) Cn.z).k))).toNat) + 1) 0, [some (.lst 5 L.length (fun zz => cc (L.getD zz Cn.z))), some (.blk [.sl 2 R.length 8]), some (.row 9 1 R.length 8 (fun zz => [.str (R.getD zz [])])), some (.fac b o), some (.blk [.str [], .int .i64 0]), none, some (.blk [.int .i64 ((L.getD (((i : Int)).toNat) Cn.z).k), .int .i64 ((L.getD (((i : Int)).toNat) Cn.z).t), .int .i64 ((L.getD (((i : Int)).toNat) Cn.z).r), .int .i64 ((L.getD (((i : Int)).toNat) Cn.z).l), .int .i64 ((L.getD (((i : Int)).toNat) Cn.z).v)]), some (.blk [.str (wr0 R ((L.getD (((i : Int)).toNat) Cn.z).k) ((L.getD (((i : Int)).toNat) Cn.z).t) ((L.getD (((i : Int)).toNat) Cn.z).r) ((L.getD (((i : Int)).toNat) Cn.z).l) ((L.getD (((i : Int)).toNat) Cn.z).v) l ((((l.length : Nat) : Int) - (parts0 ((L.getD (((i : Int)).toNat) Cn.z).k))).toNat) (l.length - (((l.length : Nat) : Int) - (parts0 ((L.getD (((i : Int)).toNat) Cn.z).k))).toNat)), .int .i64 ((L.getD (((i : Int)).toNat) Cn.z).k)]), some (.row 114 2 (((((l.length : Nat) : Int) - (parts0 ((L.getD (((i : Int)).toNat) Cn.z).k))).toNat) + 1) 0 (fun zz => [.str ((l.take ((((l.length : Nat) : Int) - (parts0 ((L.getD (((i : Int)).toNat) Cn.z).k))).toNat) ++ [(wr0 R ((L.getD (((i : Int)).toNat) Cn.z).k) ((L.getD (((i : Int)).toNat) Cn.z).t) ((L.getD (((i : Int)).toNat) Cn.z).r) ((L.getD (((i : Int)).toNat) Cn.z).l) ((L.getD (((i : Int)).toNat) Cn.z).v) l ((((l.length : Nat) : Int) - (parts0 ((L.getD (((i : Int)).toNat) Cn.z).k))).toNat) (l.length - (((l.length : Nat) : Int) - (parts0 ((L.getD (((i : Int)).toNat) Cn.z).k))).toNat), (L.getD (((i : Int)).toNat) Cn.z).k)]).getD zz pz).1, .int .i64 ((l.take ((((l.length : Nat) : Int) - (parts0 ((L.getD (((i : Int)).toNat) Cn.z).k))).toNat) ++ [(wr0 R ((L.getD (((i : Int)).toNat) Cn.z).k) ((L.getD (((i : Int)).toNat) Cn.z).t) ((L.getD (((i : Int)).toNat) Cn.z).r) ((L.getD (((i : Int)).toNat) Cn.z).l) ((L.getD (((i : Int)).toNat) Cn.z).v) l ((((l.length : Nat) : Int) - (parts0 ((L.getD (((i : Int)).toNat) Cn.z).k))).toNat) (l.length - (((l.length : Nat) : Int) - (parts0 ((L.getD (((i : Int)).toNat) Cn.z).k))).toNat), (L.getD (((i : Int)).toNat) Cn.z).k)]).getD zz pz).2]))])] A rfl (ok_d (by show 0 ≤ ((l.length : Nat) : Int) - (parts0 ((L.getD (((i : Int)).toNat) Cn.z).k)) ∧ ((l.length : Nat) : Int) - (parts0 ((L.getD (((i : Int)).toNat) Cn.z).k)) ≤ ((l.length : Nat) : Int); exact (by have hq := hI.kn hn h1; omega)) <| ok_d (by show 0 ≤ ((l.length : Nat) : Int) - (parts0 ((L.getD (((i : Int)).toNat) Cn.z).k)) ∧ ((l.length : Nat) : Int) - (parts0 ((L.getD (((i : Int)).toNat) Cn.z).k)) ≤ ((l.length : Nat) : Int); exact (by have hq := hI.kn hn h1; omega)) <| ok_d (by show 0 ≤ ((l.length : Nat) : Int) - (parts0 ((L.getD (((i : Int)).toNat) Cn.z).k)) ∧ ((l.length : Nat) : Int) - (parts0 ((L.getD (((i : Int)).toNat) Cn.z).k)) ≤ ((l.length : Nat) : Int); exact (by have hq := hI.kn hn h1; omega)) <| ok_d (by have hq := hI.kn hn h1; omega) <| okE_nil) rfl rfl (by kernel_rfl) ⟨callE [1, 2, 5, 3] (pone_ R ((L.getD (((i : Int)).toNat) Cn.z).k) ((L.getD (((i : Int)).toNat) Cn.z).t) ((L.getD (((i : Int)).toNat) Cn.z).r) ((L.getD (((i : Int)).toNat) Cn.z).l) ((L.getD (((i : Int)).toNat) Cn.z).v) l ((((l.length : Nat) : Int) - (parts0 ((L.getD (((i : Int)).toNat) Cn.z).k))).toNat) (l.length - (((l.length : Nat) : Int) - (parts0 ((L.getD (((i : Int)).toNat) Cn.z).k))).toNat) b o hT (by have hq := hI.kn hn h1; omega) (by have hq := hI.kn hn h1; omega) (by have hq := hI.kn hn h1; omega) (by have hq := hI.kn hn h1; omega) (by have hq := hI.kn hn h1; omega) (hv _) (hI.sm hl) qR hR) rfl rfl rfl rfl rfl rfl rfl, ⟨trivial, ⟨eff_shrink (e := 114) (s := 2) 5 ((((l.length : Nat) : Int) - (parts0 ((L.getD (((i : Int)).toNat) Cn.z).k))).toNat) rfl (by have hq := hI.kn hn h1; omega) (appE (i := 5) (e := 114) (s := 2) hX (((((l.length : Nat) : Int) - (parts0 ((L.getD (((i : Int)).toNat) Cn.z).k))).toNat) + 1) (fun zz => [.str ((l.take ((((l.length : Nat) : Int) - (parts0 ((L.getD (((i : Int)).toNat) Cn.z).k))).toNat) ++ [(wr0 R ((L.getD (((i : Int)).toNat) Cn.z).k) ((L.getD (((i : Int)).toNat) Cn.z).t) ((L.getD (((i : Int)).toNat) Cn.z).r) ((L.getD (((i : Int)).toNat) Cn.z).l) ((L.getD (((i : Int)).toNat) Cn.z).v) l ((((l.length : Nat) : Int) - (parts0 ((L.getD (((i : Int)).toNat) Cn.z).k))).toNat) (l.length - (((l.length : Nat) : Int) - (parts0 ((L.getD (((i : Int)).toNat) Cn.z).k))).toNat), (L.getD (((i : Int)).toNat) Cn.z).k)]).getD zz pz).1, .int .i64 ((l.take ((((l.length : Nat) : Int) - (parts0 ((L.getD (((i : Int)).toNat) Cn.z).k))).toNat) ++ [(wr0 R ((L.getD (((i : Int)).toNat) Cn.z).k) ((L.getD (((i : Int)).toNat) Cn.z).t) ((L.getD (((i : Int)).toNat) Cn.z).r) ((L.getD (((i : Int)).toNat) Cn.z).l) ((L.getD (((i : Int)).toNat) Cn.z).v) l ((((l.length : Nat) : Int) - (parts0 ((L.getD (((i : Int)).toNat) Cn.z).k))).toNat) (l.length - (((l.length : Nat) : Int) - (parts0 ((L.getD (((i : Int)).toNat) Cn.z).k))).toNat), (L.getD (((i : Int)).toNat) Cn.z).k)]).getD zz pz).2]) rfl rfl rfl rfl (by have hq := hI.kn hn h1; omega) rfl (fun q hq => by show [SV.str _, SV.int _ _] = [SV.str _, SV.int _ _]; rw [getD_app_l (by rw [List.length_take]; have hq := hI.kn hn h1; omega), getD_take hq]) (by show [SV.str _, SV.int _ _] = _; rw [papp1 (by have hq := hI.kn hn h1; omega)]) (fun z => ⟨_, rfl, rfl⟩)), trivial⟩⟩⟩ trivial fun A => N hX 6 A rfl (ok_d (by have hq := hI.kn hn h1; omega) <| okE_nil) fun A => ⟨stepP R (L.getD ((i : Int)).toNat Cn.z) l, i + 1, _, (by omega), (hI.nx hr hn h1), ((((A.rowAs 8 (stepP R (L.getD ((i : Int)).toNat Cn.z) l).length (fun zz => [.str ((stepP R (L.getD ((i : Int)).toNat Cn.z) l).getD zz pz).1, .int .i64 ((stepP R (L.getD ((i : Int)).toNat Cn.z) l).getD zz pz).2]) rfl (stepP_len (R := R) (c := (L.getD ((i : Int)).toNat Cn.z)) (l := l) (by have hq := hI.kn hn h1; omega)) (fun q hq => rfl) (fun z => ⟨_, rfl, rfl⟩)).say 5 (.sl 8 (stepP R (L.getD ((i : Int)).toNat Cn.z) l).length 0) rfl (by rw [(stepP_len (R := R) (c := (L.getD ((i : Int)).toNat Cn.z)) (l := l) (by have hq := hI.kn hn h1; omega))])).cut [1, 4, 5, 9, 10, 11] rfl).mv 4 [4, 8] rfl rfl rfl rfl (by simp only [List.length_cons, List.length_nil] at h0; omega))⟩)
   (fun h1 A => N hX 12 A rfl (ok_d (by have hq := (hI.fi hr hn h1).1; omega) <| ok_d (by have hq := (hI.fi hr hn h1).1; omega) <| okE_nil) fun A => RETN hX A rfl rfl rfl h0 rfl rfl rfl rfl (by rw [← (hI.fi hr hn h1).2]; rfl) rfl)
theorem rgL_len {nf : Int → List UInt8} (h : ∀ x, (nf x).length ≤ 20) (q : Nat) : ((rgL nf).getD q []).length ≤ 100 := by
  by_cases hq : q < 8
  · have : q = 0 ∨ q = 1 ∨ q = 2 ∨ q = 3 ∨ q = 4 ∨ q = 5 ∨ q = 6 ∨ q = 7 := by omega
    rcases this with e | e | e | e | e | e | e | e <;> subst e <;> exact Nat.le_trans (h _) (by decide)
  · rw [List.getD_eq_getElem?_getD, List.getElem?_eq_none (by show 8 ≤ q; omega)]; decide
theorem nameF_len (x : Int) : (Old.nameF x).length ≤ 20 := by
  by_cases h0 : x < 0
  · rw [Old.name_neg h0]; decide
  · by_cases h7 : x > 7
    · rw [Old.name_big h7]; decide
    · have : x = 0 ∨ x = 1 ∨ x = 2 ∨ x = 3 ∨ x = 4 ∨ x = 5 ∨ x = 6 ∨ x = 7 := by omega
      rcases this with e | e | e | e | e | e | e | e <;> subst e <;> decide
theorem print1_ (L : List Cn) (n : Nat) (c : Nat) (b : Nat) (o : Obj) (hT : ∀ w : World, w.heap[b]? = some o → Lib.TabIs Tryz.prog w "internal/strconv.uint64pow10" .u64 Lib.pow10Tab) (hn : n ≤ L.length) (hN : n ≤ 1000000) (hr : right (L.take n) = true) (hv : ∀ q, -9223372036854775808 ≤ (L.getD q Cn.z).v ∧ (L.getD q Cn.z).v ≤ 9223372036854775807) (hl : ∀ i q, ((foldP (rgL Old.nameF) ((L.take n).take i)).getD q pz).1.length ≤ 1000000) : Fn Tryz.prog 22 [.int .i64 1, .sl 0 n c] [some (.lst 5 L.length (fun zz => cc (L.getD zz Cn.z))), some (.fac b o)] (Rt (.tup [.str (((foldP (rgL Old.nameF) (L.take n)).getD 0 pz).1), .int .i64 0]) [some (.lst 5 L.length (fun zz => cc (L.getD zz Cn.z))), some (.fac b o)]) :=
 enterM (n := 20) (by kernel_rfl) Tryz.func22 rfl rfl rfl fun G w a h0 A => N hX 9 A rfl rfl fun A => CALL1 [] regs1_ A rfl rfl rfl rfl rfl rfl rfl fun A => N hX 8 A rfl rfl fun A => NILR hX A rfl rfl (by omega) fun A => N hX 9 A rfl rfl fun A => CALL1 [0] (pright_ L n c hn) A rfl rfl rfl rfl rfl rfl rfl fun A => N hX 3 A rfl rfl fun A => fork 14 A rfl
  (fun h1 A => absurd h1 (by rw [hr]; decide))
  (fun h1 A => N hX 7 A rfl rfl fun A => CALL1 [0, 3, 2, 1] (foldp_ (rgL Old.nameF) L n c b o hT hn hN hr hv hl (rgL_len nameF_len) (by decide)) A rfl rfl rfl rfl rfl rfl rfl fun A => N hX 13 A rfl rfl fun A => RETN hX A rfl rfl rfl h0 rfl rfl rfl rfl rfl rfl)
end Go.Proofs.YtedlaclfhgneeabGreatDoor.Cd
namespace Go.Proofs.YtedlaclfhgneeabGreatDoor.Cd
open Go.RowKit
set_option linter.unusedVariables false
set_option linter.unusedSimpArgs false
set_option maxRecDepth 100000
set_option maxHeartbeats 2000000
set_option simprocs false
theorem itoa1 : Lib.itoa 1 = [49] := by unfold Lib.itoa; rw [if_neg (by decide)]; show Lib.decDigits 1 = _; unfold Lib.decDigits; rfl
theorem fp0 (R : List (List UInt8)) : foldP R [] = [] := rfl
theorem fp1 (R : List (List UInt8)) : foldP R [aC] = [([120, 61, 49], 2)] := by
  show stepP R aC [] = _
  have : wr0 R aC.k aC.t aC.r aC.l aC.v [] 0 0 = [120, 61] ++ Lib.itoa 1 := rfl
  show [] ++ [(wr0 R aC.k aC.t aC.r aC.l aC.v [] 0 0, 2)] = _
  rw [this, itoa1]; rfl
theorem fp2 (R : List (List UInt8)) : foldP R [aC, nC] = [([126, 120, 61, 49], 3)] := by
  have : foldP R [aC, nC] = stepP R nC (foldP R [aC]) := rfl
  rw [this, fp1]; rfl
theorem fpl (R : List (List UInt8)) : ∀ i q, ((foldP R (([aC, nC].take 2).take i)).getD q pz).1.length ≤ 1000000 := by
  intro i q
  have hi : ([aC, nC].take 2).take i = [] ∨ ([aC, nC].take 2).take i = [aC] ∨ ([aC, nC].take 2).take i = [aC, nC] := by
    rcases i with _ | _ | i
    · exact .inl rfl
    · exact .inr (.inl rfl)
    · exact .inr (.inr (List.take_of_length_le (by simp)))
  rcases hi with h | h | h <;> rw [h]
  · rw [fp0]; show (pz.1).length ≤ _; decide
  · rw [fp1]; rcases q with _ | q
    · decide
    · show (pz.1).length ≤ _; decide
  · rw [fp2]; rcases q with _ | q
    · decide
    · show (pz.1).length ≤ _; decide
theorem vA : ∀ q, -9223372036854775808 ≤ ([aC, nC].getD q Cn.z).v ∧ ([aC, nC].getD q Cn.z).v ≤ 9223372036854775807 := fun q => by
  rcases q with _ | _ | q
  · decide
  · decide
  · show -9223372036854775808 ≤ Cn.z.v ∧ Cn.z.v ≤ 9223372036854775807; decide
theorem printA_ (b : Nat) (o : Obj) (hT : ∀ w : World, w.heap[b]? = some o → Lib.TabIs Tryz.prog w "internal/strconv.uint64pow10" .u64 Lib.pow10Tab) : Fn Tryz.prog 22 [.int .i64 1, .sl 0 2 2] [some (.lst 5 ([aC, nC].length) (fun zz => cc ([aC, nC].getD zz Cn.z))), some (.fac b o)] (Rt (.tup [.str [126, 120, 61, 49], .int .i64 0]) [some (.lst 5 ([aC, nC].length) (fun zz => cc ([aC, nC].getD zz Cn.z))), some (.fac b o)]) :=
  fn_asX (print1_ [aC, nC] 2 2 b o hT (by decide) (by decide) rfl vA (fpl _)) fun _ => by rw [show ([aC, nC] : List Cn).take 2 = [aC, nC] from rfl, fp2]; rfl
theorem able_ (b : Nat) (o : Obj) (hT : ∀ w : World, w.heap[b]? = some o → Lib.TabIs Tryz.prog w "internal/strconv.uint64pow10" .u64 Lib.pow10Tab) : Fn Tryz.prog 18 [] [some (.fac b o)] (Rt (.tt) [some (.fac b o)]) :=
 enterM (n := 55) (by kernel_rfl) Tryz.func18 rfl rfl rfl fun G w a h0 A => N hX 17 A rfl rfl fun A => have A := A.asT Cn.z cc 5 tyC.1 tyC.2.1 tyC.2.2 [aC, nC] 2 rfl; CALL1 [2, 0] (printA_ b o hT) A rfl rfl rfl rfl rfl rfl rfl fun A => N hX 15 A rfl rfl fun A => have A := A.asT Cn.z cc 5 tyC.1 tyC.2.1 tyC.2.2 [aC] 3 rfl; have A := A.asT oz oc 27 tyO.1 tyO.2.1 tyO.2.2 o2 4 rfl; CALL1 [3, 4] judgeA_ A rfl rfl rfl rfl rfl rfl rfl fun A => N hX 13 A rfl rfl fun A => forkE 26 A rfl
  (fun h1 A => N hX 4 A rfl rfl fun A => forkE 30 A rfl
   (fun h2 A => N hX 4 A rfl rfl fun A => forkE 34 A rfl
    (fun h3 A => N hX 9 A rfl rfl fun A => forkE 43 A rfl
     (fun h4 A => N hX 7 A rfl (ok_d (by omega) <| ok_d (by omega) <| okE_nil) fun A => forkE 50 A rfl
      (fun h5 A => N hX 2 A rfl rfl fun A => have A := A.asT Cn.z cc 5 tyC.1 tyC.2.1 tyC.2.2 [aC] 6 rfl; CALL1 [6] (rightA_ 1) A rfl rfl rfl rfl rfl rfl rfl fun A => N hX 5 A rfl rfl fun A => RETN hX A rfl rfl rfl h0 rfl rfl rfl rfl rfl rfl)
      (fun h5 A => absurd rfl h5))
     (fun h4 A => absurd rfl h4))
    (fun h3 A => absurd rfl h3))
   (fun h2 A => absurd rfl h2))
  (fun h1 A => absurd rfl h1)
end Go.Proofs.YtedlaclfhgneeabGreatDoor.Cd
namespace Go.Proofs.YtedlaclfhgneeabGreatDoor
open Go.RowKit
set_option linter.unusedVariables false
set_option linter.unusedSimpArgs false
theorem fn_fac {P : Program} {f : Nat} {az : List SV} {H : Hp} {x : SV} {os : List (Nat × Obj)} {b : Nat} {o : Obj} (h : Fn P f az (H ++ [some (.fac b o)]) (Rt x (H ++ [some (.fac b o)]))) (hm : (b, o) ∈ os) (hro : ∀ (i : Nat) (e : Ent), H[i]? = some (some e) → ∃ s n g, e = .lst s n g) (hx : inS 0 x = true) : FnI (Gl os) P f az H (Rt x H) := by
  refine ⟨h.1, fun G w vs hM hI hv => ?_⟩
  obtain ⟨hb, _⟩ := hI (b, o) hm
  have at_ : ∀ (i : Nat) (e : Ent), (H ++ [some (.fac b o)])[i]? = some (some e) → (H[i]? = some (some e) ∧ i < H.length) ∨ (e = .fac b o ∧ i = H.length) := fun i e he => by
    by_cases hi : i < H.length
    · rw [List.getElem?_append_left hi] at he; exact .inl ⟨he, hi⟩
    · rw [List.getElem?_append_right (by omega)] at he
      cases hk : i - H.length with
      | zero => rw [hk] at he; cases he; exact .inr ⟨rfl, by omega⟩
      | succ k => rw [hk] at he; simp at he
  have ro_ : ∀ (i : Nat) (e : Ent), (H ++ [some (.fac b o)])[i]? = some (some e) → e.mut = false := fun i e he => by
    rcases at_ i e he with ⟨he, _⟩ | ⟨rfl, _⟩
    · obtain ⟨s, n, g, rfl⟩ := hro i e he; rfl
    · rfl
  have hM' : Mem (H ++ [some (.fac b o)]) (G ++ [some ⟨b, [], [], 0⟩]) w := mem_ro (by simp [hM.len]) fun i e he => by
    refine ⟨ro_ i e he, ?_⟩
    rcases at_ i e he with ⟨he, hi⟩ | ⟨rfl, hi⟩
    · obtain ⟨s, n, g, rfl⟩ := hro i e he
      have := hM.ent i _ he
      rw [List.getElem?_append_left (by rw [← hM.len]; exact hi)]
      exact this
    · rw [hi, hM.len, List.getElem?_append_right (Nat.le_refl _)]
      simp only [Nat.sub_self]
      exact ⟨_, rfl, rfl, hb⟩
  refine Calls.mono (h.2 _ w vs hM' (denL_mono _ az hv)) fun e w' hp => ?_
  obtain ⟨v, F, h1, h2, _, hg⟩ := post_ro hp ro_
  refine ⟨x, H, [], v, ⟨rfl, rfl⟩, ?_, h2, ?_, (Mix.refl _ w).grow hg, by rw [hM.len]; exact Nat.le_refl _, fun i e he _ => he, fun i e he hm L hL => ?_⟩
  · rw [← den_take x hx] at h1 ⊢; simpa using h1
  · rw [List.append_nil]; exact ⟨hM.len, fun i e he => (hM.ent i e he).mix hg.mix (fun _ _ _ => rfl), hM.sep⟩
  · rw [List.append_nil] at hL; exact .inl (mem_keys.2 ⟨i, e, L, he, hm, hL, rfl⟩)
end Go.Proofs.YtedlaclfhgneeabGreatDoor
namespace Go.Proofs.YtedlaclfhgneeabGreatDoor
open Go.RowKit
set_option linter.unusedVariables false
theorem able8_ (os : List (Nat × Obj)) (hM : ∀ w ks, Gl os w ks → ∃ m, w.cell? ⟨0, 0, none⟩ = some (.int .i64 m)) (hT : ∀ w ks, Gl os w ks → Lib.TabIs Tryz.prog w "internal/strconv.uint64pow10" .u64 Lib.pow10Tab) (hE : ∀ w ks, Gl os w ks → ∃ ev, w.cell? ⟨1, 0, none⟩ = some ev ∧ (ev = .nilIface ∨ ∃ te pe, ev = .iface te pe)) (b : Nat) (o : Obj) (hb : (b, o) ∈ os) (hT2 : ∀ w : World, w.heap[b]? = some o → Lib.TabIs Tryz.prog w "internal/strconv.uint64pow10" .u64 Lib.pow10Tab) : FnI (Gl os) Tryz.prog 18 [] [] (Rt .tt []) := fn_fac (H := []) (Cd.able_ b o hT2) hb (fun i e h => by simp at h) rfl
theorem cparses_ (ar : Int) (l : List UInt8) (os : List (Nat × Obj)) (hM : ∀ w ks, Gl os w ks → ∃ m, w.cell? ⟨0, 0, none⟩ = some (.int .i64 m)) (hT : ∀ w ks, Gl os w ks → Lib.TabIs Tryz.prog w "internal/strconv.uint64pow10" .u64 Lib.pow10Tab) (hE : ∀ w ks, Gl os w ks → ∃ ev, w.cell? ⟨1, 0, none⟩ = some ev ∧ (ev = .nilIface ∨ ∃ te pe, ev = .iface te pe)) (b : Nat) (o : Obj) (hb : (b, o) ∈ os) (hT2 : ∀ w : World, w.heap[b]? = some o → Lib.TabIs Tryz.prog w "internal/strconv.uint64pow10" .u64 Lib.pow10Tab) (h1 : l.length ≤ 140737488355328) : FnI (Gl os) Tryz.prog 6 [.int .i64 ar, .str l] [] (Rt .tt []) := cparses0_ ar l os hM hT hE (able8_ os hM hT hE b o hb hT2)
end Go.Proofs.YtedlaclfhgneeabGreatDoor
namespace Go.Proofs.YtedlaclfhgneeabGreatDoor
open Go.ChangeShapes Go.WideShapes Go.ChangeAt Go.RowKit
set_option linter.unusedVariables false
set_option linter.unusedSimpArgs false
set_option maxRecDepth 100000
theorem tab_fac {W : World} (h : Lib.TabIs Tryz.prog W "internal/strconv.uint64pow10" .u64 Lib.pow10Tab) : ∃ o, W.heap[5]? = some o ∧ ∀ w : World, w.heap[5]? = some o → Lib.TabIs Tryz.prog w "internal/strconv.uint64pow10" .u64 Lib.pow10Tab := by
  have hg : Tryz.prog.globalNamed "internal/strconv.uint64pow10" = some 5 := by kernel_rfl
  cases ho : W.heap[5]? with
  | none => unfold Lib.TabIs World.var? at h; rw [hg] at h; simp [ho] at h
  | some o =>
    refine ⟨o, rfl, fun w hw => ?_⟩
    unfold Lib.TabIs World.var? at h ⊢
    rw [hg] at h ⊢
    simp only [Option.bind_some, ho, hw] at h ⊢
    exact h
theorem cell_fac {W : World} {b k : Nat} {v : Value} (h : W.cell? ⟨b, k, none⟩ = some v) : ∃ o, W.heap[b]? = some o ∧ ∀ w : World, w.heap[b]? = some o → w.cell? ⟨b, k, none⟩ = some v := by
  cases ho : W.heap[b]? with
  | none => unfold World.cell? at h; simp [ho] at h
  | some o =>
    refine ⟨o, rfl, fun w hw => ?_⟩
    unfold World.cell? at h ⊢
    simp only [ho, hw] at h ⊢
    exact h
theorem call_of2 {f : Nat} {args : List SV} {vs : List Value} {W : World} (hT : Lib.TabIs Tryz.prog W "internal/strconv.uint64pow10" .u64 Lib.pow10Tab) (m0 : Int) (hm : W.cell? ⟨0, 0, none⟩ = some (.int .i64 m0)) (ev : Value) (he : W.cell? ⟨1, 0, none⟩ = some ev) (hev : ev = .nilIface ∨ ∃ te pe, ev = .iface te pe) {H : Hp} {G : Gr} (hro : ∀ (i : Nat) (e : Ent), H[i]? = some (some e) → e.mut = false) (hMm : Mem H G W) (hv : denL G args = some vs)
    (h : ∀ os : List (Nat × Obj), (∀ w ks, Gl os w ks → ∃ m, w.cell? ⟨0, 0, none⟩ = some (.int .i64 m)) → (∀ w ks, Gl os w ks → Lib.TabIs Tryz.prog w "internal/strconv.uint64pow10" .u64 Lib.pow10Tab) → (∀ w ks, Gl os w ks → ∃ ev, w.cell? ⟨1, 0, none⟩ = some ev ∧ (ev = .nilIface ∨ ∃ te pe, ev = .iface te pe)) → ∀ (b : Nat) (o : Obj), (b, o) ∈ os → (∀ w : World, w.heap[b]? = some o → Lib.TabIs Tryz.prog w "internal/strconv.uint64pow10" .u64 Lib.pow10Tab) → FnI (Gl os) Tryz.prog f args H (Rt .tt H)) : Calls Tryz.prog f vs.toArray W fun e W' => e = .returned (.bool true) ∧ Grow W W' := by
  obtain ⟨o5, k5, c5⟩ := tab_fac hT
  obtain ⟨o0, k0, c0⟩ := cell_fac hm
  obtain ⟨o1, k1, c1⟩ := cell_fac he
  have hk : ∀ k, (keys H G).contains k = false := fun k => by
    cases hc : (keys H G).contains k with
    | false => rfl
    | true =>
      obtain ⟨i, e', L, q1, q2, _⟩ := mem_keys.1 hc
      rw [hro i e' q1] at q2; cases q2
  have hG : Gl [(0, o0), (1, o1), (5, o5)] W (keys H G) := fun p hp => by
    simp only [List.mem_cons, List.not_mem_nil, or_false] at hp
    rcases hp with rfl | rfl | rfl
    · exact ⟨k0, hk _⟩
    · exact ⟨k1, hk _⟩
    · exact ⟨k5, hk _⟩
  have hf := h [(0, o0), (1, o1), (5, o5)] (fun w ks hg => ⟨m0, c0 w (hg (0, o0) (by simp)).1⟩) (fun w ks hg => c5 w (hg (5, o5) (by simp)).1) (fun w ks hg => ⟨ev, c1 w (hg (1, o1) (by simp)).1, hev⟩) 5 o5 (by simp) c5
  refine Calls.mono (hf.2 G W vs hMm hG hv) fun e W' hp => ?_
  obtain ⟨v, F, h1, h2, _, h4⟩ := post_ro hp hro
  cases h1
  exact ⟨h2, h4⟩
end Go.Proofs.YtedlaclfhgneeabGreatDoor
