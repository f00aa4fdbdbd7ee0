/- X86Prints, part 5: the engine, contracts, theory. -/
import Derived.Test.YtedlaclfhgneeaaGreatDoorX86PrintsP4
import Derived.WalkSmall
import Derived.ProofKit
import Derived.OpenShut
import Derived.ChangeOld
namespace Go.Proofs.YtedlaclfhgneeaaGreatDoor
open Go.RowKit
set_option linter.unusedVariables false
set_option linter.unusedSimpArgs false
set_option maxRecDepth 100000
set_option maxHeartbeats 2000000
set_option simprocs false
theorem nameF_le (r : Int) : (Old.nameF r).length ≤ 3 := by
  unfold Old.nameF
  split
  · exact Nat.zero_le _
  · cases h : Old.regsX[r.toNat]? with
    | none => exact Nat.zero_le _
    | some x =>
      have hm := List.mem_of_getElem? h
      have : ∀ x ∈ Old.regsX, x.length ≤ 3 := by decide
      exact this x hm
theorem locN_le (k : Nat) : (Old.locN k).length ≤ 1 := by
  unfold Old.locN; rw [List.length_drop, List.length_take]; omega
theorem tlX_le (n : Int) : (Old.tlX n).length ≤ 1 := by
  unfold Old.tlX; (repeat' split) <;> decide
theorem fnT_le (n : Int) : (Old.fnT n).length ≤ 3 := by
  unfold Old.fnT
  cases h : Old.fnsX[n.toNat]? with
  | none => exact Nat.zero_le _
  | some x =>
    have hm := List.mem_of_getElem? h
    have : ∀ x ∈ Old.fnsX, x.length ≤ 3 := by decide
    exact this x hm
theorem branT_le (z : Bool) : (Old.branT z).length ≤ 3 := by cases z <;> decide
theorem itoa_le (n : Int) (h : -9223372036854775808 ≤ n ∧ n ≤ 9223372036854775807) : (Lib.itoa n).length ≤ 21 := Lib.itoa_length_le n h.1 h.2
theorem numT_le (n : Int) (h : -9223372036854775808 ≤ n ∧ n ≤ 9223372036854775807) : (Old.numT n).length ≤ 22 := by
  have := itoa_le n h; unfold Old.numT; rw [List.length_append, List.length_cons, List.length_nil]; omega
theorem regOrT_le (r n : Int) (h : -9223372036854775808 ≤ n ∧ n ≤ 9223372036854775807) : (Old.regOrT r n).length ≤ 22 := by
  have := numT_le n h; have := nameF_le r; unfold Old.regOrT; split <;> omega
theorem memT_le (i : In) (h : -9223372036854775808 ≤ i.off ∧ i.off ≤ 9223372036854775807) : (Old.memT (toO i)).length ≤ 40 := by
  have := itoa_le i.off h; have := nameF_le i.ix; have := locN_le i.loc.toNat
  unfold Old.memT toO; (repeat' split) <;> simp only [List.length_append, List.length_cons, List.length_nil] <;> omega
structure TLI (n : Int) (k : Nat) : Prop where
  le : k ≤ 4
  h1 : 1 ≤ k → n ≠ 1
  h2 : 2 ≤ k → n ≠ 2
  h4 : 3 ≤ k → n ≠ 4
  h8 : 4 ≤ k → n ≠ 8
theorem TLI.i0 {n : Int} : TLI n 0 := ⟨by omega, by omega, by omega, by omega, by omega⟩
theorem sh_k (k : Nat) (h : k < 4) : (IntKind.wrap .i64 (1 * 2 ^ min ((k : Int)).toNat (IntKind.bits .i64))) = [1, 2, 4, 8].getD k 0 := by
  have : k = 0 ∨ k = 1 ∨ k = 2 ∨ k = 3 := by omega
  rcases this with e | e | e | e <;> subst e <;> decide +kernel
theorem TLI.nx {n : Int} {k : Nat} (hI : TLI n k) (h : k < 4) (hn : [1, 2, 4, 8].getD k 0 ≠ n) : TLI n (k + 1) := by
  have hk : k = 0 ∨ k = 1 ∨ k = 2 ∨ k = 3 := by omega
  have := hI.h1; have := hI.h2; have := hI.h4; have := hI.h8
  rcases hk with e | e | e | e <;> subst e <;> simp at hn <;> exact ⟨by omega, by omega, by omega, by omega, by omega⟩
theorem TLI.fi {n : Int} {k : Nat} (hI : TLI n k) (h : ¬ (k : Int) < 4) : Old.tlX n = [] := by
  have hk : 4 ≤ k := by omega
  have a1 := hI.h1 (by omega); have a2 := hI.h2 (by omega); have a4 := hI.h4 (by omega); have a8 := hI.h8 hk
  simp [Old.tlX, a1, a2, a4, a8]
theorem TLI.hit {n : Int} {k : Nat} (h : k < 4) (hn : [1, 2, 4, 8].getD k 0 = n) : Old.tlX n = ([[66], [87], [76], [81]] : List (List UInt8)).getD k [] := by
  have hk : k = 0 ∨ k = 1 ∨ k = 2 ∨ k = 3 := by omega
  rcases hk with e | e | e | e <;> subst e <;> subst hn <;> decide
theorem nameF_o {g : Int} (h : ((decide (g < 0)) || (decide (g > 7))) = true) : Old.nameF g = [] := by
  unfold Old.nameF
  simp only [Bool.or_eq_true, decide_eq_true_eq] at h
  rcases h with h | h
  · rw [if_pos h]
  · rw [if_neg (by omega), List.getElem?_eq_none (by show Old.regsX.length ≤ _; have : Old.regsX.length = 8 := rfl; omega)]; rfl
theorem nameF_i {g : Int} (h : ((decide (g < 0)) || (decide (g > 7))) = false) : Old.nameF g = [[82, 65, 88], [82, 66, 88], [82, 67, 88], [82, 68, 88], [82, 83, 73], [82, 68, 73], [82, 56], [82, 57]].getD g.toNat [] := by
  unfold Old.nameF
  simp only [Bool.or_eq_false_iff, decide_eq_false_iff_not] at h
  rw [if_neg h.1, List.getD_eq_getElem?_getD]; rfl
theorem rname_x (g : Int)  : Fn Tryz.prog 16 [.int .i64 1, .int .i64 g] [] (Rt (.str (Old.nameF g)) []) :=
 enterM (n := 37) (by kernel_rfl) Tryz.func16 rfl rfl rfl fun G w a h0 A => N hX 16 A rfl rfl fun A => fork 12 A rfl
  (fun h1 A => N hX 7 A rfl rfl fun A => RETN hX A rfl rfl rfl h0 rfl rfl rfl rfl (by rw [nameF_o h1]; rfl) rfl)
  (fun h1 A => N hX 27 A rfl rfl fun A => forkE 15 A rfl
   (fun h2 A => N hX 11 A rfl (ok_d (by have hz := h1; simp only [Bool.or_eq_false_iff, decide_eq_false_iff_not] at hz; (try simp only [List.length_cons, List.length_nil, List.length_drop, List.length_take]); omega) <| ok_d (by have hz := h1; simp only [Bool.or_eq_false_iff, decide_eq_false_iff_not] at hz; (try simp only [List.length_cons, List.length_nil, List.length_drop, List.length_take]); omega) <| okE_nil) fun A => RETN hX A rfl rfl rfl h0 rfl rfl rfl rfl (by rw [nameF_i h1]; rfl) rfl)
   (fun h2 A => absurd rfl h2))
theorem rloc_x (g : Int) (hr : 0 ≤ g ∧ g < 3) : Fn Tryz.prog 170 [.int .i64 g] [] (Rt (.str (Old.locN g.toNat)) []) :=
 enterM (n := 7) (by kernel_rfl) Tryz.func170 rfl rfl rfl fun G w a h0 A => N hX 15 A rfl (ok_d (by (try simp only [List.length_cons, List.length_nil]); omega) <| ok_d (by (try simp only [List.length_cons, List.length_nil]); omega) <| okE_nil) fun A => RETN hX A rfl rfl rfl h0 rfl rfl rfl rfl (by have : g = 0 ∨ g = 1 ∨ g = 2 := (by omega); rcases this with e | e | e <;> subst e <;> rfl) rfl
theorem rnum_x (v : Int) (hv : -9223372036854775808 ≤ v ∧ v ≤ 9223372036854775807) : Fn Tryz.prog 85 [.int .i64 1, .int .i64 v] [] (Rt (.str (Old.numT v)) []) :=
 enterM (n := 18) (by kernel_rfl) Tryz.func85 rfl rfl rfl fun G w a h0 A => N hX 18 A rfl rfl fun A => forkE 6 A rfl
  (fun h1 A => N hX 4 A rfl rfl fun A => CALL1 [] (digits v (by have q0 := hv; have q1 := itoa_le v hv; (try simp only [List.length_append, List.length_cons, List.length_nil]); omega) (by have q0 := hv; have q1 := itoa_le v hv; (try simp only [List.length_append, List.length_cons, List.length_nil]); omega)) A rfl rfl rfl rfl rfl rfl rfl fun A => N hX 5 A rfl (ok_d (by have q0 := hv; have q1 := itoa_le v hv; (try simp only [List.length_append, List.length_cons, List.length_nil]); omega) <| okE_nil) fun A => RETN hX A rfl rfl rfl h0 rfl rfl rfl rfl (by set_option simprocs true in (revert h1; simp +contextual [oneS, nb, nbL, nbH, Old.numT])) rfl)
  (fun h1 A => absurd rfl h1)
theorem ror_x (r : Int) (v : Int) (hv : -9223372036854775808 ≤ v ∧ v ≤ 9223372036854775807) : Fn Tryz.prog 87 [.int .i64 1, .int .i64 r, .int .i64 v] [] (Rt (.str (Old.regOrT r v)) []) :=
 enterM (n := 15) (by kernel_rfl) Tryz.func87 rfl rfl rfl fun G w a h0 A => N hX 12 A rfl rfl fun A => forkD 8 A rfl
  (fun h1 A => N hX 5 A rfl rfl fun A => CALL1 [] (rnum_x v (by have q0 := hv; have q1 := numT_le v hv; have q2 := nameF_le r; (try simp only [List.length_append, List.length_cons, List.length_nil]); omega)) A rfl rfl rfl rfl rfl rfl rfl fun A => N hX 4 A rfl rfl fun A => RETN hX A rfl rfl rfl h0 rfl rfl rfl rfl (by set_option simprocs true in (revert h1; first | (simp +contextual [oneS, nb, nbL, nbH, Old.regOrT]; done) | (by_cases a0 : r < 0 <;> simp +contextual [oneS, nb, nbL, nbH, Old.regOrT, a0]))) rfl)
  (fun h1 A => N hX 7 A rfl rfl fun A => CALL1 [] (rname_x r) A rfl rfl rfl rfl rfl rfl rfl fun A => N hX 4 A rfl rfl fun A => RETN hX A rfl rfl rfl h0 rfl rfl rfl rfl (by set_option simprocs true in (revert h1; first | (simp +contextual [oneS, nb, nbL, nbH, Old.regOrT]; done) | (by_cases a0 : r < 0 <;> simp +contextual [oneS, nb, nbL, nbH, Old.regOrT, a0]))) rfl)
theorem rmem_x (i : In) (hl : 0 ≤ i.loc ∧ i.loc < 3) (ho : -9223372036854775808 ≤ i.off ∧ i.off ≤ 9223372036854775807) : Fn Tryz.prog 128 [.int .i64 1, .agg (inQ9 i)] [] (Rt (.str (Old.memT (toO i))) []) :=
 enterM (n := 31) (by kernel_rfl) Tryz.func128 rfl rfl rfl fun G w a h0 A => N hX 10 A rfl rfl fun A => CALL1 [] (rloc_x i.loc (by have q0 := hl; have q1 := ho; have q2 := itoa_le i.off ho; have q3 := nameF_le i.ix; have q4 := locN_le i.loc.toNat; (try simp only [List.length_append, List.length_cons, List.length_nil]); omega)) A rfl rfl rfl rfl rfl rfl rfl fun A => N hX 6 A rfl (ok_d (by have q0 := hl; have q1 := ho; have q2 := itoa_le i.off ho; have q3 := nameF_le i.ix; have q4 := locN_le i.loc.toNat; (try simp only [List.length_append, List.length_cons, List.length_nil]); omega) <| okE_nil) fun A => N hX 6 A rfl rfl fun A => forkN 12 A rfl
  (fun h1 A => N hX 6 A rfl (ok_d (by have q0 := hl; have q1 := ho; have q2 := itoa_le i.off ho; have q3 := nameF_le i.ix; have q4 := locN_le i.loc.toNat; (try simp only [List.length_append, List.length_cons, List.length_nil]); omega) <| okE_nil) fun A => CALL1 [] (digits i.off (by have q0 := hl; have q1 := ho; have q2 := itoa_le i.off ho; have q3 := nameF_le i.ix; have q4 := locN_le i.loc.toNat; (try simp only [List.length_append, List.length_cons, List.length_nil]); omega) (by have q0 := hl; have q1 := ho; have q2 := itoa_le i.off ho; have q3 := nameF_le i.ix; have q4 := locN_le i.loc.toNat; (try simp only [List.length_append, List.length_cons, List.length_nil]); omega)) A rfl rfl rfl rfl rfl rfl rfl fun A => N hX 6 A rfl (ok_d (by have q0 := hl; have q1 := ho; have q2 := itoa_le i.off ho; have q3 := nameF_le i.ix; have q4 := locN_le i.loc.toNat; (try simp only [List.length_append, List.length_cons, List.length_nil]); omega) <| okE_nil) fun A => N hX 6 A rfl rfl fun A => forkD 21 A rfl
   (fun h2 A => N hX 7 A rfl (ok_d (by have q0 := hl; have q1 := ho; have q2 := itoa_le i.off ho; have q3 := nameF_le i.ix; have q4 := locN_le i.loc.toNat; (try simp only [List.length_append, List.length_cons, List.length_nil]); omega) <| okE_nil) fun A => CALL1 [] (rname_x i.ix) A rfl rfl rfl rfl rfl rfl rfl fun A => N hX 5 A rfl (ok_d (by have q0 := hl; have q1 := ho; have q2 := itoa_le i.off ho; have q3 := nameF_le i.ix; have q4 := locN_le i.loc.toNat; (try simp only [List.length_append, List.length_cons, List.length_nil]); omega) <| okE_nil) fun A => N hX 7 A rfl (ok_d (by have q0 := hl; have q1 := ho; have q2 := itoa_le i.off ho; have q3 := nameF_le i.ix; have q4 := locN_le i.loc.toNat; (try simp only [List.length_append, List.length_cons, List.length_nil]); omega) <| okE_nil) fun A => RETN hX A rfl rfl rfl h0 rfl rfl rfl rfl (by set_option simprocs true in (revert h1 h2; simp +contextual [oneS, nb, nbL, nbH, Old.memT, toO])) rfl)
   (fun h2 A => N hX 11 A rfl (ok_d (by have q0 := hl; have q1 := ho; have q2 := itoa_le i.off ho; have q3 := nameF_le i.ix; have q4 := locN_le i.loc.toNat; (try simp only [List.length_append, List.length_cons, List.length_nil]); omega) <| okE_nil) fun A => RETN hX A rfl rfl rfl h0 rfl rfl rfl rfl (by set_option simprocs true in (revert h1 h2; simp +contextual [oneS, nb, nbL, nbH, Old.memT, toO])) rfl))
  (fun h1 A => N hX 11 A rfl rfl fun A => forkD 21 A rfl
   (fun h3 A => N hX 7 A rfl (ok_d (by have q0 := hl; have q1 := ho; have q2 := itoa_le i.off ho; have q3 := nameF_le i.ix; have q4 := locN_le i.loc.toNat; (try simp only [List.length_append, List.length_cons, List.length_nil]); omega) <| okE_nil) fun A => CALL1 [] (rname_x i.ix) A rfl rfl rfl rfl rfl rfl rfl fun A => N hX 5 A rfl (ok_d (by have q0 := hl; have q1 := ho; have q2 := itoa_le i.off ho; have q3 := nameF_le i.ix; have q4 := locN_le i.loc.toNat; (try simp only [List.length_append, List.length_cons, List.length_nil]); omega) <| okE_nil) fun A => N hX 7 A rfl (ok_d (by have q0 := hl; have q1 := ho; have q2 := itoa_le i.off ho; have q3 := nameF_le i.ix; have q4 := locN_le i.loc.toNat; (try simp only [List.length_append, List.length_cons, List.length_nil]); omega) <| okE_nil) fun A => RETN hX A rfl rfl rfl h0 rfl rfl rfl rfl (by set_option simprocs true in (revert h1 h3; simp +contextual [oneS, nb, nbL, nbH, Old.memT, toO])) rfl)
   (fun h3 A => N hX 11 A rfl (ok_d (by have q0 := hl; have q1 := ho; have q2 := itoa_le i.off ho; have q3 := nameF_le i.ix; have q4 := locN_le i.loc.toNat; (try simp only [List.length_append, List.length_cons, List.length_nil]); omega) <| okE_nil) fun A => RETN hX A rfl rfl rfl h0 rfl rfl rfl rfl (by set_option simprocs true in (revert h1 h3; simp +contextual [oneS, nb, nbL, nbH, Old.memT, toO])) rfl))
theorem rbr_x (z : Bool)  : Fn Tryz.prog 88 [.int .i64 1, .bool z] [] (Rt (.str (Old.branT z)) []) :=
 enterM (n := 20) (by kernel_rfl) Tryz.func88 rfl rfl rfl fun G w a h0 A => N hX 18 A rfl rfl fun A => forkE 8 A rfl
  (fun h1 A => absurd h1 (by decide))
  (fun h1 A => N hX 10 A rfl rfl fun A => forkE 11 A rfl
   (fun h2 A => absurd h2 (by decide))
   (fun h2 A => N hX 9 A rfl rfl fun A => fork 13 A rfl
    (fun h3 A => N hX 10 A rfl (ok_d (by (try simp only [List.length_append, List.length_cons, List.length_nil]); omega) <| ok_d (by (try simp only [List.length_append, List.length_cons, List.length_nil]); omega) <| okE_nil) fun A => RETN hX A rfl rfl rfl h0 rfl rfl rfl rfl (by set_option simprocs true in (revert h1 h2 h3; simp +contextual [oneS, nb, nbL, nbH, Old.branT])) rfl)
    (fun h3 A => N hX 12 A rfl (ok_d (by (try simp only [List.length_append, List.length_cons, List.length_nil]); omega) <| ok_d (by (try simp only [List.length_append, List.length_cons, List.length_nil]); omega) <| okE_nil) fun A => RETN hX A rfl rfl rfl h0 rfl rfl rfl rfl (by set_option simprocs true in (revert h1 h2 h3; simp +contextual [oneS, nb, nbL, nbH, Old.branT])) rfl)))
theorem rtail_x (v : Int)  : Fn Tryz.prog 117 [.int .i64 1, .int .i64 v] [] (Rt (.str (Old.tlX v)) []) :=
 enterM (n := 31) (by kernel_rfl) Tryz.func117 rfl rfl rfl fun G w a h0 A => N hX 12 A rfl rfl fun A => LOOP1 (fun (k : Nat) => [(0, .int .i64 1), (1, .int .i64 v), (4, .str []), (5, .int .i64 (k : Int))]) (fun (k : Nat) => []) (fun (k : Nat) => TLI v k) (fun (k : Nat) => 4 - k) 0 TLI.i0 ((A.cut [0, 1, 4, 5] rfl).trunc 0 rfl rfl rfl (by simp only [List.length_cons, List.length_nil] at h0; omega)) fun k hI {G a w} A => N hX 7 A rfl rfl fun A => forkD 7 A rfl
   (fun h1 A => N hX 14 A rfl (ok_d (by have := hI.le; (try simp only [List.length_cons, List.length_nil]); omega) <| okE_nil) fun A => forkN 13 A rfl
    (fun h2 A => N hX 8 A rfl (ok_d (by have := hI.le; (try simp only [List.length_cons, List.length_nil]); omega) <| okE_nil) fun A => ⟨k + 1, _, (by omega), (hI.nx (by omega) (by rw [← sh_k k (by omega)]; exact h2)), ((A.cut [0, 1, 4, 5] rfl).trunc 0 rfl rfl rfl (by simp only [List.length_cons, List.length_nil] at h0; omega))⟩)
    (fun h2 A => N hX 16 A rfl rfl fun A => forkE 15 A rfl
     (fun h3 A => N hX 11 A rfl (ok_d (by have := hI.le; (try simp only [List.length_cons, List.length_nil]); omega) <| ok_d (by have := hI.le; (try simp only [List.length_cons, List.length_nil]); omega) <| okE_nil) fun A => RETN hX A rfl rfl rfl h0 rfl rfl rfl rfl (by rw [TLI.hit (k := k) (by omega) ((sh_k k (by omega)).symm.trans h2)]; have : k = 0 ∨ k = 1 ∨ k = 2 ∨ k = 3 := (by omega); rcases this with e | e | e | e <;> subst e <;> rfl) rfl)
     (fun h3 A => absurd rfl h3)))
   (fun h1 A => N hX 9 A rfl rfl fun A => RETN hX A rfl rfl rfl h0 rfl rfl rfl rfl (by rw [hI.fi h1]; rfl) rfl)
theorem rfn_x (v : Int) (hv : 0 ≤ v ∧ v < 6) : Fn Tryz.prog 86 [.int .i64 1, .int .i64 v] [] (Rt (.str (Old.fnT v)) []) :=
 enterM (n := 22) (by kernel_rfl) Tryz.func86 rfl rfl rfl fun G w a h0 A => N hX 18 A rfl rfl fun A => forkE 6 A rfl
  (fun h1 A => absurd h1 (by decide))
  (fun h1 A => N hX 7 A rfl rfl fun A => forkE 12 A rfl
   (fun h2 A => absurd h2 (by decide))
   (fun h2 A => N hX 14 A rfl (ok_d (by have q0 := hv; (try simp only [List.length_append, List.length_cons, List.length_nil]); omega) <| ok_d (by have q0 := hv; (try simp only [List.length_append, List.length_cons, List.length_nil]); omega) <| okE_nil) fun A => RETN hX A rfl rfl rfl h0 rfl rfl rfl rfl (by have : v = 0 ∨ v = 1 ∨ v = 2 ∨ v = 3 ∨ v = 4 ∨ v = 5 := (by omega); rcases this with e | e | e | e | e | e <;> subst e <;> rfl) rfl))
theorem rfen_x (i : In)  : Fn Tryz.prog 89 [.int .i64 1, .agg (inQ9 i)] [] (Rt (.str (Old.fenT (toO i))) []) :=
 enterM (n := 87) (by kernel_rfl) Tryz.func89 rfl rfl rfl fun G w a h0 A => N hX 26 A rfl rfl fun A => fork 7 A rfl
  (fun h1 A => N hX 7 A rfl rfl fun A => RETN hX A rfl rfl rfl h0 rfl rfl rfl rfl (by set_option simprocs true in (revert h1; first | (simp +contextual [oneS, nb, nbL, nbH, Old.fenT, toO]; done) | (by_cases a0 : i.op = 8 <;> by_cases a1 : i.pred = 3 <;> by_cases a2 : i.succ = 3 <;> simp +contextual [oneS, nb, nbL, nbH, Old.fenT, toO, a0, a1, a2]))) rfl)
  (fun h1 A => N hX 9 A rfl rfl fun A => forkE 15 A rfl
   (fun h2 A => N hX 7 A rfl rfl fun A => RETN hX A rfl rfl rfl h0 rfl rfl rfl rfl (by set_option simprocs true in (revert h1 h2; first | (simp +contextual [oneS, nb, nbL, nbH, Old.fenT, toO]; done) | (by_cases a0 : i.op = 8 <;> by_cases a1 : i.pred = 3 <;> by_cases a2 : i.succ = 3 <;> simp +contextual [oneS, nb, nbL, nbH, Old.fenT, toO, a0, a1, a2]))) rfl)
   (fun h2 A => N hX 8 A rfl rfl fun A => forkE 19 A rfl
    (fun h3 A => absurd h3 (by decide))
    (fun h3 A => N hX 18 A rfl rfl fun A => fork 35 A rfl
     (fun h4 A => N hX 7 A rfl rfl fun A => RETN hX A rfl rfl rfl h0 rfl rfl rfl rfl (by set_option simprocs true in (revert h1 h2 h3 h4; first | (simp +contextual [oneS, nb, nbL, nbH, Old.fenT, toO]; done) | (by_cases a0 : i.op = 8 <;> by_cases a1 : i.pred = 3 <;> by_cases a2 : i.succ = 3 <;> simp +contextual [oneS, nb, nbL, nbH, Old.fenT, toO, a0, a1, a2]))) rfl)
     (fun h4 A => N hX 18 A rfl rfl fun A => fork 48 A rfl
      (fun h5 A => N hX 7 A rfl rfl fun A => RETN hX A rfl rfl rfl h0 rfl rfl rfl rfl (by set_option simprocs true in (revert h1 h2 h3 h4 h5; first | (simp +contextual [oneS, nb, nbL, nbH, Old.fenT, toO]; done) | (by_cases a0 : i.op = 8 <;> by_cases a1 : i.pred = 3 <;> by_cases a2 : i.succ = 3 <;> simp +contextual [oneS, nb, nbL, nbH, Old.fenT, toO, a0, a1, a2]))) rfl)
      (fun h5 A => N hX 18 A rfl rfl fun A => fork 61 A rfl
       (fun h6 A => N hX 7 A rfl rfl fun A => RETN hX A rfl rfl rfl h0 rfl rfl rfl rfl (by set_option simprocs true in (revert h1 h2 h3 h4 h5 h6; first | (simp +contextual [oneS, nb, nbL, nbH, Old.fenT, toO]; done) | (by_cases a0 : i.op = 8 <;> by_cases a1 : i.pred = 3 <;> by_cases a2 : i.succ = 3 <;> simp +contextual [oneS, nb, nbL, nbH, Old.fenT, toO, a0, a1, a2]))) rfl)
       (fun h6 A => N hX 18 A rfl rfl fun A => fork 74 A rfl
        (fun h7 A => N hX 7 A rfl rfl fun A => RETN hX A rfl rfl rfl h0 rfl rfl rfl rfl (by set_option simprocs true in (revert h1 h2 h3 h4 h5 h6 h7; first | (simp +contextual [oneS, nb, nbL, nbH, Old.fenT, toO]; done) | (by_cases a0 : i.op = 8 <;> by_cases a1 : i.pred = 3 <;> by_cases a2 : i.succ = 3 <;> simp +contextual [oneS, nb, nbL, nbH, Old.fenT, toO, a0, a1, a2]))) rfl)
        (fun h7 A => N hX 10 A rfl rfl fun A => RETN hX A rfl rfl rfl h0 rfl rfl rfl rfl (by set_option simprocs true in (revert h1 h2 h3 h4 h5 h6 h7; first | (simp +contextual [oneS, nb, nbL, nbH, Old.fenT, toO]; done) | (by_cases a0 : i.op = 8 <;> by_cases a1 : i.pred = 3 <;> by_cases a2 : i.succ = 3 <;> simp +contextual [oneS, nb, nbL, nbH, Old.fenT, toO, a0, a1, a2]))) rfl)))))))
theorem rrmw_x (i : In) (ds : List UInt8) (az : List UInt8) (ts : List UInt8) (ms : List UInt8) (hd : ds.length ≤ 1000 ∧ ts.length ≤ 1000 ∧ ms.length ≤ 1000) : Fn Tryz.prog 129 [.int .i64 1, .agg (inQ9 i), .str ds, .str az, .str ts, .str ms] [] (Rt (.str (Old.rmwT (toO i) ds az ts ms)) []) :=
 enterM (n := 101) (by kernel_rfl) Tryz.func129 rfl rfl rfl fun G w a h0 A => N hX 19 A rfl rfl fun A => forkE 16 A rfl
  (fun h1 A => N hX 21 A rfl rfl fun A => fork 32 A rfl
   (fun h2 A => N hX 7 A rfl rfl fun A => RETN hX A rfl rfl rfl h0 rfl rfl rfl rfl (by set_option simprocs true in (revert h1 h2; first | (simp +contextual [oneS, nb, nbL, nbH, Old.rmwT, toO]; done) | (by_cases a0 : i.dst = i.ra <;> cases a1 : i.acq <;> cases a2 : i.rel <;> by_cases a3 : i.fn = 1 <;> simp +contextual [oneS, nb, nbL, nbH, Old.rmwT, toO, a0, a1, a2, a3]))) rfl)
   (fun h2 A => N hX 11 A rfl rfl fun A => forkE 35 A rfl
    (fun h3 A => N hX 15 A rfl (ok_d (by have q0 := hd; (try simp only [List.length_append, List.length_cons, List.length_nil]); omega) <| ok_d (by have q0 := hd; (try simp only [List.length_append, List.length_cons, List.length_nil]); omega) <| ok_d (by have q0 := hd; (try simp only [List.length_append, List.length_cons, List.length_nil]); omega) <| ok_d (by have q0 := hd; (try simp only [List.length_append, List.length_cons, List.length_nil]); omega) <| ok_d (by have q0 := hd; (try simp only [List.length_append, List.length_cons, List.length_nil]); omega) <| okE_nil) fun A => RETN hX A rfl rfl rfl h0 rfl rfl rfl rfl (by set_option simprocs true in (revert h1 h2 h3; first | (simp +contextual [oneS, nb, nbL, nbH, Old.rmwT, toO]; done) | (by_cases a0 : i.dst = i.ra <;> cases a1 : i.acq <;> cases a2 : i.rel <;> by_cases a3 : i.fn = 1 <;> simp +contextual [oneS, nb, nbL, nbH, Old.rmwT, toO, a0, a1, a2, a3]))) rfl)
    (fun h3 A => N hX 17 A rfl (ok_d (by have q0 := hd; (try simp only [List.length_append, List.length_cons, List.length_nil]); omega) <| ok_d (by have q0 := hd; (try simp only [List.length_append, List.length_cons, List.length_nil]); omega) <| ok_d (by have q0 := hd; (try simp only [List.length_append, List.length_cons, List.length_nil]); omega) <| ok_d (by have q0 := hd; (try simp only [List.length_append, List.length_cons, List.length_nil]); omega) <| ok_d (by have q0 := hd; (try simp only [List.length_append, List.length_cons, List.length_nil]); omega) <| okE_nil) fun A => RETN hX A rfl rfl rfl h0 rfl rfl rfl rfl (by set_option simprocs true in (revert h1 h2 h3; first | (simp +contextual [oneS, nb, nbL, nbH, Old.rmwT, toO]; done) | (by_cases a0 : i.dst = i.ra <;> cases a1 : i.acq <;> cases a2 : i.rel <;> by_cases a3 : i.fn = 1 <;> simp +contextual [oneS, nb, nbL, nbH, Old.rmwT, toO, a0, a1, a2, a3]))) rfl)))
  (fun h1 A => absurd rfl h1)
theorem racc_x (i : In) (ds : List UInt8) (az : List UInt8) (hl : 0 ≤ i.loc ∧ i.loc < 3) (ho : -9223372036854775808 ≤ i.off ∧ i.off ≤ 9223372036854775807) (hm : -9223372036854775808 ≤ i.imm ∧ i.imm ≤ 9223372036854775807) (hd : ds.length ≤ 1000 ∧ az.length ≤ 1000) : Fn Tryz.prog 90 [.int .i64 1, .agg (inQ9 i), .str ds, .str az] [] (Rt (.str (Old.accT (toO i) ds az)) []) :=
 enterM (n := 153) (by kernel_rfl) Tryz.func90 rfl rfl rfl fun G w a h0 A => N hX 11 A rfl rfl fun A => CALL1 [] (rtail_x i.sz) A rfl rfl rfl rfl rfl rfl rfl fun A => N hX 7 A rfl rfl fun A => CALL1 [] (rmem_x i (by have q0 := hl; have q1 := ho; have q2 := hm; have q3 := hd; have q4 := tlX_le i.sz; have q5 := memT_le i ho; have q6 := regOrT_le i.ra i.imm hm; (try simp only [List.length_append, List.length_cons, List.length_nil]); omega) (by have q0 := hl; have q1 := ho; have q2 := hm; have q3 := hd; have q4 := tlX_le i.sz; have q5 := memT_le i ho; have q6 := regOrT_le i.ra i.imm hm; (try simp only [List.length_append, List.length_cons, List.length_nil]); omega)) A rfl rfl rfl rfl rfl rfl rfl fun A => N hX 17 A rfl rfl fun A => fork 20 A rfl
  (fun h1 A => N hX 13 A rfl rfl fun A => fork 29 A rfl
   (fun h2 A => N hX 12 A rfl rfl fun A => fork 31 A rfl
    (fun h3 A => N hX 20 A rfl (ok_d (by have q0 := hl; have q1 := ho; have q2 := hm; have q3 := hd; have q4 := tlX_le i.sz; have q5 := memT_le i ho; have q6 := regOrT_le i.ra i.imm hm; (try simp only [List.length_append, List.length_cons, List.length_nil]); omega) <| ok_d (by have q0 := hl; have q1 := ho; have q2 := hm; have q3 := hd; have q4 := tlX_le i.sz; have q5 := memT_le i ho; have q6 := regOrT_le i.ra i.imm hm; (try simp only [List.length_append, List.length_cons, List.length_nil]); omega) <| ok_d (by have q0 := hl; have q1 := ho; have q2 := hm; have q3 := hd; have q4 := tlX_le i.sz; have q5 := memT_le i ho; have q6 := regOrT_le i.ra i.imm hm; (try simp only [List.length_append, List.length_cons, List.length_nil]); omega) <| ok_d (by have q0 := hl; have q1 := ho; have q2 := hm; have q3 := hd; have q4 := tlX_le i.sz; have q5 := memT_le i ho; have q6 := regOrT_le i.ra i.imm hm; (try simp only [List.length_append, List.length_cons, List.length_nil]); omega) <| ok_d (by have q0 := hl; have q1 := ho; have q2 := hm; have q3 := hd; have q4 := tlX_le i.sz; have q5 := memT_le i ho; have q6 := regOrT_le i.ra i.imm hm; (try simp only [List.length_append, List.length_cons, List.length_nil]); omega) <| okE_nil) fun A => RETN hX A rfl rfl rfl h0 rfl rfl rfl rfl (by set_option simprocs true in (revert h1 h2 h3; first | (simp +contextual [oneS, nb, nbL, nbH, Old.accT, toO]; done) | (by_cases a0 : i.op = 4 <;> by_cases a1 : i.op = 5 <;> cases a2 : i.acq <;> cases a3 : i.weak <;> cases a4 : i.rel <;> simp +contextual [oneS, nb, nbL, nbH, Old.accT, toO, a0, a1, a2, a3, a4]))) rfl)
    (fun h3 A => N hX 18 A rfl (ok_d (by have q0 := hl; have q1 := ho; have q2 := hm; have q3 := hd; have q4 := tlX_le i.sz; have q5 := memT_le i ho; have q6 := regOrT_le i.ra i.imm hm; (try simp only [List.length_append, List.length_cons, List.length_nil]); omega) <| ok_d (by have q0 := hl; have q1 := ho; have q2 := hm; have q3 := hd; have q4 := tlX_le i.sz; have q5 := memT_le i ho; have q6 := regOrT_le i.ra i.imm hm; (try simp only [List.length_append, List.length_cons, List.length_nil]); omega) <| ok_d (by have q0 := hl; have q1 := ho; have q2 := hm; have q3 := hd; have q4 := tlX_le i.sz; have q5 := memT_le i ho; have q6 := regOrT_le i.ra i.imm hm; (try simp only [List.length_append, List.length_cons, List.length_nil]); omega) <| ok_d (by have q0 := hl; have q1 := ho; have q2 := hm; have q3 := hd; have q4 := tlX_le i.sz; have q5 := memT_le i ho; have q6 := regOrT_le i.ra i.imm hm; (try simp only [List.length_append, List.length_cons, List.length_nil]); omega) <| ok_d (by have q0 := hl; have q1 := ho; have q2 := hm; have q3 := hd; have q4 := tlX_le i.sz; have q5 := memT_le i ho; have q6 := regOrT_le i.ra i.imm hm; (try simp only [List.length_append, List.length_cons, List.length_nil]); omega) <| okE_nil) fun A => RETN hX A rfl rfl rfl h0 rfl rfl rfl rfl (by set_option simprocs true in (revert h1 h2 h3; first | (simp +contextual [oneS, nb, nbL, nbH, Old.accT, toO]; done) | (by_cases a0 : i.op = 4 <;> by_cases a1 : i.op = 5 <;> cases a2 : i.acq <;> cases a3 : i.weak <;> cases a4 : i.rel <;> simp +contextual [oneS, nb, nbL, nbH, Old.accT, toO, a0, a1, a2, a3, a4]))) rfl))
   (fun h2 A => N hX 10 A rfl rfl fun A => fork 31 A rfl
    (fun h4 A => N hX 20 A rfl (ok_d (by have q0 := hl; have q1 := ho; have q2 := hm; have q3 := hd; have q4 := tlX_le i.sz; have q5 := memT_le i ho; have q6 := regOrT_le i.ra i.imm hm; (try simp only [List.length_append, List.length_cons, List.length_nil]); omega) <| ok_d (by have q0 := hl; have q1 := ho; have q2 := hm; have q3 := hd; have q4 := tlX_le i.sz; have q5 := memT_le i ho; have q6 := regOrT_le i.ra i.imm hm; (try simp only [List.length_append, List.length_cons, List.length_nil]); omega) <| ok_d (by have q0 := hl; have q1 := ho; have q2 := hm; have q3 := hd; have q4 := tlX_le i.sz; have q5 := memT_le i ho; have q6 := regOrT_le i.ra i.imm hm; (try simp only [List.length_append, List.length_cons, List.length_nil]); omega) <| ok_d (by have q0 := hl; have q1 := ho; have q2 := hm; have q3 := hd; have q4 := tlX_le i.sz; have q5 := memT_le i ho; have q6 := regOrT_le i.ra i.imm hm; (try simp only [List.length_append, List.length_cons, List.length_nil]); omega) <| ok_d (by have q0 := hl; have q1 := ho; have q2 := hm; have q3 := hd; have q4 := tlX_le i.sz; have q5 := memT_le i ho; have q6 := regOrT_le i.ra i.imm hm; (try simp only [List.length_append, List.length_cons, List.length_nil]); omega) <| okE_nil) fun A => RETN hX A rfl rfl rfl h0 rfl rfl rfl rfl (by set_option simprocs true in (revert h1 h2 h4; first | (simp +contextual [oneS, nb, nbL, nbH, Old.accT, toO]; done) | (by_cases a0 : i.op = 4 <;> by_cases a1 : i.op = 5 <;> cases a2 : i.acq <;> cases a3 : i.weak <;> cases a4 : i.rel <;> simp +contextual [oneS, nb, nbL, nbH, Old.accT, toO, a0, a1, a2, a3, a4]))) rfl)
    (fun h4 A => N hX 18 A rfl (ok_d (by have q0 := hl; have q1 := ho; have q2 := hm; have q3 := hd; have q4 := tlX_le i.sz; have q5 := memT_le i ho; have q6 := regOrT_le i.ra i.imm hm; (try simp only [List.length_append, List.length_cons, List.length_nil]); omega) <| ok_d (by have q0 := hl; have q1 := ho; have q2 := hm; have q3 := hd; have q4 := tlX_le i.sz; have q5 := memT_le i ho; have q6 := regOrT_le i.ra i.imm hm; (try simp only [List.length_append, List.length_cons, List.length_nil]); omega) <| ok_d (by have q0 := hl; have q1 := ho; have q2 := hm; have q3 := hd; have q4 := tlX_le i.sz; have q5 := memT_le i ho; have q6 := regOrT_le i.ra i.imm hm; (try simp only [List.length_append, List.length_cons, List.length_nil]); omega) <| ok_d (by have q0 := hl; have q1 := ho; have q2 := hm; have q3 := hd; have q4 := tlX_le i.sz; have q5 := memT_le i ho; have q6 := regOrT_le i.ra i.imm hm; (try simp only [List.length_append, List.length_cons, List.length_nil]); omega) <| ok_d (by have q0 := hl; have q1 := ho; have q2 := hm; have q3 := hd; have q4 := tlX_le i.sz; have q5 := memT_le i ho; have q6 := regOrT_le i.ra i.imm hm; (try simp only [List.length_append, List.length_cons, List.length_nil]); omega) <| okE_nil) fun A => RETN hX A rfl rfl rfl h0 rfl rfl rfl rfl (by set_option simprocs true in (revert h1 h2 h4; first | (simp +contextual [oneS, nb, nbL, nbH, Old.accT, toO]; done) | (by_cases a0 : i.op = 4 <;> by_cases a1 : i.op = 5 <;> cases a2 : i.acq <;> cases a3 : i.weak <;> cases a4 : i.rel <;> simp +contextual [oneS, nb, nbL, nbH, Old.accT, toO, a0, a1, a2, a3, a4]))) rfl)))
  (fun h1 A => N hX 17 A rfl rfl fun A => fork 41 A rfl
   (fun h5 A => N hX 7 A rfl rfl fun A => RETN hX A rfl rfl rfl h0 rfl rfl rfl rfl (by set_option simprocs true in (revert h1 h5; first | (simp +contextual [oneS, nb, nbL, nbH, Old.accT, toO]; done) | (by_cases a0 : i.op = 4 <;> by_cases a1 : i.op = 5 <;> cases a2 : i.acq <;> cases a3 : i.weak <;> cases a4 : i.rel <;> simp +contextual [oneS, nb, nbL, nbH, Old.accT, toO, a0, a1, a2, a3, a4]))) rfl)
   (fun h5 A => N hX 13 A rfl rfl fun A => fork 53 A rfl
    (fun h6 A => N hX 15 A rfl (ok_d (by have q0 := hl; have q1 := ho; have q2 := hm; have q3 := hd; have q4 := tlX_le i.sz; have q5 := memT_le i ho; have q6 := regOrT_le i.ra i.imm hm; (try simp only [List.length_append, List.length_cons, List.length_nil]); omega) <| ok_d (by have q0 := hl; have q1 := ho; have q2 := hm; have q3 := hd; have q4 := tlX_le i.sz; have q5 := memT_le i ho; have q6 := regOrT_le i.ra i.imm hm; (try simp only [List.length_append, List.length_cons, List.length_nil]); omega) <| ok_d (by have q0 := hl; have q1 := ho; have q2 := hm; have q3 := hd; have q4 := tlX_le i.sz; have q5 := memT_le i ho; have q6 := regOrT_le i.ra i.imm hm; (try simp only [List.length_append, List.length_cons, List.length_nil]); omega) <| ok_d (by have q0 := hl; have q1 := ho; have q2 := hm; have q3 := hd; have q4 := tlX_le i.sz; have q5 := memT_le i ho; have q6 := regOrT_le i.ra i.imm hm; (try simp only [List.length_append, List.length_cons, List.length_nil]); omega) <| ok_d (by have q0 := hl; have q1 := ho; have q2 := hm; have q3 := hd; have q4 := tlX_le i.sz; have q5 := memT_le i ho; have q6 := regOrT_le i.ra i.imm hm; (try simp only [List.length_append, List.length_cons, List.length_nil]); omega) <| okE_nil) fun A => RETN hX A rfl rfl rfl h0 rfl rfl rfl rfl (by set_option simprocs true in (revert h1 h5 h6; first | (simp +contextual [oneS, nb, nbL, nbH, Old.accT, toO]; done) | (by_cases a0 : i.op = 4 <;> by_cases a1 : i.op = 5 <;> cases a2 : i.acq <;> cases a3 : i.weak <;> cases a4 : i.rel <;> simp +contextual [oneS, nb, nbL, nbH, Old.accT, toO, a0, a1, a2, a3, a4]))) rfl)
    (fun h6 A => N hX 9 A rfl rfl fun A => forkE 69 A rfl
     (fun h7 A => N hX 15 A rfl (ok_d (by have q0 := hl; have q1 := ho; have q2 := hm; have q3 := hd; have q4 := tlX_le i.sz; have q5 := memT_le i ho; have q6 := regOrT_le i.ra i.imm hm; (try simp only [List.length_append, List.length_cons, List.length_nil]); omega) <| ok_d (by have q0 := hl; have q1 := ho; have q2 := hm; have q3 := hd; have q4 := tlX_le i.sz; have q5 := memT_le i ho; have q6 := regOrT_le i.ra i.imm hm; (try simp only [List.length_append, List.length_cons, List.length_nil]); omega) <| ok_d (by have q0 := hl; have q1 := ho; have q2 := hm; have q3 := hd; have q4 := tlX_le i.sz; have q5 := memT_le i ho; have q6 := regOrT_le i.ra i.imm hm; (try simp only [List.length_append, List.length_cons, List.length_nil]); omega) <| ok_d (by have q0 := hl; have q1 := ho; have q2 := hm; have q3 := hd; have q4 := tlX_le i.sz; have q5 := memT_le i ho; have q6 := regOrT_le i.ra i.imm hm; (try simp only [List.length_append, List.length_cons, List.length_nil]); omega) <| ok_d (by have q0 := hl; have q1 := ho; have q2 := hm; have q3 := hd; have q4 := tlX_le i.sz; have q5 := memT_le i ho; have q6 := regOrT_le i.ra i.imm hm; (try simp only [List.length_append, List.length_cons, List.length_nil]); omega) <| okE_nil) fun A => RETN hX A rfl rfl rfl h0 rfl rfl rfl rfl (by set_option simprocs true in (revert h1 h5 h6 h7; first | (simp +contextual [oneS, nb, nbL, nbH, Old.accT, toO]; done) | (by_cases a0 : i.op = 4 <;> by_cases a1 : i.op = 5 <;> cases a2 : i.acq <;> cases a3 : i.weak <;> cases a4 : i.rel <;> simp +contextual [oneS, nb, nbL, nbH, Old.accT, toO, a0, a1, a2, a3, a4]))) rfl)
     (fun h7 A => N hX 13 A rfl rfl fun A => fork 81 A rfl
      (fun h8 A => N hX 8 A rfl rfl fun A => fork 90 A rfl
       (fun h9 A => N hX 7 A rfl rfl fun A => RETN hX A rfl rfl rfl h0 rfl rfl rfl rfl (by set_option simprocs true in (revert h1 h5 h6 h7 h8 h9; first | (simp +contextual [oneS, nb, nbL, nbH, Old.accT, toO]; done) | (by_cases a0 : i.op = 4 <;> by_cases a1 : i.op = 5 <;> cases a2 : i.acq <;> cases a3 : i.weak <;> cases a4 : i.rel <;> simp +contextual [oneS, nb, nbL, nbH, Old.accT, toO, a0, a1, a2, a3, a4]))) rfl)
       (fun h9 A => N hX 16 A rfl (ok_d (by have q0 := hl; have q1 := ho; have q2 := hm; have q3 := hd; have q4 := tlX_le i.sz; have q5 := memT_le i ho; have q6 := regOrT_le i.ra i.imm hm; (try simp only [List.length_append, List.length_cons, List.length_nil]); omega) <| ok_d (by have q0 := hl; have q1 := ho; have q2 := hm; have q3 := hd; have q4 := tlX_le i.sz; have q5 := memT_le i ho; have q6 := regOrT_le i.ra i.imm hm; (try simp only [List.length_append, List.length_cons, List.length_nil]); omega) <| ok_d (by have q0 := hl; have q1 := ho; have q2 := hm; have q3 := hd; have q4 := tlX_le i.sz; have q5 := memT_le i ho; have q6 := regOrT_le i.ra i.imm hm; (try simp only [List.length_append, List.length_cons, List.length_nil]); omega) <| ok_d (by have q0 := hl; have q1 := ho; have q2 := hm; have q3 := hd; have q4 := tlX_le i.sz; have q5 := memT_le i ho; have q6 := regOrT_le i.ra i.imm hm; (try simp only [List.length_append, List.length_cons, List.length_nil]); omega) <| okE_nil) fun A => CALL1 [] (ror_x i.ra i.imm (by have q0 := hl; have q1 := ho; have q2 := hm; have q3 := hd; have q4 := tlX_le i.sz; have q5 := memT_le i ho; have q6 := regOrT_le i.ra i.imm hm; (try simp only [List.length_append, List.length_cons, List.length_nil]); omega)) A rfl rfl rfl rfl rfl rfl rfl fun A => N hX 5 A rfl (ok_d (by have q0 := hl; have q1 := ho; have q2 := hm; have q3 := hd; have q4 := tlX_le i.sz; have q5 := memT_le i ho; have q6 := regOrT_le i.ra i.imm hm; (try simp only [List.length_append, List.length_cons, List.length_nil]); omega) <| okE_nil) fun A => RETN hX A rfl rfl rfl h0 rfl rfl rfl rfl (by set_option simprocs true in (revert h1 h5 h6 h7 h8 h9; first | (simp +contextual [oneS, nb, nbL, nbH, Old.accT, toO]; done) | (by_cases a0 : i.op = 4 <;> by_cases a1 : i.op = 5 <;> cases a2 : i.acq <;> cases a3 : i.weak <;> cases a4 : i.rel <;> simp +contextual [oneS, nb, nbL, nbH, Old.accT, toO, a0, a1, a2, a3, a4]))) rfl))
      (fun h8 A => N hX 14 A rfl rfl fun A => fork 104 A rfl
       (fun h10 A => N hX 7 A rfl rfl fun A => RETN hX A rfl rfl rfl h0 rfl rfl rfl rfl (by set_option simprocs true in (revert h1 h5 h6 h7 h8 h10; first | (simp +contextual [oneS, nb, nbL, nbH, Old.accT, toO]; done) | (by_cases a0 : i.op = 4 <;> by_cases a1 : i.op = 5 <;> cases a2 : i.acq <;> cases a3 : i.weak <;> cases a4 : i.rel <;> simp +contextual [oneS, nb, nbL, nbH, Old.accT, toO, a0, a1, a2, a3, a4]))) rfl)
       (fun h10 A => N hX 13 A rfl rfl fun A => fork 113 A rfl
        (fun h11 A => N hX 8 A rfl rfl fun A => fork 122 A rfl
         (fun h12 A => N hX 7 A rfl rfl fun A => RETN hX A rfl rfl rfl h0 rfl rfl rfl rfl (by set_option simprocs true in (revert h1 h5 h6 h7 h8 h10 h11 h12; first | (simp +contextual [oneS, nb, nbL, nbH, Old.accT, toO]; done) | (by_cases a0 : i.op = 4 <;> by_cases a1 : i.op = 5 <;> cases a2 : i.acq <;> cases a3 : i.weak <;> cases a4 : i.rel <;> simp +contextual [oneS, nb, nbL, nbH, Old.accT, toO, a0, a1, a2, a3, a4]))) rfl)
         (fun h12 A => N hX 17 A rfl (ok_d (by have q0 := hl; have q1 := ho; have q2 := hm; have q3 := hd; have q4 := tlX_le i.sz; have q5 := memT_le i ho; have q6 := regOrT_le i.ra i.imm hm; (try simp only [List.length_append, List.length_cons, List.length_nil]); omega) <| ok_d (by have q0 := hl; have q1 := ho; have q2 := hm; have q3 := hd; have q4 := tlX_le i.sz; have q5 := memT_le i ho; have q6 := regOrT_le i.ra i.imm hm; (try simp only [List.length_append, List.length_cons, List.length_nil]); omega) <| ok_d (by have q0 := hl; have q1 := ho; have q2 := hm; have q3 := hd; have q4 := tlX_le i.sz; have q5 := memT_le i ho; have q6 := regOrT_le i.ra i.imm hm; (try simp only [List.length_append, List.length_cons, List.length_nil]); omega) <| ok_d (by have q0 := hl; have q1 := ho; have q2 := hm; have q3 := hd; have q4 := tlX_le i.sz; have q5 := memT_le i ho; have q6 := regOrT_le i.ra i.imm hm; (try simp only [List.length_append, List.length_cons, List.length_nil]); omega) <| ok_d (by have q0 := hl; have q1 := ho; have q2 := hm; have q3 := hd; have q4 := tlX_le i.sz; have q5 := memT_le i ho; have q6 := regOrT_le i.ra i.imm hm; (try simp only [List.length_append, List.length_cons, List.length_nil]); omega) <| okE_nil) fun A => RETN hX A rfl rfl rfl h0 rfl rfl rfl rfl (by set_option simprocs true in (revert h1 h5 h6 h7 h8 h10 h11 h12; first | (simp +contextual [oneS, nb, nbL, nbH, Old.accT, toO]; done) | (by_cases a0 : i.op = 4 <;> by_cases a1 : i.op = 5 <;> cases a2 : i.acq <;> cases a3 : i.weak <;> cases a4 : i.rel <;> simp +contextual [oneS, nb, nbL, nbH, Old.accT, toO, a0, a1, a2, a3, a4]))) rfl))
        (fun h11 A => N hX 9 A rfl rfl fun A => forkE 131 A rfl
         (fun h13 A => N hX 13 A rfl rfl fun A => fork 136 A rfl
          (fun h14 A => N hX 20 A rfl (ok_d (by have q0 := hl; have q1 := ho; have q2 := hm; have q3 := hd; have q4 := tlX_le i.sz; have q5 := memT_le i ho; have q6 := regOrT_le i.ra i.imm hm; (try simp only [List.length_append, List.length_cons, List.length_nil]); omega) <| ok_d (by have q0 := hl; have q1 := ho; have q2 := hm; have q3 := hd; have q4 := tlX_le i.sz; have q5 := memT_le i ho; have q6 := regOrT_le i.ra i.imm hm; (try simp only [List.length_append, List.length_cons, List.length_nil]); omega) <| ok_d (by have q0 := hl; have q1 := ho; have q2 := hm; have q3 := hd; have q4 := tlX_le i.sz; have q5 := memT_le i ho; have q6 := regOrT_le i.ra i.imm hm; (try simp only [List.length_append, List.length_cons, List.length_nil]); omega) <| ok_d (by have q0 := hl; have q1 := ho; have q2 := hm; have q3 := hd; have q4 := tlX_le i.sz; have q5 := memT_le i ho; have q6 := regOrT_le i.ra i.imm hm; (try simp only [List.length_append, List.length_cons, List.length_nil]); omega) <| ok_d (by have q0 := hl; have q1 := ho; have q2 := hm; have q3 := hd; have q4 := tlX_le i.sz; have q5 := memT_le i ho; have q6 := regOrT_le i.ra i.imm hm; (try simp only [List.length_append, List.length_cons, List.length_nil]); omega) <| okE_nil) fun A => RETN hX A rfl rfl rfl h0 rfl rfl rfl rfl (by set_option simprocs true in (revert h1 h5 h6 h7 h8 h10 h11 h13 h14; first | (simp +contextual [oneS, nb, nbL, nbH, Old.accT, toO]; done) | (by_cases a0 : i.op = 4 <;> by_cases a1 : i.op = 5 <;> cases a2 : i.acq <;> cases a3 : i.weak <;> cases a4 : i.rel <;> simp +contextual [oneS, nb, nbL, nbH, Old.accT, toO, a0, a1, a2, a3, a4]))) rfl)
          (fun h14 A => N hX 18 A rfl (ok_d (by have q0 := hl; have q1 := ho; have q2 := hm; have q3 := hd; have q4 := tlX_le i.sz; have q5 := memT_le i ho; have q6 := regOrT_le i.ra i.imm hm; (try simp only [List.length_append, List.length_cons, List.length_nil]); omega) <| ok_d (by have q0 := hl; have q1 := ho; have q2 := hm; have q3 := hd; have q4 := tlX_le i.sz; have q5 := memT_le i ho; have q6 := regOrT_le i.ra i.imm hm; (try simp only [List.length_append, List.length_cons, List.length_nil]); omega) <| ok_d (by have q0 := hl; have q1 := ho; have q2 := hm; have q3 := hd; have q4 := tlX_le i.sz; have q5 := memT_le i ho; have q6 := regOrT_le i.ra i.imm hm; (try simp only [List.length_append, List.length_cons, List.length_nil]); omega) <| ok_d (by have q0 := hl; have q1 := ho; have q2 := hm; have q3 := hd; have q4 := tlX_le i.sz; have q5 := memT_le i ho; have q6 := regOrT_le i.ra i.imm hm; (try simp only [List.length_append, List.length_cons, List.length_nil]); omega) <| ok_d (by have q0 := hl; have q1 := ho; have q2 := hm; have q3 := hd; have q4 := tlX_le i.sz; have q5 := memT_le i ho; have q6 := regOrT_le i.ra i.imm hm; (try simp only [List.length_append, List.length_cons, List.length_nil]); omega) <| okE_nil) fun A => RETN hX A rfl rfl rfl h0 rfl rfl rfl rfl (by set_option simprocs true in (revert h1 h5 h6 h7 h8 h10 h11 h13 h14; first | (simp +contextual [oneS, nb, nbL, nbH, Old.accT, toO]; done) | (by_cases a0 : i.op = 4 <;> by_cases a1 : i.op = 5 <;> cases a2 : i.acq <;> cases a3 : i.weak <;> cases a4 : i.rel <;> simp +contextual [oneS, nb, nbL, nbH, Old.accT, toO, a0, a1, a2, a3, a4]))) rfl))
         (fun h13 A => N hX 12 A rfl rfl fun A => CALL1 [] (rrmw_x i ds az (Old.tlX i.sz) (Old.memT (toO i)) (by have q0 := hl; have q1 := ho; have q2 := hm; have q3 := hd; have q4 := tlX_le i.sz; have q5 := memT_le i ho; have q6 := regOrT_le i.ra i.imm hm; (try simp only [List.length_append, List.length_cons, List.length_nil]); omega)) A rfl rfl rfl rfl rfl rfl rfl fun A => N hX 4 A rfl rfl fun A => RETN hX A rfl rfl rfl h0 rfl rfl rfl rfl (by set_option simprocs true in (revert h1 h5 h6 h7 h8 h10 h11 h13; first | (simp +contextual [oneS, nb, nbL, nbH, Old.accT, toO]; done) | (by_cases a0 : i.op = 4 <;> by_cases a1 : i.op = 5 <;> cases a2 : i.acq <;> cases a3 : i.weak <;> cases a4 : i.rel <;> simp +contextual [oneS, nb, nbL, nbH, Old.accT, toO, a0, a1, a2, a3, a4]))) rfl))))))))
theorem rtxt_x (i : In) (lb : List UInt8) (hf : i.op = 3 → 0 ≤ i.fn ∧ i.fn < 6) (hl : i.op ≠ 1 → i.op ≠ 2 → i.op ≠ 3 → i.op ≠ 9 → i.op ≠ 7 → i.op ≠ 8 → 0 ≤ i.loc ∧ i.loc < 3) (ho : -9223372036854775808 ≤ i.off ∧ i.off ≤ 9223372036854775807) (hm : -9223372036854775808 ≤ i.imm ∧ i.imm ≤ 9223372036854775807) (hb : lb.length ≤ 100000) : Fn Tryz.prog 39 [.int .i64 1, .agg (inQ9 i), .str lb] [] (Rt (.str (Old.txtT (toO i) lb)) []) :=
 enterM (n := 125) (by kernel_rfl) Tryz.func39 rfl rfl rfl fun G w a h0 A => N hX 11 A rfl rfl fun A => CALL1 [] (rname_x i.dst) A rfl rfl rfl rfl rfl rfl rfl fun A => N hX 8 A rfl rfl fun A => CALL1 [] (rname_x i.ra) A rfl rfl rfl rfl rfl rfl rfl fun A => N hX 17 A rfl rfl fun A => forkE 20 A rfl
  (fun h1 A => N hX 8 A rfl rfl fun A => forkE 23 A rfl
   (fun h2 A => absurd h2 (by decide))
   (fun h2 A => N hX 11 A rfl (ok_d (by have q0 := ho; have q1 := hm; have q2 := hb; have q3 := nameF_le i.dst; have q4 := nameF_le i.ra; have q5 := numT_le i.imm hm; have q6 := fnT_le i.fn; have q7 := regOrT_le i.rb i.imm hm; have q8 := branT_le i.zero; (try simp only [List.length_append, List.length_cons, List.length_nil]); omega) <| ok_d (by have q0 := ho; have q1 := hm; have q2 := hb; have q3 := nameF_le i.dst; have q4 := nameF_le i.ra; have q5 := numT_le i.imm hm; have q6 := fnT_le i.fn; have q7 := regOrT_le i.rb i.imm hm; have q8 := branT_le i.zero; (try simp only [List.length_append, List.length_cons, List.length_nil]); omega) <| okE_nil) fun A => CALL1 [] (rnum_x i.imm (by have q0 := ho; have q1 := hm; have q2 := hb; have q3 := nameF_le i.dst; have q4 := nameF_le i.ra; have q5 := numT_le i.imm hm; have q6 := fnT_le i.fn; have q7 := regOrT_le i.rb i.imm hm; have q8 := branT_le i.zero; (try simp only [List.length_append, List.length_cons, List.length_nil]); omega)) A rfl rfl rfl rfl rfl rfl rfl fun A => N hX 5 A rfl (ok_d (by have q0 := ho; have q1 := hm; have q2 := hb; have q3 := nameF_le i.dst; have q4 := nameF_le i.ra; have q5 := numT_le i.imm hm; have q6 := fnT_le i.fn; have q7 := regOrT_le i.rb i.imm hm; have q8 := branT_le i.zero; (try simp only [List.length_append, List.length_cons, List.length_nil]); omega) <| okE_nil) fun A => RETN hX A rfl rfl rfl h0 rfl rfl rfl rfl (by set_option simprocs true in (revert h1 h2; simp +contextual [oneS, nb, nbL, nbH, Old.txtT, toO])) rfl))
  (fun h1 A => N hX 7 A rfl rfl fun A => forkE 39 A rfl
   (fun h3 A => N hX 8 A rfl rfl fun A => forkE 42 A rfl
    (fun h4 A => absurd h4 (by decide))
    (fun h4 A => N hX 14 A rfl (ok_d (by have q0 := ho; have q1 := hm; have q2 := hb; have q3 := nameF_le i.dst; have q4 := nameF_le i.ra; have q5 := numT_le i.imm hm; have q6 := fnT_le i.fn; have q7 := regOrT_le i.rb i.imm hm; have q8 := branT_le i.zero; (try simp only [List.length_append, List.length_cons, List.length_nil]); omega) <| ok_d (by have q0 := ho; have q1 := hm; have q2 := hb; have q3 := nameF_le i.dst; have q4 := nameF_le i.ra; have q5 := numT_le i.imm hm; have q6 := fnT_le i.fn; have q7 := regOrT_le i.rb i.imm hm; have q8 := branT_le i.zero; (try simp only [List.length_append, List.length_cons, List.length_nil]); omega) <| ok_d (by have q0 := ho; have q1 := hm; have q2 := hb; have q3 := nameF_le i.dst; have q4 := nameF_le i.ra; have q5 := numT_le i.imm hm; have q6 := fnT_le i.fn; have q7 := regOrT_le i.rb i.imm hm; have q8 := branT_le i.zero; (try simp only [List.length_append, List.length_cons, List.length_nil]); omega) <| okE_nil) fun A => RETN hX A rfl rfl rfl h0 rfl rfl rfl rfl (by set_option simprocs true in (revert h1 h3 h4; simp +contextual [oneS, nb, nbL, nbH, Old.txtT, toO])) rfl))
   (fun h3 A => N hX 7 A rfl rfl fun A => forkE 53 A rfl
    (fun h5 A => N hX 6 A rfl rfl fun A => CALL1 [] (rfn_x i.fn (hf h5)) A rfl rfl rfl rfl rfl rfl rfl fun A => N hX 10 A rfl rfl fun A => forkE 60 A rfl
     (fun h6 A => N hX 11 A rfl rfl fun A => forkN 65 A rfl
      (fun h7 A => N hX 7 A rfl rfl fun A => RETN hX A rfl rfl rfl h0 rfl rfl rfl rfl (by set_option simprocs true in (revert h1 h3 h5 h6 h7; simp +contextual [oneS, nb, nbL, nbH, Old.txtT, toO])) rfl)
      (fun h7 A => N hX 15 A rfl (ok_d (by have q0 := ho; have q1 := hm; have q2 := hb; have q3 := nameF_le i.dst; have q4 := nameF_le i.ra; have q5 := numT_le i.imm hm; have q6 := fnT_le i.fn; have q7 := regOrT_le i.rb i.imm hm; have q8 := branT_le i.zero; (try simp only [List.length_append, List.length_cons, List.length_nil]); omega) <| ok_d (by have q0 := ho; have q1 := hm; have q2 := hb; have q3 := nameF_le i.dst; have q4 := nameF_le i.ra; have q5 := numT_le i.imm hm; have q6 := fnT_le i.fn; have q7 := regOrT_le i.rb i.imm hm; have q8 := branT_le i.zero; (try simp only [List.length_append, List.length_cons, List.length_nil]); omega) <| ok_d (by have q0 := ho; have q1 := hm; have q2 := hb; have q3 := nameF_le i.dst; have q4 := nameF_le i.ra; have q5 := numT_le i.imm hm; have q6 := fnT_le i.fn; have q7 := regOrT_le i.rb i.imm hm; have q8 := branT_le i.zero; (try simp only [List.length_append, List.length_cons, List.length_nil]); omega) <| okE_nil) fun A => CALL1 [] (ror_x i.rb i.imm (by have q0 := ho; have q1 := hm; have q2 := hb; have q3 := nameF_le i.dst; have q4 := nameF_le i.ra; have q5 := numT_le i.imm hm; have q6 := fnT_le i.fn; have q7 := regOrT_le i.rb i.imm hm; have q8 := branT_le i.zero; (try simp only [List.length_append, List.length_cons, List.length_nil]); omega)) A rfl rfl rfl rfl rfl rfl rfl fun A => N hX 5 A rfl (ok_d (by have q0 := ho; have q1 := hm; have q2 := hb; have q3 := nameF_le i.dst; have q4 := nameF_le i.ra; have q5 := numT_le i.imm hm; have q6 := fnT_le i.fn; have q7 := regOrT_le i.rb i.imm hm; have q8 := branT_le i.zero; (try simp only [List.length_append, List.length_cons, List.length_nil]); omega) <| okE_nil) fun A => RETN hX A rfl rfl rfl h0 rfl rfl rfl rfl (by set_option simprocs true in (revert h1 h3 h5 h6 h7; simp +contextual [oneS, nb, nbL, nbH, Old.txtT, toO])) rfl))
     (fun h6 A => absurd rfl h6))
    (fun h5 A => N hX 7 A rfl rfl fun A => forkE 102 A rfl
     (fun h8 A => N hX 6 A rfl rfl fun A => CALL1 [] (rbr_x i.zero) A rfl rfl rfl rfl rfl rfl rfl fun A => N hX 10 A rfl (ok_d (by have q0 := ho; have q1 := hm; have q2 := hb; have q3 := nameF_le i.dst; have q4 := nameF_le i.ra; have q5 := numT_le i.imm hm; have q6 := fnT_le i.fn; have q7 := regOrT_le i.rb i.imm hm; have q8 := branT_le i.zero; (try simp only [List.length_append, List.length_cons, List.length_nil]); omega) <| ok_d (by have q0 := ho; have q1 := hm; have q2 := hb; have q3 := nameF_le i.dst; have q4 := nameF_le i.ra; have q5 := numT_le i.imm hm; have q6 := fnT_le i.fn; have q7 := regOrT_le i.rb i.imm hm; have q8 := branT_le i.zero; (try simp only [List.length_append, List.length_cons, List.length_nil]); omega) <| ok_d (by have q0 := ho; have q1 := hm; have q2 := hb; have q3 := nameF_le i.dst; have q4 := nameF_le i.ra; have q5 := numT_le i.imm hm; have q6 := fnT_le i.fn; have q7 := regOrT_le i.rb i.imm hm; have q8 := branT_le i.zero; (try simp only [List.length_append, List.length_cons, List.length_nil]); omega) <| ok_d (by have q0 := ho; have q1 := hm; have q2 := hb; have q3 := nameF_le i.dst; have q4 := nameF_le i.ra; have q5 := numT_le i.imm hm; have q6 := fnT_le i.fn; have q7 := regOrT_le i.rb i.imm hm; have q8 := branT_le i.zero; (try simp only [List.length_append, List.length_cons, List.length_nil]); omega) <| okE_nil) fun A => RETN hX A rfl rfl rfl h0 rfl rfl rfl rfl (by set_option simprocs true in (revert h1 h3 h5 h8; simp +contextual [oneS, nb, nbL, nbH, Old.txtT, toO])) rfl)
     (fun h8 A => N hX 8 A rfl rfl fun A => forkE 114 A rfl
      (fun h9 A => N hX 8 A rfl rfl fun A => CALL1 [] (rfen_x i) A rfl rfl rfl rfl rfl rfl rfl fun A => N hX 4 A rfl rfl fun A => RETN hX A rfl rfl rfl h0 rfl rfl rfl rfl (by set_option simprocs true in (revert h1 h3 h5 h8 h9; simp +contextual [oneS, nb, nbL, nbH, Old.txtT, toO])) rfl)
      (fun h9 A => N hX 6 A rfl rfl fun A => forkE 114 A rfl
       (fun h10 A => N hX 5 A rfl rfl fun A => CALL1 [] (rfen_x i) A rfl rfl rfl rfl rfl rfl rfl fun A => N hX 4 A rfl rfl fun A => RETN hX A rfl rfl rfl h0 rfl rfl rfl rfl (by set_option simprocs true in (revert h1 h3 h5 h8 h9 h10; simp +contextual [oneS, nb, nbL, nbH, Old.txtT, toO])) rfl)
       (fun h10 A => N hX 10 A rfl rfl fun A => CALL1 [] (racc_x i (Old.nameF i.dst) (Old.nameF i.ra) (hl h1 h3 h5 h8 h9 h10) (by have q0 := ho; have q1 := hm; have q2 := hb; have q3 := nameF_le i.dst; have q4 := nameF_le i.ra; have q5 := numT_le i.imm hm; have q6 := fnT_le i.fn; have q7 := regOrT_le i.rb i.imm hm; have q8 := branT_le i.zero; (try simp only [List.length_append, List.length_cons, List.length_nil]); omega) (by have q0 := ho; have q1 := hm; have q2 := hb; have q3 := nameF_le i.dst; have q4 := nameF_le i.ra; have q5 := numT_le i.imm hm; have q6 := fnT_le i.fn; have q7 := regOrT_le i.rb i.imm hm; have q8 := branT_le i.zero; (try simp only [List.length_append, List.length_cons, List.length_nil]); omega) (by have q0 := ho; have q1 := hm; have q2 := hb; have q3 := nameF_le i.dst; have q4 := nameF_le i.ra; have q5 := numT_le i.imm hm; have q6 := fnT_le i.fn; have q7 := regOrT_le i.rb i.imm hm; have q8 := branT_le i.zero; (try simp only [List.length_append, List.length_cons, List.length_nil]); omega)) A rfl rfl rfl rfl rfl rfl rfl fun A => N hX 4 A rfl rfl fun A => RETN hX A rfl rfl rfl h0 rfl rfl rfl rfl (by set_option simprocs true in (revert h1 h3 h5 h8 h9 h10; simp +contextual [oneS, nb, nbL, nbH, Old.txtT, toO])) rfl))))))
def orK (m k : Int) : Int := IntKind.wrap .i64 ((((BitVec.ofInt (IntKind.bits .i64) m) ||| (BitVec.ofInt (IntKind.bits .i64) (IntKind.wrap .i64 (1 * 2 ^ min (k).toNat (IntKind.bits .i64))))).toNat : Nat) : Int)
def mkB (o : Int) : Nat → Int
  | 0 => 0
  | j + 1 => orK (mkB o j) (o + j)
def mkF (o n : Int) : Int := if Old.fitsB o n = true then mkB o n.toNat else 0
theorem mkF_o (a s : Int) : (mkF a s == 0) = (Old.maskR a s == 0) := by
  unfold mkF Old.maskR
  cases h : Old.fitsB a s
  · simp
  · have hf := h
    unfold Old.fitsB at hf
    have hf := of_decide_eq_true hf
    obtain ⟨hs, h0, h1, h2⟩ := hf
    simp only [if_true]
    rcases hs with e | e | e | e <;> subst e
    · have : a = 0 ∨ a = 1 ∨ a = 2 ∨ a = 3 ∨ a = 4 ∨ a = 5 ∨ a = 6 ∨ a = 7 := by omega
      rcases this with e | e | e | e | e | e | e | e <;> subst e <;> decide +kernel
    · have : a = 0 ∨ a = 2 ∨ a = 4 ∨ a = 6 := by omega
      rcases this with e | e | e | e <;> subst e <;> decide +kernel
    · have : a = 0 ∨ a = 4 := by omega
      rcases this with e | e <;> subst e <;> decide +kernel
    · have : a = 0 := by omega
      subst this; decide +kernel
structure MKI (o n k m : Int) : Prop where
  lo : o ≤ k
  hi : k ≤ o + n
  eq : m = mkB o (k - o).toNat
theorem MKI.i0 {o n : Int} (h : 0 ≤ n) : MKI o n o 0 := ⟨by omega, by omega, by rw [show (o - o).toNat = 0 by omega]; rfl⟩
theorem MKI.nx {o n k m : Int} (hI : MKI o n k m) (h : k < o + n) : MKI o n (k + 1) (orK m k) := by
  refine ⟨by have := hI.lo; omega, by omega, ?_⟩
  have hl := hI.lo
  rw [show (k + 1 - o).toNat = (k - o).toNat + 1 by omega]
  unfold mkB
  rw [← hI.eq, show o + ((k - o).toNat : Int) = k by omega]
theorem MKI.fi {o n k m : Int} (hI : MKI o n k m) (h : ¬ k < o + n) (hf : Old.fitsB o n = true) : m = mkF o n := by
  have h1 := hI.hi
  unfold mkF; rw [if_pos hf, hI.eq, show k - o = n by omega]
theorem fits_r (a s : Int) : ((((!((((s == 1) || (s == 2)) || (s == 4)) || (s == 8))) || (decide (a < 0))) || (decide (a > (8 - s)))) || (!((Int.tmod a s) == 0))) = !Old.fitsB a s := by
  by_cases hs : s = 1 ∨ s = 2 ∨ s = 4 ∨ s = 8
  · have w : IntKind.wrap .i64 (8 - s) = 8 - s := by rcases hs with e | e | e | e <;> subst e <;> decide
    rw [← fits_o, w]
    simp only [Bool.not_and]
    rw [show (!decide (a ≥ 0)) = decide (a < 0) by rw [← decide_not]; congr 1; exact propext (by omega), show (!decide (a ≤ 8 - s)) = decide (a > 8 - s) by rw [← decide_not]; congr 1; exact propext (by omega)]
  · have h1 : s ≠ 1 := by omega
    have h2 : s ≠ 2 := by omega
    have h4 : s ≠ 4 := by omega
    have h8 : s ≠ 8 := by omega
    simp [Old.fitsB, h1, h2, h4, h8]
theorem fits_w (a s : Int) (h : Old.fitsB a s = true) : 0 ≤ a ∧ 1 ≤ s ∧ a + s ≤ 8 := by
  unfold Old.fitsB at h; have h := of_decide_eq_true h; omega
theorem rsize_x (n : Int)  : Fn Tryz.prog 196 [.int .i64 n] [] (Rt (.bool ((((n == 1) || (n == 2)) || (n == 4)) || (n == 8))) []) :=
 enterM (n := 17) (by kernel_rfl) Tryz.func196 rfl rfl rfl fun G w a h0 A => N hX 25 A rfl rfl fun A => RETN hX A rfl rfl rfl h0 rfl rfl rfl rfl rfl rfl
theorem fit_y {a s : Int} (h : ((((!((((s == 1) || (s == 2)) || (s == 4)) || (s == 8))) || (decide (a < 0))) || (decide (a > (8 - s)))) || (!((Int.tmod a s) == 0))) = false) : Old.fitsB a s = true := by rw [fits_r] at h; simpa using h
theorem fit_n {a s : Int} (h : ((((!((((s == 1) || (s == 2)) || (s == 4)) || (s == 8))) || (decide (a < 0))) || (decide (a > (8 - s)))) || (!((Int.tmod a s) == 0))) = true) : mkF a s = 0 := by rw [fits_r] at h; unfold mkF; rw [if_neg (by simpa using h)]
theorem rmask_x (o : Int) (n : Int)  : Fn Tryz.prog 163 [.int .i64 o, .int .i64 n] [] (Rt (.int .i64 (mkF o n)) []) :=
 enterM (n := 39) (by kernel_rfl) Tryz.func163 rfl rfl rfl fun G w a h0 A => N hX 9 A rfl rfl fun A => CALL1 [] (rsize_x n) A rfl rfl rfl rfl rfl rfl rfl fun A => N hX 19 A rfl (ok_r <| ok_r <| ok_r <| ok_g (fun hg => (by (try simp at hg); first | omega | (simp; omega))) <| ok_r <| ok_r <| ok_r <| ok_r <| ok_r <| ok_g (fun hg => (by (try simp at hg); first | omega | (simp; omega))) <| ok_r <| ok_r <| okE_nil) fun A => fork 25 A rfl
  (fun h1 A => N hX 7 A rfl rfl fun A => RETN hX A rfl rfl rfl h0 rfl rfl rfl rfl (by rw [fit_n h1]; rfl) rfl)
  (fun h1 A => N hX 16 A rfl rfl fun A => LOOP2 (fun (k : Int) (m : Int) => [(0, .int .i64 o), (1, .int .i64 n), (4, .int .i64 0), (5, .int .i64 m), (6, .int .i64 k)]) (fun (k : Int) (m : Int) => []) (fun (k : Int) (m : Int) => MKI o n k m) (fun (k : Int) (m : Int) => (o + n - k).toNat) o 0 (MKI.i0 (by have q := fits_w o n (fit_y h1); omega)) ((A.cut [0, 1, 4, 5, 6] rfl).trunc 0 rfl rfl rfl (by simp only [List.length_cons, List.length_nil] at h0; omega)) fun k m hI {G a w} A => N hX 10 A rfl (ok_d (by have q := fits_w o n (fit_y h1); have q1 := hI.lo; have q2 := hI.hi; omega) <| okE_nil) fun A => forkD 31 A rfl
    (fun h2 A => N hX 14 A rfl (ok_d (by have q := fits_w o n (fit_y h1); have q1 := hI.lo; have q2 := hI.hi; omega) <| okE_nil) fun A => N hX 5 A rfl (ok_d (by have q := fits_w o n (fit_y h1); have q1 := hI.lo; have q2 := hI.hi; omega) <| okE_nil) fun A => ⟨k + 1, IntKind.wrap .i64 ((((BitVec.ofInt (IntKind.bits .i64) m) ||| (BitVec.ofInt (IntKind.bits .i64) (IntKind.wrap .i64 (1 * 2 ^ min (k).toNat (IntKind.bits .i64))))).toNat : Nat) : Int), _, (by omega), (hI.nx h2), ((A.cut [0, 1, 4, 5, 6] rfl).trunc 0 rfl rfl rfl (by simp only [List.length_cons, List.length_nil] at h0; omega))⟩)
    (fun h2 A => N hX 10 A rfl rfl fun A => RETN hX A rfl rfl rfl h0 rfl rfl rfl rfl (by rw [hI.fi h2 (fit_y h1)]; rfl) rfl))
theorem rreg_x (r : Int)  : Fn Tryz.prog 118 [.int .i64 r] [] (Rt (.bool ((decide (r ≥ 0)) && (decide (r < 8)))) []) :=
 enterM (n := 9) (by kernel_rfl) Tryz.func118 rfl rfl rfl fun G w a h0 A => N hX 17 A rfl rfl fun A => RETN hX A rfl rfl rfl h0 rfl rfl rfl rfl rfl rfl
def rplace0 (i : In) : Bool := if i.loc ≥ 0 then if i.loc < 3 then if (mkF i.off i.sz) ≠ 0 then if i.ix = (-1) then true else (decide (i.ix ≥ 0)) && (decide (i.ix < 8)) else false else false else false
theorem rplace_ (i : In)  : Fn Tryz.prog 119 [.agg (inQ9 i)] [] (Rt (.bool (rplace0 i)) []) :=
 enterM (n := 29) (by kernel_rfl) Tryz.func119 rfl rfl rfl fun G w a h0 A => N hX 12 A rfl rfl fun A => forkD 6 A rfl
  (fun h1 A => N hX 5 A rfl rfl fun A => forkD 11 A rfl
   (fun h2 A => N hX 4 A rfl rfl fun A => CALL1 [] (rmask_x i.off i.sz) A rfl rfl rfl rfl rfl rfl rfl fun A => N hX 3 A rfl rfl fun A => forkN 19 A rfl
    (fun h3 A => N hX 4 A rfl rfl fun A => forkE 23 A rfl
     (fun h4 A => N hX 9 A rfl rfl fun A => RETN hX A rfl rfl rfl h0 rfl rfl rfl rfl (by simp only [oneS, nb, nbL, nbH, rplace0, if_pos h1, if_pos h2, if_pos h3, if_pos h4]) rfl)
     (fun h4 A => N hX 2 A rfl rfl fun A => CALL1 [] (rreg_x i.ix) A rfl rfl rfl rfl rfl rfl rfl fun A => N hX 6 A rfl rfl fun A => RETN hX A rfl rfl rfl h0 rfl rfl rfl rfl (by simp only [oneS, nb, nbL, nbH, rplace0, if_pos h1, if_pos h2, if_pos h3, if_neg (h4)]) rfl))
    (fun h3 A => N hX 13 A rfl rfl fun A => RETN hX A rfl rfl rfl h0 rfl rfl rfl rfl (by simp only [oneS, nb, nbL, nbH, rplace0, if_pos h1, if_pos h2, if_neg (not_not_intro h3)]) rfl))
   (fun h2 A => N hX 21 A rfl rfl fun A => RETN hX A rfl rfl rfl h0 rfl rfl rfl rfl (by simp only [oneS, nb, nbL, nbH, rplace0, if_pos h1, if_neg h2]) rfl))
  (fun h1 A => N hX 26 A rfl rfl fun A => RETN hX A rfl rfl rfl h0 rfl rfl rfl rfl (by simp only [oneS, nb, nbL, nbH, rplace0, if_neg h1]) rfl)
def rbare0 (i : In) : Int := if i.op = 1 then (-1) else if i.op = 2 then (-1) else if i.op = 3 then (-1) else if i.op = 4 then (-1) else if i.op = 5 then i.dst else if i.op = 6 then (-1) else i.dst
def rbare1 (i : In) : Int := if i.op = 1 then i.ra else if i.op = 2 then (-1) else if i.op = 3 then (-1) else if i.op = 4 then i.ra else if i.op = 5 then (-1) else if i.op = 6 then (-1) else if i.op = 7 then i.ra else if i.op = 8 then i.ra else if i.op = 9 then (-1) else i.ra
def rbare2 (i : In) : Int := if i.op = 1 then i.rb else if i.op = 2 then i.rb else if i.op = 3 then (-1) else i.rb
def rbare3 (i : In) : Int := if i.op = 1 then 0 else if i.op = 2 then i.imm else if i.op = 3 then 0 else if i.op = 4 then i.imm else if i.op = 5 then 0 else i.imm
def rbare4 (i : In) : Int := if i.op = 1 then if (((i.op == 4) || (i.op == 5)) || (i.op == 6)) = true then 0 else i.loc else if i.op = 2 then if ((decide (i.dst ≥ 0)) && (decide (i.dst < 8))) = true then if (((i.op == 4) || (i.op == 5)) || (i.op == 6)) = true then 0 else i.loc else if (((i.op == 4) || (i.op == 5)) || (i.op == 6)) = true then 0 else i.loc else if i.op = 3 then if ((decide (i.dst ≥ 0)) && (decide (i.dst < 8))) = true then if ((decide (i.ra ≥ 0)) && (decide (i.ra < 8))) = true then if i.fn ≥ 1 then if i.fn ≤ 5 then if i.rb = (-1) then if (((i.op == 4) || (i.op == 5)) || (i.op == 6)) = true then 0 else i.loc else if (((i.op == 4) || (i.op == 5)) || (i.op == 6)) = true then 0 else i.loc else if (((i.op == 4) || (i.op == 5)) || (i.op == 6)) = true then 0 else i.loc else if (((i.op == 4) || (i.op == 5)) || (i.op == 6)) = true then 0 else i.loc else if (((i.op == 4) || (i.op == 5)) || (i.op == 6)) = true then 0 else i.loc else if (((i.op == 4) || (i.op == 5)) || (i.op == 6)) = true then 0 else i.loc else if i.op = 4 then if ((decide (i.dst ≥ 0)) && (decide (i.dst < 8))) = true then if (((i.op == 4) || (i.op == 5)) || (i.op == 6)) = true then 0 else i.loc else if (((i.op == 4) || (i.op == 5)) || (i.op == 6)) = true then 0 else i.loc else if i.op = 5 then if (rplace0 i) = true then if i.ra = (-1) then if (((i.op == 4) || (i.op == 5)) || (i.op == 6)) = true then 0 else i.loc else if (((i.op == 4) || (i.op == 5)) || (i.op == 6)) = true then 0 else i.loc else if (((i.op == 4) || (i.op == 5)) || (i.op == 6)) = true then 0 else i.loc else if i.op = 6 then if ((decide (i.dst ≥ 0)) && (decide (i.dst < 8))) = true then if ((decide (i.ra ≥ 0)) && (decide (i.ra < 8))) = true then if (((i.op == 4) || (i.op == 5)) || (i.op == 6)) = true then 0 else i.loc else if (((i.op == 4) || (i.op == 5)) || (i.op == 6)) = true then 0 else i.loc else if (((i.op == 4) || (i.op == 5)) || (i.op == 6)) = true then 0 else i.loc else if i.op = 7 then if (((i.op == 4) || (i.op == 5)) || (i.op == 6)) = true then 0 else i.loc else if i.op = 8 then if (((i.op == 4) || (i.op == 5)) || (i.op == 6)) = true then 0 else i.loc else if i.op = 9 then if (((i.op == 4) || (i.op == 5)) || (i.op == 6)) = true then 0 else i.loc else if (((i.op == 4) || (i.op == 5)) || (i.op == 6)) = true then 0 else i.loc
def rbare5 (i : In) : Int := if i.op = 1 then if (((i.op == 4) || (i.op == 5)) || (i.op == 6)) = true then 0 else i.off else if i.op = 2 then if ((decide (i.dst ≥ 0)) && (decide (i.dst < 8))) = true then if (((i.op == 4) || (i.op == 5)) || (i.op == 6)) = true then 0 else i.off else if (((i.op == 4) || (i.op == 5)) || (i.op == 6)) = true then 0 else i.off else if i.op = 3 then if ((decide (i.dst ≥ 0)) && (decide (i.dst < 8))) = true then if ((decide (i.ra ≥ 0)) && (decide (i.ra < 8))) = true then if i.fn ≥ 1 then if i.fn ≤ 5 then if i.rb = (-1) then if (((i.op == 4) || (i.op == 5)) || (i.op == 6)) = true then 0 else i.off else if (((i.op == 4) || (i.op == 5)) || (i.op == 6)) = true then 0 else i.off else if (((i.op == 4) || (i.op == 5)) || (i.op == 6)) = true then 0 else i.off else if (((i.op == 4) || (i.op == 5)) || (i.op == 6)) = true then 0 else i.off else if (((i.op == 4) || (i.op == 5)) || (i.op == 6)) = true then 0 else i.off else if (((i.op == 4) || (i.op == 5)) || (i.op == 6)) = true then 0 else i.off else if i.op = 4 then if ((decide (i.dst ≥ 0)) && (decide (i.dst < 8))) = true then if (((i.op == 4) || (i.op == 5)) || (i.op == 6)) = true then 0 else i.off else if (((i.op == 4) || (i.op == 5)) || (i.op == 6)) = true then 0 else i.off else if i.op = 5 then if (rplace0 i) = true then if i.ra = (-1) then if (((i.op == 4) || (i.op == 5)) || (i.op == 6)) = true then 0 else i.off else if (((i.op == 4) || (i.op == 5)) || (i.op == 6)) = true then 0 else i.off else if (((i.op == 4) || (i.op == 5)) || (i.op == 6)) = true then 0 else i.off else if i.op = 6 then if ((decide (i.dst ≥ 0)) && (decide (i.dst < 8))) = true then if ((decide (i.ra ≥ 0)) && (decide (i.ra < 8))) = true then if (((i.op == 4) || (i.op == 5)) || (i.op == 6)) = true then 0 else i.off else if (((i.op == 4) || (i.op == 5)) || (i.op == 6)) = true then 0 else i.off else if (((i.op == 4) || (i.op == 5)) || (i.op == 6)) = true then 0 else i.off else if i.op = 7 then if (((i.op == 4) || (i.op == 5)) || (i.op == 6)) = true then 0 else i.off else if i.op = 8 then if (((i.op == 4) || (i.op == 5)) || (i.op == 6)) = true then 0 else i.off else if i.op = 9 then if (((i.op == 4) || (i.op == 5)) || (i.op == 6)) = true then 0 else i.off else if (((i.op == 4) || (i.op == 5)) || (i.op == 6)) = true then 0 else i.off
def rbare6 (i : In) : Int := if i.op = 1 then if (((i.op == 4) || (i.op == 5)) || (i.op == 6)) = true then (-1) else i.ix else if i.op = 2 then if ((decide (i.dst ≥ 0)) && (decide (i.dst < 8))) = true then if (((i.op == 4) || (i.op == 5)) || (i.op == 6)) = true then (-1) else i.ix else if (((i.op == 4) || (i.op == 5)) || (i.op == 6)) = true then (-1) else i.ix else if i.op = 3 then if ((decide (i.dst ≥ 0)) && (decide (i.dst < 8))) = true then if ((decide (i.ra ≥ 0)) && (decide (i.ra < 8))) = true then if i.fn ≥ 1 then if i.fn ≤ 5 then if i.rb = (-1) then if (((i.op == 4) || (i.op == 5)) || (i.op == 6)) = true then (-1) else i.ix else if (((i.op == 4) || (i.op == 5)) || (i.op == 6)) = true then (-1) else i.ix else if (((i.op == 4) || (i.op == 5)) || (i.op == 6)) = true then (-1) else i.ix else if (((i.op == 4) || (i.op == 5)) || (i.op == 6)) = true then (-1) else i.ix else if (((i.op == 4) || (i.op == 5)) || (i.op == 6)) = true then (-1) else i.ix else if (((i.op == 4) || (i.op == 5)) || (i.op == 6)) = true then (-1) else i.ix else if i.op = 4 then if ((decide (i.dst ≥ 0)) && (decide (i.dst < 8))) = true then if (((i.op == 4) || (i.op == 5)) || (i.op == 6)) = true then (-1) else i.ix else if (((i.op == 4) || (i.op == 5)) || (i.op == 6)) = true then (-1) else i.ix else if i.op = 5 then if (rplace0 i) = true then if i.ra = (-1) then if (((i.op == 4) || (i.op == 5)) || (i.op == 6)) = true then (-1) else i.ix else if (((i.op == 4) || (i.op == 5)) || (i.op == 6)) = true then (-1) else i.ix else if (((i.op == 4) || (i.op == 5)) || (i.op == 6)) = true then (-1) else i.ix else if i.op = 6 then if ((decide (i.dst ≥ 0)) && (decide (i.dst < 8))) = true then if ((decide (i.ra ≥ 0)) && (decide (i.ra < 8))) = true then if (((i.op == 4) || (i.op == 5)) || (i.op == 6)) = true then (-1) else i.ix else if (((i.op == 4) || (i.op == 5)) || (i.op == 6)) = true then (-1) else i.ix else if (((i.op == 4) || (i.op == 5)) || (i.op == 6)) = true then (-1) else i.ix else if i.op = 7 then if (((i.op == 4) || (i.op == 5)) || (i.op == 6)) = true then (-1) else i.ix else if i.op = 8 then if (((i.op == 4) || (i.op == 5)) || (i.op == 6)) = true then (-1) else i.ix else if i.op = 9 then if (((i.op == 4) || (i.op == 5)) || (i.op == 6)) = true then (-1) else i.ix else if (((i.op == 4) || (i.op == 5)) || (i.op == 6)) = true then (-1) else i.ix
def rbare7 (i : In) : Int := if i.op = 1 then if (((i.op == 4) || (i.op == 5)) || (i.op == 6)) = true then 0 else i.sz else if i.op = 2 then if ((decide (i.dst ≥ 0)) && (decide (i.dst < 8))) = true then if (((i.op == 4) || (i.op == 5)) || (i.op == 6)) = true then 0 else i.sz else if (((i.op == 4) || (i.op == 5)) || (i.op == 6)) = true then 0 else i.sz else if i.op = 3 then if ((decide (i.dst ≥ 0)) && (decide (i.dst < 8))) = true then if ((decide (i.ra ≥ 0)) && (decide (i.ra < 8))) = true then if i.fn ≥ 1 then if i.fn ≤ 5 then if i.rb = (-1) then if (((i.op == 4) || (i.op == 5)) || (i.op == 6)) = true then 0 else i.sz else if (((i.op == 4) || (i.op == 5)) || (i.op == 6)) = true then 0 else i.sz else if (((i.op == 4) || (i.op == 5)) || (i.op == 6)) = true then 0 else i.sz else if (((i.op == 4) || (i.op == 5)) || (i.op == 6)) = true then 0 else i.sz else if (((i.op == 4) || (i.op == 5)) || (i.op == 6)) = true then 0 else i.sz else if (((i.op == 4) || (i.op == 5)) || (i.op == 6)) = true then 0 else i.sz else if i.op = 4 then if ((decide (i.dst ≥ 0)) && (decide (i.dst < 8))) = true then if (((i.op == 4) || (i.op == 5)) || (i.op == 6)) = true then 0 else i.sz else if (((i.op == 4) || (i.op == 5)) || (i.op == 6)) = true then 0 else i.sz else if i.op = 5 then if (rplace0 i) = true then if i.ra = (-1) then if (((i.op == 4) || (i.op == 5)) || (i.op == 6)) = true then 0 else i.sz else if (((i.op == 4) || (i.op == 5)) || (i.op == 6)) = true then 0 else i.sz else if (((i.op == 4) || (i.op == 5)) || (i.op == 6)) = true then 0 else i.sz else if i.op = 6 then if ((decide (i.dst ≥ 0)) && (decide (i.dst < 8))) = true then if ((decide (i.ra ≥ 0)) && (decide (i.ra < 8))) = true then if (((i.op == 4) || (i.op == 5)) || (i.op == 6)) = true then 0 else i.sz else if (((i.op == 4) || (i.op == 5)) || (i.op == 6)) = true then 0 else i.sz else if (((i.op == 4) || (i.op == 5)) || (i.op == 6)) = true then 0 else i.sz else if i.op = 7 then if (((i.op == 4) || (i.op == 5)) || (i.op == 6)) = true then 0 else i.sz else if i.op = 8 then if (((i.op == 4) || (i.op == 5)) || (i.op == 6)) = true then 0 else i.sz else if i.op = 9 then if (((i.op == 4) || (i.op == 5)) || (i.op == 6)) = true then 0 else i.sz else if (((i.op == 4) || (i.op == 5)) || (i.op == 6)) = true then 0 else i.sz
def rbare8 (i : In) : Int := if i.op = 1 then i.fn else if i.op = 2 then i.fn else if i.op = 3 then 0 else if i.op = 4 then i.fn else if i.op = 5 then i.fn else if i.op = 6 then 0 else i.fn
def rbare9 (i : In) : Bool := if i.op = 1 then i.acq else if i.op = 2 then i.acq else if i.op = 3 then i.acq else if i.op = 4 then false else if i.op = 5 then i.acq else if i.op = 6 then false else i.acq
def rbare10 (i : In) : Bool := if i.op = 1 then i.weak else if i.op = 2 then i.weak else if i.op = 3 then i.weak else if i.op = 4 then false else i.weak
def rbare11 (i : In) : Bool := if i.op = 1 then i.rel else if i.op = 2 then i.rel else if i.op = 3 then i.rel else if i.op = 4 then i.rel else if i.op = 5 then false else if i.op = 6 then false else i.rel
def rbare12 (i : In) : Int := if i.op = 1 then i.pred else if i.op = 2 then i.pred else if i.op = 3 then i.pred else if i.op = 4 then i.pred else if i.op = 5 then i.pred else if i.op = 6 then i.pred else if i.op = 7 then 0 else i.pred
def rbare13 (i : In) : Int := if i.op = 1 then i.succ else if i.op = 2 then i.succ else if i.op = 3 then i.succ else if i.op = 4 then i.succ else if i.op = 5 then i.succ else if i.op = 6 then i.succ else if i.op = 7 then 0 else i.succ
def rbare14 (i : In) : Int := if i.op = 1 then i.to_ else if i.op = 2 then i.to_ else if i.op = 3 then i.to_ else if i.op = 4 then i.to_ else if i.op = 5 then i.to_ else if i.op = 6 then i.to_ else if i.op = 7 then i.to_ else if i.op = 8 then i.to_ else if i.op = 9 then 0 else i.to_
def rbare15 (i : In) : Bool := if i.op = 1 then i.zero else if i.op = 2 then i.zero else if i.op = 3 then i.zero else if i.op = 4 then i.zero else if i.op = 5 then i.zero else if i.op = 6 then i.zero else if i.op = 7 then i.zero else if i.op = 8 then i.zero else if i.op = 9 then false else i.zero
def rbare16 (i : In) : Bool := if i.op = 1 then (decide (i.dst ≥ 0)) && (decide (i.dst < 8)) else if i.op = 2 then if ((decide (i.dst ≥ 0)) && (decide (i.dst < 8))) = true then (decide (i.ra ≥ 0)) && (decide (i.ra < 8)) else false else if i.op = 3 then if ((decide (i.dst ≥ 0)) && (decide (i.dst < 8))) = true then if ((decide (i.ra ≥ 0)) && (decide (i.ra < 8))) = true then if i.fn ≥ 1 then if i.fn ≤ 5 then if i.rb = (-1) then true else ((decide (i.rb ≥ 0)) && (decide (i.rb < 8))) && (i.imm == 0) else false else false else false else false else if i.op = 4 then if ((decide (i.dst ≥ 0)) && (decide (i.dst < 8))) = true then (rplace0 i) && (!(i.acq && i.weak)) else false else if i.op = 5 then if (rplace0 i) = true then if i.ra = (-1) then true else ((decide (i.ra ≥ 0)) && (decide (i.ra < 8))) && (i.imm == 0) else false else if i.op = 6 then if ((decide (i.dst ≥ 0)) && (decide (i.dst < 8))) = true then if ((decide (i.ra ≥ 0)) && (decide (i.ra < 8))) = true then (rplace0 i) && ((i.fn == 6) || (i.fn == 1)) else false else false else if i.op = 7 then (((decide (i.pred ≥ 1)) && (decide (i.pred ≤ 3))) && (decide (i.succ ≥ 1))) && (decide (i.succ ≤ 3)) else if i.op = 8 then true else if i.op = 9 then (decide (i.ra ≥ 0)) && (decide (i.ra < 8)) else false
theorem rbare_ (i : In)  : Fn Tryz.prog 78 [.agg (inQ9 i)] [] (Rt (.tup [.agg [.int .i64 0, .int .i64 (rbare0 i), .int .i64 (rbare1 i), .int .i64 (rbare2 i), .int .i64 (rbare3 i), .int .i64 (rbare4 i), .int .i64 (rbare5 i), .int .i64 (rbare6 i), .int .i64 (rbare7 i), .int .i64 (rbare8 i), .bool (rbare9 i), .bool (rbare10 i), .bool (rbare11 i), .int .i64 (rbare12 i), .int .i64 (rbare13 i), .int .i64 (rbare14 i), .bool (rbare15 i)], .bool (rbare16 i)]) []) :=
 enterM (n := 192) (by kernel_rfl) Tryz.func78 rfl rfl rfl fun G w a h0 A => N hX 39 A rfl rfl fun A => forkE 10 A rfl
  (fun h1 A => N hX 5 A rfl rfl fun A => CALL1 [] (rreg_x i.dst) A rfl rfl rfl rfl rfl rfl rfl fun A => N hX 33 A rfl rfl fun A => fork 185 A rfl
   (fun h2 A => N hX 33 A rfl rfl fun A => RETN hX A rfl rfl rfl h0 rfl rfl rfl rfl (by simp only [oneS, nb, nbL, nbH, rbare0, rbare1, rbare2, rbare3, rbare4, rbare5, rbare6, rbare7, rbare8, rbare9, rbare10, rbare11, rbare12, rbare13, rbare14, rbare15, rbare16, if_pos h1, if_pos h2]) rfl)
   (fun h2 A => N hX 12 A rfl rfl fun A => RETN hX A rfl rfl rfl h0 rfl rfl rfl rfl (by simp only [oneS, nb, nbL, nbH, rbare0, rbare1, rbare2, rbare3, rbare4, rbare5, rbare6, rbare7, rbare8, rbare9, rbare10, rbare11, rbare12, rbare13, rbare14, rbare15, rbare16, if_pos h1, if_neg (ne_true_of_eq_false h2)]) rfl))
  (fun h1 A => N hX 7 A rfl rfl fun A => forkE 17 A rfl
   (fun h3 A => N hX 5 A rfl rfl fun A => CALL1 [] (rreg_x i.dst) A rfl rfl rfl rfl rfl rfl rfl fun A => N hX 1 A rfl rfl fun A => fork 22 A rfl
    (fun h4 A => N hX 2 A rfl rfl fun A => CALL1 [] (rreg_x i.ra) A rfl rfl rfl rfl rfl rfl rfl fun A => N hX 34 A rfl rfl fun A => fork 185 A rfl
     (fun h5 A => N hX 33 A rfl rfl fun A => RETN hX A rfl rfl rfl h0 rfl rfl rfl rfl (by simp only [oneS, nb, nbL, nbH, rbare0, rbare1, rbare2, rbare3, rbare4, rbare5, rbare6, rbare7, rbare8, rbare9, rbare10, rbare11, rbare12, rbare13, rbare14, rbare15, rbare16, if_neg (h1), if_pos h3, if_pos h4, if_pos h5]) rfl)
     (fun h5 A => N hX 12 A rfl rfl fun A => RETN hX A rfl rfl rfl h0 rfl rfl rfl rfl (by simp only [oneS, nb, nbL, nbH, rbare0, rbare1, rbare2, rbare3, rbare4, rbare5, rbare6, rbare7, rbare8, rbare9, rbare10, rbare11, rbare12, rbare13, rbare14, rbare15, rbare16, if_neg (h1), if_pos h3, if_pos h4, if_neg (ne_true_of_eq_false h5)]) rfl))
    (fun h4 A => N hX 37 A rfl rfl fun A => fork 185 A rfl
     (fun h6 A => N hX 33 A rfl rfl fun A => RETN hX A rfl rfl rfl h0 rfl rfl rfl rfl (by simp only [oneS, nb, nbL, nbH, rbare0, rbare1, rbare2, rbare3, rbare4, rbare5, rbare6, rbare7, rbare8, rbare9, rbare10, rbare11, rbare12, rbare13, rbare14, rbare15, rbare16, if_neg (h1), if_pos h3, if_neg (ne_true_of_eq_false h4), if_pos h6]) rfl)
     (fun h6 A => N hX 12 A rfl rfl fun A => RETN hX A rfl rfl rfl h0 rfl rfl rfl rfl (by simp only [oneS, nb, nbL, nbH, rbare0, rbare1, rbare2, rbare3, rbare4, rbare5, rbare6, rbare7, rbare8, rbare9, rbare10, rbare11, rbare12, rbare13, rbare14, rbare15, rbare16, if_neg (h1), if_pos h3, if_neg (ne_true_of_eq_false h4), if_neg (ne_true_of_eq_false h6)]) rfl)))
   (fun h3 A => N hX 7 A rfl rfl fun A => forkE 29 A rfl
    (fun h7 A => N hX 5 A rfl rfl fun A => CALL1 [] (rreg_x i.dst) A rfl rfl rfl rfl rfl rfl rfl fun A => N hX 1 A rfl rfl fun A => fork 34 A rfl
     (fun h8 A => N hX 2 A rfl rfl fun A => CALL1 [] (rreg_x i.ra) A rfl rfl rfl rfl rfl rfl rfl fun A => N hX 2 A rfl rfl fun A => fork 39 A rfl
      (fun h9 A => N hX 5 A rfl rfl fun A => forkD 44 A rfl
       (fun h10 A => N hX 5 A rfl rfl fun A => forkD 49 A rfl
        (fun h11 A => N hX 4 A rfl rfl fun A => forkE 53 A rfl
         (fun h12 A => N hX 61 A rfl rfl fun A => fork 185 A rfl
          (fun h13 A => N hX 33 A rfl rfl fun A => RETN hX A rfl rfl rfl h0 rfl rfl rfl rfl (by simp only [oneS, nb, nbL, nbH, rbare0, rbare1, rbare2, rbare3, rbare4, rbare5, rbare6, rbare7, rbare8, rbare9, rbare10, rbare11, rbare12, rbare13, rbare14, rbare15, rbare16, if_neg (h1), if_neg (h3), if_pos h7, if_pos h8, if_pos h9, if_pos h10, if_pos h11, if_pos h12, if_pos h13]) rfl)
          (fun h13 A => N hX 12 A rfl rfl fun A => RETN hX A rfl rfl rfl h0 rfl rfl rfl rfl (by simp only [oneS, nb, nbL, nbH, rbare0, rbare1, rbare2, rbare3, rbare4, rbare5, rbare6, rbare7, rbare8, rbare9, rbare10, rbare11, rbare12, rbare13, rbare14, rbare15, rbare16, if_neg (h1), if_neg (h3), if_pos h7, if_pos h8, if_pos h9, if_pos h10, if_pos h11, if_pos h12, if_neg (ne_true_of_eq_false h13)]) rfl))
         (fun h12 A => N hX 2 A rfl rfl fun A => CALL1 [] (rreg_x i.rb) A rfl rfl rfl rfl rfl rfl rfl fun A => N hX 11 A rfl rfl fun A => N hX 47 A rfl rfl fun A => fork 185 A rfl
          (fun h14 A => N hX 33 A rfl rfl fun A => RETN hX A rfl rfl rfl h0 rfl rfl rfl rfl (by simp only [oneS, nb, nbL, nbH, rbare0, rbare1, rbare2, rbare3, rbare4, rbare5, rbare6, rbare7, rbare8, rbare9, rbare10, rbare11, rbare12, rbare13, rbare14, rbare15, rbare16, if_neg (h1), if_neg (h3), if_pos h7, if_pos h8, if_pos h9, if_pos h10, if_pos h11, if_neg (h12), if_pos h14]) rfl)
          (fun h14 A => N hX 12 A rfl rfl fun A => RETN hX A rfl rfl rfl h0 rfl rfl rfl rfl (by simp only [oneS, nb, nbL, nbH, rbare0, rbare1, rbare2, rbare3, rbare4, rbare5, rbare6, rbare7, rbare8, rbare9, rbare10, rbare11, rbare12, rbare13, rbare14, rbare15, rbare16, if_neg (h1), if_neg (h3), if_pos h7, if_pos h8, if_pos h9, if_pos h10, if_pos h11, if_neg (h12), if_neg (ne_true_of_eq_false h14)]) rfl)))
        (fun h11 A => N hX 65 A rfl rfl fun A => fork 185 A rfl
         (fun h15 A => N hX 33 A rfl rfl fun A => RETN hX A rfl rfl rfl h0 rfl rfl rfl rfl (by simp only [oneS, nb, nbL, nbH, rbare0, rbare1, rbare2, rbare3, rbare4, rbare5, rbare6, rbare7, rbare8, rbare9, rbare10, rbare11, rbare12, rbare13, rbare14, rbare15, rbare16, if_neg (h1), if_neg (h3), if_pos h7, if_pos h8, if_pos h9, if_pos h10, if_neg h11, if_pos h15]) rfl)
         (fun h15 A => N hX 12 A rfl rfl fun A => RETN hX A rfl rfl rfl h0 rfl rfl rfl rfl (by simp only [oneS, nb, nbL, nbH, rbare0, rbare1, rbare2, rbare3, rbare4, rbare5, rbare6, rbare7, rbare8, rbare9, rbare10, rbare11, rbare12, rbare13, rbare14, rbare15, rbare16, if_neg (h1), if_neg (h3), if_pos h7, if_pos h8, if_pos h9, if_pos h10, if_neg h11, if_neg (ne_true_of_eq_false h15)]) rfl)))
       (fun h10 A => N hX 70 A rfl rfl fun A => fork 185 A rfl
        (fun h16 A => N hX 33 A rfl rfl fun A => RETN hX A rfl rfl rfl h0 rfl rfl rfl rfl (by simp only [oneS, nb, nbL, nbH, rbare0, rbare1, rbare2, rbare3, rbare4, rbare5, rbare6, rbare7, rbare8, rbare9, rbare10, rbare11, rbare12, rbare13, rbare14, rbare15, rbare16, if_neg (h1), if_neg (h3), if_pos h7, if_pos h8, if_pos h9, if_neg h10, if_pos h16]) rfl)
        (fun h16 A => N hX 12 A rfl rfl fun A => RETN hX A rfl rfl rfl h0 rfl rfl rfl rfl (by simp only [oneS, nb, nbL, nbH, rbare0, rbare1, rbare2, rbare3, rbare4, rbare5, rbare6, rbare7, rbare8, rbare9, rbare10, rbare11, rbare12, rbare13, rbare14, rbare15, rbare16, if_neg (h1), if_neg (h3), if_pos h7, if_pos h8, if_pos h9, if_neg h10, if_neg (ne_true_of_eq_false h16)]) rfl)))
      (fun h9 A => N hX 75 A rfl rfl fun A => fork 185 A rfl
       (fun h17 A => N hX 33 A rfl rfl fun A => RETN hX A rfl rfl rfl h0 rfl rfl rfl rfl (by simp only [oneS, nb, nbL, nbH, rbare0, rbare1, rbare2, rbare3, rbare4, rbare5, rbare6, rbare7, rbare8, rbare9, rbare10, rbare11, rbare12, rbare13, rbare14, rbare15, rbare16, if_neg (h1), if_neg (h3), if_pos h7, if_pos h8, if_neg (ne_true_of_eq_false h9), if_pos h17]) rfl)
       (fun h17 A => N hX 12 A rfl rfl fun A => RETN hX A rfl rfl rfl h0 rfl rfl rfl rfl (by simp only [oneS, nb, nbL, nbH, rbare0, rbare1, rbare2, rbare3, rbare4, rbare5, rbare6, rbare7, rbare8, rbare9, rbare10, rbare11, rbare12, rbare13, rbare14, rbare15, rbare16, if_neg (h1), if_neg (h3), if_pos h7, if_pos h8, if_neg (ne_true_of_eq_false h9), if_neg (ne_true_of_eq_false h17)]) rfl)))
     (fun h8 A => N hX 80 A rfl rfl fun A => fork 185 A rfl
      (fun h18 A => N hX 33 A rfl rfl fun A => RETN hX A rfl rfl rfl h0 rfl rfl rfl rfl (by simp only [oneS, nb, nbL, nbH, rbare0, rbare1, rbare2, rbare3, rbare4, rbare5, rbare6, rbare7, rbare8, rbare9, rbare10, rbare11, rbare12, rbare13, rbare14, rbare15, rbare16, if_neg (h1), if_neg (h3), if_pos h7, if_neg (ne_true_of_eq_false h8), if_pos h18]) rfl)
      (fun h18 A => N hX 12 A rfl rfl fun A => RETN hX A rfl rfl rfl h0 rfl rfl rfl rfl (by simp only [oneS, nb, nbL, nbH, rbare0, rbare1, rbare2, rbare3, rbare4, rbare5, rbare6, rbare7, rbare8, rbare9, rbare10, rbare11, rbare12, rbare13, rbare14, rbare15, rbare16, if_neg (h1), if_neg (h3), if_pos h7, if_neg (ne_true_of_eq_false h8), if_neg (ne_true_of_eq_false h18)]) rfl)))
    (fun h7 A => N hX 7 A rfl rfl fun A => forkE 69 A rfl
     (fun h19 A => N hX 5 A rfl rfl fun A => CALL1 [] (rreg_x i.dst) A rfl rfl rfl rfl rfl rfl rfl fun A => N hX 1 A rfl rfl fun A => fork 74 A rfl
      (fun h20 A => N hX 1 A rfl rfl fun A => CALL1 [] (rplace_ i) A rfl rfl rfl rfl rfl rfl rfl fun A => N hX 14 A rfl rfl fun A => N hX 35 A rfl rfl fun A => fork 185 A rfl
       (fun h21 A => N hX 33 A rfl rfl fun A => RETN hX A rfl rfl rfl h0 rfl rfl rfl rfl (by simp only [oneS, nb, nbL, nbH, rbare0, rbare1, rbare2, rbare3, rbare4, rbare5, rbare6, rbare7, rbare8, rbare9, rbare10, rbare11, rbare12, rbare13, rbare14, rbare15, rbare16, if_neg (h1), if_neg (h3), if_neg (h7), if_pos h19, if_pos h20, if_pos h21]) rfl)
       (fun h21 A => N hX 12 A rfl rfl fun A => RETN hX A rfl rfl rfl h0 rfl rfl rfl rfl (by simp only [oneS, nb, nbL, nbH, rbare0, rbare1, rbare2, rbare3, rbare4, rbare5, rbare6, rbare7, rbare8, rbare9, rbare10, rbare11, rbare12, rbare13, rbare14, rbare15, rbare16, if_neg (h1), if_neg (h3), if_neg (h7), if_pos h19, if_pos h20, if_neg (ne_true_of_eq_false h21)]) rfl))
      (fun h20 A => N hX 51 A rfl rfl fun A => fork 185 A rfl
       (fun h22 A => N hX 33 A rfl rfl fun A => RETN hX A rfl rfl rfl h0 rfl rfl rfl rfl (by simp only [oneS, nb, nbL, nbH, rbare0, rbare1, rbare2, rbare3, rbare4, rbare5, rbare6, rbare7, rbare8, rbare9, rbare10, rbare11, rbare12, rbare13, rbare14, rbare15, rbare16, if_neg (h1), if_neg (h3), if_neg (h7), if_pos h19, if_neg (ne_true_of_eq_false h20), if_pos h22]) rfl)
       (fun h22 A => N hX 12 A rfl rfl fun A => RETN hX A rfl rfl rfl h0 rfl rfl rfl rfl (by simp only [oneS, nb, nbL, nbH, rbare0, rbare1, rbare2, rbare3, rbare4, rbare5, rbare6, rbare7, rbare8, rbare9, rbare10, rbare11, rbare12, rbare13, rbare14, rbare15, rbare16, if_neg (h1), if_neg (h3), if_neg (h7), if_pos h19, if_neg (ne_true_of_eq_false h20), if_neg (ne_true_of_eq_false h22)]) rfl)))
     (fun h19 A => N hX 7 A rfl rfl fun A => forkE 90 A rfl
      (fun h23 A => N hX 4 A rfl rfl fun A => CALL1 [] (rplace_ i) A rfl rfl rfl rfl rfl rfl rfl fun A => N hX 1 A rfl rfl fun A => fork 94 A rfl
       (fun h24 A => N hX 4 A rfl rfl fun A => forkE 98 A rfl
        (fun h25 A => N hX 49 A rfl rfl fun A => fork 185 A rfl
         (fun h26 A => N hX 33 A rfl rfl fun A => RETN hX A rfl rfl rfl h0 rfl rfl rfl rfl (by simp only [oneS, nb, nbL, nbH, rbare0, rbare1, rbare2, rbare3, rbare4, rbare5, rbare6, rbare7, rbare8, rbare9, rbare10, rbare11, rbare12, rbare13, rbare14, rbare15, rbare16, if_neg (h1), if_neg (h3), if_neg (h7), if_neg (h19), if_pos h23, if_pos h24, if_pos h25, if_pos h26]) rfl)
         (fun h26 A => N hX 12 A rfl rfl fun A => RETN hX A rfl rfl rfl h0 rfl rfl rfl rfl (by simp only [oneS, nb, nbL, nbH, rbare0, rbare1, rbare2, rbare3, rbare4, rbare5, rbare6, rbare7, rbare8, rbare9, rbare10, rbare11, rbare12, rbare13, rbare14, rbare15, rbare16, if_neg (h1), if_neg (h3), if_neg (h7), if_neg (h19), if_pos h23, if_pos h24, if_pos h25, if_neg (ne_true_of_eq_false h26)]) rfl))
        (fun h25 A => N hX 2 A rfl rfl fun A => CALL1 [] (rreg_x i.ra) A rfl rfl rfl rfl rfl rfl rfl fun A => N hX 11 A rfl rfl fun A => N hX 35 A rfl rfl fun A => fork 185 A rfl
         (fun h27 A => N hX 33 A rfl rfl fun A => RETN hX A rfl rfl rfl h0 rfl rfl rfl rfl (by simp only [oneS, nb, nbL, nbH, rbare0, rbare1, rbare2, rbare3, rbare4, rbare5, rbare6, rbare7, rbare8, rbare9, rbare10, rbare11, rbare12, rbare13, rbare14, rbare15, rbare16, if_neg (h1), if_neg (h3), if_neg (h7), if_neg (h19), if_pos h23, if_pos h24, if_neg (h25), if_pos h27]) rfl)
         (fun h27 A => N hX 12 A rfl rfl fun A => RETN hX A rfl rfl rfl h0 rfl rfl rfl rfl (by simp only [oneS, nb, nbL, nbH, rbare0, rbare1, rbare2, rbare3, rbare4, rbare5, rbare6, rbare7, rbare8, rbare9, rbare10, rbare11, rbare12, rbare13, rbare14, rbare15, rbare16, if_neg (h1), if_neg (h3), if_neg (h7), if_neg (h19), if_pos h23, if_pos h24, if_neg (h25), if_neg (ne_true_of_eq_false h27)]) rfl)))
       (fun h24 A => N hX 53 A rfl rfl fun A => fork 185 A rfl
        (fun h28 A => N hX 33 A rfl rfl fun A => RETN hX A rfl rfl rfl h0 rfl rfl rfl rfl (by simp only [oneS, nb, nbL, nbH, rbare0, rbare1, rbare2, rbare3, rbare4, rbare5, rbare6, rbare7, rbare8, rbare9, rbare10, rbare11, rbare12, rbare13, rbare14, rbare15, rbare16, if_neg (h1), if_neg (h3), if_neg (h7), if_neg (h19), if_pos h23, if_neg (ne_true_of_eq_false h24), if_pos h28]) rfl)
        (fun h28 A => N hX 12 A rfl rfl fun A => RETN hX A rfl rfl rfl h0 rfl rfl rfl rfl (by simp only [oneS, nb, nbL, nbH, rbare0, rbare1, rbare2, rbare3, rbare4, rbare5, rbare6, rbare7, rbare8, rbare9, rbare10, rbare11, rbare12, rbare13, rbare14, rbare15, rbare16, if_neg (h1), if_neg (h3), if_neg (h7), if_neg (h19), if_pos h23, if_neg (ne_true_of_eq_false h24), if_neg (ne_true_of_eq_false h28)]) rfl)))
      (fun h23 A => N hX 7 A rfl rfl fun A => forkE 112 A rfl
       (fun h29 A => N hX 5 A rfl rfl fun A => CALL1 [] (rreg_x i.dst) A rfl rfl rfl rfl rfl rfl rfl fun A => N hX 1 A rfl rfl fun A => fork 117 A rfl
        (fun h30 A => N hX 2 A rfl rfl fun A => CALL1 [] (rreg_x i.ra) A rfl rfl rfl rfl rfl rfl rfl fun A => N hX 2 A rfl rfl fun A => fork 122 A rfl
         (fun h31 A => N hX 1 A rfl rfl fun A => CALL1 [] (rplace_ i) A rfl rfl rfl rfl rfl rfl rfl fun A => N hX 15 A rfl rfl fun A => N hX 47 A rfl rfl fun A => fork 185 A rfl
          (fun h32 A => N hX 33 A rfl rfl fun A => RETN hX A rfl rfl rfl h0 rfl rfl rfl rfl (by simp only [oneS, nb, nbL, nbH, rbare0, rbare1, rbare2, rbare3, rbare4, rbare5, rbare6, rbare7, rbare8, rbare9, rbare10, rbare11, rbare12, rbare13, rbare14, rbare15, rbare16, if_neg (h1), if_neg (h3), if_neg (h7), if_neg (h19), if_neg (h23), if_pos h29, if_pos h30, if_pos h31, if_pos h32]) rfl)
          (fun h32 A => N hX 12 A rfl rfl fun A => RETN hX A rfl rfl rfl h0 rfl rfl rfl rfl (by simp only [oneS, nb, nbL, nbH, rbare0, rbare1, rbare2, rbare3, rbare4, rbare5, rbare6, rbare7, rbare8, rbare9, rbare10, rbare11, rbare12, rbare13, rbare14, rbare15, rbare16, if_neg (h1), if_neg (h3), if_neg (h7), if_neg (h19), if_neg (h23), if_pos h29, if_pos h30, if_pos h31, if_neg (ne_true_of_eq_false h32)]) rfl))
         (fun h31 A => N hX 64 A rfl rfl fun A => fork 185 A rfl
          (fun h33 A => N hX 33 A rfl rfl fun A => RETN hX A rfl rfl rfl h0 rfl rfl rfl rfl (by simp only [oneS, nb, nbL, nbH, rbare0, rbare1, rbare2, rbare3, rbare4, rbare5, rbare6, rbare7, rbare8, rbare9, rbare10, rbare11, rbare12, rbare13, rbare14, rbare15, rbare16, if_neg (h1), if_neg (h3), if_neg (h7), if_neg (h19), if_neg (h23), if_pos h29, if_pos h30, if_neg (ne_true_of_eq_false h31), if_pos h33]) rfl)
          (fun h33 A => N hX 12 A rfl rfl fun A => RETN hX A rfl rfl rfl h0 rfl rfl rfl rfl (by simp only [oneS, nb, nbL, nbH, rbare0, rbare1, rbare2, rbare3, rbare4, rbare5, rbare6, rbare7, rbare8, rbare9, rbare10, rbare11, rbare12, rbare13, rbare14, rbare15, rbare16, if_neg (h1), if_neg (h3), if_neg (h7), if_neg (h19), if_neg (h23), if_pos h29, if_pos h30, if_neg (ne_true_of_eq_false h31), if_neg (ne_true_of_eq_false h33)]) rfl)))
        (fun h30 A => N hX 69 A rfl rfl fun A => fork 185 A rfl
         (fun h34 A => N hX 33 A rfl rfl fun A => RETN hX A rfl rfl rfl h0 rfl rfl rfl rfl (by simp only [oneS, nb, nbL, nbH, rbare0, rbare1, rbare2, rbare3, rbare4, rbare5, rbare6, rbare7, rbare8, rbare9, rbare10, rbare11, rbare12, rbare13, rbare14, rbare15, rbare16, if_neg (h1), if_neg (h3), if_neg (h7), if_neg (h19), if_neg (h23), if_pos h29, if_neg (ne_true_of_eq_false h30), if_pos h34]) rfl)
         (fun h34 A => N hX 12 A rfl rfl fun A => RETN hX A rfl rfl rfl h0 rfl rfl rfl rfl (by simp only [oneS, nb, nbL, nbH, rbare0, rbare1, rbare2, rbare3, rbare4, rbare5, rbare6, rbare7, rbare8, rbare9, rbare10, rbare11, rbare12, rbare13, rbare14, rbare15, rbare16, if_neg (h1), if_neg (h3), if_neg (h7), if_neg (h19), if_neg (h23), if_pos h29, if_neg (ne_true_of_eq_false h30), if_neg (ne_true_of_eq_false h34)]) rfl)))
       (fun h29 A => N hX 7 A rfl rfl fun A => forkE 141 A rfl
        (fun h35 A => N hX 25 A rfl rfl fun A => N hX 29 A rfl rfl fun A => fork 185 A rfl
         (fun h36 A => N hX 33 A rfl rfl fun A => RETN hX A rfl rfl rfl h0 rfl rfl rfl rfl (by simp only [oneS, nb, nbL, nbH, rbare0, rbare1, rbare2, rbare3, rbare4, rbare5, rbare6, rbare7, rbare8, rbare9, rbare10, rbare11, rbare12, rbare13, rbare14, rbare15, rbare16, if_neg (h1), if_neg (h3), if_neg (h7), if_neg (h19), if_neg (h23), if_neg (h29), if_pos h35, if_pos h36]) rfl)
         (fun h36 A => N hX 12 A rfl rfl fun A => RETN hX A rfl rfl rfl h0 rfl rfl rfl rfl (by simp only [oneS, nb, nbL, nbH, rbare0, rbare1, rbare2, rbare3, rbare4, rbare5, rbare6, rbare7, rbare8, rbare9, rbare10, rbare11, rbare12, rbare13, rbare14, rbare15, rbare16, if_neg (h1), if_neg (h3), if_neg (h7), if_neg (h19), if_neg (h23), if_neg (h29), if_pos h35, if_neg (ne_true_of_eq_false h36)]) rfl))
        (fun h35 A => N hX 7 A rfl rfl fun A => forkE 163 A rfl
         (fun h37 A => N hX 22 A rfl rfl fun A => fork 185 A rfl
          (fun h38 A => N hX 33 A rfl rfl fun A => RETN hX A rfl rfl rfl h0 rfl rfl rfl rfl (by simp only [oneS, nb, nbL, nbH, rbare0, rbare1, rbare2, rbare3, rbare4, rbare5, rbare6, rbare7, rbare8, rbare9, rbare10, rbare11, rbare12, rbare13, rbare14, rbare15, rbare16, if_neg (h1), if_neg (h3), if_neg (h7), if_neg (h19), if_neg (h23), if_neg (h29), if_neg (h35), if_pos h37, if_pos h38]) rfl)
          (fun h38 A => N hX 12 A rfl rfl fun A => RETN hX A rfl rfl rfl h0 rfl rfl rfl rfl (by simp only [oneS, nb, nbL, nbH, rbare0, rbare1, rbare2, rbare3, rbare4, rbare5, rbare6, rbare7, rbare8, rbare9, rbare10, rbare11, rbare12, rbare13, rbare14, rbare15, rbare16, if_neg (h1), if_neg (h3), if_neg (h7), if_neg (h19), if_neg (h23), if_neg (h29), if_neg (h35), if_pos h37, if_neg (ne_true_of_eq_false h38)]) rfl))
         (fun h37 A => N hX 7 A rfl rfl fun A => forkE 165 A rfl
          (fun h39 A => N hX 5 A rfl rfl fun A => CALL1 [] (rreg_x i.ra) A rfl rfl rfl rfl rfl rfl rfl fun A => N hX 39 A rfl rfl fun A => fork 185 A rfl
           (fun h40 A => N hX 33 A rfl rfl fun A => RETN hX A rfl rfl rfl h0 rfl rfl rfl rfl (by simp only [oneS, nb, nbL, nbH, rbare0, rbare1, rbare2, rbare3, rbare4, rbare5, rbare6, rbare7, rbare8, rbare9, rbare10, rbare11, rbare12, rbare13, rbare14, rbare15, rbare16, if_neg (h1), if_neg (h3), if_neg (h7), if_neg (h19), if_neg (h23), if_neg (h29), if_neg (h35), if_neg (h37), if_pos h39, if_pos h40]) rfl)
           (fun h40 A => N hX 12 A rfl rfl fun A => RETN hX A rfl rfl rfl h0 rfl rfl rfl rfl (by simp only [oneS, nb, nbL, nbH, rbare0, rbare1, rbare2, rbare3, rbare4, rbare5, rbare6, rbare7, rbare8, rbare9, rbare10, rbare11, rbare12, rbare13, rbare14, rbare15, rbare16, if_neg (h1), if_neg (h3), if_neg (h7), if_neg (h19), if_neg (h23), if_neg (h29), if_neg (h35), if_neg (h37), if_pos h39, if_neg (ne_true_of_eq_false h40)]) rfl))
          (fun h39 A => N hX 24 A rfl rfl fun A => fork 185 A rfl
           (fun h41 A => N hX 33 A rfl rfl fun A => RETN hX A rfl rfl rfl h0 rfl rfl rfl rfl (by simp only [oneS, nb, nbL, nbH, rbare0, rbare1, rbare2, rbare3, rbare4, rbare5, rbare6, rbare7, rbare8, rbare9, rbare10, rbare11, rbare12, rbare13, rbare14, rbare15, rbare16, if_neg (h1), if_neg (h3), if_neg (h7), if_neg (h19), if_neg (h23), if_neg (h29), if_neg (h35), if_neg (h37), if_neg (h39), if_pos h41]) rfl)
           (fun h41 A => N hX 12 A rfl rfl fun A => RETN hX A rfl rfl rfl h0 rfl rfl rfl rfl (by simp only [oneS, nb, nbL, nbH, rbare0, rbare1, rbare2, rbare3, rbare4, rbare5, rbare6, rbare7, rbare8, rbare9, rbare10, rbare11, rbare12, rbare13, rbare14, rbare15, rbare16, if_neg (h1), if_neg (h3), if_neg (h7), if_neg (h19), if_neg (h23), if_neg (h29), if_neg (h35), if_neg (h37), if_neg (h39), if_neg (ne_true_of_eq_false h41)]) rfl))))))))))
def rright0 (i : In) (p : Int) (n : Int) : Int := if ((!(rbare16 i)) || (!((((0 : Int) == 0) && (((rbare0 i) == (-1)) && (((rbare1 i) == (-1)) && (((rbare2 i) == (-1)) && (((rbare3 i) == 0) && (((rbare4 i) == 0) && (((rbare5 i) == 0) && (((rbare6 i) == (-1)) && (((rbare7 i) == 0) && (((rbare8 i) == 0) && (((rbare9 i) == false) && (((rbare10 i) == false) && (((rbare11 i) == false) && (((rbare12 i) == 0) && (((rbare13 i) == 0) && (((rbare14 i) == 0) && ((rbare15 i) == false)))))))))))))))))))) = true then 34 else if ((i.op == 9) && ((decide (i.to_ ≤ p)) || (decide (i.to_ > n)))) = true then 35 else 0
theorem rright_ (i : In) (p : Int) (n : Int)  : Fn Tryz.prog 37 [.agg (inQ9 i), .int .i64 p, .int .i64 n] [] (Rt (.int .i64 (rright0 i p n)) []) :=
 enterM (n := 36) (by kernel_rfl) Tryz.func37 rfl rfl rfl fun G w a h0 A => N hX 9 A rfl rfl fun A => CALL1 [] (rbare_ i) A rfl rfl rfl rfl rfl rfl rfl fun A => N hX 20 A rfl rfl fun A => fork 20 A rfl
  (fun h1 A => N hX 7 A rfl rfl fun A => RETN hX A rfl rfl rfl h0 rfl rfl rfl rfl (by simp only [oneS, nb, nbL, nbH, rright0, if_pos h1]) rfl)
  (fun h1 A => N hX 23 A rfl rfl fun A => fork 35 A rfl
   (fun h2 A => N hX 7 A rfl rfl fun A => RETN hX A rfl rfl rfl h0 rfl rfl rfl rfl (by simp only [oneS, nb, nbL, nbH, rright0, if_neg (ne_true_of_eq_false h1), if_pos h2]) rfl)
   (fun h2 A => N hX 9 A rfl rfl fun A => RETN hX A rfl rfl rfl h0 rfl rfl rfl rfl (by simp only [oneS, nb, nbL, nbH, rright0, if_neg (ne_true_of_eq_false h1), if_neg (ne_true_of_eq_false h2)]) rfl))
end Go.Proofs.YtedlaclfhgneeaaGreatDoor
namespace Go.Proofs.YtedlaclfhgneeaaGreatDoor
open Go.RowKit
set_option linter.unusedVariables false
set_option linter.unusedSimpArgs false
theorem place_o (i : In) : rplace0 i = Old.accB (toO i) := by
  have hm := mkF_o i.off i.sz
  unfold rplace0 Old.accB Old.ronB Old.regB toO
  simp only []
  rw [← hm]
  by_cases h1 : i.loc ≥ 0 <;> by_cases h2 : i.loc < 3 <;> by_cases h3 : i.ix = -1 <;> by_cases h4 : mkF i.off i.sz = 0 <;> first | (simp [h1, h2, h3, h4]; done) | (rw [Bool.eq_iff_iff]; simp [h1, h2, h3, h4])
theorem bare_1 (i : In) (h : i.op = 1) : (rbare16 i && (((0 : Int) == 0) && (((rbare0 i) == (-1)) && (((rbare1 i) == (-1)) && (((rbare2 i) == (-1)) && (((rbare3 i) == 0) && (((rbare4 i) == 0) && (((rbare5 i) == 0) && (((rbare6 i) == (-1)) && (((rbare7 i) == 0) && (((rbare8 i) == 0) && (((rbare9 i) == false) && (((rbare10 i) == false) && (((rbare11 i) == false) && (((rbare12 i) == 0) && (((rbare13 i) == 0) && (((rbare14 i) == 0) && ((rbare15 i) == false)))))))))))))))))) = (Old.insEq (toO i) (Old.plainF (toO i)) && Old.soundB (toO i)) := by
  have hp := place_o i
  generalize hq : Old.accB (toO i) = ab at hp
  unfold toO at hq
  rw [Bool.eq_iff_iff]
  simp [h, hp, hq, rbare0, rbare1, rbare2, rbare3, rbare4, rbare5, rbare6, rbare7, rbare8, rbare9, rbare10, rbare11, rbare12, rbare13, rbare14, rbare15, rbare16, Old.insEq, Old.plainF, Old.soundB, Old.opB, Old.rdB, Old.wrB, Old.regB, Old.immF, Old.ronB, Old.fenB, toO]
  try grind
theorem bare_2 (i : In) (h : i.op = 2) : (rbare16 i && (((0 : Int) == 0) && (((rbare0 i) == (-1)) && (((rbare1 i) == (-1)) && (((rbare2 i) == (-1)) && (((rbare3 i) == 0) && (((rbare4 i) == 0) && (((rbare5 i) == 0) && (((rbare6 i) == (-1)) && (((rbare7 i) == 0) && (((rbare8 i) == 0) && (((rbare9 i) == false) && (((rbare10 i) == false) && (((rbare11 i) == false) && (((rbare12 i) == 0) && (((rbare13 i) == 0) && (((rbare14 i) == 0) && ((rbare15 i) == false)))))))))))))))))) = (Old.insEq (toO i) (Old.plainF (toO i)) && Old.soundB (toO i)) := by
  have hp := place_o i
  generalize hq : Old.accB (toO i) = ab at hp
  unfold toO at hq
  rw [Bool.eq_iff_iff]
  simp [h, hp, hq, rbare0, rbare1, rbare2, rbare3, rbare4, rbare5, rbare6, rbare7, rbare8, rbare9, rbare10, rbare11, rbare12, rbare13, rbare14, rbare15, rbare16, Old.insEq, Old.plainF, Old.soundB, Old.opB, Old.rdB, Old.wrB, Old.regB, Old.immF, Old.ronB, Old.fenB, toO]
  try grind
theorem bare_3 (i : In) (h : i.op = 3) : (rbare16 i && (((0 : Int) == 0) && (((rbare0 i) == (-1)) && (((rbare1 i) == (-1)) && (((rbare2 i) == (-1)) && (((rbare3 i) == 0) && (((rbare4 i) == 0) && (((rbare5 i) == 0) && (((rbare6 i) == (-1)) && (((rbare7 i) == 0) && (((rbare8 i) == 0) && (((rbare9 i) == false) && (((rbare10 i) == false) && (((rbare11 i) == false) && (((rbare12 i) == 0) && (((rbare13 i) == 0) && (((rbare14 i) == 0) && ((rbare15 i) == false)))))))))))))))))) = (Old.insEq (toO i) (Old.plainF (toO i)) && Old.soundB (toO i)) := by
  have hp := place_o i
  generalize hq : Old.accB (toO i) = ab at hp
  unfold toO at hq
  rw [Bool.eq_iff_iff]
  simp [h, hp, hq, rbare0, rbare1, rbare2, rbare3, rbare4, rbare5, rbare6, rbare7, rbare8, rbare9, rbare10, rbare11, rbare12, rbare13, rbare14, rbare15, rbare16, Old.insEq, Old.plainF, Old.soundB, Old.opB, Old.rdB, Old.wrB, Old.regB, Old.immF, Old.ronB, Old.fenB, toO]
  try grind
theorem bare_4 (i : In) (h : i.op = 4) : (rbare16 i && (((0 : Int) == 0) && (((rbare0 i) == (-1)) && (((rbare1 i) == (-1)) && (((rbare2 i) == (-1)) && (((rbare3 i) == 0) && (((rbare4 i) == 0) && (((rbare5 i) == 0) && (((rbare6 i) == (-1)) && (((rbare7 i) == 0) && (((rbare8 i) == 0) && (((rbare9 i) == false) && (((rbare10 i) == false) && (((rbare11 i) == false) && (((rbare12 i) == 0) && (((rbare13 i) == 0) && (((rbare14 i) == 0) && ((rbare15 i) == false)))))))))))))))))) = (Old.insEq (toO i) (Old.plainF (toO i)) && Old.soundB (toO i)) := by
  have hp := place_o i
  generalize hq : Old.accB (toO i) = ab at hp
  unfold toO at hq
  rw [Bool.eq_iff_iff]
  simp [h, hp, hq, rbare0, rbare1, rbare2, rbare3, rbare4, rbare5, rbare6, rbare7, rbare8, rbare9, rbare10, rbare11, rbare12, rbare13, rbare14, rbare15, rbare16, Old.insEq, Old.plainF, Old.soundB, Old.opB, Old.rdB, Old.wrB, Old.regB, Old.immF, Old.ronB, Old.fenB, toO]
  try grind
theorem bare_5 (i : In) (h : i.op = 5) : (rbare16 i && (((0 : Int) == 0) && (((rbare0 i) == (-1)) && (((rbare1 i) == (-1)) && (((rbare2 i) == (-1)) && (((rbare3 i) == 0) && (((rbare4 i) == 0) && (((rbare5 i) == 0) && (((rbare6 i) == (-1)) && (((rbare7 i) == 0) && (((rbare8 i) == 0) && (((rbare9 i) == false) && (((rbare10 i) == false) && (((rbare11 i) == false) && (((rbare12 i) == 0) && (((rbare13 i) == 0) && (((rbare14 i) == 0) && ((rbare15 i) == false)))))))))))))))))) = (Old.insEq (toO i) (Old.plainF (toO i)) && Old.soundB (toO i)) := by
  have hp := place_o i
  generalize hq : Old.accB (toO i) = ab at hp
  unfold toO at hq
  rw [Bool.eq_iff_iff]
  simp [h, hp, hq, rbare0, rbare1, rbare2, rbare3, rbare4, rbare5, rbare6, rbare7, rbare8, rbare9, rbare10, rbare11, rbare12, rbare13, rbare14, rbare15, rbare16, Old.insEq, Old.plainF, Old.soundB, Old.opB, Old.rdB, Old.wrB, Old.regB, Old.immF, Old.ronB, Old.fenB, toO]
  try grind
theorem bare_6 (i : In) (h : i.op = 6) : (rbare16 i && (((0 : Int) == 0) && (((rbare0 i) == (-1)) && (((rbare1 i) == (-1)) && (((rbare2 i) == (-1)) && (((rbare3 i) == 0) && (((rbare4 i) == 0) && (((rbare5 i) == 0) && (((rbare6 i) == (-1)) && (((rbare7 i) == 0) && (((rbare8 i) == 0) && (((rbare9 i) == false) && (((rbare10 i) == false) && (((rbare11 i) == false) && (((rbare12 i) == 0) && (((rbare13 i) == 0) && (((rbare14 i) == 0) && ((rbare15 i) == false)))))))))))))))))) = (Old.insEq (toO i) (Old.plainF (toO i)) && Old.soundB (toO i)) := by
  have hp := place_o i
  generalize hq : Old.accB (toO i) = ab at hp
  unfold toO at hq
  rw [Bool.eq_iff_iff]
  simp [h, hp, hq, rbare0, rbare1, rbare2, rbare3, rbare4, rbare5, rbare6, rbare7, rbare8, rbare9, rbare10, rbare11, rbare12, rbare13, rbare14, rbare15, rbare16, Old.insEq, Old.plainF, Old.soundB, Old.opB, Old.rdB, Old.wrB, Old.regB, Old.immF, Old.ronB, Old.fenB, toO]
  try grind
theorem bare_7 (i : In) (h : i.op = 7) : (rbare16 i && (((0 : Int) == 0) && (((rbare0 i) == (-1)) && (((rbare1 i) == (-1)) && (((rbare2 i) == (-1)) && (((rbare3 i) == 0) && (((rbare4 i) == 0) && (((rbare5 i) == 0) && (((rbare6 i) == (-1)) && (((rbare7 i) == 0) && (((rbare8 i) == 0) && (((rbare9 i) == false) && (((rbare10 i) == false) && (((rbare11 i) == false) && (((rbare12 i) == 0) && (((rbare13 i) == 0) && (((rbare14 i) == 0) && ((rbare15 i) == false)))))))))))))))))) = (Old.insEq (toO i) (Old.plainF (toO i)) && Old.soundB (toO i)) := by
  have hp := place_o i
  generalize hq : Old.accB (toO i) = ab at hp
  unfold toO at hq
  rw [Bool.eq_iff_iff]
  simp [h, hp, hq, rbare0, rbare1, rbare2, rbare3, rbare4, rbare5, rbare6, rbare7, rbare8, rbare9, rbare10, rbare11, rbare12, rbare13, rbare14, rbare15, rbare16, Old.insEq, Old.plainF, Old.soundB, Old.opB, Old.rdB, Old.wrB, Old.regB, Old.immF, Old.ronB, Old.fenB, toO]
  try grind
theorem bare_8 (i : In) (h : i.op = 8) : (rbare16 i && (((0 : Int) == 0) && (((rbare0 i) == (-1)) && (((rbare1 i) == (-1)) && (((rbare2 i) == (-1)) && (((rbare3 i) == 0) && (((rbare4 i) == 0) && (((rbare5 i) == 0) && (((rbare6 i) == (-1)) && (((rbare7 i) == 0) && (((rbare8 i) == 0) && (((rbare9 i) == false) && (((rbare10 i) == false) && (((rbare11 i) == false) && (((rbare12 i) == 0) && (((rbare13 i) == 0) && (((rbare14 i) == 0) && ((rbare15 i) == false)))))))))))))))))) = (Old.insEq (toO i) (Old.plainF (toO i)) && Old.soundB (toO i)) := by
  have hp := place_o i
  generalize hq : Old.accB (toO i) = ab at hp
  unfold toO at hq
  rw [Bool.eq_iff_iff]
  simp [h, hp, hq, rbare0, rbare1, rbare2, rbare3, rbare4, rbare5, rbare6, rbare7, rbare8, rbare9, rbare10, rbare11, rbare12, rbare13, rbare14, rbare15, rbare16, Old.insEq, Old.plainF, Old.soundB, Old.opB, Old.rdB, Old.wrB, Old.regB, Old.immF, Old.ronB, Old.fenB, toO]
  try grind
theorem bare_9 (i : In) (h : i.op = 9) : (rbare16 i && (((0 : Int) == 0) && (((rbare0 i) == (-1)) && (((rbare1 i) == (-1)) && (((rbare2 i) == (-1)) && (((rbare3 i) == 0) && (((rbare4 i) == 0) && (((rbare5 i) == 0) && (((rbare6 i) == (-1)) && (((rbare7 i) == 0) && (((rbare8 i) == 0) && (((rbare9 i) == false) && (((rbare10 i) == false) && (((rbare11 i) == false) && (((rbare12 i) == 0) && (((rbare13 i) == 0) && (((rbare14 i) == 0) && ((rbare15 i) == false)))))))))))))))))) = (Old.insEq (toO i) (Old.plainF (toO i)) && Old.soundB (toO i)) := by
  have hp := place_o i
  generalize hq : Old.accB (toO i) = ab at hp
  unfold toO at hq
  rw [Bool.eq_iff_iff]
  simp [h, hp, hq, rbare0, rbare1, rbare2, rbare3, rbare4, rbare5, rbare6, rbare7, rbare8, rbare9, rbare10, rbare11, rbare12, rbare13, rbare14, rbare15, rbare16, Old.insEq, Old.plainF, Old.soundB, Old.opB, Old.rdB, Old.wrB, Old.regB, Old.immF, Old.ronB, Old.fenB, toO]
  try grind
theorem bare_0 (i : In) (h1 : ¬ i.op = 1) (h2 : ¬ i.op = 2) (h3 : ¬ i.op = 3) (h4 : ¬ i.op = 4) (h5 : ¬ i.op = 5) (h6 : ¬ i.op = 6) (h7 : ¬ i.op = 7) (h8 : ¬ i.op = 8) (h9 : ¬ i.op = 9) : (rbare16 i && (((0 : Int) == 0) && (((rbare0 i) == (-1)) && (((rbare1 i) == (-1)) && (((rbare2 i) == (-1)) && (((rbare3 i) == 0) && (((rbare4 i) == 0) && (((rbare5 i) == 0) && (((rbare6 i) == (-1)) && (((rbare7 i) == 0) && (((rbare8 i) == 0) && (((rbare9 i) == false) && (((rbare10 i) == false) && (((rbare11 i) == false) && (((rbare12 i) == 0) && (((rbare13 i) == 0) && (((rbare14 i) == 0) && ((rbare15 i) == false)))))))))))))))))) = (Old.insEq (toO i) (Old.plainF (toO i)) && Old.soundB (toO i)) := by
  rw [show rbare16 i = false by simp [rbare16, h1, h2, h3, h4, h5, h6, h7, h8, h9], show Old.soundB (toO i) = false by simp [Old.soundB, toO, h1, h2, h3, h4, h5, h6, h7, h8, h9], Bool.and_false, Bool.false_and]
theorem bare_o (i : In) : (rbare16 i && (((0 : Int) == 0) && (((rbare0 i) == (-1)) && (((rbare1 i) == (-1)) && (((rbare2 i) == (-1)) && (((rbare3 i) == 0) && (((rbare4 i) == 0) && (((rbare5 i) == 0) && (((rbare6 i) == (-1)) && (((rbare7 i) == 0) && (((rbare8 i) == 0) && (((rbare9 i) == false) && (((rbare10 i) == false) && (((rbare11 i) == false) && (((rbare12 i) == 0) && (((rbare13 i) == 0) && (((rbare14 i) == 0) && ((rbare15 i) == false)))))))))))))))))) = (Old.insEq (toO i) (Old.plainF (toO i)) && Old.soundB (toO i)) := by
  by_cases h1 : i.op = 1
  · exact bare_1 i h1
  by_cases h2 : i.op = 2
  · exact bare_2 i h2
  by_cases h3 : i.op = 3
  · exact bare_3 i h3
  by_cases h4 : i.op = 4
  · exact bare_4 i h4
  by_cases h5 : i.op = 5
  · exact bare_5 i h5
  by_cases h6 : i.op = 6
  · exact bare_6 i h6
  by_cases h7 : i.op = 7
  · exact bare_7 i h7
  by_cases h8 : i.op = 8
  · exact bare_8 i h8
  by_cases h9 : i.op = 9
  · exact bare_9 i h9
  exact bare_0 i h1 h2 h3 h4 h5 h6 h7 h8 h9
theorem rright_o (i : In) (p n : Int) : rright0 i p n = Old.rightR (toO i) p n := by
  unfold rright0 Old.rightR
  rw [← Bool.not_and, bare_o]
  cases (Old.insEq (toO i) (Old.plainF (toO i)) && Old.soundB (toO i)) <;> rfl
end Go.Proofs.YtedlaclfhgneeaaGreatDoor
namespace Go.Proofs.YtedlaclfhgneeaaGreatDoor
open Go.RowKit
set_option linter.unusedVariables false
set_option linter.unusedSimpArgs false
set_option maxRecDepth 100000
set_option maxHeartbeats 2000000
set_option simprocs false
theorem rdigit_ (c : Int)  : Fn Tryz.prog 131 [.int .u8 c] [] (Rt (.bool ((decide (c ≥ 48)) && (decide (c ≤ 57)))) []) :=
 enterM (n := 9) (by kernel_rfl) Tryz.func131 rfl rfl rfl fun G w a h0 A => N hX 17 A rfl rfl fun A => RETN hX A rfl rfl rfl h0 rfl rfl rfl rfl rfl rfl
theorem rdigit_b (b : UInt8) : Fn Tryz.prog 131 [.int .u8 ((b.toNat : Nat) : Int)] [] (Rt (.bool (digB b)) []) := fn_asX (rdigit_ ((b.toNat : Nat) : Int)) (as_bool (by set_option simprocs true in (rw [Bool.eq_iff_iff]; simp [digB, letB]; try omega)))
theorem rletter_ (c : Int)  : Fn Tryz.prog 134 [.int .u8 c] [] (Rt (.bool (((decide (c ≥ 97)) && (decide (c ≤ 122))) || ((decide (c ≥ 65)) && (decide (c ≤ 90))))) []) :=
 enterM (n := 17) (by kernel_rfl) Tryz.func134 rfl rfl rfl fun G w a h0 A => N hX 25 A rfl rfl fun A => RETN hX A rfl rfl rfl h0 rfl rfl rfl rfl rfl rfl
theorem rletter_b (b : UInt8) : Fn Tryz.prog 134 [.int .u8 ((b.toNat : Nat) : Int)] [] (Rt (.bool (letB b)) []) := fn_asX (rletter_ ((b.toNat : Nat) : Int)) (as_bool (by set_option simprocs true in (rw [Bool.eq_iff_iff]; simp [digB, letB]; try omega)))
structure RI (p : UInt8 → Bool) (l : List UInt8) (s0 k : Nat) : Prop where
  lo : s0 ≤ k
  le : k ≤ l.length
  eq : k + rn p (l.drop k) = s0 + rn p (l.drop s0)
section
variable {p : UInt8 → Bool} {l : List UInt8} {s0 k : Nat}
theorem RI.i0 (h : s0 ≤ l.length) : RI p l s0 s0 := ⟨Nat.le_refl _, h, rfl⟩
theorem RI.nx (hI : RI p l s0 k) (h1 : (k : Int) < (l.length : Int)) (h2 : p (l.getD ((k : Int)).toNat 0) = true) : RI p l s0 (k + 1) := by
  have := rn_go (at_of h1) h2; have := hI.lo; have := hI.eq
  exact ⟨by omega, by omega, by omega⟩
theorem RI.fi (hI : RI p l s0 k) (h1 : ¬ (k : Int) < (l.length : Int)) : (k : Int) = (((s0 + rn p (l.drop s0) : Nat)) : Int) := by
  have := rn_end (p := p) (l := l) (n := k) (by omega); have := hI.eq; omega
theorem RI.st (hI : RI p l s0 k) (h1 : (k : Int) < (l.length : Int)) (h2 : p (l.getD ((k : Int)).toNat 0) = false) : (k : Int) = (((s0 + rn p (l.drop s0) : Nat)) : Int) := by
  have := rn_stop (at_of h1) h2; have := hI.eq; omega
end
section
variable {b : UInt8}
theorem nam_l (h : letB b = true) : namB b = true := by simp [namB, nbgB, h]
theorem num_l (h : letB b = true) : numB b = true := by simp [numB, h]
theorem nam_is (h2 : letB b = false) : namB b = ((digB b) || ((((b.toNat : Nat) : Int) == 95) || (((b.toNat : Nat) : Int) == 46))) := by
  unfold namB nbgB
  rw [h2, Bool.false_or, show (((b.toNat : Nat) : Int) == 95) = (b.toNat == 95) by rw [Bool.eq_iff_iff]; simp only [beq_iff_eq]; omega, show (((b.toNat : Nat) : Int) == 46) = (b.toNat == 46) by rw [Bool.eq_iff_iff]; simp only [beq_iff_eq]; omega]
  cases digB b <;> cases (b.toNat == 95) <;> cases (b.toNat == 46) <;> rfl
theorem num_is (h2 : letB b = false) : numB b = (bif digB b then true else false) := by
  unfold numB; rw [h2]; cases digB b <;> rfl
end
structure MKR (b : UInt8) (k : Nat) : Prop where
  le : k ≤ 22
  no : ∀ j, j < k → marksL.getD j 0 ≠ b
section
variable {b : UInt8} {k : Nat}
theorem MKR.i0 : MKR b 0 := ⟨by omega, fun j h => by omega⟩
theorem MKR.nx (hI : MKR b k) (h1 : (k : Int) < 22) (h : ¬ marksL.getD ((k : Int)).toNat 0 = b) : MKR b (k + 1) := by
  refine ⟨by omega, fun j hj => ?_⟩
  by_cases e : j = k
  · subst e; exact h
  · exact hI.no j (by omega)
theorem MKR.fi (hI : MKR b k) (h1 : ¬ (k : Int) < 22) : mrkB b = false := by
  have hk := hI.le
  unfold mrkB
  cases hc : marksL.contains b
  · rfl
  · have hm : b ∈ marksL := by simpa using hc
    obtain ⟨j, hj, e⟩ := List.getElem_of_mem hm
    have hl : marksL.length = 22 := rfl
    exact absurd (by rw [List.getD_eq_getElem?_getD, List.getElem?_eq_getElem hj]; exact e) (hI.no j (by omega))
theorem mk_hit (h1 : (k : Int) < 22) (h : marksL.getD ((k : Int)).toNat 0 = b) : mrkB b = true := by
  have hl : marksL.length = 22 := rfl
  have hk : k < marksL.length := by omega
  unfold mrkB
  rw [List.contains_iff_mem, ← h, List.getD_eq_getElem?_getD, Int.toNat_natCast, List.getElem?_eq_getElem hk]
  exact List.getElem_mem hk
theorem u8_eq {x y : UInt8} (h : ((x.toNat : Nat) : Int) = ((y.toNat : Nat) : Int)) : x = y := UInt8.toNat_inj.1 (by omega)
theorem u8_ne {x y : UInt8} (h : ((x.toNat : Nat) : Int) ≠ ((y.toNat : Nat) : Int)) : ¬ x = y := fun e => h (by rw [e])
end
theorem rrun_nam (l : List UInt8) (s0 : Nat) (ha : s0 ≤ l.length) (hl : l.length ≤ 8192) : Fn Tryz.prog 132 [.str l, .int .i64 (s0 : Int), .tt] [] (Rt (.int .i64 (((s0 + rn namB (l.drop s0) : Nat)) : Int)) []) :=
 enterM (n := 41) (by kernel_rfl) Tryz.func132 rfl rfl rfl fun G w a h0 A => N hX 7 A rfl rfl fun A => LOOP1 (fun (k : Nat) => [(0, .str l), (1, .int .i64 (k : Int)), (2, .tt), (6, .int .i64 0)]) (fun (k : Nat) => []) (fun (k : Nat) => RI namB l s0 k) (fun (k : Nat) => l.length - k) s0 (RI.i0 ha) ((A.cut [0, 1, 2, 6] rfl).trunc 0 rfl rfl rfl (by simp only [List.length_cons, List.length_nil] at h0; omega)) fun k hI {G a w} A => N hX 8 A rfl rfl fun A => forkD 11 A rfl
   (fun h1 A => N hX 3 A rfl (ok_d (by have := hI.lo; omega) <| okE_nil) fun A => CALL1 [] (rletter_b (l.getD ((k : Int)).toNat 0)) A rfl rfl rfl rfl rfl rfl rfl fun A => N hX 1 A rfl rfl fun A => fork 16 A rfl
    (fun h2 A => N hX 33 A rfl (ok_d (by have := hI.lo; omega) <| okE_nil) fun A => ⟨k + 1, _, (by omega), (hI.nx h1 (nam_l h2)), ((A.cut [0, 1, 2, 6] rfl).trunc 0 rfl rfl rfl (by simp only [List.length_cons, List.length_nil] at h0; omega))⟩)
    (fun h2 A => N hX 3 A rfl (ok_d (by have := hI.lo; omega) <| okE_nil) fun A => CALL1 [] (rdigit_b (l.getD ((k : Int)).toNat 0)) A rfl rfl rfl rfl rfl rfl rfl fun A => N hX 19 A rfl (ok_r <| ok_r <| ok_r <| ok_g (fun hg => (by have := hI.lo; omega)) <| ok_r <| ok_r <| ok_r <| ok_r <| ok_g (fun hg => (by have := hI.lo; omega)) <| ok_r <| ok_r <| ok_r <| ok_r <| ok_r <| ok_r <| okE_nil) fun A => fork 37 A rfl
     (fun h3 A => N hX 10 A rfl (ok_d (by have := hI.lo; omega) <| okE_nil) fun A => ⟨k + 1, _, (by omega), (hI.nx h1 (by rw [nam_is h2]; exact h3)), ((A.cut [0, 1, 2, 6] rfl).trunc 0 rfl rfl rfl (by simp only [List.length_cons, List.length_nil] at h0; omega))⟩)
     (fun h3 A => N hX 10 A rfl rfl fun A => RETN hX A rfl rfl rfl h0 rfl rfl rfl rfl (by rw [← hI.st h1 (by rw [nam_is h2]; exact h3)]; rfl) rfl)))
   (fun h1 A => N hX 38 A rfl rfl fun A => RETN hX A rfl rfl rfl h0 rfl rfl rfl rfl (by rw [← hI.fi h1]; rfl) rfl)
theorem rrun_num (l : List UInt8) (s0 : Nat) (ha : s0 ≤ l.length) (hl : l.length ≤ 8192) : Fn Tryz.prog 132 [.str l, .int .i64 (s0 : Int), .ff] [] (Rt (.int .i64 (((s0 + rn numB (l.drop s0) : Nat)) : Int)) []) :=
 enterM (n := 41) (by kernel_rfl) Tryz.func132 rfl rfl rfl fun G w a h0 A => N hX 7 A rfl rfl fun A => LOOP1 (fun (k : Nat) => [(0, .str l), (1, .int .i64 (k : Int)), (2, .ff), (6, .int .i64 0)]) (fun (k : Nat) => []) (fun (k : Nat) => RI numB l s0 k) (fun (k : Nat) => l.length - k) s0 (RI.i0 ha) ((A.cut [0, 1, 2, 6] rfl).trunc 0 rfl rfl rfl (by simp only [List.length_cons, List.length_nil] at h0; omega)) fun k hI {G a w} A => N hX 8 A rfl rfl fun A => forkD 11 A rfl
   (fun h1 A => N hX 3 A rfl (ok_d (by have := hI.lo; omega) <| okE_nil) fun A => CALL1 [] (rletter_b (l.getD ((k : Int)).toNat 0)) A rfl rfl rfl rfl rfl rfl rfl fun A => N hX 1 A rfl rfl fun A => fork 16 A rfl
    (fun h2 A => N hX 33 A rfl (ok_d (by have := hI.lo; omega) <| okE_nil) fun A => ⟨k + 1, _, (by omega), (hI.nx h1 (num_l h2)), ((A.cut [0, 1, 2, 6] rfl).trunc 0 rfl rfl rfl (by simp only [List.length_cons, List.length_nil] at h0; omega))⟩)
    (fun h2 A => N hX 3 A rfl (ok_d (by have := hI.lo; omega) <| okE_nil) fun A => CALL1 [] (rdigit_b (l.getD ((k : Int)).toNat 0)) A rfl rfl rfl rfl rfl rfl rfl fun A => N hX 19 A rfl rfl fun A => fork 37 A rfl
     (fun h3 A => N hX 10 A rfl (ok_d (by have := hI.lo; omega) <| okE_nil) fun A => ⟨k + 1, _, (by omega), (hI.nx h1 (by rw [num_is h2]; exact h3)), ((A.cut [0, 1, 2, 6] rfl).trunc 0 rfl rfl rfl (by simp only [List.length_cons, List.length_nil] at h0; omega))⟩)
     (fun h3 A => N hX 10 A rfl rfl fun A => RETN hX A rfl rfl rfl h0 rfl rfl rfl rfl (by rw [← hI.st h1 (by rw [num_is h2]; exact h3)]; rfl) rfl)))
   (fun h1 A => N hX 38 A rfl rfl fun A => RETN hX A rfl rfl rfl h0 rfl rfl rfl rfl (by rw [← hI.fi h1]; rfl) rfl)
theorem rmark_b (b : UInt8)  : Fn Tryz.prog 135 [.int .u8 ((b.toNat : Nat) : Int)] [] (Rt (.bool (mrkB b)) []) :=
 enterM (n := 12) (by kernel_rfl) Tryz.func135 rfl rfl rfl fun G w a h0 A => N hX 12 A rfl rfl fun A => LOOP1 (fun (k : Nat) => [(0, .int .u8 ((b.toNat : Nat) : Int)), (2, .ff), (3, .int .i64 (k : Int))]) (fun (k : Nat) => []) (fun (k : Nat) => MKR b k) (fun (k : Nat) => 22 - k) 0 MKR.i0 ((A.cut [0, 2, 3] rfl).trunc 0 rfl rfl rfl (by simp only [List.length_cons, List.length_nil] at h0; omega)) fun k hI {G a w} A => N hX 7 A rfl rfl fun A => forkD 5 A rfl
   (fun h1 A => N hX 13 A rfl (ok_d (by have := hI.le; (try simp only [List.length_cons, List.length_nil]); omega) <| okE_nil) fun A => forkE 11 A rfl
    (fun h2 A => N hX 7 A rfl rfl fun A => RETN hX A rfl rfl rfl h0 rfl rfl rfl rfl (by rw [mk_hit h1 (u8_eq h2)]; rfl) rfl)
    (fun h2 A => N hX 9 A rfl (ok_d (by have := hI.le; (try simp only [List.length_cons, List.length_nil]); omega) <| okE_nil) fun A => ⟨k + 1, _, (by omega), (hI.nx h1 (u8_ne h2)), ((A.cut [0, 2, 3] rfl).trunc 0 rfl rfl rfl (by simp only [List.length_cons, List.length_nil] at h0; omega))⟩))
   (fun h1 A => N hX 9 A rfl rfl fun A => RETN hX A rfl rfl rfl h0 rfl rfl rfl rfl (by rw [hI.fi h1]; rfl) rfl)
end Go.Proofs.YtedlaclfhgneeaaGreatDoor
namespace Go.Proofs.YtedlaclfhgneeaaGreatDoor
set_option linter.unusedVariables false
theorem low_facts (b : UInt8) : (65 ≤ b.toNat ∧ b.toNat ≤ 90 → lwcB b = b.toNat + 32) ∧ (97 ≤ b.toNat ∧ b.toNat ≤ 122 → lwcB b = b.toNat) ∧ (97 ≤ lwcB b ∧ lwcB b ≤ 122 → (65 ≤ b.toNat ∧ b.toNat ≤ 90) ∨ (97 ≤ b.toNat ∧ b.toNat ≤ 122)) := by
  have : ∀ i : Fin 256, (65 ≤ (UInt8.ofNat i.val).toNat ∧ (UInt8.ofNat i.val).toNat ≤ 90 → lwcB (UInt8.ofNat i.val) = (UInt8.ofNat i.val).toNat + 32) ∧ (97 ≤ (UInt8.ofNat i.val).toNat ∧ (UInt8.ofNat i.val).toNat ≤ 122 → lwcB (UInt8.ofNat i.val) = (UInt8.ofNat i.val).toNat) ∧ (97 ≤ lwcB (UInt8.ofNat i.val) ∧ lwcB (UInt8.ofNat i.val) ≤ 122 → (65 ≤ (UInt8.ofNat i.val).toNat ∧ (UInt8.ofNat i.val).toNat ≤ 90) ∨ (97 ≤ (UInt8.ofNat i.val).toNat ∧ (UInt8.ofNat i.val).toNat ≤ 122)) := by decide +kernel
  have h := this ⟨b.toNat, b.toNat_lt⟩
  simpa only [UInt8.ofNat_toNat] using h
def hxI (b : UInt8) : Int := if dv b < 16 then ((dv b : Nat) : Int) else -1
theorem hx_dig {b : UInt8} (h1 : 48 ≤ b.toNat) (h2 : b.toNat ≤ 57) : hxI b = ((b.toNat : Nat) : Int) - 48 := by
  have := dv_dig h1 h2
  unfold hxI; rw [if_pos (by omega)]; omega
theorem hx_low {b : UInt8} (h1 : 97 ≤ b.toNat) (h2 : b.toNat ≤ 102) : hxI b = ((b.toNat : Nat) : Int) - 97 + 10 := by
  have h := (low_facts b).2.1 (by omega)
  have := dv_let (b := b) (by omega) (by omega) (by omega)
  unfold hxI; rw [if_pos (by omega)]; omega
theorem hx_up {b : UInt8} (h1 : 65 ≤ b.toNat) (h2 : b.toNat ≤ 70) : hxI b = ((b.toNat : Nat) : Int) - 65 + 10 := by
  have h := (low_facts b).1 (by omega)
  have := dv_let (b := b) (by omega) (by omega) (by omega)
  unfold hxI; rw [if_pos (by omega)]; omega
theorem hx_no {b : UInt8} (h : ¬ (48 ≤ b.toNat ∧ b.toNat ≤ 57)) (h1 : ¬ (97 ≤ b.toNat ∧ b.toNat ≤ 102)) (h2 : ¬ (65 ≤ b.toNat ∧ b.toNat ≤ 70)) : hxI b = -1 := by
  have hf := low_facts b
  unfold hxI; rw [if_neg]
  by_cases h3 : 97 ≤ lwcB b ∧ lwcB b ≤ 122
  · have := dv_let h h3.1 h3.2
    rcases hf.2.2 h3 with h4 | h4
    · have := hf.1 h4; omega
    · have := hf.2.1 h4; omega
  · have := dv_bad h h3; omega
theorem fold_ge (bs : Nat) (hb : 0 < bs) (l : List UInt8) : ∀ n : Nat, n ≤ l.foldl (fun n b => n * bs + dv b) n := by
  induction l with
  | nil => intro n; exact Nat.le_refl _
  | cons b l ih =>
    intro n
    refine Nat.le_trans ?_ (ih (n * bs + dv b))
    exact Nat.le_trans (Nat.le_mul_of_pos_right n hb) (Nat.le_add_right _ _)
theorem nv_mono {bs : Nat} (hb : 0 < bs) (l : List UInt8) (i : Nat) : nv bs (l.take i) ≤ nv bs l := by
  unfold nv
  conv => rhs; rw [← List.take_append_drop i l, List.foldl_append]
  exact fold_ge bs hb (l.drop i) _
theorem fits_over {bs : Nat} (hb : 0 < bs) {l : List UInt8} {i : Nat} (h : nv bs (l.take i) > 9223372036854775808) : fits (valL bs l) = none := by
  unfold valL; split
  · rfl
  · have := nv_mono hb l i
    simp only [fits]; rw [if_pos (by omega)]
theorem fits_bad {bs : Nat} {l : List UInt8} {i : Nat} {y : UInt8} (h : l[i]? = some y) (hy : bs ≤ dv y) : fits (valL bs l) = none := by rw [val_bad h hy]; rfl
theorem fits_end {bs : Nat} {l : List UInt8} {i : Nat} (h : l ≠ []) (ha : allD bs (l.take i) = true) (hi : l.length ≤ i) (hn : nv bs (l.take i) ≤ 9223372036854775808) : fits (valL bs l) = some (IntKind.wrap .i64 ((nv bs (l.take i) : Nat) : Int)) := by
  rw [val_end h ha hi]; simp only [fits]; rw [if_neg (by omega)]
theorem drop_two {l : List UInt8} {n : Nat} {a b : UInt8} (ha : l[n]? = some a) (hb : l[n + 1]? = some b) : l.drop n = a :: b :: l.drop (n + 2) := by rw [drop_at ha, drop_at hb]
theorem endR_hit {l : List UInt8} {n : Nat} {a b : UInt8} (ha : l[n]? = some a) (hb : l[n + 1]? = some b) (h1 : ((a.toNat : Nat) : Int) = 42) (h2 : ((b.toNat : Nat) : Int) = 41) : endR (l.drop n) = 0 := by
  have e1 : a = 42 := UInt8.toNat_inj.1 (by show a.toNat = 42; omega)
  have e2 : b = 41 := UInt8.toNat_inj.1 (by show b.toNat = 41; omega)
  rw [drop_two ha hb, endR_cons, e1, e2]; simp
theorem endR_go {l : List UInt8} {n : Nat} {a b : UInt8} (ha : l[n]? = some a) (hb : l[n + 1]? = some b) (h : ¬ (((a.toNat : Nat) : Int) = 42 ∧ ((b.toNat : Nat) : Int) = 41)) : (endR (l.drop n) < 0 ∧ endR (l.drop (n + 1)) < 0) ∨ (0 ≤ endR (l.drop (n + 1)) ∧ endR (l.drop n) = endR (l.drop (n + 1)) + 1) := by
  have hp : List.isPrefixOf [42, 41] (a :: l.drop (n + 1)) = false := by
    rw [drop_at hb]
    cases hh : List.isPrefixOf [42, 41] (a :: b :: l.drop (n + 1 + 1))
    · rfl
    · simp [List.isPrefixOf] at hh
      exact absurd ⟨by rw [← hh.1]; rfl, by rw [← hh.2]; rfl⟩ h
  rw [drop_at ha, endR_cons, hp]
  simp only [Bool.false_eq_true, if_false]
  have hge := endR_ge (l.drop (n + 1))
  by_cases h1 : endR (l.drop (n + 1)) = -1
  · left; simp [h1]
  · right
    have h2 : (endR (l.drop (n + 1)) == -1) = false := by simp [h1]
    rw [h2]
    simp only [Bool.false_eq_true, if_false]
    exact ⟨by omega, trivial⟩
theorem endR_stop {l : List UInt8} {n : Nat} (h : l.length ≤ n + 1) : endR (l.drop n) < 0 := by
  rcases endR_le (l.drop n) with h1 | h1
  · exact h1
  · rw [List.length_drop] at h1; omega
theorem pre2_yes {l : List UInt8} {n : Nat} {a b : UInt8} (ha : l[n]? = some a) (hb : l[n + 1]? = some b) (h1 : ((a.toNat : Nat) : Int) = 40) (h2 : ((b.toNat : Nat) : Int) = 42) : preB (l.drop n) [40, 42] = true := by
  have e1 : a = 40 := UInt8.toNat_inj.1 (by show a.toNat = 40; omega)
  have e2 : b = 42 := UInt8.toNat_inj.1 (by show b.toNat = 42; omega)
  rw [drop_two ha hb, e1, e2]; simp [preB]
theorem pre2_first {l : List UInt8} {n : Nat} {a : UInt8} (ha : l[n]? = some a) (h1 : ¬ ((a.toNat : Nat) : Int) = 40) : preB (l.drop n) [40, 42] = false := by
  cases hh : preB (l.drop n) [40, 42]
  · rfl
  · exfalso
    unfold preB at hh
    rw [drop_at ha] at hh
    simp at hh
    exact h1 (by rw [hh.2.1]; rfl)
theorem pre2_short {l : List UInt8} {n : Nat} (h : l.length ≤ n + 1) : preB (l.drop n) [40, 42] = false := pre_short (by rw [List.length_drop]; simp only [List.length_cons, List.length_nil]; omega)
theorem pre2_second {l : List UInt8} {n : Nat} {a b : UInt8} (ha : l[n]? = some a) (hb : l[n + 1]? = some b) (h1 : ¬ ((b.toNat : Nat) : Int) = 42) : preB (l.drop n) [40, 42] = false := by
  cases hh : preB (l.drop n) [40, 42]
  · rfl
  · exfalso
    unfold preB at hh
    rw [drop_two ha hb] at hh
    simp at hh
    exact h1 (by rw [hh.2]; rfl)
theorem hx_or (b : UInt8) : (hxI b = -1 ∧ 16 ≤ dv b) ∨ (hxI b = ((dv b : Nat) : Int) ∧ dv b < 16) := by
  unfold hxI; split
  · next h => exact .inr ⟨rfl, h⟩
  · next h => exact .inl ⟨rfl, by omega⟩
section
variable {l : List UInt8} {a b : UInt8}
theorem pre_two {p q : UInt8} (ha : l[0]? = some a) (hb : l[1]? = some b) : preB l [p, q] = (a == p && b == q) := by
  have e : l = a :: b :: l.drop 2 := by have := drop_two (n := 0) ha hb; rw [List.drop_zero] at this; exact this
  rw [e]; unfold preB; simp
theorem numx (ha : l[0]? = some a) (h1 : ((a.toNat : Nat) : Int) = 48) (hb : l[1]? = some b) (h2 : ((b.toNat : Nat) : Int) = 120) : numR l = if (l.drop 2).length > 16 then none else fits (valL 16 (l.drop 2)) := by
  have e1 : a = 48 := UInt8.toNat_inj.1 (by show a.toNat = 48; omega)
  have e2 : b = 120 := UInt8.toNat_inj.1 (by show b.toNat = 120; omega)
  have hp : preB l [48, 120] = true := by rw [pre_two ha hb, e1, e2]; rfl
  unfold numR cutF; rw [if_pos hp, if_pos hp]; rfl
theorem numd_of (hp : preB l [48, 120] = false) : numR l = if l.length > 19 then none else fits (valL 10 l) := by unfold numR; rw [if_neg (by simp [hp])]
theorem pre_of (hp : preB l [48, 120] = true) : l[0]? = some 48 ∧ l[1]? = some 120 ∧ 2 ≤ l.length := by
  unfold preB at hp
  rw [Bool.and_eq_true] at hp
  have h1 := of_decide_eq_true hp.1
  have h2 := eq_of_beq hp.2
  match l, h1, h2 with
  | a :: b :: r, _, h2 => simp at h2; simp [h2.1, h2.2]
theorem numd_a (ha : l[0]? = some a) (h1 : ¬ ((a.toNat : Nat) : Int) = 48) : numR l = if l.length > 19 then none else fits (valL 10 l) := by
  rcases Bool.eq_false_or_eq_true (preB l [48, 120]) with h | h
  · have := (pre_of h).1; rw [ha] at this; simp at this; exact absurd (by rw [this]; rfl) h1
  · exact numd_of h
theorem numd_b (hb : l[1]? = some b) (h1 : ¬ ((b.toNat : Nat) : Int) = 120) : numR l = if l.length > 19 then none else fits (valL 10 l) := by
  rcases Bool.eq_false_or_eq_true (preB l [48, 120]) with h | h
  · have := (pre_of h).2.1; rw [hb] at this; simp at this; exact absurd (by rw [this]; rfl) h1
  · exact numd_of h
theorem numd_short (hl : l.length ≤ 2) : numR l = if l.length > 19 then none else fits (valL 10 l) := by
  rcases Bool.eq_false_or_eq_true (preB l [48, 120]) with h | h
  · obtain ⟨h1, h2, h3⟩ := pre_of h
    have e : l = [48, 120] := by
      have := drop_two (n := 0) h1 h2
      rw [List.drop_zero, List.drop_eq_nil_of_le (by omega)] at this; exact this
    rw [e]; decide
  · exact numd_of h
end
end Go.Proofs.YtedlaclfhgneeaaGreatDoor
namespace Go.Proofs.YtedlaclfhgneeaaGreatDoor
open Go.RowKit
set_option linter.unusedVariables false
set_option linter.unusedSimpArgs false
set_option maxRecDepth 100000
set_option maxHeartbeats 2000000
set_option simprocs false
theorem w8 (x : Int) (h : 0 ≤ x ∧ x ≤ 255) : IntKind.wrap .i64 (IntKind.wrap .u8 x) = x := by
  have : ∀ n : Fin 256, IntKind.wrap .i64 (IntKind.wrap .u8 ((n.val : Nat) : Int)) = ((n.val : Nat) : Int) := by decide +kernel
  obtain ⟨n, e⟩ := Int.eq_ofNat_of_zero_le h.1
  subst e
  exact this ⟨n, by omega⟩
theorem bt {p q : Prop} [Decidable p] [Decidable q] (h : (decide p && decide q) = true) : p ∧ q := by simpa using h
theorem bf {p q : Prop} [Decidable p] [Decidable q] (h : (decide p && decide q) = false) : ¬ (p ∧ q) := by
  intro ⟨a, b⟩; rw [decide_eq_true a, decide_eq_true b] at h; cases h
theorem dg_t {b : UInt8} (h : digB b = true) : 48 ≤ b.toNat ∧ b.toNat ≤ 57 := of_decide_eq_true h
theorem dg_f {b : UInt8} (h : digB b = false) : ¬ (48 ≤ b.toNat ∧ b.toNat ≤ 57) := of_decide_eq_false h
theorem rhex_b (b : UInt8)  : Fn Tryz.prog 171 [.int .u8 ((b.toNat : Nat) : Int)] [] (Rt (.int .i64 (hxI b)) []) :=
 enterM (n := 31) (by kernel_rfl) Tryz.func171 rfl rfl rfl fun G w a h0 A => N hX 10 A rfl rfl fun A => CALL1 [] (rdigit_b b) A rfl rfl rfl rfl rfl rfl rfl fun A => N hX 3 A rfl rfl fun A => fork 3 A rfl
  (fun h1 A => N hX 10 A rfl rfl fun A => RETN hX A rfl rfl rfl h0 rfl rfl rfl rfl (by have q0 := dg_t h1; rw [w8 _ (by omega), hx_dig (by omega) (by omega)] <;> rfl) rfl)
  (fun h1 A => N hX 12 A rfl rfl fun A => fork 9 A rfl
   (fun h2 A => N hX 11 A rfl (ok_d (by have q0 := dg_f h1; have q1 := bt h2; rw [w8 _ (by omega)]; omega) <| okE_nil) fun A => RETN hX A rfl rfl rfl h0 rfl rfl rfl rfl (by have q0 := dg_f h1; have q1 := bt h2; rw [w8 _ (by omega), hx_low (by omega) (by omega)] <;> rfl) rfl)
   (fun h2 A => N hX 12 A rfl rfl fun A => fork 20 A rfl
    (fun h3 A => N hX 11 A rfl (ok_d (by have q0 := dg_f h1; have q1 := bf h2; have q2 := bt h3; rw [w8 _ (by omega)]; omega) <| okE_nil) fun A => RETN hX A rfl rfl rfl h0 rfl rfl rfl rfl (by have q0 := dg_f h1; have q1 := bf h2; have q2 := bt h3; rw [w8 _ (by omega), hx_up (by omega) (by omega)] <;> rfl) rfl)
    (fun h3 A => N hX 10 A rfl rfl fun A => RETN hX A rfl rfl rfl h0 rfl rfl rfl rfl (by have q0 := dg_f h1; have q1 := bf h2; have q2 := bf h3; rw [hx_no (by omega) (by omega) (by omega)] <;> rfl) rfl)))
theorem bl_is (c : UInt8) : (((((c.toNat : Nat) : Int) == 32) || (((c.toNat : Nat) : Int) == 9)) || (((c.toNat : Nat) : Int) == 10)) = blkB c := by
  unfold blkB; rw [Bool.eq_iff_iff]; simp only [Bool.or_eq_true, beq_iff_eq, decide_eq_true_eq]; omega
theorem at_of1 {l : List UInt8} {k : Nat} (h : (k : Int) + 1 < (l.length : Int)) : l[k + 1]? = some (l.getD ((k : Int) + 1).toNat 0) := by
  have hk : k + 1 < l.length := by omega
  rw [show ((k : Int) + 1).toNat = k + 1 by omega]
  simp [List.getD, hk]
section
variable {l : List UInt8} {k e : Nat}
theorem op_y (h1 : (k : Int) < (l.length : Int)) (h : (((!((((l.getD ((k : Int)).toNat 0).toNat : Nat) : Int) == 40)) || (decide (((k : Int) + 1) ≥ (l.length : Int)))) || (!((((l.getD ((k : Int) + 1).toNat 0).toNat : Nat) : Int) == 42))) = false) : preB (l.drop ((k : Int)).toNat) [40, 42] = true ∧ (k : Int) + 1 < (l.length : Int) := by
  simp only [Bool.or_eq_false_iff, Bool.not_eq_false', beq_iff_eq, decide_eq_false_iff_not] at h
  have h2 : (k : Int) + 1 < (l.length : Int) := by omega
  exact ⟨by rw [Int.toNat_natCast]; exact pre2_yes (at_of h1) (at_of1 h2) h.1.1 h.2, h2⟩
theorem op_n (h1 : (k : Int) < (l.length : Int)) (h : (((!((((l.getD ((k : Int)).toNat 0).toNat : Nat) : Int) == 40)) || (decide (((k : Int) + 1) ≥ (l.length : Int)))) || (!((((l.getD ((k : Int) + 1).toNat 0).toNat : Nat) : Int) == 42))) = true) : preB (l.drop ((k : Int)).toNat) [40, 42] = false := by
  rw [Int.toNat_natCast]
  by_cases a1 : (((l.getD ((k : Int)).toNat 0).toNat : Nat) : Int) = 40
  · by_cases a2 : (k : Int) + 1 < (l.length : Int)
    · by_cases a3 : (((l.getD ((k : Int) + 1).toNat 0).toNat : Nat) : Int) = 42
      · rw [beq_iff_eq.2 a1, beq_iff_eq.2 a3, decide_eq_false (by omega)] at h; cases h
      · exact pre2_second (at_of h1) (at_of1 a2) a3
    · exact pre2_short (by omega)
  · exact pre2_first (at_of h1) a1
structure EI (l : List UInt8) (k e : Nat) : Prop where
  lo : k + 2 ≤ e
  le : e ≤ l.length
  rel : (endR (l.drop (k + 2)) < 0 ∧ endR (l.drop e) < 0) ∨ (0 ≤ endR (l.drop e) ∧ endR (l.drop (k + 2)) = endR (l.drop e) + (e : Int) - ((k + 2 : Nat) : Int))
theorem EI.i0 (h : (k : Int) + 1 < (l.length : Int)) : EI l k (k + 2) := ⟨Nat.le_refl _, by omega, by
  by_cases h : endR (l.drop (k + 2)) < 0
  · exact .inl ⟨h, h⟩
  · exact .inr ⟨by omega, by omega⟩⟩
theorem EI.nx (hJ : EI l k e) (h : ((decide (((e : Int) + 1) < (l.length : Int))) && (!(((((l.getD ((e : Int)).toNat 0).toNat : Nat) : Int) == 42) && ((((l.getD ((e : Int) + 1).toNat 0).toNat : Nat) : Int) == 41)))) = true) : EI l k (e + 1) ∧ (e : Int) + 1 < (l.length : Int) := by
  simp only [Bool.and_eq_true, decide_eq_true_eq, Bool.not_eq_true'] at h
  have hgo := endR_go (at_of (k := e) (l := l) (by omega)) (at_of1 h.1) (by
    intro ⟨a1, a2⟩; rw [beq_iff_eq.2 a1, beq_iff_eq.2 a2] at h; exact absurd h.2 (by decide))
  have := hJ.lo; have := hJ.rel
  exact ⟨⟨by omega, by omega, by omega⟩, h.1⟩
theorem EI.no (hJ : EI l k e) (h : (e : Int) + 1 ≥ (l.length : Int)) : endR (l.drop (((k : Int) + 2)).toNat) < 0 := by
  have := endR_stop (l := l) (n := e) (by omega); have := hJ.rel
  rw [show (((k : Int) + 2)).toNat = k + 2 by omega]; omega
theorem EI.hit (hJ : EI l k e) (h : ((decide (((e : Int) + 1) < (l.length : Int))) && (!(((((l.getD ((e : Int)).toNat 0).toNat : Nat) : Int) == 42) && ((((l.getD ((e : Int) + 1).toNat 0).toNat : Nat) : Int) == 41)))) = false) (h2 : ¬ (e : Int) + 1 ≥ (l.length : Int)) : ¬ endR (l.drop (((k : Int) + 2)).toNat) < 0 ∧ k + 2 + (endR (l.drop (k + 2))).toNat + 2 = e + 2 := by
  rw [decide_eq_true (by omega), Bool.true_and, Bool.not_eq_false', Bool.and_eq_true, beq_iff_eq, beq_iff_eq] at h
  have hh := endR_hit (at_of (k := e) (l := l) (by omega)) (at_of1 (by omega)) h.1 h.2
  have := hJ.rel; have := hJ.lo
  rw [show (((k : Int) + 2)).toNat = k + 2 by omega]; omega
end
theorem rblank_ (l : List UInt8) (s0 : Nat) (ha : s0 ≤ l.length) (hl : l.length ≤ 8192) : Fn Tryz.prog 130 [.str l, .int .i64 (s0 : Int)] [] (Rt (.tup [.int .i64 ((s0 + (skipL (l.drop s0)).1 : Nat) : Int), .int .i64 (skE l s0)]) []) :=
 enterM (n := 80) (by kernel_rfl) Tryz.func130 rfl rfl rfl fun G w a h0 A => N hX 8 A rfl rfl fun A => LOOP1 (fun (k : Nat) => [(0, .str l), (1, .int .i64 (k : Int)), (4, .int .i64 0), (5, .int .i64 0)]) (fun (k : Nat) => []) (fun (k : Nat) => KI l s0 k) (fun (k : Nat) => l.length - k) s0 (KI.i0 ha) ((A.cut [0, 1, 4, 5] rfl).trunc 0 rfl rfl rfl (by simp only [List.length_cons, List.length_nil] at h0; omega)) fun k hI {G a w} A => N hX 9 A rfl rfl fun A => forkD 10 A rfl
   (fun h1 A => N hX 10 A rfl (ok_d (by have := hI.le; omega) <| okE_nil) fun A => N hX 5 A rfl (ok_r <| ok_r <| ok_g (fun hg => (by (try simp at hg); have := hI.le; omega)) <| okE_nil) fun A => N hX 1 A rfl rfl fun A => N hX 1 A rfl rfl fun A => N hX 4 A rfl (ok_r <| ok_r <| ok_g (fun hg => (by (try simp at hg); have := hI.le; omega)) <| okE_nil) fun A => N hX 1 A rfl rfl fun A => N hX 1 A rfl rfl fun A => N hX 2 A rfl rfl fun A => fork 26 A rfl
    (fun h2 A => N hX 5 A rfl (ok_d (by have := hI.le; omega) <| okE_nil) fun A => N hX 4 A rfl rfl fun A => ⟨k + 1, _, (by omega), (hI.bl h1 (by rw [← bl_is]; exact h2)), ((A.cut [0, 1, 4, 5] rfl).trunc 0 rfl rfl rfl (by simp only [List.length_cons, List.length_nil] at h0; omega)).sayT (by simp)⟩)
    (fun h2 A => N hX 9 A rfl (ok_d (by have := hI.le; omega) <| okE_nil) fun A => N hX 4 A rfl (ok_r <| ok_g (fun hg => (by (try simp at hg); have := hI.le; omega)) <| okE_nil) fun A => N hX 2 A rfl rfl fun A => N hX 1 A rfl rfl fun A => N hX 1 A rfl rfl fun A => N hX 4 A rfl (ok_r <| ok_g (fun hg => (by (try simp at hg); have := hI.le; omega)) <| okE_nil) fun A => N hX 1 A rfl (ok_r <| ok_r <| ok_g (fun hg => (by (try simp at hg); have := hI.le; omega)) <| okE_nil) fun A => N hX 1 A rfl rfl fun A => N hX 1 A rfl rfl fun A => N hX 2 A rfl rfl fun A => fork 46 A rfl
     (fun h3 A => N hX 9 A rfl rfl fun A => RETN hX A rfl rfl rfl h0 rfl rfl rfl rfl (by have e := hI.wd h1 (by rw [← bl_is]; exact h2) (op_n h1 h3); have hg := hI.ge; unfold skE; rw [e]; simp [oneS, nb, nbL]; omega) rfl)
     (fun h3 A => N hX 7 A rfl (ok_d (by have := hI.le; omega) <| okE_nil) fun A => N hX 5 A rfl rfl fun A => LOOP1 (fun (e : Nat) => [(0, .str l), (1, .int .i64 (k : Int)), (4, .int .i64 0), (5, .int .i64 0), (6, .int .i64 (e : Int))]) (fun (e : Nat) => []) (fun (e : Nat) => EI l k e) (fun (e : Nat) => l.length - e) (k + 2) (EI.i0 (op_y h1 h3).2) ((A.cut [0, 1, 4, 5, 6] rfl).trunc 0 rfl rfl rfl (by simp only [List.length_cons, List.length_nil] at h0; omega)) fun e hJ {G a w} A => N hX 5 A rfl (ok_d (by have := hI.le; have := hJ.le; omega) <| okE_nil) fun A => N hX 7 A rfl (ok_r <| ok_r <| ok_g (fun hg => (by (try simp at hg); have := hI.le; have := hJ.le; omega)) <| okE_nil) fun A => N hX 1 A rfl rfl fun A => N hX 1 A rfl rfl fun A => N hX 3 A rfl (ok_r <| ok_g (fun hg => (by (try simp at hg); have := hI.le; have := hJ.le; omega)) <| okE_nil) fun A => N hX 1 A rfl (ok_r <| ok_r <| ok_g (fun hg => (by (try simp at hg); have := hI.le; have := hJ.le; omega)) <| okE_nil) fun A => N hX 1 A rfl rfl fun A => N hX 1 A rfl rfl fun A => N hX 1 A rfl rfl fun A => N hX 1 A rfl rfl fun A => N hX 2 A rfl rfl fun A => fork 68 A rfl
       (fun h4 A => N hX 7 A rfl (ok_d (by have := hI.le; have := hJ.le; omega) <| okE_nil) fun A => N hX 3 A rfl rfl fun A => ⟨e + 1, _, (by have := (hJ.nx h4).2; omega), (hJ.nx h4).1, ((A.cut [0, 1, 4, 5, 6] rfl).trunc 0 rfl rfl rfl (by simp only [List.length_cons, List.length_nil] at h0; omega)).sayT (by simp)⟩)
       (fun h4 A => N hX 8 A rfl (ok_d (by have := hI.le; have := hJ.le; omega) <| okE_nil) fun A => N hX 5 A rfl rfl fun A => forkD 75 A rfl
        (fun h5 A => N hX 9 A rfl rfl fun A => RETN hX A rfl rfl rfl h0 rfl rfl rfl rfl (by have e := hI.op h1 (by rw [← bl_is]; exact h2) (op_y h1 h3).1 (hJ.no h5); have hg := hI.ge; unfold skE; rw [e]; simp [oneS, nb, nbL]; omega) rfl)
        (fun h5 A => N hX 6 A rfl (ok_d (by have := hI.le; have := hJ.le; omega) <| okE_nil) fun A => N hX 3 A rfl rfl fun A => ⟨e + 2, _, (by have := hJ.lo; omega), (by have q := hJ.hit h4 h5; have r := hI.rm h1 (by rw [← bl_is]; exact h2) (op_y h1 h3).1 q.1; rw [q.2] at r; exact r), ((A.cut [0, 1, 4, 5] rfl).trunc 0 rfl rfl rfl (by simp only [List.length_cons, List.length_nil] at h0; omega)).sayT (by simp)⟩)))))
   (fun h1 A => N hX 11 A rfl rfl fun A => RETN hX A rfl rfl rfl h0 rfl rfl rfl rfl (by have e := hI.fi h1; have hg := hI.ge; unfold skE; rw [e]; simp [oneS, nb, nbL]; omega) rfl)
def numI (l : List UInt8) : Int := (numR l).getD 0
def numO (l : List UInt8) : Bool := (numR l).isSome
structure VI (bs : Nat) (D : List UInt8) (j : Nat) : Prop where
  le : j ≤ D.length
  al : allD bs (D.take j) = true
  top : nv bs (D.take j) ≤ 9223372036854775808
theorem VI.i0 {bs : Nat} {D : List UInt8} : VI bs D 0 := ⟨Nat.zero_le _, rfl, by rw [nv_zero]; omega⟩
theorem q_ok (d B : Int) (hd : 0 ≤ d ∧ d < 16) (hB : B = 10 ∨ B = 16) : IntKind.wrap .u64 (Int.tdiv (IntKind.wrap .u64 (9223372036854775808 - (IntKind.wrap .u64 d))) (IntKind.wrap .u64 B)) = (9223372036854775808 - d) / B := by
  have w1 : IntKind.wrap .u64 d = d := by rw [IntKind.wrap_u64]; omega
  have w2 : IntKind.wrap .u64 (9223372036854775808 - d) = 9223372036854775808 - d := by rw [IntKind.wrap_u64]; omega
  have w3 : IntKind.wrap .u64 B = B := by rw [IntKind.wrap_u64]; omega
  rw [w1, w2, w3, Int.tdiv_eq_ediv_of_nonneg (by omega), IntKind.wrap_u64]
  rcases hB with e | e <;> subst e <;> omega
theorem s_ok (n d B : Int) (hd : 0 ≤ d ∧ d < 16) (hB : B = 10 ∨ B = 16) (hn : 0 ≤ n ∧ n ≤ (9223372036854775808 - d) / B) : IntKind.wrap .u64 ((IntKind.wrap .u64 (n * (IntKind.wrap .u64 B))) + (IntKind.wrap .u64 d)) = n * B + d := by
  have w1 : IntKind.wrap .u64 d = d := by rw [IntKind.wrap_u64]; omega
  have w3 : IntKind.wrap .u64 B = B := by rw [IntKind.wrap_u64]; omega
  rw [w1, w3]
  rcases hB with e | e <;> subst e <;> rw [IntKind.wrap_u64, IntKind.wrap_u64] <;> omega
section
variable {bs : Nat} {D : List UInt8} {j : Nat} {B : Int}
theorem v_go (hB : B = (bs : Int)) (hb : bs = 10 ∨ bs = 16) (hI : VI bs D j) (h1 : (j : Int) < (D.length : Int)) (h : (((decide ((hxI (D.getD ((j : Int)).toNat 0)) < 0)) || (decide ((hxI (D.getD ((j : Int)).toNat 0)) ≥ B))) || (decide (((nv bs (D.take j) : Nat) : Int) > (IntKind.wrap .u64 (Int.tdiv (IntKind.wrap .u64 (9223372036854775808 - (IntKind.wrap .u64 (hxI (D.getD ((j : Int)).toNat 0))))) (IntKind.wrap .u64 B)))))) = false) : VI bs D (j + 1) ∧ IntKind.wrap .u64 ((IntKind.wrap .u64 (((nv bs (D.take j) : Nat) : Int) * (IntKind.wrap .u64 B))) + (IntKind.wrap .u64 (hxI (D.getD ((j : Int)).toNat 0)))) = ((nv bs (D.take (j + 1)) : Nat) : Int) := by
  have hy := at_of h1
  generalize D.getD ((j : Int)).toNat 0 = y at h hy ⊢
  have hgo := nv_go (bs := bs) hy
  simp only [Bool.or_eq_false_iff, decide_eq_false_iff_not] at h
  have ho := hx_or y
  have hd : 0 ≤ hxI y ∧ hxI y < 16 := by omega
  rw [q_ok _ _ hd (by omega)] at h
  rw [s_ok _ _ _ hd (by omega) (by omega), hgo]
  have hall := all_go hy hI.al (by omega)
  rcases hb with e | e <;> subst e <;> subst hB
  · exact ⟨⟨by omega, hall, by omega⟩, by omega⟩
  · exact ⟨⟨by omega, hall, by omega⟩, by omega⟩
theorem v_bad (hB : B = (bs : Int)) (hb : bs = 10 ∨ bs = 16) (hI : VI bs D j) (h1 : (j : Int) < (D.length : Int)) (h : (((decide ((hxI (D.getD ((j : Int)).toNat 0)) < 0)) || (decide ((hxI (D.getD ((j : Int)).toNat 0)) ≥ B))) || (decide (((nv bs (D.take j) : Nat) : Int) > (IntKind.wrap .u64 (Int.tdiv (IntKind.wrap .u64 (9223372036854775808 - (IntKind.wrap .u64 (hxI (D.getD ((j : Int)).toNat 0))))) (IntKind.wrap .u64 B)))))) = true) : fits (valL bs D) = none := by
  have hy := at_of h1
  generalize D.getD ((j : Int)).toNat 0 = y at h hy
  have hgo := nv_go (bs := bs) hy
  have ho := hx_or y
  by_cases hd : 0 ≤ hxI y ∧ hxI y < B
  · rw [q_ok _ _ (by omega) (by omega), decide_eq_false (by omega), decide_eq_false (by omega), Bool.false_or, Bool.false_or, decide_eq_true_eq] at h
    refine fits_over (by omega) (i := j + 1) ?_
    rw [hgo]
    rcases hb with e | e <;> subst e <;> subst hB <;> omega
  · exact fits_bad hy (by omega)
theorem v_end (hI : VI bs D j) (h0 : 0 < D.length) (h1 : ¬ (j : Int) < (D.length : Int)) : fits (valL bs D) = some (IntKind.wrap .i64 ((nv bs (D.take j) : Nat) : Int)) := by
  have := hI.le
  exact fits_end (by intro h; rw [h] at h0; exact absurd h0 (by simp)) hI.al (by omega) hI.top
end
section
variable {l : List UInt8}
theorem n_hex (h : (((decide ((l.length : Int) > 2)) && ((((l.getD (0 : Int).toNat 0).toNat : Nat) : Int) == 48)) && ((((l.getD (1 : Int).toNat 0).toNat : Nat) : Int) == 120)) = true) : numR l = (if (l.drop 2).length > 16 then none else fits (valL 16 (l.drop 2))) ∧ 2 < l.length := by
  simp only [Bool.and_eq_true, decide_eq_true_eq, beq_iff_eq] at h
  have a0 := at_of (l := l) (k := 0) (by omega)
  have a1 := at_of (l := l) (k := 1) (by omega)
  exact ⟨numx a0 h.1.2 a1 h.2, by omega⟩
theorem n_dec (h : (((decide ((l.length : Int) > 2)) && ((((l.getD (0 : Int).toNat 0).toNat : Nat) : Int) == 48)) && ((((l.getD (1 : Int).toNat 0).toNat : Nat) : Int) == 120)) = false) : numR l = if l.length > 19 then none else fits (valL 10 l) := by
  by_cases h0 : l.length ≤ 2
  · exact numd_short h0
  · have a0 := at_of (l := l) (k := 0) (by omega)
    have a1 := at_of (l := l) (k := 1) (by omega)
    by_cases b0 : (((l.getD (0 : Int).toNat 0).toNat : Nat) : Int) = 48
    · by_cases b1 : (((l.getD (1 : Int).toNat 0).toNat : Nat) : Int) = 120
      · rw [beq_iff_eq.2 b0, beq_iff_eq.2 b1, decide_eq_true (by omega)] at h; cases h
      · exact numd_b a1 b1
    · exact numd_a a0 b0
theorem sh_t {n m : Int} (h : ((decide (n < 1)) || (decide (n > m))) = true) : n < 1 ∨ n > m := by simpa using h
theorem sh_f {n m : Int} (h : ((decide (n < 1)) || (decide (n > m))) = false) : 1 ≤ n ∧ n ≤ m := by
  simp only [Bool.or_eq_false_iff, decide_eq_false_iff_not] at h; omega
end
theorem rvalue_ (l : List UInt8) (hl : l.length ≤ 8192) : Fn Tryz.prog 133 [.str l] [] (Rt (.tup [.int .i64 (numI l), .bool (numO l)]) []) :=
 enterM (n := 69) (by kernel_rfl) Tryz.func133 rfl rfl rfl fun G w a h0 A => N hX 25 A rfl (ok_r <| ok_g (fun hg => (by (try simp at hg); omega)) <| okE_nil) fun A => N hX 1 A rfl rfl fun A => N hX 1 A rfl rfl fun A => N hX 3 A rfl (ok_r <| ok_g (fun hg => (by (try simp at hg); omega)) <| okE_nil) fun A => N hX 1 A rfl rfl fun A => N hX 1 A rfl rfl fun A => N hX 2 A rfl rfl fun A => fork 21 A rfl
  (fun h1 A => N hX 14 A rfl (ok_d (by have q := (n_hex h1).2; omega) <| okE_nil) fun A => N hX 12 A rfl rfl fun A => N hX 2 A rfl rfl fun A => N hX 1 A rfl rfl fun A => N hX 2 A rfl rfl fun A => fork 32 A rfl
   (fun h2 A => N hX 8 A rfl rfl fun A => RETN hX A rfl rfl rfl h0 rfl rfl rfl rfl (by have q := n_hex h1; have q1 := q.1; have hdl : (l.drop 2).length = l.length - 2 := List.length_drop; have s : (((l.drop 2).length : Nat) : Int) < 1 ∨ (((l.drop 2).length : Nat) : Int) > 16 := sh_t h2; have e : numR l = none := (by rw [q1]; split <;> first | rfl | (rw [val_nil (List.eq_nil_of_length_eq_zero (by omega))]; rfl)); unfold numI numO; rw [e]; rfl) rfl)
   (fun h2 A => N hX 15 A rfl rfl fun A => LOOP1 (fun (j : Nat) => [(0, .str (l.drop 2)), (2, .int .i64 0), (3, .ff), (4, .int .i64 16), (6, .int .u64 ((nv 16 ((l.drop 2).take j) : Nat) : Int)), (7, .int .i64 (j : Int))]) (fun (j : Nat) => []) (fun (j : Nat) => VI 16 (l.drop 2) j) (fun (j : Nat) => (l.drop 2).length - j) 0 VI.i0 ((A.cut [0, 2, 3, 4, 6, 7] rfl).trunc 0 rfl rfl rfl (by simp only [List.length_cons, List.length_nil] at h0; omega)) fun j hI {G a w} A => N hX 9 A rfl rfl fun A => forkD 36 A rfl
     (fun h3 A => N hX 10 A rfl (ok_d (by have q := (n_hex h1).2; have := hI.le; (try simp only [List.length_drop] at *); omega) <| okE_nil) fun A => CALL1 [] (rhex_b ((l.drop 2).getD ((j : Int)).toNat 0)) A rfl rfl rfl rfl rfl rfl rfl fun A => N hX 12 A rfl rfl fun A => N hX 1 A rfl rfl fun A => N hX 4 A rfl rfl fun A => N hX 1 A rfl rfl fun A => N hX 2 A rfl rfl fun A => N hX 1 A rfl (ok_r <| ok_r <| ok_g (fun hg => (by decide)) <| okE_nil) fun A => N hX 1 A rfl rfl fun A => N hX 1 A rfl rfl fun A => N hX 2 A rfl rfl fun A => fork 59 A rfl
      (fun h4 A => N hX 8 A rfl rfl fun A => RETN hX A rfl rfl rfl h0 rfl rfl rfl rfl (by have q := n_hex h1; have q1 := q.1; have hdl : (l.drop 2).length = l.length - 2 := List.length_drop; have s : 1 ≤ (((l.drop 2).length : Nat) : Int) ∧ (((l.drop 2).length : Nat) : Int) ≤ 16 := sh_f h2; rw [if_neg (by omega)] at q1; have e : numR l = none := q1.trans (v_bad (bs := 16) rfl (by decide) hI h3 h4); unfold numI numO; rw [e]; rfl) rfl)
      (fun h4 A => N hX 18 A rfl (ok_d (by have q := (n_hex h1).2; have := hI.le; (try simp only [List.length_drop] at *); omega) <| okE_nil) fun A => N hX 2 A rfl rfl fun A => ⟨j + 1, _, (by omega), (v_go (bs := 16) rfl (by decide) hI h3 h4).1, ((A.cut [0, 2, 3, 4, 6, 7] rfl).trunc 0 rfl rfl rfl (by simp only [List.length_cons, List.length_nil] at h0; omega)).sayT (by have q := (v_go (bs := 16) rfl (by decide) hI h3 h4).2; rw [← q] <;> rfl)⟩))
     (fun h3 A => N hX 12 A rfl rfl fun A => RETN hX A rfl rfl rfl h0 rfl rfl rfl rfl (by have q := n_hex h1; have q1 := q.1; have hdl : (l.drop 2).length = l.length - 2 := List.length_drop; have s : 1 ≤ (((l.drop 2).length : Nat) : Int) ∧ (((l.drop 2).length : Nat) : Int) ≤ 16 := sh_f h2; rw [if_neg (by omega)] at q1; have e := q1.trans (v_end hI (by omega) h3); unfold numI numO; rw [e]; rfl) rfl)))
  (fun h1 A => N hX 12 A rfl rfl fun A => N hX 2 A rfl rfl fun A => N hX 1 A rfl rfl fun A => N hX 2 A rfl rfl fun A => fork 32 A rfl
   (fun h5 A => N hX 8 A rfl rfl fun A => RETN hX A rfl rfl rfl h0 rfl rfl rfl rfl (by have q1 := n_dec h1; have s : ((l.length : Nat) : Int) < 1 ∨ ((l.length : Nat) : Int) > 19 := sh_t h5; have e : numR l = none := (by rw [q1]; split <;> first | rfl | (rw [val_nil (List.eq_nil_of_length_eq_zero (by omega))]; rfl)); unfold numI numO; rw [e]; rfl) rfl)
   (fun h5 A => N hX 15 A rfl rfl fun A => LOOP1 (fun (j : Nat) => [(0, .str l), (2, .int .i64 0), (3, .ff), (4, .int .i64 10), (6, .int .u64 ((nv 10 (l.take j) : Nat) : Int)), (7, .int .i64 (j : Int))]) (fun (j : Nat) => []) (fun (j : Nat) => VI 10 l j) (fun (j : Nat) => l.length - j) 0 VI.i0 ((A.cut [0, 2, 3, 4, 6, 7] rfl).trunc 0 rfl rfl rfl (by simp only [List.length_cons, List.length_nil] at h0; omega)) fun j hI {G a w} A => N hX 9 A rfl rfl fun A => forkD 36 A rfl
     (fun h6 A => N hX 10 A rfl (ok_d (by have := hI.le; (try simp only [List.length_drop] at *); omega) <| okE_nil) fun A => CALL1 [] (rhex_b (l.getD ((j : Int)).toNat 0)) A rfl rfl rfl rfl rfl rfl rfl fun A => N hX 12 A rfl rfl fun A => N hX 1 A rfl rfl fun A => N hX 4 A rfl rfl fun A => N hX 1 A rfl rfl fun A => N hX 2 A rfl rfl fun A => N hX 1 A rfl (ok_r <| ok_r <| ok_g (fun hg => (by decide)) <| okE_nil) fun A => N hX 1 A rfl rfl fun A => N hX 1 A rfl rfl fun A => N hX 2 A rfl rfl fun A => fork 59 A rfl
      (fun h7 A => N hX 8 A rfl rfl fun A => RETN hX A rfl rfl rfl h0 rfl rfl rfl rfl (by have q1 := n_dec h1; have s : 1 ≤ ((l.length : Nat) : Int) ∧ ((l.length : Nat) : Int) ≤ 19 := sh_f h5; rw [if_neg (by omega)] at q1; have e : numR l = none := q1.trans (v_bad (bs := 10) rfl (by decide) hI h6 h7); unfold numI numO; rw [e]; rfl) rfl)
      (fun h7 A => N hX 18 A rfl (ok_d (by have := hI.le; (try simp only [List.length_drop] at *); omega) <| okE_nil) fun A => N hX 2 A rfl rfl fun A => ⟨j + 1, _, (by omega), (v_go (bs := 10) rfl (by decide) hI h6 h7).1, ((A.cut [0, 2, 3, 4, 6, 7] rfl).trunc 0 rfl rfl rfl (by simp only [List.length_cons, List.length_nil] at h0; omega)).sayT (by have q := (v_go (bs := 10) rfl (by decide) hI h6 h7).2; rw [← q] <;> rfl)⟩))
     (fun h6 A => N hX 12 A rfl rfl fun A => RETN hX A rfl rfl rfl h0 rfl rfl rfl rfl (by have q1 := n_dec h1; have s : 1 ≤ ((l.length : Nat) : Int) ∧ ((l.length : Nat) : Int) ≤ 19 := sh_f h5; rw [if_neg (by omega)] at q1; have e := q1.trans (v_end hI (by omega) h6); unfold numI numO; rw [e]; rfl) rfl)))
theorem of_and {p : Prop} [Decidable p] {b : Bool} (h : (decide p && b) = true) : p := by rw [Bool.and_eq_true] at h; exact of_decide_eq_true h.1
section
variable {l : List UInt8} {e0 ss : Nat} {ws : List Tk}
theorem cut_is (n : Nat) : (l.take ((((ss + n : Nat)) : Int)).toNat).drop (((ss : Nat) : Int)).toNat = (l.drop ss).take n := by
  rw [Int.toNat_natCast, Int.toNat_natCast, List.drop_take, show ss + n - ss = n by omega]
theorem hd_is (h : ¬ (((ss : Nat) : Int) ≥ (l.length : Int))) : (l.drop ss)[0]? = some (l.getD (((ss : Nat) : Int)).toNat 0) := by
  rw [List.getElem?_drop]; exact at_of (by omega)
theorem nx_is (h : ((ss : Nat) : Int) + 1 < (l.length : Int)) : (l.drop ss)[1]? = some (l.getD (((ss : Nat) : Int) + 1).toNat 0) := by
  rw [List.getElem?_drop]; exact at_of1 h
theorem TkI.go (hI : TkI l e0 ws) (h : skE l e0 = 0) (h1 : ¬ (((skp l e0 : Nat) : Int) ≥ (l.length : Int))) {kd n : Int} {tx : List UInt8} {c : Nat} (hf : firstR (l.drop (skp l e0)) = (⟨kd, tx, n, 0⟩, 0)) (hn : tx.length = c) : TkI l (skp l e0 + c) (ws ++ [⟨kd, tx, n, ((skp l e0 : Nat) : Int)⟩]) ∧ e0 < skp l e0 + c ∧ skp l e0 + c ≤ l.length := by
  have h2 : (firstR (l.drop (skp l e0))).2 = 0 := by rw [hf]
  have a := hI.nx h (by omega) h2
  have b := hI.len (by omega) h2
  rw [hf] at a b
  simp only at a b
  rw [hn] at a b
  have : e0 ≤ skp l e0 := by unfold skp; omega
  exact ⟨a, by omega, by omega⟩
theorem nbg_is (b : UInt8) : ((letB b) || (((b.toNat : Nat) : Int) == 95)) = nbgB b := by
  unfold nbgB; rw [show (((b.toNat : Nat) : Int) == 95) = (b.toNat == 95) by rw [Bool.eq_iff_iff]; simp only [beq_iff_eq]; omega]
theorem mk_two (h1 : ¬ (((ss : Nat) : Int) ≥ (l.length : Int))) (h : ((decide ((((ss : Nat) : Int) + 1) < (l.length : Int))) && ((((((l.getD (((ss : Nat) : Int)).toNat 0).toNat : Nat) : Int) == 47) && ((((l.getD (((ss : Nat) : Int) + 1).toNat 0).toNat : Nat) : Int) == 92)) || (((((l.getD (((ss : Nat) : Int)).toNat 0).toNat : Nat) : Int) == 92) && ((((l.getD (((ss : Nat) : Int) + 1).toNat 0).toNat : Nat) : Int) == 47)))) = true) : mkN (l.drop ss) = 2 := by
  simp only [Bool.and_eq_true, Bool.or_eq_true, decide_eq_true_eq, beq_iff_eq] at h
  have a0 := hd_is h1
  have a1 := nx_is h.1
  rcases h.2 with ⟨p, q⟩ | ⟨p, q⟩
  · exact mkN_two (by rw [pre_two a0 a1, u8_eq (y := 47) p, u8_eq (y := 92) q]; rfl)
  · exact mkN_two' (by rw [pre_two a0 a1, u8_eq (y := 92) p, u8_eq (y := 47) q]; rfl)
theorem mk_one (h1 : ¬ (((ss : Nat) : Int) ≥ (l.length : Int))) (h : ((decide ((((ss : Nat) : Int) + 1) < (l.length : Int))) && ((((((l.getD (((ss : Nat) : Int)).toNat 0).toNat : Nat) : Int) == 47) && ((((l.getD (((ss : Nat) : Int) + 1).toNat 0).toNat : Nat) : Int) == 92)) || (((((l.getD (((ss : Nat) : Int)).toNat 0).toNat : Nat) : Int) == 92) && ((((l.getD (((ss : Nat) : Int) + 1).toNat 0).toNat : Nat) : Int) == 47)))) = false) (hm : mrkB (l.getD (((ss : Nat) : Int)).toNat 0) = true) : mkN (l.drop ss) = 1 := by
  have a0 := hd_is h1
  have hp : ∀ p q : UInt8, (p = 47 ∧ q = 92) ∨ (p = 92 ∧ q = 47) → preB (l.drop ss) [p, q] = false := by
    intro p q hpq
    by_cases h2 : ((ss : Nat) : Int) + 1 < (l.length : Int)
    · rw [pre_two a0 (nx_is h2)]
      rw [decide_eq_true h2, Bool.true_and] at h
      cases hc : (l.getD (((ss : Nat) : Int)).toNat 0 == p && l.getD (((ss : Nat) : Int) + 1).toNat 0 == q)
      · rfl
      · rw [Bool.and_eq_true, beq_iff_eq, beq_iff_eq] at hc
        rw [hc.1, hc.2] at h
        rcases hpq with ⟨e1, e2⟩ | ⟨e1, e2⟩ <;> subst e1 <;> subst e2 <;> exact absurd h (by decide)
    · exact pre_short (by rw [List.length_drop]; simp only [List.length_cons, List.length_nil]; omega)
  unfold mkN
  rw [hp 47 92 (.inl ⟨rfl, rfl⟩), hp 92 47 (.inr ⟨rfl, rfl⟩), a0]
  show (if (false || false) = true then 2 else if mrkB (l.getD (((ss : Nat) : Int)).toNat 0) = true then 1 else 0) = 1
  rw [hm]; rfl
theorem mk_no (h1 : ¬ (((ss : Nat) : Int) ≥ (l.length : Int))) (hm : mrkB (l.getD (((ss : Nat) : Int)).toNat 0) = false) : ¬ mkN (l.drop ss) > 0 := by
  have a0 := hd_is h1
  have hp : ∀ p q : UInt8, p = 47 ∨ p = 92 → preB (l.drop ss) [p, q] = false := by
    intro p q hpq
    by_cases h2 : ((ss : Nat) : Int) + 1 < (l.length : Int)
    · rw [pre_two a0 (nx_is h2)]
      cases hc : (l.getD (((ss : Nat) : Int)).toNat 0 == p)
      · rfl
      · rw [beq_iff_eq] at hc
        rw [hc] at hm
        rcases hpq with e1 | e1 <;> subst e1 <;> exact absurd hm (by decide)
    · exact pre_short (by rw [List.length_drop]; simp only [List.length_cons, List.length_nil]; omega)
  unfold mkN
  rw [hp 47 92 (.inl rfl), hp 92 47 (.inr rfl), a0]
  show ¬ (if (false || false) = true then 2 else if mrkB (l.getD (((ss : Nat) : Int)).toNat 0) = true then 1 else 0) > 0
  rw [hm]; decide
theorem num_of {t : List UInt8} (h : (!(numO t)) = false) : numR t = some (numI t) := by
  unfold numO at h; unfold numI; cases hn : numR t with
  | none => rw [hn] at h; exact absurd h (by decide)
  | some n => rfl
theorem num_not {t : List UInt8} (h : (!(numO t)) = true) : numR t = none := by
  unfold numO at h; cases hn : numR t with
  | none => rfl
  | some n => rw [hn] at h; exact absurd h (by simp)
theorem tk_num (hI : TkI l e0 ws) (k0 : (skE l e0) = 0) (k1 : ¬(((skp l e0 : Nat) : Int) ≥ (l.length : Int))) (k2 : (digB (l.getD (((skp l e0 : Nat) : Int)).toNat 0)) = true) (k3 : (!(numO ((l.take ((((skp l e0 + rn numB (l.drop (skp l e0)) : Nat)) : Int)).toNat).drop (((skp l e0 : Nat) : Int)).toNat))) = false) : TkI l (skp l e0 + rn numB (l.drop (skp l e0))) (ws ++ [(⟨2, (l.take ((((skp l e0 + rn numB (l.drop (skp l e0)) : Nat)) : Int)).toNat).drop (((skp l e0 : Nat) : Int)).toNat, numI ((l.take ((((skp l e0 + rn numB (l.drop (skp l e0)) : Nat)) : Int)).toNat).drop (((skp l e0 : Nat) : Int)).toNat), ((skp l e0 : Nat) : Int)⟩ : Tk)]) ∧ e0 < skp l e0 + rn numB (l.drop (skp l e0)) ∧ skp l e0 + rn numB (l.drop (skp l e0)) ≤ l.length := by
  rw [cut_is] at k3 ⊢
  exact hI.go k0 k1 (first_num (hd_is k1) k2 (num_of k3)) (by rw [List.length_take]; have := rn_le numB (l.drop (skp l e0)); omega)
theorem tk_name (hI : TkI l e0 ws) (k0 : (skE l e0) = 0) (k1 : ¬(((skp l e0 : Nat) : Int) ≥ (l.length : Int))) (k2 : (digB (l.getD (((skp l e0 : Nat) : Int)).toNat 0)) = false) (k3 : ((letB (l.getD (((skp l e0 : Nat) : Int)).toNat 0)) || ((((l.getD (((skp l e0 : Nat) : Int)).toNat 0).toNat : Nat) : Int) == 95)) = true) : TkI l (skp l e0 + rn namB (l.drop (skp l e0))) (ws ++ [(⟨1, (l.take ((((skp l e0 + rn namB (l.drop (skp l e0)) : Nat)) : Int)).toNat).drop (((skp l e0 : Nat) : Int)).toNat, 0, ((skp l e0 : Nat) : Int)⟩ : Tk)]) ∧ e0 < skp l e0 + rn namB (l.drop (skp l e0)) ∧ skp l e0 + rn namB (l.drop (skp l e0)) ≤ l.length := by
  rw [cut_is]
  exact hI.go k0 k1 (first_name (hd_is k1) k2 (by rw [← nbg_is]; exact k3)) (by rw [List.length_take]; have := rn_le namB (l.drop (skp l e0)); omega)
theorem tk_m2 (hI : TkI l e0 ws) (k0 : (skE l e0) = 0) (k1 : ¬(((skp l e0 : Nat) : Int) ≥ (l.length : Int))) (k2 : (digB (l.getD (((skp l e0 : Nat) : Int)).toNat 0)) = false) (k3 : ((letB (l.getD (((skp l e0 : Nat) : Int)).toNat 0)) || ((((l.getD (((skp l e0 : Nat) : Int)).toNat 0).toNat : Nat) : Int) == 95)) = false) (k4 : (mrkB (l.getD (((skp l e0 : Nat) : Int)).toNat 0)) = true) (k5 : ((decide ((((skp l e0 : Nat) : Int) + 1) < (l.length : Int))) && ((((((l.getD (((skp l e0 : Nat) : Int)).toNat 0).toNat : Nat) : Int) == 47) && ((((l.getD (((skp l e0 : Nat) : Int) + 1).toNat 0).toNat : Nat) : Int) == 92)) || (((((l.getD (((skp l e0 : Nat) : Int)).toNat 0).toNat : Nat) : Int) == 92) && ((((l.getD (((skp l e0 : Nat) : Int) + 1).toNat 0).toNat : Nat) : Int) == 47)))) = true) : TkI l (skp l e0 + 1 + 1) (ws ++ [(⟨3, (l.take ((((skp l e0 : Nat) : Int) + 1) + 1).toNat).drop (((skp l e0 : Nat) : Int)).toNat, 0, ((skp l e0 : Nat) : Int)⟩ : Tk)]) ∧ e0 < skp l e0 + 1 + 1 ∧ skp l e0 + 1 + 1 ≤ l.length := by
  have e := mk_two k1 k5
  have r := of_and k5
  rw [show (((skp l e0 : Nat) : Int) + 1) + 1 = ((skp l e0 + 2 : Nat) : Int) by omega, cut_is]
  exact hI.go k0 k1 (c := 2) (e ▸ first_mark (hd_is k1) k2 (by rw [← nbg_is]; exact k3) (by omega)) (by rw [List.length_take, List.length_drop]; omega)
theorem tk_m1 (hI : TkI l e0 ws) (k0 : (skE l e0) = 0) (k1 : ¬(((skp l e0 : Nat) : Int) ≥ (l.length : Int))) (k2 : (digB (l.getD (((skp l e0 : Nat) : Int)).toNat 0)) = false) (k3 : ((letB (l.getD (((skp l e0 : Nat) : Int)).toNat 0)) || ((((l.getD (((skp l e0 : Nat) : Int)).toNat 0).toNat : Nat) : Int) == 95)) = false) (k4 : (mrkB (l.getD (((skp l e0 : Nat) : Int)).toNat 0)) = true) (k5 : ((decide ((((skp l e0 : Nat) : Int) + 1) < (l.length : Int))) && ((((((l.getD (((skp l e0 : Nat) : Int)).toNat 0).toNat : Nat) : Int) == 47) && ((((l.getD (((skp l e0 : Nat) : Int) + 1).toNat 0).toNat : Nat) : Int) == 92)) || (((((l.getD (((skp l e0 : Nat) : Int)).toNat 0).toNat : Nat) : Int) == 92) && ((((l.getD (((skp l e0 : Nat) : Int) + 1).toNat 0).toNat : Nat) : Int) == 47)))) = false) : TkI l (skp l e0 + 1) (ws ++ [(⟨3, (l.take (((skp l e0 : Nat) : Int) + 1).toNat).drop (((skp l e0 : Nat) : Int)).toNat, 0, ((skp l e0 : Nat) : Int)⟩ : Tk)]) ∧ e0 < skp l e0 + 1 ∧ skp l e0 + 1 ≤ l.length := by
  have e := mk_one k1 k5 k4
  rw [show ((skp l e0 : Nat) : Int) + 1 = ((skp l e0 + 1 : Nat) : Int) by omega, cut_is]
  exact hI.go k0 k1 (c := 1) (e ▸ first_mark (hd_is k1) k2 (by rw [← nbg_is]; exact k3) (by omega)) (by rw [List.length_take, List.length_drop]; omega)
theorem tk_bn (hI : TkI l e0 ws) (k0 : (skE l e0) = 0) (k1 : ¬(((skp l e0 : Nat) : Int) ≥ (l.length : Int))) (k2 : (digB (l.getD (((skp l e0 : Nat) : Int)).toNat 0)) = true) (k3 : (!(numO ((l.take ((((skp l e0 + rn numB (l.drop (skp l e0)) : Nat)) : Int)).toNat).drop (((skp l e0 : Nat) : Int)).toNat))) = true) : tokensR l = ([], 23, skp l e0) := by
  rw [cut_is] at k3
  have e := first_bad (hd_is k1) k2 (num_not k3)
  have := hI.bad k0 (by omega) (by rw [e]; decide)
  rw [e] at this; exact this
theorem tk_bb (hI : TkI l e0 ws) (k0 : (skE l e0) = 0) (k1 : ¬(((skp l e0 : Nat) : Int) ≥ (l.length : Int))) (k2 : (digB (l.getD (((skp l e0 : Nat) : Int)).toNat 0)) = false) (k3 : ((letB (l.getD (((skp l e0 : Nat) : Int)).toNat 0)) || ((((l.getD (((skp l e0 : Nat) : Int)).toNat 0).toNat : Nat) : Int) == 95)) = false) (k4 : (mrkB (l.getD (((skp l e0 : Nat) : Int)).toNat 0)) = false) : tokensR l = ([], 20, skp l e0) := by
  have e := first_byte (hd_is k1) k2 (by rw [← nbg_is]; exact k3) (mk_no k1 k4)
  have := hI.bad k0 (by omega) (by rw [e]; decide)
  rw [e] at this; exact this
end
theorem rtokens_ (l : List UInt8) : Fn Tryz.prog 91 [.str l] [] (TkR l) :=
 enterM (n := 112) (by kernel_rfl) Tryz.func91 rfl rfl rfl fun G w a h0 A => N hX 15 A rfl rfl fun A => forkD 16 A rfl
  (fun h1 A => N hX 9 A rfl rfl fun A => RET (x := .tup [.sla none 0 0, .int .i64 2, .int .i64 0]) (H' := []) hX [] A (by have e := tokens_long (l := l) (by omega); unfold TkR; rw [e]; exact .inr ⟨(by show (2 : Int) ≠ 0; decide), rfl, rfl⟩) rfl rfl rfl rfl rfl rfl rfl rfl h0)
  (fun h1 A => N hX 14 A rfl rfl fun A => have A := A.nilRow 5 28 4 (fun zz => tkc (([] : List Tk).getD zz tok0)) rfl (fun z => ⟨_, rfl, rfl⟩); LOOP2 (fun (e0 : Nat) (ws : List Tk) => [(0, .str l), (2, .sla none 0 0), (3, .int .i64 0), (4, .int .i64 0), (5, .sl 0 ws.length 0), (6, .int .i64 (e0 : Int))]) (fun (e0 : Nat) (ws : List Tk) => [some (.row 28 4 ws.length 0 (fun zz => tkc (ws.getD zz tok0)))]) (fun (e0 : Nat) (ws : List Tk) => TkI l e0 ws) (fun (e0 : Nat) (ws : List Tk) => l.length - e0) 0 [] (TkI.i0 (by omega)) ((A.cut [0, 2, 3, 4, 5, 6] rfl).trunc 1 rfl rfl rfl (by simp only [List.length_cons, List.length_nil] at h0; omega)) fun e0 ws hI {G a w} A => N hX 5 A rfl rfl fun A => CALL1 [] (fn_asX (rblank_ l e0 hI.le (by omega)) (y := .tup [.int .i64 ((skp l e0 : Nat) : Int), .int .i64 (skE l e0)]) fun _ => rfl) A rfl rfl rfl rfl rfl rfl rfl fun A => N hX 14 A rfl rfl fun A => forkN 24 A rfl
    (fun h2 A => N hX 11 A rfl rfl fun A => RET (x := .tup [.sla none 0 0, .int .i64 (skE l e0), .int .i64 ((skp l e0 : Nat) : Int)]) (H' := []) hX [] A (by have e := (hI.rem h2).1; unfold TkR; rw [e]; have e2 := (hI.rem h2).2; rw [e2]; exact .inr ⟨(by show (24 : Int) ≠ 0; decide), rfl, rfl⟩) rfl rfl rfl rfl rfl rfl rfl rfl h0)
    (fun h2 A => N hX 18 A rfl rfl fun A => forkD 31 A rfl
     (fun h3 A => N hX 10 A rfl rfl fun A => RET (x := .tup [.sl 0 ws.length 0, .int .i64 0, .int .i64 0]) (H' := [some (.row 28 4 ws.length 0 (fun zz => tkc (ws.getD zz tok0)))]) hX [0] A (by have e := hI.done h2 (by have := hI.sk; omega); unfold TkR; rw [e]; exact .inl ⟨rfl, rfl, rfl⟩) rfl rfl rfl rfl rfl rfl rfl rfl h0)
     (fun h3 A => N hX 8 A rfl (ok_d (by have hs := hI.sk; have hle := hI.le; have hwl := hI.wl; have r1 := rn_le numB (l.drop (skp l e0)); have r2 := rn_le namB (l.drop (skp l e0)); rw [List.length_drop] at r1 r2; omega) <| okE_nil) fun A => N hX 15 A rfl (ok_d (by have hs := hI.sk; have hle := hI.le; have hwl := hI.wl; have r1 := rn_le numB (l.drop (skp l e0)); have r2 := rn_le namB (l.drop (skp l e0)); rw [List.length_drop] at r1 r2; omega) <| okE_nil) fun A => N hX 8 A rfl rfl fun A => CALL1 [] (rdigit_b (l.getD (((skp l e0 : Nat) : Int)).toNat 0)) A rfl rfl rfl rfl rfl rfl rfl fun A => N hX 3 A rfl rfl fun A => fork 41 A rfl
      (fun h4 A => N hX 5 A rfl rfl fun A => CALL1 [] (rrun_num l (skp l e0) hI.sk (by omega)) A rfl rfl rfl rfl rfl rfl rfl fun A => N hX 9 A rfl (ok_d (by have hs := hI.sk; have hle := hI.le; have hwl := hI.wl; have r1 := rn_le numB (l.drop (skp l e0)); have r2 := rn_le namB (l.drop (skp l e0)); rw [List.length_drop] at r1 r2; omega) <| okE_nil) fun A => CALL1 [] (rvalue_ ((l.take ((((skp l e0 + rn numB (l.drop (skp l e0)) : Nat)) : Int)).toNat).drop (((skp l e0 : Nat) : Int)).toNat) (by have hs := hI.sk; have hle := hI.le; have hwl := hI.wl; have r1 := rn_le numB (l.drop (skp l e0)); have r2 := rn_le namB (l.drop (skp l e0)); rw [List.length_drop] at r1 r2; rw [List.length_drop, List.length_take]; omega)) A rfl rfl rfl rfl rfl rfl rfl fun A => N hX 14 A rfl rfl fun A => fork 56 A rfl
       (fun h5 A => N hX 10 A rfl rfl fun A => RET (x := .tup [.sla none 0 0, .int .i64 23, .int .i64 ((skp l e0 : Nat) : Int)]) (H' := []) hX [] A (by have e := tk_bn hI h2 h3 h4 h5; unfold TkR; rw [e]; exact .inr ⟨(by show (23 : Int) ≠ 0; decide), rfl, rfl⟩) rfl rfl rfl rfl rfl rfl rfl rfl h0)
       (fun h5 A => N hX 22 A rfl (ok_d (by have hs := hI.sk; have hle := hI.le; have hwl := hI.wl; have r1 := rn_le numB (l.drop (skp l e0)); have r2 := rn_le namB (l.drop (skp l e0)); rw [List.length_drop] at r1 r2; omega) <| okE_nil) fun A => N hX 9 A rfl rfl fun A => APP1 hX (ws.length + 1) (fun zz => tkc ((ws ++ [(⟨2, (l.take ((((skp l e0 + rn numB (l.drop (skp l e0)) : Nat)) : Int)).toNat).drop (((skp l e0 : Nat) : Int)).toNat, numI ((l.take ((((skp l e0 + rn numB (l.drop (skp l e0)) : Nat)) : Int)).toNat).drop (((skp l e0 : Nat) : Int)).toNat), ((skp l e0 : Nat) : Int)⟩ : Tk)]).getD zz tok0)) A rfl rfl rfl rfl (by have hs := hI.sk; have hle := hI.le; have hwl := hI.wl; have r1 := rn_le numB (l.drop (skp l e0)); have r2 := rn_le namB (l.drop (skp l e0)); rw [List.length_drop] at r1 r2; omega) rfl (fun k hk => by show tkc _ = tkc _; rw [tk_app hk]) (by show tkc _ = _; rw [tk_new]; rfl) (fun z => ⟨_, rfl, rfl⟩) fun A => have A := (A.rowAs 3 ((ws ++ [(⟨2, (l.take ((((skp l e0 + rn numB (l.drop (skp l e0)) : Nat)) : Int)).toNat).drop (((skp l e0 : Nat) : Int)).toNat, numI ((l.take ((((skp l e0 + rn numB (l.drop (skp l e0)) : Nat)) : Int)).toNat).drop (((skp l e0 : Nat) : Int)).toNat), ((skp l e0 : Nat) : Int)⟩ : Tk)]).length) (fun zz => tkc ((ws ++ [(⟨2, (l.take ((((skp l e0 + rn numB (l.drop (skp l e0)) : Nat)) : Int)).toNat).drop (((skp l e0 : Nat) : Int)).toNat, numI ((l.take ((((skp l e0 + rn numB (l.drop (skp l e0)) : Nat)) : Int)).toNat).drop (((skp l e0 : Nat) : Int)).toNat), ((skp l e0 : Nat) : Int)⟩ : Tk)]).getD zz tok0)) rfl (by rw [List.length_append]; rfl) (fun q hq => rfl) (fun z => ⟨_, rfl, rfl⟩)).say 110 (.sl 3 ((ws ++ [(⟨2, (l.take ((((skp l e0 + rn numB (l.drop (skp l e0)) : Nat)) : Int)).toNat).drop (((skp l e0 : Nat) : Int)).toNat, numI ((l.take ((((skp l e0 + rn numB (l.drop (skp l e0)) : Nat)) : Int)).toNat).drop (((skp l e0 : Nat) : Int)).toNat), ((skp l e0 : Nat) : Int)⟩ : Tk)]).length) 0) rfl (by rw [List.length_append] <;> rfl); N hX 8 A rfl rfl fun A => ⟨skp l e0 + rn numB (l.drop (skp l e0)), ws ++ [(⟨2, (l.take ((((skp l e0 + rn numB (l.drop (skp l e0)) : Nat)) : Int)).toNat).drop (((skp l e0 : Nat) : Int)).toNat, numI ((l.take ((((skp l e0 + rn numB (l.drop (skp l e0)) : Nat)) : Int)).toNat).drop (((skp l e0 : Nat) : Int)).toNat), ((skp l e0 : Nat) : Int)⟩ : Tk)], _, (by have q := (tk_num hI h2 h3 h4 h5).2; have hq : e0 ≤ skp l e0 := (by unfold skp; omega); omega), (tk_num hI h2 h3 h4 h5).1, ((A.cut [0, 2, 3, 4, 5, 6] rfl).mv 0 [3] rfl rfl rfl rfl (by simp only [List.length_cons, List.length_nil] at h0; omega))⟩))
      (fun h4 A => N hX 4 A rfl rfl fun A => CALL1 [] (rletter_b (l.getD (((skp l e0 : Nat) : Int)).toNat 0)) A rfl rfl rfl rfl rfl rfl rfl fun A => N hX 3 A rfl rfl fun A => N hX 1 A rfl rfl fun A => N hX 3 A rfl rfl fun A => fork 61 A rfl
       (fun h6 A => N hX 5 A rfl rfl fun A => CALL1 [] (rrun_nam l (skp l e0) hI.sk (by omega)) A rfl rfl rfl rfl rfl rfl rfl fun A => N hX 15 A rfl (ok_d (by have hs := hI.sk; have hle := hI.le; have hwl := hI.wl; have r1 := rn_le numB (l.drop (skp l e0)); have r2 := rn_le namB (l.drop (skp l e0)); rw [List.length_drop] at r1 r2; omega) <| okE_nil) fun A => N hX 9 A rfl rfl fun A => APP1 hX (ws.length + 1) (fun zz => tkc ((ws ++ [(⟨1, (l.take ((((skp l e0 + rn namB (l.drop (skp l e0)) : Nat)) : Int)).toNat).drop (((skp l e0 : Nat) : Int)).toNat, 0, ((skp l e0 : Nat) : Int)⟩ : Tk)]).getD zz tok0)) A rfl rfl rfl rfl (by have hs := hI.sk; have hle := hI.le; have hwl := hI.wl; have r1 := rn_le numB (l.drop (skp l e0)); have r2 := rn_le namB (l.drop (skp l e0)); rw [List.length_drop] at r1 r2; omega) rfl (fun k hk => by show tkc _ = tkc _; rw [tk_app hk]) (by show tkc _ = _; rw [tk_new]; rfl) (fun z => ⟨_, rfl, rfl⟩) fun A => have A := (A.rowAs 3 ((ws ++ [(⟨1, (l.take ((((skp l e0 + rn namB (l.drop (skp l e0)) : Nat)) : Int)).toNat).drop (((skp l e0 : Nat) : Int)).toNat, 0, ((skp l e0 : Nat) : Int)⟩ : Tk)]).length) (fun zz => tkc ((ws ++ [(⟨1, (l.take ((((skp l e0 + rn namB (l.drop (skp l e0)) : Nat)) : Int)).toNat).drop (((skp l e0 : Nat) : Int)).toNat, 0, ((skp l e0 : Nat) : Int)⟩ : Tk)]).getD zz tok0)) rfl (by rw [List.length_append]; rfl) (fun q hq => rfl) (fun z => ⟨_, rfl, rfl⟩)).say 110 (.sl 3 ((ws ++ [(⟨1, (l.take ((((skp l e0 + rn namB (l.drop (skp l e0)) : Nat)) : Int)).toNat).drop (((skp l e0 : Nat) : Int)).toNat, 0, ((skp l e0 : Nat) : Int)⟩ : Tk)]).length) 0) rfl (by rw [List.length_append] <;> rfl); N hX 8 A rfl rfl fun A => ⟨skp l e0 + rn namB (l.drop (skp l e0)), ws ++ [(⟨1, (l.take ((((skp l e0 + rn namB (l.drop (skp l e0)) : Nat)) : Int)).toNat).drop (((skp l e0 : Nat) : Int)).toNat, 0, ((skp l e0 : Nat) : Int)⟩ : Tk)], _, (by have q := (tk_name hI h2 h3 h4 h6).2; have hq : e0 ≤ skp l e0 := (by unfold skp; omega); omega), (tk_name hI h2 h3 h4 h6).1, ((A.cut [0, 2, 3, 4, 5, 6] rfl).mv 0 [3] rfl rfl rfl rfl (by simp only [List.length_cons, List.length_nil] at h0; omega))⟩)
       (fun h6 A => N hX 4 A rfl rfl fun A => CALL1 [] (rmark_b (l.getD (((skp l e0 : Nat) : Int)).toNat 0)) A rfl rfl rfl rfl rfl rfl rfl fun A => N hX 3 A rfl rfl fun A => fork 72 A rfl
        (fun h7 A => N hX 11 A rfl rfl fun A => N hX 1 A rfl rfl fun A => N hX 3 A rfl (ok_r <| ok_r <| ok_g (fun hg => (by (try simp at hg); have hs := hI.sk; have hle := hI.le; have hwl := hI.wl; have r1 := rn_le numB (l.drop (skp l e0)); have r2 := rn_le namB (l.drop (skp l e0)); rw [List.length_drop] at r1 r2; omega)) <| okE_nil) fun A => N hX 1 A rfl rfl fun A => N hX 1 A rfl rfl fun A => N hX 1 A rfl rfl fun A => N hX 2 A rfl rfl fun A => N hX 1 A rfl rfl fun A => N hX 3 A rfl (ok_r <| ok_r <| ok_g (fun hg => (by (try simp at hg); have hs := hI.sk; have hle := hI.le; have hwl := hI.wl; have r1 := rn_le numB (l.drop (skp l e0)); have r2 := rn_le namB (l.drop (skp l e0)); rw [List.length_drop] at r1 r2; omega)) <| okE_nil) fun A => N hX 1 A rfl rfl fun A => N hX 1 A rfl rfl fun A => N hX 1 A rfl rfl fun A => N hX 1 A rfl rfl fun A => N hX 2 A rfl rfl fun A => fork 98 A rfl
         (fun h8 A => N hX 4 A rfl (ok_d (by have hs := hI.sk; have hle := hI.le; have hwl := hI.wl; have r1 := rn_le numB (l.drop (skp l e0)); have r2 := rn_le namB (l.drop (skp l e0)); rw [List.length_drop] at r1 r2; have r3 := (of_and h8); omega) <| okE_nil) fun A => N hX 15 A rfl (ok_d (by have hs := hI.sk; have hle := hI.le; have hwl := hI.wl; have r1 := rn_le numB (l.drop (skp l e0)); have r2 := rn_le namB (l.drop (skp l e0)); rw [List.length_drop] at r1 r2; have r3 := (of_and h8); omega) <| okE_nil) fun A => N hX 9 A rfl rfl fun A => APP1 hX (ws.length + 1) (fun zz => tkc ((ws ++ [(⟨3, (l.take ((((skp l e0 : Nat) : Int) + 1) + 1).toNat).drop (((skp l e0 : Nat) : Int)).toNat, 0, ((skp l e0 : Nat) : Int)⟩ : Tk)]).getD zz tok0)) A rfl rfl rfl rfl (by have hs := hI.sk; have hle := hI.le; have hwl := hI.wl; have r1 := rn_le numB (l.drop (skp l e0)); have r2 := rn_le namB (l.drop (skp l e0)); rw [List.length_drop] at r1 r2; have r3 := (of_and h8); omega) rfl (fun k hk => by show tkc _ = tkc _; rw [tk_app hk]) (by show tkc _ = _; rw [tk_new]; rfl) (fun z => ⟨_, rfl, rfl⟩) fun A => have A := (A.rowAs 3 ((ws ++ [(⟨3, (l.take ((((skp l e0 : Nat) : Int) + 1) + 1).toNat).drop (((skp l e0 : Nat) : Int)).toNat, 0, ((skp l e0 : Nat) : Int)⟩ : Tk)]).length) (fun zz => tkc ((ws ++ [(⟨3, (l.take ((((skp l e0 : Nat) : Int) + 1) + 1).toNat).drop (((skp l e0 : Nat) : Int)).toNat, 0, ((skp l e0 : Nat) : Int)⟩ : Tk)]).getD zz tok0)) rfl (by rw [List.length_append]; rfl) (fun q hq => rfl) (fun z => ⟨_, rfl, rfl⟩)).say 110 (.sl 3 ((ws ++ [(⟨3, (l.take ((((skp l e0 : Nat) : Int) + 1) + 1).toNat).drop (((skp l e0 : Nat) : Int)).toNat, 0, ((skp l e0 : Nat) : Int)⟩ : Tk)]).length) 0) rfl (by rw [List.length_append] <;> rfl); N hX 8 A rfl rfl fun A => ⟨skp l e0 + 1 + 1, ws ++ [(⟨3, (l.take ((((skp l e0 : Nat) : Int) + 1) + 1).toNat).drop (((skp l e0 : Nat) : Int)).toNat, 0, ((skp l e0 : Nat) : Int)⟩ : Tk)], _, (by have q := (tk_m2 hI h2 h3 h4 h6 h7 h8).2; have hq : e0 ≤ skp l e0 := (by unfold skp; omega); omega), (tk_m2 hI h2 h3 h4 h6 h7 h8).1, ((A.cut [0, 2, 3, 4, 5, 6] rfl).mv 0 [3] rfl rfl rfl rfl (by simp only [List.length_cons, List.length_nil] at h0; omega))⟩)
         (fun h8 A => N hX 15 A rfl (ok_d (by have hs := hI.sk; have hle := hI.le; have hwl := hI.wl; have r1 := rn_le numB (l.drop (skp l e0)); have r2 := rn_le namB (l.drop (skp l e0)); rw [List.length_drop] at r1 r2; omega) <| okE_nil) fun A => N hX 9 A rfl rfl fun A => APP1 hX (ws.length + 1) (fun zz => tkc ((ws ++ [(⟨3, (l.take (((skp l e0 : Nat) : Int) + 1).toNat).drop (((skp l e0 : Nat) : Int)).toNat, 0, ((skp l e0 : Nat) : Int)⟩ : Tk)]).getD zz tok0)) A rfl rfl rfl rfl (by have hs := hI.sk; have hle := hI.le; have hwl := hI.wl; have r1 := rn_le numB (l.drop (skp l e0)); have r2 := rn_le namB (l.drop (skp l e0)); rw [List.length_drop] at r1 r2; omega) rfl (fun k hk => by show tkc _ = tkc _; rw [tk_app hk]) (by show tkc _ = _; rw [tk_new]; rfl) (fun z => ⟨_, rfl, rfl⟩) fun A => have A := (A.rowAs 3 ((ws ++ [(⟨3, (l.take (((skp l e0 : Nat) : Int) + 1).toNat).drop (((skp l e0 : Nat) : Int)).toNat, 0, ((skp l e0 : Nat) : Int)⟩ : Tk)]).length) (fun zz => tkc ((ws ++ [(⟨3, (l.take (((skp l e0 : Nat) : Int) + 1).toNat).drop (((skp l e0 : Nat) : Int)).toNat, 0, ((skp l e0 : Nat) : Int)⟩ : Tk)]).getD zz tok0)) rfl (by rw [List.length_append]; rfl) (fun q hq => rfl) (fun z => ⟨_, rfl, rfl⟩)).say 110 (.sl 3 ((ws ++ [(⟨3, (l.take (((skp l e0 : Nat) : Int) + 1).toNat).drop (((skp l e0 : Nat) : Int)).toNat, 0, ((skp l e0 : Nat) : Int)⟩ : Tk)]).length) 0) rfl (by rw [List.length_append] <;> rfl); N hX 8 A rfl rfl fun A => ⟨skp l e0 + 1, ws ++ [(⟨3, (l.take (((skp l e0 : Nat) : Int) + 1).toNat).drop (((skp l e0 : Nat) : Int)).toNat, 0, ((skp l e0 : Nat) : Int)⟩ : Tk)], _, (by have q := (tk_m1 hI h2 h3 h4 h6 h7 h8).2; have hq : e0 ≤ skp l e0 := (by unfold skp; omega); omega), (tk_m1 hI h2 h3 h4 h6 h7 h8).1, ((A.cut [0, 2, 3, 4, 5, 6] rfl).mv 0 [3] rfl rfl rfl rfl (by simp only [List.length_cons, List.length_nil] at h0; omega))⟩))
        (fun h7 A => N hX 10 A rfl rfl fun A => RET (x := .tup [.sla none 0 0, .int .i64 20, .int .i64 ((skp l e0 : Nat) : Int)]) (H' := []) hX [] A (by have e := tk_bb hI h2 h3 h4 h6 h7; unfold TkR; rw [e]; exact .inr ⟨(by show (20 : Int) ≠ 0; decide), rfl, rfl⟩) rfl rfl rfl rfl rfl rfl rfl rfl h0))))))
theorem fn_mono {P : Program} {f : Nat} {az : List SV} {H : Hp} {R R' : SV → Hp → Prop} (h : Fn P f az H R) (e : ∀ x H2, R x H2 → R' x H2) : Fn P f az H R' := ⟨h.1, fun G w vs hM hv => Calls.mono (h.2 G w vs hM hv) fun e' w' ⟨x', H', F, v, q, r⟩ => ⟨x', H', F, v, e _ _ q, r⟩⟩
theorem rtok_ok (l : List UInt8) (ws : List Tk) (h : tokensR l = (ws, 0, 0)) : Fn Tryz.prog 91 [.str l] [] (Rt (.tup [.sl 0 ws.length 0, .int .i64 0, .int .i64 0]) [some (.row 28 4 ws.length 0 (fun zz => tkc (ws.getD zz tok0)))]) := fn_mono (rtokens_ l) fun x H2 q => by
  unfold TkR at q
  rw [h] at q
  rcases q with ⟨_, q1, q2⟩ | ⟨q1, _⟩
  · exact ⟨q1, q2⟩
  · exact absurd rfl q1
theorem rtok_no (l : List UInt8) (e : Int) (k : Nat) (h : tokensR l = ([], e, k)) (he : e ≠ 0) : Fn Tryz.prog 91 [.str l] [] (Rt (.tup [.sla none 0 0, .int .i64 e, .int .i64 (k : Int)]) []) := fn_mono (rtokens_ l) fun x H2 q => by
  unfold TkR at q
  rw [h] at q
  rcases q with ⟨q1, _⟩ | ⟨_, q1, q2⟩
  · exact absurd q1 he
  · exact ⟨q1, q2⟩
theorem rone_ (l : List UInt8)  : Fn Tryz.prog 40 [.str l] [] (Rt (.bool (oneN l)) []) :=
 enterM (n := 34) (by kernel_rfl) Tryz.func40 rfl rfl rfl fun G w a h0 A => N hX 8 A rfl rfl fun A => tokSp (l := l)
  (fun ws ht => CALL1 [] (rtok_ok l ws ht) A rfl rfl rfl rfl rfl rfl rfl fun A => N hX 13 A rfl rfl fun A => have A := sy_sayD A 13 (.tt) rfl (fun _ => congrArg (fun b => some (Value.bool b)) (show (0 == 0) = true by decide)); N hX 24 A rfl (ok_r <| ok_g (fun hg => (by have h := hg; simp at h; omega)) <| ok_r <| ok_g (fun hg => (by have h := hg; simp at h; omega)) <| ok_r <| ok_g (fun hg => (by have h := hg; simp at h; omega)) <| ok_r <| ok_r <| ok_r <| ok_g (fun hg => (by have h := hg; simp at h; omega)) <| ok_r <| ok_g (fun hg => (by have h := hg; simp at h; omega)) <| ok_r <| ok_g (fun hg => (by have h := hg; simp at h; omega)) <| ok_r <| ok_r <| ok_r <| okE_nil) fun A => RETN hX A rfl rfl rfl h0 rfl rfl rfl rfl (by unfold oneN; rw [ht]; exact congrArg SV.bool (one_is ws l)) rfl)
  (fun e k he ht => CALL1 [] (rtok_no l e k ht he) A rfl rfl rfl rfl rfl rfl rfl fun A => N hX 13 A rfl rfl fun A => have A := sy_sayD A 13 (.ff) rfl (fun _ => congrArg (fun b => some (Value.bool b)) (show (e == 0) = false by simpa using he)); N hX 24 A rfl rfl fun A => RETN hX A rfl rfl rfl h0 rfl rfl rfl rfl (by unfold oneN; rw [ht]; simp [he, oneS, nb]) rfl)
section
variable {i : In} {lb : List UInt8}
theorem sndO_of (h : Old.rightR (toO i) 0 1 = 0) : Old.soundB (toO i) = true := by
  unfold Old.rightR at h
  cases hs : (Old.insEq (toO i) (Old.plainF (toO i)) && Old.soundB (toO i))
  · rw [hs, if_neg Bool.false_ne_true] at h; exact absurd h (by decide)
  · exact (Bool.and_eq_true _ _ ▸ hs).2
theorem rightO_fn (h : Old.rightR (toO i) 0 1 = 0) (h3 : i.op = 3) : 0 ≤ i.fn ∧ i.fn < 6 := by
  have := sndO_of h
  set_option simprocs true in simp [Old.soundB, toO, h3] at this
  omega
theorem accO_loc (h : Old.accB (toO i) = true) : 0 ≤ i.loc ∧ i.loc < 3 := by
  unfold Old.accB at h
  simp only [Bool.and_eq_true, decide_eq_true_eq] at h
  exact ⟨h.1.1.1, h.1.1.2⟩
theorem rightO_loc (h : Old.rightR (toO i) 0 1 = 0) (h1 : i.op ≠ 1) (h2 : i.op ≠ 2) (h3 : i.op ≠ 3) (h9 : i.op ≠ 9) (h7 : i.op ≠ 7) (h8 : i.op ≠ 8) : 0 ≤ i.loc ∧ i.loc < 3 := by
  have hs := sndO_of h
  apply accO_loc
  generalize ha : Old.accB (toO i) = ab at *
  have e : (toO i).op = i.op := rfl
  unfold Old.soundB at hs
  rw [ha, e] at hs
  by_cases h4 : i.op = 4
  · set_option simprocs true in simp [h4] at hs
    exact hs.1.2
  · by_cases h5 : i.op = 5
    · set_option simprocs true in simp [h5] at hs
      exact hs.2
    · by_cases h6 : i.op = 6
      · set_option simprocs true in simp [h6] at hs
        exact hs.1.2
      · set_option simprocs true in simp [h1, h2, h3, h4, h5, h6, h7, h8, h9] at hs
theorem prR_is2 (i : In) (lb : List UInt8) : Old.prR (toO i) lb = if i.op = 9 then (if Old.rightR (toO ({ i with to_ := 1 } : In)) 0 1 = 0 then (if Old.txtT (toO i) lb = [] then ([], 36) else if oneN lb = true then (Old.txtT (toO i) lb, 0) else ([], 37)) else ([], 34)) else (if Old.rightR (toO i) 0 1 = 0 then (if Old.txtT (toO i) lb = [] then ([], 36) else (Old.txtT (toO i) lb, 0)) else ([], 34)) := by
  unfold Old.prR
  have e : (eqL (Old.txtT (toO i) lb) [] = true) = (Old.txtT (toO i) lb = []) := propext ⟨eqL_eq, fun h => by rw [h]; exact eqL_same _⟩
  rw [one_o]
  simp only [beq_iff_eq, e]
  rfl
end
theorem rprint_ (i : In) (lb : List UInt8) (ho : -9223372036854775808 ≤ i.off ∧ i.off ≤ 9223372036854775807) (hm : -9223372036854775808 ≤ i.imm ∧ i.imm ≤ 9223372036854775807) (hb : lb.length ≤ 100000) : Fn Tryz.prog 14 [.int .i64 1, .agg (inQ9 i), .str lb] [] (Rt (.tup [.str ((Old.prR (toO i) lb).1), .int .i64 ((Old.prR (toO i) lb).2)]) []) :=
 enterM (n := 33) (by kernel_rfl) Tryz.func14 rfl rfl rfl fun G w a h0 A => N hX 22 A rfl rfl fun A => forkE 13 A rfl
  (fun h1 A => N hX 10 A rfl rfl fun A => CALL1 [] (fn_asX (rright_ ({ i with to_ := 1 } : In) 0 1) (as_int (rright_o _ _ _))) A rfl rfl rfl rfl rfl rfl rfl fun A => N hX 3 A rfl rfl fun A => forkN 17 A rfl
   (fun h2 A => N hX 8 A rfl rfl fun A => RETN hX A rfl rfl rfl h0 rfl rfl rfl rfl (by rw [prR_is2, if_pos h1, if_neg h2]; rfl) rfl)
   (fun h2 A => N hX 8 A rfl rfl fun A => CALL1 [] (rtxt_x i lb (fun z => by omega) (fun _ _ _ z _ _ => absurd h1 z) ho hm hb) A rfl rfl rfl rfl rfl rfl rfl fun A => N hX 10 A rfl rfl fun A => forkE 23 A rfl
    (fun h3 A => N hX 8 A rfl rfl fun A => RETN hX A rfl rfl rfl h0 rfl rfl rfl rfl (by rw [prR_is2, if_pos h1, if_pos h2, if_pos h3]; rfl) rfl)
    (fun h3 A => N hX 10 A rfl rfl fun A => forkE 27 A rfl
     (fun h4 A => N hX 1 A rfl rfl fun A => CALL1 [] (rone_ lb) A rfl rfl rfl rfl rfl rfl rfl fun A => N hX 4 A rfl rfl fun A => fork 31 A rfl
      (fun h5 A => N hX 8 A rfl rfl fun A => RETN hX A rfl rfl rfl h0 rfl rfl rfl rfl (by rw [prR_is2, if_pos h1, if_pos h2, if_neg h3, if_neg (by have z := h5; revert z; cases oneN lb <;> decide)]; rfl) rfl)
      (fun h5 A => N hX 11 A rfl rfl fun A => RETN hX A rfl rfl rfl h0 rfl rfl rfl rfl (by rw [prR_is2, if_pos h1, if_pos h2, if_neg h3, if_pos (by have z := h5; revert z; cases oneN lb <;> decide)]; rfl) rfl))
     (fun h4 A => N hX 17 A rfl rfl fun A => RETN hX A rfl rfl rfl h0 rfl rfl rfl rfl (absurd h1 h4) rfl))))
  (fun h1 A => N hX 7 A rfl rfl fun A => CALL1 [] (fn_asX (rright_ i 0 1) (as_int (rright_o _ _ _))) A rfl rfl rfl rfl rfl rfl rfl fun A => N hX 3 A rfl rfl fun A => forkN 17 A rfl
   (fun h6 A => N hX 8 A rfl rfl fun A => RETN hX A rfl rfl rfl h0 rfl rfl rfl rfl (by rw [prR_is2, if_neg h1, if_neg h6]; rfl) rfl)
   (fun h6 A => N hX 8 A rfl rfl fun A => CALL1 [] (rtxt_x i lb (rightO_fn h6) (rightO_loc h6) ho hm hb) A rfl rfl rfl rfl rfl rfl rfl fun A => N hX 10 A rfl rfl fun A => forkE 23 A rfl
    (fun h7 A => N hX 8 A rfl rfl fun A => RETN hX A rfl rfl rfl h0 rfl rfl rfl rfl (by rw [prR_is2, if_neg h1, if_pos h6, if_pos h7]; rfl) rfl)
    (fun h7 A => N hX 10 A rfl rfl fun A => forkE 27 A rfl
     (fun h8 A => N hX 1 A rfl rfl fun A => CALL1 [] (rone_ lb) A rfl rfl rfl rfl rfl rfl rfl fun A => N hX 4 A rfl rfl fun A => fork 31 A rfl
      (fun h9 A => N hX 8 A rfl rfl fun A => RETN hX A rfl rfl rfl h0 rfl rfl rfl rfl (absurd h8 h1) rfl)
      (fun h9 A => N hX 11 A rfl rfl fun A => RETN hX A rfl rfl rfl h0 rfl rfl rfl rfl (absurd h8 h1) rfl))
     (fun h8 A => N hX 17 A rfl rfl fun A => RETN hX A rfl rfl rfl h0 rfl rfl rfl rfl (by rw [prR_is2, if_neg h1, if_pos h6, if_neg h7]; rfl) rfl))))
theorem xparse_ (ws : List Tk) (d : Nat) (hn : ws.length ≤ 1000000) (hw : WsOK ws) (os : List (Nat × Obj)) (hM : ∀ w ks, Gl os w ks → ∃ m, w.cell? ⟨0, 0, none⟩ = some (.int .i64 m)) : FnI (Gl os) Tryz.prog 11 [.sl 0 ws.length d] [some (.lst 4 ws.length (fun zz => tkc (ws.getD zz tok0)))] (Rt (.tup [.agg (inQ9 (parI x86G ws x86C)), .str (parT x86G ws x86C), .int .i64 (parE x86G ws x86C), .int .i64 (parA x86G ws x86C)]) [some (.lst 4 ws.length (fun zz => tkc (ws.getD zz tok0)))]) :=
 enterI (n := 13) (by kernel_rfl) Tryz.func11 rfl rfl rfl fun G w a h0 hI A => N hX 10 A rfl rfl fun A => CALLAGG (t := 6) (l := [.str [82, 65, 88], .str [82, 66, 88], .str [82, 67, 88], .str [82, 68, 88], .str [82, 83, 73], .str [82, 68, 73], .str [82, 56], .str [82, 57], .str [66], .str [87], .str [76], .str [81], .str [36], .str [], .str [], .str []]) (F := fun (L : List Rw) zz => rwc (L.getD zz Rw.z)) (R := fun L b w w' => L.map tm = x86T ∧ RowsIn w.heap.size L w' [b]) xlang_ A rfl rfl fun L b cp a1 w1 G1 hR hlo hkk A => have hl20 : L.length = 20 := (by have q := congrArg List.length hR.1; rw [List.length_map] at q; exact q.trans (by decide +kernel)); have hRI := rows_keys hR.2 hkk; have B0 := A; have A := A.base; have A := A.rowAs 2 L.length (fun zz => rwc (L.getD zz Rw.z)) rfl hl20 (fun _ _ => rfl) (fun z => ⟨_, rfl, rfl⟩); have A := A.say 6 (.agg [.str [82, 65, 88], .str [82, 66, 88], .str [82, 67, 88], .str [82, 68, 88], .str [82, 83, 73], .str [82, 68, 73], .str [82, 56], .str [82, 57], .str [66], .str [87], .str [76], .str [81], .str [36], .str [], .str [], .str [], .sl 2 L.length 0]) rfl (by rw [hl20] <;> rfl); have A := A.freeze 2 rfl; have hTb := RowsIn.ok.now A hRI; have B := B0.trans A; have A := A.base; have hI2 : PrI os L _ _ := ⟨fun r hr => (hTb r hr).1, Gl.ok.now B hI⟩; N hX 1 A rfl rfl fun A => CALLI [2, 0] PrI.ok hI2 (lparse_ x86G L 0 ws d hn hw os hM (x86_pa hR.1)) A rfl rfl rfl rfl rfl rfl rfl fun A => N hX 11 A rfl rfl fun A => have e := x86_par hR.1 ws; RETN hX (B.trans A) rfl rfl rfl h0 rfl rfl rfl rfl (by rw [← e.1, ← e.2.1, ← e.2.2.1, ← e.2.2.2] <;> rfl) rfl
end Go.Proofs.YtedlaclfhgneeaaGreatDoor
namespace Go.Proofs.YtedlaclfhgneeaaGreatDoor
open Go.RowKit
set_option linter.unusedVariables false
set_option linter.unusedSimpArgs false
set_option linter.unusedSectionVars false
section
variable {P : Program} {n : Nat} {ks : List Nat} {G0 : Gr} {w0 : World} {T : List (Nat × SV)} {H : Hp} {G : Gr} {a : Act} {w w' : World} {Q : Exit → Act → World → Prop} {K : List Fr} {ops : Array Oper} {o : Oper} {rest : List Oper} {fuel i : Nat} {listed : Array Bool}
theorem any_in {id : Nat} (f : Nat) (hmo : P.follows .mixedOrders = true) (hf : ops.size = f) (A : Sy n T H ks G0 w0 G a w) (h : ∀ {w}, Sy n T H ks G0 w0 G a w → wpAny P .any ops (wpK P Q K) f (Array.replicate f false) a w) : Goal P Q K (.code (.region id ops true)) a w := by
  subst hf
  refine wp_region_any hmo ?_
  have hB1 : Ms H ks G0 w0 G w.drew := A.ms.grow (Grow.refl w).drew
  exact h (hB1.sy A.size A.defers A.get)
theorem any_at {rs : List Nat} (hr : Region.ready .any ops listed = rs) (hne : rs ≠ []) (h : ∀ i ∈ rs, wpOp P ops Q i (wpAny P .any ops Q fuel (listed.setIfInBounds i true)) a w) : wpAny P .any ops Q (fuel + 1) listed a w := by
  unfold wpAny
  rw [hr]
  exact ⟨fun e => absurd e hne, h⟩
theorem any_end (hr : Region.ready .any ops listed = []) (h : Goal P Q K .norm a w) : wpAny P .any ops (wpK P Q K) fuel listed a w := by
  cases fuel with
  | zero => exact ⟨hr, h⟩
  | succ f =>
    unfold wpAny
    rw [hr]
    exact ⟨fun _ => h, fun i hi => by cases hi⟩
theorem any_does (ho : ops[i]? = some o) (h : Does P ops o a w fun v w' => wpAny P .any ops Q fuel (listed.setIfInBounds i true) (a.put o.dst v) w') : wpOp P ops Q i (wpAny P .any ops Q fuel (listed.setIfInBounds i true)) a w := by
  unfold wpOp
  rcases h with ⟨hw, h⟩ | ⟨hw, h⟩
  · simp only [ho, hw, if_true]
    refine .inl (Oper.wp_mono (fun a2 w2 h => ?_) (h Q))
    obtain ⟨v, rfl, h1⟩ := h
    exact h1
  · simp only [ho, hw, Bool.false_eq_true, if_false]
    exact h
theorem any_eff {x : SV} {H' : Hp} (ho : ops[i]? = some o) (A : Sy n T H ks G0 w0 G a w) (hd : fitsD n o.dst = true) (h : EffOK P n ops ks G0 w0 T H o x H') (hk : ∀ {G a w}, Sy n (extS T o.dst x) H' ks G0 w0 G a w → wpAny P .any ops Q fuel (listed.setIfInBounds i true) a w) : wpOp P ops Q i (wpAny P .any ops Q fuel (listed.setIfInBounds i true)) a w := by
  refine any_does ho ?_
  rcases h G a w A with ⟨hw, h⟩ | ⟨hw, F, h1, h2⟩
  · refine .inl ⟨hw, fun Q' => ?_⟩
    refine Oper.wp_mono (fun a' w' hh => ?_) (h Q')
    obtain ⟨v, rfl, F, h1, h2⟩ := hh
    exact ⟨v, rfl, hk (Sy.put (h2.sy A.size A.defers fun t y hy => den_mono F y (A.get t y hy)) hd h1)⟩
  · exact .inr ⟨hw, hk (Sy.put (h2.sy A.size A.defers fun t y hy => den_mono F y (A.get t y hy)) hd h1)⟩
theorem does_R {f : Nat} {J : SV → World → World → Prop} {K : Value → World → Prop} (hf : FnR P f [] [] J) (A : Sy n T H ks G0 w0 G a w) (h1 : callS n ops T o = some (f, []))
    (hk : ∀ x v w', J x w w' → (∀ k, (keys H G).contains k = true → k < w.heap.size) → Sy n (extS T o.dst x) H ks G0 w0 G (a.put o.dst v) w' → K v w') : Does P ops o a w K := by
  obtain ⟨hd, us, hu, hdo⟩ := callS_do (P := P) (ops := ops) A h1 hf.1
  have hu' : us = [] := by cases hu; rfl
  subst hu'
  have hM : Mem [] [] w := ⟨rfl, fun i e h => by simp at h, fun i j e f L M _ h => by simp at h⟩
  refine hdo (hf.2 [] w [] hM rfl) fun e w' he => ?_
  obtain ⟨x, v, e1, rfl, hg, hJ⟩ := he
  refine ⟨v, rfl, hk x v _ hJ (fun k hz => ?_) (Sy.put ⟨A.size, A.defers, A.get, ⟨A.mem.len, fun i e hi => (A.mem.ent i e hi).mix hg.mix (fun _ _ _ => rfl), A.mem.sep⟩, A.pre, A.own, A.mix.grow hg⟩ hd (by simpa using den_mono G x e1))⟩
  obtain ⟨i, e, L, q1, q2, q3, q4⟩ := mem_keys.1 hz
  have := A.mem.ent i e q1
  rw [q3] at this
  rw [← q4]; exact EntOK.lt this (mut_full q2)
theorem any_agg {β : Type} {e s m t f : Nat} {l : List SV} {F : β → Nat → List SV} {R : β → Nat → World → World → Prop} (ho : ops[i]? = some o) (hf : FnR P f [] [] (fun x w w' => ∃ (L : β) (b cp : Nat), x = .agg (l ++ [.sla (some ⟨b, 0, none⟩) m cp]) ∧ R L b w w' ∧ w.heap.size ≤ b ∧ Given e s m (F L) b cp w')) (A : Sy n T H ks G0 w0 G a w) (hd : o.dst = some t) (h1 : callS n ops T o = some (f, []))
    (k : ∀ L b cp a' w' G', R L b w w' → w.heap.size ≤ b → (∀ k, (keys (H ++ [some (.row e s m 0 (F L))]) G').contains k = true → k < w.heap.size ∨ k = b) → Sy n ((t, .agg (l ++ [.sl H.length m 0])) :: extS T o.dst (.agg (l ++ [.sla (some ⟨b, 0, none⟩) m cp]))) (H ++ [some (.row e s m 0 (F L))]) ks G0 w0 G' a' w' → wpAny P .any ops Q fuel (listed.setIfInBounds i true) a' w') : wpOp P ops Q i (wpAny P .any ops Q fuel (listed.setIfInBounds i true)) a w := by
  refine any_does ho (does_R hf A h1 fun x v w' hJ hk A' => ?_)
  obtain ⟨L, b, cp, rfl, hR, hlo, hg⟩ := hJ
  have hl : look (extS T o.dst (.agg (l ++ [.sla (some ⟨b, 0, none⟩) m cp]))) t = some (.agg (l ++ [.sla (some ⟨b, 0, none⟩) m cp])) := by rw [hd]; simp [extS, look, Nat.beq_refl]
  have hlen := A'.mem.len
  have A2 := A'.takeRowG t (y := .agg (l ++ [.sl H.length m 0])) hg (fun i e L q1 q2 q3 => by
    have := A.mem.ent i e q1
    rw [q2] at this
    have := EntOK.lt this q3
    omega) (Nat.le_trans A.mix.size hlo) hl (by
      unfold den
      rw [denL_last (y := .sla (some ⟨b, 0, none⟩) m cp)]
      unfold den
      rw [List.getElem?_append_right (by omega), hlen]
      simp [rm])
  refine k L b cp _ w' _ hR hlo (fun q hq => ?_) A2
  obtain ⟨i, e', L', q1, q2, q3, q4⟩ := mem_keys.1 hq
  by_cases hi : i < H.length
  · rw [List.getElem?_append_left hi] at q1
    rw [List.getElem?_append_left (by omega)] at q3
    exact .inl (hk q (mem_keys.2 ⟨i, e', L', q1, q2, q3, q4⟩))
  · have hi2 : i = H.length := by
      have := (List.getElem?_eq_some_iff.1 q1).1
      simp at this; omega
    subst hi2
    rw [List.getElem?_append_right (by omega), hlen] at q3
    simp at q3
    subst q3
    exact .inr q4.symm
end
end Go.Proofs.YtedlaclfhgneeaaGreatDoor
namespace Go.Proofs.YtedlaclfhgneeaaGreatDoor
open Go.RowKit
set_option linter.unusedVariables false
set_option linter.unusedSimpArgs false
set_option maxRecDepth 100000
set_option maxHeartbeats 2000000
set_option simprocs false
section
variable {g : Lg} {L : List Rw} {i : In} {lb : List UInt8}
theorem cn_find : ∀ (L : List Rw), (L.map cn).find? (rowP i) = (L.find? (rowP i)).map cn
  | [] => rfl
  | r :: L => by
    rw [List.map_cons, List.find?_cons, List.find?_cons]
    have e : rowP i (cn r) = rowP i r := rfl
    rw [e]
    split
    · rfl
    · exact cn_find L
theorem cn_rowR : rowR (L.map cn) i = cn (rowR L i) := by
  unfold rowR; rw [cn_find]; cases L.find? (rowP i) <;> rfl
theorem cn_rowQ : rowQ (L.map cn) i = rowQ L i := by
  unfold rowQ; rw [cn_find]; cases L.find? (rowP i) <;> rfl
theorem cn_prP : prP g (L.map cn) i lb = prP g L i lb := by
  unfold prP; rw [cn_rowR, cn_rowQ]; rfl
theorem x86_pr (h : L.map tm = x86T) : prP x86G L i lb = prP x86G x86C i lb := by
  have := cn_prP (g := x86G) (L := L) (i := i) (lb := lb)
  rw [cn_tm h] at this
  exact this.symm
end
theorem xprint_ (i : In) (lb : List UInt8) (os : List (Nat × Obj)) (hM : ∀ w ks, Gl os w ks → ∃ m, w.cell? ⟨0, 0, none⟩ = some (.int .i64 m)) (hT : ∀ w ks, Gl os w ks → Lib.TabIs Tryz.prog w "internal/strconv.uint64pow10" .u64 Lib.pow10Tab) (hE : ∀ w ks, Gl os w ks → ∃ ev, w.cell? ⟨1, 0, none⟩ = some ev ∧ (ev = .nilIface ∨ ∃ te pe, ev = .iface te pe)) (hp : ∀ L : List Rw, L.map tm = x86T → PrOK x86G L i lb) : FnI (Gl os) Tryz.prog 13 [.agg (inQ9 i), .str lb] [] (Rt (.tup [.str ((prP x86G x86C i lb).1), .int .i64 ((prP x86G x86C i lb).2)]) []) :=
 enterI (n := 12) (by kernel_rfl) Tryz.func13 rfl rfl rfl fun G w a h0 hI A => N hX 8 A rfl rfl fun A => any_in 8 hmo rfl A fun A => any_at (rs := [0, 1, 2]) (by kernel_rfl) (by decide) (List.forall_mem_cons.2 ⟨any_agg (t := 6) (l := [.str [82, 65, 88], .str [82, 66, 88], .str [82, 67, 88], .str [82, 68, 88], .str [82, 83, 73], .str [82, 68, 73], .str [82, 56], .str [82, 57], .str [66], .str [87], .str [76], .str [81], .str [36], .str [], .str [], .str []]) (F := fun (L : List Rw) zz => rwc (L.getD zz Rw.z)) (R := fun L b w w' => L.map tm = x86T ∧ RowsIn w.heap.size L w' [b]) rfl xlang_ A rfl rfl fun L b cp a1 w1 G1 hR hlo hkk A => have hl20 : L.length = 20 := (by have q := congrArg List.length hR.1; rw [List.length_map] at q; exact q.trans (by decide +kernel)); have hRI := rows_keys hR.2 hkk; have B0 := A; have A := A.base; have A := A.rowAs 1 L.length (fun zz => rwc (L.getD zz Rw.z)) rfl hl20 (fun _ _ => rfl) (fun z => ⟨_, rfl, rfl⟩); have A := A.say 6 (.agg [.str [82, 65, 88], .str [82, 66, 88], .str [82, 67, 88], .str [82, 68, 88], .str [82, 83, 73], .str [82, 68, 73], .str [82, 56], .str [82, 57], .str [66], .str [87], .str [76], .str [81], .str [36], .str [], .str [], .str [], .sl 1 L.length 0]) rfl (by rw [hl20] <;> rfl); have A := A.freeze 1 rfl; have hTb := RowsIn.ok.now A hRI; have B := B0.trans A; have A := A.base; have hI2 : PrI os L _ _ := ⟨fun r hr => (hTb r hr).1, Gl.ok.now B hI⟩; any_at (rs := [1, 2]) (by kernel_rfl) (by decide) (List.forall_mem_cons.2 ⟨any_eff (x := .agg (inQ9 i)) (H' := [some (.blk (inQ9 i)), some (.lst 20 L.length (fun zz => rwc (L.getD zz Rw.z)))]) rfl A rfl (eff_auto (X := ⟨_, true⟩) (out := .val _ _) hX rfl rfl) fun A => any_at (rs := [2]) (by kernel_rfl) (by decide) (List.forall_mem_cons.2 ⟨any_eff (x := .str lb) (H' := [some (.blk (inQ9 i)), some (.lst 20 L.length (fun zz => rwc (L.getD zz Rw.z)))]) rfl A rfl (eff_auto (X := ⟨_, true⟩) (out := .val _ _) hX rfl rfl) fun A => any_at (rs := [3]) (by kernel_rfl) (by decide) (List.forall_mem_cons.2 ⟨any_eff (x := .tup [.str ((prP x86G L i lb).1), .int .i64 ((prP x86G L i lb).2)]) (H' := [some (.blk (inQ9 i)), some (.lst 20 L.length (fun zz => rwc (L.getD zz Rw.z)))]) rfl A rfl (callIE [1] PrI.ok hI2 (lprint_ x86G L 0 i lb os hM hT hE (hp L hR.1)) rfl rfl rfl rfl rfl rfl rfl) fun A => any_at (rs := [4, 5]) (by kernel_rfl) (by decide) (List.forall_mem_cons.2 ⟨any_eff (x := .str ((prP x86G L i lb).1)) (H' := [some (.blk (inQ9 i)), some (.lst 20 L.length (fun zz => rwc (L.getD zz Rw.z)))]) rfl A rfl (eff_auto (X := ⟨_, true⟩) (out := .val _ _) hX rfl rfl) fun A => any_at (rs := [5]) (by kernel_rfl) (by decide) (List.forall_mem_cons.2 ⟨any_eff (x := .int .i64 ((prP x86G L i lb).2)) (H' := [some (.blk (inQ9 i)), some (.lst 20 L.length (fun zz => rwc (L.getD zz Rw.z)))]) rfl A rfl (eff_auto (X := ⟨_, true⟩) (out := .val _ _) hX rfl rfl) fun A => any_at (rs := [6]) (by kernel_rfl) (by decide) (List.forall_mem_cons.2 ⟨any_eff (x := .str ((prP x86G L i lb).1)) (H' := [some (.blk (inQ9 i)), some (.lst 20 L.length (fun zz => rwc (L.getD zz Rw.z)))]) rfl A rfl (eff_auto (X := ⟨_, true⟩) (out := .val _ _) hX rfl rfl) fun A => any_at (rs := [7]) (by kernel_rfl) (by decide) (List.forall_mem_cons.2 ⟨any_eff (x := .int .i64 ((prP x86G L i lb).2)) (H' := [some (.blk (inQ9 i)), some (.lst 20 L.length (fun zz => rwc (L.getD zz Rw.z)))]) rfl A rfl (eff_auto (X := ⟨_, true⟩) (out := .val _ _) hX rfl rfl) fun A => any_end (by kernel_rfl) (N hX 2 A rfl rfl fun A => RETN hX (B.trans A) rfl rfl rfl h0 rfl rfl rfl rfl (by rw [← x86_pr hR.1] <;> rfl) rfl),
         (List.forall_mem_nil _)⟩),
        (List.forall_mem_nil _)⟩),
       (List.forall_mem_nil _)⟩),
      (List.forall_mem_cons.2 ⟨any_eff (x := .int .i64 ((prP x86G L i lb).2)) (H' := [some (.blk (inQ9 i)), some (.lst 20 L.length (fun zz => rwc (L.getD zz Rw.z)))]) rfl A rfl (eff_auto (X := ⟨_, true⟩) (out := .val _ _) hX rfl rfl) fun A => any_at (rs := [4]) (by kernel_rfl) (by decide) (List.forall_mem_cons.2 ⟨any_eff (x := .str ((prP x86G L i lb).1)) (H' := [some (.blk (inQ9 i)), some (.lst 20 L.length (fun zz => rwc (L.getD zz Rw.z)))]) rfl A rfl (eff_auto (X := ⟨_, true⟩) (out := .val _ _) hX rfl rfl) fun A => any_at (rs := [6]) (by kernel_rfl) (by decide) (List.forall_mem_cons.2 ⟨any_eff (x := .str ((prP x86G L i lb).1)) (H' := [some (.blk (inQ9 i)), some (.lst 20 L.length (fun zz => rwc (L.getD zz Rw.z)))]) rfl A rfl (eff_auto (X := ⟨_, true⟩) (out := .val _ _) hX rfl rfl) fun A => any_at (rs := [7]) (by kernel_rfl) (by decide) (List.forall_mem_cons.2 ⟨any_eff (x := .int .i64 ((prP x86G L i lb).2)) (H' := [some (.blk (inQ9 i)), some (.lst 20 L.length (fun zz => rwc (L.getD zz Rw.z)))]) rfl A rfl (eff_auto (X := ⟨_, true⟩) (out := .val _ _) hX rfl rfl) fun A => any_end (by kernel_rfl) (N hX 2 A rfl rfl fun A => RETN hX (B.trans A) rfl rfl rfl h0 rfl rfl rfl rfl (by rw [← x86_pr hR.1] <;> rfl) rfl),
         (List.forall_mem_nil _)⟩),
        (List.forall_mem_nil _)⟩),
       (List.forall_mem_nil _)⟩),
      (List.forall_mem_nil _)⟩)⟩),
     (List.forall_mem_nil _)⟩),
    (List.forall_mem_nil _)⟩),
   (List.forall_mem_cons.2 ⟨any_eff (x := .str lb) (H' := [some (.blk (inQ9 i)), some (.lst 20 L.length (fun zz => rwc (L.getD zz Rw.z)))]) rfl A rfl (eff_auto (X := ⟨_, true⟩) (out := .val _ _) hX rfl rfl) fun A => any_at (rs := [1]) (by kernel_rfl) (by decide) (List.forall_mem_cons.2 ⟨any_eff (x := .agg (inQ9 i)) (H' := [some (.blk (inQ9 i)), some (.lst 20 L.length (fun zz => rwc (L.getD zz Rw.z)))]) rfl A rfl (eff_auto (X := ⟨_, true⟩) (out := .val _ _) hX rfl rfl) fun A => any_at (rs := [3]) (by kernel_rfl) (by decide) (List.forall_mem_cons.2 ⟨any_eff (x := .tup [.str ((prP x86G L i lb).1), .int .i64 ((prP x86G L i lb).2)]) (H' := [some (.blk (inQ9 i)), some (.lst 20 L.length (fun zz => rwc (L.getD zz Rw.z)))]) rfl A rfl (callIE [1] PrI.ok hI2 (lprint_ x86G L 0 i lb os hM hT hE (hp L hR.1)) rfl rfl rfl rfl rfl rfl rfl) fun A => any_at (rs := [4, 5]) (by kernel_rfl) (by decide) (List.forall_mem_cons.2 ⟨any_eff (x := .str ((prP x86G L i lb).1)) (H' := [some (.blk (inQ9 i)), some (.lst 20 L.length (fun zz => rwc (L.getD zz Rw.z)))]) rfl A rfl (eff_auto (X := ⟨_, true⟩) (out := .val _ _) hX rfl rfl) fun A => any_at (rs := [5]) (by kernel_rfl) (by decide) (List.forall_mem_cons.2 ⟨any_eff (x := .int .i64 ((prP x86G L i lb).2)) (H' := [some (.blk (inQ9 i)), some (.lst 20 L.length (fun zz => rwc (L.getD zz Rw.z)))]) rfl A rfl (eff_auto (X := ⟨_, true⟩) (out := .val _ _) hX rfl rfl) fun A => any_at (rs := [6]) (by kernel_rfl) (by decide) (List.forall_mem_cons.2 ⟨any_eff (x := .str ((prP x86G L i lb).1)) (H' := [some (.blk (inQ9 i)), some (.lst 20 L.length (fun zz => rwc (L.getD zz Rw.z)))]) rfl A rfl (eff_auto (X := ⟨_, true⟩) (out := .val _ _) hX rfl rfl) fun A => any_at (rs := [7]) (by kernel_rfl) (by decide) (List.forall_mem_cons.2 ⟨any_eff (x := .int .i64 ((prP x86G L i lb).2)) (H' := [some (.blk (inQ9 i)), some (.lst 20 L.length (fun zz => rwc (L.getD zz Rw.z)))]) rfl A rfl (eff_auto (X := ⟨_, true⟩) (out := .val _ _) hX rfl rfl) fun A => any_end (by kernel_rfl) (N hX 2 A rfl rfl fun A => RETN hX (B.trans A) rfl rfl rfl h0 rfl rfl rfl rfl (by rw [← x86_pr hR.1] <;> rfl) rfl),
         (List.forall_mem_nil _)⟩),
        (List.forall_mem_nil _)⟩),
       (List.forall_mem_nil _)⟩),
      (List.forall_mem_cons.2 ⟨any_eff (x := .int .i64 ((prP x86G L i lb).2)) (H' := [some (.blk (inQ9 i)), some (.lst 20 L.length (fun zz => rwc (L.getD zz Rw.z)))]) rfl A rfl (eff_auto (X := ⟨_, true⟩) (out := .val _ _) hX rfl rfl) fun A => any_at (rs := [4]) (by kernel_rfl) (by decide) (List.forall_mem_cons.2 ⟨any_eff (x := .str ((prP x86G L i lb).1)) (H' := [some (.blk (inQ9 i)), some (.lst 20 L.length (fun zz => rwc (L.getD zz Rw.z)))]) rfl A rfl (eff_auto (X := ⟨_, true⟩) (out := .val _ _) hX rfl rfl) fun A => any_at (rs := [6]) (by kernel_rfl) (by decide) (List.forall_mem_cons.2 ⟨any_eff (x := .str ((prP x86G L i lb).1)) (H' := [some (.blk (inQ9 i)), some (.lst 20 L.length (fun zz => rwc (L.getD zz Rw.z)))]) rfl A rfl (eff_auto (X := ⟨_, true⟩) (out := .val _ _) hX rfl rfl) fun A => any_at (rs := [7]) (by kernel_rfl) (by decide) (List.forall_mem_cons.2 ⟨any_eff (x := .int .i64 ((prP x86G L i lb).2)) (H' := [some (.blk (inQ9 i)), some (.lst 20 L.length (fun zz => rwc (L.getD zz Rw.z)))]) rfl A rfl (eff_auto (X := ⟨_, true⟩) (out := .val _ _) hX rfl rfl) fun A => any_end (by kernel_rfl) (N hX 2 A rfl rfl fun A => RETN hX (B.trans A) rfl rfl rfl h0 rfl rfl rfl rfl (by rw [← x86_pr hR.1] <;> rfl) rfl),
         (List.forall_mem_nil _)⟩),
        (List.forall_mem_nil _)⟩),
       (List.forall_mem_nil _)⟩),
      (List.forall_mem_nil _)⟩)⟩),
     (List.forall_mem_nil _)⟩),
    (List.forall_mem_nil _)⟩),
   (List.forall_mem_nil _)⟩)⟩),
  (List.forall_mem_cons.2 ⟨any_eff (x := .agg (inQ9 i)) (H' := [some (.blk (inQ9 i))]) rfl A rfl (eff_auto (X := ⟨_, true⟩) (out := .val _ _) hX rfl rfl) fun A => any_at (rs := [0, 2]) (by kernel_rfl) (by decide) (List.forall_mem_cons.2 ⟨any_agg (t := 6) (l := [.str [82, 65, 88], .str [82, 66, 88], .str [82, 67, 88], .str [82, 68, 88], .str [82, 83, 73], .str [82, 68, 73], .str [82, 56], .str [82, 57], .str [66], .str [87], .str [76], .str [81], .str [36], .str [], .str [], .str []]) (F := fun (L : List Rw) zz => rwc (L.getD zz Rw.z)) (R := fun L b w w' => L.map tm = x86T ∧ RowsIn w.heap.size L w' [b]) rfl xlang_ A rfl rfl fun L b cp a1 w1 G1 hR hlo hkk A => have hl20 : L.length = 20 := (by have q := congrArg List.length hR.1; rw [List.length_map] at q; exact q.trans (by decide +kernel)); have hRI := rows_keys hR.2 hkk; have B0 := A; have A := A.base; have A := A.rowAs 1 L.length (fun zz => rwc (L.getD zz Rw.z)) rfl hl20 (fun _ _ => rfl) (fun z => ⟨_, rfl, rfl⟩); have A := A.say 6 (.agg [.str [82, 65, 88], .str [82, 66, 88], .str [82, 67, 88], .str [82, 68, 88], .str [82, 83, 73], .str [82, 68, 73], .str [82, 56], .str [82, 57], .str [66], .str [87], .str [76], .str [81], .str [36], .str [], .str [], .str [], .sl 1 L.length 0]) rfl (by rw [hl20] <;> rfl); have A := A.freeze 1 rfl; have hTb := RowsIn.ok.now A hRI; have B := B0.trans A; have A := A.base; have hI2 : PrI os L _ _ := ⟨fun r hr => (hTb r hr).1, Gl.ok.now B hI⟩; any_at (rs := [2]) (by kernel_rfl) (by decide) (List.forall_mem_cons.2 ⟨any_eff (x := .str lb) (H' := [some (.blk (inQ9 i)), some (.lst 20 L.length (fun zz => rwc (L.getD zz Rw.z)))]) rfl A rfl (eff_auto (X := ⟨_, true⟩) (out := .val _ _) hX rfl rfl) fun A => any_at (rs := [3]) (by kernel_rfl) (by decide) (List.forall_mem_cons.2 ⟨any_eff (x := .tup [.str ((prP x86G L i lb).1), .int .i64 ((prP x86G L i lb).2)]) (H' := [some (.blk (inQ9 i)), some (.lst 20 L.length (fun zz => rwc (L.getD zz Rw.z)))]) rfl A rfl (callIE [1] PrI.ok hI2 (lprint_ x86G L 0 i lb os hM hT hE (hp L hR.1)) rfl rfl rfl rfl rfl rfl rfl) fun A => any_at (rs := [4, 5]) (by kernel_rfl) (by decide) (List.forall_mem_cons.2 ⟨any_eff (x := .str ((prP x86G L i lb).1)) (H' := [some (.blk (inQ9 i)), some (.lst 20 L.length (fun zz => rwc (L.getD zz Rw.z)))]) rfl A rfl (eff_auto (X := ⟨_, true⟩) (out := .val _ _) hX rfl rfl) fun A => any_at (rs := [5]) (by kernel_rfl) (by decide) (List.forall_mem_cons.2 ⟨any_eff (x := .int .i64 ((prP x86G L i lb).2)) (H' := [some (.blk (inQ9 i)), some (.lst 20 L.length (fun zz => rwc (L.getD zz Rw.z)))]) rfl A rfl (eff_auto (X := ⟨_, true⟩) (out := .val _ _) hX rfl rfl) fun A => any_at (rs := [6]) (by kernel_rfl) (by decide) (List.forall_mem_cons.2 ⟨any_eff (x := .str ((prP x86G L i lb).1)) (H' := [some (.blk (inQ9 i)), some (.lst 20 L.length (fun zz => rwc (L.getD zz Rw.z)))]) rfl A rfl (eff_auto (X := ⟨_, true⟩) (out := .val _ _) hX rfl rfl) fun A => any_at (rs := [7]) (by kernel_rfl) (by decide) (List.forall_mem_cons.2 ⟨any_eff (x := .int .i64 ((prP x86G L i lb).2)) (H' := [some (.blk (inQ9 i)), some (.lst 20 L.length (fun zz => rwc (L.getD zz Rw.z)))]) rfl A rfl (eff_auto (X := ⟨_, true⟩) (out := .val _ _) hX rfl rfl) fun A => any_end (by kernel_rfl) (N hX 2 A rfl rfl fun A => RETN hX (B.trans A) rfl rfl rfl h0 rfl rfl rfl rfl (by rw [← x86_pr hR.1] <;> rfl) rfl),
         (List.forall_mem_nil _)⟩),
        (List.forall_mem_nil _)⟩),
       (List.forall_mem_nil _)⟩),
      (List.forall_mem_cons.2 ⟨any_eff (x := .int .i64 ((prP x86G L i lb).2)) (H' := [some (.blk (inQ9 i)), some (.lst 20 L.length (fun zz => rwc (L.getD zz Rw.z)))]) rfl A rfl (eff_auto (X := ⟨_, true⟩) (out := .val _ _) hX rfl rfl) fun A => any_at (rs := [4]) (by kernel_rfl) (by decide) (List.forall_mem_cons.2 ⟨any_eff (x := .str ((prP x86G L i lb).1)) (H' := [some (.blk (inQ9 i)), some (.lst 20 L.length (fun zz => rwc (L.getD zz Rw.z)))]) rfl A rfl (eff_auto (X := ⟨_, true⟩) (out := .val _ _) hX rfl rfl) fun A => any_at (rs := [6]) (by kernel_rfl) (by decide) (List.forall_mem_cons.2 ⟨any_eff (x := .str ((prP x86G L i lb).1)) (H' := [some (.blk (inQ9 i)), some (.lst 20 L.length (fun zz => rwc (L.getD zz Rw.z)))]) rfl A rfl (eff_auto (X := ⟨_, true⟩) (out := .val _ _) hX rfl rfl) fun A => any_at (rs := [7]) (by kernel_rfl) (by decide) (List.forall_mem_cons.2 ⟨any_eff (x := .int .i64 ((prP x86G L i lb).2)) (H' := [some (.blk (inQ9 i)), some (.lst 20 L.length (fun zz => rwc (L.getD zz Rw.z)))]) rfl A rfl (eff_auto (X := ⟨_, true⟩) (out := .val _ _) hX rfl rfl) fun A => any_end (by kernel_rfl) (N hX 2 A rfl rfl fun A => RETN hX (B.trans A) rfl rfl rfl h0 rfl rfl rfl rfl (by rw [← x86_pr hR.1] <;> rfl) rfl),
         (List.forall_mem_nil _)⟩),
        (List.forall_mem_nil _)⟩),
       (List.forall_mem_nil _)⟩),
      (List.forall_mem_nil _)⟩)⟩),
     (List.forall_mem_nil _)⟩),
    (List.forall_mem_nil _)⟩),
   (List.forall_mem_cons.2 ⟨any_eff (x := .str lb) (H' := [some (.blk (inQ9 i))]) rfl A rfl (eff_auto (X := ⟨_, true⟩) (out := .val _ _) hX rfl rfl) fun A => any_at (rs := [0]) (by kernel_rfl) (by decide) (List.forall_mem_cons.2 ⟨any_agg (t := 6) (l := [.str [82, 65, 88], .str [82, 66, 88], .str [82, 67, 88], .str [82, 68, 88], .str [82, 83, 73], .str [82, 68, 73], .str [82, 56], .str [82, 57], .str [66], .str [87], .str [76], .str [81], .str [36], .str [], .str [], .str []]) (F := fun (L : List Rw) zz => rwc (L.getD zz Rw.z)) (R := fun L b w w' => L.map tm = x86T ∧ RowsIn w.heap.size L w' [b]) rfl xlang_ A rfl rfl fun L b cp a1 w1 G1 hR hlo hkk A => have hl20 : L.length = 20 := (by have q := congrArg List.length hR.1; rw [List.length_map] at q; exact q.trans (by decide +kernel)); have hRI := rows_keys hR.2 hkk; have B0 := A; have A := A.base; have A := A.rowAs 1 L.length (fun zz => rwc (L.getD zz Rw.z)) rfl hl20 (fun _ _ => rfl) (fun z => ⟨_, rfl, rfl⟩); have A := A.say 6 (.agg [.str [82, 65, 88], .str [82, 66, 88], .str [82, 67, 88], .str [82, 68, 88], .str [82, 83, 73], .str [82, 68, 73], .str [82, 56], .str [82, 57], .str [66], .str [87], .str [76], .str [81], .str [36], .str [], .str [], .str [], .sl 1 L.length 0]) rfl (by rw [hl20] <;> rfl); have A := A.freeze 1 rfl; have hTb := RowsIn.ok.now A hRI; have B := B0.trans A; have A := A.base; have hI2 : PrI os L _ _ := ⟨fun r hr => (hTb r hr).1, Gl.ok.now B hI⟩; any_at (rs := [3]) (by kernel_rfl) (by decide) (List.forall_mem_cons.2 ⟨any_eff (x := .tup [.str ((prP x86G L i lb).1), .int .i64 ((prP x86G L i lb).2)]) (H' := [some (.blk (inQ9 i)), some (.lst 20 L.length (fun zz => rwc (L.getD zz Rw.z)))]) rfl A rfl (callIE [1] PrI.ok hI2 (lprint_ x86G L 0 i lb os hM hT hE (hp L hR.1)) rfl rfl rfl rfl rfl rfl rfl) fun A => any_at (rs := [4, 5]) (by kernel_rfl) (by decide) (List.forall_mem_cons.2 ⟨any_eff (x := .str ((prP x86G L i lb).1)) (H' := [some (.blk (inQ9 i)), some (.lst 20 L.length (fun zz => rwc (L.getD zz Rw.z)))]) rfl A rfl (eff_auto (X := ⟨_, true⟩) (out := .val _ _) hX rfl rfl) fun A => any_at (rs := [5]) (by kernel_rfl) (by decide) (List.forall_mem_cons.2 ⟨any_eff (x := .int .i64 ((prP x86G L i lb).2)) (H' := [some (.blk (inQ9 i)), some (.lst 20 L.length (fun zz => rwc (L.getD zz Rw.z)))]) rfl A rfl (eff_auto (X := ⟨_, true⟩) (out := .val _ _) hX rfl rfl) fun A => any_at (rs := [6]) (by kernel_rfl) (by decide) (List.forall_mem_cons.2 ⟨any_eff (x := .str ((prP x86G L i lb).1)) (H' := [some (.blk (inQ9 i)), some (.lst 20 L.length (fun zz => rwc (L.getD zz Rw.z)))]) rfl A rfl (eff_auto (X := ⟨_, true⟩) (out := .val _ _) hX rfl rfl) fun A => any_at (rs := [7]) (by kernel_rfl) (by decide) (List.forall_mem_cons.2 ⟨any_eff (x := .int .i64 ((prP x86G L i lb).2)) (H' := [some (.blk (inQ9 i)), some (.lst 20 L.length (fun zz => rwc (L.getD zz Rw.z)))]) rfl A rfl (eff_auto (X := ⟨_, true⟩) (out := .val _ _) hX rfl rfl) fun A => any_end (by kernel_rfl) (N hX 2 A rfl rfl fun A => RETN hX (B.trans A) rfl rfl rfl h0 rfl rfl rfl rfl (by rw [← x86_pr hR.1] <;> rfl) rfl),
         (List.forall_mem_nil _)⟩),
        (List.forall_mem_nil _)⟩),
       (List.forall_mem_nil _)⟩),
      (List.forall_mem_cons.2 ⟨any_eff (x := .int .i64 ((prP x86G L i lb).2)) (H' := [some (.blk (inQ9 i)), some (.lst 20 L.length (fun zz => rwc (L.getD zz Rw.z)))]) rfl A rfl (eff_auto (X := ⟨_, true⟩) (out := .val _ _) hX rfl rfl) fun A => any_at (rs := [4]) (by kernel_rfl) (by decide) (List.forall_mem_cons.2 ⟨any_eff (x := .str ((prP x86G L i lb).1)) (H' := [some (.blk (inQ9 i)), some (.lst 20 L.length (fun zz => rwc (L.getD zz Rw.z)))]) rfl A rfl (eff_auto (X := ⟨_, true⟩) (out := .val _ _) hX rfl rfl) fun A => any_at (rs := [6]) (by kernel_rfl) (by decide) (List.forall_mem_cons.2 ⟨any_eff (x := .str ((prP x86G L i lb).1)) (H' := [some (.blk (inQ9 i)), some (.lst 20 L.length (fun zz => rwc (L.getD zz Rw.z)))]) rfl A rfl (eff_auto (X := ⟨_, true⟩) (out := .val _ _) hX rfl rfl) fun A => any_at (rs := [7]) (by kernel_rfl) (by decide) (List.forall_mem_cons.2 ⟨any_eff (x := .int .i64 ((prP x86G L i lb).2)) (H' := [some (.blk (inQ9 i)), some (.lst 20 L.length (fun zz => rwc (L.getD zz Rw.z)))]) rfl A rfl (eff_auto (X := ⟨_, true⟩) (out := .val _ _) hX rfl rfl) fun A => any_end (by kernel_rfl) (N hX 2 A rfl rfl fun A => RETN hX (B.trans A) rfl rfl rfl h0 rfl rfl rfl rfl (by rw [← x86_pr hR.1] <;> rfl) rfl),
         (List.forall_mem_nil _)⟩),
        (List.forall_mem_nil _)⟩),
       (List.forall_mem_nil _)⟩),
      (List.forall_mem_nil _)⟩)⟩),
     (List.forall_mem_nil _)⟩),
    (List.forall_mem_nil _)⟩),
   (List.forall_mem_nil _)⟩)⟩),
  (List.forall_mem_cons.2 ⟨any_eff (x := .str lb) (H' := [some (.blk (inQ9 i))]) rfl A rfl (eff_auto (X := ⟨_, true⟩) (out := .val _ _) hX rfl rfl) fun A => any_at (rs := [0, 1]) (by kernel_rfl) (by decide) (List.forall_mem_cons.2 ⟨any_agg (t := 6) (l := [.str [82, 65, 88], .str [82, 66, 88], .str [82, 67, 88], .str [82, 68, 88], .str [82, 83, 73], .str [82, 68, 73], .str [82, 56], .str [82, 57], .str [66], .str [87], .str [76], .str [81], .str [36], .str [], .str [], .str []]) (F := fun (L : List Rw) zz => rwc (L.getD zz Rw.z)) (R := fun L b w w' => L.map tm = x86T ∧ RowsIn w.heap.size L w' [b]) rfl xlang_ A rfl rfl fun L b cp a1 w1 G1 hR hlo hkk A => have hl20 : L.length = 20 := (by have q := congrArg List.length hR.1; rw [List.length_map] at q; exact q.trans (by decide +kernel)); have hRI := rows_keys hR.2 hkk; have B0 := A; have A := A.base; have A := A.rowAs 1 L.length (fun zz => rwc (L.getD zz Rw.z)) rfl hl20 (fun _ _ => rfl) (fun z => ⟨_, rfl, rfl⟩); have A := A.say 6 (.agg [.str [82, 65, 88], .str [82, 66, 88], .str [82, 67, 88], .str [82, 68, 88], .str [82, 83, 73], .str [82, 68, 73], .str [82, 56], .str [82, 57], .str [66], .str [87], .str [76], .str [81], .str [36], .str [], .str [], .str [], .sl 1 L.length 0]) rfl (by rw [hl20] <;> rfl); have A := A.freeze 1 rfl; have hTb := RowsIn.ok.now A hRI; have B := B0.trans A; have A := A.base; have hI2 : PrI os L _ _ := ⟨fun r hr => (hTb r hr).1, Gl.ok.now B hI⟩; any_at (rs := [1]) (by kernel_rfl) (by decide) (List.forall_mem_cons.2 ⟨any_eff (x := .agg (inQ9 i)) (H' := [some (.blk (inQ9 i)), some (.lst 20 L.length (fun zz => rwc (L.getD zz Rw.z)))]) rfl A rfl (eff_auto (X := ⟨_, true⟩) (out := .val _ _) hX rfl rfl) fun A => any_at (rs := [3]) (by kernel_rfl) (by decide) (List.forall_mem_cons.2 ⟨any_eff (x := .tup [.str ((prP x86G L i lb).1), .int .i64 ((prP x86G L i lb).2)]) (H' := [some (.blk (inQ9 i)), some (.lst 20 L.length (fun zz => rwc (L.getD zz Rw.z)))]) rfl A rfl (callIE [1] PrI.ok hI2 (lprint_ x86G L 0 i lb os hM hT hE (hp L hR.1)) rfl rfl rfl rfl rfl rfl rfl) fun A => any_at (rs := [4, 5]) (by kernel_rfl) (by decide) (List.forall_mem_cons.2 ⟨any_eff (x := .str ((prP x86G L i lb).1)) (H' := [some (.blk (inQ9 i)), some (.lst 20 L.length (fun zz => rwc (L.getD zz Rw.z)))]) rfl A rfl (eff_auto (X := ⟨_, true⟩) (out := .val _ _) hX rfl rfl) fun A => any_at (rs := [5]) (by kernel_rfl) (by decide) (List.forall_mem_cons.2 ⟨any_eff (x := .int .i64 ((prP x86G L i lb).2)) (H' := [some (.blk (inQ9 i)), some (.lst 20 L.length (fun zz => rwc (L.getD zz Rw.z)))]) rfl A rfl (eff_auto (X := ⟨_, true⟩) (out := .val _ _) hX rfl rfl) fun A => any_at (rs := [6]) (by kernel_rfl) (by decide) (List.forall_mem_cons.2 ⟨any_eff (x := .str ((prP x86G L i lb).1)) (H' := [some (.blk (inQ9 i)), some (.lst 20 L.length (fun zz => rwc (L.getD zz Rw.z)))]) rfl A rfl (eff_auto (X := ⟨_, true⟩) (out := .val _ _) hX rfl rfl) fun A => any_at (rs := [7]) (by kernel_rfl) (by decide) (List.forall_mem_cons.2 ⟨any_eff (x := .int .i64 ((prP x86G L i lb).2)) (H' := [some (.blk (inQ9 i)), some (.lst 20 L.length (fun zz => rwc (L.getD zz Rw.z)))]) rfl A rfl (eff_auto (X := ⟨_, true⟩) (out := .val _ _) hX rfl rfl) fun A => any_end (by kernel_rfl) (N hX 2 A rfl rfl fun A => RETN hX (B.trans A) rfl rfl rfl h0 rfl rfl rfl rfl (by rw [← x86_pr hR.1] <;> rfl) rfl),
         (List.forall_mem_nil _)⟩),
        (List.forall_mem_nil _)⟩),
       (List.forall_mem_nil _)⟩),
      (List.forall_mem_cons.2 ⟨any_eff (x := .int .i64 ((prP x86G L i lb).2)) (H' := [some (.blk (inQ9 i)), some (.lst 20 L.length (fun zz => rwc (L.getD zz Rw.z)))]) rfl A rfl (eff_auto (X := ⟨_, true⟩) (out := .val _ _) hX rfl rfl) fun A => any_at (rs := [4]) (by kernel_rfl) (by decide) (List.forall_mem_cons.2 ⟨any_eff (x := .str ((prP x86G L i lb).1)) (H' := [some (.blk (inQ9 i)), some (.lst 20 L.length (fun zz => rwc (L.getD zz Rw.z)))]) rfl A rfl (eff_auto (X := ⟨_, true⟩) (out := .val _ _) hX rfl rfl) fun A => any_at (rs := [6]) (by kernel_rfl) (by decide) (List.forall_mem_cons.2 ⟨any_eff (x := .str ((prP x86G L i lb).1)) (H' := [some (.blk (inQ9 i)), some (.lst 20 L.length (fun zz => rwc (L.getD zz Rw.z)))]) rfl A rfl (eff_auto (X := ⟨_, true⟩) (out := .val _ _) hX rfl rfl) fun A => any_at (rs := [7]) (by kernel_rfl) (by decide) (List.forall_mem_cons.2 ⟨any_eff (x := .int .i64 ((prP x86G L i lb).2)) (H' := [some (.blk (inQ9 i)), some (.lst 20 L.length (fun zz => rwc (L.getD zz Rw.z)))]) rfl A rfl (eff_auto (X := ⟨_, true⟩) (out := .val _ _) hX rfl rfl) fun A => any_end (by kernel_rfl) (N hX 2 A rfl rfl fun A => RETN hX (B.trans A) rfl rfl rfl h0 rfl rfl rfl rfl (by rw [← x86_pr hR.1] <;> rfl) rfl),
         (List.forall_mem_nil _)⟩),
        (List.forall_mem_nil _)⟩),
       (List.forall_mem_nil _)⟩),
      (List.forall_mem_nil _)⟩)⟩),
     (List.forall_mem_nil _)⟩),
    (List.forall_mem_nil _)⟩),
   (List.forall_mem_cons.2 ⟨any_eff (x := .agg (inQ9 i)) (H' := [some (.blk (inQ9 i))]) rfl A rfl (eff_auto (X := ⟨_, true⟩) (out := .val _ _) hX rfl rfl) fun A => any_at (rs := [0]) (by kernel_rfl) (by decide) (List.forall_mem_cons.2 ⟨any_agg (t := 6) (l := [.str [82, 65, 88], .str [82, 66, 88], .str [82, 67, 88], .str [82, 68, 88], .str [82, 83, 73], .str [82, 68, 73], .str [82, 56], .str [82, 57], .str [66], .str [87], .str [76], .str [81], .str [36], .str [], .str [], .str []]) (F := fun (L : List Rw) zz => rwc (L.getD zz Rw.z)) (R := fun L b w w' => L.map tm = x86T ∧ RowsIn w.heap.size L w' [b]) rfl xlang_ A rfl rfl fun L b cp a1 w1 G1 hR hlo hkk A => have hl20 : L.length = 20 := (by have q := congrArg List.length hR.1; rw [List.length_map] at q; exact q.trans (by decide +kernel)); have hRI := rows_keys hR.2 hkk; have B0 := A; have A := A.base; have A := A.rowAs 1 L.length (fun zz => rwc (L.getD zz Rw.z)) rfl hl20 (fun _ _ => rfl) (fun z => ⟨_, rfl, rfl⟩); have A := A.say 6 (.agg [.str [82, 65, 88], .str [82, 66, 88], .str [82, 67, 88], .str [82, 68, 88], .str [82, 83, 73], .str [82, 68, 73], .str [82, 56], .str [82, 57], .str [66], .str [87], .str [76], .str [81], .str [36], .str [], .str [], .str [], .sl 1 L.length 0]) rfl (by rw [hl20] <;> rfl); have A := A.freeze 1 rfl; have hTb := RowsIn.ok.now A hRI; have B := B0.trans A; have A := A.base; have hI2 : PrI os L _ _ := ⟨fun r hr => (hTb r hr).1, Gl.ok.now B hI⟩; any_at (rs := [3]) (by kernel_rfl) (by decide) (List.forall_mem_cons.2 ⟨any_eff (x := .tup [.str ((prP x86G L i lb).1), .int .i64 ((prP x86G L i lb).2)]) (H' := [some (.blk (inQ9 i)), some (.lst 20 L.length (fun zz => rwc (L.getD zz Rw.z)))]) rfl A rfl (callIE [1] PrI.ok hI2 (lprint_ x86G L 0 i lb os hM hT hE (hp L hR.1)) rfl rfl rfl rfl rfl rfl rfl) fun A => any_at (rs := [4, 5]) (by kernel_rfl) (by decide) (List.forall_mem_cons.2 ⟨any_eff (x := .str ((prP x86G L i lb).1)) (H' := [some (.blk (inQ9 i)), some (.lst 20 L.length (fun zz => rwc (L.getD zz Rw.z)))]) rfl A rfl (eff_auto (X := ⟨_, true⟩) (out := .val _ _) hX rfl rfl) fun A => any_at (rs := [5]) (by kernel_rfl) (by decide) (List.forall_mem_cons.2 ⟨any_eff (x := .int .i64 ((prP x86G L i lb).2)) (H' := [some (.blk (inQ9 i)), some (.lst 20 L.length (fun zz => rwc (L.getD zz Rw.z)))]) rfl A rfl (eff_auto (X := ⟨_, true⟩) (out := .val _ _) hX rfl rfl) fun A => any_at (rs := [6]) (by kernel_rfl) (by decide) (List.forall_mem_cons.2 ⟨any_eff (x := .str ((prP x86G L i lb).1)) (H' := [some (.blk (inQ9 i)), some (.lst 20 L.length (fun zz => rwc (L.getD zz Rw.z)))]) rfl A rfl (eff_auto (X := ⟨_, true⟩) (out := .val _ _) hX rfl rfl) fun A => any_at (rs := [7]) (by kernel_rfl) (by decide) (List.forall_mem_cons.2 ⟨any_eff (x := .int .i64 ((prP x86G L i lb).2)) (H' := [some (.blk (inQ9 i)), some (.lst 20 L.length (fun zz => rwc (L.getD zz Rw.z)))]) rfl A rfl (eff_auto (X := ⟨_, true⟩) (out := .val _ _) hX rfl rfl) fun A => any_end (by kernel_rfl) (N hX 2 A rfl rfl fun A => RETN hX (B.trans A) rfl rfl rfl h0 rfl rfl rfl rfl (by rw [← x86_pr hR.1] <;> rfl) rfl),
         (List.forall_mem_nil _)⟩),
        (List.forall_mem_nil _)⟩),
       (List.forall_mem_nil _)⟩),
      (List.forall_mem_cons.2 ⟨any_eff (x := .int .i64 ((prP x86G L i lb).2)) (H' := [some (.blk (inQ9 i)), some (.lst 20 L.length (fun zz => rwc (L.getD zz Rw.z)))]) rfl A rfl (eff_auto (X := ⟨_, true⟩) (out := .val _ _) hX rfl rfl) fun A => any_at (rs := [4]) (by kernel_rfl) (by decide) (List.forall_mem_cons.2 ⟨any_eff (x := .str ((prP x86G L i lb).1)) (H' := [some (.blk (inQ9 i)), some (.lst 20 L.length (fun zz => rwc (L.getD zz Rw.z)))]) rfl A rfl (eff_auto (X := ⟨_, true⟩) (out := .val _ _) hX rfl rfl) fun A => any_at (rs := [6]) (by kernel_rfl) (by decide) (List.forall_mem_cons.2 ⟨any_eff (x := .str ((prP x86G L i lb).1)) (H' := [some (.blk (inQ9 i)), some (.lst 20 L.length (fun zz => rwc (L.getD zz Rw.z)))]) rfl A rfl (eff_auto (X := ⟨_, true⟩) (out := .val _ _) hX rfl rfl) fun A => any_at (rs := [7]) (by kernel_rfl) (by decide) (List.forall_mem_cons.2 ⟨any_eff (x := .int .i64 ((prP x86G L i lb).2)) (H' := [some (.blk (inQ9 i)), some (.lst 20 L.length (fun zz => rwc (L.getD zz Rw.z)))]) rfl A rfl (eff_auto (X := ⟨_, true⟩) (out := .val _ _) hX rfl rfl) fun A => any_end (by kernel_rfl) (N hX 2 A rfl rfl fun A => RETN hX (B.trans A) rfl rfl rfl h0 rfl rfl rfl rfl (by rw [← x86_pr hR.1] <;> rfl) rfl),
         (List.forall_mem_nil _)⟩),
        (List.forall_mem_nil _)⟩),
       (List.forall_mem_nil _)⟩),
      (List.forall_mem_nil _)⟩)⟩),
     (List.forall_mem_nil _)⟩),
    (List.forall_mem_nil _)⟩),
   (List.forall_mem_nil _)⟩)⟩),
  (List.forall_mem_nil _)⟩)⟩)⟩)
end Go.Proofs.YtedlaclfhgneeaaGreatDoor
namespace Go.Proofs.YtedlaclfhgneeaaGreatDoor
open Go.RowKit
set_option linter.unusedVariables false
set_option linter.unusedSimpArgs false
set_option linter.unusedSectionVars false
set_option maxRecDepth 100000
set_option maxHeartbeats 2000000
section
variable {g : Lg} {L : List Rw} {i : In} {lb : List UInt8} {r : Rw}
theorem sound_of (h : wrongI i = false) : sound0 i.op i.dst i.ra i.rb i.imm i.loc i.off i.ix i.sz i.fn i.acq i.weak i.rel i.pred i.succ i.to_ i.zero = true := by
  cases hs : sound0 i.op i.dst i.ra i.rb i.imm i.loc i.off i.ix i.sz i.fn i.acq i.weak i.rel i.pred i.succ i.to_ i.zero with
  | true => rfl
  | false =>
    exfalso
    unfold wrongI Right0 at h
    rw [hs, Bool.not_false, Bool.or_true, if_pos rfl] at h
    exact absurd h (by decide)
theorem acc_loc (h : isAccess0 i.op i.dst i.ra i.rb i.imm i.loc i.off i.ix i.sz i.fn i.acq i.weak i.rel i.pred i.succ i.to_ i.zero = true) : 0 ≤ i.loc ∧ i.loc < 3 := by
  unfold isAccess0 at h
  split at h
  · split at h
    · omega
    · cases h
  · cases h
theorem snd_loc (h : wrongI i = false) (ho : i.op = 4 ∨ i.op = 5 ∨ i.op = 6) : 0 ≤ i.loc ∧ i.loc < 3 := by
  have hs := sound_of h
  unfold sound0 at hs
  rw [if_neg (by omega), if_neg (by omega), if_neg (by omega)] at hs
  rcases ho with ho | ho | ho
  · rw [if_pos ho] at hs
    split at hs
    · rw [Bool.and_eq_true] at hs; exact acc_loc hs.1
    · cases hs
  · rw [if_neg (by omega), if_pos ho] at hs
    split at hs
    · exact acc_loc hs
    · cases hs
  · rw [if_neg (by omega), if_neg (by omega), if_pos ho] at hs
    split at hs
    · split at hs
      · rw [Bool.and_eq_true] at hs; exact acc_loc hs.1
      · cases hs
    · cases hs
theorem snd_fen (h : wrongI i = false) (ho : i.op = 7) : (1 ≤ i.pred ∧ i.pred ≤ 3) ∧ (1 ≤ i.succ ∧ i.succ ≤ 3) := by
  have hs := sound_of h
  unfold sound0 at hs
  rw [if_neg (by omega), if_neg (by omega), if_neg (by omega), if_neg (by omega), if_neg (by omega), if_neg (by omega), if_pos ho] at hs
  split at hs
  · next hp =>
    simp only [Bool.or_eq_true, beq_iff_eq] at hp hs
    omega
  · cases hs
theorem wstep_op (i J : In) (p : Int) : (wStep i J p).op = J.op := by
  unfold wStep
  repeat' split
  all_goals rfl
theorem lay_op (r : Rw) (i : In) : (r.lay i).op = r.ins.op := by
  have : ∀ (l : List Int) (J : In), (l.foldl (wStep i) J).op = J.op := by
    intro l
    induction l with
    | nil => intro J; rfl
    | cons p l ih => intro J; rw [List.foldl_cons, ih, wstep_op]
  exact this r.ps (bare r.ins)
theorem row_op (h : rowQ L i = true) : i.op = (rowR L i).ins.op := by
  unfold rowQ at h
  unfold rowR
  cases hf : L.find? (rowP i) with
  | none => rw [hf] at h; cases h
  | some r =>
    have := List.find?_some hf
    unfold rowP at this
    rw [Bool.and_eq_true] at this
    have h2 := this.1
    unfold eqIn at h2
    rw [Bool.and_eq_true, beq_iff_eq, lay_op] at h2
    exact h2.1.symm
end
def prB (g : Lg) (T : List (List UInt8 × List UInt8 × In × List Int)) : Bool := T.all fun x =>
  decide (x.1.length ≤ 1000) && decide (Lib.countB (S x.1) (S [42]) ≤ 1000) && decide (x.2.2.2.length ≤ 4) && decide (x.2.1.length ≤ 1000) &&
  ((List.range 4).all fun k => decide ((Lib.replace x.1 [42] (g.let.getD k []) 1).length ≤ 1000)) &&
  (x.2.2.2.all fun p => (!(p == 6) || (x.2.2.1.op == 4 || (x.2.2.1.op == 5 || x.2.2.1.op == 6))) && (!(p == 8 || p == 9) || x.2.2.1.op == 7))
theorem lens_le {B : Nat} : ∀ (l : List (List UInt8)), (∀ x ∈ l, x.length ≤ B) → Lib.lens l ≤ l.length * B
  | [], _ => by simp [Lib.lens]
  | x :: l, h => by
    have h1 := lens_le l (fun y hy => h y (List.mem_cons_of_mem _ hy))
    have h2 := h x List.mem_cons_self
    have e : Lib.lens (x :: l) = x.length + Lib.lens l := by simp [Lib.lens]
    rw [e, List.length_cons, Nat.add_mul]; omega
theorem join_le {B : Nat} (l : List (List UInt8)) (h : ∀ x ∈ l, x.length ≤ B) : (Lib.join l [44]).length ≤ l.length * (B + 1) := by
  cases l with
  | nil => exact Nat.zero_le _
  | cons x l =>
    rw [Lib.join_length]
    have := lens_le (x :: l) h
    rw [Nat.mul_add, List.length_cons] at *
    simp only [List.length_cons, List.length_nil]
    omega
theorem x86_prB : prB x86G x86T = true := by decide +kernel
theorem get3_le {a b c : List UInt8} {B : Nat} (ha : a.length ≤ B) (hb : b.length ≤ B) (hc : c.length ≤ B) (k : Nat) : ([a, b, c].getD k []).length ≤ B := by
  by_cases h : k < 3
  · have : k = 0 ∨ k = 1 ∨ k = 2 := by omega
    rcases this with rfl | rfl | rfl
    · exact ha
    · exact hb
    · exact hc
  · rw [List.getD_eq_getElem?_getD, List.getElem?_eq_none (by simpa using h)]; exact Nat.zero_le _
structure LgL (g : Lg) : Prop where
  lg : LgOK g
  lt : ∀ k, ([g.l0, g.l1, g.l2, g.l3].getD k []).length ≤ 1000
  f0 : g.f0.length ≤ 1000
  f1 : g.f1.length ≤ 1000
  f2 : g.f2.length ≤ 1000
structure InR (i : In) : Prop where
  im : -9223372036854775808 ≤ i.imm ∧ i.imm ≤ 9223372036854775807
  of_ : -9223372036854775808 ≤ i.off ∧ i.off ≤ 9223372036854775807
section
variable {g : Lg} {L : List Rw} {i : In} {lb : List UInt8} {r : Rw}
theorem mem_le (hg : LgL g) (hi : InR i) : (memT g i).length ≤ 1100 := by
  have q1 := hg.lg.rg i.ix
  have q2 := Lib.itoa_length_le i.off hi.of_.1 hi.of_.2
  have q3 := get3_le (a := [120]) (b := [121]) (c := [122]) (B := 1) (by decide) (by decide) (by decide) (i.loc).toNat
  unfold memT memB memA
  split <;> split <;> (simp only [List.length_append, List.length_cons, List.length_nil]; omega)
theorem opd_le (hg : LgL g) (hi : InR i) (hw : r.wd.length ≤ 1000) (p : Int) : (opdT g r p i lb).length ≤ 2000 + lb.length := by
  have q1 := hg.lg.rg (regP p i).1
  have q2 := Lib.itoa_length_le i.imm hi.im.1 hi.im.2
  have q3 := hg.lg.im
  have q4 := mem_le hg hi
  have q5 := get3_le hg.f0 hg.f1 hg.f2 (i.pred - 1).toNat
  have q6 := get3_le hg.f0 hg.f1 hg.f2 (i.succ - 1).toNat
  unfold opdT
  split
  · omega
  split
  · rw [List.length_append]; omega
  split
  · omega
  split
  · omega
  split
  · omega
  split
  · omega
  · omega
theorem pr_ok {T : List (List UInt8 × List UInt8 × In × List Int)} (hm : L.map tm = T) (hg : LgL g) (hB : prB g T = true) (hn : T.length ≤ 1000) (hi : InR i) (hl : lb.length ≤ 100000) : PrOK g L i lb := by
  have hlen : L.length ≤ 1000 := by have := congrArg List.length hm; rw [List.length_map] at this; omega
  have htab : ∀ r ∈ L, r.nm.length ≤ 1000 ∧ Lib.countB (S r.nm) (S [42]) ≤ 1000 ∧ r.ps.length ≤ 4 ∧ r.wd.length ≤ 1000 ∧ (∀ k, k < 4 → (Lib.replace r.nm [42] (g.let.getD k []) 1).length ≤ 1000) ∧ ∀ p ∈ r.ps, (p = 6 → r.ins.op = 4 ∨ r.ins.op = 5 ∨ r.ins.op = 6) ∧ (p = 8 ∨ p = 9 → r.ins.op = 7) := fun r hr => by
    have := (List.all_eq_true.1 hB) _ (tm_mem hm hr)
    simp only [Bool.and_eq_true, decide_eq_true_eq] at this
    obtain ⟨⟨⟨⟨⟨h1, h2⟩, h3⟩, h4⟩, h5⟩, h6⟩ := this
    refine ⟨h1, h2, h3, h4, fun k hk => ?_, fun p hp => ?_⟩
    · have := (List.all_eq_true.1 h5) k (List.mem_range.2 hk)
      exact of_decide_eq_true this
    · have := (List.all_eq_true.1 h6) p hp
      simp only [Bool.and_eq_true, Bool.or_eq_true, Bool.not_eq_true', beq_iff_eq, beq_eq_false_iff_ne, Bool.or_eq_false_iff] at this
      obtain ⟨a1, a2⟩ := this
      refine ⟨fun e => ?_, fun e => ?_⟩
      · rcases a1 with a1 | a1
        · exact absurd e a1
        · exact a1
      · rcases a2 with a2 | a2
        · rcases e with e | e
          · exact absurd e a2.1
          · exact absurd e a2.2
        · exact a2
  have hz : ∀ k, (L.getD k Rw.z) ∈ L ∨ L.getD k Rw.z = Rw.z := fun k => by
    by_cases h : k < L.length
    · left; rw [List.getD_eq_getElem?_getD, List.getElem?_eq_getElem h]; exact List.getElem_mem h
    · right; rw [List.getD_eq_getElem?_getD, List.getElem?_eq_none (by omega)]; rfl
  have hr : rowR L i ∈ L ∨ rowR L i = Rw.z := by
    unfold rowR
    cases hf : L.find? (rowP i) with
    | none => exact .inr rfl
    | some r => exact .inl (List.mem_of_find?_eq_some hf)
  have hz0 : Rw.z.nm = [] ∧ Rw.z.ps = [] ∧ Rw.z.wd = [] := ⟨rfl, rfl, rfl⟩
  have hnl : (nameR g (rowR L i).nm i.sz).length ≤ 1000 := by
    unfold nameR
    split
    · next hk =>
      rcases hr with hr | hr
      · exact (htab _ hr).2.2.2.2.1 _ hk
      · rw [hr, hz0.1]
        have : szK i.sz = 0 ∨ szK i.sz = 1 ∨ szK i.sz = 2 ∨ szK i.sz = 3 := by omega
        have e : ∀ y : List UInt8, (Lib.replace [] [42] y 1) = [] := fun y => by
          unfold Lib.replace
          split
          · rfl
          · have hc : Lib.index [] [42] = -1 := by decide
            cases Lib.replaceNum [] [42] 1 with
            | zero => rfl
            | succ k => unfold Lib.replaceK; rw [hc]; rfl
        rw [e]; exact Nat.zero_le _
    · rcases hr with hr | hr
      · exact (htab _ hr).1
      · rw [hr, hz0.1]; exact Nat.zero_le _
  refine ⟨hg.lg, hg.lt, fun k => ?_, by omega, hi.im, ?_, fun hw hq k hk => ?_, by omega, ?_⟩
  · rcases hz k with h | h
    · have := (htab _ h).2.2.1; omega
    · rw [h, hz0.2.1]; exact Nat.zero_le _
  · rcases hr with hr | hr
    · exact ⟨(htab _ hr).1, (htab _ hr).2.1⟩
    · rw [hr, hz0.1]; exact ⟨Nat.zero_le _, by decide⟩
  · have hmem := row_mem hq
    have hop := row_op hq
    have hp : (rowR L i).ps.getD k 0 ∈ (rowR L i).ps := by rw [List.getD_eq_getElem?_getD, List.getElem?_eq_getElem hk]; exact List.getElem_mem hk
    obtain ⟨h6, h89⟩ := (htab _ hmem).2.2.2.2.2 _ hp
    refine ⟨fun e => ⟨snd_loc hw (by rw [hop]; exact h6 e), hi.of_⟩, fun e => (snd_fen hw (by rw [hop]; exact h89 (.inl e))).1, fun e => (snd_fen hw (by rw [hop]; exact h89 (.inr e))).2⟩
  · have hps : (rowR L i).ps.length ≤ 4 ∧ (rowR L i).wd.length ≤ 1000 := by
      rcases hr with hr | hr
      · exact ⟨(htab _ hr).2.2.1, (htab _ hr).2.2.2.1⟩
      · rw [hr]; exact ⟨Nat.zero_le _, Nat.zero_le _⟩
    have h1 := join_le (B := 2000 + lb.length) (opsT g (rowR L i) i lb) (fun x hx => by
      unfold opsT at hx
      obtain ⟨p, _, rfl⟩ := List.mem_map.1 hx
      exact opd_le hg hi hps.2 p)
    have h2 : (opsT g (rowR L i) i lb).length ≤ 4 := by unfold opsT; rw [List.length_map]; exact hps.1
    have h3 : (opsT g (rowR L i) i lb).length * (2000 + lb.length + 1) ≤ 4 * (2000 + lb.length + 1) := Nat.mul_le_mul_right _ h2
    omega
end
theorem x86_lg : LgL x86G := by
  refine ⟨⟨fun r => ?_, by decide⟩, fun k => ?_, by decide, by decide, by decide⟩
  · unfold regnm0
    split
    · exact Nat.zero_le _
    · next h =>
      have : (r).toNat = 0 ∨ (r).toNat = 1 ∨ (r).toNat = 2 ∨ (r).toNat = 3 ∨ (r).toNat = 4 ∨ (r).toNat = 5 ∨ (r).toNat = 6 ∨ (r).toNat = 7 := by
        simp only [Bool.or_eq_true, decide_eq_true_eq] at h; omega
      rcases this with e | e | e | e | e | e | e | e <;> rw [e] <;> decide
  · by_cases h : k < 4
    · have : k = 0 ∨ k = 1 ∨ k = 2 ∨ k = 3 := by omega
      rcases this with rfl | rfl | rfl | rfl <;> decide
    · rw [List.getD_eq_getElem?_getD, List.getElem?_eq_none (by simpa using h)]; decide
theorem x86_prok {L : List Rw} {i : In} {lb : List UInt8} (hi : InR i) (hl : lb.length ≤ 100000) (hm : L.map tm = x86T) : PrOK x86G L i lb := pr_ok hm x86_lg x86_prB (by decide +kernel) hi hl
end Go.Proofs.YtedlaclfhgneeaaGreatDoor
namespace Go.Proofs.YtedlaclfhgneeaaGreatDoor
open Go.RowKit
set_option linter.unusedVariables false
set_option linter.unusedSimpArgs false
set_option maxRecDepth 100000
set_option maxHeartbeats 2000000
set_option simprocs false
theorem regnm_x (r : Int) : regnm0 [82, 65, 88] [82, 66, 88] [82, 67, 88] [82, 68, 88] [82, 83, 73] [82, 68, 73] [82, 56] [82, 57] r = Old.nameF r := by
  unfold regnm0
  split
  · next h => rw [nameF_o (by revert h; simp only [Bool.or_eq_true, decide_eq_true_eq]; omega)]
  · next h => rw [nameF_i (by revert h; simp only [Bool.or_eq_true, Bool.or_eq_false_iff, decide_eq_true_eq, decide_eq_false_iff_not]; omega)]
theorem idxL_at (q : List UInt8) : ∀ (ls : List (List UInt8)) (n : Nat), Old.idxL ls q n = if idxS ls q < 0 then -1 else idxS ls q + n := by
  intro ls
  induction ls with
  | nil => intro n; rfl
  | cons y l ih =>
    intro n
    unfold Old.idxL
    have hr : List.range (y :: l).length = 0 :: (List.range l.length).map Nat.succ := by rw [List.length_cons, List.range_succ_eq_map]
    cases hy : eqL y q
    · rw [if_neg (by decide), ih (n + 1)]
      have hne : (q == y) = false := by
        cases hh : (q == y) with
        | false => rfl
        | true => rw [eq_of_beq hh, eqL_same] at hy; cases hy
      have e : idxS (y :: l) q = if idxS l q < 0 then -1 else idxS l q + 1 := by
        unfold idxS
        rw [hr, List.find?_cons]
        simp only [List.getD_cons_zero, hne]
        rw [List.find?_map]
        have : ((fun j => q == (y :: l).getD j []) ∘ Nat.succ) = fun j => q == l.getD j [] := by funext j; simp
        rw [this]
        cases (List.range l.length).find? (fun j => q == l.getD j []) with
        | none => rfl
        | some j => simp; omega
      rw [e]
      have := (idxS_ge (ls := l) (q := q)).1
      split <;> split <;> omega
    · rw [if_pos rfl]
      have hq : (q == y) = true := by rw [eqL_eq hy]; exact beq_self_eq_true q
      have e : idxS (y :: l) q = 0 := by
        unfold idxS
        rw [hr, List.find?_cons]
        simp only [List.getD_cons_zero, hq]
        rfl
      rw [e]; simp
theorem idxS_L (ls : List (List UInt8)) (q : List UInt8) : idxS ls q = Old.idxL ls q 0 := by
  rw [idxL_at]
  have := (idxS_ge (ls := ls) (q := q)).1
  split <;> omega
theorem xname_ (r : Int)  : Fn Tryz.prog 15 [.int .i64 r] [] (Rt (.str (Old.nameF r)) []) :=
 enterM (n := 6) (by kernel_rfl) Tryz.func15 rfl rfl rfl fun G w a h0 A => N hX 7 A rfl rfl fun A => CALL1 [] xregs_ A rfl rfl rfl rfl rfl rfl rfl fun A => N hX 1 A rfl rfl fun A => CALL1 [] (regnm_ [82, 65, 88] [82, 66, 88] [82, 67, 88] [82, 68, 88] [82, 83, 73] [82, 68, 73] [82, 56] [82, 57] r) A rfl rfl rfl rfl rfl rfl rfl fun A => N hX 4 A rfl rfl fun A => RETN hX A rfl rfl rfl h0 rfl rfl rfl rfl (by rw [← regnm_x] <;> rfl) rfl
theorem sixA_ (s0 : List UInt8) (s1 : List UInt8) (s2 : List UInt8) (s3 : List UInt8) (s4 : List UInt8) (s5 : List UInt8) (s6 : List UInt8) (s7 : List UInt8) (q : List UInt8)  : Fn Tryz.prog 92 [.sp (.ptr 0 0) 8 8, .str q] [some (.blk [.str s0, .str s1, .str s2, .str s3, .str s4, .str s5, .str s6, .str s7])] (Rt (.int .i64 (idxS [s0, s1, s2, s3, s4, s5, s6, s7] q)) [some (.blk [.str s0, .str s1, .str s2, .str s3, .str s4, .str s5, .str s6, .str s7])]) :=
 enterM (n := 19) (by kernel_rfl) Tryz.func92 rfl rfl rfl fun G w a h0 A => N hX 14 A rfl rfl fun A => LOOP1 (fun (k : Nat) => [(0, .sp (.ptr 0 0) 8 8), (1, .str q), (4, .int .i64 0), (7, .int .i64 ((8 : Nat) : Int)), (8, .int .i64 (k : Int))]) (fun (k : Nat) => [some (.blk [.str s0, .str s1, .str s2, .str s3, .str s4, .str s5, .str s6, .str s7])]) (fun (k : Nat) => IxI [s0, s1, s2, s3, s4, s5, s6, s7] q k) (fun (k : Nat) => 8 - k) 0 IxI.i0 ((A.cut [0, 1, 4, 7, 8] rfl).trunc 1 rfl rfl rfl (by simp only [List.length_cons, List.length_nil] at h0; omega)) fun k hI {G a w} A => N hX 6 A rfl rfl fun A => forkD 9 A rfl
   (fun h1 A => N hX 21 A rfl (ok_d (by have := hI.le; simp only [List.length_cons, List.length_nil] at this; omega) <| ok_d (by have := hI.le; simp only [List.length_cons, List.length_nil] at this; omega) <| okE_nil) fun A => forkE 16 A rfl
    (fun h2 A => N hX 8 A rfl rfl fun A => RETN hX A rfl rfl rfl h0 rfl rfl rfl rfl (by rw [hI.hit (by show k < 8; omega) (by rw [show k = ((k : Int)).toNat from rfl]; simpa using h2)]; rfl) rfl)
    (fun h2 A => N hX 8 A rfl (ok_d (by have := hI.le; simp only [List.length_cons, List.length_nil] at this; omega) <| okE_nil) fun A => ⟨k + 1, _, (by omega), (hI.nx (by show k < 8; omega) (by rw [show k = ((k : Int)).toNat from rfl]; simpa using h2)), ((A.cut [0, 1, 4, 7, 8] rfl).trunc 1 rfl rfl rfl (by simp only [List.length_cons, List.length_nil] at h0; omega))⟩))
   (fun h1 A => N hX 9 A rfl rfl fun A => RETN hX A rfl rfl rfl h0 rfl rfl rfl rfl (by rw [hI.fi (by show 8 ≤ k; omega)]; rfl) rfl)
theorem lreg_ (s0 : List UInt8) (s1 : List UInt8) (s2 : List UInt8) (s3 : List UInt8) (s4 : List UInt8) (s5 : List UInt8) (s6 : List UInt8) (s7 : List UInt8) (q : List UInt8)  : Fn Tryz.prog 43 [.agg [.str s0, .str s1, .str s2, .str s3, .str s4, .str s5, .str s6, .str s7], .str q] [] (Rt (.int .i64 (idxS [s0, s1, s2, s3, s4, s5, s6, s7] q)) []) :=
 enterM (n := 8) (by kernel_rfl) Tryz.func43 rfl rfl rfl fun G w a h0 A => N hX 10 A rfl rfl fun A => CALL1 [0] (sixA_ s0 s1 s2 s3 s4 s5 s6 s7 q) A rfl rfl rfl rfl rfl rfl rfl fun A => N hX 4 A rfl rfl fun A => RETN hX A rfl rfl rfl h0 rfl rfl rfl rfl rfl rfl
theorem xreg_ (q : List UInt8)  : Fn Tryz.prog 17 [.str q] [] (Rt (.int .i64 (Old.regF q)) []) :=
 enterM (n := 6) (by kernel_rfl) Tryz.func17 rfl rfl rfl fun G w a h0 A => N hX 7 A rfl rfl fun A => CALL1 [] xregs_ A rfl rfl rfl rfl rfl rfl rfl fun A => N hX 1 A rfl rfl fun A => CALL1 [] (lreg_ [82, 65, 88] [82, 66, 88] [82, 67, 88] [82, 68, 88] [82, 83, 73] [82, 68, 73] [82, 56] [82, 57] q) A rfl rfl rfl rfl rfl rfl rfl fun A => N hX 4 A rfl rfl fun A => RETN hX A rfl rfl rfl h0 rfl rfl rfl rfl (by unfold Old.regF; rw [← idxS_L] <;> rfl) rfl
theorem nameF_k (k : Nat) (h : k < 8) : Old.nameF (k : Int) = Old.regsX.getD k [] := by
  have : k = 0 ∨ k = 1 ∨ k = 2 ∨ k = 3 ∨ k = 4 ∨ k = 5 ∨ k = 6 ∨ k = 7 := by omega
  rcases this with e | e | e | e | e | e | e | e <;> subst e <;> rfl
theorem regs_ne (k : Nat) (h : k < 8) : Old.regsX.getD k [] ≠ [] := by
  have : k = 0 ∨ k = 1 ∨ k = 2 ∨ k = 3 ∨ k = 4 ∨ k = 5 ∨ k = 6 ∨ k = 7 := by omega
  rcases this with e | e | e | e | e | e | e | e <;> subst e <;> decide
theorem rg_no1 {q : List UInt8} {k : Nat} (h : k < 8) (h1 : Old.nameF (k : Int) ≠ q) : (q == Old.regsX.getD k []) = false := by
  rw [nameF_k k h] at h1
  exact beq_eq_false_iff_ne.2 fun e => h1 e.symm
theorem rg_no2 {q : List UInt8} {k : Nat} (h : k < 8) (h1 : q = []) : (q == Old.regsX.getD k []) = false := by
  rw [h1]; exact beq_eq_false_iff_ne.2 fun e => regs_ne k h e.symm
theorem rg_yes {q : List UInt8} {k : Nat} (h : k < 8) (h1 : Old.nameF (k : Int) = q) : (q == Old.regsX.getD k []) = true := by
  rw [nameF_k k h] at h1
  rw [h1]; exact beq_self_eq_true q
theorem rregn_x (q : List UInt8)  : Fn Tryz.prog 18 [.int .i64 1, .str q] [] (Rt (.int .i64 (Old.regF q)) []) :=
 enterM (n := 20) (by kernel_rfl) Tryz.func18 rfl rfl rfl fun G w a h0 A => N hX 12 A rfl rfl fun A => LOOP1 (fun (k : Nat) => [(0, .int .i64 1), (1, .str q), (4, .int .i64 0), (5, .int .i64 (k : Int))]) (fun (k : Nat) => []) (fun (k : Nat) => IxI Old.regsX q k) (fun (k : Nat) => 8 - k) 0 IxI.i0 ((A.cut [0, 1, 4, 5] rfl).trunc 0 rfl rfl rfl (by simp only [List.length_cons, List.length_nil] at h0; omega)) fun k hI {G a w} A => N hX 7 A rfl rfl fun A => forkD 7 A rfl
   (fun h1 A => N hX 10 A rfl rfl fun A => forkN 12 A rfl
    (fun h2 A => N hX 2 A rfl rfl fun A => CALL1 [] (rname_x (k : Int)) A rfl rfl rfl rfl rfl rfl rfl fun A => N hX 5 A rfl rfl fun A => forkE 18 A rfl
     (fun h3 A => N hX 8 A rfl rfl fun A => RETN hX A rfl rfl rfl h0 rfl rfl rfl rfl (by unfold Old.regF; rw [← idxS_L, hI.hit (by show k < 8; omega) (rg_yes (by omega) h3)]; rfl) rfl)
     (fun h3 A => N hX 9 A rfl (ok_d (by have := hI.le; have e : Old.regsX.length = 8 := rfl; omega) <| okE_nil) fun A => ⟨k + 1, _, (by omega), (hI.nx (by show k < 8; omega) (rg_no1 (by omega) h3)), ((A.cut [0, 1, 4, 5] rfl).trunc 0 rfl rfl rfl (by simp only [List.length_cons, List.length_nil] at h0; omega))⟩))
    (fun h2 A => N hX 17 A rfl (ok_d (by have := hI.le; have e : Old.regsX.length = 8 := rfl; omega) <| okE_nil) fun A => ⟨k + 1, _, (by omega), (hI.nx (by show k < 8; omega) (rg_no2 (by omega) h2)), ((A.cut [0, 1, 4, 5] rfl).trunc 0 rfl rfl rfl (by simp only [List.length_cons, List.length_nil] at h0; omega))⟩))
   (fun h1 A => N hX 9 A rfl rfl fun A => RETN hX A rfl rfl rfl h0 rfl rfl rfl rfl (by unfold Old.regF; rw [← idxS_L, hI.fi (by show 8 ≤ k; omega)]; rfl) rfl)
end Go.Proofs.YtedlaclfhgneeaaGreatDoor
namespace Go.Proofs.YtedlaclfhgneeaaGreatDoor
set_option linter.unusedVariables false
def skipC : Nat → List UInt8 → Nat × Bool
  | 0, _ => (0, false)
  | _ + 1, [] => (0, false)
  | n + 1, b :: r =>
    if blkB b then ((skipC n r).1 + 1, (skipC n r).2)
    else if preB (b :: r) [40, 42] then
      if endR ((b :: r).drop 2) < 0 then (0, true)
      else ((skipC n ((b :: r).drop (endR ((b :: r).drop 2)).toNat.succ.succ.succ.succ)).1 + ((endR ((b :: r).drop 2)).toNat + 4), (skipC n ((b :: r).drop (endR ((b :: r).drop 2)).toNat.succ.succ.succ.succ)).2)
    else (0, false)
theorem skip_C : ∀ (n : Nat) (l : List UInt8), l.length ≤ n → skipL l = skipC n l := by
  intro n
  induction n with
  | zero => intro l hl; obtain rfl : l = [] := List.eq_nil_of_length_eq_zero (Nat.le_zero.1 hl); rw [skip_nil]; rfl
  | succ n ih =>
    intro l hl
    match l, hl with
    | [], _ => rw [skip_nil]; rfl
    | b :: r, hl =>
      rw [skipL, skipC, ih r (by simpa using hl), ih ((b :: r).drop (endR ((b :: r).drop 2)).toNat.succ.succ.succ.succ) (by rw [List.length_drop]; omega)]
def toksC : Nat → List UInt8 → Nat → List Tk → List Tk × Int × Nat
  | 0, _, _, _ => ([], 0, 0)
  | f + 1, l, a, ws =>
    if (skipC l.length (l.drop a)).2 then ([], 24, a + (skipC l.length (l.drop a)).1)
    else if a + (skipC l.length (l.drop a)).1 = l.length then (ws, 0, 0)
    else if (firstR (l.drop (a + (skipC l.length (l.drop a)).1))).2 = 0 then
      toksC f l (a + (skipC l.length (l.drop a)).1 + (firstR (l.drop (a + (skipC l.length (l.drop a)).1))).1.text.length) (ws ++ [{ (firstR (l.drop (a + (skipC l.length (l.drop a)).1))).1 with at_ := ((a + (skipC l.length (l.drop a)).1 : Nat) : Int) }])
    else ([], (firstR (l.drop (a + (skipC l.length (l.drop a)).1))).2, a + (skipC l.length (l.drop a)).1)
theorem toks_C : ∀ (f : Nat) (l : List UInt8) (a : Nat) (ws : List Tk), toksF f l a ws = toksC f l a ws := by
  intro f
  induction f with
  | zero => intros; rfl
  | succ f ih =>
    intro l a ws
    rw [toksF, toksC, skip_C l.length (l.drop a) (by rw [List.length_drop]; omega), ih]
theorem tokens_C {l : List UInt8} (h : l.length ≤ 8192) : tokensR l = toksC (l.length + 1) l 0 [] := by rw [tokens_short h, toks_C]
end Go.Proofs.YtedlaclfhgneeaaGreatDoor
namespace Go.Proofs.YtedlaclfhgneeaaGreatDoor
open Go.RowKit
set_option linter.unusedVariables false
set_option linter.unusedSimpArgs false
set_option maxRecDepth 100000
set_option maxHeartbeats 2000000
set_option simprocs false
theorem fnI_nil {I : Amb} {P : Program} {f s : Nat} {F : Nat → List SV} {x : SV} (h : FnI I P f [.sl 0 0 0] [some (.lst s 0 F)] (Rt x [some (.lst s 0 F)])) (hF : ∀ k, ∃ vs, denL [] (F k) = some vs) (hx : ∀ G, den G x = den [] x) : FnI I P f [.sla none 0 0] [] (Rt x []) := by
  refine ⟨h.1, fun G w vs hM hI hv => ?_⟩
  have hG : G = [] := List.length_eq_zero_iff.1 hM.len.symm
  subst hG
  have hM2 : Mem [some (.lst s 0 F)] [none] w := ⟨rfl, fun i e he => by
    match i, he with
    | 0, he => cases he; exact ⟨hF, .inl rfl⟩
    | i + 1, he => set_option simprocs true in simp at he, fun i j e g L M hij hi hj he hL => by
    match i, hi with
    | 0, hi => set_option simprocs true in simp at hL
    | i + 1, hi => set_option simprocs true in simp at hi⟩
  refine Calls.mono (h.2 [none] w vs hM2 hI hv) fun e w' ⟨x', H', F', v, ⟨q1, q2⟩, r1, r2, r3, r4, r5, r6, r7⟩ => ?_
  subst q1; subst q2
  exact ⟨_, _, [], v, ⟨rfl, rfl⟩, by rw [hx] at r1 ⊢; exact r1, r2, ⟨rfl, fun i e he => by set_option simprocs true in simp at he, fun i j e g L M hij hi => by set_option simprocs true in simp at hi⟩, r4, Nat.le_refl _, fun i e he => by set_option simprocs true in simp at he, fun i e he => by set_option simprocs true in simp at he⟩
def txt5 : List UInt8 := [77, 79, 86, 76, 32, 91, 120, 43, 52, 93, 44, 82, 66, 88]
def ws5 : List Tk := [⟨1, [77, 79, 86, 76], 0, 0⟩, ⟨3, [91], 0, 5⟩, ⟨1, [120], 0, 6⟩, ⟨3, [43], 0, 7⟩, ⟨2, [52], 4, 8⟩, ⟨3, [93], 0, 9⟩, ⟨3, [44], 0, 10⟩, ⟨1, [82, 66, 88], 0, 11⟩]
def ins5 : In := ⟨5, -1, 1, -1, 0, 0, 4, -1, 4, 0, false, false, false, 0, 0, 0, false⟩
theorem tok5 : tokensR txt5 = (ws5, 0, 0) := by rw [tokens_C (by decide)]; kernel_rfl
theorem ws5_ok : WsOK ws5 := by unfold WsOK; decide
theorem ws0_ok : WsOK [] := fun t h => by cases h
theorem par5I : parI x86G ws5 x86C = ins5 := by kernel_rfl
theorem par5T : parT x86G ws5 x86C = [] := by kernel_rfl
theorem par5E : parE x86G ws5 x86C = 0 := by kernel_rfl
theorem par0E : parE x86G [] x86C = 24 := by kernel_rfl
theorem par0A : parA x86G [] x86C = 0 := by kernel_rfl
theorem prt5 : prP x86G x86C ins5 [] = (txt5, 0) := by kernel_rfl
theorem reg3 : Old.regF (Old.nameF 3) = 3 := by decide +kernel
theorem ins5R : InR ins5 := ⟨by decide, by decide⟩
theorem able_  (os : List (Nat × Obj)) (hM : ∀ w ks, Gl os w ks → ∃ m, w.cell? ⟨0, 0, none⟩ = some (.int .i64 m)) (hT : ∀ w ks, Gl os w ks → Lib.TabIs Tryz.prog w "internal/strconv.uint64pow10" .u64 Lib.pow10Tab) (hE : ∀ w ks, Gl os w ks → ∃ ev, w.cell? ⟨1, 0, none⟩ = some ev ∧ (ev = .nilIface ∨ ∃ te pe, ev = .iface te pe)) : FnI (Gl os) Tryz.prog 9 [] [] (Rt (.tt) []) :=
 enterI (n := 66) (by kernel_rfl) Tryz.func9 rfl rfl rfl fun G w a h0 hI A => N hX 7 A rfl rfl fun A => CALLI [] Gl.ok hI (tokens_ok txt5 ws5 os hM hE tok5) A rfl rfl rfl rfl rfl rfl rfl fun A => N hX 12 A rfl rfl fun A => have A := A.freeze 0 rfl; CALLI [0] Gl.ok hI (xparse_ ws5 0 (by decide) ws5_ok os hM) A rfl rfl rfl rfl rfl rfl rfl fun A => N hX 16 A rfl rfl fun A => CALLI [] Gl.ok hI (xprint_ (parI x86G ws5 x86C) (parT x86G ws5 x86C) os hM hT hE (fun L hL => x86_prok (by rw [par5I]; exact ins5R) (by rw [par5T]; decide) hL)) A rfl rfl rfl rfl rfl rfl rfl fun A => N hX 9 A rfl rfl fun A => CALLI [] Gl.ok hI (fnI_nil (xparse_ [] 0 (by decide) ws0_ok os hM) (fun k => ⟨_, rfl⟩) (fun _ => rfl)) A rfl rfl rfl rfl rfl rfl rfl fun A => N hX 17 A rfl rfl fun A => forkE 40 A rfl
  (fun h1 A => N hX 4 A rfl rfl fun A => forkE 44 A rfl
   (fun h2 A => N hX 4 A rfl rfl fun A => forkE 48 A rfl
    (fun h3 A => N hX 5 A rfl rfl fun A => forkE 53 A rfl
     (fun h4 A => N hX 4 A rfl rfl fun A => forkE 57 A rfl
      (fun h5 A => N hX 4 A rfl rfl fun A => forkE 61 A rfl
       (fun h6 A => CALL1 [] (xname_ 3) A rfl rfl rfl rfl rfl rfl rfl fun A => CALL1 [] (xreg_ (Old.nameF 3)) A rfl rfl rfl rfl rfl rfl rfl fun A => N hX 6 A rfl rfl fun A => RETN hX A rfl rfl rfl h0 rfl rfl rfl rfl (by rw [reg3]; rfl) rfl)
       (fun h6 A => N hX 8 A rfl rfl fun A => RETN hX A rfl rfl rfl h0 rfl rfl rfl rfl (absurd par0A h6) rfl))
      (fun h5 A => N hX 12 A rfl rfl fun A => RETN hX A rfl rfl rfl h0 rfl rfl rfl rfl (absurd par0E h5) rfl))
     (fun h4 A => N hX 16 A rfl rfl fun A => RETN hX A rfl rfl rfl h0 rfl rfl rfl rfl (absurd (by rw [par5I]; rfl) h4) rfl))
    (fun h3 A => N hX 21 A rfl rfl fun A => RETN hX A rfl rfl rfl h0 rfl rfl rfl rfl (absurd (by rw [par5I, par5T, prt5]; rfl) h3) rfl))
   (fun h2 A => N hX 25 A rfl rfl fun A => RETN hX A rfl rfl rfl h0 rfl rfl rfl rfl (absurd (by rw [par5I, par5T, prt5]) h2) rfl))
  (fun h1 A => N hX 29 A rfl rfl fun A => RETN hX A rfl rfl rfl h0 rfl rfl rfl rfl (absurd par5E h1) rfl)
theorem prints_ (i : In) (lb : List UInt8) (rg : Int) (nm : List UInt8) (os : List (Nat × Obj)) (hM : ∀ w ks, Gl os w ks → ∃ m, w.cell? ⟨0, 0, none⟩ = some (.int .i64 m)) (hT : ∀ w ks, Gl os w ks → Lib.TabIs Tryz.prog w "internal/strconv.uint64pow10" .u64 Lib.pow10Tab) (hE : ∀ w ks, Gl os w ks → ∃ ev, w.cell? ⟨1, 0, none⟩ = some ev ∧ (ev = .nilIface ∨ ∃ te pe, ev = .iface te pe)) (hi : InR i) (hl : lb.length + nm.length ≤ 1000000000000000000) : FnI (Gl os) Tryz.prog 4 [.agg (inQ9 i), .str lb, .int .i64 rg, .str nm] [] (Rt (.tt) []) :=
 enterI (n := 55) (by kernel_rfl) Tryz.func4 rfl rfl rfl fun G w a h0 hI A => N hX 9 A rfl rfl fun A => CALLI [] Gl.ok hI (able_ os hM hT hE) A rfl rfl rfl rfl rfl rfl rfl fun A => N hX 17 A rfl (ok_d (by omega) <| okE_nil) fun A => forkD 20 A rfl
  (fun h1 A => N hX 7 A rfl rfl fun A => RETN hX A rfl rfl rfl h0 rfl rfl rfl rfl rfl rfl)
  (fun h1 A => N hX 7 A rfl rfl fun A => CALLI [] Gl.ok hI (xprint_ i lb os hM hT hE (fun L hL => x86_prok hi (by omega) hL)) A rfl rfl rfl rfl rfl rfl rfl fun A => N hX 11 A rfl rfl fun A => CALL1 [] (rprint_ i lb hi.of_ hi.im (by omega)) A rfl rfl rfl rfl rfl rfl rfl fun A => N hX 13 A rfl rfl fun A => forkE 36 A rfl
   (fun h2 A => N hX 5 A rfl rfl fun A => forkE 41 A rfl
    (fun h3 A => N hX 1 A rfl rfl fun A => CALL1 [] (xname_ rg) A rfl rfl rfl rfl rfl rfl rfl fun A => N hX 1 A rfl rfl fun A => CALL1 [] (rname_x rg) A rfl rfl rfl rfl rfl rfl rfl fun A => N hX 3 A rfl rfl fun A => forkE 48 A rfl
     (fun h4 A => N hX 1 A rfl rfl fun A => CALL1 [] (xreg_ nm) A rfl rfl rfl rfl rfl rfl rfl fun A => N hX 1 A rfl rfl fun A => CALL1 [] (rregn_x nm) A rfl rfl rfl rfl rfl rfl rfl fun A => N hX 6 A rfl rfl fun A => RETN hX A rfl rfl rfl h0 rfl rfl rfl rfl (by rw [beq_self_eq_true]; rfl) rfl)
     (fun h4 A => N hX 10 A rfl rfl fun A => RETN hX A rfl rfl rfl h0 rfl rfl rfl rfl (absurd rfl h4) rfl))
    (fun h3 A => N hX 17 A rfl rfl fun A => RETN hX A rfl rfl rfl h0 rfl rfl rfl rfl (absurd (by rw [pr_ref]) h3) rfl))
   (fun h2 A => N hX 22 A rfl rfl fun A => RETN hX A rfl rfl rfl h0 rfl rfl rfl rfl (absurd (by rw [pr_ref]) h2) rfl))
theorem prints2_ (i : In) (lb : List UInt8) (rg : Int) (nm : List UInt8) (os : List (Nat × Obj)) (hM : ∀ w ks, Gl os w ks → ∃ m, w.cell? ⟨0, 0, none⟩ = some (.int .i64 m)) (hT : ∀ w ks, Gl os w ks → Lib.TabIs Tryz.prog w "internal/strconv.uint64pow10" .u64 Lib.pow10Tab) (hE : ∀ w ks, Gl os w ks → ∃ ev, w.cell? ⟨1, 0, none⟩ = some ev ∧ (ev = .nilIface ∨ ∃ te pe, ev = .iface te pe)) (hi : InR i) (h1 : lb.length ≤ 140737488355328) (h2 : nm.length ≤ 140737488355328) : FnI (Gl os) Tryz.prog 4 [.agg (inQ9 i), .str lb, .int .i64 rg, .str nm] [] (Rt .tt []) := prints_ i lb rg nm os hM hT hE hi (by omega)
end Go.Proofs.YtedlaclfhgneeaaGreatDoor
namespace Go.Proofs.YtedlaclfhgneeaaGreatDoor
open Go.ChangeShapes Go.WideShapes Go.ChangeAt Go.RowKit
set_option linter.unusedVariables false
set_option linter.unusedSimpArgs false
set_option maxRecDepth 100000
def insC (i : In) : Array Value := #[.int .i64 i.op, .int .i64 i.dst, .int .i64 i.ra, .int .i64 i.rb, .int .i64 i.imm, .int .i64 i.loc, .int .i64 i.off, .int .i64 i.ix, .int .i64 i.sz, .int .i64 i.fn, .bool i.acq, .bool i.weak, .bool i.rel, .int .i64 i.pred, .int .i64 i.succ, .int .i64 i.to_, .bool i.zero]
def insT (k : Nat) : Nat := if k == 10 || k == 11 || k == 12 || k == 16 then 4 else 3
def insFs (P : Program) : Option (Array Field) := match P.underlying 30 with | some (.struct fs) => some fs | _ => none
def insFB (P : Program) : Bool := match insFs P with | some fs => (List.range 17).all (fun k => match fs[k]? with | some f => f.offset == k && f.type == insT k | none => false) | none => false
theorem insFB_true : insFB Tryz.prog = true := by kernel_rfl
theorem ins_fields : ∃ fs : Array Field, Tryz.prog.underlying 30 = some (.struct fs) ∧ ∀ k, k < 17 → ∃ f, fs[k]? = some f ∧ f.offset = k ∧ f.type = insT k := by
  have h := insFB_true
  unfold insFB at h
  cases hq : insFs Tryz.prog with
  | none => simp [hq] at h
  | some fs =>
    rw [hq] at h
    refine ⟨fs, ?_, fun k hk => ?_⟩
    · unfold insFs at hq
      split at hq
      · rename_i fs' he; rw [he]; cases hq; rfl
      · cases hq
    · have h1 := List.all_eq_true.1 h k (List.mem_range.2 hk)
      cases hf : fs[k]? with
      | none => simp [hf] at h1
      | some f => rw [hf] at h1; simp only [Bool.and_eq_true, beq_iff_eq] at h1; exact ⟨f, rfl, h1.1, h1.2⟩
theorem ins_cells : Tryz.prog.cellsOf 30 = 17 := by kernel_rfl
theorem int_cells : Tryz.prog.cellsOf 3 = 1 := by kernel_rfl
theorem bool_cells : Tryz.prog.cellsOf 4 = 1 := by kernel_rfl
theorem take_one {l : List Value} {k : Nat} {v : Value} (h : (l.drop k).take 1 = [v]) : l[k]? = some v := by
  have := congrArg (fun l => l[0]?) h
  simpa using this
theorem open_ins {H : Type} {enc : TypeId × Value → H} {W : World} {base : Nat} {spare : Nat → Bool} {held : Bool} {base' : Nat} {v : Value} {d : DataW H} {ps : List MemPlace}
    (hv : Value.okWide Tryz.prog W .any base 30 v) (h : DataW.Trod enc Tryz.prog W base' spare held 30 v d ps) : ∃ i : In, v = .agg (insC i) := by
  obtain ⟨fs, hu, hfs⟩ := ins_fields
  obtain ⟨cs, rfl, hsz⟩ := okWide_struct hu hv
  rw [ins_cells] at hsz
  obtain ⟨fuel, hf⟩ := h
  obtain ⟨xs, n, _, _, _, hlen, hx⟩ := DataW.trod_struct hu hf
  have int : ∀ k, k < 17 → insT k = 3 → ∃ m : Int, cs.toList[k]? = some (.int .i64 m) := fun k hk ht => by
    obtain ⟨f, hf1, ho, hty⟩ := hfs k hk
    have h1 := hx k f hf1
    have hl := (Array.getElem?_eq_some_iff.1 hf1).1
    rw [ho, hty, ht, int_cells, List.getElem?_eq_getElem (by omega)] at h1
    obtain ⟨m, h2, _, _⟩ := DataW.trod_int Tryz.underlying3 h1
    exact ⟨m, take_one h2⟩
  have bool : ∀ k, k < 17 → insT k = 4 → ∃ b : Bool, cs.toList[k]? = some (.bool b) := fun k hk ht => by
    obtain ⟨f, hf1, ho, hty⟩ := hfs k hk
    have h1 := hx k f hf1
    have hl := (Array.getElem?_eq_some_iff.1 hf1).1
    rw [ho, hty, ht, bool_cells, List.getElem?_eq_getElem (by omega)] at h1
    obtain ⟨m, h2, _⟩ := DataW.trod_bool Tryz.underlying4 h1
    exact ⟨m, take_one h2⟩
  obtain ⟨c0, h0⟩ := int 0 (by decide) rfl
  obtain ⟨c1, h1⟩ := int 1 (by decide) rfl
  obtain ⟨c2, h2⟩ := int 2 (by decide) rfl
  obtain ⟨c3, h3⟩ := int 3 (by decide) rfl
  obtain ⟨c4, h4⟩ := int 4 (by decide) rfl
  obtain ⟨c5, h5⟩ := int 5 (by decide) rfl
  obtain ⟨c6, h6⟩ := int 6 (by decide) rfl
  obtain ⟨c7, h7⟩ := int 7 (by decide) rfl
  obtain ⟨c8, h8⟩ := int 8 (by decide) rfl
  obtain ⟨c9, h9⟩ := int 9 (by decide) rfl
  obtain ⟨c10, h10⟩ := bool 10 (by decide) rfl
  obtain ⟨c11, h11⟩ := bool 11 (by decide) rfl
  obtain ⟨c12, h12⟩ := bool 12 (by decide) rfl
  obtain ⟨c13, h13⟩ := int 13 (by decide) rfl
  obtain ⟨c14, h14⟩ := int 14 (by decide) rfl
  obtain ⟨c15, h15⟩ := int 15 (by decide) rfl
  obtain ⟨c16, h16⟩ := bool 16 (by decide) rfl
  refine ⟨⟨c0, c1, c2, c3, c4, c5, c6, c7, c8, c9, c10, c11, c12, c13, c14, c15, c16⟩, congrArg Value.agg ?_⟩
  apply Array.ext'
  apply List.ext_getElem?
  intro k
  by_cases hk : k < 17
  · have : k = 0 ∨ k = 1 ∨ k = 2 ∨ k = 3 ∨ k = 4 ∨ k = 5 ∨ k = 6 ∨ k = 7 ∨ k = 8 ∨ k = 9 ∨ k = 10 ∨ k = 11 ∨ k = 12 ∨ k = 13 ∨ k = 14 ∨ k = 15 ∨ k = 16 := by omega
    rcases this with rfl | rfl | rfl | rfl | rfl | rfl | rfl | rfl | rfl | rfl | rfl | rfl | rfl | rfl | rfl | rfl | rfl
    · exact h0
    · exact h1
    · exact h2
    · exact h3
    · exact h4
    · exact h5
    · exact h6
    · exact h7
    · exact h8
    · exact h9
    · exact h10
    · exact h11
    · exact h12
    · exact h13
    · exact h14
    · exact h15
    · exact h16
  · rw [List.getElem?_eq_none (by simp; omega), List.getElem?_eq_none (by simp [insC]; omega)]
theorem wf_rng {n : Int} (h : (Lit.int .i64 n).wf = true) : -9223372036854775808 ≤ n ∧ n ≤ 9223372036854775807 := by
  have h' : (decide ((IntKind.i64).min ≤ n) && decide (n ≤ (IntKind.i64).max)) = true := h
  rw [Bool.and_eq_true, decide_eq_true_eq, decide_eq_true_eq, show (IntKind.i64).min = -9223372036854775808 from rfl, show (IntKind.i64).max = 9223372036854775807 from rfl] at h'
  exact h'
theorem ins_rng {H : Type} {enc : TypeId × Value → H} {W : World} {spare : Nat → Bool} {held : Bool} {base' : Nat} {i : In} {d : DataW H} {ps : List MemPlace}
    (h : DataW.Trod enc Tryz.prog W base' spare held 30 (.agg (insC i)) d ps) : (-9223372036854775808 ≤ i.imm ∧ i.imm ≤ 9223372036854775807) ∧ (-9223372036854775808 ≤ i.off ∧ i.off ≤ 9223372036854775807) := by
  obtain ⟨fs, hu, hfs⟩ := ins_fields
  obtain ⟨fuel, hf⟩ := h
  obtain ⟨xs, n, _, _, _, hlen, hx⟩ := DataW.trod_struct hu hf
  have int : ∀ k, k < 17 → insT k = 3 → ∀ m : Int, (insC i).toList[k]? = some (.int .i64 m) → -9223372036854775808 ≤ m ∧ m ≤ 9223372036854775807 := fun k hk ht m hm => by
    obtain ⟨f, hf1, ho, hty⟩ := hfs k hk
    have h1 := hx k f hf1
    have hl := (Array.getElem?_eq_some_iff.1 hf1).1
    rw [ho, hty, ht, int_cells, List.getElem?_eq_getElem (by omega)] at h1
    obtain ⟨m', h2, _, hw⟩ := DataW.trod_int Tryz.underlying3 h1
    have e := take_one h2
    have e2 : (insC i).toList[k]? = some (.int .i64 m') := e
    rw [hm] at e2
    cases e2
    exact wf_rng hw
  exact ⟨int 4 (by decide) rfl i.imm rfl, int 6 (by decide) rfl i.off rfl⟩
theorem tab_fac {W : World} (h : Lib.TabIs Tryz.prog W "internal/strconv.uint64pow10" .u64 Lib.pow10Tab) : ∃ o, W.heap[5]? = some o ∧ ∀ w : World, w.heap[5]? = some o → Lib.TabIs Tryz.prog w "internal/strconv.uint64pow10" .u64 Lib.pow10Tab := by
  have hg : Tryz.prog.globalNamed "internal/strconv.uint64pow10" = some 5 := by kernel_rfl
  cases ho : W.heap[5]? with
  | none => unfold Lib.TabIs World.var? at h; rw [hg] at h; simp [ho] at h
  | some o =>
    refine ⟨o, rfl, fun w hw => ?_⟩
    unfold Lib.TabIs World.var? at h ⊢
    rw [hg] at h ⊢
    simp only [Option.bind_some, ho, hw] at h ⊢
    exact h
theorem cell_fac {W : World} {b k : Nat} {v : Value} (h : W.cell? ⟨b, k, none⟩ = some v) : ∃ o, W.heap[b]? = some o ∧ ∀ w : World, w.heap[b]? = some o → w.cell? ⟨b, k, none⟩ = some v := by
  cases ho : W.heap[b]? with
  | none => unfold World.cell? at h; simp [ho] at h
  | some o =>
    refine ⟨o, rfl, fun w hw => ?_⟩
    unfold World.cell? at h ⊢
    simp only [ho, hw] at h ⊢
    exact h
theorem call_of {f : Nat} {args : List SV} {vs : List Value} {W : World} (hT : Lib.TabIs Tryz.prog W "internal/strconv.uint64pow10" .u64 Lib.pow10Tab) (m0 : Int) (hm : W.cell? ⟨0, 0, none⟩ = some (.int .i64 m0)) (ev : Value) (he : W.cell? ⟨1, 0, none⟩ = some ev) (hev : ev = .nilIface ∨ ∃ te pe, ev = .iface te pe) (hv : denL [] args = some vs)
    (h : ∀ os : List (Nat × Obj), (∀ w ks, Gl os w ks → ∃ m, w.cell? ⟨0, 0, none⟩ = some (.int .i64 m)) → (∀ w ks, Gl os w ks → Lib.TabIs Tryz.prog w "internal/strconv.uint64pow10" .u64 Lib.pow10Tab) → (∀ w ks, Gl os w ks → ∃ ev, w.cell? ⟨1, 0, none⟩ = some ev ∧ (ev = .nilIface ∨ ∃ te pe, ev = .iface te pe)) → FnI (Gl os) Tryz.prog f args [] (Rt .tt [])) : Calls Tryz.prog f vs.toArray W fun e W' => e = .returned (.bool true) ∧ Grow W W' := by
  obtain ⟨o5, k5, c5⟩ := tab_fac hT
  obtain ⟨o0, k0, c0⟩ := cell_fac hm
  obtain ⟨o1, k1, c1⟩ := cell_fac he
  have hG : Gl [(0, o0), (1, o1), (5, o5)] W [] := fun p hp => by
    simp only [List.mem_cons, List.not_mem_nil, or_false] at hp
    rcases hp with rfl | rfl | rfl
    · exact ⟨k0, rfl⟩
    · exact ⟨k1, rfl⟩
    · exact ⟨k5, rfl⟩
  have hf := h [(0, o0), (1, o1), (5, o5)] (fun w ks hg => ⟨m0, c0 w (hg (0, o0) (by simp)).1⟩) (fun w ks hg => c5 w (hg (5, o5) (by simp)).1) (fun w ks hg => ⟨ev, c1 w (hg (1, o1) (by simp)).1, hev⟩)
  have hM : Mem [] [] W := ⟨rfl, fun i e h => by simp at h, fun i j e f L M _ h => by simp at h⟩
  refine Calls.mono (hf.2 [] W vs hM hG hv) fun e W' hp => ?_
  obtain ⟨v, F, h1, h2, _, h4⟩ := post_ro hp (fun i e he => by simp at he)
  cases h1
  exact ⟨h2, h4⟩
end Go.Proofs.YtedlaclfhgneeaaGreatDoor
