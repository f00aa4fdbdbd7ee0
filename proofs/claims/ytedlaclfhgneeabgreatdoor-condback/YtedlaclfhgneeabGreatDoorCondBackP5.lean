/- CondBack, part 5: the engine, contracts, theory. -/
import Derived.Test.YtedlaclfhgneeabGreatDoorCondBackP4
import Derived.WalkSmall
import Derived.ProofKit
import Derived.OpenShut
import Derived.ChangeOld
import Derived.Deep.Slices
import Derived.Lib.LaidTab
namespace Go.Proofs.YtedlaclfhgneeabGreatDoor.Cd
open Go.RowKit
set_option linter.unusedVariables false
set_option linter.unusedSimpArgs false
set_option maxRecDepth 100000
set_option maxHeartbeats 2000000
set_option simprocs false
def stepP (R : List (List UInt8)) (c : Cn) (l : List Pc) : List Pc := l.take (((l.length : Nat) : Int) - parts0 c.k).toNat ++ [(wr0 R c.k c.t c.r c.l c.v l (((l.length : Nat) : Int) - parts0 c.k).toNat (l.length - (((l.length : Nat) : Int) - parts0 c.k).toNat), c.k)]
def foldP (R : List (List UInt8)) (cs : List Cn) : List Pc := cs.foldl (fun l c => stepP R c l) []
structure FI (R : List (List UInt8)) (cs : List Cn) (l : List Pc) (i : Nat) : Prop where
  lb : ∃ lb, EI oz cs lb i ∧ lb.length = l.length
  eq : l = foldP R (cs.take i)
theorem stepP_len {R : List (List UInt8)} {c : Cn} {l : List Pc} (h : 0 ≤ parts0 c.k) : (stepP R c l).length = (((l.length : Nat) : Int) - parts0 c.k).toNat + 1 := by
  unfold stepP; rw [List.length_append, List.length_take, List.length_cons, List.length_nil]; omega
section
variable {R : List (List UInt8)} {L : List Cn} {n i : Nat} {l : List Pc}
theorem FI.i0 (hr : right (L.take n) = true) : FI R (L.take n) [] 0 := ⟨⟨[], EI.i0 hr, rfl⟩, by simp [foldP]⟩
theorem FI.kn (hI : FI R (L.take n) l i) (hn : n ≤ L.length) (h1 : (i : Int) < ((n : Nat) : Int)) : ¬ (L.getD ((i : Int)).toNat Cn.z).n < 0 ∧ (L.getD ((i : Int)).toNat Cn.z).n ≤ (l.length : Int) ∧ (L.getD ((i : Int)).toNat Cn.z).n = parts0 (L.getD ((i : Int)).toNat Cn.z).k ∧ (((L.getD ((i : Int)).toNat Cn.z).k = 1 ∧ (L.getD ((i : Int)).toNat Cn.z).n = 0 ∧ 0 ≤ (L.getD ((i : Int)).toNat Cn.z).t ∧ (L.getD ((i : Int)).toNat Cn.z).t < 3 ∧ 0 ≤ (L.getD ((i : Int)).toNat Cn.z).r ∧ (L.getD ((i : Int)).toNat Cn.z).r < 8) ∨ ((L.getD ((i : Int)).toNat Cn.z).k = 2 ∧ (L.getD ((i : Int)).toNat Cn.z).n = 0 ∧ 0 ≤ (L.getD ((i : Int)).toNat Cn.z).l ∧ (L.getD ((i : Int)).toNat Cn.z).l < 3) ∨ ((L.getD ((i : Int)).toNat Cn.z).k = 3 ∧ (L.getD ((i : Int)).toNat Cn.z).n = 1) ∨ ((L.getD ((i : Int)).toNat Cn.z).k = 4 ∧ (L.getD ((i : Int)).toNat Cn.z).n = 2) ∨ ((L.getD ((i : Int)).toNat Cn.z).k = 5 ∧ (L.getD ((i : Int)).toNat Cn.z).n = 2)) ∧ l.length ≤ i := by
  obtain ⟨lb, h2, h3⟩ := hI.lb
  have := h2.kn hn h1
  rw [h3] at this
  exact this
theorem FI.nx (hI : FI R (L.take n) l i) (hr : right (L.take n) = true) (hn : n ≤ L.length) (h1 : (i : Int) < ((n : Nat) : Int)) : FI R (L.take n) (stepP R (L.getD ((i : Int)).toNat Cn.z) l) (i + 1) := by
  obtain ⟨lb, h2, h3⟩ := hI.lb
  have k := h2.kn hn h1
  refine ⟨⟨_, h2.nx hr hn h1, ?_⟩, ?_⟩
  · rw [← fold_st (p := oz) (l := lb) k.1 k.2.1 k.2.2.1 rfl, stepP_len (by omega), List.length_append, List.length_take, List.length_cons, List.length_nil, h3]; omega
  · have hi : i < (L.take n).length := by simp; omega
    rw [List.take_succ_eq_append_getElem hi, foldP, List.foldl_append, ← foldP, ← hI.eq]
    have e : (L.take n)[i] = (L.getD ((i : Int)).toNat Cn.z) := by simp [List.getD, show i < L.length by omega]
    rw [e]; rfl
theorem FI.fi (hI : FI R (L.take n) l i) (hr : right (L.take n) = true) (hn : n ≤ L.length) (h1 : ¬ (i : Int) < ((n : Nat) : Int)) : l.length = 1 ∧ l = foldP R (L.take n) := by
  obtain ⟨lb, h2, h3⟩ := hI.lb
  have := h2.fi hr hn h1
  have he := hI.eq
  rw [List.take_of_length_le (by simp; omega)] at he
  exact ⟨by omega, he⟩
theorem FI.sm (hI : FI R (L.take n) l i) (hl : ∀ i q, ((foldP R ((L.take n).take i)).getD q pz).1.length ≤ 1000000) : ∀ q, (l.getD q pz).1.length ≤ 1000000 := fun q => by rw [hI.eq]; exact hl i q
theorem papp1 {k : Nat} {x : Pc} (h : k ≤ l.length) : (l.take k ++ [x]).getD k pz = x := by
  have := getD_app_1 (l := l.take k) (x := x) (d := pz)
  rw [List.length_take, Nat.min_eq_left h] at this; exact this
end
theorem foldp_ (R : List (List UInt8)) (L : List Cn) (n : Nat) (c : Nat) (b : Nat) (o : Obj) (hT : ∀ w : World, w.heap[b]? = some o → Lib.TabIs Tryz.prog w "internal/strconv.uint64pow10" .u64 Lib.pow10Tab) (hn : n ≤ L.length) (hN : n ≤ 1000000) (hr : right (L.take n) = true) (hv : ∀ q, -9223372036854775808 ≤ (L.getD q Cn.z).v ∧ (L.getD q Cn.z).v ≤ 9223372036854775807) (hl : ∀ i q, ((foldP R ((L.take n).take i)).getD q pz).1.length ≤ 1000000) (qR : ∀ q, (R.getD q []).length ≤ 100) (hR : 8 ≤ R.length) : Fn Tryz.prog 52 [.sl 0 n c, .fn 53 [.ptr 1 0]] [some (.lst 5 L.length (fun zz => cc (L.getD zz Cn.z))), some (.blk [.sl 2 R.length 8]), some (.row 9 1 R.length 8 (fun zz => [.str (R.getD zz [])])), some (.fac b o)] (Rt (.agg [.str (((foldP R (L.take n)).getD 0 pz).1), .int .i64 (((foldP R (L.take n)).getD 0 pz).2)]) [some (.lst 5 L.length (fun zz => cc (L.getD zz Cn.z))), some (.blk [.sl 2 R.length 8]), some (.row 9 1 R.length 8 (fun zz => [.str (R.getD zz [])])), some (.fac b o)]) :=
 enterM (n := 36) (by kernel_rfl) Tryz.func52 rfl rfl rfl fun G w a h0 A => N hX 19 A rfl rfl fun A => have A := A.nilRow 5 114 2 (fun zz => [.str (([] : List Pc).getD zz pz).1, .int .i64 (([] : List Pc).getD zz pz).2]) rfl (fun z => ⟨_, rfl, rfl⟩); LOOP2 (fun (l : List Pc) (i : Nat) => [(1, .fn 53 [.ptr 1 0]), (4, .ptr 4 0), (5, .sl 5 l.length 0), (9, .sl 0 n c), (10, .int .i64 ((n : Nat) : Int)), (11, .int .i64 (i : Int))]) (fun (l : List Pc) (i : Nat) => [some (.lst 5 L.length (fun zz => cc (L.getD zz Cn.z))), some (.blk [.sl 2 R.length 8]), some (.row 9 1 R.length 8 (fun zz => [.str (R.getD zz [])])), some (.fac b o), some (.blk [.str [], .int .i64 0]), some (.row 114 2 l.length 0 (fun zz => [.str (l.getD zz pz).1, .int .i64 (l.getD zz pz).2]))]) (fun (l : List Pc) (i : Nat) => FI R (L.take n) l i) (fun (l : List Pc) (i : Nat) => n - i) [] 0 (FI.i0 hr) ((A.cut [1, 4, 5, 9, 10, 11] rfl).trunc 6 rfl rfl rfl (by simp only [List.length_cons, List.length_nil] at h0; omega)) fun l i hI {G a w} A => N hX 6 A rfl rfl fun A => forkD 12 A rfl
   (fun h1 A => N hX 14 A rfl (ok_d (by have hq := hI.kn hn h1; omega) <| ok_d (by have hq := hI.kn hn h1; omega) <| okE_nil) fun A => N hX 5 A rfl rfl fun A => CALL1 [] (parts_ ((L.getD (((i : Int)).toNat) Cn.z).k)) A rfl rfl rfl rfl rfl rfl rfl fun A => N hX 4 A rfl (ok_d (by have hq := hI.kn hn h1; omega) <| okE_nil) fun A => DRAWN hX hmo [] [(8, .agg [.str (wr0 R ((L.getD (((i : Int)).toNat) Cn.z).k) ((L.getD (((i : Int)).toNat) Cn.z).t) ((L.getD (((i : Int)).toNat) Cn.z).r) ((L.getD (((i : Int)).toNat) Cn.z).l) ((L.getD (((i : Int)).toNat) Cn.z).v) l ((((l.length : Nat) : Int) - (parts0 ((L.getD (((i : Int)).toNat) Cn.z).k))).toNat) (l.length - (((l.length : Nat) : Int) - (parts0 ((L.getD (((i : Int)).toNat) Cn.z).k))).toNat)), .int .i64 ((L.getD (((i : Int)).toNat) Cn.z).k)], [some (.lst 5 L.length (fun zz => cc (L.getD zz Cn.z))), some (.blk [.sl 2 R.length 8]), some (.row 9 1 R.length 8 (fun zz => [.str (R.getD zz [])])), some (.fac b o), some (.blk [.str [], .int .i64 0]), some (.row 114 2 l.length 0 (fun zz => [.str (l.getD zz pz).1, .int .i64 (l.getD zz pz).2])), some (.blk [.int .i64 ((L.getD (((i : Int)).toNat) Cn.z).k), .int .i64 ((L.getD (((i : Int)).toNat) Cn.z).t), .int .i64 ((L.getD (((i : Int)).toNat) Cn.z).r), .int .i64 ((L.getD (((i : Int)).toNat) Cn.z).l), .int .i64 ((L.getD (((i : Int)).toNat) Cn.z).v)])]), (10, .sl 8 (((((l.length : Nat) : Int) - (parts0 ((L.getD (((i : Int)).toNat) Cn.z).k))).toNat) + 1) 0, [some (.lst 5 L.length (fun zz => cc (L.getD zz Cn.z))), some (.blk [.sl 2 R.length 8]), some (.row 9 1 R.length 8 (fun zz => [.str (R.getD zz [])])), some (.fac b o), some (.blk [.str [], .int .i64 0]), none, some (.blk [.int .i64 ((L.getD (((i : Int)).toNat) Cn.z).k), .int .i64 ((L.getD (((i : Int)).toNat) Cn.z).t), .int .i64 ((L.getD (((i : Int)).toNat) Cn.z).r), .int .i64 ((L.getD (((i : Int)).toNat) Cn.z).l), .int .i64 ((L.getD (((i : Int)).toNat) Cn.z).v)]), some (.blk [.str (wr0 R ((L.getD (((i : Int)).toNat) Cn.z).k) ((L.getD (((i : Int)).toNat) Cn.z).t) ((L.getD (((i : Int)).toNat) Cn.z).r) ((L.getD (((i : Int)).toNat) Cn.z).l) ((L.getD (((i : Int)).toNat) Cn.z).v) l ((((l.length : Nat) : Int) - (parts0 ((L.getD (((i : Int)).toNat) Cn.z).k))).toNat) (l.length - (((l.length : Nat) : Int) - (parts0 ((L.getD (((i : Int)).toNat) Cn.z).k))).toNat)), .int .i64 ((L.getD (((i : Int)).toNat) Cn.z).k)]), some (.row 114 2 (((((l.length : Nat) : Int) - (parts0 ((L.getD (((i : Int)).toNat) Cn.z).k))).toNat) + 1) 0 (fun zz => [.str ((l.take ((((l.length : Nat) : Int) - (parts0 ((L.getD (((i : Int)).toNat) Cn.z).k))).toNat) ++ [(wr0 R ((L.getD (((i : Int)).toNat) Cn.z).k) ((L.getD (((i : Int)).toNat) Cn.z).t) ((L.getD (((i : Int)).toNat) Cn.z).r) ((L.getD (((i : Int)).toNat) Cn.z).l) ((L.getD (((i : Int)).toNat) Cn.z).v) l ((((l.length : Nat) : Int) - (parts0 ((L.getD (((i : Int)).toNat) Cn.z).k))).toNat) (l.length - (((l.length : Nat) : Int) - (parts0 ((L.getD (((i : Int)).toNat) Cn.z).k))).toNat), (L.getD (((i : Int)).toNat) Cn.z).k)]).getD zz pz).1, .int .i64 ((l.take ((((l.length : Nat) : Int) - (parts0 ((L.getD (((i : Int)).toNat) Cn.z).k))).toNat) ++ [(wr0 R ((L.getD (((i : Int)).toNat) Cn.z).k) ((L.getD (((i : Int)).toNat) Cn.z).t) ((L.getD (((i : Int)).toNat) Cn.z).r) ((L.getD (((i : Int)).toNat) Cn.z).l) ((L.getD (((i : Int)).toNat) Cn.z).v) l ((((l.length : Nat) : Int) - (parts0 ((L.getD (((i : Int)).toNat) Cn.z).k))).toNat) (l.length - (((l.length : Nat) : Int) - (parts0 ((L.getD (((i : Int)).toNat) Cn.z).k))).toNat), (L.getD (((i : Int)).toNat) Cn.z).k)]).getD zz pz).2]))])] A rfl (ok_d (by show 0 ≤ ((l.length : Nat) : Int) - (parts0 ((L.getD (((i : Int)).toNat) Cn.z).k)) ∧ ((l.length : Nat) : Int) - (parts0 ((L.getD (((i : Int)).toNat) Cn.z).k)) ≤ ((l.length : Nat) : Int); exact (by have hq := hI.kn hn h1; omega)) <| ok_d (by show 0 ≤ ((l.length : Nat) : Int) - (parts0 ((L.getD (((i : Int)).toNat) Cn.z).k)) ∧ ((l.length : Nat) : Int) - (parts0 ((L.getD (((i : Int)).toNat) Cn.z).k)) ≤ ((l.length : Nat) : Int); exact (by have hq := hI.kn hn h1; omega)) <| ok_d (by show 0 ≤ ((l.length : Nat) : Int) - (parts0 ((L.getD (((i : Int)).toNat) Cn.z).k)) ∧ ((l.length : Nat) : Int) - (parts0 ((L.getD (((i : Int)).toNat) Cn.z).k)) ≤ ((l.length : Nat) : Int); exact (by have hq := hI.kn hn h1; omega)) <| ok_d (by have hq := hI.kn hn h1; omega) <| okE_nil) rfl rfl (by kernel_rfl) ⟨callE [1, 2, 5, 3] (pone_ R ((L.getD (((i : Int)).toNat) Cn.z).k) ((L.getD (((i : Int)).toNat) Cn.z).t) ((L.getD (((i : Int)).toNat) Cn.z).r) ((L.getD (((i : Int)).toNat) Cn.z).l) ((L.getD (((i : Int)).toNat) Cn.z).v) l ((((l.length : Nat) : Int) - (parts0 ((L.getD (((i : Int)).toNat) Cn.z).k))).toNat) (l.length - (((l.length : Nat) : Int) - (parts0 ((L.getD (((i : Int)).toNat) Cn.z).k))).toNat) b o hT (by have hq := hI.kn hn h1; omega) (by have hq := hI.kn hn h1; omega) (by have hq := hI.kn hn h1; omega) (by have hq := hI.kn hn h1; omega) (by have hq := hI.kn hn h1; omega) (hv _) (hI.sm hl) qR hR) rfl rfl rfl rfl rfl rfl rfl, ⟨trivial, ⟨eff_shrink (e := 114) (s := 2) 5 ((((l.length : Nat) : Int) - (parts0 ((L.getD (((i : Int)).toNat) Cn.z).k))).toNat) rfl (by have hq := hI.kn hn h1; omega) (appE (i := 5) (e := 114) (s := 2) hX (((((l.length : Nat) : Int) - (parts0 ((L.getD (((i : Int)).toNat) Cn.z).k))).toNat) + 1) (fun zz => [.str ((l.take ((((l.length : Nat) : Int) - (parts0 ((L.getD (((i : Int)).toNat) Cn.z).k))).toNat) ++ [(wr0 R ((L.getD (((i : Int)).toNat) Cn.z).k) ((L.getD (((i : Int)).toNat) Cn.z).t) ((L.getD (((i : Int)).toNat) Cn.z).r) ((L.getD (((i : Int)).toNat) Cn.z).l) ((L.getD (((i : Int)).toNat) Cn.z).v) l ((((l.length : Nat) : Int) - (parts0 ((L.getD (((i : Int)).toNat) Cn.z).k))).toNat) (l.length - (((l.length : Nat) : Int) - (parts0 ((L.getD (((i : Int)).toNat) Cn.z).k))).toNat), (L.getD (((i : Int)).toNat) Cn.z).k)]).getD zz pz).1, .int .i64 ((l.take ((((l.length : Nat) : Int) - (parts0 ((L.getD (((i : Int)).toNat) Cn.z).k))).toNat) ++ [(wr0 R ((L.getD (((i : Int)).toNat) Cn.z).k) ((L.getD (((i : Int)).toNat) Cn.z).t) ((L.getD (((i : Int)).toNat) Cn.z).r) ((L.getD (((i : Int)).toNat) Cn.z).l) ((L.getD (((i : Int)).toNat) Cn.z).v) l ((((l.length : Nat) : Int) - (parts0 ((L.getD (((i : Int)).toNat) Cn.z).k))).toNat) (l.length - (((l.length : Nat) : Int) - (parts0 ((L.getD (((i : Int)).toNat) Cn.z).k))).toNat), (L.getD (((i : Int)).toNat) Cn.z).k)]).getD zz pz).2]) rfl rfl rfl rfl (by have hq := hI.kn hn h1; omega) rfl (fun q hq => by show [SV.str _, SV.int _ _] = [SV.str _, SV.int _ _]; rw [getD_app_l (by rw [List.length_take]; have hq := hI.kn hn h1; omega), getD_take hq]) (by show [SV.str _, SV.int _ _] = _; rw [papp1 (by have hq := hI.kn hn h1; omega)]) (fun z => ⟨_, rfl, rfl⟩)), trivial⟩⟩⟩ trivial fun A => N hX 6 A rfl (ok_d (by have hq := hI.kn hn h1; omega) <| okE_nil) fun A => ⟨stepP R (L.getD ((i : Int)).toNat Cn.z) l, i + 1, _, (by omega), (hI.nx hr hn h1), ((((A.rowAs 8 (stepP R (L.getD ((i : Int)).toNat Cn.z) l).length (fun zz => [.str ((stepP R (L.getD ((i : Int)).toNat Cn.z) l).getD zz pz).1, .int .i64 ((stepP R (L.getD ((i : Int)).toNat Cn.z) l).getD zz pz).2]) rfl (stepP_len (R := R) (c := (L.getD ((i : Int)).toNat Cn.z)) (l := l) (by have hq := hI.kn hn h1; omega)) (fun q hq => rfl) (fun z => ⟨_, rfl, rfl⟩)).say 5 (.sl 8 (stepP R (L.getD ((i : Int)).toNat Cn.z) l).length 0) rfl (by rw [(stepP_len (R := R) (c := (L.getD ((i : Int)).toNat Cn.z)) (l := l) (by have hq := hI.kn hn h1; omega))])).cut [1, 4, 5, 9, 10, 11] rfl).mv 4 [4, 8] rfl rfl rfl rfl (by simp only [List.length_cons, List.length_nil] at h0; omega))⟩)
   (fun h1 A => N hX 12 A rfl (ok_d (by have hq := (hI.fi hr hn h1).1; omega) <| ok_d (by have hq := (hI.fi hr hn h1).1; omega) <| okE_nil) fun A => RETN hX A rfl rfl rfl h0 rfl rfl rfl rfl (by rw [← (hI.fi hr hn h1).2]; rfl) rfl)
theorem rgL_len {nf : Int → List UInt8} (h : ∀ x, (nf x).length ≤ 20) (q : Nat) : ((rgL nf).getD q []).length ≤ 100 := by
  by_cases hq : q < 8
  · have : q = 0 ∨ q = 1 ∨ q = 2 ∨ q = 3 ∨ q = 4 ∨ q = 5 ∨ q = 6 ∨ q = 7 := by omega
    rcases this with e | e | e | e | e | e | e | e <;> subst e <;> exact Nat.le_trans (h _) (by decide)
  · rw [List.getD_eq_getElem?_getD, List.getElem?_eq_none (by show 8 ≤ q; omega)]; decide
theorem nameF_len (x : Int) : (Old.nameF x).length ≤ 20 := by
  by_cases h0 : x < 0
  · rw [Old.name_neg h0]; decide
  · by_cases h7 : x > 7
    · rw [Old.name_big h7]; decide
    · have : x = 0 ∨ x = 1 ∨ x = 2 ∨ x = 3 ∨ x = 4 ∨ x = 5 ∨ x = 6 ∨ x = 7 := by omega
      rcases this with e | e | e | e | e | e | e | e <;> subst e <;> decide
theorem nameV_len (x : Int) : (nameV x).length ≤ 20 := by
  unfold nameV; split
  · decide
  · by_cases h7 : x > 7
    · rw [List.getElem?_eq_none (by show 8 ≤ x.toNat; omega)]; decide
    · have : x = 0 ∨ x = 1 ∨ x = 2 ∨ x = 3 ∨ x = 4 ∨ x = 5 ∨ x = 6 ∨ x = 7 := by omega
      rcases this with e | e | e | e | e | e | e | e <;> subst e <;> decide
theorem nameA_len (x : Int) : (nameA x).length ≤ 20 := by
  unfold nameA; split
  · decide
  · by_cases h7 : x > 7
    · rw [List.getElem?_eq_none (by show 8 ≤ x.toNat; omega)]; decide
    · have : x = 0 ∨ x = 1 ∨ x = 2 ∨ x = 3 ∨ x = 4 ∨ x = 5 ∨ x = 6 ∨ x = 7 := by omega
      rcases this with e | e | e | e | e | e | e | e <;> subst e <;> decide
theorem print1_ (L : List Cn) (n : Nat) (c : Nat) (b : Nat) (o : Obj) (hT : ∀ w : World, w.heap[b]? = some o → Lib.TabIs Tryz.prog w "internal/strconv.uint64pow10" .u64 Lib.pow10Tab) (hn : n ≤ L.length) (hN : n ≤ 1000000) (hr : right (L.take n) = true) (hv : ∀ q, -9223372036854775808 ≤ (L.getD q Cn.z).v ∧ (L.getD q Cn.z).v ≤ 9223372036854775807) (hl : ∀ i q, ((foldP (rgL Old.nameF) ((L.take n).take i)).getD q pz).1.length ≤ 1000000) : Fn Tryz.prog 22 [.int .i64 1, .sl 0 n c] [some (.lst 5 L.length (fun zz => cc (L.getD zz Cn.z))), some (.fac b o)] (Rt (.tup [.str (((foldP (rgL Old.nameF) (L.take n)).getD 0 pz).1), .int .i64 0]) [some (.lst 5 L.length (fun zz => cc (L.getD zz Cn.z))), some (.fac b o)]) :=
 enterM (n := 20) (by kernel_rfl) Tryz.func22 rfl rfl rfl fun G w a h0 A => N hX 9 A rfl rfl fun A => CALL1 [] regs1_ A rfl rfl rfl rfl rfl rfl rfl fun A => N hX 8 A rfl rfl fun A => NILR hX A rfl rfl (by omega) fun A => N hX 9 A rfl rfl fun A => CALL1 [0] (pright_ L n c hn) A rfl rfl rfl rfl rfl rfl rfl fun A => N hX 3 A rfl rfl fun A => fork 14 A rfl
  (fun h1 A => absurd h1 (by rw [hr]; decide))
  (fun h1 A => N hX 7 A rfl rfl fun A => CALL1 [0, 3, 2, 1] (foldp_ (rgL Old.nameF) L n c b o hT hn hN hr hv hl (rgL_len nameF_len) (by decide)) A rfl rfl rfl rfl rfl rfl rfl fun A => N hX 13 A rfl rfl fun A => RETN hX A rfl rfl rfl h0 rfl rfl rfl rfl rfl rfl)
theorem print1n_ (L : List Cn) (n : Nat) (c : Nat) (hn : n ≤ L.length) (hr : right (L.take n) = false) : Fn Tryz.prog 22 [.int .i64 1, .sl 0 n c] [some (.lst 5 L.length (fun zz => cc (L.getD zz Cn.z)))] (Rt (.tup [.str [], .int .i64 22]) [some (.lst 5 L.length (fun zz => cc (L.getD zz Cn.z)))]) :=
 enterM (n := 20) (by kernel_rfl) Tryz.func22 rfl rfl rfl fun G w a h0 A => N hX 9 A rfl rfl fun A => CALL1 [] regs1_ A rfl rfl rfl rfl rfl rfl rfl fun A => N hX 8 A rfl rfl fun A => NILR hX A rfl rfl (by omega) fun A => N hX 9 A rfl rfl fun A => CALL1 [0] (pright_ L n c hn) A rfl rfl rfl rfl rfl rfl rfl fun A => N hX 3 A rfl rfl fun A => fork 14 A rfl
  (fun h1 A => N hX 8 A rfl rfl fun A => RETN hX A rfl rfl rfl h0 rfl rfl rfl rfl rfl rfl)
  (fun h1 A => absurd h1 (by rw [hr]; decide))
theorem print2_ (L : List Cn) (n : Nat) (c : Nat) (b : Nat) (o : Obj) (hT : ∀ w : World, w.heap[b]? = some o → Lib.TabIs Tryz.prog w "internal/strconv.uint64pow10" .u64 Lib.pow10Tab) (hn : n ≤ L.length) (hN : n ≤ 1000000) (hr : right (L.take n) = true) (hv : ∀ q, -9223372036854775808 ≤ (L.getD q Cn.z).v ∧ (L.getD q Cn.z).v ≤ 9223372036854775807) (hl : ∀ i q, ((foldP (rgL nameV) ((L.take n).take i)).getD q pz).1.length ≤ 1000000) : Fn Tryz.prog 22 [.int .i64 2, .sl 0 n c] [some (.lst 5 L.length (fun zz => cc (L.getD zz Cn.z))), some (.fac b o)] (Rt (.tup [.str (((foldP (rgL nameV) (L.take n)).getD 0 pz).1), .int .i64 0]) [some (.lst 5 L.length (fun zz => cc (L.getD zz Cn.z))), some (.fac b o)]) :=
 enterM (n := 20) (by kernel_rfl) Tryz.func22 rfl rfl rfl fun G w a h0 A => N hX 9 A rfl rfl fun A => CALL1 [] regs2_ A rfl rfl rfl rfl rfl rfl rfl fun A => N hX 8 A rfl rfl fun A => NILR hX A rfl rfl (by omega) fun A => N hX 9 A rfl rfl fun A => CALL1 [0] (pright_ L n c hn) A rfl rfl rfl rfl rfl rfl rfl fun A => N hX 3 A rfl rfl fun A => fork 14 A rfl
  (fun h1 A => absurd h1 (by rw [hr]; decide))
  (fun h1 A => N hX 7 A rfl rfl fun A => CALL1 [0, 3, 2, 1] (foldp_ (rgL nameV) L n c b o hT hn hN hr hv hl (rgL_len nameV_len) (by decide)) A rfl rfl rfl rfl rfl rfl rfl fun A => N hX 13 A rfl rfl fun A => RETN hX A rfl rfl rfl h0 rfl rfl rfl rfl rfl rfl)
theorem print2n_ (L : List Cn) (n : Nat) (c : Nat) (hn : n ≤ L.length) (hr : right (L.take n) = false) : Fn Tryz.prog 22 [.int .i64 2, .sl 0 n c] [some (.lst 5 L.length (fun zz => cc (L.getD zz Cn.z)))] (Rt (.tup [.str [], .int .i64 22]) [some (.lst 5 L.length (fun zz => cc (L.getD zz Cn.z)))]) :=
 enterM (n := 20) (by kernel_rfl) Tryz.func22 rfl rfl rfl fun G w a h0 A => N hX 9 A rfl rfl fun A => CALL1 [] regs2_ A rfl rfl rfl rfl rfl rfl rfl fun A => N hX 8 A rfl rfl fun A => NILR hX A rfl rfl (by omega) fun A => N hX 9 A rfl rfl fun A => CALL1 [0] (pright_ L n c hn) A rfl rfl rfl rfl rfl rfl rfl fun A => N hX 3 A rfl rfl fun A => fork 14 A rfl
  (fun h1 A => N hX 8 A rfl rfl fun A => RETN hX A rfl rfl rfl h0 rfl rfl rfl rfl rfl rfl)
  (fun h1 A => absurd h1 (by rw [hr]; decide))
theorem print3_ (L : List Cn) (n : Nat) (c : Nat) (b : Nat) (o : Obj) (hT : ∀ w : World, w.heap[b]? = some o → Lib.TabIs Tryz.prog w "internal/strconv.uint64pow10" .u64 Lib.pow10Tab) (hn : n ≤ L.length) (hN : n ≤ 1000000) (hr : right (L.take n) = true) (hv : ∀ q, -9223372036854775808 ≤ (L.getD q Cn.z).v ∧ (L.getD q Cn.z).v ≤ 9223372036854775807) (hl : ∀ i q, ((foldP (rgL nameA) ((L.take n).take i)).getD q pz).1.length ≤ 1000000) : Fn Tryz.prog 22 [.int .i64 3, .sl 0 n c] [some (.lst 5 L.length (fun zz => cc (L.getD zz Cn.z))), some (.fac b o)] (Rt (.tup [.str (((foldP (rgL nameA) (L.take n)).getD 0 pz).1), .int .i64 0]) [some (.lst 5 L.length (fun zz => cc (L.getD zz Cn.z))), some (.fac b o)]) :=
 enterM (n := 20) (by kernel_rfl) Tryz.func22 rfl rfl rfl fun G w a h0 A => N hX 9 A rfl rfl fun A => CALL1 [] regs3_ A rfl rfl rfl rfl rfl rfl rfl fun A => N hX 8 A rfl rfl fun A => NILR hX A rfl rfl (by omega) fun A => N hX 9 A rfl rfl fun A => CALL1 [0] (pright_ L n c hn) A rfl rfl rfl rfl rfl rfl rfl fun A => N hX 3 A rfl rfl fun A => fork 14 A rfl
  (fun h1 A => absurd h1 (by rw [hr]; decide))
  (fun h1 A => N hX 7 A rfl rfl fun A => CALL1 [0, 3, 2, 1] (foldp_ (rgL nameA) L n c b o hT hn hN hr hv hl (rgL_len nameA_len) (by decide)) A rfl rfl rfl rfl rfl rfl rfl fun A => N hX 13 A rfl rfl fun A => RETN hX A rfl rfl rfl h0 rfl rfl rfl rfl rfl rfl)
theorem print3n_ (L : List Cn) (n : Nat) (c : Nat) (hn : n ≤ L.length) (hr : right (L.take n) = false) : Fn Tryz.prog 22 [.int .i64 3, .sl 0 n c] [some (.lst 5 L.length (fun zz => cc (L.getD zz Cn.z)))] (Rt (.tup [.str [], .int .i64 22]) [some (.lst 5 L.length (fun zz => cc (L.getD zz Cn.z)))]) :=
 enterM (n := 20) (by kernel_rfl) Tryz.func22 rfl rfl rfl fun G w a h0 A => N hX 9 A rfl rfl fun A => CALL1 [] regs3_ A rfl rfl rfl rfl rfl rfl rfl fun A => N hX 8 A rfl rfl fun A => NILR hX A rfl rfl (by omega) fun A => N hX 9 A rfl rfl fun A => CALL1 [0] (pright_ L n c hn) A rfl rfl rfl rfl rfl rfl rfl fun A => N hX 3 A rfl rfl fun A => fork 14 A rfl
  (fun h1 A => N hX 8 A rfl rfl fun A => RETN hX A rfl rfl rfl h0 rfl rfl rfl rfl rfl rfl)
  (fun h1 A => absurd h1 (by rw [hr]; decide))
end Go.Proofs.YtedlaclfhgneeabGreatDoor.Cd
namespace Go.Proofs.YtedlaclfhgneeabGreatDoor.Cd
open Go.RowKit
set_option linter.unusedVariables false
set_option linter.unusedSimpArgs false
set_option maxRecDepth 100000
theorem node_full {c : Cn} (h : ¬ c.n < 0) : (c.k = 1 ∧ c.n = 0 ∧ 0 ≤ c.t ∧ c.t < 3 ∧ 0 ≤ c.r ∧ c.r < 8 ∧ c.l = 0) ∨ (c.k = 2 ∧ c.n = 0 ∧ 0 ≤ c.l ∧ c.l < 3 ∧ c.t = 0 ∧ c.r = 0) ∨ (c = ⟨3, 0, 0, 0, 0⟩ ∧ c.n = 1) ∨ (c = ⟨4, 0, 0, 0, 0⟩ ∧ c.n = 2) ∨ (c = ⟨5, 0, 0, 0, 0⟩ ∧ c.n = 2) := by
  rcases nd_any c with ⟨h1, h2⟩ | ⟨_, h2⟩
  · rw [h2]
    obtain ⟨k, t, r, l, v⟩ := c
    simp only at h1 ⊢
    unfold node0 at h1
    unfold parts0
    by_cases k1 : k = 1
    · subst k1
      rw [if_pos rfl] at h1
      split at h1
      · next hh =>
        simp only [Bool.and_eq_true, decide_eq_true_eq, beq_iff_eq] at h1 hh
        exact .inl ⟨rfl, rfl, hh.1, hh.2, h1.1.1, h1.1.2, h1.2⟩
      · cases h1
    · rw [if_neg k1] at h1
      by_cases k2 : k = 2
      · subst k2
        rw [if_pos rfl] at h1
        simp only [Bool.and_eq_true, decide_eq_true_eq, beq_iff_eq] at h1
        exact .inr (.inl ⟨rfl, rfl, h1.1.1.1, h1.1.1.2, h1.1.2, h1.2⟩)
      · rw [if_neg k2] at h1
        by_cases k3 : k = 3
        · subst k3
          rw [if_pos rfl] at h1
          simp only [Bool.and_eq_true, beq_iff_eq] at h1
          obtain ⟨_, rfl, rfl, rfl, rfl⟩ := h1
          exact .inr (.inr (.inl ⟨rfl, rfl⟩))
        · rw [if_neg k3] at h1
          by_cases k4 : k = 4
          · subst k4
            rw [if_pos rfl] at h1
            simp only [Bool.and_eq_true, beq_iff_eq] at h1
            obtain ⟨_, rfl, rfl, rfl, rfl⟩ := h1
            exact .inr (.inr (.inr (.inl ⟨rfl, rfl⟩)))
          · rw [if_neg k4] at h1
            by_cases k5 : k = 5
            · subst k5
              rw [if_pos rfl] at h1
              simp only [Bool.and_eq_true, beq_iff_eq] at h1
              obtain ⟨_, rfl, rfl, rfl, rfl⟩ := h1
              exact .inr (.inr (.inr (.inr ⟨rfl, rfl⟩)))
            · rw [if_neg k5] at h1; cases h1
  · omega
theorem n_leaf {c : Cn} (h : (c.k = 1 ∧ 0 ≤ c.t ∧ c.t < 3 ∧ 0 ≤ c.r ∧ c.r < 8 ∧ c.l = 0) ∨ (c.k = 2 ∧ 0 ≤ c.l ∧ c.l < 3 ∧ c.t = 0 ∧ c.r = 0)) : c.n = 0 := by
  rcases nd_any c with ⟨h1, h2⟩ | ⟨h1, _⟩
  · rw [h2]; unfold parts0; rw [if_neg (by omega), if_neg (by omega), if_neg (by omega)]
  · exfalso
    obtain ⟨k, t, r, l, v⟩ := c
    simp only at h1 h
    unfold node0 at h1
    rcases h with ⟨k1, a1, a2, a3, a4, a5⟩ | ⟨k1, a1, a2, a3, a4⟩
    · rw [if_pos k1, if_pos (by simp only [Bool.and_eq_true, decide_eq_true_eq]; exact ⟨a1, a2⟩), decide_eq_true a3, decide_eq_true a4, a5] at h1; cases h1
    · rw [if_neg (by omega), if_pos k1, decide_eq_true a1, decide_eq_true a2, a3, a4] at h1; cases h1
theorem right_rows : ∀ (t : Tre), t.ok → ∀ (rest : List Cn) (h : Int), 0 ≤ h → rightGo (t.rows ++ rest) h = rightGo rest (h + 1)
  | .lf c, ok, rest, h, h0 => by
    show rightGo (c :: rest) h = _
    have e := n_leaf ok.1
    rw [rightGo, e, if_neg (by omega), show h - 0 + 1 = h + 1 by omega]
  | .un c t, ok, rest, h, h0 => by
    have hc : c.n = 1 := by rw [ok.1]; rfl
    rw [Tre.rows, List.append_assoc, right_rows t ok.2 _ h h0]
    show rightGo (c :: rest) (h + 1) = _
    rw [rightGo, hc, if_neg (by omega), show h + 1 - 1 + 1 = h + 1 by omega]
  | .bi c l r, ok, rest, h, h0 => by
    have hc : c.n = 2 := by rcases ok.1 with e | e <;> rw [e] <;> rfl
    rw [Tre.rows, List.append_assoc, List.append_assoc, right_rows l ok.2.1 _ h h0, right_rows r ok.2.2 _ (h + 1) (by omega)]
    show rightGo (c :: rest) (h + 1 + 1) = _
    rw [rightGo, hc, if_neg (by omega), show h + 1 + 1 - 2 + 1 = h + 1 by omega]
theorem rows_pos : ∀ t : Tre, 0 < t.rows.length
  | .lf c => by show 0 < 1; omega
  | .un c t => by rw [Tre.rows, List.length_append]; show 0 < _ + 1; omega
  | .bi c l r => by rw [Tre.rows, List.length_append]; show 0 < _ + 1; omega
theorem right_tree {t : Tre} (ok : t.ok) (hl : t.rows.length ≤ 32) : right t.rows = true := by
  unfold right
  have := rows_pos t
  rw [if_neg (by omega)]
  have := right_rows t ok [] 0 (by omega)
  rw [List.append_nil] at this
  rw [this]; rfl
theorem rows_val : ∀ (t : Tre), t.ok → ∀ c ∈ t.rows, okV c.v
  | .lf c, ok, x, hx => by rw [List.mem_singleton.1 hx]; exact ok.2
  | .un c t, ok, x, hx => by
    rw [Tre.rows] at hx
    rcases List.mem_append.1 hx with hx | hx
    · exact rows_val t ok.2 x hx
    · rw [List.mem_singleton.1 hx, ok.1]; exact ⟨by decide, by decide⟩
  | .bi c l r, ok, x, hx => by
    rw [Tre.rows] at hx
    rcases List.mem_append.1 hx with hx | hx
    · rcases List.mem_append.1 hx with hx | hx
      · exact rows_val l ok.2.1 x hx
      · exact rows_val r ok.2.2 x hx
    · rw [List.mem_singleton.1 hx]
      rcases ok.1 with e | e <;> rw [e] <;> exact ⟨by decide, by decide⟩
/-! ### The stack of texts is the stack of trees -/
def gT (nf : Int → List UInt8) (t : Tre) : Pc := (txT nf t, t.c.k)
theorem ap45 (s : List UInt8) (k : Int) : apT [4, 5] s k = bkT s (lvl k) 2 := by
  unfold apT bkT lvl
  by_cases h5 : k = 5
  · subst h5; rfl
  · by_cases h4 : k = 4
    · subst h4; rfl
    · have : ixf k [4, 5] 0 = -1 := by simp [ixf, h4, h5]
      rw [this, if_neg h5, if_neg h4, if_neg (by decide)]; rfl
theorem ap5 (s : List UInt8) (k : Int) : apT [5] s k = bkT s (lvl k) 1 := by
  unfold apT bkT lvl
  by_cases h5 : k = 5
  · subst h5; rfl
  · have : ixf k [5] 0 = -1 := by simp [ixf, h5]
    rw [this, if_neg h5, if_neg (by decide)]
    split <;> rfl
section
variable {nf : Int → List UInt8} {R : List (List UInt8)}
theorem getD_mid {a b : List Pc} {x : Pc} {k : Nat} (h : k = a.length) : (a ++ x :: b).getD k pz = x := by
  subst h; rw [List.getD_eq_getElem?_getD, List.getElem?_append_right (Nat.le_refl _)]; simp
theorem last1 {ts : List Tre} (h : 1 ≤ ts.length) : ∃ a t, ts = a ++ [t] := ⟨ts.dropLast, ts.getLast (by intro e; rw [e] at h; simp at h), (List.dropLast_concat_getLast _).symm⟩
theorem last2 {ts : List Tre} (h : 2 ≤ ts.length) : ∃ a t u, ts = a ++ [t, u] := by
  obtain ⟨b, u, e⟩ := last1 (ts := ts) (by omega)
  obtain ⟨a, t, e2⟩ := last1 (ts := b) (by rw [e] at h; simp at h; omega)
  exact ⟨a, t, u, by rw [e, e2]; simp⟩
def fl (ts : List Tre) : List Cn := (ts.map Tre.rows).flatten
theorem fl_app (a b : List Tre) : fl (a ++ b) = fl a ++ fl b := by simp [fl]
theorem fl_one (t : Tre) : fl [t] = t.rows := by simp [fl]
theorem mem1 {a : List Tre} (t : Tre) (ha : ∀ x ∈ a, x.ok) (ht : t.ok) : ∀ x ∈ a ++ [t], x.ok := fun x hx => by
  rcases List.mem_append.1 hx with hx | hx
  · exact ha x hx
  · rw [List.mem_singleton.1 hx]; exact ht
theorem step_tr (hR : ∀ g : Int, 0 ≤ g → g < 8 → R.getD g.toNat [] = nf g) {c : Cn} {ts : List Tre} (hn : ¬ c.n < 0) (hl : c.n ≤ (ts.length : Int)) (hv : okV c.v) (hok : ∀ t ∈ ts, t.ok) : ∃ ts2 : List Tre, (∀ t ∈ ts2, t.ok) ∧ stepP R c (ts.map (gT nf)) = ts2.map (gT nf) ∧ (ts2.length : Int) = (ts.length : Int) - c.n + 1 ∧ fl ts2 = fl ts ++ [c] := by
  rcases node_full hn with h | h | ⟨h, h'⟩ | ⟨h, h'⟩ | ⟨h, h'⟩
  · refine ⟨ts ++ [.lf c], mem1 (.lf c) hok ⟨.inl ⟨h.1, h.2.2⟩, hv⟩, ?_, by rw [h.2.1]; simp, by rw [fl_app, fl_one]; rfl⟩
    have hp : parts0 c.k = 0 := by rw [h.1]; rfl
    unfold stepP
    rw [hp, show ((((ts.map (gT nf)).length : Nat) : Int) - 0).toNat = (ts.map (gT nf)).length by omega, List.take_length, List.map_append]
    congr 1
    show [(_, _)] = [(txT nf (.lf c), c.k)]
    unfold wr0 txT
    rw [if_pos h.1, if_pos h.1, hR c.r h.2.2.2.2.1 h.2.2.2.2.2.1]
  · refine ⟨ts ++ [.lf c], mem1 (.lf c) hok ⟨.inr ⟨h.1, h.2.2⟩, hv⟩, ?_, by rw [h.2.1]; simp, by rw [fl_app, fl_one]; rfl⟩
    have hp : parts0 c.k = 0 := by rw [h.1]; rfl
    unfold stepP
    rw [hp, show ((((ts.map (gT nf)).length : Nat) : Int) - 0).toNat = (ts.map (gT nf)).length by omega, List.take_length, List.map_append]
    congr 1
    show [(_, _)] = [(txT nf (.lf c), c.k)]
    unfold wr0 txT
    rw [if_neg (by omega), if_pos h.1, if_neg (by omega)]
    have : c.l = 0 ∨ c.l = 1 ∨ c.l = 2 := by omega
    rcases this with e | e | e <;> rw [e] <;> rfl
  · obtain ⟨a, t, rfl⟩ := last1 (ts := ts) (by omega)
    have hp : parts0 c.k = 1 := by rw [h]; rfl
    have hlen : (((((a ++ [t]).map (gT nf)).length : Nat) : Int) - 1).toNat = (a.map (gT nf)).length := by simp
    refine ⟨a ++ [.un c t], mem1 (.un c t) (fun x hx => hok x (List.mem_append_left _ hx)) ⟨h, hok t (by simp)⟩, ?_, by rw [h']; simp, ?_⟩
    · unfold stepP
      rw [hp, hlen, List.map_append, List.take_left, List.map_append]
      congr 1
      show [(_, _)] = [(txT nf (.un c t), c.k)]
      unfold wr0 txT
      have k3 : c.k = 3 := by rw [h]
      rw [if_neg (by omega), if_neg (by omega), if_pos k3, ap45]
      have g0 : ((a.map (gT nf)) ++ ([t].map (gT nf))).getD ((((a.map (gT nf)).length : Nat) : Int) + 0).toNat pz = gT nf t := getD_mid (by omega)
      rw [g0]; rfl
    · rw [fl_app, fl_one, fl_app, fl_one, Tre.rows]; simp
  · obtain ⟨a, t, u, rfl⟩ := last2 (ts := ts) (by omega)
    have hp : parts0 c.k = 2 := by rw [h]; rfl
    have hlen : (((((a ++ [t, u]).map (gT nf)).length : Nat) : Int) - 2).toNat = (a.map (gT nf)).length := by simp
    refine ⟨a ++ [.bi c t u], mem1 (.bi c t u) (fun x hx => hok x (List.mem_append_left _ hx)) ⟨.inl h, hok t (by simp), hok u (by simp)⟩, ?_, by rw [h']; simp, ?_⟩
    · unfold stepP
      rw [hp, hlen, List.map_append, List.take_left, List.map_append]
      congr 1
      show [(_, _)] = [(txT nf (.bi c t u), c.k)]
      unfold wr0 txT
      have k3 : c.k = 4 := by rw [h]
      rw [if_neg (by omega), if_neg (by omega), if_neg (by omega), if_pos k3, if_pos k3, ap45, ap5]
      have g0 : ((a.map (gT nf)) ++ ([t, u].map (gT nf))).getD ((((a.map (gT nf)).length : Nat) : Int) + 0).toNat pz = gT nf t := getD_mid (by omega)
      have g1 : ((a.map (gT nf)) ++ ([t, u].map (gT nf))).getD ((((a.map (gT nf)).length : Nat) : Int) + 1).toNat pz = gT nf u := by
        have e : (a.map (gT nf)) ++ ([t, u].map (gT nf)) = ((a ++ [t]).map (gT nf)) ++ gT nf u :: [] := by simp
        rw [e]; exact getD_mid (by simp only [List.length_map, List.length_append, List.length_cons, List.length_nil]; omega)
      rw [g0, g1]; simp [gT, List.append_assoc]
    · rw [fl_app, fl_one, fl_app, Tre.rows]; simp [fl]
  · obtain ⟨a, t, u, rfl⟩ := last2 (ts := ts) (by omega)
    have hp : parts0 c.k = 2 := by rw [h]; rfl
    have hlen : (((((a ++ [t, u]).map (gT nf)).length : Nat) : Int) - 2).toNat = (a.map (gT nf)).length := by simp
    refine ⟨a ++ [.bi c t u], mem1 (.bi c t u) (fun x hx => hok x (List.mem_append_left _ hx)) ⟨.inr h, hok t (by simp), hok u (by simp)⟩, ?_, by rw [h']; simp, ?_⟩
    · unfold stepP
      rw [hp, hlen, List.map_append, List.take_left, List.map_append]
      congr 1
      show [(_, _)] = [(txT nf (.bi c t u), c.k)]
      unfold wr0 txT
      have k3 : c.k = 5 := by rw [h]
      rw [if_neg (by omega), if_neg (by omega), if_neg (by omega), if_neg (by omega), if_neg (by omega), ap5]
      have g0 : ((a.map (gT nf)) ++ ([t, u].map (gT nf))).getD ((((a.map (gT nf)).length : Nat) : Int) + 0).toNat pz = gT nf t := getD_mid (by omega)
      have g1 : ((a.map (gT nf)) ++ ([t, u].map (gT nf))).getD ((((a.map (gT nf)).length : Nat) : Int) + 1).toNat pz = gT nf u := by
        have e : (a.map (gT nf)) ++ ([t, u].map (gT nf)) = ((a ++ [t]).map (gT nf)) ++ gT nf u :: [] := by simp
        rw [e]; exact getD_mid (by simp only [List.length_map, List.length_append, List.length_cons, List.length_nil]; omega)
      rw [g0, g1]; simp [gT, List.append_assoc]
    · rw [fl_app, fl_one, fl_app, Tre.rows]; simp [fl]
theorem pre_tr (hR : ∀ g : Int, 0 ≤ g → g < 8 → R.getD g.toNat [] = nf g) : ∀ (cs rest : List Cn) (ts : List Tre), (∀ t ∈ ts, t.ok) → (∀ c ∈ cs, okV c.v) → rightGo (cs ++ rest) (ts.length : Int) = true → ∃ ts2 : List Tre, (∀ t ∈ ts2, t.ok) ∧ cs.foldl (fun l c => stepP R c l) (ts.map (gT nf)) = ts2.map (gT nf) ∧ fl ts2 = fl ts ++ cs ∧ rightGo rest (ts2.length : Int) = true
  | [], rest, ts, hok, _, h => ⟨ts, hok, rfl, by simp, h⟩
  | c :: cs, rest, ts, hok, hv, h => by
    rw [List.cons_append, rightGo] at h
    split at h
    · cases h
    · next hc =>
      obtain ⟨ts2, k1, k2, k3, k4⟩ := step_tr (nf := nf) hR (c := c) (ts := ts) (fun h => hc (.inl h)) (by omega) (hv c (by simp)) hok
      obtain ⟨ts3, m1, m2, m3, m4⟩ := pre_tr hR cs rest ts2 k1 (fun x hx => hv x (by simp [hx])) (by rw [k3]; exact h)
      refine ⟨ts3, m1, ?_, ?_, m4⟩
      · rw [List.foldl_cons, k2, m2]
      · rw [m3, k4]; simp
theorem right_go {cs : List Cn} (h : right cs = true) : rightGo cs 0 = true ∧ cs.length ≤ 32 := by
  unfold right at h
  split at h
  · cases h
  · exact ⟨h, by omega⟩
theorem tree_of (hR : ∀ g : Int, 0 ≤ g → g < 8 → R.getD g.toNat [] = nf g) {cs : List Cn} (h : right cs = true) (hv : ∀ c ∈ cs, okV c.v) : ∃ t : Tre, t.ok ∧ foldP R cs = [gT nf t] ∧ t.rows = cs := by
  obtain ⟨ts2, k1, k2, k3, k4⟩ := pre_tr (nf := nf) hR cs [] [] (fun t ht => by cases ht) hv (by rw [List.append_nil]; exact (right_go h).1)
  have hl : ts2.length = 1 := by
    have : (((ts2.length : Nat) : Int) == 1) = true := k4
    have := eq_of_beq this
    omega
  match ts2, hl with
  | [t], _ => exact ⟨t, k1 t (by simp), k2, by have := k3; rw [fl_one] at this; exact this⟩
theorem bkT_len (s : List UInt8) (l k : Int) : (bkT s l k).length ≤ s.length + 2 := by
  unfold bkT; split
  · simp only [List.length_append, List.length_cons, List.length_nil]; omega
  · omega
theorem loc_len {k : Int} (h : 0 ≤ k ∧ k < 3) : (Old.locN k.toNat).length ≤ 1 := by
  have : k = 0 ∨ k = 1 ∨ k = 2 := by omega
  rcases this with e | e | e <;> subst e <;> decide
theorem tx_len (hL : ∀ x, (nf x).length ≤ 20) : ∀ t : Tre, t.ok → (txT nf t).length ≤ 64 * t.rows.length
  | .lf c, h => by
    have h1 := Lib.itoa_length_le c.v h.2.1 h.2.2
    have h2 := hL c.r
    unfold txT
    show _ ≤ 64 * 1
    rcases h.1 with h3 | h3
    · have h4 : (Lib.itoa c.t).length ≤ 21 := Lib.itoa_length_le c.t (by omega) (by omega)
      rw [if_pos h3.1]
      simp only [List.length_append, List.length_cons, List.length_nil]; omega
    · have h4 := loc_len (k := c.l) ⟨h3.2.1, h3.2.2.1⟩
      rw [if_neg (by omega)]
      simp only [List.length_append, List.length_cons, List.length_nil]; omega
  | .un c t, h => by
    have h1 := tx_len hL t h.2
    have h2 := bkT_len (txT nf t) (lvl t.c.k) 2
    unfold txT Tre.rows
    simp only [List.length_append, List.length_cons, List.length_nil]; omega
  | .bi c l r, h => by
    have h1 := tx_len hL l h.2.1
    have h2 := tx_len hL r h.2.2
    have h3 := bkT_len (txT nf l) (lvl l.c.k) 1
    have h4 := bkT_len (txT nf r) (lvl r.c.k) 2
    have h6 := bkT_len (txT nf r) (lvl r.c.k) 1
    unfold txT Tre.rows
    split <;> (simp only [List.length_append, List.length_cons, List.length_nil]; omega)
theorem fl_mem {ts : List Tre} {t : Tre} (h : t ∈ ts) : t.rows.length ≤ (fl ts).length := by
  induction ts with
  | nil => cases h
  | cons x l ih =>
    have e : fl (x :: l) = x.rows ++ fl l := by simp [fl]
    rw [e, List.length_append]
    rcases List.mem_cons.1 h with rfl | h
    · omega
    · have := ih h; omega
theorem fold_len (hR : ∀ g : Int, 0 ≤ g → g < 8 → R.getD g.toNat [] = nf g) (hL : ∀ x, (nf x).length ≤ 20) {cs : List Cn} (h : right cs = true) (hv : ∀ c ∈ cs, okV c.v) (i q : Nat) : ((foldP R (cs.take i)).getD q pz).1.length ≤ 1000000 := by
  obtain ⟨ts2, k1, k2, k3, k4⟩ := pre_tr (nf := nf) hR (cs.take i) (cs.drop i) [] (fun t ht => by cases ht) (fun c hc => hv c (List.mem_of_mem_take hc)) (by rw [List.take_append_drop]; exact (right_go h).1)
  have e : foldP R (cs.take i) = ts2.map (gT nf) := k2
  rw [e]
  by_cases hq : q < ts2.length
  · have : (ts2.map (gT nf)).getD q pz = gT nf ts2[q] := by simp [List.getD, hq]
    rw [this]
    have h1 := tx_len hL _ (k1 _ (List.getElem_mem hq))
    have h2 := fl_mem (List.getElem_mem hq)
    rw [k3] at h2
    have h3 : (cs.take i).length ≤ 32 := by rw [List.length_take]; have := (right_go h).2; omega
    have h4 : (fl [] ++ cs.take i).length = (cs.take i).length := by simp [fl]
    show (txT nf _).length ≤ _
    omega
  · rw [List.getD_eq_getElem?_getD, List.getElem?_eq_none (by simp; omega)]; show pz.1.length ≤ _; decide
theorem back_tr {rf : List UInt8 → Int} (hR : ∀ g : Int, 0 ≤ g → g < 8 → R.getD g.toNat [] = nf g) (hL : ∀ x, (nf x).length ≤ 20) (hn : ∀ x, 0 ≤ x → x < 8 → Nam (nf x)) (hrf : ∀ x, 0 ≤ x → x < 8 → rf (nf x) = x) {cs : List Cn} (h : right cs = true) (hv : ∀ c ∈ cs, okV c.v) : ((foldP R cs).getD 0 pz).1.length ≤ 2048 ∧ ∃ ws, tokensR ((foldP R cs).getD 0 pz).1 = (ws, 0, 0) ∧ rpS rf ws = ⟨0, 0, ws.length⟩ ∧ rpN rf ws = cs := by
  obtain ⟨t, k1, k2, k3⟩ := tree_of (nf := nf) hR h hv
  have e : ((foldP R cs).getD 0 pz).1 = txT nf t := by rw [k2]; rfl
  have hl : (txT nf t).length ≤ 2048 := by
    have h1 := tx_len hL t k1
    rw [k3] at h1
    have := (right_go h).2
    omega
  rw [e]
  refine ⟨hl, ?_⟩
  obtain ⟨ws, w1, w2⟩ := lexK_tokens (by have := (lk_tree hn t k1).1 [] [] sep_nil lk_nil; rwa [List.append_nil, List.append_nil] at this) (by omega)
  obtain ⟨r1, r2⟩ := rd_back hrf k1 w2
  exact ⟨ws, w1, r1, r2.trans k3⟩
theorem read_right {rf : List UInt8 → Int} {ws : List Tk} (hW : ∀ t ∈ ws, TkW t) (h8 : ∀ q, rf q < 8) (h : (rpS rf ws).e = 0) (hl : (rpN rf ws).length ≤ 32) : right (rpN rf ws) = true ∧ ∀ c ∈ rpN rf ws, okV c.v := by
  obtain ⟨t, k1, k2⟩ := rp_tree hW h8 h
  rw [k2] at hl ⊢
  exact ⟨right_tree k1 hl, rows_val t k1⟩
end
end Go.Proofs.YtedlaclfhgneeabGreatDoor.Cd
namespace Go.Proofs.YtedlaclfhgneeabGreatDoor
open Go.RowKit
set_option linter.unusedVariables false
set_option linter.unusedSimpArgs false
set_option maxRecDepth 100000
set_option maxHeartbeats 2000000
set_option simprocs false
theorem regs0_ (ar : Int) (ha : ¬ (1 ≤ ar ∧ ar ≤ 3)) : Fn Tryz.prog 45 [.int .i64 ar] [] (Rt (.sla none 0 0) []) :=
 enterM (n := 13) (by kernel_rfl) Tryz.func45 rfl rfl rfl fun G w a h0 A => N hX 18 A rfl rfl fun A => forkE 4 A rfl
  (fun h1 A => N hX 3 A rfl rfl fun A => CALL1 [] regnX_ A rfl rfl rfl rfl rfl rfl rfl fun A => N hX 4 A rfl rfl fun A => (by exact absurd h1 (by omega)))
  (fun h1 A => N hX 7 A rfl rfl fun A => forkE 7 A rfl
   (fun h2 A => N hX 3 A rfl rfl fun A => CALL1 [] regnV_ A rfl rfl rfl rfl rfl rfl rfl fun A => N hX 4 A rfl rfl fun A => (by exact absurd h2 (by omega)))
   (fun h2 A => N hX 7 A rfl rfl fun A => forkE 10 A rfl
    (fun h3 A => N hX 3 A rfl rfl fun A => CALL1 [] regnA_ A rfl rfl rfl rfl rfl rfl rfl fun A => N hX 4 A rfl rfl fun A => (by exact absurd h3 (by omega)))
    (fun h3 A => N hX 10 A rfl rfl fun A => (by exact RETN hX A rfl rfl rfl h0 rfl rfl rfl rfl rfl rfl))))
theorem cparse_arch (ar : Int) (ws : List Tk) (cw : Nat) (ha : ¬ (1 ≤ ar ∧ ar ≤ 3)) : Fn Tryz.prog 19 [.int .i64 ar, .sl 0 ws.length cw] [some (.lst 4 ws.length (fun zz => tkc (ws.getD zz tok0)))] (Rt (.tup [.sla none 0 0, .int .i64 36, .int .i64 0]) [some (.lst 4 ws.length (fun zz => tkc (ws.getD zz tok0)))]) :=
 enterM (n := 59) (by kernel_rfl) Tryz.func19 rfl rfl rfl fun G w a h0 A => N hX 10 A rfl rfl fun A => CALL1 [] (regs0_ ar ha) A rfl rfl rfl rfl rfl rfl rfl fun A => N hX 7 A rfl rfl fun A => NILQ (r := .tt) A rfl rfl rfl rfl rfl (e := 9) (by kernel_rfl) rfl fun A => N hX 11 A rfl rfl fun A => RETN hX A rfl rfl rfl h0 rfl rfl rfl rfl rfl rfl

theorem condsL_ (ns : List Cn) (cx : Nat) (hns : ns.length ≤ 1000) : Fn Tryz.prog 21 [.sl 0 ns.length 0, .sl 1 ns.length cx] [some (.row 88 5 ns.length 0 (fun zz => cc (ns.getD zz Cn.z))), some (.lst 5 ns.length (fun zz => cc (ns.getD zz Cn.z)))] (Rt (.tt) [some (.row 88 5 ns.length 0 (fun zz => cc (ns.getD zz Cn.z))), some (.lst 5 ns.length (fun zz => cc (ns.getD zz Cn.z)))]) :=
 enterM (n := 26) (by kernel_rfl) Tryz.func21 rfl rfl rfl fun G w a h0 A => N hX 15 A rfl rfl fun A => forkN 10 A rfl
  (fun h1 A => N hX 7 A rfl rfl fun A => RETN hX A rfl rfl rfl h0 rfl rfl rfl rfl (absurd h1 (by simp)) rfl)
  (fun h1 A => N hX 10 A rfl rfl fun A => LOOP1 (fun (i7 : Nat) => [(0, .sl 0 ns.length 0), (1, .sl 1 ns.length cx), (4, .ff), (5, .int .i64 (i7 : Int))]) (fun (i7 : Nat) => [some (.row 88 5 ns.length 0 (fun zz => cc (ns.getD zz Cn.z))), some (.lst 5 ns.length (fun zz => cc (ns.getD zz Cn.z)))]) (fun (i7 : Nat) => i7 ≤ ns.length) (fun (i7 : Nat) => ns.length - i7) 0 (Nat.zero_le _) ((A.cut [0, 1, 4, 5] rfl).trunc 2 rfl rfl rfl (by simp only [List.length_cons, List.length_nil] at h0; omega)) fun i7 hI {G a w} A => N hX 9 A rfl rfl fun A => forkD 14 A rfl
    (fun h2 A => N hX 6 A rfl rfl fun A => DRAWN hX hmo [] [] A rfl (ok_d (by omega) <| ok_d (by omega) <| ok_d (by omega) <| ok_d (by omega) <| okE_nil) rfl rfl (by kernel_rfl) (effAll_nil _ _) trivial fun A => N hX 1 A rfl rfl fun A => fork 25 A rfl
     (fun h3 A => N hX 7 A rfl rfl fun A => RETN hX A rfl rfl rfl h0 rfl rfl rfl rfl (absurd h3 (by simp)) rfl)
     (fun h3 A => N hX 9 A rfl (ok_d (by omega) <| okE_nil) fun A => ⟨i7 + 1, _, (by omega), (by omega), ((A.cut [0, 1, 4, 5] rfl).trunc 2 rfl rfl rfl (by simp only [List.length_cons, List.length_nil] at h0; omega))⟩))
    (fun h2 A => N hX 9 A rfl rfl fun A => RETN hX A rfl rfl rfl h0 rfl rfl rfl rfl rfl rfl))
theorem condsM_ (ns : List Cn) (cx : Nat) (hns : ns.length ≤ 1000) : Fn Tryz.prog 21 [.sl 0 ns.length cx, .sl 1 ns.length 0] [some (.lst 5 ns.length (fun zz => cc (ns.getD zz Cn.z))), some (.row 88 5 ns.length 0 (fun zz => cc (ns.getD zz Cn.z)))] (Rt (.tt) [some (.lst 5 ns.length (fun zz => cc (ns.getD zz Cn.z))), some (.row 88 5 ns.length 0 (fun zz => cc (ns.getD zz Cn.z)))]) :=
 enterM (n := 26) (by kernel_rfl) Tryz.func21 rfl rfl rfl fun G w a h0 A => N hX 15 A rfl rfl fun A => forkN 10 A rfl
  (fun h1 A => N hX 7 A rfl rfl fun A => RETN hX A rfl rfl rfl h0 rfl rfl rfl rfl (absurd h1 (by simp)) rfl)
  (fun h1 A => N hX 10 A rfl rfl fun A => LOOP1 (fun (i7 : Nat) => [(0, .sl 0 ns.length cx), (1, .sl 1 ns.length 0), (4, .ff), (5, .int .i64 (i7 : Int))]) (fun (i7 : Nat) => [some (.lst 5 ns.length (fun zz => cc (ns.getD zz Cn.z))), some (.row 88 5 ns.length 0 (fun zz => cc (ns.getD zz Cn.z)))]) (fun (i7 : Nat) => i7 ≤ ns.length) (fun (i7 : Nat) => ns.length - i7) 0 (Nat.zero_le _) ((A.cut [0, 1, 4, 5] rfl).trunc 2 rfl rfl rfl (by simp only [List.length_cons, List.length_nil] at h0; omega)) fun i7 hI {G a w} A => N hX 9 A rfl rfl fun A => forkD 14 A rfl
    (fun h2 A => N hX 6 A rfl rfl fun A => DRAWN hX hmo [] [] A rfl (ok_d (by omega) <| ok_d (by omega) <| ok_d (by omega) <| ok_d (by omega) <| okE_nil) rfl rfl (by kernel_rfl) (effAll_nil _ _) trivial fun A => N hX 1 A rfl rfl fun A => fork 25 A rfl
     (fun h3 A => N hX 7 A rfl rfl fun A => RETN hX A rfl rfl rfl h0 rfl rfl rfl rfl (absurd h3 (by simp)) rfl)
     (fun h3 A => N hX 9 A rfl (ok_d (by omega) <| okE_nil) fun A => ⟨i7 + 1, _, (by omega), (by omega), ((A.cut [0, 1, 4, 5] rfl).trunc 2 rfl rfl rfl (by simp only [List.length_cons, List.length_nil] at h0; omega))⟩))
    (fun h2 A => N hX 9 A rfl rfl fun A => RETN hX A rfl rfl rfl h0 rfl rfl rfl rfl rfl rfl))
theorem cprint_arch (ar : Int) (L : List Cn) (n : Nat) (c : Nat) (ha : ¬ (1 ≤ ar ∧ ar ≤ 3)) : Fn Tryz.prog 22 [.int .i64 ar, .sl 0 n c] [some (.lst 5 L.length (fun zz => cc (L.getD zz Cn.z)))] (Rt (.tup [.str [], .int .i64 36]) [some (.lst 5 L.length (fun zz => cc (L.getD zz Cn.z)))]) :=
 enterM (n := 20) (by kernel_rfl) Tryz.func22 rfl rfl rfl fun G w a h0 A => N hX 9 A rfl rfl fun A => CALL1 [] (regs0_ ar ha) A rfl rfl rfl rfl rfl rfl rfl fun A => N hX 8 A rfl rfl fun A => NILQ (r := .tt) A rfl rfl rfl rfl rfl (e := 9) (by kernel_rfl) rfl fun A => N hX 10 A rfl rfl fun A => RETN hX A rfl rfl rfl h0 rfl rfl rfl rfl rfl rfl
def aO (s : Old.Rs) : As := ⟨s.p, s.e, s.a⟩
structure Rel (x : As) (s : Old.Rs) : Prop where
  e : x.e = s.e
  a : x.a = s.a
  p : s.e = 0 → x.p = s.p
def Mi (ws : List Tk) : Prop := ∀ k, k < ws.length → (ws.getD k tok0).text = [45] → (ws.getD k tok0).kind ≠ 2 → (ws.getD k tok0).kind = 3
section
variable {rf : List UInt8 → Int} {ws : List Tk} {rs ls : List (List UInt8)} {x : As} {s : Old.Rs} {m : List UInt8} {k : Int} {ns : List Cn}
theorem Rel.eq (h : Rel x s) (h0 : s.e = 0) : x = aO s := by
  obtain ⟨p, e, a⟩ := x
  have h1 : e = s.e := h.e
  have h2 : a = s.a := h.a
  have h3 : p = s.p := h.p h0
  rw [h1, h2, h3]; rfl
theorem Rel.of (h : s.e ≠ 0) (h1 : x.e = s.e) (h2 : x.a = s.a) : Rel x s := ⟨h1, h2, fun e => absurd e h⟩
theorem kp_ref (h : x.e ≠ 0) : refA ws x k = x := by unfold refA refAt; rw [if_neg h]
theorem kp_mk (h : x.e ≠ 0) : (mkA ws x m).e = x.e ∧ (mkA ws x m).a = x.a := by
  unfold mkA; split
  · exact ⟨rfl, rfl⟩
  · rw [kp_ref (show (goA x (tkK ws x.p m)).e ≠ 0 from h)]; exact ⟨rfl, rfl⟩
theorem kp_num (h : x.e ≠ 0) : (numA ws x).e = x.e ∧ (numA ws x).a = x.a := by
  unfold numA; split
  · exact ⟨rfl, rfl⟩
  · rw [kp_ref (show (goA x (tkK ws (nbK ws x.p) [45])).e ≠ 0 from h)]; exact ⟨rfl, rfl⟩
theorem kp_kn (h : x.e ≠ 0) : (knA ws x ls).e = x.e ∧ (knA ws x ls).a = x.a := by
  unfold knA; split
  · split
    · rw [kp_ref h]; exact ⟨rfl, rfl⟩
    · exact ⟨rfl, rfl⟩
  · rw [kp_ref h]; exact ⟨rfl, rfl⟩
theorem kp_hs (h : x.e ≠ 0) : hoS ws x = x := by unfold hoS; split <;> first | exact kp_ref h | rfl
theorem kp_ho (h : x.e ≠ 0) : (hoA ws x rs).e = x.e ∧ (hoA ws x rs).a = x.a := by
  unfold hoA; split
  · rw [kp_hs h]
    have h1 := kp_mk (ws := ws) (m := [58]) (x := ⟨nxK ws x.p, x.e, x.a⟩) h
    have h2 := kp_kn (ws := ws) (ls := rs) (x := mkA ws ⟨nxK ws x.p, x.e, x.a⟩ [58]) (by rw [h1.1]; exact h)
    exact ⟨h2.1.trans h1.1, h2.2.trans h1.2⟩
  · exact kp_kn h
theorem kp_le (h : x.e ≠ 0) : (leA ws x rs).e = x.e ∧ (leA ws x rs).a = x.a := by
  have h1 := kp_ho (ws := ws) (rs := rs) h
  have h2 := kp_mk (ws := ws) (m := [61]) (x := hoA ws x rs) (by rw [h1.1]; exact h)
  have h3 := kp_num (ws := ws) (x := mkA ws (hoA ws x rs) [61]) (by rw [h2.1, h1.1]; exact h)
  exact ⟨h3.1.trans (h2.1.trans h1.1), h3.2.trans (h2.2.trans h1.2)⟩
theorem at_in {k : Nat} (h : k < ws.length) : atW ws k = (ws.getD k tok0).at_ := by unfold atW; rw [if_pos h]
theorem ref_y {k : Int} (h0 : s.e = 0) (h : s.p < ws.length) : Rel (refA ws (aO s) k) (Old.failR s k (ws.getD s.p tok0).at_) := by
  rw [fail_y h0]; unfold refA refAt; rw [if_pos (show (aO s).e = 0 from h0), if_pos (show (aO s).p < ws.length from h), show atW ws (aO s).p = _ from at_in h]; exact ⟨rfl, rfl, fun _ => rfl⟩
theorem ref_n {k : Int} (h0 : s.e = 0) (h : ¬ s.p < ws.length) : Rel (refA ws (aO s) k) (Old.failR s 24 (atW ws s.p)) := by
  rw [fail_y h0]; unfold refA refAt; rw [if_pos (show (aO s).e = 0 from h0), if_neg (show ¬ (aO s).p < ws.length from h)]; exact ⟨rfl, rfl, fun _ => rfl⟩
theorem rel_odd (hw : WsOK ws) (h0 : s.e = 0) : Rel (refA ws (aO s) 22) (Old.oddR ws false s) := by
  by_cases h : s.p < ws.length
  · rw [odd_g h]; exact ref_y h0 h
  · rw [odd_e hw h]; exact ref_n h0 h
theorem rel_mark (hw : WsOK ws) (h : Rel x s) : Rel (mkA ws x m) (Old.markR ws m s) := by
  by_cases h0 : s.e = 0
  · rw [h.eq h0]
    cases hb : tkB ws s.p m with
    | true => rw [mark_y h0 hb]; unfold mkA; rw [if_pos (show tkB ws (aO s).p m = true from hb)]; exact ⟨rfl, rfl, fun _ => rfl⟩
    | false => rw [mark_n h0 hb]; unfold mkA; rw [if_neg (show ¬ tkB ws (aO s).p m = true from bne hb)]; exact rel_odd (s := ⟨s.e, s.a, tkK ws s.p m⟩) hw h0
  · rw [mark_s h0]
    have := kp_mk (ws := ws) (m := m) (x := x) (by rw [h.e]; exact h0)
    exact .of h0 (this.1.trans h.e) (this.2.trans h.a)
theorem tok_out {k : Nat} (h : ¬ k < ws.length) : ws.getD k tok0 = tok0 := by rw [List.getD_eq_getElem?_getD, List.getElem?_eq_none (by omega)]; rfl
theorem rel_reg (hw : WsOK ws) (hr : ∀ q, rf q = idxS rs q) (h : Rel x s) : Rel (knA ws x rs) (regG rf ws s).1 ∧ ((regG rf ws s).1.e = 0 → knI ws x rs = (regG rf ws s).2) := by
  by_cases h0 : s.e = 0
  · rw [h.eq h0]
    by_cases hl : s.p < ws.length
    · by_cases hk : (ws.getD s.p tok0).kind = 1
      · by_cases hi : rf (ws.getD s.p tok0).text < 0
        · rw [reg_n h0 (by rw [decide_eq_true hi, Bool.or_true])]
          refine ⟨?_, fun e => absurd e (odd_ne h0)⟩
          unfold knA; rw [if_pos (show (ws.getD (aO s).p tok0).kind = 1 from hk), if_pos (show idxS rs (ws.getD (aO s).p tok0).text < 0 by rw [← hr]; exact hi), odd_w hl hk]
          exact ref_y h0 hl
        · rw [reg_y h0 (by rw [decide_eq_true hl, beq_iff_eq.2 hk, decide_eq_false hi]; rfl)]
          have hi2 : ¬ idxS rs (ws.getD (aO s).p tok0).text < 0 := by rw [← hr]; exact hi
          refine ⟨?_, fun _ => ?_⟩
          · unfold knA; rw [if_pos (show (ws.getD (aO s).p tok0).kind = 1 from hk), if_neg hi2]; exact ⟨rfl, rfl, fun _ => rfl⟩
          · unfold knI; rw [if_pos (show (ws.getD (aO s).p tok0).kind = 1 from hk), if_neg hi2]; exact (hr _).symm
      · rw [reg_n h0 (by rw [beq_eq_false_iff_ne.2 hk, decide_eq_true hl]; rfl)]
        refine ⟨?_, fun e => absurd e (odd_ne h0)⟩
        unfold knA; rw [if_neg (show ¬ (ws.getD (aO s).p tok0).kind = 1 from hk), odd_f hl hk]
        exact ref_y h0 hl
    · rw [reg_n h0 (by rw [decide_eq_false hl]; rfl)]
      refine ⟨?_, fun e => absurd e (odd_ne h0)⟩
      unfold knA; rw [if_neg (show ¬ (ws.getD (aO s).p tok0).kind = 1 by rw [show ws.getD (aO s).p tok0 = tok0 from tok_out hl]; decide), odd_e hw hl]
      exact ref_n h0 hl
  · rw [reg_s h0]
    have := kp_kn (ws := ws) (ls := rs) (x := x) (by rw [h.e]; exact h0)
    exact ⟨.of h0 (this.1.trans h.e) (this.2.trans h.a), fun e => absurd e h0⟩
theorem mn_tk (hm : Mi ws) (k : Nat) : mnB ws k = tkB ws k [45] := by
  unfold mnB tkB
  by_cases hl : k < ws.length
  · rw [decide_eq_true hl, Bool.true_and, Bool.true_and]
    by_cases ht : (ws.getD k tok0).text = [45]
    · by_cases h2 : (ws.getD k tok0).kind = 2
      · rw [h2, beq_iff_eq.2 ht]; rfl
      · rw [hm k hl ht h2, beq_iff_eq.2 ht]; rfl
    · rw [beq_eq_false_iff_ne.2 ht, Bool.and_false, Bool.and_false]
  · rw [decide_eq_false hl]; rfl
theorem num_nu {k : Nat} : ((!(decide (k < ws.length))) || (!((ws.getD k tok0).kind == 2))) = !(nuB ws k) := by
  unfold nuB; cases decide (k < ws.length) <;> cases ((ws.getD k tok0).kind == 2) <;> rfl
theorem nuN {k : Nat} (h : nuB ws k = true) : k < ws.length := by
  unfold nuB at h; rw [Bool.and_eq_true] at h; exact of_decide_eq_true h.1
theorem rel_num (hw : WsOK ws) (hm : Mi ws) (h : Rel x s) : Rel (numA ws x) (Old.numS ws s).1 ∧ ((Old.numS ws s).1.e = 0 → nbV ws x.p = (Old.numS ws s).2) := by
  by_cases h0 : s.e = 0
  · rw [h.eq h0, numM h0]
    have hp : (aO s).p = s.p := rfl
    cases hb : tkB ws s.p [45] with
    | true =>
      have hk := tkK_y hb
      have hmn := (mn_tk hm s.p).trans hb
      cases hn : nuB ws (s.p + 1) with
      | true =>
        rw [numE_y (by show ((!(decide (tkK ws s.p [45] < ws.length))) || (!((ws.getD (tkK ws s.p [45]) tok0).kind == 2))) = false; rw [num_nu, hk, hn]; rfl)]
        refine ⟨?_, fun _ => ?_⟩
        · unfold numA nbB nbK; rw [hp, if_pos hmn, if_pos hn, if_pos hmn, if_pos hn]
          refine ⟨rfl, rfl, fun _ => ?_⟩
          show s.p + 1 + 1 = nxK ws (tkK ws s.p [45]); rw [hk, nxK_y (nuN hn)]
        · unfold nbV; rw [hp, if_pos hmn, if_pos hn, if_pos rfl]; show _ = IntKind.wrap .i64 (0 - (ws.getD (tkK ws s.p [45]) tok0).n); rw [hk]
      | false =>
        rw [numE_n (by show ((!(decide (tkK ws s.p [45] < ws.length))) || (!((ws.getD (tkK ws s.p [45]) tok0).kind == 2))) = true; rw [num_nu, hk, hn]; rfl)]
        refine ⟨?_, fun e => absurd e (odd_ne (s := ⟨s.e, s.a, tkK ws s.p [45]⟩) h0)⟩
        unfold numA nbB nbK; rw [hp, if_pos hmn, if_neg (bne hn), if_pos hmn, if_neg (bne hn)]
        exact rel_odd (s := ⟨s.e, s.a, tkK ws s.p [45]⟩) hw h0
    | false =>
      have hk := tkK_n hb
      have hmn := (mn_tk hm s.p).trans hb
      cases hn : nuB ws s.p with
      | true =>
        rw [numE_y (by show ((!(decide (tkK ws s.p [45] < ws.length))) || (!((ws.getD (tkK ws s.p [45]) tok0).kind == 2))) = false; rw [num_nu, hk, hn]; rfl)]
        refine ⟨?_, fun _ => ?_⟩
        · unfold numA nbB nbK; rw [hp, if_neg (bne hmn), if_pos hn, if_neg (bne hmn), if_pos hn]
          refine ⟨rfl, rfl, fun _ => ?_⟩
          show s.p + 1 = nxK ws (tkK ws s.p [45]); rw [hk, nxK_y (nuN hn)]
        · unfold nbV; rw [hp, if_neg (bne hmn), if_pos hn, if_neg (by decide)]; show _ = (ws.getD (tkK ws s.p [45]) tok0).n; rw [hk]
      | false =>
        rw [numE_n (by show ((!(decide (tkK ws s.p [45] < ws.length))) || (!((ws.getD (tkK ws s.p [45]) tok0).kind == 2))) = true; rw [num_nu, hk, hn]; rfl)]
        refine ⟨?_, fun e => absurd e (odd_ne (s := ⟨s.e, s.a, tkK ws s.p [45]⟩) h0)⟩
        unfold numA nbB nbK; rw [hp, if_neg (bne hmn), if_neg (bne hn), if_neg (bne hmn), if_neg (bne hn)]
        exact rel_odd (s := ⟨s.e, s.a, tkK ws s.p [45]⟩) hw h0
  · rw [num_s h0]
    have := kp_num (ws := ws) (x := x) (by rw [h.e]; exact h0)
    exact ⟨.of h0 (this.1.trans h.e) (this.2.trans h.a), fun e => absurd e h0⟩
theorem mark_e0 (h : (Old.markR ws m s).e = 0) : s.e = 0 := by
  apply Classical.byContradiction; intro h0
  rw [mark_s h0] at h; exact h0 h
theorem num_e0 (h : (Old.numS ws s).1.e = 0) : s.e = 0 := by
  apply Classical.byContradiction; intro h0
  rw [num_s h0] at h; exact h0 h
theorem loc_ix (q : List UInt8) : Old.locF q = idxS [[120], [121], [122]] q := (idxS_L _ q).symm
theorem hoS_in (h : (decide ((ws.getD s.p tok0).n < 0) || decide ((ws.getD s.p tok0).n > 2)) = false) : hoS ws (aO s) = aO s := by
  rw [Bool.or_eq_false_iff] at h
  have h1 := of_decide_eq_false h.1
  have h2 := of_decide_eq_false h.2
  unfold hoS
  rw [if_neg]
  show ¬ (decide ((ws.getD s.p tok0).n < 0) || decide ((ws.getD s.p tok0).n ≥ 3)) = true
  rw [decide_eq_false h1, decide_eq_false (by omega)]; decide
theorem hoS_out (h : (decide ((ws.getD s.p tok0).n < 0) || decide ((ws.getD s.p tok0).n > 2)) = true) : hoS ws (aO s) = refA ws (aO s) 22 := by
  unfold hoS
  rw [if_pos]
  show (decide ((ws.getD s.p tok0).n < 0) || decide ((ws.getD s.p tok0).n ≥ 3)) = true
  rw [Bool.or_eq_true] at h ⊢
  rcases h with h | h
  · exact .inl h
  · exact .inr (decide_eq_true (by have := of_decide_eq_true h; omega))
theorem leaf_bad (h : s.e ≠ 0) (hr : Rel (hoA ws x rs) s) : Rel (leA ws x rs) s := by
  have k3 := kp_mk (ws := ws) (m := [61]) (x := hoA ws x rs) (by rw [hr.e]; exact h)
  have k4 := kp_num (ws := ws) (x := mkA ws (hoA ws x rs) [61]) (by rw [k3.1, hr.e]; exact h)
  exact .of h (k4.1.trans (k3.1.trans hr.e)) (k4.2.trans (k3.2.trans hr.a))
theorem rel_leaf (hw : WsOK ws) (hm : Mi ws) (hr : ∀ q, rf q = idxS rs q) (h0 : s.e = 0) : Rel (leA ws (aO s) rs) (atZ rf ws s ns).1 ∧ ((atZ rf ws s ns).1.e = 0 → (atZ rf ws s ns).2 = ns ++ [leC ws (aO s) rs]) := by
  cases h1 : (decide (s.p < ws.length) && ((ws.getD s.p tok0).kind == 2)) with
  | true =>
    have hl : s.p < ws.length := by rw [Bool.and_eq_true] at h1; exact of_decide_eq_true h1.1
    have hk : (ws.getD s.p tok0).kind = 2 := by rw [Bool.and_eq_true] at h1; exact beq_iff_eq.1 h1.2
    have hk' : (ws.getD (aO s).p tok0).kind = 2 := hk
    cases h2 : (decide ((ws.getD s.p tok0).n < 0) || decide ((ws.getD s.p tok0).n > 2)) with
    | true =>
      rw [at_1 h1 h2]
      have q := ref_y (ws := ws) (k := 22) h0 hl
      have qe : (Old.failR s 22 (ws.getD s.p tok0).at_).e ≠ 0 := by rw [fail_y h0]; exact (by decide : (22 : Int) ≠ 0)
      refine ⟨?_, fun e => absurd e qe⟩
      have x0 : (hoS ws (aO s)).e ≠ 0 := by rw [hoS_out h2, q.e]; exact qe
      have h3 : (hoA ws (aO s) rs).e = (hoS ws (aO s)).e ∧ (hoA ws (aO s) rs).a = (hoS ws (aO s)).a := by
        unfold hoA; rw [if_pos hk']
        have k1 := kp_mk (ws := ws) (m := [58]) (x := ⟨nxK ws (hoS ws (aO s)).p, (hoS ws (aO s)).e, (hoS ws (aO s)).a⟩) x0
        have k2 := kp_kn (ws := ws) (ls := rs) (x := mkA ws ⟨nxK ws (hoS ws (aO s)).p, (hoS ws (aO s)).e, (hoS ws (aO s)).a⟩ [58]) (by rw [k1.1]; exact x0)
        exact ⟨k2.1.trans k1.1, k2.2.trans k1.2⟩
      have k3 := kp_mk (ws := ws) (m := [61]) (x := hoA ws (aO s) rs) (by rw [h3.1]; exact x0)
      have k4 := kp_num (ws := ws) (x := mkA ws (hoA ws (aO s) rs) [61]) (by rw [k3.1, h3.1]; exact x0)
      refine .of qe ?_ ?_
      · show (numA ws (mkA ws (hoA ws (aO s) rs) [61])).e = _; rw [k4.1, k3.1, h3.1, hoS_out h2, q.e]
      · show (numA ws (mkA ws (hoA ws (aO s) rs) [61])).a = _; rw [k4.2, k3.2, h3.2, hoS_out h2, q.a]
    | false =>
      rw [at_2 h1 h2]
      have r1 : Rel (mkA ws ⟨nxK ws (hoS ws (aO s)).p, (hoS ws (aO s)).e, (hoS ws (aO s)).a⟩ [58]) (Old.markR ws [58] ⟨s.e, s.a, nxK ws s.p⟩) := by
        rw [hoS_in h2]; exact rel_mark hw ⟨rfl, rfl, fun _ => rfl⟩
      have r2 := rel_reg hw hr r1
      have r3 : Rel (mkA ws (hoA ws (aO s) rs) [61]) (Old.markR ws [61] (atR rf ws s).1) := by
        unfold hoA; rw [if_pos hk']; exact rel_mark hw r2.1
      have r4 := rel_num hw hm r3
      refine ⟨r4.1, fun e => ?_⟩
      have e2 : (atR rf ws s).1.e = 0 := mark_e0 (num_e0 e)
      rw [putN_y (show (atV rf ws s).1.e = 0 from e)]
      have v1 := r2.2 e2
      have v2 := r4.2 e
      have : leC ws (aO s) rs = ⟨1, (ws.getD s.p tok0).n, (atR rf ws s).2, 0, (atV rf ws s).2⟩ := by
        unfold leC; rw [v2]; unfold hoC; rw [if_pos hk', v1]; rfl
      rw [this]
  | false =>
    have hk : ¬ (ws.getD (aO s).p tok0).kind = 2 := by
      intro h
      by_cases hl : s.p < ws.length
      · rw [decide_eq_true hl, beq_iff_eq.2 (show (ws.getD s.p tok0).kind = 2 from h)] at h1; cases h1
      · rw [show ws.getD (aO s).p tok0 = tok0 from tok_out hl] at h; exact absurd h (by decide)
    have hA : hoA ws (aO s) rs = knA ws (aO s) [[120], [121], [122]] := by unfold hoA; rw [if_neg hk]
    cases h4 : (decide (s.p < ws.length) && ((ws.getD s.p tok0).kind == 1)) with
    | true =>
      have hl : s.p < ws.length := by rw [Bool.and_eq_true] at h4; exact of_decide_eq_true h4.1
      have hk1 : (ws.getD (aO s).p tok0).kind = 1 := by rw [Bool.and_eq_true] at h4; exact beq_iff_eq.1 h4.2
      by_cases hi : Old.locF (ws.getD s.p tok0).text ≥ 0
      · rw [at_3 h1 (by rw [h4, decide_eq_true hi]; rfl)]
        have hi2 : ¬ idxS [[120], [121], [122]] (ws.getD (aO s).p tok0).text < 0 := by rw [← loc_ix]; show ¬ Old.locF (ws.getD s.p tok0).text < 0; omega
        have hA2 : hoA ws (aO s) rs = ⟨nxK ws s.p, s.e, s.a⟩ := by rw [hA]; unfold knA; rw [if_pos hk1, if_neg hi2]; rfl
        have r3 : Rel (mkA ws (hoA ws (aO s) rs) [61]) (Old.markR ws [61] ⟨s.e, s.a, nxK ws s.p⟩) := by rw [hA2]; exact rel_mark hw ⟨rfl, rfl, fun _ => rfl⟩
        have r4 := rel_num hw hm r3
        refine ⟨r4.1, fun e => ?_⟩
        rw [putN_y (show (atL ws s).1.e = 0 from e)]
        have v2 := r4.2 e
        have : leC ws (aO s) rs = ⟨2, 0, 0, Old.locF (ws.getD s.p tok0).text, (atL ws s).2⟩ := by
          unfold leC; rw [v2]; unfold hoC; rw [if_neg hk]; unfold knI; rw [if_pos hk1, if_neg hi2, ← loc_ix]; rfl
        rw [this]
      · have h3 : ((decide (s.p < ws.length) && ((ws.getD s.p tok0).kind == 1)) && decide (Old.locF (ws.getD s.p tok0).text ≥ 0)) = false := by rw [decide_eq_false hi, Bool.and_false]
        rw [at_4 h1 h3 h4]
        have q := ref_y (ws := ws) (k := 21) h0 hl
        have qe : (Old.failR s 21 (ws.getD s.p tok0).at_).e ≠ 0 := by rw [fail_y h0]; exact (by decide : (21 : Int) ≠ 0)
        have hA2 : hoA ws (aO s) rs = refA ws (aO s) 21 := by rw [hA]; unfold knA; rw [if_pos hk1, if_pos (show idxS [[120], [121], [122]] (ws.getD (aO s).p tok0).text < 0 by rw [← loc_ix]; show Old.locF (ws.getD s.p tok0).text < 0; omega)]
        exact ⟨leaf_bad qe (by rw [hA2]; exact q), fun e => absurd e qe⟩
    | false =>
      have h3 : ((decide (s.p < ws.length) && ((ws.getD s.p tok0).kind == 1)) && decide (Old.locF (ws.getD s.p tok0).text ≥ 0)) = false := by rw [h4]; rfl
      have hk1 : ¬ (ws.getD (aO s).p tok0).kind = 1 := by
        intro h
        by_cases hl : s.p < ws.length
        · rw [decide_eq_true hl, beq_iff_eq.2 (show (ws.getD s.p tok0).kind = 1 from h)] at h4; cases h4
        · rw [show ws.getD (aO s).p tok0 = tok0 from tok_out hl] at h; exact absurd h (by decide)
      have hA2 : hoA ws (aO s) rs = refA ws (aO s) 22 := by rw [hA]; unfold knA; rw [if_neg hk1]
      by_cases hl : s.p < ws.length
      · rw [at_5 h1 h3 h4 hl]
        have qe : (Old.failR s 22 (ws.getD s.p tok0).at_).e ≠ 0 := by rw [fail_y h0]; exact (by decide : (22 : Int) ≠ 0)
        exact ⟨leaf_bad qe (by rw [hA2]; exact ref_y h0 hl), fun e => absurd e qe⟩
      · rw [at_6 h1 h3 h4 hl]
        have qe : (Old.failR s 24 (atW ws s.p)).e ≠ 0 := by rw [fail_y h0]; exact (by decide : (24 : Int) ≠ 0)
        exact ⟨leaf_bad qe (by rw [hA2]; exact ref_n h0 hl), fun e => absurd e qe⟩
end
structure COK (ws : List Tk) (z : Cs) : Prop where
  le : z.s.p ≤ ws.length
  op : z.op = (brk z.wf z.m : Int)
  sm : z.ns.length + z.m ≤ 2 * z.s.p
def finC (ws : List Tk) (z : Cs) : As × List Cn := (endA ws (bif decide (z.op > 0) then refA ws z.s 22 else z.s), (setF 5 z.wf z.m z.ns).2)
def ouB (ws : List Tk) (rs : List (List UInt8)) (z : Cs) : As × List Cn := finC ws (coF ws rs (ws.length - z.s.p + 1) z)
def enE (ws : List Tk) (y : Cs) : Eg := endF ws y.wf (ws.length - y.s.p + 1) ⟨y.s.p, y.ns, y.m, y.op⟩
def enJ (ws : List Tk) (y : Cs) : Bool × Nat × List Cn × Nat × (Nat → Int) := joF ws (enE ws y).p (enE ws y).ns (enE ws y).m y.wf
def enR (ws : List Tk) (y : Cs) : Bool × Cs := ((enJ ws y).1, ⟨⟨(enJ ws y).2.1, y.s.e, y.s.a⟩, (enJ ws y).2.2.1, (enJ ws y).2.2.2.1, (enJ ws y).2.2.2.2, (enE ws y).op⟩)
def coY (ws : List Tk) (rs : List (List UInt8)) (z : Cs) : Cs := ⟨coL ws rs z, coN ws rs z, (coB ws z).m, (coB ws z).wf, (coB ws z).op⟩
theorem coR_enR (ws : List Tk) (rs : List (List UInt8)) (z : Cs) : coR ws rs z = enR ws (coY ws rs z) := rfl
def ouE (ws : List Tk) (rs : List (List UInt8)) (y : Cs) : As × List Cn := if (enR ws y).1 = true then ouB ws rs (enR ws y).2 else finC ws (enR ws y).2
def stW (wf : Nat → Int) : Nat → List Int
  | 0 => []
  | n + 1 => wf n :: stW wf n
def setL (k : Int) : List Int → List Cn → List Int × List Cn
  | [], ns => ([], ns)
  | x :: st, ns => if x ≤ k then setL k st (ns ++ [⟨x, 0, 0, 0, 0⟩]) else (x :: st, ns)
theorem set_stk (k : Int) (wf : Nat → Int) : ∀ (m : Nat) (ns : List Cn), setL k (stW wf m) ns = (stW wf (setF k wf m ns).1, (setF k wf m ns).2)
  | 0, ns => rfl
  | m + 1, ns => by
    show setL k (wf m :: stW wf m) ns = _
    unfold setL setF
    split
    · exact set_stk k wf m _
    · rfl
theorem stk_congr {wf wg : Nat → Int} : ∀ {n : Nat}, (∀ j, j < n → wf j = wg j) → stW wf n = stW wg n
  | 0, _ => rfl
  | n + 1, h => by unfold stW; rw [h n (by omega), stk_congr fun j hj => h j (by omega)]
theorem stk_upd (wf : Nat → Int) (m : Nat) (x : Int) : stW (updW wf m x) (m + 1) = x :: stW wf m := by
  show updW wf m x m :: stW (updW wf m x) m = _
  rw [updW_1, stk_congr fun j hj => updW_l hj]
theorem stk_tail (wf : Nat → Int) (n : Nat) : stW wf (n - 1) = (stW wf n).tail := by cases n <;> rfl
section
variable {ws : List Tk} {rs : List (List UInt8)} {z y : Cs}
theorem outB_E (h : COK ws z) : ouB ws rs z = ouE ws rs (coY ws rs z) := by
  obtain ⟨r1, r2, r3, r4, r5⟩ := coR_ok (rs := rs) h.le h.op h.sm
  unfold ouB ouE
  rw [← coR_enR]
  conv => lhs; unfold coF
  cases hc : (coR ws rs z).1 with
  | false => rw [if_neg (by decide), if_neg (by decide)]
  | true =>
    obtain ⟨k1, k2⟩ := r3 hc
    rw [if_pos rfl, if_pos rfl]
    have hl := h.le
    show _ = finC ws (coF ws rs (ws.length - (coR ws rs z).2.s.p + 1) (coR ws rs z).2)
    rw [coF_fuel (ws.length - z.s.p) (ws.length - (coR ws rs z).2.s.p + 1) _ r1 r5 k2 (by omega) (by omega)]
def zN (ws : List Tk) (z : Cs) : Cs := ⟨⟨tkK ws z.s.p [126], z.s.e, z.s.a⟩, z.ns, z.m + 1, updW z.wf z.m 3, z.op⟩
def zO (ws : List Tk) (z : Cs) : Cs := ⟨⟨tkK ws (tkK ws z.s.p [126]) [40], z.s.e, z.s.a⟩, z.ns, z.m + 1, updW z.wf z.m 6, z.op + 1⟩
theorem zN_ok (h : COK ws z) (ht : tkB ws z.s.p [126] = true) : COK ws (zN ws z) := by
  have h1 := tk_lt9 ht
  have h2 := tkK_y ht
  have h3 := h.sm
  refine ⟨by show tkK ws z.s.p [126] ≤ _; omega, ?_, by show z.ns.length + (z.m + 1) ≤ 2 * tkK ws z.s.p [126]; omega⟩
  show z.op = ((brk (updW z.wf z.m 3) (z.m + 1) : Nat) : Int)
  rw [brk_upd, if_pos (by decide)]; exact h.op
theorem zO_ok (h : COK ws z) (ht : tkB ws z.s.p [126] = false) (ho : tkB ws (tkK ws z.s.p [126]) [40] = true) : COK ws (zO ws z) := by
  have h1 := tk_lt9 ho
  have h2 := tkK_y ho
  have h4 := tkK_n ht
  have h3 := h.sm
  refine ⟨by show tkK ws (tkK ws z.s.p [126]) [40] ≤ _; omega, ?_, by show z.ns.length + (z.m + 1) ≤ 2 * tkK ws (tkK ws z.s.p [126]) [40]; omega⟩
  show z.op + 1 = ((brk (updW z.wf z.m 6) (z.m + 1) : Nat) : Int)
  rw [brk_upd, if_neg (by decide)]; have := h.op; omega
theorem stepN (h : COK ws z) (ht : tkB ws z.s.p [126] = true) : ouB ws rs z = ouB ws rs (zN ws z) := by
  rw [outB_E h, outB_E (zN_ok h ht)]
  have hb : coB ws z = coB ws (zN ws z) := by
    have h1 := tk_lt9 ht
    have h2 := tkK_y ht
    show begF ws (ws.length - z.s.p + 1) _ = begF ws (ws.length - tkK ws z.s.p [126] + 1) _
    rw [show ws.length - tkK ws z.s.p [126] + 1 = ws.length - z.s.p by omega]
    conv => lhs; unfold begF
    rw [if_pos (show tkB ws (⟨z.s.p, z.m, z.wf, z.op⟩ : Bg).p [126] = true from ht)]; rfl
  unfold coY coL coN coS1; rw [hb]; rfl
theorem stepO (h : COK ws z) (ht : tkB ws z.s.p [126] = false) (ho : tkB ws (tkK ws z.s.p [126]) [40] = true) : ouB ws rs z = ouB ws rs (zO ws z) := by
  rw [outB_E h, outB_E (zO_ok h ht ho)]
  have hb : coB ws z = coB ws (zO ws z) := by
    have h1 := tk_lt9 ho
    have h2 := tkK_y ho
    have h3 := tkK_n ht
    show begF ws (ws.length - z.s.p + 1) _ = begF ws (ws.length - tkK ws (tkK ws z.s.p [126]) [40] + 1) _
    rw [show ws.length - tkK ws (tkK ws z.s.p [126]) [40] + 1 = ws.length - z.s.p by omega]
    conv => lhs; unfold begF
    rw [if_neg (show ¬ tkB ws (⟨z.s.p, z.m, z.wf, z.op⟩ : Bg).p [126] = true from bne ht), if_pos (show tkB ws (tkK ws (⟨z.s.p, z.m, z.wf, z.op⟩ : Bg).p [126]) [40] = true from ho)]; rfl
  unfold coY coL coN coS1; rw [hb]; rfl
def yL (ws : List Tk) (rs : List (List UInt8)) (z : Cs) : Cs := ⟨leA ws ⟨tkK ws (tkK ws z.s.p [126]) [40], z.s.e, z.s.a⟩ rs, z.ns ++ [leC ws ⟨tkK ws (tkK ws z.s.p [126]) [40], z.s.e, z.s.a⟩ rs], z.m, z.wf, z.op⟩
theorem stepL (h : COK ws z) (ht : tkB ws z.s.p [126] = false) (ho : tkB ws (tkK ws z.s.p [126]) [40] = false) : ouB ws rs z = ouE ws rs (yL ws rs z) := by
  rw [outB_E h]
  have hb : coB ws z = ⟨tkK ws (tkK ws z.s.p [126]) [40], z.m, z.wf, z.op⟩ := by
    unfold coB begF
    rw [if_neg (show ¬ tkB ws (⟨z.s.p, z.m, z.wf, z.op⟩ : Bg).p [126] = true from bne ht), if_neg (show ¬ tkB ws (tkK ws (⟨z.s.p, z.m, z.wf, z.op⟩ : Bg).p [126]) [40] = true from bne ho)]
  unfold coY coL coN coS1; rw [hb]; rfl
def yC (ws : List Tk) (y : Cs) : Cs := ⟨⟨tkK ws y.s.p [41], y.s.e, y.s.a⟩, (setF 5 y.wf y.m y.ns).2, ((((setF 5 y.wf y.m y.ns).1 : Nat) : Int) - 1).toNat, y.wf, y.op - 1⟩
theorem stepC (ho : y.op > 0) (ht : tkB ws y.s.p [41] = true) : ouE ws rs y = ouE ws rs (yC ws y) := by
  have hb : enE ws y = enE ws (yC ws y) := by
    have h1 := tk_lt9 ht
    have h2 := tkK_y ht
    show endF ws y.wf (ws.length - y.s.p + 1) _ = endF ws y.wf (ws.length - tkK ws y.s.p [41] + 1) _
    rw [show ws.length - tkK ws y.s.p [41] + 1 = ws.length - y.s.p by omega]
    conv => lhs; unfold endF
    rw [if_pos (show (⟨y.s.p, y.ns, y.m, y.op⟩ : Eg).op > 0 from ho), if_pos (show tkB ws (⟨y.s.p, y.ns, y.m, y.op⟩ : Eg).p [41] = true from ht)]; rfl
  unfold ouE enR enJ; rw [hb]; rfl
theorem yC_ok (h : COK ws y) (ho : y.op > 0) (ht : tkB ws y.s.p [41] = true) : COK ws (yC ws y) := by
  have h1 := tk_lt9 ht
  have h2 := tkK_y ht
  have h3 := h.op
  have h4 := h.sm
  obtain ⟨b1, b2⟩ := brk_pop (wf := y.wf) (n := y.m) (ns := y.ns) (by omega)
  have b3 := set_add 5 y.wf y.m y.ns
  refine ⟨by show tkK ws y.s.p [41] ≤ _; omega, ?_, by show (setF 5 y.wf y.m y.ns).2.length + ((((setF 5 y.wf y.m y.ns).1 : Nat) : Int) - 1).toNat ≤ 2 * tkK ws y.s.p [41]; omega⟩
  show y.op - 1 = ((brk y.wf ((((setF 5 y.wf y.m y.ns).1 : Nat) : Int) - 1).toNat : Nat) : Int)
  rw [show ((((setF 5 y.wf y.m y.ns).1 : Nat) : Int) - 1).toNat = (setF 5 y.wf y.m y.ns).1 - 1 by omega]; omega
theorem enE_no (h : ¬ (y.op > 0 ∧ tkB ws y.s.p [41] = true)) : enE ws y = ⟨y.s.p, y.ns, y.m, y.op⟩ := by
  unfold enE endF
  by_cases ho : y.op > 0
  · have ht : tkB ws y.s.p [41] = false := by
      cases hh : tkB ws y.s.p [41] with
      | true => exact absurd ⟨ho, hh⟩ h
      | false => rfl
    rw [if_pos (show (⟨y.s.p, y.ns, y.m, y.op⟩ : Eg).op > 0 from ho), if_neg (show ¬ tkB ws (⟨y.s.p, y.ns, y.m, y.op⟩ : Eg).p [41] = true from bne ht)]
    show (⟨tkK ws y.s.p [41], y.ns, y.m, y.op⟩ : Eg) = _
    rw [tkK_n ht]
  · rw [if_neg (show ¬ (⟨y.s.p, y.ns, y.m, y.op⟩ : Eg).op > 0 from ho)]
def zJ (ws : List Tk) (k : Int) (m : List UInt8) (y : Cs) : Cs := ⟨⟨tkK ws y.s.p m, y.s.e, y.s.a⟩, (setF k y.wf y.m y.ns).2, (setF k y.wf y.m y.ns).1 + 1, updW y.wf (setF k y.wf y.m y.ns).1 k, y.op⟩
theorem zJ_ok {k : Int} {m : List UInt8} (h : COK ws y) (hk : k ≤ 5) (ht : tkB ws y.s.p m = true) : COK ws (zJ ws k m y) := by
  have h1 := tk_lt9 ht
  have h2 := tkK_y ht
  have h3 := h.sm
  have b3 := set_add k y.wf y.m y.ns
  refine ⟨by show tkK ws y.s.p m ≤ _; omega, ?_, by show (setF k y.wf y.m y.ns).2.length + ((setF k y.wf y.m y.ns).1 + 1) ≤ 2 * tkK ws y.s.p m; omega⟩
  show y.op = ((brk (updW y.wf (setF k y.wf y.m y.ns).1 k) ((setF k y.wf y.m y.ns).1 + 1) : Nat) : Int)
  rw [brk_upd, if_pos hk, brk_setk hk]; exact h.op
theorem tk_two {k : Nat} {m l : List UInt8} (h : tkB ws k m = true) (hn : m ≠ l) : tkB ws k l = false := by
  unfold tkB at h ⊢
  rw [Bool.and_eq_true, Bool.and_eq_true] at h
  rw [beq_iff_eq.1 h.2.2, beq_eq_false_iff_ne.2 hn, Bool.and_false, Bool.and_false]
theorem stepA (ht : tkB ws y.s.p [47, 92] = true) : ouE ws rs y = ouB ws rs (zJ ws 4 [47, 92] y) := by
  have hE := enE_no (ws := ws) (y := y) (fun h => by rw [tk_two ht (by decide)] at h; cases h.2)
  unfold ouE enR enJ
  rw [hE]
  unfold joF
  rw [if_pos (show tkB ws (⟨y.s.p, y.ns, y.m, y.op⟩ : Eg).p [47, 92] = true from ht)]; rfl
theorem stepOr (ht : tkB ws y.s.p [92, 47] = true) : ouE ws rs y = ouB ws rs (zJ ws 5 [92, 47] y) := by
  have hE := enE_no (ws := ws) (y := y) (fun h => by rw [tk_two ht (by decide)] at h; cases h.2)
  have hn : tkB ws y.s.p [47, 92] = false := tk_two ht (by decide)
  have hk := tkK_n hn
  unfold ouE enR enJ
  rw [hE]
  unfold joF
  rw [if_neg (show ¬ tkB ws (⟨y.s.p, y.ns, y.m, y.op⟩ : Eg).p [47, 92] = true from bne hn), if_pos (show tkB ws (tkK ws (⟨y.s.p, y.ns, y.m, y.op⟩ : Eg).p [47, 92]) [92, 47] = true by show tkB ws (tkK ws y.s.p [47, 92]) [92, 47] = true; rw [hk]; exact ht)]
  show ouB ws rs ⟨⟨tkK ws (tkK ws y.s.p [47, 92]) [92, 47], y.s.e, y.s.a⟩, _, _, _, _⟩ = _
  rw [hk]; rfl
theorem stepF (h : ¬ (y.op > 0 ∧ tkB ws y.s.p [41] = true)) (h1 : tkB ws y.s.p [47, 92] = false) (h2 : tkB ws y.s.p [92, 47] = false) : ouE ws rs y = finC ws y := by
  have hE := enE_no h
  have hk := tkK_n h1
  have hk2 := tkK_n h2
  unfold ouE enR enJ
  rw [hE]
  unfold joF
  rw [if_neg (show ¬ tkB ws (⟨y.s.p, y.ns, y.m, y.op⟩ : Eg).p [47, 92] = true from bne h1), if_neg (show ¬ tkB ws (tkK ws (⟨y.s.p, y.ns, y.m, y.op⟩ : Eg).p [47, 92]) [92, 47] = true by show ¬ tkB ws (tkK ws y.s.p [47, 92]) [92, 47] = true; rw [hk]; exact bne h2)]
  show finC ws ⟨⟨tkK ws (tkK ws y.s.p [47, 92]) [92, 47], y.s.e, y.s.a⟩, y.ns, y.m, y.wf, y.op⟩ = _
  rw [hk, hk2]
theorem fin_bad (h : z.s.e ≠ 0) : (finC ws z).1.e = z.s.e ∧ (finC ws z).1.a = z.s.a := by
  unfold finC endA
  cases decide (z.op > 0)
  · show (if z.s.p < ws.length then refA ws z.s 25 else z.s).e = _ ∧ (if z.s.p < ws.length then refA ws z.s 25 else z.s).a = _
    rw [kp_ref h]; split <;> exact ⟨rfl, rfl⟩
  · show (if (refA ws z.s 22).p < ws.length then refA ws (refA ws z.s 22) 25 else refA ws z.s 22).e = _ ∧ (if (refA ws z.s 22).p < ws.length then refA ws (refA ws z.s 22) 25 else refA ws z.s 22).a = _
    rw [kp_ref h, kp_ref h]; split <;> exact ⟨rfl, rfl⟩
theorem coF_bad : ∀ (f : Nat) (z : Cs), z.s.e ≠ 0 → (coF ws rs f z).s.e = z.s.e ∧ (coF ws rs f z).s.a = z.s.a
  | 0, z, h => ⟨rfl, rfl⟩
  | f + 1, z, h => by
    have h1 := kp_le (ws := ws) (rs := rs) (x := coS1 ws z) h
    have e1 : (coR ws rs z).2.s.e = z.s.e := h1.1
    have a1 : (coR ws rs z).2.s.a = z.s.a := h1.2
    unfold coF
    split
    · have h2 := coF_bad f (coR ws rs z).2 (by rw [e1]; exact h)
      exact ⟨h2.1.trans e1, h2.2.trans a1⟩
    · exact ⟨e1, a1⟩
theorem ouB_bad (h : z.s.e ≠ 0) : (ouB ws rs z).1.e = z.s.e ∧ (ouB ws rs z).1.a = z.s.a := by
  have h1 := coF_bad (ws := ws) (rs := rs) (ws.length - z.s.p + 1) z h
  have h2 := fin_bad (ws := ws) (z := coF ws rs (ws.length - z.s.p + 1) z) (by rw [h1.1]; exact h)
  exact ⟨h2.1.trans h1.1, h2.2.trans h1.2⟩
theorem ouE_bad (h : y.s.e ≠ 0) : (ouE ws rs y).1.e = y.s.e ∧ (ouE ws rs y).1.a = y.s.a := by
  unfold ouE; split
  · exact ouB_bad (z := (enR ws y).2) h
  · exact fin_bad (z := (enR ws y).2) h
end
abbrev FT := Old.Rs → List Cn → Old.Rs × List Cn
def cN (k : Int) : Cn := ⟨k, 0, 0, 0, 0⟩
def Wr (o : As × List Cn) (s : Old.Rs) : Prop := o.1.e = s.e ∧ o.1.a = s.a
structure GoN (ws : List Tk) (rs : List (List UInt8)) (z : Cs) (r : Old.Rs × List Cn) (y : Cs) (j : Nat) : Prop where
  out : ouB ws rs z = ouE ws rs y
  s : y.s = aO r.1
  st : stW y.wf y.m = List.replicate j 3 ++ stW z.wf z.m
  ns : r.2 = y.ns ++ List.replicate j (cN 3)
  op : y.op = z.op
  ok : COK ws y
def PartN (ws : List Tk) (rs : List (List UInt8)) (b : Nat) (f : FT) : Prop := ∀ (s : Old.Rs) (ns : List Cn) (z : Cs), s.e = 0 → b ≤ s.p → z.s = aO s → z.ns = ns → COK ws z →
  ((f s ns).1.e ≠ 0 → Wr (ouB ws rs z) (f s ns).1) ∧ ((f s ns).1.e = 0 → ∃ y j, GoN ws rs z (f s ns) y j)
structure GoK (ws : List Tk) (rs : List (List UInt8)) (k : Int) (o : As × List Cn) (op : Int) (st : List Int) (r : Old.Rs × List Cn) (y : Cs) : Prop where
  out : o = ouE ws rs y
  s : y.s = aO r.1
  st : setL k (stW y.wf y.m) y.ns = (st, r.2)
  op : y.op = op
  ok : COK ws y
  an : tkB ws r.1.p [47, 92] = false
  or : k = 5 → tkB ws r.1.p [92, 47] = false
def top (k : Int) (st : List Int) : Prop := ∀ x l, st = x :: l → ¬ x ≤ k
def PartK (ws : List Tk) (rs : List (List UInt8)) (k : Int) (b : Nat) (f : FT) : Prop := ∀ (s : Old.Rs) (ns : List Cn) (z : Cs), s.e = 0 → b ≤ s.p → z.s = aO s → z.ns = ns → COK ws z → top k (stW z.wf z.m) →
  ((f s ns).1.e ≠ 0 → Wr (ouB ws rs z) (f s ns).1) ∧ ((f s ns).1.e = 0 → ∃ y, GoK ws rs k (ouB ws rs z) z.op (stW z.wf z.m) (f s ns) y)
section
variable {ws : List Tk} {rs : List (List UInt8)} {rf : List UInt8 → Int} {k : Int} {b : Nat} {f : FT} {st : List Int} {ns l : List Cn}
theorem setL_top (h : top k st) : setL k st ns = (st, ns) := by
  cases st with
  | nil => rfl
  | cons x t => unfold setL; rw [if_neg (h x t rfl)]
theorem setL_rep (hk : 3 ≤ k) : ∀ (j : Nat) (ns : List Cn), setL k (List.replicate j 3 ++ st) ns = setL k st (ns ++ List.replicate j (cN 3))
  | 0, ns => by rw [List.replicate_zero, List.replicate_zero, List.nil_append, List.append_nil]
  | j + 1, ns => by
    rw [List.replicate_succ, List.cons_append]
    show (if (3 : Int) ≤ k then _ else _) = _
    rw [if_pos hk, setL_rep hk j, List.append_assoc, List.replicate_succ]; rfl
theorem setL_one {x : Int} (h : x ≤ k) : setL k (x :: st) ns = setL k st (ns ++ [cN x]) := by
  show (if x ≤ k then _ else _) = _
  rw [if_pos h]; rfl
theorem setL_45 : ∀ (st : List Int) (ns : List Cn), setL 5 st ns = setL 5 (setL 4 st ns).1 (setL 4 st ns).2
  | [], ns => rfl
  | x :: t, ns => by
    by_cases h : x ≤ 4
    · rw [setL_one h, setL_one (show x ≤ 5 by omega)]; exact setL_45 t _
    · rw [show setL 4 (x :: t) ns = (x :: t, ns) by unfold setL; rw [if_neg h]]
theorem loR_bad {m : List UInt8} {s : Old.Rs} (h : s.e ≠ 0) : ∀ g, loR ws m k f g s ns = (s, ns)
  | 0 => rfl
  | g + 1 => by unfold loR; rw [if_neg h]
theorem zJ_st {m : List UInt8} {y : Cs} {r : List Cn} (h : setL k (stW y.wf y.m) y.ns = (st, r)) : stW (zJ ws k m y).wf (zJ ws k m y).m = k :: st ∧ (zJ ws k m y).ns = r := by
  rw [set_stk] at h
  have h1 : stW y.wf (setF k y.wf y.m y.ns).1 = st := congrArg Prod.fst h
  have h2 : (setF k y.wf y.m y.ns).2 = r := congrArg Prod.snd h
  refine ⟨?_, h2⟩
  show stW (updW y.wf (setF k y.wf y.m y.ns).1 k) ((setF k y.wf y.m y.ns).1 + 1) = _
  rw [stk_upd, h1]
theorem zJ_s {m : List UInt8} {y : Cs} {s : Old.Rs} (h : y.s = aO s) : (zJ ws k m y).s = aO ⟨s.e, s.a, tkK ws s.p m⟩ := by
  show (⟨tkK ws y.s.p m, y.s.e, y.s.a⟩ : As) = _
  rw [h]; rfl
theorem top_cons {x : Int} {t : List Int} (h : ¬ x ≤ k) : top k (x :: t) := fun y l e => by cases e; exact h
theorem loop_and (hf : PartN ws rs b f) (hg : Gdf ws f) (o : As × List Cn) (op : Int) (ht : top 4 st) : ∀ (g : Nat) (s : Old.Rs) (l : List Cn) (y : Cs), s.e = 0 → b ≤ s.p → ws.length - s.p < g → o = ouE ws rs y → y.s = aO s → setL 4 (stW y.wf y.m) y.ns = (st, l) → y.op = op → COK ws y →
    ((loR ws [47, 92] 4 f g s l).1.e ≠ 0 → Wr o (loR ws [47, 92] 4 f g s l).1) ∧ ((loR ws [47, 92] 4 f g s l).1.e = 0 → ∃ y', GoK ws rs 4 o op st (loR ws [47, 92] 4 f g s l) y')
  | 0, s, l, y, h0, hb, hl, ho, hs, hst, hop, hok => by omega
  | g + 1, s, l, y, h0, hb, hl, ho, hs, hst, hop, hok => by
    have hsp : y.s.p = s.p := by rw [hs]; rfl
    cases hm : tkB ws s.p [47, 92] with
    | false =>
      have e : loR ws [47, 92] 4 f (g + 1) s l = (s, l) := by unfold loR; rw [if_pos h0, if_neg (bne hm), tkK_n hm]
      rw [e]
      exact ⟨fun h => absurd h0 h, fun _ => ⟨y, ho, hs, hst, hop, hok, hm, fun h => absurd h (by decide)⟩⟩
    | true =>
      have hlt := tk_lt9 hm
      have hkk := tkK_y hm
      have hmy : tkB ws y.s.p [47, 92] = true := by rw [hsp]; exact hm
      have e : loR ws [47, 92] 4 f (g + 1) s l = loR ws [47, 92] 4 f g (f ⟨s.e, s.a, tkK ws s.p [47, 92]⟩ l).1 (putN (f ⟨s.e, s.a, tkK ws s.p [47, 92]⟩ l).1 (f ⟨s.e, s.a, tkK ws s.p [47, 92]⟩ l).2 (cN 4)) := by
        conv => lhs; unfold loR
        rw [if_pos h0, if_pos hm]; rfl
      rw [e]
      obtain ⟨z1, z2⟩ := zJ_st (ws := ws) (m := [47, 92]) hst
      obtain ⟨a1, a2, a3⟩ := hg ⟨s.e, s.a, tkK ws s.p [47, 92]⟩ l (show tkK ws s.p [47, 92] ≤ ws.length by omega)
      have a1 : tkK ws s.p [47, 92] ≤ _ := a1
      obtain ⟨p1, p2⟩ := hf ⟨s.e, s.a, tkK ws s.p [47, 92]⟩ l (zJ ws 4 [47, 92] y) h0 (show b ≤ tkK ws s.p [47, 92] by omega) (zJ_s hs) z2 (zJ_ok hok (by decide) hmy)
      have ho2 : o = ouB ws rs (zJ ws 4 [47, 92] y) := ho.trans (stepA hmy)
      by_cases he : (f ⟨s.e, s.a, tkK ws s.p [47, 92]⟩ l).1.e = 0
      · obtain ⟨y', j, q⟩ := p2 he
        have hst' : setL 4 (stW y'.wf y'.m) y'.ns = (st, putN (f ⟨s.e, s.a, tkK ws s.p [47, 92]⟩ l).1 (f ⟨s.e, s.a, tkK ws s.p [47, 92]⟩ l).2 (cN 4)) := by
          rw [q.st, z1, setL_rep (by decide), setL_one (by decide), setL_top ht, putN_y he, q.ns]
        exact loop_and hf hg o op ht g _ _ y' he (by omega) (by omega) (ho2.trans q.out) q.s hst' (q.op.trans hop) q.ok
      · rw [loR_bad he]
        exact ⟨fun h => by rw [ho2]; exact p1 he, fun h => absurd h he⟩
theorem part_and (hf : PartN ws rs b f) (hg : Gdf ws f) : PartK ws rs 4 b (anF ws f) := by
  intro s ns z h0 hb hs hn hok ht
  obtain ⟨p1, p2⟩ := hf s ns z h0 hb hs hn hok
  obtain ⟨a1, a2, a3⟩ := hg s ns (by have := hok.le; rw [hs] at this; exact this)
  show ((loR ws [47, 92] 4 f (ws.length + 1) (f s ns).1 (f s ns).2).1.e ≠ 0 → _) ∧ ((loR ws [47, 92] 4 f (ws.length + 1) (f s ns).1 (f s ns).2).1.e = 0 → _)
  by_cases he : (f s ns).1.e = 0
  · obtain ⟨y, j, q⟩ := p2 he
    exact loop_and hf hg (ouB ws rs z) z.op ht (ws.length + 1) _ _ y he (by omega) (by omega) q.out q.s (by rw [q.st, setL_rep (by decide), setL_top ht, q.ns]) q.op q.ok
  · have e : anF ws f s ns = ((f s ns).1, (f s ns).2) := loR_bad he _
    rw [e, loR_bad he]
    exact ⟨fun h => p1 he, fun h => absurd h he⟩
theorem loop_or (hf : PartK ws rs 4 b f) (hg : Gdf ws f) (o : As × List Cn) (op : Int) (ht : top 5 st) : ∀ (g : Nat) (s : Old.Rs) (l : List Cn) (y : Cs), s.e = 0 → b ≤ s.p → ws.length - s.p < g → o = ouE ws rs y → y.s = aO s → setL 5 (stW y.wf y.m) y.ns = (st, l) → y.op = op → COK ws y → tkB ws s.p [47, 92] = false →
    ((loR ws [92, 47] 5 f g s l).1.e ≠ 0 → Wr o (loR ws [92, 47] 5 f g s l).1) ∧ ((loR ws [92, 47] 5 f g s l).1.e = 0 → ∃ y', GoK ws rs 5 o op st (loR ws [92, 47] 5 f g s l) y')
  | 0, s, l, y, h0, hb, hl, ho, hs, hst, hop, hok, han => by omega
  | g + 1, s, l, y, h0, hb, hl, ho, hs, hst, hop, hok, han => by
    have hsp : y.s.p = s.p := by rw [hs]; rfl
    cases hm : tkB ws s.p [92, 47] with
    | false =>
      have e : loR ws [92, 47] 5 f (g + 1) s l = (s, l) := by unfold loR; rw [if_pos h0, if_neg (bne hm), tkK_n hm]
      rw [e]
      exact ⟨fun h => absurd h0 h, fun _ => ⟨y, ho, hs, hst, hop, hok, han, fun _ => hm⟩⟩
    | true =>
      have hlt := tk_lt9 hm
      have hkk := tkK_y hm
      have hmy : tkB ws y.s.p [92, 47] = true := by rw [hsp]; exact hm
      have e : loR ws [92, 47] 5 f (g + 1) s l = loR ws [92, 47] 5 f g (f ⟨s.e, s.a, tkK ws s.p [92, 47]⟩ l).1 (putN (f ⟨s.e, s.a, tkK ws s.p [92, 47]⟩ l).1 (f ⟨s.e, s.a, tkK ws s.p [92, 47]⟩ l).2 (cN 5)) := by
        conv => lhs; unfold loR
        rw [if_pos h0, if_pos hm]; rfl
      rw [e]
      obtain ⟨z1, z2⟩ := zJ_st (ws := ws) (m := [92, 47]) hst
      obtain ⟨a1, a2, a3⟩ := hg ⟨s.e, s.a, tkK ws s.p [92, 47]⟩ l (show tkK ws s.p [92, 47] ≤ ws.length by omega)
      have a1 : tkK ws s.p [92, 47] ≤ _ := a1
      obtain ⟨p1, p2⟩ := hf ⟨s.e, s.a, tkK ws s.p [92, 47]⟩ l (zJ ws 5 [92, 47] y) h0 (show b ≤ tkK ws s.p [92, 47] by omega) (zJ_s hs) z2 (zJ_ok hok (by decide) hmy) (by rw [z1]; exact top_cons (by decide))
      have ho2 : o = ouB ws rs (zJ ws 5 [92, 47] y) := ho.trans (stepOr hmy)
      by_cases he : (f ⟨s.e, s.a, tkK ws s.p [92, 47]⟩ l).1.e = 0
      · obtain ⟨y', q⟩ := p2 he
        have hst' : setL 5 (stW y'.wf y'.m) y'.ns = (st, putN (f ⟨s.e, s.a, tkK ws s.p [92, 47]⟩ l).1 (f ⟨s.e, s.a, tkK ws s.p [92, 47]⟩ l).2 (cN 5)) := by
          rw [setL_45, q.st, z1, setL_one (by decide), setL_top ht, putN_y he]
        exact loop_or hf hg o op ht g _ _ y' he (by omega) (by omega) (ho2.trans q.out) q.s hst' (q.op.trans hop) q.ok q.an
      · rw [loR_bad he]
        exact ⟨fun h => by rw [ho2]; exact p1 he, fun h => absurd h he⟩
theorem top_54 (h : top 5 st) : top 4 st := fun x l e => by have := h x l e; omega
theorem part_or (hf : PartK ws rs 4 b f) (hg : Gdf ws f) : PartK ws rs 5 b (joR ws [92, 47] 5 f) := by
  intro s ns z h0 hb hs hn hok ht
  obtain ⟨p1, p2⟩ := hf s ns z h0 hb hs hn hok (top_54 ht)
  obtain ⟨a1, a2, a3⟩ := hg s ns (by have := hok.le; rw [hs] at this; exact this)
  show ((loR ws [92, 47] 5 f (ws.length + 1) (f s ns).1 (f s ns).2).1.e ≠ 0 → _) ∧ ((loR ws [92, 47] 5 f (ws.length + 1) (f s ns).1 (f s ns).2).1.e = 0 → _)
  by_cases he : (f s ns).1.e = 0
  · obtain ⟨y, q⟩ := p2 he
    exact loop_or hf hg (ouB ws rs z) z.op ht (ws.length + 1) _ _ y he (by omega) (by omega) q.out q.s (by rw [setL_45, q.st, setL_top ht]) q.op q.ok q.an
  · have e : joR ws [92, 47] 5 f s ns = ((f s ns).1, (f s ns).2) := loR_bad he _
    rw [e, loR_bad he]
    exact ⟨fun h => p1 he, fun h => absurd h he⟩
end
section
variable {ws : List Tk} {rs : List (List UInt8)} {rf : List UInt8 → Int} {b : Nat} {fN fO : FT}
theorem part_not (hw : WsOK ws) (hm : Mi ws) (hr : ∀ q, rf q = idxS rs q) {s : Old.Rs} {ns : List Cn} {z : Cs} (hN : PartN ws rs (s.p + 1) fN) (hO : PartK ws rs 5 (s.p + 1) fO) (gO : Gdf ws fO) (h0 : s.e = 0) (hs : z.s = aO s) (hn : z.ns = ns) (hok : COK ws z) :
    ((noR rf ws fN fO s ns).1.e ≠ 0 → Wr (ouB ws rs z) (noR rf ws fN fO s ns).1) ∧ ((noR rf ws fN fO s ns).1.e = 0 → ∃ y j, GoN ws rs z (noR rf ws fN fO s ns) y j) := by
  have hsp : z.s.p = s.p := by rw [hs]; rfl
  have hle := hok.le
  cases h1 : tkB ws s.p [126] with
  | true =>
    have h1z : tkB ws z.s.p [126] = true := by rw [hsp]; exact h1
    have hkk := tkK_y h1
    rw [no_1 h0 h1]
    obtain ⟨p1, p2⟩ := hN ⟨s.e, s.a, tkK ws s.p [126]⟩ ns (zN ws z) h0 (show s.p + 1 ≤ tkK ws s.p [126] by omega) (by show (⟨tkK ws z.s.p [126], z.s.e, z.s.a⟩ : As) = _; rw [hs]; rfl) hn (zN_ok hok h1z)
    have ho : ouB ws rs z = ouB ws rs (zN ws z) := stepN hok h1z
    refine ⟨fun h => by rw [ho]; exact p1 h, fun h => ?_⟩
    obtain ⟨y, j, q⟩ := p2 h
    have h : (fN ⟨s.e, s.a, tkK ws s.p [126]⟩ ns).1.e = 0 := h
    refine ⟨y, j + 1, ho.trans q.out, q.s, ?_, ?_, q.op, q.ok⟩
    · rw [q.st, show stW (zN ws z).wf (zN ws z).m = 3 :: stW z.wf z.m from stk_upd _ _ _, List.replicate_succ', List.append_assoc]; rfl
    · show putN (fN ⟨s.e, s.a, tkK ws s.p [126]⟩ ns).1 _ _ = _
      rw [putN_y h, q.ns, List.replicate_succ', List.append_assoc]; rfl
  | false =>
    have h1z : tkB ws z.s.p [126] = false := by rw [hsp]; exact h1
    have hk1 := tkK_n h1
    cases h2 : tkB ws (tkK ws s.p [126]) [40] with
    | true =>
      have h2z : tkB ws (tkK ws z.s.p [126]) [40] = true := by rw [hsp]; exact h2
      have hk2 := tkK_y h2
      have hl2 := tk_lt9 h2
      rw [no_2 h0 h1 h2]
      have hst : stW (zO ws z).wf (zO ws z).m = 6 :: stW z.wf z.m := stk_upd _ _ _
      obtain ⟨p1, p2⟩ := hO ⟨s.e, s.a, tkK ws (tkK ws s.p [126]) [40]⟩ ns (zO ws z) h0 (show s.p + 1 ≤ tkK ws (tkK ws s.p [126]) [40] by omega) (by show (⟨tkK ws (tkK ws z.s.p [126]) [40], z.s.e, z.s.a⟩ : As) = _; rw [hs]; rfl) hn (zO_ok hok h1z h2z) (by rw [hst]; exact top_cons (by decide))
      have ho : ouB ws rs z = ouB ws rs (zO ws z) := stepO hok h1z h2z
      by_cases he : (fO ⟨s.e, s.a, tkK ws (tkK ws s.p [126]) [40]⟩ ns).1.e = 0
      · obtain ⟨y, q⟩ := p2 he
        have hop : y.op = z.op + 1 := q.op
        have hpos : y.op > 0 := by rw [hop, hok.op]; omega
        have hyp : y.s.p = (fO ⟨s.e, s.a, tkK ws (tkK ws s.p [126]) [40]⟩ ns).1.p := by rw [q.s]; rfl
        have qst := q.st
        rw [set_stk, hst] at qst
        have s1 : stW y.wf (setF 5 y.wf y.m y.ns).1 = 6 :: stW z.wf z.m := congrArg Prod.fst qst
        have s2 : (setF 5 y.wf y.m y.ns).2 = (fO ⟨s.e, s.a, tkK ws (tkK ws s.p [126]) [40]⟩ ns).2 := congrArg Prod.snd qst
        cases h3 : tkB ws (fO ⟨s.e, s.a, tkK ws (tkK ws s.p [126]) [40]⟩ ns).1.p [41] with
        | true =>
          have h3y : tkB ws y.s.p [41] = true := by rw [hyp]; exact h3
          rw [mark_y he h3]
          refine ⟨fun h => absurd he h, fun _ => ⟨yC ws y, 0, ?_, ?_, ?_, ?_, ?_, yC_ok q.ok hpos h3y⟩⟩
          · rw [ho, q.out, stepC hpos h3y]
          · show (⟨tkK ws y.s.p [41], y.s.e, y.s.a⟩ : As) = _
            rw [q.s]; rfl
          · show stW y.wf ((((setF 5 y.wf y.m y.ns).1 : Nat) : Int) - 1).toNat = _
            rw [show ((((setF 5 y.wf y.m y.ns).1 : Nat) : Int) - 1).toNat = (setF 5 y.wf y.m y.ns).1 - 1 by omega, stk_tail, s1]; rfl
          · show _ = (setF 5 y.wf y.m y.ns).2 ++ []
            rw [List.append_nil]; exact s2.symm
          · show y.op - 1 = z.op; omega
        | false =>
          have h3y : tkB ws y.s.p [41] = false := by rw [hyp]; exact h3
          rw [mark_n he h3, tkK_n h3]
          have qe := odd_ne (ws := ws) (u := false) (s := (fO ⟨s.e, s.a, tkK ws (tkK ws s.p [126]) [40]⟩ ns).1) he
          refine ⟨fun _ => ?_, fun h => absurd h qe⟩
          rw [ho, q.out, stepF (fun h => by rw [h3y] at h; cases h.2) (by rw [hyp]; exact q.an) (by rw [hyp]; exact q.or rfl)]
          have r := rel_odd (ws := ws) hw he
          have re : (refA ws y.s 22).e ≠ 0 := by rw [q.s, r.e]; exact qe
          unfold finC Wr endA
          rw [decide_eq_true hpos]
          show (if (refA ws y.s 22).p < ws.length then refA ws (refA ws y.s 22) 25 else refA ws y.s 22).e = _ ∧ (if (refA ws y.s 22).p < ws.length then refA ws (refA ws y.s 22) 25 else refA ws y.s 22).a = _
          rw [kp_ref re]
          have : (if (refA ws y.s 22).p < ws.length then refA ws y.s 22 else refA ws y.s 22) = refA ws y.s 22 := by split <;> rfl
          rw [this, q.s]; exact ⟨r.e, r.a⟩
      · rw [mark_s he]
        exact ⟨fun _ => by rw [ho]; exact p1 he, fun h => absurd h he⟩
    | false =>
      have h2z : tkB ws (tkK ws z.s.p [126]) [40] = false := by rw [hsp]; exact h2
      rw [no_3 h0 h1 h2]
      have hS : (⟨tkK ws (tkK ws z.s.p [126]) [40], z.s.e, z.s.a⟩ : As) = aO ⟨s.e, s.a, tkK ws (tkK ws s.p [126]) [40]⟩ := by rw [hs]; rfl
      have hk2 := tkK_n h2
      obtain ⟨r1, r2⟩ := rel_leaf (rf := rf) (rs := rs) (ns := ns) (s := ⟨s.e, s.a, tkK ws (tkK ws s.p [126]) [40]⟩) hw hm hr h0
      obtain ⟨a1, a2, a3⟩ := at_gd rf ws ⟨s.e, s.a, tkK ws (tkK ws s.p [126]) [40]⟩ ns (show tkK ws (tkK ws s.p [126]) [40] ≤ ws.length by omega)
      have a1 : tkK ws (tkK ws s.p [126]) [40] ≤ _ := a1
      have a3 : _ + tkK ws (tkK ws s.p [126]) [40] ≤ _ := a3
      have ho : ouB ws rs z = ouE ws rs (yL ws rs z) := stepL hok h1z h2z
      have hys : (yL ws rs z).s = leA ws (aO ⟨s.e, s.a, tkK ws (tkK ws s.p [126]) [40]⟩) rs := by unfold yL; rw [hS]
      refine ⟨fun h => ?_, fun h => ?_⟩
      · rw [ho]
        have := ouE_bad (ws := ws) (rs := rs) (y := yL ws rs z) (by rw [hys, r1.e]; exact h)
        exact ⟨this.1.trans (by rw [hys]; exact r1.e), this.2.trans (by rw [hys]; exact r1.a)⟩
      · have e2 := r2 h
        have hys2 := hys.trans (r1.eq h)
        have hyn : (yL ws rs z).ns = ns ++ [leC ws (aO ⟨s.e, s.a, tkK ws (tkK ws s.p [126]) [40]⟩) rs] := by unfold yL; rw [hS, hn]
        refine ⟨yL ws rs z, 0, ho, hys2, rfl, ?_, rfl, ?_⟩
        · rw [hyn, List.replicate_zero, List.append_nil]; exact e2
        · have e3 : (atZ rf ws ⟨s.e, s.a, tkK ws (tkK ws s.p [126]) [40]⟩ ns).2.length = ns.length + 1 := by rw [e2, List.length_append]; rfl
          have yp : (yL ws rs z).s.p = (atZ rf ws ⟨s.e, s.a, tkK ws (tkK ws s.p [126]) [40]⟩ ns).1.p := by rw [hys2]; rfl
          have yn : (yL ws rs z).ns.length = ns.length + 1 := by rw [hyn, List.length_append]; rfl
          have sm := hok.sm
          rw [hn] at sm
          exact ⟨by rw [yp]; exact a2, hok.op, by rw [yp, yn]; show ns.length + 1 + z.m ≤ _; omega⟩
theorem part_all (hw : WsOK ws) (hm : Mi ws) (hr : ∀ q, rf q = idxS rs q) : ∀ (f b : Nat), ws.length - b < f → PartN ws rs b (noF rf ws f)
  | 0, b, h => by omega
  | f + 1, b, h => by
    intro s ns z h0 hb hs hn hok
    have hN : PartN ws rs (s.p + 1) (noF rf ws f) := by
      by_cases hl : ws.length - (s.p + 1) < f
      · exact part_all hw hm hr f _ hl
      · intro s1 n1 z1 e1 b1 hs1 hn1 hok1
        have := hok1.le
        rw [hs1] at this
        have : s1.p ≤ ws.length := this
        exact absurd (show ws.length - (s.p + 1) < f by omega) hl
    exact part_not hw hm hr hN (part_or (part_and hN (noF_gd rf ws f)) (jo_gd (noF_gd rf ws f))) (or_gd (noF_gd rf ws f)) h0 hs hn hok
theorem cp_rp (hw : WsOK ws) (hm : Mi ws) (hr : ∀ q, rf q = idxS rs q) : (cpS ws rs).e = (rpS rf ws).e ∧ (cpS ws rs).a = (rpS rf ws).a ∧ ((rpS rf ws).e = 0 → cpN ws rs = rpN rf ws) := by
  have hN := part_all (rs := rs) hw hm hr (ws.length + 1) 0 (by omega)
  have hO := part_or (part_and hN (noF_gd rf ws _)) (jo_gd (noF_gd rf ws _))
  obtain ⟨p1, p2⟩ := hO ⟨0, 0, 0⟩ [] ⟨⟨0, 0, 0⟩, [], 0, fun _ => 0, 0⟩ rfl (Nat.le_refl _) rfl rfl ⟨Nat.zero_le _, rfl, Nat.le_refl _⟩ (fun x l e => by cases e)
  have hout : ouB ws rs ⟨⟨0, 0, 0⟩, [], 0, fun _ => 0, 0⟩ = (cpS ws rs, cpN ws rs) := rfl
  rw [hout] at p1 p2
  have p1 : (rpZ rf ws).1.e ≠ 0 → Wr (cpS ws rs, cpN ws rs) (rpZ rf ws).1 := p1
  by_cases he : (rpZ rf ws).1.e = 0
  · obtain ⟨y, q⟩ := p2 he
    have qs : y.s = aO (rpZ rf ws).1 := q.s
    have hop : y.op = 0 := q.op
    have hyp : y.s.p = (rpZ rf ws).1.p := by rw [qs]; rfl
    have ho := q.out
    rw [stepF (fun h => by rw [hop] at h; exact absurd h.1 (by decide)) (by rw [hyp]; exact q.an) (by rw [hyp]; exact q.or rfl)] at ho
    have qst := q.st
    rw [set_stk] at qst
    have s2 : (setF 5 y.wf y.m y.ns).2 = (rpZ rf ws).2 := congrArg Prod.snd qst
    have c1 : cpS ws rs = endA ws y.s := by
      have : cpS ws rs = (finC ws y).1 := congrArg Prod.fst ho
      rw [this]; unfold finC; rw [hop]; rfl
    have c2 : cpN ws rs = rpN rf ws := by
      have : cpN ws rs = (finC ws y).2 := congrArg (fun t : As × List Cn => t.2) ho
      rw [this]; exact s2
    rw [c1]
    by_cases hl : (rpZ rf ws).1.p < ws.length
    · rw [rpS_y hl]
      have r := ref_y (ws := ws) (k := 25) he hl
      unfold endA
      rw [hyp, if_pos hl, qs]
      exact ⟨r.e, r.a, fun _ => c2⟩
    · rw [rpS_n hl]
      unfold endA
      rw [hyp, if_neg hl, qs]
      exact ⟨rfl, rfl, fun _ => c2⟩
  · have w := p1 he
    have e : (rpS rf ws).e = (rpZ rf ws).1.e ∧ (rpS rf ws).a = (rpZ rf ws).1.a := by
      by_cases hl : (rpZ rf ws).1.p < ws.length
      · rw [rpS_y hl, fail_n he]; exact ⟨rfl, rfl⟩
      · rw [rpS_n hl]; exact ⟨rfl, rfl⟩
    exact ⟨w.1.trans e.1.symm, w.2.trans e.2.symm, fun h => absurd (e.1.symm.trans h) he⟩
end
theorem rX_ix (q : List UInt8) : Old.regF q = idxS (rgL Old.nameF) q := (idxS_L _ q).symm
theorem rV_ix (q : List UInt8) : regV q = idxS (rgL nameV) q := (idxS_L _ q).symm
theorem rA_ix (q : List UInt8) : regA q = idxS (rgL nameA) q := (idxS_L _ q).symm
end Go.Proofs.YtedlaclfhgneeabGreatDoor
namespace Go.Proofs.YtedlaclfhgneeabGreatDoor
open Go.RowKit
set_option linter.unusedVariables false
set_option linter.unusedSimpArgs false
theorem fn_fac {P : Program} {f : Nat} {az : List SV} {H : Hp} {x : SV} {os : List (Nat × Obj)} {b : Nat} {o : Obj} (h : Fn P f az (H ++ [some (.fac b o)]) (Rt x (H ++ [some (.fac b o)]))) (hm : (b, o) ∈ os) (hro : ∀ (i : Nat) (e : Ent), H[i]? = some (some e) → ∃ s n g, e = .lst s n g) (hx : inS 0 x = true) : FnI (Gl os) P f az H (Rt x H) := by
  refine ⟨h.1, fun G w vs hM hI hv => ?_⟩
  obtain ⟨hb, _⟩ := hI (b, o) hm
  have at_ : ∀ (i : Nat) (e : Ent), (H ++ [some (.fac b o)])[i]? = some (some e) → (H[i]? = some (some e) ∧ i < H.length) ∨ (e = .fac b o ∧ i = H.length) := fun i e he => by
    by_cases hi : i < H.length
    · rw [List.getElem?_append_left hi] at he; exact .inl ⟨he, hi⟩
    · rw [List.getElem?_append_right (by omega)] at he
      cases hk : i - H.length with
      | zero => rw [hk] at he; cases he; exact .inr ⟨rfl, by omega⟩
      | succ k => rw [hk] at he; simp at he
  have ro_ : ∀ (i : Nat) (e : Ent), (H ++ [some (.fac b o)])[i]? = some (some e) → e.mut = false := fun i e he => by
    rcases at_ i e he with ⟨he, _⟩ | ⟨rfl, _⟩
    · obtain ⟨s, n, g, rfl⟩ := hro i e he; rfl
    · rfl
  have hM' : Mem (H ++ [some (.fac b o)]) (G ++ [some ⟨b, [], [], 0⟩]) w := mem_ro (by simp [hM.len]) fun i e he => by
    refine ⟨ro_ i e he, ?_⟩
    rcases at_ i e he with ⟨he, hi⟩ | ⟨rfl, hi⟩
    · obtain ⟨s, n, g, rfl⟩ := hro i e he
      have := hM.ent i _ he
      rw [List.getElem?_append_left (by rw [← hM.len]; exact hi)]
      exact this
    · rw [hi, hM.len, List.getElem?_append_right (Nat.le_refl _)]
      simp only [Nat.sub_self]
      exact ⟨_, rfl, rfl, hb⟩
  refine Calls.mono (h.2 _ w vs hM' (denL_mono _ az hv)) fun e w' hp => ?_
  obtain ⟨v, F, h1, h2, _, hg⟩ := post_ro hp ro_
  refine ⟨x, H, [], v, ⟨rfl, rfl⟩, ?_, h2, ?_, (Mix.refl _ w).grow hg, by rw [hM.len]; exact Nat.le_refl _, fun i e he _ => he, fun i e he hm L hL => ?_⟩
  · rw [← den_take x hx] at h1 ⊢; simpa using h1
  · rw [List.append_nil]; exact ⟨hM.len, fun i e he => (hM.ent i e he).mix hg.mix (fun _ _ _ => rfl), hM.sep⟩
  · rw [List.append_nil] at hL; exact .inl (mem_keys.2 ⟨i, e, L, he, hm, hL, rfl⟩)
end Go.Proofs.YtedlaclfhgneeabGreatDoor
namespace Go.Proofs.YtedlaclfhgneeabGreatDoor
open Go.RowKit
set_option linter.unusedVariables false
set_option linter.unusedSimpArgs false
set_option maxRecDepth 100000
set_option maxHeartbeats 2000000
set_option simprocs false
theorem mi_wf {ws : List Tk} (h : Old.WF ws) : ∀ k, k < ws.length → (ws.getD k tok0).text = [45] → (ws.getD k tok0).kind ≠ 2 → (ws.getD k tok0).kind = 3 := by
  intro k hk ht h2
  have hm : ws.getD k tok0 ∈ ws := by
    rw [List.getD_eq_getElem?_getD, List.getElem?_eq_getElem hk]; exact List.getElem_mem hk
  have w := h _ hm
  rcases w.kd with c | c | c
  · exact absurd ht (w.nm c 45 (by decide))
  · exact absurd c h2
  · exact c
end Go.Proofs.YtedlaclfhgneeabGreatDoor
namespace Go.Proofs.YtedlaclfhgneeabGreatDoor
open Go.RowKit
set_option linter.unusedVariables false
set_option linter.unusedSimpArgs false
set_option linter.unusedSectionVars false
set_option maxRecDepth 100000
theorem rgL_at {nf : Int → List UInt8} (g : Int) (h0 : 0 ≤ g) (h8 : g < 8) : (rgL nf).getD g.toNat [] = nf g := by
  have : g = 0 ∨ g = 1 ∨ g = 2 ∨ g = 3 ∨ g = 4 ∨ g = 5 ∨ g = 6 ∨ g = 7 := by omega
  rcases this with e | e | e | e | e | e | e | e <;> subst e <;> rfl
theorem idx_lt (q : List UInt8) : ∀ (l : List (List UInt8)) (k : Nat), Old.idxL l q k < (k : Int) + (l.length : Int)
  | [], k => by unfold Old.idxL; simp only [List.length_nil]; omega
  | x :: l, k => by
    unfold Old.idxL
    split
    · rw [List.length_cons]; omega
    · have := idx_lt q l (k + 1)
      rw [List.length_cons]; omega
theorem xreg_cases {k : Int} (h0 : 0 ≤ k) (h8 : k < 8) : Nam (Old.nameF k) ∧ Old.regF (Old.nameF k) = k := by
  have : k = 0 ∨ k = 1 ∨ k = 2 ∨ k = 3 ∨ k = 4 ∨ k = 5 ∨ k = 6 ∨ k = 7 := by omega
  rcases this with e | e | e | e | e | e | e | e <;> subst e <;> exact ⟨⟨⟨_, rfl, by decide⟩, by decide⟩, by decide⟩
theorem vreg_cases {k : Int} (h0 : 0 ≤ k) (h8 : k < 8) : Nam (nameV k) ∧ regV (nameV k) = k := by
  have : k = 0 ∨ k = 1 ∨ k = 2 ∨ k = 3 ∨ k = 4 ∨ k = 5 ∨ k = 6 ∨ k = 7 := by omega
  rcases this with e | e | e | e | e | e | e | e <;> subst e <;> exact ⟨⟨⟨_, rfl, by decide⟩, by decide⟩, by decide⟩
theorem kreg_cases {k : Int} (h0 : 0 ≤ k) (h8 : k < 8) : Nam (nameA k) ∧ regA (nameA k) = k := by
  have : k = 0 ∨ k = 1 ∨ k = 2 ∨ k = 3 ∨ k = 4 ∨ k = 5 ∨ k = 6 ∨ k = 7 := by omega
  rcases this with e | e | e | e | e | e | e | e <;> subst e <;> exact ⟨⟨⟨_, rfl, by decide⟩, by decide⟩, by decide⟩
structure PBk (os : List (Nat × Obj)) (ar : Int) (cs : List Cn) (s : List UInt8) (ws : List Tk) : Prop where
  pr : ∀ c : Nat, FnI (Gl os) Tryz.prog 22 [.int .i64 ar, .sl 0 cs.length c] [some (.lst 5 cs.length (fun zz => cc (cs.getD zz Cn.z)))] (Rt (.tup [.str s, .int .i64 0]) [some (.lst 5 cs.length (fun zz => cc (cs.getD zz Cn.z)))])
  tk : tokensR s = (ws, 0, 0)
  pa : Fn Tryz.prog 19 [.int .i64 ar, .sl 0 ws.length 0] [some (.lst 4 ws.length (fun zz => tkc (ws.getD zz tok0)))] (Rt (.tup [.sl 1 cs.length 0, .int .i64 0, .int .i64 0]) [some (.lst 4 ws.length (fun zz => tkc (ws.getD zz tok0))), some (.row 88 5 cs.length 0 (fun zz => cc (cs.getD zz Cn.z)))])
def PNo (os : List (Nat × Obj)) (ar : Int) (cs : List Cn) (E : Int) : Prop := ∀ c : Nat, FnI (Gl os) Tryz.prog 22 [.int .i64 ar, .sl 0 cs.length c] [some (.lst 5 cs.length (fun zz => cc (cs.getD zz Cn.z)))] (Rt (.tup [.str [], .int .i64 E]) [some (.lst 5 cs.length (fun zz => cc (cs.getD zz Cn.z)))])
structure RdY (ar : Int) (ws : List Tk) (ns : List Cn) : Prop where
  pa : Fn Tryz.prog 19 [.int .i64 ar, .sl 0 ws.length 0] [some (.lst 4 ws.length (fun zz => tkc (ws.getD zz tok0)))] (Rt (.tup [.sl 1 ns.length 0, .int .i64 0, .int .i64 0]) [some (.lst 4 ws.length (fun zz => tkc (ws.getD zz tok0))), some (.row 88 5 ns.length 0 (fun zz => cc (ns.getD zz Cn.z)))])
  rt : Cd.right ns = true
  vs : ∀ c ∈ ns, okV c.v
  ln : ns.length ≤ 32
  ar : 1 ≤ ar ∧ ar ≤ 3
def RdNo (ar : Int) (ws : List Tk) (E A : Int) : Prop := Fn Tryz.prog 19 [.int .i64 ar, .sl 0 ws.length 0] [some (.lst 4 ws.length (fun zz => tkc (ws.getD zz tok0)))] (Rt (.tup [.sla none 0 0, .int .i64 E, .int .i64 A]) [some (.lst 4 ws.length (fun zz => tkc (ws.getD zz tok0)))])
theorem val_at {cs : List Cn} (hv : ∀ c ∈ cs, okV c.v) (q : Nat) : okV (cs.getD q Cn.z).v := by
  rw [List.getD_eq_getElem?_getD]
  cases hh : cs[q]? with
  | none => exact ⟨by decide, by decide⟩
  | some y => exact hv y (List.mem_of_getElem? hh)
theorem ro5 {s m : Nat} {f : Nat → List SV} : ∀ (i : Nat) (e : Ent), ([some (.lst s m f)] : Hp)[i]? = some (some e) → ∃ s n g, e = .lst s n g
  | 0, e, h => by cases h; exact ⟨_, _, _, rfl⟩
  | i + 1, e, h => by simp at h
theorem rtN {cs : List Cn} (h : Cd.right cs = true) (c : Nat) : Fn Tryz.prog 23 [.sl 0 cs.length c] [some (.lst 5 cs.length (fun zz => cc (cs.getD zz Cn.z)))] (Rt .tt [some (.lst 5 cs.length (fun zz => cc (cs.getD zz Cn.z)))]) := Cd.fn_asX (Cd.pright_ cs cs.length c (Nat.le_refl _)) (fun _ => by rw [List.take_length, h]; rfl)
theorem fn_nil2 {ar : Int} {P : Program} {f s : Nat} {F : Nat → List SV} {x : SV} (h : Fn P f [.int .i64 ar, .sl 0 0 0] [some (.lst s 0 F)] (Rt x [some (.lst s 0 F)])) (hF : ∀ k, ∃ vs, denL [] (F k) = some vs) (hx : ∀ G, den G x = den [] x) : Fn P f [.int .i64 ar, .sla none 0 0] [] (Rt x []) := by
  refine ⟨h.1, fun G w vs hM hv => ?_⟩
  have hG : G = [] := List.length_eq_zero_iff.1 hM.len.symm
  subst hG
  have hM2 : Mem [some (.lst s 0 F)] [none] w := ⟨rfl, fun i e he => by
    match i, he with
    | 0, he => cases he; exact ⟨hF, .inl rfl⟩
    | i + 1, he => simp at he, fun i j e g L M hij hi hj he hL => by
    match i, hi with
    | 0, hi => simp at hL
    | i + 1, hi => simp at hi⟩
  refine Calls.mono (h.2 [none] w vs hM2 hv) fun e w' ⟨x', H', F', v, ⟨q1, q2⟩, r1, r2, r3, r4, r5, r6, r7⟩ => ?_
  subst q1; subst q2
  exact ⟨_, _, [], v, ⟨rfl, rfl⟩, by rw [hx] at r1 ⊢; exact r1, r2, ⟨rfl, fun i e he => by simp at he, fun i j e g L M hij hi => by simp at hi⟩, r4, Nat.le_refl _, fun i e he => by simp at he, fun i e he => by simp at he⟩
theorem rdNil (ar : Int) : ∃ E A, Fn Tryz.prog 19 [.int .i64 ar, .sla none 0 0] [] (Rt (.tup [.sla none 0 0, .int .i64 E, .int .i64 A]) []) := by
  have key : ∃ E A, RdNo ar [] E A := by
    by_cases ha : 1 ≤ ar ∧ ar ≤ 3
    · have e : ar = 1 ∨ ar = 2 ∨ ar = 3 := by omega
      rcases e with e | e | e <;> subst e
      · exact ⟨_, _, cparse1_no [] 0 (by decide) ws0_ok (by decide)⟩
      · exact ⟨_, _, cparse2_no [] 0 (by decide) ws0_ok (by decide)⟩
      · exact ⟨_, _, cparse3_no [] 0 (by decide) ws0_ok (by decide)⟩
    · exact ⟨_, _, cparse_arch ar [] 0 ha⟩
  obtain ⟨E, A, h⟩ := key
  exact ⟨E, A, fn_nil2 h (fun k => ⟨_, rfl⟩) (fun _ => rfl)⟩
section
variable {os : List (Nat × Obj)} {b : Nat} {o : Obj} (hb : (b, o) ∈ os) (hT2 : ∀ w : World, w.heap[b]? = some o → Lib.TabIs Tryz.prog w "internal/strconv.uint64pow10" .u64 Lib.pow10Tab) {cs : List Cn}
include hb hT2
theorem pbk1 (hr : Cd.right cs = true) (hv : ∀ c ∈ cs, okV c.v) : ∃ s ws, PBk os 1 cs s ws := by
  obtain ⟨hl, ws, h1, h2, h3⟩ := Cd.back_tr (nf := Old.nameF) (rf := Old.regF) (R := rgL Old.nameF) rgL_at Cd.nameF_len (fun x h0 h8 => (xreg_cases h0 h8).1) (fun x h0 h8 => (xreg_cases h0 h8).2) hr hv
  have c32 := (Cd.right_go hr).2
  refine ⟨_, ws, ⟨fun c => ?_, h1, ?_⟩⟩
  · have e : cs.take cs.length = cs := List.take_length
    have hp := Cd.print1_ cs cs.length c b o hT2 (Nat.le_refl _) (by omega) (by rw [e]; exact hr) (fun q => val_at hv q) (fun i q => by rw [e]; exact Cd.fold_len (nf := Old.nameF) rgL_at Cd.nameF_len hr hv i q)
    rw [e] at hp
    exact fn_fac (H := [some (.lst 5 cs.length (fun zz => cc (cs.getD zz Cn.z)))]) hp hb ro5 rfl
  · obtain ⟨w1, w2, w3⟩ := ws_tokens h1
    have c := cp_rp (rs := rgL Old.nameF) w2 (mi_wf w3) rX_ix
    have e0 : (rpS Old.regF ws).e = 0 := by rw [h2]
    have en := (c.2.2 e0).trans h3
    have hp := cparse1_ok ws 0 (by omega) w2 ⟨c.1.trans e0, by rw [en]; exact c32⟩
    rw [en] at hp
    exact hp
theorem pno1 (hr : Cd.right cs = false) : PNo os 1 cs 22 := fun c => by
  have e : cs.take cs.length = cs := List.take_length
  exact (Cd.print1n_ cs cs.length c (Nat.le_refl _) (by rw [e]; exact hr)).toI
omit hb hT2 in
theorem rdk1 {C : Prop} {ws : List Tk} (hn : ws.length ≤ 8192) (hw : WsOK ws) (hf : Old.WF ws) (hW : ∀ t ∈ ws, TkW t) (h1 : ∀ E A, E ≠ 0 → RdNo 1 ws E A → C) (h2 : ∀ ns, RdY 1 ws ns → C) : C := by
  have c := cp_rp (rs := rgL Old.nameF) hw (mi_wf hf) rX_ix
  by_cases hq : (cpS ws (rgL Old.nameF)).e = 0 ∧ (cpN ws (rgL Old.nameF)).length ≤ 32
  · have e0 : (rpS Old.regF ws).e = 0 := c.1.symm.trans hq.1
    have en := c.2.2 e0
    have hl : (rpN Old.regF ws).length ≤ 32 := by rw [← en]; exact hq.2
    obtain ⟨r1, r2⟩ := Cd.read_right hW (fun q => Int.lt_of_lt_of_le (idx_lt q Old.regsX 0) (by decide)) e0 hl
    have hp := cparse1_ok ws 0 (by omega) hw hq
    rw [en] at hp
    exact h2 _ ⟨hp, r1, r2, hl, by decide⟩
  · refine h1 _ _ ?_ (cparse1_no ws 0 (by omega) hw hq)
    unfold cpE
    split
    · assumption
    · decide
theorem pbk2 (hr : Cd.right cs = true) (hv : ∀ c ∈ cs, okV c.v) : ∃ s ws, PBk os 2 cs s ws := by
  obtain ⟨hl, ws, h1, h2, h3⟩ := Cd.back_tr (nf := nameV) (rf := regV) (R := rgL nameV) rgL_at Cd.nameV_len (fun x h0 h8 => (vreg_cases h0 h8).1) (fun x h0 h8 => (vreg_cases h0 h8).2) hr hv
  have c32 := (Cd.right_go hr).2
  refine ⟨_, ws, ⟨fun c => ?_, h1, ?_⟩⟩
  · have e : cs.take cs.length = cs := List.take_length
    have hp := Cd.print2_ cs cs.length c b o hT2 (Nat.le_refl _) (by omega) (by rw [e]; exact hr) (fun q => val_at hv q) (fun i q => by rw [e]; exact Cd.fold_len (nf := nameV) rgL_at Cd.nameV_len hr hv i q)
    rw [e] at hp
    exact fn_fac (H := [some (.lst 5 cs.length (fun zz => cc (cs.getD zz Cn.z)))]) hp hb ro5 rfl
  · obtain ⟨w1, w2, w3⟩ := ws_tokens h1
    have c := cp_rp (rs := rgL nameV) w2 (mi_wf w3) rV_ix
    have e0 : (rpS regV ws).e = 0 := by rw [h2]
    have en := (c.2.2 e0).trans h3
    have hp := cparse2_ok ws 0 (by omega) w2 ⟨c.1.trans e0, by rw [en]; exact c32⟩
    rw [en] at hp
    exact hp
theorem pno2 (hr : Cd.right cs = false) : PNo os 2 cs 22 := fun c => by
  have e : cs.take cs.length = cs := List.take_length
  exact (Cd.print2n_ cs cs.length c (Nat.le_refl _) (by rw [e]; exact hr)).toI
omit hb hT2 in
theorem rdk2 {C : Prop} {ws : List Tk} (hn : ws.length ≤ 8192) (hw : WsOK ws) (hf : Old.WF ws) (hW : ∀ t ∈ ws, TkW t) (h1 : ∀ E A, E ≠ 0 → RdNo 2 ws E A → C) (h2 : ∀ ns, RdY 2 ws ns → C) : C := by
  have c := cp_rp (rs := rgL nameV) hw (mi_wf hf) rV_ix
  by_cases hq : (cpS ws (rgL nameV)).e = 0 ∧ (cpN ws (rgL nameV)).length ≤ 32
  · have e0 : (rpS regV ws).e = 0 := c.1.symm.trans hq.1
    have en := c.2.2 e0
    have hl : (rpN regV ws).length ≤ 32 := by rw [← en]; exact hq.2
    obtain ⟨r1, r2⟩ := Cd.read_right hW (fun q => Int.lt_of_lt_of_le (idx_lt q regsV 0) (by decide)) e0 hl
    have hp := cparse2_ok ws 0 (by omega) hw hq
    rw [en] at hp
    exact h2 _ ⟨hp, r1, r2, hl, by decide⟩
  · refine h1 _ _ ?_ (cparse2_no ws 0 (by omega) hw hq)
    unfold cpE
    split
    · assumption
    · decide
theorem pbk3 (hr : Cd.right cs = true) (hv : ∀ c ∈ cs, okV c.v) : ∃ s ws, PBk os 3 cs s ws := by
  obtain ⟨hl, ws, h1, h2, h3⟩ := Cd.back_tr (nf := nameA) (rf := regA) (R := rgL nameA) rgL_at Cd.nameA_len (fun x h0 h8 => (kreg_cases h0 h8).1) (fun x h0 h8 => (kreg_cases h0 h8).2) hr hv
  have c32 := (Cd.right_go hr).2
  refine ⟨_, ws, ⟨fun c => ?_, h1, ?_⟩⟩
  · have e : cs.take cs.length = cs := List.take_length
    have hp := Cd.print3_ cs cs.length c b o hT2 (Nat.le_refl _) (by omega) (by rw [e]; exact hr) (fun q => val_at hv q) (fun i q => by rw [e]; exact Cd.fold_len (nf := nameA) rgL_at Cd.nameA_len hr hv i q)
    rw [e] at hp
    exact fn_fac (H := [some (.lst 5 cs.length (fun zz => cc (cs.getD zz Cn.z)))]) hp hb ro5 rfl
  · obtain ⟨w1, w2, w3⟩ := ws_tokens h1
    have c := cp_rp (rs := rgL nameA) w2 (mi_wf w3) rA_ix
    have e0 : (rpS regA ws).e = 0 := by rw [h2]
    have en := (c.2.2 e0).trans h3
    have hp := cparse3_ok ws 0 (by omega) w2 ⟨c.1.trans e0, by rw [en]; exact c32⟩
    rw [en] at hp
    exact hp
theorem pno3 (hr : Cd.right cs = false) : PNo os 3 cs 22 := fun c => by
  have e : cs.take cs.length = cs := List.take_length
  exact (Cd.print3n_ cs cs.length c (Nat.le_refl _) (by rw [e]; exact hr)).toI
omit hb hT2 in
theorem rdk3 {C : Prop} {ws : List Tk} (hn : ws.length ≤ 8192) (hw : WsOK ws) (hf : Old.WF ws) (hW : ∀ t ∈ ws, TkW t) (h1 : ∀ E A, E ≠ 0 → RdNo 3 ws E A → C) (h2 : ∀ ns, RdY 3 ws ns → C) : C := by
  have c := cp_rp (rs := rgL nameA) hw (mi_wf hf) rA_ix
  by_cases hq : (cpS ws (rgL nameA)).e = 0 ∧ (cpN ws (rgL nameA)).length ≤ 32
  · have e0 : (rpS regA ws).e = 0 := c.1.symm.trans hq.1
    have en := c.2.2 e0
    have hl : (rpN regA ws).length ≤ 32 := by rw [← en]; exact hq.2
    obtain ⟨r1, r2⟩ := Cd.read_right hW (fun q => Int.lt_of_lt_of_le (idx_lt q regsA 0) (by decide)) e0 hl
    have hp := cparse3_ok ws 0 (by omega) hw hq
    rw [en] at hp
    exact h2 _ ⟨hp, r1, r2, hl, by decide⟩
  · refine h1 _ _ ?_ (cparse3_no ws 0 (by omega) hw hq)
    unfold cpE
    split
    · assumption
    · decide
theorem prSp {C : Prop} (ar : Int) (hv : ∀ c ∈ cs, okV c.v) (h1 : ∀ E, E ≠ 0 → PNo os ar cs E → C) (h2 : ∀ s ws, PBk os ar cs s ws → cs.length ≤ 32 → C) : C := by
  by_cases ha : 1 ≤ ar ∧ ar ≤ 3
  · have e : ar = 1 ∨ ar = 2 ∨ ar = 3 := by omega
    cases hr : Cd.right cs with
    | true =>
      have c32 := (Cd.right_go hr).2
      rcases e with e | e | e <;> subst e
      · obtain ⟨s, ws, h⟩ := pbk1 hb hT2 hr hv; exact h2 s ws h c32
      · obtain ⟨s, ws, h⟩ := pbk2 hb hT2 hr hv; exact h2 s ws h c32
      · obtain ⟨s, ws, h⟩ := pbk3 hb hT2 hr hv; exact h2 s ws h c32
    | false =>
      rcases e with e | e | e <;> subst e
      · exact h1 22 (by decide) (pno1 hb hT2 hr)
      · exact h1 22 (by decide) (pno2 hb hT2 hr)
      · exact h1 22 (by decide) (pno3 hb hT2 hr)
  · exact h1 36 (by decide) fun c => (cprint_arch ar cs cs.length c ha).toI
omit hb hT2 in
theorem rdSp {C : Prop} (ar : Int) {ws : List Tk} (hn : ws.length ≤ 8192) (hw : WsOK ws) (hf : Old.WF ws) (hW : ∀ t ∈ ws, TkW t) (h1 : ∀ E A, E ≠ 0 → RdNo ar ws E A → C) (h2 : ∀ ns, RdY ar ws ns → C) : C := by
  by_cases ha : 1 ≤ ar ∧ ar ≤ 3
  · have e : ar = 1 ∨ ar = 2 ∨ ar = 3 := by omega
    rcases e with e | e | e <;> subst e
    · exact rdk1 hn hw hf hW h1 h2
    · exact rdk2 hn hw hf hW h1 h2
    · exact rdk3 hn hw hf hW h1 h2
  · exact h1 36 0 (by decide) (cparse_arch ar ws 0 ha)
theorem agSp {C : Prop} (ar : Int) {ws : List Tk} {ns : List Cn} (h : RdY ar ws ns) (h2 : ∀ s ws2, PBk os ar ns s ws2 → C) : C := by
  have ha := h.ar
  have e : ar = 1 ∨ ar = 2 ∨ ar = 3 := by omega
  rcases e with e | e | e <;> subst e
  · obtain ⟨s, ws, k⟩ := pbk1 hb hT2 h.rt h.vs; exact h2 s ws k
  · obtain ⟨s, ws, k⟩ := pbk2 hb hT2 h.rt h.vs; exact h2 s ws k
  · obtain ⟨s, ws, k⟩ := pbk3 hb hT2 h.rt h.vs; exact h2 s ws k
end
end Go.Proofs.YtedlaclfhgneeabGreatDoor
namespace Go.Proofs.YtedlaclfhgneeabGreatDoor
open Go.RowKit
set_option linter.unusedVariables false
set_option linter.unusedSimpArgs false
set_option maxRecDepth 100000
set_option maxHeartbeats 2000000
set_option simprocs false
theorem cback0_ (ar : Int) (cs : List Cn) (cx : Nat) (tx : List UInt8) (os : List (Nat × Obj)) (hM : ∀ w ks, Gl os w ks → ∃ m, w.cell? ⟨0, 0, none⟩ = some (.int .i64 m)) (hT : ∀ w ks, Gl os w ks → Lib.TabIs Tryz.prog w "internal/strconv.uint64pow10" .u64 Lib.pow10Tab) (hE : ∀ w ks, Gl os w ks → ∃ ev, w.cell? ⟨1, 0, none⟩ = some ev ∧ (ev = .nilIface ∨ ∃ te pe, ev = .iface te pe)) (b : Nat) (o : Obj) (hb : (b, o) ∈ os) (hT2 : ∀ w : World, w.heap[b]? = some o → Lib.TabIs Tryz.prog w "internal/strconv.uint64pow10" .u64 Lib.pow10Tab) (hab : FnI (Gl os) Tryz.prog 18 [] [] (Rt .tt [])) (hv : ∀ c ∈ cs, okV c.v) : FnI (Gl os) Tryz.prog 7 [.int .i64 ar, .sl 0 cs.length cx, .str tx] [some (.lst 5 cs.length (fun zz => cc (cs.getD zz Cn.z)))] (Rt (.tt) [some (.lst 5 cs.length (fun zz => cc (cs.getD zz Cn.z)))]) :=
 enterI (n := 130) (by kernel_rfl) Tryz.func7 rfl rfl rfl fun G w a h0 hI A => N hX 8 A rfl rfl fun A => CALLI [] Gl.ok hI hab A rfl rfl rfl rfl rfl rfl rfl fun A => N hX 19 A rfl rfl fun A => fork 38 A rfl
  (fun h1 A => N hX 7 A rfl rfl fun A => RETN hX A rfl rfl rfl h0 rfl rfl rfl rfl rfl rfl)
  (fun h1 A => N hX 8 A rfl rfl fun A => APPL hX cs.length (fun zz => cc (cs.getD zz Cn.z)) A rfl rfl rfl rfl (Nat.le_refl _) (by omega) (by have hz := or_n h1; omega) (by omega) (fun k hk => absurd hk (Nat.not_lt_zero k)) (fun k hk => by rw [Nat.zero_add]) (fun z => ⟨_, rfl, rfl⟩) (fun k hk => ⟨_, rfl, okE_nil⟩) fun A => prSp hb hT2 ar hv
   (fun E1 hne hP => have A := A.freeze 2 rfl; CALLI [2] Gl.ok hI (hP 0) A rfl rfl rfl rfl rfl rfl rfl fun A => N hX 12 A rfl rfl fun A => have A := sy_sayD A 48 (.ff) rfl (fun _ => congrArg (fun b => some (Value.bool b)) (show (E1 == 0) = false by simpa using hne)); N hX 8 A rfl rfl fun A => tokSp (l := tx)
    (fun ws ht => CALLI [] Gl.ok hI (tokens_ok tx ws os hM hE ht) A rfl rfl rfl rfl rfl rfl rfl fun A => N hX 13 A rfl rfl fun A => rdSp ar (ws_tokens ht).1 (ws_tokens ht).2.1 (ws_tokens ht).2.2 (tkw_tokens ht)
     (fun E2 A2 hne hR => have A := A.freeze 3 rfl; CALL1 [3] hR A rfl rfl rfl rfl rfl rfl rfl fun A => N hX 14 A rfl rfl fun A => have A := sy_sayD A 84 (.ff) rfl (fun _ => congrArg (fun b => some (Value.bool b)) (show (!((0 : Int) == 0)) = false by decide)); N hX 3 A rfl rfl fun A => have A := sy_sayD A 87 (.tt) rfl (fun _ => congrArg (fun b => some (Value.bool b)) (show (!(E2 == 0)) = true by simpa using hne)); N hX 8 A rfl rfl fun A => have A := sy_sayD A 90 (.ff) rfl (fun _ => congrArg (fun b => some (Value.bool b)) (show (!((0 : Int) == 0)) = false by decide)); N hX 4 A rfl rfl fun A => have A := sy_sayD A 94 (.tt) rfl (fun _ => congrArg (fun b => some (Value.bool b)) (show (((0 : Nat) : Int) == 0) = true by decide)); N hX 5 A rfl rfl fun A => RETN hX A rfl rfl rfl h0 rfl rfl rfl rfl rfl rfl)
     (fun ns hY => have A := A.freeze 3 rfl; CALL1 [3] hY.pa A rfl rfl rfl rfl rfl rfl rfl fun A => N hX 14 A rfl rfl fun A => have A := sy_sayD A 84 (.ff) rfl (fun _ => congrArg (fun b => some (Value.bool b)) (show (!((0 : Int) == 0)) = false by decide)); N hX 3 A rfl rfl fun A => have A := sy_sayD A 87 (.ff) rfl (fun _ => congrArg (fun b => some (Value.bool b)) (show (!((0 : Int) == 0)) = false by decide)); N hX 10 A rfl rfl fun A => agSp hb hT2 ar hY
      (fun s2 ws2 hQ => have A := A.freeze 4 rfl; CALLI [4] Gl.ok hI (hQ.pr 0) A rfl rfl rfl rfl rfl rfl rfl fun A => N hX 10 A rfl rfl fun A => CALLI [] Gl.ok hI (tokens_ok s2 ws2 os hM hE hQ.tk) A rfl rfl rfl rfl rfl rfl rfl fun A => N hX 13 A rfl rfl fun A => have A := A.freeze 5 rfl; CALL1 [5] hQ.pa A rfl rfl rfl rfl rfl rfl rfl fun A => N hX 12 A rfl rfl fun A => CALL1 [4] (rtN hY.rt 0) A rfl rfl rfl rfl rfl rfl rfl fun A => N hX 3 A rfl rfl fun A => have A := sy_sayD A 119 (.tt) rfl (fun _ => congrArg (fun b => some (Value.bool b)) (show ((0 : Int) == 0) = true by decide)); N hX 4 A rfl rfl fun A => have A := sy_sayD A 123 (.tt) rfl (fun _ => congrArg (fun b => some (Value.bool b)) (show ((0 : Int) == 0) = true by decide)); N hX 4 A rfl rfl fun A => CALL1 [4, 6] (condsM_ ns 0 (by have := hY.ln; omega)) A rfl rfl rfl rfl rfl rfl rfl fun A => N hX 5 A rfl rfl fun A => RETN hX A rfl rfl rfl h0 rfl rfl rfl rfl rfl rfl)))
    (fun e k hne ht => CALLI [] Gl.ok hI (tokens_no tx e k os hM hE ht hne) A rfl rfl rfl rfl rfl rfl rfl fun A => N hX 13 A rfl rfl fun A => (rdNil ar).elim fun E2 hN0 => hN0.elim fun A2 hN => CALL1 [] hN A rfl rfl rfl rfl rfl rfl rfl fun A => N hX 14 A rfl rfl fun A => have A := sy_sayD A 84 (.tt) rfl (fun _ => congrArg (fun b => some (Value.bool b)) (show (!(e == 0)) = true by simpa using hne)); N hX 3 A rfl rfl fun A => N hX 8 A rfl rfl fun A => have A := sy_sayD A 90 (.tt) rfl (fun _ => congrArg (fun b => some (Value.bool b)) (show (!(e == 0)) = true by simpa using hne)); N hX 4 A rfl rfl fun A => N hX 5 A rfl rfl fun A => RETN hX A rfl rfl rfl h0 rfl rfl rfl rfl rfl rfl))
   (fun s1 ws1 hP hc => have A := A.freeze 2 rfl; CALLI [2] Gl.ok hI (hP.pr 0) A rfl rfl rfl rfl rfl rfl rfl fun A => N hX 12 A rfl rfl fun A => have A := sy_sayD A 48 (.tt) rfl (fun _ => congrArg (fun b => some (Value.bool b)) (show ((0 : Int) == 0) = true by decide)); N hX 6 A rfl rfl fun A => CALLI [] Gl.ok hI (tokens_ok s1 ws1 os hM hE hP.tk) A rfl rfl rfl rfl rfl rfl rfl fun A => N hX 13 A rfl rfl fun A => have A := A.freeze 3 rfl; CALL1 [3] hP.pa A rfl rfl rfl rfl rfl rfl rfl fun A => N hX 13 A rfl rfl fun A => have A := sy_sayD A 63 (.ff) rfl (fun _ => congrArg (fun b => some (Value.bool b)) (show (!((0 : Int) == 0)) = false by decide)); N hX 3 A rfl rfl fun A => CALL1 [4, 0] (condsL_ cs cx (by omega)) A rfl rfl rfl rfl rfl rfl rfl fun A => N hX 10 A rfl rfl fun A => tokSp (l := tx)
      (fun ws ht => CALLI [] Gl.ok hI (tokens_ok tx ws os hM hE ht) A rfl rfl rfl rfl rfl rfl rfl fun A => N hX 13 A rfl rfl fun A => rdSp ar (ws_tokens ht).1 (ws_tokens ht).2.1 (ws_tokens ht).2.2 (tkw_tokens ht)
       (fun E2 A2 hne hR => have A := A.freeze 5 rfl; CALL1 [5] hR A rfl rfl rfl rfl rfl rfl rfl fun A => N hX 14 A rfl rfl fun A => have A := sy_sayD A 84 (.ff) rfl (fun _ => congrArg (fun b => some (Value.bool b)) (show (!((0 : Int) == 0)) = false by decide)); N hX 3 A rfl rfl fun A => have A := sy_sayD A 87 (.tt) rfl (fun _ => congrArg (fun b => some (Value.bool b)) (show (!(E2 == 0)) = true by simpa using hne)); N hX 8 A rfl rfl fun A => have A := sy_sayD A 90 (.ff) rfl (fun _ => congrArg (fun b => some (Value.bool b)) (show (!((0 : Int) == 0)) = false by decide)); N hX 4 A rfl rfl fun A => have A := sy_sayD A 94 (.tt) rfl (fun _ => congrArg (fun b => some (Value.bool b)) (show (((0 : Nat) : Int) == 0) = true by decide)); N hX 5 A rfl rfl fun A => RETN hX A rfl rfl rfl h0 rfl rfl rfl rfl rfl rfl)
       (fun ns hY => have A := A.freeze 5 rfl; CALL1 [5] hY.pa A rfl rfl rfl rfl rfl rfl rfl fun A => N hX 14 A rfl rfl fun A => have A := sy_sayD A 84 (.ff) rfl (fun _ => congrArg (fun b => some (Value.bool b)) (show (!((0 : Int) == 0)) = false by decide)); N hX 3 A rfl rfl fun A => have A := sy_sayD A 87 (.ff) rfl (fun _ => congrArg (fun b => some (Value.bool b)) (show (!((0 : Int) == 0)) = false by decide)); N hX 10 A rfl rfl fun A => agSp hb hT2 ar hY
        (fun s2 ws2 hQ => have A := A.freeze 6 rfl; CALLI [6] Gl.ok hI (hQ.pr 0) A rfl rfl rfl rfl rfl rfl rfl fun A => N hX 10 A rfl rfl fun A => CALLI [] Gl.ok hI (tokens_ok s2 ws2 os hM hE hQ.tk) A rfl rfl rfl rfl rfl rfl rfl fun A => N hX 13 A rfl rfl fun A => have A := A.freeze 7 rfl; CALL1 [7] hQ.pa A rfl rfl rfl rfl rfl rfl rfl fun A => N hX 12 A rfl rfl fun A => CALL1 [6] (rtN hY.rt 0) A rfl rfl rfl rfl rfl rfl rfl fun A => N hX 3 A rfl rfl fun A => have A := sy_sayD A 119 (.tt) rfl (fun _ => congrArg (fun b => some (Value.bool b)) (show ((0 : Int) == 0) = true by decide)); N hX 4 A rfl rfl fun A => have A := sy_sayD A 123 (.tt) rfl (fun _ => congrArg (fun b => some (Value.bool b)) (show ((0 : Int) == 0) = true by decide)); N hX 4 A rfl rfl fun A => CALL1 [6, 8] (condsM_ ns 0 (by have := hY.ln; omega)) A rfl rfl rfl rfl rfl rfl rfl fun A => N hX 5 A rfl rfl fun A => RETN hX A rfl rfl rfl h0 rfl rfl rfl rfl rfl rfl)))
      (fun e k hne ht => CALLI [] Gl.ok hI (tokens_no tx e k os hM hE ht hne) A rfl rfl rfl rfl rfl rfl rfl fun A => N hX 13 A rfl rfl fun A => (rdNil ar).elim fun E2 hN0 => hN0.elim fun A2 hN => CALL1 [] hN A rfl rfl rfl rfl rfl rfl rfl fun A => N hX 14 A rfl rfl fun A => have A := sy_sayD A 84 (.tt) rfl (fun _ => congrArg (fun b => some (Value.bool b)) (show (!(e == 0)) = true by simpa using hne)); N hX 3 A rfl rfl fun A => N hX 8 A rfl rfl fun A => have A := sy_sayD A 90 (.tt) rfl (fun _ => congrArg (fun b => some (Value.bool b)) (show (!(e == 0)) = true by simpa using hne)); N hX 4 A rfl rfl fun A => N hX 5 A rfl rfl fun A => RETN hX A rfl rfl rfl h0 rfl rfl rfl rfl rfl rfl)))
end Go.Proofs.YtedlaclfhgneeabGreatDoor
namespace Go.Proofs.YtedlaclfhgneeabGreatDoor.Cd
open Go.RowKit
set_option linter.unusedVariables false
set_option linter.unusedSimpArgs false
set_option maxRecDepth 100000
set_option maxHeartbeats 2000000
set_option simprocs false
theorem itoa1 : Lib.itoa 1 = [49] := by unfold Lib.itoa; rw [if_neg (by decide)]; show Lib.decDigits 1 = _; unfold Lib.decDigits; rfl
theorem fp0 (R : List (List UInt8)) : foldP R [] = [] := rfl
theorem fp1 (R : List (List UInt8)) : foldP R [aC] = [([120, 61, 49], 2)] := by
  show stepP R aC [] = _
  have : wr0 R aC.k aC.t aC.r aC.l aC.v [] 0 0 = [120, 61] ++ Lib.itoa 1 := rfl
  show [] ++ [(wr0 R aC.k aC.t aC.r aC.l aC.v [] 0 0, 2)] = _
  rw [this, itoa1]; rfl
theorem fp2 (R : List (List UInt8)) : foldP R [aC, nC] = [([126, 120, 61, 49], 3)] := by
  have : foldP R [aC, nC] = stepP R nC (foldP R [aC]) := rfl
  rw [this, fp1]; rfl
theorem fpl (R : List (List UInt8)) : ∀ i q, ((foldP R (([aC, nC].take 2).take i)).getD q pz).1.length ≤ 1000000 := by
  intro i q
  have hi : ([aC, nC].take 2).take i = [] ∨ ([aC, nC].take 2).take i = [aC] ∨ ([aC, nC].take 2).take i = [aC, nC] := by
    rcases i with _ | _ | i
    · exact .inl rfl
    · exact .inr (.inl rfl)
    · exact .inr (.inr (List.take_of_length_le (by simp)))
  rcases hi with h | h | h <;> rw [h]
  · rw [fp0]; show (pz.1).length ≤ _; decide
  · rw [fp1]; rcases q with _ | q
    · decide
    · show (pz.1).length ≤ _; decide
  · rw [fp2]; rcases q with _ | q
    · decide
    · show (pz.1).length ≤ _; decide
theorem vA : ∀ q, -9223372036854775808 ≤ ([aC, nC].getD q Cn.z).v ∧ ([aC, nC].getD q Cn.z).v ≤ 9223372036854775807 := fun q => by
  rcases q with _ | _ | q
  · decide
  · decide
  · show -9223372036854775808 ≤ Cn.z.v ∧ Cn.z.v ≤ 9223372036854775807; decide
theorem printA_ (b : Nat) (o : Obj) (hT : ∀ w : World, w.heap[b]? = some o → Lib.TabIs Tryz.prog w "internal/strconv.uint64pow10" .u64 Lib.pow10Tab) : Fn Tryz.prog 22 [.int .i64 1, .sl 0 2 2] [some (.lst 5 ([aC, nC].length) (fun zz => cc ([aC, nC].getD zz Cn.z))), some (.fac b o)] (Rt (.tup [.str [126, 120, 61, 49], .int .i64 0]) [some (.lst 5 ([aC, nC].length) (fun zz => cc ([aC, nC].getD zz Cn.z))), some (.fac b o)]) :=
  fn_asX (print1_ [aC, nC] 2 2 b o hT (by decide) (by decide) rfl vA (fpl _)) fun _ => by rw [show ([aC, nC] : List Cn).take 2 = [aC, nC] from rfl, fp2]; rfl
theorem able_ (b : Nat) (o : Obj) (hT : ∀ w : World, w.heap[b]? = some o → Lib.TabIs Tryz.prog w "internal/strconv.uint64pow10" .u64 Lib.pow10Tab) : Fn Tryz.prog 18 [] [some (.fac b o)] (Rt (.tt) [some (.fac b o)]) :=
 enterM (n := 55) (by kernel_rfl) Tryz.func18 rfl rfl rfl fun G w a h0 A => N hX 17 A rfl rfl fun A => have A := A.asT Cn.z cc 5 tyC.1 tyC.2.1 tyC.2.2 [aC, nC] 2 rfl; CALL1 [2, 0] (printA_ b o hT) A rfl rfl rfl rfl rfl rfl rfl fun A => N hX 15 A rfl rfl fun A => have A := A.asT Cn.z cc 5 tyC.1 tyC.2.1 tyC.2.2 [aC] 3 rfl; have A := A.asT oz oc 27 tyO.1 tyO.2.1 tyO.2.2 o2 4 rfl; CALL1 [3, 4] judgeA_ A rfl rfl rfl rfl rfl rfl rfl fun A => N hX 13 A rfl rfl fun A => forkE 26 A rfl
  (fun h1 A => N hX 4 A rfl rfl fun A => forkE 30 A rfl
   (fun h2 A => N hX 4 A rfl rfl fun A => forkE 34 A rfl
    (fun h3 A => N hX 9 A rfl rfl fun A => forkE 43 A rfl
     (fun h4 A => N hX 7 A rfl (ok_d (by omega) <| ok_d (by omega) <| okE_nil) fun A => forkE 50 A rfl
      (fun h5 A => N hX 2 A rfl rfl fun A => have A := A.asT Cn.z cc 5 tyC.1 tyC.2.1 tyC.2.2 [aC] 6 rfl; CALL1 [6] (rightA_ 1) A rfl rfl rfl rfl rfl rfl rfl fun A => N hX 5 A rfl rfl fun A => RETN hX A rfl rfl rfl h0 rfl rfl rfl rfl rfl rfl)
      (fun h5 A => absurd rfl h5))
     (fun h4 A => absurd rfl h4))
    (fun h3 A => absurd rfl h3))
   (fun h2 A => absurd rfl h2))
  (fun h1 A => absurd rfl h1)
end Go.Proofs.YtedlaclfhgneeabGreatDoor.Cd
namespace Go.Proofs.YtedlaclfhgneeabGreatDoor
open Go.ChangeShapes Go.WideShapes Go.ChangeAt Go.RowKit
set_option linter.unusedVariables false
set_option linter.unusedSimpArgs false
set_option maxRecDepth 100000
theorem wf_rng {n : Int} (h : (Lit.int .i64 n).wf = true) : -9223372036854775808 ≤ n ∧ n ≤ 9223372036854775807 := by
  have h' : (decide ((IntKind.i64).min ≤ n) && decide (n ≤ (IntKind.i64).max)) = true := h
  rw [Bool.and_eq_true, decide_eq_true_eq, decide_eq_true_eq, show (IntKind.i64).min = -9223372036854775808 from rfl, show (IntKind.i64).max = 9223372036854775807 from rfl] at h'
  exact h'
theorem tab_fac {W : World} (h : Lib.TabIs Tryz.prog W "internal/strconv.uint64pow10" .u64 Lib.pow10Tab) : ∃ o, W.heap[5]? = some o ∧ ∀ w : World, w.heap[5]? = some o → Lib.TabIs Tryz.prog w "internal/strconv.uint64pow10" .u64 Lib.pow10Tab := by
  have hg : Tryz.prog.globalNamed "internal/strconv.uint64pow10" = some 5 := by kernel_rfl
  cases ho : W.heap[5]? with
  | none => unfold Lib.TabIs World.var? at h; rw [hg] at h; simp [ho] at h
  | some o =>
    refine ⟨o, rfl, fun w hw => ?_⟩
    unfold Lib.TabIs World.var? at h ⊢
    rw [hg] at h ⊢
    simp only [Option.bind_some, ho, hw] at h ⊢
    exact h
theorem cell_fac {W : World} {b k : Nat} {v : Value} (h : W.cell? ⟨b, k, none⟩ = some v) : ∃ o, W.heap[b]? = some o ∧ ∀ w : World, w.heap[b]? = some o → w.cell? ⟨b, k, none⟩ = some v := by
  cases ho : W.heap[b]? with
  | none => unfold World.cell? at h; simp [ho] at h
  | some o =>
    refine ⟨o, rfl, fun w hw => ?_⟩
    unfold World.cell? at h ⊢
    simp only [ho, hw] at h ⊢
    exact h
theorem call_of2 {f : Nat} {args : List SV} {vs : List Value} {W : World} (hT : Lib.TabIs Tryz.prog W "internal/strconv.uint64pow10" .u64 Lib.pow10Tab) (m0 : Int) (hm : W.cell? ⟨0, 0, none⟩ = some (.int .i64 m0)) (ev : Value) (he : W.cell? ⟨1, 0, none⟩ = some ev) (hev : ev = .nilIface ∨ ∃ te pe, ev = .iface te pe) {H : Hp} {G : Gr} (hro : ∀ (i : Nat) (e : Ent), H[i]? = some (some e) → e.mut = false) (hMm : Mem H G W) (hv : denL G args = some vs)
    (h : ∀ os : List (Nat × Obj), (∀ w ks, Gl os w ks → ∃ m, w.cell? ⟨0, 0, none⟩ = some (.int .i64 m)) → (∀ w ks, Gl os w ks → Lib.TabIs Tryz.prog w "internal/strconv.uint64pow10" .u64 Lib.pow10Tab) → (∀ w ks, Gl os w ks → ∃ ev, w.cell? ⟨1, 0, none⟩ = some ev ∧ (ev = .nilIface ∨ ∃ te pe, ev = .iface te pe)) → ∀ (b : Nat) (o : Obj), (b, o) ∈ os → (∀ w : World, w.heap[b]? = some o → Lib.TabIs Tryz.prog w "internal/strconv.uint64pow10" .u64 Lib.pow10Tab) → FnI (Gl os) Tryz.prog f args H (Rt .tt H)) : Calls Tryz.prog f vs.toArray W fun e W' => e = .returned (.bool true) ∧ Grow W W' := by
  obtain ⟨o5, k5, c5⟩ := tab_fac hT
  obtain ⟨o0, k0, c0⟩ := cell_fac hm
  obtain ⟨o1, k1, c1⟩ := cell_fac he
  have hk : ∀ k, (keys H G).contains k = false := fun k => by
    cases hc : (keys H G).contains k with
    | false => rfl
    | true =>
      obtain ⟨i, e', L, q1, q2, _⟩ := mem_keys.1 hc
      rw [hro i e' q1] at q2; cases q2
  have hG : Gl [(0, o0), (1, o1), (5, o5)] W (keys H G) := fun p hp => by
    simp only [List.mem_cons, List.not_mem_nil, or_false] at hp
    rcases hp with rfl | rfl | rfl
    · exact ⟨k0, hk _⟩
    · exact ⟨k1, hk _⟩
    · exact ⟨k5, hk _⟩
  have hf := h [(0, o0), (1, o1), (5, o5)] (fun w ks hg => ⟨m0, c0 w (hg (0, o0) (by simp)).1⟩) (fun w ks hg => c5 w (hg (5, o5) (by simp)).1) (fun w ks hg => ⟨ev, c1 w (hg (1, o1) (by simp)).1, hev⟩) 5 o5 (by simp) c5
  refine Calls.mono (hf.2 G W vs hMm hG hv) fun e W' hp => ?_
  obtain ⟨v, F, h1, h2, _, h4⟩ := post_ro hp hro
  cases h1
  exact ⟨h2, h4⟩
end Go.Proofs.YtedlaclfhgneeabGreatDoor
namespace Go.Proofs.YtedlaclfhgneeabGreatDoor
set_option linter.unusedSimpArgs false
set_option linter.unusedVariables false
set_option maxRecDepth 100000
open Go.ChangeShapes Go.WideShapes Go.ChangeAt Go.RowKit Go.Deep
section
variable {H : Type} {enc : TypeId × Value → H} {W : World} {base : Nat} {spare : Nat → Bool} {held : Bool} {base' : Nat}
theorem open_list {α : Type} [Inhabited α] {en : α → List Value} {Q : α → Prop} {t e s : Nat} {v : Value} {d : DataW H} {ps : List MemPlace} (ht : Tryz.prog.underlying t = some (.slice e)) (hc : Tryz.prog.cellsOf e = s) (h0 : 0 < s)
    (hel : ∀ cs n x, DataW.trod enc Tryz.prog W base' spare held n e cs = some x → cs.length = s → ∃ y : α, cs = en y ∧ Q y)
    (hv : Value.okWide Tryz.prog W .any base t v) (h : DataW.Trod enc Tryz.prog W base' spare held t v d ps) :
    ∃ (ao : Option Addr) (l : List α) (cap : Nat), v = .slice ao l.length cap ∧ l.length ≤ maxLen ∧ Sl en s W.heap.size W v l ∧ ∀ y ∈ l, Q y := by
  obtain ⟨a0, len0, cap0, rfl⟩ := okWide_slice ht hv
  obtain ⟨fuel, hf⟩ := h
  rcases open_slice ht hf with ⟨hcs, _⟩ | ⟨a, len, cap, m, n, D, Pl, hcs, hb, hl, hm, hmm, _, hx⟩
  · simp [Value.cells] at hcs
    obtain ⟨rfl, rfl, rfl⟩ := hcs
    exact ⟨none, [], 0, rfl, by simp, Sl.nil, fun y hy => by cases hy⟩
  · simp [Value.cells] at hcs
    obtain ⟨rfl, rfl, rfl⟩ := hcs
    have hlm : len0 ≤ m := by rw [hmm]; split <;> omega
    rw [hc] at hx
    obtain ⟨Y, hY⟩ := choose_lt (α := α) (n := len0) (p := fun i y => Q y ∧ (en y).length = s ∧ ∀ k, k < s → W.cell? ((a.add (i * s)).add k) = (en y)[k]?) (fun i hi => by
      obtain ⟨cs', h1, h2⟩ := hx i (by omega)
      obtain ⟨_, hlen, hcell⟩ := World.cells?_some h1
      obtain ⟨y, rfl, hq⟩ := hel cs' n _ h2 hlen
      exact ⟨y, hq, hlen, hcell⟩)
    have hlen : ((List.range len0).map Y).length = len0 := by simp
    refine ⟨some a, (List.range len0).map Y, cap0, by rw [hlen], by rw [hlen]; omega, ⟨some a, cap0, by rw [hlen], by rw [hlen]; exact hl, fun j x hj => ?_⟩, fun y hy => ?_⟩
    · have hjl : j < len0 := by have := (List.getElem?_eq_some_iff.1 hj).1; simpa using this
      have hxe : x = Y j := by simp [hjl] at hj; exact hj.symm
      subst hxe
      obtain ⟨_, hyl, hcell⟩ := hY j hjl
      obtain ⟨b, o, spot⟩ := a
      obtain ⟨_, hy0, hcell0⟩ := hY 0 (by omega)
      have h00 := hcell0 0 h0
      rw [List.getElem?_eq_getElem (by omega)] at h00
      have hspot : spot = none := by simpa [Addr.add] using World.cell?_spot h00
      subst hspot
      refine ⟨b, o, rfl, ?_, fun k u hu => ?_⟩
      · have := World.block_lt_of_cell? W _ h00
        rw [Addr.add_mid, Addr.add_mid] at this
        exact this
      · have hk : k < s := by have := (List.getElem?_eq_some_iff.1 hu).1; omega
        have := hcell k hk
        rw [hu, Addr.add_mid, Addr.add_mid] at this
        exact this
    · obtain ⟨i, hi, rfl⟩ := List.mem_map.1 hy
      exact (hY i (by simpa using hi)).1
theorem slice_bo {t e n cap : Nat} {ao : Option Addr} (ht : Tryz.prog.underlying t = some (.slice e)) (hv : Value.okWide Tryz.prog W .any base t (.slice ao n cap)) : ∃ bo : Option (Nat × Nat), ao = bo.map fun x => ⟨x.1, x.2, none⟩ := by
  cases ao with
  | none => exact ⟨none, rfl⟩
  | some a =>
    unfold Value.okWide at hv
    rw [ht] at hv
    simp only [Cell.okWide, ht, Cell.ok] at hv
    obtain ⟨b, o, s⟩ := a
    have : s = none := hv.2.2.2.1
    subst this
    exact ⟨some (b, o), rfl⟩
def AI (enc : TypeId × Value → H) (W : World) (base' : Nat) (spare : Nat → Bool) (held : Bool) (t s : Nat) : Prop := Tryz.prog.cellsOf t = s ∧ ∀ (cs : List Value) (n : Nat) (x : DataW H × List MemPlace), DataW.trod enc Tryz.prog W base' spare held n t cs = some x → ∀ k, k < s → ∃ m : Int, cs[k]? = some (.int .i64 m) ∧ -9223372036854775808 ≤ m ∧ m ≤ 9223372036854775807
theorem AI.int : AI enc W base' spare held 3 1 := ⟨by kernel_rfl, fun cs n x h k hk => by
  obtain ⟨m, h2, _, h3⟩ := DataW.trod_int Tryz.underlying3 h
  obtain rfl : k = 0 := by omega
  exact ⟨m, by rw [h2]; rfl, wf_rng h3⟩⟩
theorem sub_at {cs : List Value} {o s j : Nat} (hj : j < s) : ((cs.drop o).take s)[j]? = cs[o + j]? := by
  rw [List.getElem?_take_of_lt hj, List.getElem?_drop]
def fldAt (P : Program) (t i : Nat) : Option (Nat × Nat) := match P.underlying t with | some (.struct fs) => (fs[i]?).map fun f => (f.offset, f.type) | _ => none
theorem AI.str {t s : Nat} {fs : Array Field} (hu : Tryz.prog.underlying t = some (.struct fs)) (hc : Tryz.prog.cellsOf t = s) (hf : ∀ k, k < s → ∃ i o u z, fldAt Tryz.prog t i = some (o, u) ∧ AI enc W base' spare held u z ∧ o ≤ k ∧ k < o + z) : AI enc W base' spare held t s := ⟨hc, fun cs n x h k hk => by
  obtain ⟨i, o, u, z, h1, h2, h3, h4⟩ := hf k hk
  obtain ⟨xs, m, _, _, _, hxl, hx⟩ := DataW.trod_struct hu h
  unfold fldAt at h1
  rw [hu] at h1
  obtain ⟨f, hf1, hf2⟩ := Option.map_eq_some_iff.1 h1
  cases hf2
  have h5 := hx i f hf1
  have hil := (Array.getElem?_eq_some_iff.1 hf1).1
  rw [h2.1, List.getElem?_eq_getElem (by omega)] at h5
  obtain ⟨q, h6, h7⟩ := h2.2 _ _ _ h5 (k - f.offset) (by omega)
  rw [sub_at (by omega), show f.offset + (k - f.offset) = k by omega] at h6
  exact ⟨q, h6, h7⟩⟩
def isStr (P : Program) (t : Nat) : Bool := match P.underlying t with | some (.struct _) => true | _ => false
theorem str_of {t : Nat} (h : isStr Tryz.prog t = true) : ∃ fs, Tryz.prog.underlying t = some (.struct fs) := by
  unfold isStr at h
  split at h
  · next fs he => exact ⟨fs, he⟩
  · cases h
theorem AI.cond : AI enc W base' spare held 88 5 := by
  obtain ⟨fs, hu⟩ := str_of (t := 88) (by kernel_rfl)
  refine AI.str hu (by kernel_rfl) fun k hk => ?_
  have : k = 0 ∨ k = 1 ∨ k = 2 ∨ k = 3 ∨ k = 4 := by omega
  rcases this with rfl | rfl | rfl | rfl | rfl
  · exact ⟨0, 0, 3, 1, by kernel_rfl, AI.int, by omega, by omega⟩
  · exact ⟨1, 1, 3, 1, by kernel_rfl, AI.int, by omega, by omega⟩
  · exact ⟨2, 2, 3, 1, by kernel_rfl, AI.int, by omega, by omega⟩
  · exact ⟨3, 3, 3, 1, by kernel_rfl, AI.int, by omega, by omega⟩
  · exact ⟨4, 4, 3, 1, by kernel_rfl, AI.int, by omega, by omega⟩
def ccV (c : Cn) : List Value := [.int .i64 c.k, .int .i64 c.t, .int .i64 c.r, .int .i64 c.l, .int .i64 c.v]
def wfC (c : Cn) : Prop := -9223372036854775808 ≤ c.v ∧ c.v ≤ 9223372036854775807
instance : Inhabited Cn := ⟨Cn.z⟩
theorem open_cnL (cs : List Value) (n : Nat) (x : DataW H × List MemPlace) (h : DataW.trod enc Tryz.prog W base' spare held n 88 cs = some x) (hl : cs.length = 5) : ∃ y : Cn, cs = ccV y ∧ wfC y := by
  have A := AI.cond.2 cs n x h
  obtain ⟨a, ha, _⟩ := A 0 (by omega)
  obtain ⟨b, hb, _⟩ := A 1 (by omega)
  obtain ⟨c, hc, _⟩ := A 2 (by omega)
  obtain ⟨d, hd, _⟩ := A 3 (by omega)
  obtain ⟨e, he, h5⟩ := A 4 (by omega)
  refine ⟨⟨a, b, c, d, e⟩, ?_, h5⟩
  match cs, hl, ha, hb, hc, hd, he with
  | [u0, u1, u2, u3, u4], _, ha, hb, hc, hd, he => simp at ha hb hc hd he; subst ha hb hc hd he; rfl
theorem open_conds {v : Value} {d : DataW H} {ps : List MemPlace} (hv : Value.okWide Tryz.prog W .any base 46 v) (h : DataW.Trod enc Tryz.prog W base' spare held 46 v d ps) :
    ∃ (bo : Option (Nat × Nat)) (l : List Cn) (cap : Nat), v = .slice (bo.map fun x => ⟨x.1, x.2, none⟩) l.length cap ∧ Sl ccV 5 W.heap.size W v l ∧ ∀ y ∈ l, wfC y := by
  obtain ⟨ao, l, cap, rfl, _, hs, hq⟩ := open_list (t := 46) (e := 88) (s := 5) (by kernel_rfl) (by kernel_rfl) (by omega) open_cnL hv h
  obtain ⟨bo, rfl⟩ := slice_bo (t := 46) (e := 88) (by kernel_rfl) hv
  exact ⟨bo, l, cap, rfl, hs, hq⟩
end
theorem lstC_of {bo : Option (Nat × Nat)} {n cap : Nat} {w : World} {l : List Cn} (h : Sl ccV 5 w.heap.size w (.slice (bo.map fun x => ⟨x.1, x.2, none⟩) n cap) l) : n = l.length ∧ ∀ (G F : Gr), den (G ++ (bo.map fun x => (⟨x.1, List.replicate x.2 undef, [], 0⟩ : Loc)) :: F) (.sl G.length l.length cap) = some (.slice (bo.map fun x => ⟨x.1, x.2, none⟩) n cap) ∧ EntOK (G ++ (bo.map fun x => (⟨x.1, List.replicate x.2 undef, [], 0⟩ : Loc)) :: F) w (bo.map fun x => (⟨x.1, List.replicate x.2 undef, [], 0⟩ : Loc)) (.lst 5 l.length (fun zz => cc (l.getD zz Cn.z))) := lst_of (f := fun zz => cc (l.getD zz Cn.z)) h (Nat.le_refl _) (fun k x hx => by show denL [] (cc (l.getD k Cn.z)) = _; rw [List.getD_eq_getElem?_getD, hx]; rfl) (fun k => ⟨_, rfl⟩)
end Go.Proofs.YtedlaclfhgneeabGreatDoor
namespace Go.Proofs.YtedlaclfhgneeabGreatDoor
open Go.RowKit
set_option linter.unusedVariables false
theorem cback_ (ar : Int) (cs : List Cn) (cx : Nat) (tx : List UInt8) (os : List (Nat × Obj)) (hM : ∀ w ks, Gl os w ks → ∃ m, w.cell? ⟨0, 0, none⟩ = some (.int .i64 m)) (hT : ∀ w ks, Gl os w ks → Lib.TabIs Tryz.prog w "internal/strconv.uint64pow10" .u64 Lib.pow10Tab) (hE : ∀ w ks, Gl os w ks → ∃ ev, w.cell? ⟨1, 0, none⟩ = some ev ∧ (ev = .nilIface ∨ ∃ te pe, ev = .iface te pe)) (b : Nat) (o : Obj) (hb : (b, o) ∈ os) (hT2 : ∀ w : World, w.heap[b]? = some o → Lib.TabIs Tryz.prog w "internal/strconv.uint64pow10" .u64 Lib.pow10Tab) (hq : ∀ y ∈ cs, wfC y) (h1 : tx.length ≤ 140737488355328) : FnI (Gl os) Tryz.prog 7 [.int .i64 ar, .sl 0 cs.length cx, .str tx] [some (.lst 5 cs.length (fun zz => cc (cs.getD zz Cn.z)))] (Rt .tt [some (.lst 5 cs.length (fun zz => cc (cs.getD zz Cn.z)))]) := cback0_ ar cs cx tx os hM hT hE b o hb hT2 (fn_fac (H := []) (Cd.able_ b o hT2) hb (fun i e h => by simp at h) rfl) (fun c hc => hq c hc)
end Go.Proofs.YtedlaclfhgneeabGreatDoor
