/- CondOpposites, part 4: the engine, contracts, theory. -/
import Derived.Test.YtfdfjakafiglmaaDoorCondOppositesP3
import Derived.WalkSmall
import Derived.ProofKit
import Derived.OpenShut
import Derived.ChangeOld
import Derived.Deep.Slices
import Derived.Lib.LaidTab
namespace Go.Proofs.YtfdfjakafiglmaaDoor
open Go.RowKit
set_option linter.unusedVariables false
set_option linter.unusedSimpArgs false
set_option maxRecDepth 100000
set_option maxHeartbeats 2000000
set_option simprocs false
def stepP (R : List (List UInt8)) (c : Cn) (l : List Pc) : List Pc := l.take (((l.length : Nat) : Int) - parts0 c.kd).toNat ++ [(wr0 R c.kd c.th c.rg c.lc c.vl l (((l.length : Nat) : Int) - parts0 c.kd).toNat (l.length - (((l.length : Nat) : Int) - parts0 c.kd).toNat), c.kd)]
def foldP (R : List (List UInt8)) (cs : List Cn) : List Pc := cs.foldl (fun l c => stepP R c l) []
structure FI (R : List (List UInt8)) (cs : List Cn) (l : List Pc) (i : Nat) : Prop where
  lb : ∃ lb, EI oz cs lb i ∧ lb.length = l.length
  eq : l = foldP R (cs.take i)
theorem stepP_len {R : List (List UInt8)} {c : Cn} {l : List Pc} (h : 0 ≤ parts0 c.kd) : (stepP R c l).length = (((l.length : Nat) : Int) - parts0 c.kd).toNat + 1 := by
  unfold stepP; rw [List.length_append, List.length_take, List.length_cons, List.length_nil]; omega
section
variable {R : List (List UInt8)} {L : List Cn} {n i : Nat} {l : List Pc}
theorem FI.i0 (hr : right (L.take n) = true) : FI R (L.take n) [] 0 := ⟨⟨[], EI.i0 hr, rfl⟩, by simp [foldP]⟩
theorem FI.kn (hI : FI R (L.take n) l i) (hn : n ≤ L.length) (h1 : (i : Int) < ((n : Nat) : Int)) : ¬ (L.getD ((i : Int)).toNat Cn.z).n < 0 ∧ (L.getD ((i : Int)).toNat Cn.z).n ≤ (l.length : Int) ∧ (L.getD ((i : Int)).toNat Cn.z).n = parts0 (L.getD ((i : Int)).toNat Cn.z).kd ∧ (((L.getD ((i : Int)).toNat Cn.z).kd = 1 ∧ (L.getD ((i : Int)).toNat Cn.z).n = 0 ∧ 0 ≤ (L.getD ((i : Int)).toNat Cn.z).th ∧ (L.getD ((i : Int)).toNat Cn.z).th < 3 ∧ 0 ≤ (L.getD ((i : Int)).toNat Cn.z).rg ∧ (L.getD ((i : Int)).toNat Cn.z).rg < 8) ∨ ((L.getD ((i : Int)).toNat Cn.z).kd = 2 ∧ (L.getD ((i : Int)).toNat Cn.z).n = 0 ∧ 0 ≤ (L.getD ((i : Int)).toNat Cn.z).lc ∧ (L.getD ((i : Int)).toNat Cn.z).lc < 3) ∨ ((L.getD ((i : Int)).toNat Cn.z).kd = 3 ∧ (L.getD ((i : Int)).toNat Cn.z).n = 1) ∨ ((L.getD ((i : Int)).toNat Cn.z).kd = 4 ∧ (L.getD ((i : Int)).toNat Cn.z).n = 2) ∨ ((L.getD ((i : Int)).toNat Cn.z).kd = 5 ∧ (L.getD ((i : Int)).toNat Cn.z).n = 2)) ∧ l.length ≤ i := by
  obtain ⟨lb, h2, h3⟩ := hI.lb
  have := h2.kn hn h1
  rw [h3] at this
  exact this
theorem FI.nx (hI : FI R (L.take n) l i) (hr : right (L.take n) = true) (hn : n ≤ L.length) (h1 : (i : Int) < ((n : Nat) : Int)) : FI R (L.take n) (stepP R (L.getD ((i : Int)).toNat Cn.z) l) (i + 1) := by
  obtain ⟨lb, h2, h3⟩ := hI.lb
  have k := h2.kn hn h1
  refine ⟨⟨_, h2.nx hr hn h1, ?_⟩, ?_⟩
  · rw [← fold_st (p := oz) (l := lb) k.1 k.2.1 k.2.2.1 rfl, stepP_len (by omega), List.length_append, List.length_take, List.length_cons, List.length_nil, h3]; omega
  · have hi : i < (L.take n).length := by simp; omega
    rw [List.take_succ_eq_append_getElem hi, foldP, List.foldl_append, ← foldP, ← hI.eq]
    have e : (L.take n)[i] = (L.getD ((i : Int)).toNat Cn.z) := by simp [List.getD, show i < L.length by omega]
    rw [e]; rfl
theorem FI.fi (hI : FI R (L.take n) l i) (hr : right (L.take n) = true) (hn : n ≤ L.length) (h1 : ¬ (i : Int) < ((n : Nat) : Int)) : l.length = 1 ∧ l = foldP R (L.take n) := by
  obtain ⟨lb, h2, h3⟩ := hI.lb
  have := h2.fi hr hn h1
  have he := hI.eq
  rw [List.take_of_length_le (by simp; omega)] at he
  exact ⟨by omega, he⟩
theorem FI.sm (hI : FI R (L.take n) l i) (hl : ∀ i q, ((foldP R ((L.take n).take i)).getD q pz).1.length ≤ 1000000) : ∀ q, (l.getD q pz).1.length ≤ 1000000 := fun q => by rw [hI.eq]; exact hl i q
theorem papp1 {k : Nat} {x : Pc} (h : k ≤ l.length) : (l.take k ++ [x]).getD k pz = x := by
  have := getD_app_1 (l := l.take k) (x := x) (d := pz)
  rw [List.length_take, Nat.min_eq_left h] at this; exact this
end
theorem foldp_ (R : List (List UInt8)) (L : List Cn) (n : Nat) (c : Nat) (b : Nat) (o : Obj) (hT : ∀ w : World, w.heap[b]? = some o → Lib.TabIs Tryd.prog w "internal/strconv.uint64pow10" .u64 Lib.pow10Tab) (hn : n ≤ L.length) (hN : n ≤ 1000000) (hr : right (L.take n) = true) (hv : ∀ q, -9223372036854775808 ≤ (L.getD q Cn.z).vl ∧ (L.getD q Cn.z).vl ≤ 9223372036854775807) (hl : ∀ i q, ((foldP R ((L.take n).take i)).getD q pz).1.length ≤ 1000000) (qR : ∀ q, (R.getD q []).length ≤ 100) (hR : 8 ≤ R.length) : Fn Tryd.prog 32 [.sl 0 n c, .fn 33 [.ptr 1 0]] [some (.lst 5 L.length (fun zz => cc (L.getD zz Cn.z))), some (.blk [.sl 2 R.length 8]), some (.row 9 1 R.length 8 (fun zz => [.str (R.getD zz [])])), some (.fac b o)] (Rt (.agg [.str (((foldP R (L.take n)).getD 0 pz).1), .int .i64 (((foldP R (L.take n)).getD 0 pz).2)]) [some (.lst 5 L.length (fun zz => cc (L.getD zz Cn.z))), some (.blk [.sl 2 R.length 8]), some (.row 9 1 R.length 8 (fun zz => [.str (R.getD zz [])])), some (.fac b o)]) :=
 enterM (n := 36) (by kernel_rfl) Tryd.func32 rfl rfl rfl fun G w a h0 A => N hX 19 A rfl rfl fun A => have A := A.nilRow 5 64 2 (fun zz => [.str (([] : List Pc).getD zz pz).1, .int .i64 (([] : List Pc).getD zz pz).2]) rfl (fun z => ⟨_, rfl, rfl⟩); LOOP2 (fun (l : List Pc) (i : Nat) => [(1, .fn 33 [.ptr 1 0]), (4, .ptr 4 0), (5, .sl 5 l.length 0), (9, .sl 0 n c), (10, .int .i64 ((n : Nat) : Int)), (11, .int .i64 (i : Int))]) (fun (l : List Pc) (i : Nat) => [some (.lst 5 L.length (fun zz => cc (L.getD zz Cn.z))), some (.blk [.sl 2 R.length 8]), some (.row 9 1 R.length 8 (fun zz => [.str (R.getD zz [])])), some (.fac b o), some (.blk [.str [], .int .i64 0]), some (.row 64 2 l.length 0 (fun zz => [.str (l.getD zz pz).1, .int .i64 (l.getD zz pz).2]))]) (fun (l : List Pc) (i : Nat) => FI R (L.take n) l i) (fun (l : List Pc) (i : Nat) => n - i) [] 0 (FI.i0 hr) ((A.cut [1, 4, 5, 9, 10, 11] rfl).trunc 6 rfl rfl rfl (by simp only [List.length_cons, List.length_nil] at h0; omega)) fun l i hI {G a w} A => N hX 6 A rfl rfl fun A => forkD 12 A rfl
   (fun h1 A => N hX 14 A rfl (ok_d (by have hq := hI.kn hn h1; omega) <| ok_d (by have hq := hI.kn hn h1; omega) <| okE_nil) fun A => N hX 5 A rfl rfl fun A => CALL1 [] (parts_ ((L.getD (((i : Int)).toNat) Cn.z).kd)) A rfl rfl rfl rfl rfl rfl rfl fun A => N hX 4 A rfl (ok_d (by have hq := hI.kn hn h1; omega) <| okE_nil) fun A => DRAWN hX hmo [] [(8, .agg [.str (wr0 R ((L.getD (((i : Int)).toNat) Cn.z).kd) ((L.getD (((i : Int)).toNat) Cn.z).th) ((L.getD (((i : Int)).toNat) Cn.z).rg) ((L.getD (((i : Int)).toNat) Cn.z).lc) ((L.getD (((i : Int)).toNat) Cn.z).vl) l ((((l.length : Nat) : Int) - (parts0 ((L.getD (((i : Int)).toNat) Cn.z).kd))).toNat) (l.length - (((l.length : Nat) : Int) - (parts0 ((L.getD (((i : Int)).toNat) Cn.z).kd))).toNat)), .int .i64 ((L.getD (((i : Int)).toNat) Cn.z).kd)], [some (.lst 5 L.length (fun zz => cc (L.getD zz Cn.z))), some (.blk [.sl 2 R.length 8]), some (.row 9 1 R.length 8 (fun zz => [.str (R.getD zz [])])), some (.fac b o), some (.blk [.str [], .int .i64 0]), some (.row 64 2 l.length 0 (fun zz => [.str (l.getD zz pz).1, .int .i64 (l.getD zz pz).2])), some (.blk [.int .i64 ((L.getD (((i : Int)).toNat) Cn.z).kd), .int .i64 ((L.getD (((i : Int)).toNat) Cn.z).th), .int .i64 ((L.getD (((i : Int)).toNat) Cn.z).rg), .int .i64 ((L.getD (((i : Int)).toNat) Cn.z).lc), .int .i64 ((L.getD (((i : Int)).toNat) Cn.z).vl)])]), (10, .sl 8 (((((l.length : Nat) : Int) - (parts0 ((L.getD (((i : Int)).toNat) Cn.z).kd))).toNat) + 1) 0, [some (.lst 5 L.length (fun zz => cc (L.getD zz Cn.z))), some (.blk [.sl 2 R.length 8]), some (.row 9 1 R.length 8 (fun zz => [.str (R.getD zz [])])), some (.fac b o), some (.blk [.str [], .int .i64 0]), none, some (.blk [.int .i64 ((L.getD (((i : Int)).toNat) Cn.z).kd), .int .i64 ((L.getD (((i : Int)).toNat) Cn.z).th), .int .i64 ((L.getD (((i : Int)).toNat) Cn.z).rg), .int .i64 ((L.getD (((i : Int)).toNat) Cn.z).lc), .int .i64 ((L.getD (((i : Int)).toNat) Cn.z).vl)]), some (.blk [.str (wr0 R ((L.getD (((i : Int)).toNat) Cn.z).kd) ((L.getD (((i : Int)).toNat) Cn.z).th) ((L.getD (((i : Int)).toNat) Cn.z).rg) ((L.getD (((i : Int)).toNat) Cn.z).lc) ((L.getD (((i : Int)).toNat) Cn.z).vl) l ((((l.length : Nat) : Int) - (parts0 ((L.getD (((i : Int)).toNat) Cn.z).kd))).toNat) (l.length - (((l.length : Nat) : Int) - (parts0 ((L.getD (((i : Int)).toNat) Cn.z).kd))).toNat)), .int .i64 ((L.getD (((i : Int)).toNat) Cn.z).kd)]), some (.row 64 2 (((((l.length : Nat) : Int) - (parts0 ((L.getD (((i : Int)).toNat) Cn.z).kd))).toNat) + 1) 0 (fun zz => [.str ((l.take ((((l.length : Nat) : Int) - (parts0 ((L.getD (((i : Int)).toNat) Cn.z).kd))).toNat) ++ [(wr0 R ((L.getD (((i : Int)).toNat) Cn.z).kd) ((L.getD (((i : Int)).toNat) Cn.z).th) ((L.getD (((i : Int)).toNat) Cn.z).rg) ((L.getD (((i : Int)).toNat) Cn.z).lc) ((L.getD (((i : Int)).toNat) Cn.z).vl) l ((((l.length : Nat) : Int) - (parts0 ((L.getD (((i : Int)).toNat) Cn.z).kd))).toNat) (l.length - (((l.length : Nat) : Int) - (parts0 ((L.getD (((i : Int)).toNat) Cn.z).kd))).toNat), (L.getD (((i : Int)).toNat) Cn.z).kd)]).getD zz pz).1, .int .i64 ((l.take ((((l.length : Nat) : Int) - (parts0 ((L.getD (((i : Int)).toNat) Cn.z).kd))).toNat) ++ [(wr0 R ((L.getD (((i : Int)).toNat) Cn.z).kd) ((L.getD (((i : Int)).toNat) Cn.z).th) ((L.getD (((i : Int)).toNat) Cn.z).rg) ((L.getD (((i : Int)).toNat) Cn.z).lc) ((L.getD (((i : Int)).toNat) Cn.z).vl) l ((((l.length : Nat) : Int) - (parts0 ((L.getD (((i : Int)).toNat) Cn.z).kd))).toNat) (l.length - (((l.length : Nat) : Int) - (parts0 ((L.getD (((i : Int)).toNat) Cn.z).kd))).toNat), (L.getD (((i : Int)).toNat) Cn.z).kd)]).getD zz pz).2]))])] A rfl (ok_d (by show 0 ≤ ((l.length : Nat) : Int) - (parts0 ((L.getD (((i : Int)).toNat) Cn.z).kd)) ∧ ((l.length : Nat) : Int) - (parts0 ((L.getD (((i : Int)).toNat) Cn.z).kd)) ≤ ((l.length : Nat) : Int); exact (by have hq := hI.kn hn h1; omega)) <| ok_d (by show 0 ≤ ((l.length : Nat) : Int) - (parts0 ((L.getD (((i : Int)).toNat) Cn.z).kd)) ∧ ((l.length : Nat) : Int) - (parts0 ((L.getD (((i : Int)).toNat) Cn.z).kd)) ≤ ((l.length : Nat) : Int); exact (by have hq := hI.kn hn h1; omega)) <| ok_d (by show 0 ≤ ((l.length : Nat) : Int) - (parts0 ((L.getD (((i : Int)).toNat) Cn.z).kd)) ∧ ((l.length : Nat) : Int) - (parts0 ((L.getD (((i : Int)).toNat) Cn.z).kd)) ≤ ((l.length : Nat) : Int); exact (by have hq := hI.kn hn h1; omega)) <| ok_d (by have hq := hI.kn hn h1; omega) <| okE_nil) rfl rfl (by kernel_rfl) ⟨callE [1, 2, 5, 3] (pone_ R ((L.getD (((i : Int)).toNat) Cn.z).kd) ((L.getD (((i : Int)).toNat) Cn.z).th) ((L.getD (((i : Int)).toNat) Cn.z).rg) ((L.getD (((i : Int)).toNat) Cn.z).lc) ((L.getD (((i : Int)).toNat) Cn.z).vl) l ((((l.length : Nat) : Int) - (parts0 ((L.getD (((i : Int)).toNat) Cn.z).kd))).toNat) (l.length - (((l.length : Nat) : Int) - (parts0 ((L.getD (((i : Int)).toNat) Cn.z).kd))).toNat) b o hT (by have hq := hI.kn hn h1; omega) (by have hq := hI.kn hn h1; omega) (by have hq := hI.kn hn h1; omega) (by have hq := hI.kn hn h1; omega) (by have hq := hI.kn hn h1; omega) (hv _) (hI.sm hl) qR hR) rfl rfl rfl rfl rfl rfl rfl, ⟨trivial, ⟨eff_shrink (e := 64) (s := 2) 5 ((((l.length : Nat) : Int) - (parts0 ((L.getD (((i : Int)).toNat) Cn.z).kd))).toNat) rfl (by have hq := hI.kn hn h1; omega) (appE (i := 5) (e := 64) (s := 2) hX (((((l.length : Nat) : Int) - (parts0 ((L.getD (((i : Int)).toNat) Cn.z).kd))).toNat) + 1) (fun zz => [.str ((l.take ((((l.length : Nat) : Int) - (parts0 ((L.getD (((i : Int)).toNat) Cn.z).kd))).toNat) ++ [(wr0 R ((L.getD (((i : Int)).toNat) Cn.z).kd) ((L.getD (((i : Int)).toNat) Cn.z).th) ((L.getD (((i : Int)).toNat) Cn.z).rg) ((L.getD (((i : Int)).toNat) Cn.z).lc) ((L.getD (((i : Int)).toNat) Cn.z).vl) l ((((l.length : Nat) : Int) - (parts0 ((L.getD (((i : Int)).toNat) Cn.z).kd))).toNat) (l.length - (((l.length : Nat) : Int) - (parts0 ((L.getD (((i : Int)).toNat) Cn.z).kd))).toNat), (L.getD (((i : Int)).toNat) Cn.z).kd)]).getD zz pz).1, .int .i64 ((l.take ((((l.length : Nat) : Int) - (parts0 ((L.getD (((i : Int)).toNat) Cn.z).kd))).toNat) ++ [(wr0 R ((L.getD (((i : Int)).toNat) Cn.z).kd) ((L.getD (((i : Int)).toNat) Cn.z).th) ((L.getD (((i : Int)).toNat) Cn.z).rg) ((L.getD (((i : Int)).toNat) Cn.z).lc) ((L.getD (((i : Int)).toNat) Cn.z).vl) l ((((l.length : Nat) : Int) - (parts0 ((L.getD (((i : Int)).toNat) Cn.z).kd))).toNat) (l.length - (((l.length : Nat) : Int) - (parts0 ((L.getD (((i : Int)).toNat) Cn.z).kd))).toNat), (L.getD (((i : Int)).toNat) Cn.z).kd)]).getD zz pz).2]) rfl rfl rfl rfl (by have hq := hI.kn hn h1; omega) rfl (fun q hq => by show [SV.str _, SV.int _ _] = [SV.str _, SV.int _ _]; rw [getD_app_l (by rw [List.length_take]; have hq := hI.kn hn h1; omega), getD_take hq]) (by show [SV.str _, SV.int _ _] = _; rw [papp1 (by have hq := hI.kn hn h1; omega)]) (fun z => ⟨_, rfl, rfl⟩)), trivial⟩⟩⟩ trivial fun A => N hX 6 A rfl (ok_d (by have hq := hI.kn hn h1; omega) <| okE_nil) fun A => ⟨stepP R (L.getD ((i : Int)).toNat Cn.z) l, i + 1, _, (by omega), (hI.nx hr hn h1), ((((A.rowAs 8 (stepP R (L.getD ((i : Int)).toNat Cn.z) l).length (fun zz => [.str ((stepP R (L.getD ((i : Int)).toNat Cn.z) l).getD zz pz).1, .int .i64 ((stepP R (L.getD ((i : Int)).toNat Cn.z) l).getD zz pz).2]) rfl (stepP_len (R := R) (c := (L.getD ((i : Int)).toNat Cn.z)) (l := l) (by have hq := hI.kn hn h1; omega)) (fun q hq => rfl) (fun z => ⟨_, rfl, rfl⟩)).say 5 (.sl 8 (stepP R (L.getD ((i : Int)).toNat Cn.z) l).length 0) rfl (by rw [(stepP_len (R := R) (c := (L.getD ((i : Int)).toNat Cn.z)) (l := l) (by have hq := hI.kn hn h1; omega))])).cut [1, 4, 5, 9, 10, 11] rfl).mv 4 [4, 8] rfl rfl rfl rfl (by simp only [List.length_cons, List.length_nil] at h0; omega))⟩)
   (fun h1 A => N hX 12 A rfl (ok_d (by have hq := (hI.fi hr hn h1).1; omega) <| ok_d (by have hq := (hI.fi hr hn h1).1; omega) <| okE_nil) fun A => RETN hX A rfl rfl rfl h0 rfl rfl rfl rfl (by rw [← (hI.fi hr hn h1).2]; rfl) rfl)
theorem rgL_len {nf : Int → List UInt8} (h : ∀ x, (nf x).length ≤ 20) (q : Nat) : ((rgL nf).getD q []).length ≤ 100 := by
  by_cases hq : q < 8
  · have : q = 0 ∨ q = 1 ∨ q = 2 ∨ q = 3 ∨ q = 4 ∨ q = 5 ∨ q = 6 ∨ q = 7 := by omega
    rcases this with e | e | e | e | e | e | e | e <;> subst e <;> exact Nat.le_trans (h _) (by decide)
  · rw [List.getD_eq_getElem?_getD, List.getElem?_eq_none (by show 8 ≤ q; omega)]; decide
theorem print1_ (L : List Cn) (n : Nat) (c : Nat) (b : Nat) (o : Obj) (hT : ∀ w : World, w.heap[b]? = some o → Lib.TabIs Tryd.prog w "internal/strconv.uint64pow10" .u64 Lib.pow10Tab) (hn : n ≤ L.length) (hN : n ≤ 1000000) (hr : right (L.take n) = true) (hv : ∀ q, -9223372036854775808 ≤ (L.getD q Cn.z).vl ∧ (L.getD q Cn.z).vl ≤ 9223372036854775807) (hl : ∀ i q, ((foldP (rgL nfX) ((L.take n).take i)).getD q pz).1.length ≤ 1000000) : Fn Tryd.prog 20 [.int .i64 1, .sl 0 n c] [some (.lst 5 L.length (fun zz => cc (L.getD zz Cn.z))), some (.fac b o)] (Rt (.tup [.str (((foldP (rgL nfX) (L.take n)).getD 0 pz).1), .int .i64 0]) [some (.lst 5 L.length (fun zz => cc (L.getD zz Cn.z))), some (.fac b o)]) :=
 enterM (n := 20) (by kernel_rfl) Tryd.func20 rfl rfl rfl fun G w a h0 A => N hX 9 A rfl rfl fun A => CALL1 [] regs1_ A rfl rfl rfl rfl rfl rfl rfl fun A => N hX 8 A rfl rfl fun A => NILR hX A rfl rfl (by omega) fun A => N hX 9 A rfl rfl fun A => CALL1 [0] (pright_ L n c hn) A rfl rfl rfl rfl rfl rfl rfl fun A => N hX 3 A rfl rfl fun A => fork 14 A rfl
  (fun h1 A => absurd h1 (by rw [hr]; decide))
  (fun h1 A => N hX 7 A rfl rfl fun A => CALL1 [0, 3, 2, 1] (foldp_ (rgL nfX) L n c b o hT hn hN hr hv hl (rgL_len nfX_len) (by decide)) A rfl rfl rfl rfl rfl rfl rfl fun A => N hX 13 A rfl rfl fun A => RETN hX A rfl rfl rfl h0 rfl rfl rfl rfl rfl rfl)
theorem fn_asX {P : Program} {f : Nat} {az : List SV} {H H2 : Hp} {x y : SV} (h : Fn P f az H (Rt x H2)) (e : ∀ G, den G x = den G y) : Fn P f az H (Rt y H2) :=
  ⟨h.1, fun G w vs hM hv => Calls.mono (h.2 G w vs hM hv) fun e' w' ⟨x', H', F, v, ⟨q1, q2⟩, r⟩ => by subst q1; subst q2; exact ⟨y, _, F, v, ⟨rfl, rfl⟩, by rw [← e]; exact r.1, r.2⟩⟩
def aC : Cn := ⟨2, 0, 0, 0, 1⟩
def nC : Cn := ⟨3, 0, 0, 0, 0⟩
def oA : O := fun k => if k = 24 then 1 else 0
theorem tyC : (∀ x, (cc x).length = 5) ∧ (∀ x, inL 0 (cc x) = true) ∧ (∀ x, ∃ vs, denL [] (cc x) = some vs) := ⟨fun _ => rfl, fun _ => rfl, fun _ => ⟨_, rfl⟩⟩
theorem tyO : (∀ x, (oc x).length = 27) ∧ (∀ x, inL 0 (oc x) = true) ∧ (∀ x, ∃ vs, denL [] (oc x) = some vs) := ⟨fun _ => rfl, fun _ => rfl, fun _ => ⟨_, rfl⟩⟩
theorem itoa1 : Lib.itoa 1 = [49] := by unfold Lib.itoa; rw [if_neg (by decide)]; show Lib.decDigits 1 = _; unfold Lib.decDigits; rfl
theorem fp0 (R : List (List UInt8)) : foldP R [] = [] := rfl
theorem fp1 (R : List (List UInt8)) : foldP R [aC] = [([120, 61, 49], 2)] := by
  show stepP R aC [] = _
  have : wr0 R aC.kd aC.th aC.rg aC.lc aC.vl [] 0 0 = [120, 61] ++ Lib.itoa 1 := rfl
  show [] ++ [(wr0 R aC.kd aC.th aC.rg aC.lc aC.vl [] 0 0, 2)] = _
  rw [this, itoa1]; rfl
theorem fp2 (R : List (List UInt8)) : foldP R [aC, nC] = [([126, 120, 61, 49], 3)] := by
  have : foldP R [aC, nC] = stepP R nC (foldP R [aC]) := rfl
  rw [this, fp1]; rfl
theorem fpl (R : List (List UInt8)) : ∀ i q, ((foldP R (([aC, nC].take 2).take i)).getD q pz).1.length ≤ 1000000 := by
  intro i q
  have hi : ([aC, nC].take 2).take i = [] ∨ ([aC, nC].take 2).take i = [aC] ∨ ([aC, nC].take 2).take i = [aC, nC] := by
    rcases i with _ | _ | i
    · exact .inl rfl
    · exact .inr (.inl rfl)
    · exact .inr (.inr (List.take_of_length_le (by simp)))
  rcases hi with h | h | h <;> rw [h]
  · rw [fp0]; show (pz.1).length ≤ _; decide
  · rw [fp1]; rcases q with _ | q
    · decide
    · show (pz.1).length ≤ _; decide
  · rw [fp2]; rcases q with _ | q
    · decide
    · show (pz.1).length ≤ _; decide
theorem vA : ∀ q, -9223372036854775808 ≤ ([aC, nC].getD q Cn.z).vl ∧ ([aC, nC].getD q Cn.z).vl ≤ 9223372036854775807 := fun q => by
  rcases q with _ | _ | q
  · decide
  · decide
  · show -9223372036854775808 ≤ Cn.z.vl ∧ Cn.z.vl ≤ 9223372036854775807; decide
theorem printA_ (b : Nat) (o : Obj) (hT : ∀ w : World, w.heap[b]? = some o → Lib.TabIs Tryd.prog w "internal/strconv.uint64pow10" .u64 Lib.pow10Tab) : Fn Tryd.prog 20 [.int .i64 1, .sl 0 2 2] [some (.lst 5 ([aC, nC].length) (fun zz => cc ([aC, nC].getD zz Cn.z))), some (.fac b o)] (Rt (.tup [.str [126, 120, 61, 49], .int .i64 0]) [some (.lst 5 ([aC, nC].length) (fun zz => cc ([aC, nC].getD zz Cn.z))), some (.fac b o)]) :=
  fn_asX (print1_ [aC, nC] 2 2 b o hT (by decide) (by decide) rfl vA (fpl _)) fun _ => by rw [show ([aC, nC] : List Cn).take 2 = [aC, nC] from rfl, fp2]; rfl
theorem canA : ∀ y ∈ [oz, oA], Can y := fun y hy => by
  rcases List.mem_cons.1 hy with rfl | hy
  · intro k hk; rfl
  · rcases List.mem_cons.1 hy with rfl | hy
    · intro k hk; exact if_neg (by omega)
    · cases hy
theorem judgeA_ : Fn Tryd.prog 18 [.int .i64 1, .sl 0 1 1, .sl 1 2 2] [some (.lst 5 ([aC].length) (fun zz => cc ([aC].getD zz Cn.z))), some (.lst 27 ([oz, oA].length) (fun zz => oc ([oz, oA].getD zz oz)))] (Rt (.tup [.agg [.tt, .tt, .int .i64 0, .int .i64 0, .int .i64 0, .int .i64 0, .int .i64 0, .int .i64 0, .int .i64 0, .int .i64 0, .int .i64 0, .int .i64 0, .int .i64 0, .int .i64 0, .int .i64 0, .int .i64 0, .int .i64 0, .int .i64 0, .int .i64 0, .int .i64 0, .int .i64 0, .int .i64 0, .int .i64 0, .int .i64 0, .int .i64 0, .int .i64 0, .int .i64 1, .int .i64 0, .int .i64 0, .int .i64 2], .int .i64 0]) [some (.lst 5 ([aC].length) (fun zz => cc ([aC].getD zz Cn.z))), some (.lst 27 ([oz, oA].length) (fun zz => oc ([oz, oA].getD zz oz)))]) :=
  fn_asX (pjudge_ 1 [aC] 1 1 [oz, oA] 2 (by decide) (by decide) (by decide) canA) fun _ => rfl
theorem rightA_ : Fn Tryd.prog 9 [.sl 0 1 1] [some (.lst 5 ([aC].length) (fun zz => cc ([aC].getD zz Cn.z)))] (Rt .tt [some (.lst 5 ([aC].length) (fun zz => cc ([aC].getD zz Cn.z)))]) := fn_asX (pright_ [aC] 1 1 (by decide)) fun _ => rfl
theorem able_ (b : Nat) (o : Obj) (hT : ∀ w : World, w.heap[b]? = some o → Lib.TabIs Tryd.prog w "internal/strconv.uint64pow10" .u64 Lib.pow10Tab) : Fn Tryd.prog 8 [] [some (.fac b o)] (Rt (.tt) [some (.fac b o)]) :=
 enterM (n := 55) (by kernel_rfl) Tryd.func8 rfl rfl rfl fun G w a h0 A => N hX 17 A rfl rfl fun A => have A := A.asT Cn.z cc 5 tyC.1 tyC.2.1 tyC.2.2 [aC, nC] 2 rfl; CALL1 [2, 0] (printA_ b o hT) A rfl rfl rfl rfl rfl rfl rfl fun A => N hX 15 A rfl rfl fun A => have A := A.asT Cn.z cc 5 tyC.1 tyC.2.1 tyC.2.2 [aC] 3 rfl; have A := A.asT oz oc 27 tyO.1 tyO.2.1 tyO.2.2 [oz, oA] 4 rfl; CALL1 [3, 4] judgeA_ A rfl rfl rfl rfl rfl rfl rfl fun A => N hX 13 A rfl rfl fun A => forkE 26 A rfl
  (fun h1 A => N hX 4 A rfl rfl fun A => forkE 30 A rfl
   (fun h2 A => N hX 4 A rfl rfl fun A => forkE 34 A rfl
    (fun h3 A => N hX 9 A rfl rfl fun A => forkE 43 A rfl
     (fun h4 A => N hX 7 A rfl (ok_d (by omega) <| ok_d (by omega) <| okE_nil) fun A => forkE 50 A rfl
      (fun h5 A => N hX 2 A rfl rfl fun A => have A := A.asT Cn.z cc 5 tyC.1 tyC.2.1 tyC.2.2 [aC] 6 rfl; CALL1 [6] rightA_ A rfl rfl rfl rfl rfl rfl rfl fun A => N hX 5 A rfl rfl fun A => RETN hX A rfl rfl rfl h0 rfl rfl rfl rfl rfl rfl)
      (fun h5 A => absurd rfl h5))
     (fun h4 A => absurd rfl h4))
    (fun h3 A => absurd rfl h3))
   (fun h2 A => absurd rfl h2))
  (fun h1 A => absurd rfl h1)
theorem pjudgeF_ (qu : Int) (cs : List Cn) (c : Nat) (os : List O) (c2 : Nat) (hN : cs.length ≤ 1000000) (hs : os.length ≤ 1000000) (ho : ∀ y ∈ os, Can y) : Fn Tryd.prog 18 [.int .i64 qu, .sl 0 cs.length c, .sl 1 os.length c2] [some (.lst 5 cs.length (fun zz => cc (cs.getD zz Cn.z))), some (.lst 27 os.length (fun zz => oc (os.getD zz oz)))] (Rt (.tup [.agg [.bool (jH qu cs os), .bool (jW qu cs os), .int .i64 ((jO qu cs os) 0), .int .i64 ((jO qu cs os) 1), .int .i64 ((jO qu cs os) 2), .int .i64 ((jO qu cs os) 3), .int .i64 ((jO qu cs os) 4), .int .i64 ((jO qu cs os) 5), .int .i64 ((jO qu cs os) 6), .int .i64 ((jO qu cs os) 7), .int .i64 ((jO qu cs os) 8), .int .i64 ((jO qu cs os) 9), .int .i64 ((jO qu cs os) 10), .int .i64 ((jO qu cs os) 11), .int .i64 ((jO qu cs os) 12), .int .i64 ((jO qu cs os) 13), .int .i64 ((jO qu cs os) 14), .int .i64 ((jO qu cs os) 15), .int .i64 ((jO qu cs os) 16), .int .i64 ((jO qu cs os) 17), .int .i64 ((jO qu cs os) 18), .int .i64 ((jO qu cs os) 19), .int .i64 ((jO qu cs os) 20), .int .i64 ((jO qu cs os) 21), .int .i64 ((jO qu cs os) 22), .int .i64 ((jO qu cs os) 23), .int .i64 ((jO qu cs os) 24), .int .i64 ((jO qu cs os) 25), .int .i64 ((jO qu cs os) 26), .int .i64 (jN qu cs os)], .int .i64 (jE qu cs)]) [some (.lst 5 cs.length (fun zz => cc (cs.getD zz Cn.z))), some (.lst 27 os.length (fun zz => oc (os.getD zz oz)))]) :=
  fn_asX (pjudge_ qu cs cs.length c os c2 (Nat.le_refl _) hN hs ho) fun _ => by rw [List.take_length]
end Go.Proofs.YtfdfjakafiglmaaDoor
namespace Go.Proofs.YtfdfjakafiglmaaDoor
open Go.RowKit
set_option linter.unusedVariables false
set_option linter.unusedSimpArgs false
set_option maxRecDepth 100000
set_option linter.unusedSectionVars false
set_option maxHeartbeats 40000000
set_option simprocs false
def vd (h w : Bool) (f : O) (n : Int) : List SV := [.bool h, .bool w, .int .i64 (f 0), .int .i64 (f 1), .int .i64 (f 2), .int .i64 (f 3), .int .i64 (f 4), .int .i64 (f 5), .int .i64 (f 6), .int .i64 (f 7), .int .i64 (f 8), .int .i64 (f 9), .int .i64 (f 10), .int .i64 (f 11), .int .i64 (f 12), .int .i64 (f 13), .int .i64 (f 14), .int .i64 (f 15), .int .i64 (f 16), .int .i64 (f 17), .int .i64 (f 18), .int .i64 (f 19), .int .i64 (f 20), .int .i64 (f 21), .int .i64 (f 22), .int .i64 (f 23), .int .i64 (f 24), .int .i64 (f 25), .int .i64 (f 26), .int .i64 n]
def anyO (os : List O) (cs : List Cn) : Bool := os.any fun x => evalB x cs
def allO (os : List O) (cs : List Cn) : Bool := os.all fun x => evalB x cs
def fA (os : List O) (cs : List Cn) : O := (jF 1 cs (sortO os)).getD oz
def fB (os : List O) (cs : List Cn) : O := (jF 3 cs (sortO os)).getD oz
def nO (os : List O) : Int := (((sortO os).length : Nat) : Int)
theorem rgo_app (d : List Cn) : ∀ (cs : List Cn) (h : Int), rightGo cs h = true → rightGo (cs ++ d) h = rightGo d 1
  | [], h, hr => by rw [rightGo, beq_iff_eq] at hr; subst hr; rfl
  | c :: cs, h, hr => by
    rw [rightGo] at hr
    rw [List.cons_append, rightGo]
    split at hr
    · cases hr
    · next hc => rw [if_neg hc]; exact rgo_app d cs _ hr
theorem right_go {cs : List Cn} (hr : right cs = true) : rightGo cs 0 = true ∧ 1 ≤ cs.length ∧ cs.length ≤ 32 := by
  unfold right at hr
  split at hr
  · cases hr
  · next h => exact ⟨hr, by omega, by omega⟩
theorem right_nt {cs : List Cn} (hr : right cs = true) (h : cs.length < 32) : right (cs ++ ([⟨3, 0, 0, 0, 0⟩] : List Cn)) = true := by
  obtain ⟨h1, h2, h3⟩ := right_go hr
  unfold right
  rw [if_neg (by simp; omega), rgo_app _ cs 0 h1]
  rfl
theorem fold_one {p : O} {cs : List Cn} (hr : right cs = true) : cs.foldl (fun l c => stepL p c l) [] = [evalB p cs] := by
  have go : ∀ i, i ≤ cs.length → ∃ l, EI p cs l i := by
    intro i
    induction i with
    | zero => exact fun _ => ⟨[], EI.init (by rw [hr]; rfl)⟩
    | succ i ih => exact fun h => by obtain ⟨l, hl⟩ := ih (by omega); exact ⟨_, hl.next (by rw [hr]; rfl) (by omega)⟩
  obtain ⟨l, hl⟩ := go cs.length (Nat.le_refl _)
  have h1 := hl.fin (by omega)
  have h2 := hl.done (by rw [hr]; rfl) (by omega)
  have h3 := hl.eq
  rw [List.take_length] at h3
  rw [← h3, h2]
  match l, h1 with
  | [v], _ => rfl
theorem eval_nt {p : O} {cs : List Cn} (hr : right cs = true) (h : cs.length < 32) : evalB p (cs ++ ([⟨3, 0, 0, 0, 0⟩] : List Cn)) = !(evalB p cs) := by
  have h1 : evalB p (cs ++ ([⟨3, 0, 0, 0, 0⟩] : List Cn)) = ((cs ++ ([⟨3, 0, 0, 0, 0⟩] : List Cn)).foldl (fun l c => stepL p c l) []).getD 0 false := by
    show (if _ then _ else _) = _
    rw [if_pos (right_nt hr h)]
  rw [h1, List.foldl_append, fold_one hr]
  rfl
theorem any_sort {os : List O} (ho : ∀ y ∈ os, Can y) (f : O → Bool) : (sortO os).any f = os.any f := by
  have h := (sortO_srt ho).2
  rw [Bool.eq_iff_iff]
  simp only [List.any_eq_true]
  exact ⟨fun ⟨x, h1, h2⟩ => ⟨x, (h x).1 h1, h2⟩, fun ⟨x, h1, h2⟩ => ⟨x, (h x).2 h1, h2⟩⟩
theorem find_any (l : List O) (f : O → Bool) : (l.find? f).isSome = l.any f := by
  induction l with
  | nil => rfl
  | cons x l ih => rw [List.find?_cons, List.any_cons]; cases f x <;> simp [ih]
section
variable {cs : List Cn} {os : List O} (hr : right cs = true) (ho : ∀ y ∈ os, Can y)
include hr ho
theorem jw1 : (jF 1 cs (sortO os)).isSome = anyO os cs := by
  unfold jF
  rw [find_any, any_sort ho]
  show (os.any fun p => evalB p cs == true) = _
  unfold anyO
  congr 1; funext p; cases evalB p cs <;> rfl
theorem jw3 : (jF 3 cs (sortO os)).isSome = !(allO os cs) := by
  unfold jF
  rw [find_any, any_sort ho]
  show (os.any fun p => evalB p cs == false) = _
  unfold allO
  rw [List.not_all_eq_any_not]
  congr 1; funext p; cases evalB p cs <;> rfl
theorem o1 : jH 1 cs os = anyO os cs ∧ jW 1 cs os = anyO os cs ∧ jO 1 cs os = fA os cs ∧ jN 1 cs os = nO os ∧ jE 1 cs = 0 := by
  have hk : jOK 1 cs = true := by unfold jOK; rw [hr]; rfl
  have hw : jW 1 cs os = anyO os cs := by unfold jW; rw [hk, jw1 hr ho]; rfl
  exact ⟨by unfold jH; rw [hk, hw]; cases anyO os cs <;> rfl, hw, by unfold jO; rw [if_pos hk]; rfl, by unfold jN; rw [if_pos hk]; rfl, by unfold jE; rw [if_neg (by decide), if_pos hr]⟩
theorem o2 : jH 2 cs os = (!(anyO os cs)) ∧ jW 2 cs os = anyO os cs ∧ jO 2 cs os = fA os cs ∧ jN 2 cs os = nO os ∧ jE 2 cs = 0 := by
  have hk : jOK 2 cs = true := by unfold jOK; rw [hr]; rfl
  have hw : jW 2 cs os = anyO os cs := by unfold jW; rw [hk, show jF 2 cs (sortO os) = jF 1 cs (sortO os) from rfl, jw1 hr ho]; rfl
  exact ⟨by unfold jH; rw [hk, hw]; cases anyO os cs <;> rfl, hw, by unfold jO; rw [if_pos hk]; rfl, by unfold jN; rw [if_pos hk]; rfl, by unfold jE; rw [if_neg (by decide), if_pos hr]⟩
theorem o3 : jH 3 cs os = allO os cs ∧ jW 3 cs os = (!(allO os cs)) ∧ jO 3 cs os = fB os cs ∧ jN 3 cs os = nO os ∧ jE 3 cs = 0 := by
  have hk : jOK 3 cs = true := by unfold jOK; rw [hr]; rfl
  have hw : jW 3 cs os = (!(allO os cs)) := by unfold jW; rw [hk, jw3 hr ho]; rfl
  exact ⟨by unfold jH; rw [hk, hw]; cases allO os cs <;> rfl, hw, by unfold jO; rw [if_pos hk]; rfl, by unfold jN; rw [if_pos hk]; rfl, by unfold jE; rw [if_neg (by decide), if_pos hr]⟩
theorem o4 (h32 : cs.length < 32) : jH 2 (cs ++ ([⟨3, 0, 0, 0, 0⟩] : List Cn)) os = allO os cs ∧ jW 2 (cs ++ ([⟨3, 0, 0, 0, 0⟩] : List Cn)) os = (!(allO os cs)) ∧ jO 2 (cs ++ ([⟨3, 0, 0, 0, 0⟩] : List Cn)) os = fB os cs ∧ jN 2 (cs ++ ([⟨3, 0, 0, 0, 0⟩] : List Cn)) os = nO os ∧ jE 2 (cs ++ ([⟨3, 0, 0, 0, 0⟩] : List Cn)) = 0 := by
  have hn := right_nt hr h32
  have hk : jOK 2 (cs ++ ([⟨3, 0, 0, 0, 0⟩] : List Cn)) = true := by unfold jOK; rw [hn]; rfl
  have hf : jF 2 (cs ++ ([⟨3, 0, 0, 0, 0⟩] : List Cn)) (sortO os) = jF 3 cs (sortO os) := by
    unfold jF
    congr 1; funext p
    rw [eval_nt hr h32]; cases evalB p cs <;> rfl
  have hw : jW 2 (cs ++ ([⟨3, 0, 0, 0, 0⟩] : List Cn)) os = (!(allO os cs)) := by unfold jW; rw [hk, hf, jw3 hr ho]; rfl
  exact ⟨by unfold jH; rw [hk, hw]; cases allO os cs <;> rfl, hw, by unfold jO; rw [if_pos hk, hf]; rfl, by unfold jN; rw [if_pos hk]; rfl, by unfold jE; rw [if_neg (by decide), if_pos hn]⟩
end
structure OI (os : List O) (cs : List Cn) (sm al : Bool) (i : Nat) : Prop where
  le : i ≤ os.length
  s : sm = (os.take i).any fun x => evalB x cs
  a : al = (os.take i).all fun x => evalB x cs
section
variable {os : List O} {cs : List Cn} {sm al : Bool} {i : Nat}
theorem OI.i0 : OI os cs false true 0 := ⟨Nat.zero_le _, by simp, by simp⟩
theorem OI.nx (hI : OI os cs sm al i) (h : (i : Int) < ((os.length : Nat) : Int)) : OI os cs (sm || evalB (os.getD ((i : Int)).toNat oz) cs) (al && evalB (os.getD ((i : Int)).toNat oz) cs) (i + 1) := by
  have hi : i < os.length := by omega
  have e : os.getD ((i : Int)).toNat oz = os[i] := by simp [List.getD, hi]
  refine ⟨hi, ?_, ?_⟩
  · rw [List.take_succ_eq_append_getElem hi, List.any_append, ← hI.s, e]; simp
  · rw [List.take_succ_eq_append_getElem hi, List.all_append, ← hI.a, e]; simp
theorem OI.fi (hI : OI os cs sm al i) (h : ¬ (i : Int) < ((os.length : Nat) : Int)) : sm = anyO os cs ∧ al = allO os cs := by
  refine ⟨?_, ?_⟩
  · rw [hI.s, List.take_of_length_le (by omega)]; rfl
  · rw [hI.a, List.take_of_length_le (by omega)]; rfl
end
theorem prightF_ (cs : List Cn) (c : Nat) : Fn Tryd.prog 9 [.sl 0 cs.length c] [some (.lst 5 cs.length (fun zz => cc (cs.getD zz Cn.z)))] (Rt (.bool (right cs)) [some (.lst 5 cs.length (fun zz => cc (cs.getD zz Cn.z)))]) := fn_asX (pright_ cs cs.length c (Nat.le_refl _)) fun _ => by rw [List.take_length]
theorem pevalF_ (p : O) (cs : List Cn) (c : Nat) (hN : cs.length ≤ 1000000) : Fn Tryd.prog 10 [.agg (oc p), .sl 0 cs.length c] [some (.lst 5 cs.length (fun zz => cc (cs.getD zz Cn.z)))] (Rt (.bool (evalB p cs)) [some (.lst 5 cs.length (fun zz => cc (cs.getD zz Cn.z)))]) := fn_asX (peval_ p cs cs.length c (Nat.le_refl _) hN) fun _ => by rw [List.take_length]
theorem judge1_ (cs : List Cn) (c : Nat) (os : List O) (c2 : Nat) (hr : right cs = true) (h32 : cs.length < 32) (hs : os.length ≤ 1000000) (ho : ∀ y ∈ os, Can y) : Fn Tryd.prog 18 [.int .i64 1, .sl 0 cs.length c, .sl 1 os.length c2] [some (.lst 5 cs.length (fun zz => cc (cs.getD zz Cn.z))), some (.lst 27 os.length (fun zz => oc (os.getD zz oz)))] (Rt (.tup [.agg (vd (anyO os cs) (anyO os cs) (fA os cs) (nO os)), .int .i64 0]) [some (.lst 5 cs.length (fun zz => cc (cs.getD zz Cn.z))), some (.lst 27 os.length (fun zz => oc (os.getD zz oz)))]) :=
  fn_asX (pjudgeF_ 1 cs c os c2 (by (try simp); omega) hs ho) fun _ => by
    obtain ⟨e1, e2, e3, e4, e5⟩ := o1 hr ho
    rw [e1, e2, e3, e4, e5]
    rfl
theorem judge2_ (cs : List Cn) (c : Nat) (os : List O) (c2 : Nat) (hr : right cs = true) (h32 : cs.length < 32) (hs : os.length ≤ 1000000) (ho : ∀ y ∈ os, Can y) : Fn Tryd.prog 18 [.int .i64 2, .sl 0 cs.length c, .sl 1 os.length c2] [some (.lst 5 cs.length (fun zz => cc (cs.getD zz Cn.z))), some (.lst 27 os.length (fun zz => oc (os.getD zz oz)))] (Rt (.tup [.agg (vd (!(anyO os cs)) (anyO os cs) (fA os cs) (nO os)), .int .i64 0]) [some (.lst 5 cs.length (fun zz => cc (cs.getD zz Cn.z))), some (.lst 27 os.length (fun zz => oc (os.getD zz oz)))]) :=
  fn_asX (pjudgeF_ 2 cs c os c2 (by (try simp); omega) hs ho) fun _ => by
    obtain ⟨e1, e2, e3, e4, e5⟩ := o2 hr ho
    rw [e1, e2, e3, e4, e5]
    rfl
theorem judge3_ (cs : List Cn) (c : Nat) (os : List O) (c2 : Nat) (hr : right cs = true) (h32 : cs.length < 32) (hs : os.length ≤ 1000000) (ho : ∀ y ∈ os, Can y) : Fn Tryd.prog 18 [.int .i64 3, .sl 0 cs.length c, .sl 1 os.length c2] [some (.lst 5 cs.length (fun zz => cc (cs.getD zz Cn.z))), some (.lst 27 os.length (fun zz => oc (os.getD zz oz)))] (Rt (.tup [.agg (vd (allO os cs) (!(allO os cs)) (fB os cs) (nO os)), .int .i64 0]) [some (.lst 5 cs.length (fun zz => cc (cs.getD zz Cn.z))), some (.lst 27 os.length (fun zz => oc (os.getD zz oz)))]) :=
  fn_asX (pjudgeF_ 3 cs c os c2 (by (try simp); omega) hs ho) fun _ => by
    obtain ⟨e1, e2, e3, e4, e5⟩ := o3 hr ho
    rw [e1, e2, e3, e4, e5]
    rfl
theorem judge4_ (cs : List Cn) (c : Nat) (os : List O) (c2 : Nat) (hr : right cs = true) (h32 : cs.length < 32) (hs : os.length ≤ 1000000) (ho : ∀ y ∈ os, Can y) : Fn Tryd.prog 18 [.int .i64 2, .sl 0 (cs ++ ([⟨3, 0, 0, 0, 0⟩] : List Cn)).length c, .sl 1 os.length c2] [some (.lst 5 ((cs ++ ([⟨3, 0, 0, 0, 0⟩] : List Cn)).length) (fun zz => cc ((cs ++ ([⟨3, 0, 0, 0, 0⟩] : List Cn)).getD zz Cn.z))), some (.lst 27 os.length (fun zz => oc (os.getD zz oz)))] (Rt (.tup [.agg (vd (allO os cs) (!(allO os cs)) (fB os cs) (nO os)), .int .i64 0]) [some (.lst 5 ((cs ++ ([⟨3, 0, 0, 0, 0⟩] : List Cn)).length) (fun zz => cc ((cs ++ ([⟨3, 0, 0, 0, 0⟩] : List Cn)).getD zz Cn.z))), some (.lst 27 os.length (fun zz => oc (os.getD zz oz)))]) :=
  fn_asX (pjudgeF_ 2 (cs ++ ([⟨3, 0, 0, 0, 0⟩] : List Cn)) c os c2 (by (try simp); omega) hs ho) fun _ => by
    obtain ⟨e1, e2, e3, e4, e5⟩ := o4 hr ho h32
    rw [e1, e2, e3, e4, e5]
    rfl
theorem opposites_ (cs : List Cn) (c : Nat) (os : List O) (c2 : Nat) (b : Nat) (o : Obj) (hT : ∀ w : World, w.heap[b]? = some o → Lib.TabIs Tryd.prog w "internal/strconv.uint64pow10" .u64 Lib.pow10Tab) (ho : ∀ y ∈ os, Can y) : Fn Tryd.prog 6 [.sl 0 cs.length c, .sl 1 os.length c2] [some (.lst 5 cs.length (fun zz => cc (cs.getD zz Cn.z))), some (.lst 27 os.length (fun zz => oc (os.getD zz oz))), some (.fac b o)] (Rt (.tt) [some (.lst 5 cs.length (fun zz => cc (cs.getD zz Cn.z))), some (.lst 27 os.length (fun zz => oc (os.getD zz oz))), some (.fac b o)]) :=
 enterM (n := 140) (by kernel_rfl) Tryd.func6 rfl rfl rfl fun G w a h0 A => N hX 8 A rfl rfl fun A => CALL1 [2] (able_ b o hT) A rfl rfl rfl rfl rfl rfl rfl fun A => N hX 13 A rfl rfl fun A => forkD 23 A rfl
  (fun h1 A => N hX 20 A rfl rfl fun A => RETN hX A rfl rfl rfl h0 rfl rfl rfl rfl rfl rfl)
  (fun h1 A => N hX 5 A rfl rfl fun A => forkD 28 A rfl
   (fun h2 A => N hX 15 A rfl rfl fun A => RETN hX A rfl rfl rfl h0 rfl rfl rfl rfl rfl rfl)
   (fun h2 A => N hX 2 A rfl rfl fun A => APPL hX (cs.length) (fun zz => cc (cs.getD zz Cn.z)) A rfl rfl rfl rfl (Nat.le_refl _) (by (try simp only [Bool.or_eq_false_iff, decide_eq_false_iff_not] at h1); (try simp only [List.length_append, List.length_cons, List.length_nil]); omega) (by (try simp only [Bool.or_eq_false_iff, decide_eq_false_iff_not] at h1); (try simp only [List.length_append, List.length_cons, List.length_nil]); omega) (by rw [Nat.zero_add]) (fun k hk => by omega) (fun k hk => by show cc _ = cc _; rw [Nat.zero_add]) (fun z => ⟨_, rfl, rfl⟩) (fun k hk => ⟨_, rfl, okE_nil⟩) fun A => have A := A.freeze 4 rfl; CALL1 [4] (prightF_ cs 0) A rfl rfl rfl rfl rfl rfl rfl fun A => N hX 4 A rfl rfl fun A => fork 34 A rfl
    (fun h3 A => N hX 7 A rfl rfl fun A => RETN hX A rfl rfl rfl h0 rfl rfl rfl rfl rfl rfl)
    (fun h3 A => N hX 4 A rfl rfl fun A => have A : Sy _ [(0, .sl 0 cs.length c), (1, .sl 1 os.length c2), (4, .ff)] [some (.lst 5 cs.length (fun zz => cc (cs.getD zz Cn.z))), some (.lst 27 os.length (fun zz => oc (os.getD zz oz))), some (.fac b o)] _ _ _ _ _ _ := (A.cut [0, 1, 4] rfl).mv 3 [] rfl rfl rfl rfl (by simp only [List.length_cons, List.length_nil] at h0; omega); N hX 3 A rfl rfl fun A => APPL hX (cs.length) (fun zz => cc (cs.getD zz Cn.z)) A rfl rfl rfl rfl (Nat.le_refl _) (by (try simp only [Bool.or_eq_false_iff, decide_eq_false_iff_not] at h1); (try simp only [List.length_append, List.length_cons, List.length_nil]); omega) (by (try simp only [Bool.or_eq_false_iff, decide_eq_false_iff_not] at h1); (try simp only [List.length_append, List.length_cons, List.length_nil]); omega) (by rw [Nat.zero_add]) (fun k hk => by omega) (fun k hk => by show cc _ = cc _; rw [Nat.zero_add]) (fun z => ⟨_, rfl, rfl⟩) (fun k hk => ⟨_, rfl, okE_nil⟩) fun A => N hX 2 A rfl rfl fun A => have A := A.asT Cn.z cc 5 tyC.1 tyC.2.1 tyC.2.2 ([⟨3, 0, 0, 0, 0⟩] : List Cn) 5 rfl; APPL hX ((cs ++ ([⟨3, 0, 0, 0, 0⟩] : List Cn)).length) (fun zz => cc ((cs ++ ([⟨3, 0, 0, 0, 0⟩] : List Cn)).getD zz Cn.z)) A rfl rfl rfl rfl (Nat.le_refl _) (by (try simp only [Bool.or_eq_false_iff, decide_eq_false_iff_not] at h1); (try simp only [List.length_append, List.length_cons, List.length_nil]); omega) (by (try simp only [Bool.or_eq_false_iff, decide_eq_false_iff_not] at h1); (try simp only [List.length_append, List.length_cons, List.length_nil]); omega) List.length_append (fun k hk => by show cc _ = cc _; rw [getD_app_l hk]) (fun k hk => by show cc _ = cc _; rw [getD_app_r]) (fun z => ⟨_, rfl, rfl⟩) (fun k hk => ⟨_, rfl, okE_nil⟩) fun A => N hX 4 A rfl rfl fun A => have A : Sy _ [(0, .sl 0 cs.length c), (1, .sl 1 os.length c2), (4, .ff), (5, .sl 3 ((cs ++ ([⟨3, 0, 0, 0, 0⟩] : List Cn)).length) 0)] [some (.lst 5 cs.length (fun zz => cc (cs.getD zz Cn.z))), some (.lst 27 os.length (fun zz => oc (os.getD zz oz))), some (.fac b o), some (.row 30 5 ((cs ++ ([⟨3, 0, 0, 0, 0⟩] : List Cn)).length) 0 (fun zz => cc ((cs ++ ([⟨3, 0, 0, 0, 0⟩] : List Cn)).getD zz Cn.z)))] _ _ _ _ _ _ := (A.cut [0, 1, 4, 5] rfl).mv 3 [6] rfl rfl rfl rfl (by simp only [List.length_cons, List.length_nil] at h0; omega); N hX 3 A rfl rfl fun A => APPL hX (cs.length) (fun zz => cc (cs.getD zz Cn.z)) A rfl rfl rfl rfl (Nat.le_refl _) (by (try simp only [Bool.or_eq_false_iff, decide_eq_false_iff_not] at h1); (try simp only [List.length_append, List.length_cons, List.length_nil]); omega) (by (try simp only [Bool.or_eq_false_iff, decide_eq_false_iff_not] at h1); (try simp only [List.length_append, List.length_cons, List.length_nil]); omega) (by rw [Nat.zero_add]) (fun k hk => by omega) (fun k hk => by show cc _ = cc _; rw [Nat.zero_add]) (fun z => ⟨_, rfl, rfl⟩) (fun k hk => ⟨_, rfl, okE_nil⟩) fun A => N hX 2 A rfl rfl fun A => APPL hX (os.length) (fun zz => oc (os.getD zz oz)) A rfl rfl rfl rfl (Nat.le_refl _) (by (try simp only [Bool.or_eq_false_iff, decide_eq_false_iff_not] at h1); (try simp only [List.length_append, List.length_cons, List.length_nil]); omega) (by (try simp only [Bool.or_eq_false_iff, decide_eq_false_iff_not] at h1); (try simp only [List.length_append, List.length_cons, List.length_nil]); omega) (by rw [Nat.zero_add]) (fun k hk => by omega) (fun k hk => by show oc _ = oc _; rw [Nat.zero_add]) (fun z => ⟨_, rfl, rfl⟩) (fun k hk => ⟨_, rfl, okE_nil⟩) fun A => have A := A.freeze 5 rfl; have A := A.freeze 7 rfl; CALL1 [5, 7] (judge1_ cs 0 os 0 (right_of h3) (by (try simp only [Bool.or_eq_false_iff, decide_eq_false_iff_not] at h1); (try simp only [List.length_append, List.length_cons, List.length_nil]); omega) (by (try simp only [Bool.or_eq_false_iff, decide_eq_false_iff_not] at h1); (try simp only [List.length_append, List.length_cons, List.length_nil]); omega) ho) A rfl rfl rfl rfl rfl rfl rfl fun A => N hX 9 A rfl rfl fun A => have A : Sy _ [(0, .sl 0 cs.length c), (1, .sl 1 os.length c2), (4, .ff), (5, .sl 3 ((cs ++ ([⟨3, 0, 0, 0, 0⟩] : List Cn)).length) 0), (6, .ptr 4 0)] [some (.lst 5 cs.length (fun zz => cc (cs.getD zz Cn.z))), some (.lst 27 os.length (fun zz => oc (os.getD zz oz))), some (.fac b o), some (.row 30 5 ((cs ++ ([⟨3, 0, 0, 0, 0⟩] : List Cn)).length) 0 (fun zz => cc ((cs ++ ([⟨3, 0, 0, 0, 0⟩] : List Cn)).getD zz Cn.z))), some (.blk (vd (anyO os cs) (anyO os cs) (fA os cs) (nO os)))] _ _ _ _ _ _ := (A.cut [0, 1, 4, 5, 6] rfl).mv 3 [3, 8] rfl rfl rfl rfl (by simp only [List.length_cons, List.length_nil] at h0; omega); N hX 3 A rfl rfl fun A => APPL hX (cs.length) (fun zz => cc (cs.getD zz Cn.z)) A rfl rfl rfl rfl (Nat.le_refl _) (by (try simp only [Bool.or_eq_false_iff, decide_eq_false_iff_not] at h1); (try simp only [List.length_append, List.length_cons, List.length_nil]); omega) (by (try simp only [Bool.or_eq_false_iff, decide_eq_false_iff_not] at h1); (try simp only [List.length_append, List.length_cons, List.length_nil]); omega) (by rw [Nat.zero_add]) (fun k hk => by omega) (fun k hk => by show cc _ = cc _; rw [Nat.zero_add]) (fun z => ⟨_, rfl, rfl⟩) (fun k hk => ⟨_, rfl, okE_nil⟩) fun A => N hX 2 A rfl rfl fun A => APPL hX (os.length) (fun zz => oc (os.getD zz oz)) A rfl rfl rfl rfl (Nat.le_refl _) (by (try simp only [Bool.or_eq_false_iff, decide_eq_false_iff_not] at h1); (try simp only [List.length_append, List.length_cons, List.length_nil]); omega) (by (try simp only [Bool.or_eq_false_iff, decide_eq_false_iff_not] at h1); (try simp only [List.length_append, List.length_cons, List.length_nil]); omega) (by rw [Nat.zero_add]) (fun k hk => by omega) (fun k hk => by show oc _ = oc _; rw [Nat.zero_add]) (fun z => ⟨_, rfl, rfl⟩) (fun k hk => ⟨_, rfl, okE_nil⟩) fun A => have A := A.freeze 6 rfl; have A := A.freeze 8 rfl; CALL1 [6, 8] (judge2_ cs 0 os 0 (right_of h3) (by (try simp only [Bool.or_eq_false_iff, decide_eq_false_iff_not] at h1); (try simp only [List.length_append, List.length_cons, List.length_nil]); omega) (by (try simp only [Bool.or_eq_false_iff, decide_eq_false_iff_not] at h1); (try simp only [List.length_append, List.length_cons, List.length_nil]); omega) ho) A rfl rfl rfl rfl rfl rfl rfl fun A => N hX 9 A rfl rfl fun A => have A : Sy _ [(0, .sl 0 cs.length c), (1, .sl 1 os.length c2), (4, .ff), (5, .sl 3 ((cs ++ ([⟨3, 0, 0, 0, 0⟩] : List Cn)).length) 0), (6, .ptr 4 0), (8, .ptr 5 0)] [some (.lst 5 cs.length (fun zz => cc (cs.getD zz Cn.z))), some (.lst 27 os.length (fun zz => oc (os.getD zz oz))), some (.fac b o), some (.row 30 5 ((cs ++ ([⟨3, 0, 0, 0, 0⟩] : List Cn)).length) 0 (fun zz => cc ((cs ++ ([⟨3, 0, 0, 0, 0⟩] : List Cn)).getD zz Cn.z))), some (.blk (vd (anyO os cs) (anyO os cs) (fA os cs) (nO os))), some (.blk (vd (!(anyO os cs)) (anyO os cs) (fA os cs) (nO os)))] _ _ _ _ _ _ := (A.cut [0, 1, 4, 5, 6, 8] rfl).mv 3 [3, 4, 9] rfl rfl rfl rfl (by simp only [List.length_cons, List.length_nil] at h0; omega); N hX 3 A rfl rfl fun A => APPL hX (cs.length) (fun zz => cc (cs.getD zz Cn.z)) A rfl rfl rfl rfl (Nat.le_refl _) (by (try simp only [Bool.or_eq_false_iff, decide_eq_false_iff_not] at h1); (try simp only [List.length_append, List.length_cons, List.length_nil]); omega) (by (try simp only [Bool.or_eq_false_iff, decide_eq_false_iff_not] at h1); (try simp only [List.length_append, List.length_cons, List.length_nil]); omega) (by rw [Nat.zero_add]) (fun k hk => by omega) (fun k hk => by show cc _ = cc _; rw [Nat.zero_add]) (fun z => ⟨_, rfl, rfl⟩) (fun k hk => ⟨_, rfl, okE_nil⟩) fun A => N hX 2 A rfl rfl fun A => APPL hX (os.length) (fun zz => oc (os.getD zz oz)) A rfl rfl rfl rfl (Nat.le_refl _) (by (try simp only [Bool.or_eq_false_iff, decide_eq_false_iff_not] at h1); (try simp only [List.length_append, List.length_cons, List.length_nil]); omega) (by (try simp only [Bool.or_eq_false_iff, decide_eq_false_iff_not] at h1); (try simp only [List.length_append, List.length_cons, List.length_nil]); omega) (by rw [Nat.zero_add]) (fun k hk => by omega) (fun k hk => by show oc _ = oc _; rw [Nat.zero_add]) (fun z => ⟨_, rfl, rfl⟩) (fun k hk => ⟨_, rfl, okE_nil⟩) fun A => have A := A.freeze 7 rfl; have A := A.freeze 9 rfl; CALL1 [7, 9] (judge3_ cs 0 os 0 (right_of h3) (by (try simp only [Bool.or_eq_false_iff, decide_eq_false_iff_not] at h1); (try simp only [List.length_append, List.length_cons, List.length_nil]); omega) (by (try simp only [Bool.or_eq_false_iff, decide_eq_false_iff_not] at h1); (try simp only [List.length_append, List.length_cons, List.length_nil]); omega) ho) A rfl rfl rfl rfl rfl rfl rfl fun A => N hX 9 A rfl rfl fun A => have A : Sy _ [(0, .sl 0 cs.length c), (1, .sl 1 os.length c2), (4, .ff), (5, .sl 3 ((cs ++ ([⟨3, 0, 0, 0, 0⟩] : List Cn)).length) 0), (6, .ptr 4 0), (8, .ptr 5 0), (10, .ptr 6 0)] [some (.lst 5 cs.length (fun zz => cc (cs.getD zz Cn.z))), some (.lst 27 os.length (fun zz => oc (os.getD zz oz))), some (.fac b o), some (.row 30 5 ((cs ++ ([⟨3, 0, 0, 0, 0⟩] : List Cn)).length) 0 (fun zz => cc ((cs ++ ([⟨3, 0, 0, 0, 0⟩] : List Cn)).getD zz Cn.z))), some (.blk (vd (anyO os cs) (anyO os cs) (fA os cs) (nO os))), some (.blk (vd (!(anyO os cs)) (anyO os cs) (fA os cs) (nO os))), some (.blk (vd (allO os cs) (!(allO os cs)) (fB os cs) (nO os)))] _ _ _ _ _ _ := (A.cut [0, 1, 4, 5, 6, 8, 10] rfl).mv 3 [3, 4, 5, 10] rfl rfl rfl rfl (by simp only [List.length_cons, List.length_nil] at h0; omega); N hX 4 A rfl rfl fun A => APPL hX (os.length) (fun zz => oc (os.getD zz oz)) A rfl rfl rfl rfl (Nat.le_refl _) (by (try simp only [Bool.or_eq_false_iff, decide_eq_false_iff_not] at h1); (try simp only [List.length_append, List.length_cons, List.length_nil]); omega) (by (try simp only [Bool.or_eq_false_iff, decide_eq_false_iff_not] at h1); (try simp only [List.length_append, List.length_cons, List.length_nil]); omega) (by rw [Nat.zero_add]) (fun k hk => by omega) (fun k hk => by show oc _ = oc _; rw [Nat.zero_add]) (fun z => ⟨_, rfl, rfl⟩) (fun k hk => ⟨_, rfl, okE_nil⟩) fun A => have A := A.freeze 3 rfl; have A := A.freeze 8 rfl; CALL1 [3, 8] (judge4_ cs 0 os 0 (right_of h3) (by (try simp only [Bool.or_eq_false_iff, decide_eq_false_iff_not] at h1); (try simp only [List.length_append, List.length_cons, List.length_nil]); omega) (by (try simp only [Bool.or_eq_false_iff, decide_eq_false_iff_not] at h1); (try simp only [List.length_append, List.length_cons, List.length_nil]); omega) ho) A rfl rfl rfl rfl rfl rfl rfl fun A => N hX 10 A rfl rfl fun A => have A : Sy _ [(0, .sl 0 cs.length c), (1, .sl 1 os.length c2), (4, .ff), (6, .ptr 3 0), (8, .ptr 4 0), (10, .ptr 5 0), (12, .ptr 6 0)] [some (.lst 5 cs.length (fun zz => cc (cs.getD zz Cn.z))), some (.lst 27 os.length (fun zz => oc (os.getD zz oz))), some (.fac b o), some (.blk (vd (anyO os cs) (anyO os cs) (fA os cs) (nO os))), some (.blk (vd (!(anyO os cs)) (anyO os cs) (fA os cs) (nO os))), some (.blk (vd (allO os cs) (!(allO os cs)) (fB os cs) (nO os))), some (.blk (vd (allO os cs) (!(allO os cs)) (fB os cs) (nO os)))] _ _ _ _ _ _ := (A.cut [0, 1, 4, 6, 8, 10, 12] rfl).mv 3 [4, 5, 6, 9] rfl rfl rfl rfl (by simp only [List.length_cons, List.length_nil] at h0; omega); N hX 6 A rfl rfl fun A => have A := sy_sayD A 83 (.ff) rfl (fun _ => congrArg (fun b => some (Value.bool b)) (show ((anyO os cs) == (!(anyO os cs))) = false by cases anyO os cs <;> rfl)); N hX 6 A rfl rfl fun A => have A := sy_sayD A 89 (.ff) rfl (fun _ => congrArg (fun b => some (Value.bool b)) (show (!((anyO os cs) == (anyO os cs))) = false by simp)); N hX 7 A rfl rfl fun A => have A := sy_sayD A 96 (.ff) rfl (fun _ => congrArg (fun b => some (Value.bool b)) (show (!(((((fA os cs) 0) == ((fA os cs) 0)) && ((((fA os cs) 1) == ((fA os cs) 1)) && ((((fA os cs) 2) == ((fA os cs) 2)) && ((((fA os cs) 3) == ((fA os cs) 3)) && ((((fA os cs) 4) == ((fA os cs) 4)) && ((((fA os cs) 5) == ((fA os cs) 5)) && ((((fA os cs) 6) == ((fA os cs) 6)) && ((((fA os cs) 7) == ((fA os cs) 7)) && ((((fA os cs) 8) == ((fA os cs) 8)) && ((((fA os cs) 9) == ((fA os cs) 9)) && ((((fA os cs) 10) == ((fA os cs) 10)) && ((((fA os cs) 11) == ((fA os cs) 11)) && ((((fA os cs) 12) == ((fA os cs) 12)) && ((((fA os cs) 13) == ((fA os cs) 13)) && ((((fA os cs) 14) == ((fA os cs) 14)) && ((((fA os cs) 15) == ((fA os cs) 15)) && ((((fA os cs) 16) == ((fA os cs) 16)) && ((((fA os cs) 17) == ((fA os cs) 17)) && ((((fA os cs) 18) == ((fA os cs) 18)) && ((((fA os cs) 19) == ((fA os cs) 19)) && ((((fA os cs) 20) == ((fA os cs) 20)) && ((((fA os cs) 21) == ((fA os cs) 21)) && ((((fA os cs) 22) == ((fA os cs) 22)) && ((((fA os cs) 23) == ((fA os cs) 23)) && ((((fA os cs) 24) == ((fA os cs) 24)) && ((((fA os cs) 25) == ((fA os cs) 25)) && (((fA os cs) 26) == ((fA os cs) 26)))))))))))))))))))))))))))))) = false by simp)); N hX 5 A rfl rfl fun A => have A := sy_sayD A 101 (.ff) rfl (fun _ => congrArg (fun b => some (Value.bool b)) (show (!((((allO os cs) == (allO os cs)) && (((!(allO os cs)) == (!(allO os cs))) && ((((fB os cs) 0) == ((fB os cs) 0)) && ((((fB os cs) 1) == ((fB os cs) 1)) && ((((fB os cs) 2) == ((fB os cs) 2)) && ((((fB os cs) 3) == ((fB os cs) 3)) && ((((fB os cs) 4) == ((fB os cs) 4)) && ((((fB os cs) 5) == ((fB os cs) 5)) && ((((fB os cs) 6) == ((fB os cs) 6)) && ((((fB os cs) 7) == ((fB os cs) 7)) && ((((fB os cs) 8) == ((fB os cs) 8)) && ((((fB os cs) 9) == ((fB os cs) 9)) && ((((fB os cs) 10) == ((fB os cs) 10)) && ((((fB os cs) 11) == ((fB os cs) 11)) && ((((fB os cs) 12) == ((fB os cs) 12)) && ((((fB os cs) 13) == ((fB os cs) 13)) && ((((fB os cs) 14) == ((fB os cs) 14)) && ((((fB os cs) 15) == ((fB os cs) 15)) && ((((fB os cs) 16) == ((fB os cs) 16)) && ((((fB os cs) 17) == ((fB os cs) 17)) && ((((fB os cs) 18) == ((fB os cs) 18)) && ((((fB os cs) 19) == ((fB os cs) 19)) && ((((fB os cs) 20) == ((fB os cs) 20)) && ((((fB os cs) 21) == ((fB os cs) 21)) && ((((fB os cs) 22) == ((fB os cs) 22)) && ((((fB os cs) 23) == ((fB os cs) 23)) && ((((fB os cs) 24) == ((fB os cs) 24)) && ((((fB os cs) 25) == ((fB os cs) 25)) && ((((fB os cs) 26) == ((fB os cs) 26)) && ((nO os) == (nO os))))))))))))))))))))))))))))))))) = false by simp)); N hX 7 A rfl rfl fun A => have A := sy_sayD A 108 (.ff) rfl (fun _ => congrArg (fun b => some (Value.bool b)) (show (!((anyO os cs) == (anyO os cs))) = false by simp)); N hX 7 A rfl rfl fun A => have A : Sy _ [(0, .sl 0 cs.length c), (1, .sl 1 os.length c2), (4, .ff), (6, .ptr 3 0), (10, .ptr 4 0)] [some (.lst 5 cs.length (fun zz => cc (cs.getD zz Cn.z))), some (.lst 27 os.length (fun zz => oc (os.getD zz oz))), some (.fac b o), some (.blk (vd (anyO os cs) (anyO os cs) (fA os cs) (nO os))), some (.blk (vd (allO os cs) (!(allO os cs)) (fB os cs) (nO os)))] _ _ _ _ _ _ := (A.cut [0, 1, 4, 6, 10] rfl).mv 3 [3, 5] rfl rfl rfl rfl (by simp only [List.length_cons, List.length_nil] at h0; omega); N hX 12 A rfl rfl fun A => have A := sy_sayD A 14 (.bool false) rfl (fun _ => rfl); have A := sy_sayD A 15 (.bool true) rfl (fun _ => rfl); LOOP3 (fun (sm : Bool) (al : Bool) (i : Nat) => [(0, .sl 0 cs.length c), (1, .sl 1 os.length c2), (4, .ff), (6, .ptr 3 0), (10, .ptr 4 0), (14, .bool sm), (15, .bool al), (16, .int .i64 (i : Int))]) (fun (sm : Bool) (al : Bool) (i : Nat) => [some (.lst 5 cs.length (fun zz => cc (cs.getD zz Cn.z))), some (.lst 27 os.length (fun zz => oc (os.getD zz oz))), some (.fac b o), some (.blk (vd (anyO os cs) (anyO os cs) (fA os cs) (nO os))), some (.blk (vd (allO os cs) (!(allO os cs)) (fB os cs) (nO os)))]) (fun (sm : Bool) (al : Bool) (i : Nat) => OI os cs sm al i) (fun (sm : Bool) (al : Bool) (i : Nat) => os.length - i) false true 0 OI.i0 ((A.cut [0, 1, 4, 6, 10, 14, 15, 16] rfl).trunc 5 rfl rfl rfl (by simp only [List.length_cons, List.length_nil] at h0; omega)) fun sm al i hI {G a w} A => N hX 9 A rfl rfl fun A => forkD 113 A rfl
      (fun h4 A => N hX 12 A rfl (ok_d (by (try simp only [Bool.or_eq_false_iff, decide_eq_false_iff_not] at h1); (try simp only [List.length_append, List.length_cons, List.length_nil]); omega) <| ok_d (by (try simp only [Bool.or_eq_false_iff, decide_eq_false_iff_not] at h1); (try simp only [List.length_append, List.length_cons, List.length_nil]); omega) <| okE_nil) fun A => CALL1 [0] (pevalF_ (os.getD (((i : Int)).toNat) oz) cs c (by (try simp only [Bool.or_eq_false_iff, decide_eq_false_iff_not] at h1); (try simp only [List.length_append, List.length_cons, List.length_nil]); omega)) A rfl rfl rfl rfl rfl rfl rfl fun A => N hX 12 A rfl rfl fun A => N hX 9 A rfl rfl fun A => N hX 5 A rfl (ok_d (by (try simp only [Bool.or_eq_false_iff, decide_eq_false_iff_not] at h1); (try simp only [List.length_append, List.length_cons, List.length_nil]); omega) <| okE_nil) fun A => ⟨sm || (evalB (os.getD (((i : Int)).toNat) oz) cs), al && (evalB (os.getD (((i : Int)).toNat) oz) cs), i + 1, _, (by omega), (hI.nx h4), ((A.cut [0, 1, 4, 6, 10, 14, 15, 16] rfl).trunc 5 rfl rfl rfl (by simp only [List.length_cons, List.length_nil] at h0; omega))⟩)
      (fun h4 A => N hX 19 A rfl rfl fun A => RETN hX A rfl rfl rfl h0 rfl rfl rfl rfl (by have q := hI.fi h4; rw [q.1, q.2]; simp only [beq_self_eq_true, Bool.and_self]; rfl) rfl))))
end Go.Proofs.YtfdfjakafiglmaaDoor
namespace Go.Proofs.YtfdfjakafiglmaaDoor
open Go.RowKit
set_option linter.unusedVariables false
set_option linter.unusedSimpArgs false
theorem mem_ro {H : Hp} {G : Gr} {w : World} (hl : H.length = G.length) (h : ∀ (i : Nat) (e : Ent), H[i]? = some (some e) → e.mut = false ∧ EntOK G w ((G[i]?).getD none) e) : Mem H G w :=
  ⟨hl, fun i e he => (h i e he).2, fun i j e f L M _ he _ hm => by rw [(h i e he).1] at hm; cases hm⟩
theorem lst_of {α : Type} {enc : α → List Value} {f : Nat → List SV} {s B n cap : Nat} {w : World} {l : List α} {bo : Option (Nat × Nat)} (h : Sl enc s B w (.slice (bo.map fun x => ⟨x.1, x.2, none⟩) n cap) l) (hB : B ≤ w.heap.size)
    (hf : ∀ k x, l[k]? = some x → denL [] (f k) = some (enc x)) (htot : ∀ k, ∃ vs, denL [] (f k) = some vs) :
    n = l.length ∧ ∀ (G F : Gr), den (G ++ (bo.map fun x => (⟨x.1, List.replicate x.2 undef, [], 0⟩ : Loc)) :: F) (.sl G.length l.length cap) = some (.slice (bo.map fun x => ⟨x.1, x.2, none⟩) n cap) ∧ EntOK (G ++ (bo.map fun x => (⟨x.1, List.replicate x.2 undef, [], 0⟩ : Loc)) :: F) w (bo.map fun x => (⟨x.1, List.replicate x.2 undef, [], 0⟩ : Loc)) (.lst s l.length f) := by
  obtain ⟨ao, cap', hv, hlc, he⟩ := h
  simp only [Value.slice.injEq] at hv
  obtain ⟨rfl, rfl, rfl⟩ := hv
  refine ⟨rfl, fun G F => ⟨?_, htot, ?_⟩⟩
  · unfold den
    rw [List.getElem?_append_right (Nat.le_refl _)]
    cases bo <;> simp [rm]
  · cases bo with
    | none =>
      left
      cases l with
      | nil => rfl
      | cons x l => obtain ⟨b, o, h1, _⟩ := he 0 x rfl; cases h1
    | some x =>
      obtain ⟨b, o⟩ := x
      cases hl : l with
      | nil => left; rfl
      | cons y l' =>
        right
        have hb : b < B := by
          obtain ⟨b', o', h1, h2, _⟩ := he 0 y (by rw [hl]; rfl)
          cases h1; exact h2
        refine ⟨_, rfl, (by show b < _; omega), fun k hk => ?_⟩
        have hk' : k < l.length := by rw [hl]; exact hk
        obtain ⟨b', o', h1, h2, h3⟩ := he k l[k] (by simp [hk'])
        cases h1
        exact ⟨_, hf k l[k] (by simp [hk']), by simpa using h3⟩
theorem post_ro {x : SV} {H H2 : Hp} {G : Gr} {w w' : World} {e : Ending} (h : Post (Rt x H2) H G w e w') (hro : ∀ (i : Nat) (e : Ent), H[i]? = some (some e) → e.mut = false) : ∃ v F, den (G ++ F) x = some v ∧ e = .returned v ∧ Mem H2 (G ++ F) w' ∧ Grow w w' := by
  obtain ⟨y, H', F, v, ⟨rfl, rfl⟩, h1, h2, h3, hmix, _⟩ := h
  have hk : ∀ k, (keys H G).contains k = false := fun k => by
    cases hc : (keys H G).contains k with
    | false => rfl
    | true =>
      obtain ⟨i, e', L, q1, q2, _⟩ := mem_keys.1 hc
      rw [hro i e' q1] at q2; cases q2
  exact ⟨v, F, h1, h2, h3, ⟨hmix.os, hmix.tape, hmix.output, hmix.size, fun k hk' => hmix.block k hk' (hk k)⟩⟩
end Go.Proofs.YtfdfjakafiglmaaDoor
namespace Go.Proofs.YtfdfjakafiglmaaDoor
set_option linter.unusedSimpArgs false
set_option linter.unusedVariables false
set_option maxRecDepth 100000
open Go.ChangeShapes Go.WideShapes Go.ChangeAt Go.RowKit Go.Deep
section
variable {H : Type} {enc : TypeId × Value → H} {W : World} {base : Nat} {spare : Nat → Bool} {held : Bool} {base' : Nat}
theorem open_list {α : Type} [Inhabited α] {en : α → List Value} {Q : α → Prop} {t e s : Nat} {v : Value} {d : DataW H} {ps : List MemPlace} (ht : Tryd.prog.underlying t = some (.slice e)) (hc : Tryd.prog.cellsOf e = s) (h0 : 0 < s)
    (hel : ∀ cs n x, DataW.trod enc Tryd.prog W base' spare held n e cs = some x → cs.length = s → ∃ y : α, cs = en y ∧ Q y)
    (hv : Value.okWide Tryd.prog W .any base t v) (h : DataW.Trod enc Tryd.prog W base' spare held t v d ps) :
    ∃ (ao : Option Addr) (l : List α) (cap : Nat), v = .slice ao l.length cap ∧ l.length ≤ maxLen ∧ Sl en s W.heap.size W v l ∧ ∀ y ∈ l, Q y := by
  obtain ⟨a0, len0, cap0, rfl⟩ := okWide_slice ht hv
  obtain ⟨fuel, hf⟩ := h
  rcases open_slice ht hf with ⟨hcs, _⟩ | ⟨a, len, cap, m, n, D, Pl, hcs, hb, hl, hm, hmm, _, hx⟩
  · simp [Value.cells] at hcs
    obtain ⟨rfl, rfl, rfl⟩ := hcs
    exact ⟨none, [], 0, rfl, by simp, Sl.nil, fun y hy => by cases hy⟩
  · simp [Value.cells] at hcs
    obtain ⟨rfl, rfl, rfl⟩ := hcs
    have hlm : len0 ≤ m := by rw [hmm]; split <;> omega
    rw [hc] at hx
    obtain ⟨Y, hY⟩ := choose_lt (α := α) (n := len0) (p := fun i y => Q y ∧ (en y).length = s ∧ ∀ k, k < s → W.cell? ((a.add (i * s)).add k) = (en y)[k]?) (fun i hi => by
      obtain ⟨cs', h1, h2⟩ := hx i (by omega)
      obtain ⟨_, hlen, hcell⟩ := World.cells?_some h1
      obtain ⟨y, rfl, hq⟩ := hel cs' n _ h2 hlen
      exact ⟨y, hq, hlen, hcell⟩)
    have hlen : ((List.range len0).map Y).length = len0 := by simp
    refine ⟨some a, (List.range len0).map Y, cap0, by rw [hlen], by rw [hlen]; omega, ⟨some a, cap0, by rw [hlen], by rw [hlen]; exact hl, fun j x hj => ?_⟩, fun y hy => ?_⟩
    · have hjl : j < len0 := by have := (List.getElem?_eq_some_iff.1 hj).1; simpa using this
      have hxe : x = Y j := by simp [hjl] at hj; exact hj.symm
      subst hxe
      obtain ⟨_, hyl, hcell⟩ := hY j hjl
      obtain ⟨b, o, spot⟩ := a
      obtain ⟨_, hy0, hcell0⟩ := hY 0 (by omega)
      have h00 := hcell0 0 h0
      rw [List.getElem?_eq_getElem (by omega)] at h00
      have hspot : spot = none := by simpa [Addr.add] using World.cell?_spot h00
      subst hspot
      refine ⟨b, o, rfl, ?_, fun k u hu => ?_⟩
      · have := World.block_lt_of_cell? W _ h00
        rw [Addr.add_mid, Addr.add_mid] at this
        exact this
      · have hk : k < s := by have := (List.getElem?_eq_some_iff.1 hu).1; omega
        have := hcell k hk
        rw [hu, Addr.add_mid, Addr.add_mid] at this
        exact this
    · obtain ⟨i, hi, rfl⟩ := List.mem_map.1 hy
      exact (hY i (by simpa using hi)).1
theorem slice_bo {t e n cap : Nat} {ao : Option Addr} (ht : Tryd.prog.underlying t = some (.slice e)) (hv : Value.okWide Tryd.prog W .any base t (.slice ao n cap)) : ∃ bo : Option (Nat × Nat), ao = bo.map fun x => ⟨x.1, x.2, none⟩ := by
  cases ao with
  | none => exact ⟨none, rfl⟩
  | some a =>
    unfold Value.okWide at hv
    rw [ht] at hv
    simp only [Cell.okWide, ht, Cell.ok] at hv
    obtain ⟨b, o, s⟩ := a
    have : s = none := hv.2.2.2.1
    subst this
    exact ⟨some (b, o), rfl⟩
def AI (enc : TypeId × Value → H) (W : World) (base' : Nat) (spare : Nat → Bool) (held : Bool) (t s : Nat) : Prop := Tryd.prog.cellsOf t = s ∧ ∀ (cs : List Value) (n : Nat) (x : DataW H × List MemPlace), DataW.trod enc Tryd.prog W base' spare held n t cs = some x → ∀ k, k < s → ∃ m : Int, cs[k]? = some (.int .i64 m) ∧ -9223372036854775808 ≤ m ∧ m ≤ 9223372036854775807
theorem wf_rng {n : Int} (h : (Lit.int .i64 n).wf = true) : -9223372036854775808 ≤ n ∧ n ≤ 9223372036854775807 := by
  have h' : (decide ((IntKind.i64).min ≤ n) && decide (n ≤ (IntKind.i64).max)) = true := h
  rw [Bool.and_eq_true, decide_eq_true_eq, decide_eq_true_eq, show (IntKind.i64).min = -9223372036854775808 from rfl, show (IntKind.i64).max = 9223372036854775807 from rfl] at h'
  exact h'
theorem AI.int : AI enc W base' spare held 3 1 := ⟨by kernel_rfl, fun cs n x h k hk => by
  obtain ⟨m, h2, _, h3⟩ := DataW.trod_int Tryd.underlying3 h
  obtain rfl : k = 0 := by omega
  exact ⟨m, by rw [h2]; rfl, wf_rng h3⟩⟩
theorem sub_at {cs : List Value} {o s j : Nat} (hj : j < s) : ((cs.drop o).take s)[j]? = cs[o + j]? := by
  rw [List.getElem?_take_of_lt hj, List.getElem?_drop]
theorem AI.arr {t n e s : Nat} (ht : Tryd.prog.underlying t = some (.array n e)) (hc : Tryd.prog.cellsOf t = n * s) (h0 : 0 < s) (he : AI enc W base' spare held e s) : AI enc W base' spare held t (n * s) := ⟨hc, fun cs f x h k hk => by
  obtain ⟨xs, m, _, _, _, hxl, hx⟩ := DataW.trod_array ht h
  have hi : k / s < n := (Nat.div_lt_iff_lt_mul h0).2 hk
  have h1 := hx (k / s) hi
  rw [he.1, List.getElem?_eq_getElem (by omega)] at h1
  obtain ⟨z, h2, h3⟩ := he.2 _ _ _ h1 (k % s) (Nat.mod_lt _ h0)
  rw [sub_at (Nat.mod_lt _ h0)] at h2
  have e : k / s * s + k % s = k := by rw [Nat.mul_comm]; exact Nat.div_add_mod k s
  rw [e] at h2
  exact ⟨z, h2, h3⟩⟩
def fldAt (P : Program) (t i : Nat) : Option (Nat × Nat) := match P.underlying t with | some (.struct fs) => (fs[i]?).map fun f => (f.offset, f.type) | _ => none
theorem AI.str {t s : Nat} {fs : Array Field} (hu : Tryd.prog.underlying t = some (.struct fs)) (hc : Tryd.prog.cellsOf t = s) (hf : ∀ k, k < s → ∃ i o u z, fldAt Tryd.prog t i = some (o, u) ∧ AI enc W base' spare held u z ∧ o ≤ k ∧ k < o + z) : AI enc W base' spare held t s := ⟨hc, fun cs n x h k hk => by
  obtain ⟨i, o, u, z, h1, h2, h3, h4⟩ := hf k hk
  obtain ⟨xs, m, _, _, _, hxl, hx⟩ := DataW.trod_struct hu h
  unfold fldAt at h1
  rw [hu] at h1
  obtain ⟨f, hf1, hf2⟩ := Option.map_eq_some_iff.1 h1
  cases hf2
  have h5 := hx i f hf1
  have hil := (Array.getElem?_eq_some_iff.1 hf1).1
  rw [h2.1, List.getElem?_eq_getElem (by omega)] at h5
  obtain ⟨q, h6, h7⟩ := h2.2 _ _ _ h5 (k - f.offset) (by omega)
  rw [sub_at (by omega), show f.offset + (k - f.offset) = k by omega] at h6
  exact ⟨q, h6, h7⟩⟩
def isStr (P : Program) (t : Nat) : Bool := match P.underlying t with | some (.struct _) => true | _ => false
theorem str_of {t : Nat} (h : isStr Tryd.prog t = true) : ∃ fs, Tryd.prog.underlying t = some (.struct fs) := by
  unfold isStr at h
  split at h
  · next fs he => exact ⟨fs, he⟩
  · cases h
theorem AI.cond : AI enc W base' spare held 30 5 := by
  obtain ⟨fs, hu⟩ := str_of (t := 30) (by kernel_rfl)
  refine AI.str hu (by kernel_rfl) fun k hk => ?_
  have : k = 0 ∨ k = 1 ∨ k = 2 ∨ k = 3 ∨ k = 4 := by omega
  rcases this with rfl | rfl | rfl | rfl | rfl
  · exact ⟨0, 0, 3, 1, by kernel_rfl, AI.int, by omega, by omega⟩
  · exact ⟨1, 1, 3, 1, by kernel_rfl, AI.int, by omega, by omega⟩
  · exact ⟨2, 2, 3, 1, by kernel_rfl, AI.int, by omega, by omega⟩
  · exact ⟨3, 3, 3, 1, by kernel_rfl, AI.int, by omega, by omega⟩
  · exact ⟨4, 4, 3, 1, by kernel_rfl, AI.int, by omega, by omega⟩
theorem AI.out : AI enc W base' spare held 26 27 := by
  obtain ⟨fs, hu⟩ := str_of (t := 26) (by kernel_rfl)
  refine AI.str hu (by kernel_rfl) fun k hk => ?_
  by_cases h : k < 24
  · exact ⟨0, 0, 23, 3 * 8, by kernel_rfl, AI.arr (n := 3) (e := 22) (s := 8) (by kernel_rfl) (by kernel_rfl) (by omega) (AI.arr (n := 8) (e := 3) (s := 1) (by kernel_rfl) (by kernel_rfl) (by omega) AI.int), by omega, by omega⟩
  · exact ⟨1, 24, 24, 3 * 1, by kernel_rfl, AI.arr (n := 3) (e := 3) (s := 1) (by kernel_rfl) (by kernel_rfl) (by omega) AI.int, by omega, by omega⟩
def ccV (c : Cn) : List Value := [.int .i64 c.kd, .int .i64 c.th, .int .i64 c.rg, .int .i64 c.lc, .int .i64 c.vl]
def ocV (p : O) : List Value := (List.range 27).map fun k => .int .i64 (p k)
def wfC (c : Cn) : Prop := -9223372036854775808 ≤ c.vl ∧ c.vl ≤ 9223372036854775807
instance : Inhabited Cn := ⟨Cn.z⟩
theorem open_cnL (cs : List Value) (n : Nat) (x : DataW H × List MemPlace) (h : DataW.trod enc Tryd.prog W base' spare held n 30 cs = some x) (hl : cs.length = 5) : ∃ y : Cn, cs = ccV y ∧ wfC y := by
  have A := AI.cond.2 cs n x h
  obtain ⟨a, ha, _⟩ := A 0 (by omega)
  obtain ⟨b, hb, _⟩ := A 1 (by omega)
  obtain ⟨c, hc, _⟩ := A 2 (by omega)
  obtain ⟨d, hd, _⟩ := A 3 (by omega)
  obtain ⟨e, he, h5⟩ := A 4 (by omega)
  refine ⟨⟨a, b, c, d, e⟩, ?_, h5⟩
  match cs, hl, ha, hb, hc, hd, he with
  | [u0, u1, u2, u3, u4], _, ha, hb, hc, hd, he => simp at ha hb hc hd he; subst ha hb hc hd he; rfl
theorem out_of {cs : List Value} (hl : cs.length = 27) (A : ∀ k, k < 27 → ∃ m : Int, cs[k]? = some (.int .i64 m) ∧ -9223372036854775808 ≤ m ∧ m ≤ 9223372036854775807) : ∃ y : O, cs = ocV y ∧ Can y := by
  obtain ⟨f, hf⟩ := choose_lt (α := Int) (n := 27) (p := fun k m => cs[k]? = some (.int .i64 m)) fun k hk => by obtain ⟨m, h, _⟩ := A k hk; exact ⟨m, h⟩
  refine ⟨fun k => if k < 27 then f k else 0, ?_, fun k hk => if_neg (by omega)⟩
  apply List.ext_getElem?
  intro k
  by_cases hk : k < 27
  · rw [hf k hk, ocV, List.getElem?_map, List.getElem?_range hk]; simp [hk]
  · rw [List.getElem?_eq_none (by omega), List.getElem?_eq_none (by simp [ocV]; omega)]
theorem open_ocL (cs : List Value) (n : Nat) (x : DataW H × List MemPlace) (h : DataW.trod enc Tryd.prog W base' spare held n 26 cs = some x) (hl : cs.length = 27) : ∃ y : O, cs = ocV y ∧ Can y := out_of hl (AI.out.2 cs n x h)
theorem open_conds {v : Value} {d : DataW H} {ps : List MemPlace} (hv : Value.okWide Tryd.prog W .any base 27 v) (h : DataW.Trod enc Tryd.prog W base' spare held 27 v d ps) :
    ∃ (bo : Option (Nat × Nat)) (l : List Cn) (cap : Nat), v = .slice (bo.map fun x => ⟨x.1, x.2, none⟩) l.length cap ∧ Sl ccV 5 W.heap.size W v l ∧ ∀ y ∈ l, wfC y := by
  obtain ⟨ao, l, cap, rfl, _, hs, hq⟩ := open_list (t := 27) (e := 30) (s := 5) (by kernel_rfl) (by kernel_rfl) (by omega) open_cnL hv h
  obtain ⟨bo, rfl⟩ := slice_bo (t := 27) (e := 30) (by kernel_rfl) hv
  exact ⟨bo, l, cap, rfl, hs, hq⟩
theorem open_outs {v : Value} {d : DataW H} {ps : List MemPlace} (hv : Value.okWide Tryd.prog W .any base 36 v) (h : DataW.Trod enc Tryd.prog W base' spare held 36 v d ps) :
    ∃ (bo : Option (Nat × Nat)) (l : List O) (cap : Nat), v = .slice (bo.map fun x => ⟨x.1, x.2, none⟩) l.length cap ∧ Sl ocV 27 W.heap.size W v l ∧ ∀ y ∈ l, Can y := by
  obtain ⟨ao, l, cap, rfl, _, hs, hq⟩ := open_list (t := 36) (e := 26) (s := 27) (by kernel_rfl) (by kernel_rfl) (by omega) open_ocL hv h
  obtain ⟨bo, rfl⟩ := slice_bo (t := 36) (e := 26) (by kernel_rfl) hv
  exact ⟨bo, l, cap, rfl, hs, hq⟩
end
theorem tab_fac {W : World} (h : Lib.TabIs Tryd.prog W "internal/strconv.uint64pow10" .u64 Lib.pow10Tab) : ∃ o, W.heap[0]? = some o ∧ ∀ w : World, w.heap[0]? = some o → Lib.TabIs Tryd.prog w "internal/strconv.uint64pow10" .u64 Lib.pow10Tab := by
  have hg : Tryd.prog.globalNamed "internal/strconv.uint64pow10" = some 0 := by kernel_rfl
  cases ho : W.heap[0]? with
  | none => unfold Lib.TabIs World.var? at h; rw [hg] at h; simp [ho] at h
  | some o =>
    refine ⟨o, rfl, fun w hw => ?_⟩
    unfold Lib.TabIs World.var? at h ⊢
    rw [hg] at h ⊢
    simp only [Option.bind_some, ho, hw] at h ⊢
    exact h
theorem lstC_of {bo : Option (Nat × Nat)} {n cap : Nat} {w : World} {l : List Cn} (h : Sl ccV 5 w.heap.size w (.slice (bo.map fun x => ⟨x.1, x.2, none⟩) n cap) l) : n = l.length ∧ ∀ (G F : Gr), den (G ++ (bo.map fun x => (⟨x.1, List.replicate x.2 undef, [], 0⟩ : Loc)) :: F) (.sl G.length l.length cap) = some (.slice (bo.map fun x => ⟨x.1, x.2, none⟩) n cap) ∧ EntOK (G ++ (bo.map fun x => (⟨x.1, List.replicate x.2 undef, [], 0⟩ : Loc)) :: F) w (bo.map fun x => (⟨x.1, List.replicate x.2 undef, [], 0⟩ : Loc)) (.lst 5 l.length (fun zz => cc (l.getD zz Cn.z))) := lst_of (f := fun zz => cc (l.getD zz Cn.z)) h (Nat.le_refl _) (fun k x hx => by show denL [] (cc (l.getD k Cn.z)) = _; rw [List.getD_eq_getElem?_getD, hx]; rfl) (fun k => ⟨_, rfl⟩)
theorem lstO_of {bo : Option (Nat × Nat)} {n cap : Nat} {w : World} {l : List O} (h : Sl ocV 27 w.heap.size w (.slice (bo.map fun x => ⟨x.1, x.2, none⟩) n cap) l) : n = l.length ∧ ∀ (G F : Gr), den (G ++ (bo.map fun x => (⟨x.1, List.replicate x.2 undef, [], 0⟩ : Loc)) :: F) (.sl G.length l.length cap) = some (.slice (bo.map fun x => ⟨x.1, x.2, none⟩) n cap) ∧ EntOK (G ++ (bo.map fun x => (⟨x.1, List.replicate x.2 undef, [], 0⟩ : Loc)) :: F) w (bo.map fun x => (⟨x.1, List.replicate x.2 undef, [], 0⟩ : Loc)) (.lst 27 l.length (fun zz => oc (l.getD zz oz))) := lst_of (f := fun zz => oc (l.getD zz oz)) h (Nat.le_refl _) (fun k x hx => by show denL [] (oc (l.getD k oz)) = _; rw [List.getD_eq_getElem?_getD, hx]; rfl) (fun k => ⟨_, rfl⟩)
end Go.Proofs.YtfdfjakafiglmaaDoor
