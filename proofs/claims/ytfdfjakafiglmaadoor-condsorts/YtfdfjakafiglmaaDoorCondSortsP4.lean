/- CondSorts, part 4: the engine, contracts, theory. -/
import Derived.Test.YtfdfjakafiglmaaDoorCondSortsP3
import Derived.Test.YtfdfjakafiglmaaDoorChecked
import Derived.Lib.ConvBytes
import Derived.WideLaws
import Derived.Laws.AppendOwn
import Derived.Laws.OwnMore
import Derived.WalkSmall
import Derived.ProofKit
import Derived.OpenShut
import Derived.ChangeOld
import Derived.Deep.Slices
import Derived.Lib.LaidTab
namespace Go.Proofs.YtfdfjakafiglmaaDoor
set_option linter.unusedVariables false

end Go.Proofs.YtfdfjakafiglmaaDoor
namespace Go.Proofs.YtfdfjakafiglmaaDoor
set_option linter.unusedVariables false
set_option linter.unusedSimpArgs false
open Go.RowKit
section
variable {P : Program} {ops : Array Oper} {a : Act} {w : World} {K : Value → World → Prop} {d : Option Tmp} {ty : TypeId} {pos : String} {af : Array Edge} {gd : Option (Nat × Bool)} {v : Value}
end
section
variable {P : Program} {w : World} {t : TypeId} {x y : Operand} {k : IntKind} {a b : Int}
end
end Go.Proofs.YtfdfjakafiglmaaDoor
namespace Go.Proofs.YtfdfjakafiglmaaDoor
open Go.RowKit
set_option linter.unusedVariables false
set_option linter.unusedSimpArgs false
set_option linter.unusedSectionVars false
section
variable {P : Program} {n : Nat} {ks : List Nat} {G0 : Gr} {w0 : World} {T : List (Nat × SV)} {H : Hp} {G : Gr} {w : World} {ops : Array Oper} {o : Oper}
end
section
variable {P : Program} {n : Nat} {ks : List Nat} {G0 : Gr} {w0 : World} {T : List (Nat × SV)} {H : Hp} {G : Gr} {a : Act} {w : World} {Q : Exit → Act → World → Prop} {K : List Fr} {ops : Array Oper} {o : Oper} {rest : List Oper} {I : Amb}
end
theorem flat_rep (n : Nat) : flatV (fun _ => [.str []]) n = some (List.replicate n (.string (S []))) := by
  induction n with
  | zero => rfl
  | succ n ih =>
    unfold flatV
    rw [ih]
    show some (List.replicate n (Value.string (S [])) ++ [Value.string (S [])]) = _
    rw [List.replicate_succ', ]
section
variable {P : Program} {n : Nat} {ks : List Nat} {G0 : Gr} {w0 : World} {T : List (Nat × SV)} {H : Hp} {ops : Array Oper} {o : Oper}
theorem mkE {x y : Operand} {t e m i : Nat} {ti : TypeInfo} (hg : guardS ops T o.guard = some .run) (hop : o.op = .makeSlice t x y) (hx : evS T x = some (.int .i64 ((m : Nat) : Int))) (hy : evS T y = some (.int .i64 ((m : Nat) : Int))) (ht : P.underlying t = some (.slice e)) (hti : P.info? e = some ti) (hz : ti.zero = some (.string (S []))) (hs : ti.size = 1) (hb : ti.bytes ≤ 1000) (hm : m ≤ 1000000) (hi : H.length = i) : EffOK P n ops ks G0 w0 T H o (.sl i m m) (H ++ [some (.row e 1 m m fun _ => [.str []])]) := fun G a w A => by
  have hw := gd_run (gd := none) A hg
  obtain ⟨d, op, ty, ps, af, gd⟩ := o
  simp only at hop
  subst hop
  subst hi
  have h1 := A.ev hx
  have h2 := A.ev hy
  simp only [den, Option.some.injEq] at h1 h2
  have hmul : ti.bytes * m ≤ 1000 * 1000000 := Nat.mul_le_mul hb hm
  obtain ⟨w', hr, ho, hgb⟩ := run_makeSlice_full (P := P) w 0 t e ti _ 1 ht hti hz hs .i64 .i64 m (by omega) (by omega) (by unfold maxLen; omega) (Nat.zero_le _)
  have hgr : Grow w w' := ⟨hgb.os, hgb.tape, hgb.output, hgb.size, fun k hk => hgb.block k hk (by simp)⟩
  refine does_val (v := .slice (some ⟨w.heap.size, 0, none⟩) m m) (w' := w') hw ?_ ⟨[some ⟨w.heap.size, [], [], e⟩], ?_, ?_⟩
  · unfold execOp
    simp only [h1.symm, h2.symm, Sem.run_bind, hr, Sem.run_pure, Result.andThen_ok]
  · unfold den
    rw [List.getElem?_append_right (by rw [A.mem.len]; exact Nat.le_refl _), A.mem.len]
    simp [rm]
  · refine (A.newBlk (g := w.heap.size) (t := e) (en := .row e 1 m m fun _ => [.str []]) rfl hgr ⟨fun k => ⟨_, rfl, rfl⟩, fun L hL => by cases hL; rfl, _, flat_rep m, ?_⟩ rfl).ms
    have hc : (madeCells (Value.cells (.string (S []))) (m * 1)).toList = List.replicate m (.string (S [])) := by
      unfold madeCells
      apply List.ext_getElem
      · simp
      · intro k h1 h2
        simp [Value.cells, Nat.mod_one]
    rw [hc] at ho
    simpa [rm] using ho
theorem mkE' {x y : Operand} {t e m i : Nat} (f : Nat → List SV) (hf : ∀ j, f j = [.str []]) (hg : guardS ops T o.guard = some .run) (hop : o.op = .makeSlice t x y) (hx : evS T x = some (.int .i64 ((m : Nat) : Int))) (hy : evS T y = some (.int .i64 ((m : Nat) : Int))) (ht : P.underlying t = some (.slice e)) (hst : ∃ ti, P.info? e = some ti ∧ ti.zero = some (.string (S [])) ∧ ti.size = 1 ∧ ti.bytes ≤ 1000) (hm : m ≤ 1000000) (hi : H.length = i) : EffOK P n ops ks G0 w0 T H o (.sl i m m) (H ++ [some (.row e 1 m m f)]) := by
  have : f = fun _ => [.str []] := funext hf
  subst this
  obtain ⟨ti, hti, hz, hs, hb⟩ := hst
  exact mkE hg hop hx hy ht hti hz hs hb hm hi
end
end Go.Proofs.YtfdfjakafiglmaaDoor
namespace Go.Proofs.YtfdfjakafiglmaaDoor
open Go.RowKit
set_option linter.unusedVariables false
set_option linter.unusedSimpArgs false
set_option maxRecDepth 100000
set_option maxHeartbeats 2000000
set_option simprocs false
def regnm0 (s0 : List UInt8) (s1 : List UInt8) (s2 : List UInt8) (s3 : List UInt8) (s4 : List UInt8) (s5 : List UInt8) (s6 : List UInt8) (s7 : List UInt8) (r : Int) : List UInt8 := if ((decide (r < 0)) || (decide (r ≥ 8))) = true then [] else [s0, s1, s2, s3, s4, s5, s6, s7].getD (r).toNat []
theorem regnm_ (s0 : List UInt8) (s1 : List UInt8) (s2 : List UInt8) (s3 : List UInt8) (s4 : List UInt8) (s5 : List UInt8) (s6 : List UInt8) (s7 : List UInt8) (r : Int)  : Fn Tryd.prog 60 [.agg [.str s0, .str s1, .str s2, .str s3, .str s4, .str s5, .str s6, .str s7], .int .i64 r] [] (Rt (.str (regnm0 s0 s1 s2 s3 s4 s5 s6 s7 r)) []) :=
 enterM (n := 14) (by kernel_rfl) Tryd.func60 rfl rfl rfl fun G w a h0 A => N hX 17 A rfl rfl fun A => fork 10 A rfl
  (fun h1 A => N hX 7 A rfl rfl fun A => RETN hX A rfl rfl rfl h0 rfl rfl rfl rfl (by simp only [oneS, nb, nbL, nbH, regnm0, if_pos h1]) rfl)
  (fun h1 A => N hX 12 A rfl (ok_d (by have hz := h1; simp only [Bool.or_eq_false_iff, decide_eq_false_iff_not] at hz; omega) <| ok_d (by have hz := h1; simp only [Bool.or_eq_false_iff, decide_eq_false_iff_not] at hz; omega) <| okE_nil) fun A => RETN hX A rfl rfl rfl h0 rfl rfl rfl rfl (by simp only [oneS, nb, nbL, nbH, regnm0, if_neg (ne_true_of_eq_false h1)]) rfl)
theorem xregs_   : Fn Tryd.prog 59 [] [] (Rt (.agg [.str [82, 65, 88], .str [82, 66, 88], .str [82, 67, 88], .str [82, 68, 88], .str [82, 83, 73], .str [82, 68, 73], .str [82, 56], .str [82, 57]]) []) :=
 enterM (n := 2) (by kernel_rfl) Tryd.func59 rfl rfl rfl fun G w a h0 A => N hX 12 A rfl rfl fun A => RETN hX A rfl rfl rfl h0 rfl rfl rfl rfl rfl rfl
theorem xnam_ (r : Int)  : Fn Tryd.prog 42 [.int .i64 r] [] (Rt (.str (regnm0 [82, 65, 88] [82, 66, 88] [82, 67, 88] [82, 68, 88] [82, 83, 73] [82, 68, 73] [82, 56] [82, 57] r)) []) :=
 enterM (n := 6) (by kernel_rfl) Tryd.func42 rfl rfl rfl fun G w a h0 A => N hX 7 A rfl rfl fun A => CALL1 [] (xregs_ ) A rfl rfl rfl rfl rfl rfl rfl fun A => N hX 1 A rfl rfl fun A => CALL1 [] (regnm_ [82, 65, 88] [82, 66, 88] [82, 67, 88] [82, 68, 88] [82, 83, 73] [82, 68, 73] [82, 56] [82, 57] r) A rfl rfl rfl rfl rfl rfl rfl fun A => N hX 4 A rfl rfl fun A => RETN hX A rfl rfl rfl h0 rfl rfl rfl rfl rfl rfl
def nfX (r : Int) : List UInt8 := regnm0 [82, 65, 88] [82, 66, 88] [82, 67, 88] [82, 68, 88] [82, 83, 73] [82, 68, 73] [82, 56] [82, 57] r
theorem xname_ (r : Int) : Fn Tryd.prog 42 [.int .i64 r] [] (Rt (.str (nfX r)) []) := xnam_ r
theorem nfX_len (x : Int) : (nfX x).length ≤ 20 := by
  unfold nfX regnm0; split
  · decide
  · next h =>
    have : x = 0 ∨ x = 1 ∨ x = 2 ∨ x = 3 ∨ x = 4 ∨ x = 5 ∨ x = 6 ∨ x = 7 := by revert h; simp only [Bool.or_eq_true, decide_eq_true_eq]; omega
    rcases this with e | e | e | e | e | e | e | e <;> subst e <;> decide
def rgA (nf : Int → List UInt8) (k j : Nat) : List UInt8 := if j < k then nf j else []
theorem rgA_ne {nf : Int → List UInt8} {k j : Nat} (h : j ≠ k) : rgA nf (k + 1) j = rgA nf k j := by
  unfold rgA
  by_cases hj : j < k
  · rw [if_pos hj, if_pos (by omega)]
  · rw [if_neg hj, if_neg (by omega)]
theorem rgA_at {nf : Int → List UInt8} {k : Nat} : rgA nf (k + 1) k = nf k := by unfold rgA; rw [if_pos (by omega)]
def rgL (nf : Int → List UInt8) : List (List UInt8) := [nf 0, nf 1, nf 2, nf 3, nf 4, nf 5, nf 6, nf 7]
theorem rgA_8 {nf : Int → List UInt8} (j : Nat) (h : j < 8) : (rgL nf).getD j [] = rgA nf 8 j := by
  have : j = 0 ∨ j = 1 ∨ j = 2 ∨ j = 3 ∨ j = 4 ∨ j = 5 ∨ j = 6 ∨ j = 7 := by omega
  rcases this with e | e | e | e | e | e | e | e <;> subst e <;> rfl
theorem strInfo : ∃ ti, Tryd.prog.info? 9 = some ti ∧ ti.zero = some (.string (S [])) ∧ ti.size = 1 ∧ ti.bytes ≤ 1000 := by
  have h : (Tryd.prog.info? 9).map (fun ti => (ti.zero, ti.size, ti.bytes)) = some (some (.string (S [])), 1, 16) := by kernel_rfl
  cases e : Tryd.prog.info? 9 with
  | none => rw [e] at h; cases h
  | some ti =>
    rw [e] at h
    simp only [Option.map_some, Option.some.injEq, Prod.mk.injEq] at h
    exact ⟨ti, rfl, h.1, h.2.1, by omega⟩
theorem regnX_   : Fn Tryd.prog 41 [.fn 42 []] [] (Rt (.sl 0 8 8) [some (.row 9 1 8 8 (fun zz => [.str ((rgL nfX).getD zz [])]))]) :=
 enterM (n := 19) (by kernel_rfl) Tryd.func41 rfl rfl rfl fun G w a h0 A => N hX 7 A rfl rfl fun A => q_eff A rfl (mkE' (m := 8) (fun j => [.str (rgA nfX 0 j)]) (fun j => by show [SV.str (rgA nfX 0 j)] = _; unfold rgA; rw [if_neg (by omega)]) rfl rfl rfl rfl (by kernel_rfl) strInfo (by omega) rfl) fun A => N hX 12 A rfl rfl fun A => LOOP1 (fun (k : Nat) => [(0, .fn 42 []), (2, .sla none 0 0), (3, .sl 0 8 8), (7, .int .i64 ((8 : Nat) : Int)), (8, .int .i64 (k : Int))]) (fun (k : Nat) => [some (.row 9 1 8 8 (fun j => [.str (rgA nfX k j)]))]) (fun (k : Nat) => k ≤ 8 ∧ True) (fun (k : Nat) => 8 - k) 0 ⟨by omega, trivial⟩ ((A.cut [0, 2, 3, 7, 8] rfl).trunc 1 rfl rfl rfl (by simp only [List.length_cons, List.length_nil] at h0; omega)) fun k hI {G a w} A => N hX 6 A rfl rfl fun A => forkD 9 A rfl
   (fun h1 A => N hX 16 A rfl rfl fun A => CALL1 [] (xname_ (k : Int)) A rfl rfl rfl rfl rfl rfl rfl fun A => N hX 1 A rfl (ok_d (by have := hI.1; omega) <| okE_nil) fun A => STR (i := 0) (e := 9) (s := 1) (m := 8) (c := 8) hX k (fun j => [.str (rgA nfX (k + 1) j)]) A rfl rfl (Int.toNat_natCast k) (by omega) (fun z hz => by show [SV.str _] = [SV.str _]; rw [rgA_ne hz]) (by show _ = some [SV.str _]; rw [rgA_at]; rfl) fun A => N hX 7 A rfl (ok_d (by have := hI.1; omega) <| okE_nil) fun A => ⟨k + 1, _, (by omega), ⟨by omega, trivial⟩, ((A.cut [0, 2, 3, 7, 8] rfl).trunc 1 rfl rfl rfl (by simp only [List.length_cons, List.length_nil] at h0; omega))⟩)
   (fun h1 A => N hX 10 A rfl rfl fun A => have A := A.rowAs 0 8 (fun zz => [.str ((rgL nfX).getD zz [])]) rfl rfl (fun j hj => by show [SV.str _] = [SV.str (rgA nfX k j)]; rw [show k = 8 by have := hI.1; omega, rgA_8 j hj]) (fun z => ⟨_, rfl, rfl⟩); RET hX [0] A ⟨rfl, rfl⟩ rfl rfl rfl rfl rfl rfl rfl rfl h0)
theorem regs1_   : Fn Tryd.prog 31 [.int .i64 1] [] (Rt (.sl 0 8 8) [some (.row 9 1 8 8 (fun zz => [.str ((rgL nfX).getD zz [])]))]) :=
 enterM (n := 13) (by kernel_rfl) Tryd.func31 rfl rfl rfl fun G w a h0 A => N hX 18 A rfl rfl fun A => forkE 4 A rfl
  (fun h1 A => N hX 3 A rfl rfl fun A => CALL1 [] regnX_ A rfl rfl rfl rfl rfl rfl rfl fun A => N hX 4 A rfl rfl fun A => RET hX [0] A ⟨rfl, rfl⟩ rfl rfl rfl rfl rfl rfl rfl rfl h0)
  (fun h1 A => absurd rfl h1)
def stepP (R : List (List UInt8)) (c : Cn) (l : List Pc) : List Pc := l.take (((l.length : Nat) : Int) - parts0 c.kd).toNat ++ [(wr0 R c.kd c.th c.rg c.lc c.vl l (((l.length : Nat) : Int) - parts0 c.kd).toNat (l.length - (((l.length : Nat) : Int) - parts0 c.kd).toNat), c.kd)]
def foldP (R : List (List UInt8)) (cs : List Cn) : List Pc := cs.foldl (fun l c => stepP R c l) []
structure FI (R : List (List UInt8)) (cs : List Cn) (l : List Pc) (i : Nat) : Prop where
  lb : ∃ lb, EI oz cs lb i ∧ lb.length = l.length
  eq : l = foldP R (cs.take i)
theorem stepP_len {R : List (List UInt8)} {c : Cn} {l : List Pc} (h : 0 ≤ parts0 c.kd) : (stepP R c l).length = (((l.length : Nat) : Int) - parts0 c.kd).toNat + 1 := by
  unfold stepP; rw [List.length_append, List.length_take, List.length_cons, List.length_nil]; omega
section
variable {R : List (List UInt8)} {L : List Cn} {n i : Nat} {l : List Pc}
theorem FI.i0 (hr : right (L.take n) = true) : FI R (L.take n) [] 0 := ⟨⟨[], EI.i0 hr, rfl⟩, by simp [foldP]⟩
theorem FI.kn (hI : FI R (L.take n) l i) (hn : n ≤ L.length) (h1 : (i : Int) < ((n : Nat) : Int)) : ¬ (L.getD ((i : Int)).toNat Cn.z).n < 0 ∧ (L.getD ((i : Int)).toNat Cn.z).n ≤ (l.length : Int) ∧ (L.getD ((i : Int)).toNat Cn.z).n = parts0 (L.getD ((i : Int)).toNat Cn.z).kd ∧ (((L.getD ((i : Int)).toNat Cn.z).kd = 1 ∧ (L.getD ((i : Int)).toNat Cn.z).n = 0 ∧ 0 ≤ (L.getD ((i : Int)).toNat Cn.z).th ∧ (L.getD ((i : Int)).toNat Cn.z).th < 3 ∧ 0 ≤ (L.getD ((i : Int)).toNat Cn.z).rg ∧ (L.getD ((i : Int)).toNat Cn.z).rg < 8) ∨ ((L.getD ((i : Int)).toNat Cn.z).kd = 2 ∧ (L.getD ((i : Int)).toNat Cn.z).n = 0 ∧ 0 ≤ (L.getD ((i : Int)).toNat Cn.z).lc ∧ (L.getD ((i : Int)).toNat Cn.z).lc < 3) ∨ ((L.getD ((i : Int)).toNat Cn.z).kd = 3 ∧ (L.getD ((i : Int)).toNat Cn.z).n = 1) ∨ ((L.getD ((i : Int)).toNat Cn.z).kd = 4 ∧ (L.getD ((i : Int)).toNat Cn.z).n = 2) ∨ ((L.getD ((i : Int)).toNat Cn.z).kd = 5 ∧ (L.getD ((i : Int)).toNat Cn.z).n = 2)) ∧ l.length ≤ i := by
  obtain ⟨lb, h2, h3⟩ := hI.lb
  have := h2.kn hn h1
  rw [h3] at this
  exact this
theorem FI.nx (hI : FI R (L.take n) l i) (hr : right (L.take n) = true) (hn : n ≤ L.length) (h1 : (i : Int) < ((n : Nat) : Int)) : FI R (L.take n) (stepP R (L.getD ((i : Int)).toNat Cn.z) l) (i + 1) := by
  obtain ⟨lb, h2, h3⟩ := hI.lb
  have k := h2.kn hn h1
  refine ⟨⟨_, h2.nx hr hn h1, ?_⟩, ?_⟩
  · rw [← fold_st (p := oz) (l := lb) k.1 k.2.1 k.2.2.1 rfl, stepP_len (by omega), List.length_append, List.length_take, List.length_cons, List.length_nil, h3]; omega
  · have hi : i < (L.take n).length := by simp; omega
    rw [List.take_succ_eq_append_getElem hi, foldP, List.foldl_append, ← foldP, ← hI.eq]
    have e : (L.take n)[i] = (L.getD ((i : Int)).toNat Cn.z) := by simp [List.getD, show i < L.length by omega]
    rw [e]; rfl
theorem FI.fi (hI : FI R (L.take n) l i) (hr : right (L.take n) = true) (hn : n ≤ L.length) (h1 : ¬ (i : Int) < ((n : Nat) : Int)) : l.length = 1 ∧ l = foldP R (L.take n) := by
  obtain ⟨lb, h2, h3⟩ := hI.lb
  have := h2.fi hr hn h1
  have he := hI.eq
  rw [List.take_of_length_le (by simp; omega)] at he
  exact ⟨by omega, he⟩
theorem FI.sm (hI : FI R (L.take n) l i) (hl : ∀ i q, ((foldP R ((L.take n).take i)).getD q pz).1.length ≤ 1000000) : ∀ q, (l.getD q pz).1.length ≤ 1000000 := fun q => by rw [hI.eq]; exact hl i q
theorem papp1 {k : Nat} {x : Pc} (h : k ≤ l.length) : (l.take k ++ [x]).getD k pz = x := by
  have := getD_app_1 (l := l.take k) (x := x) (d := pz)
  rw [List.length_take, Nat.min_eq_left h] at this; exact this
end
theorem foldp_ (R : List (List UInt8)) (L : List Cn) (n : Nat) (c : Nat) (b : Nat) (o : Obj) (hT : ∀ w : World, w.heap[b]? = some o → Lib.TabIs Tryd.prog w "internal/strconv.uint64pow10" .u64 Lib.pow10Tab) (hn : n ≤ L.length) (hN : n ≤ 1000000) (hr : right (L.take n) = true) (hv : ∀ q, -9223372036854775808 ≤ (L.getD q Cn.z).vl ∧ (L.getD q Cn.z).vl ≤ 9223372036854775807) (hl : ∀ i q, ((foldP R ((L.take n).take i)).getD q pz).1.length ≤ 1000000) (qR : ∀ q, (R.getD q []).length ≤ 100) (hR : 8 ≤ R.length) : Fn Tryd.prog 32 [.sl 0 n c, .fn 33 [.ptr 1 0]] [some (.lst 5 L.length (fun zz => cc (L.getD zz Cn.z))), some (.blk [.sl 2 R.length 8]), some (.row 9 1 R.length 8 (fun zz => [.str (R.getD zz [])])), some (.fac b o)] (Rt (.agg [.str (((foldP R (L.take n)).getD 0 pz).1), .int .i64 (((foldP R (L.take n)).getD 0 pz).2)]) [some (.lst 5 L.length (fun zz => cc (L.getD zz Cn.z))), some (.blk [.sl 2 R.length 8]), some (.row 9 1 R.length 8 (fun zz => [.str (R.getD zz [])])), some (.fac b o)]) :=
 enterM (n := 36) (by kernel_rfl) Tryd.func32 rfl rfl rfl fun G w a h0 A => N hX 19 A rfl rfl fun A => have A := A.nilRow 5 64 2 (fun zz => [.str (([] : List Pc).getD zz pz).1, .int .i64 (([] : List Pc).getD zz pz).2]) rfl (fun z => ⟨_, rfl, rfl⟩); LOOP2 (fun (l : List Pc) (i : Nat) => [(1, .fn 33 [.ptr 1 0]), (4, .ptr 4 0), (5, .sl 5 l.length 0), (9, .sl 0 n c), (10, .int .i64 ((n : Nat) : Int)), (11, .int .i64 (i : Int))]) (fun (l : List Pc) (i : Nat) => [some (.lst 5 L.length (fun zz => cc (L.getD zz Cn.z))), some (.blk [.sl 2 R.length 8]), some (.row 9 1 R.length 8 (fun zz => [.str (R.getD zz [])])), some (.fac b o), some (.blk [.str [], .int .i64 0]), some (.row 64 2 l.length 0 (fun zz => [.str (l.getD zz pz).1, .int .i64 (l.getD zz pz).2]))]) (fun (l : List Pc) (i : Nat) => FI R (L.take n) l i) (fun (l : List Pc) (i : Nat) => n - i) [] 0 (FI.i0 hr) ((A.cut [1, 4, 5, 9, 10, 11] rfl).trunc 6 rfl rfl rfl (by simp only [List.length_cons, List.length_nil] at h0; omega)) fun l i hI {G a w} A => N hX 6 A rfl rfl fun A => forkD 12 A rfl
   (fun h1 A => N hX 14 A rfl (ok_d (by have hq := hI.kn hn h1; omega) <| ok_d (by have hq := hI.kn hn h1; omega) <| okE_nil) fun A => N hX 5 A rfl rfl fun A => CALL1 [] (parts_ ((L.getD (((i : Int)).toNat) Cn.z).kd)) A rfl rfl rfl rfl rfl rfl rfl fun A => N hX 4 A rfl (ok_d (by have hq := hI.kn hn h1; omega) <| okE_nil) fun A => DRAWN hX hmo [] [(8, .agg [.str (wr0 R ((L.getD (((i : Int)).toNat) Cn.z).kd) ((L.getD (((i : Int)).toNat) Cn.z).th) ((L.getD (((i : Int)).toNat) Cn.z).rg) ((L.getD (((i : Int)).toNat) Cn.z).lc) ((L.getD (((i : Int)).toNat) Cn.z).vl) l ((((l.length : Nat) : Int) - (parts0 ((L.getD (((i : Int)).toNat) Cn.z).kd))).toNat) (l.length - (((l.length : Nat) : Int) - (parts0 ((L.getD (((i : Int)).toNat) Cn.z).kd))).toNat)), .int .i64 ((L.getD (((i : Int)).toNat) Cn.z).kd)], [some (.lst 5 L.length (fun zz => cc (L.getD zz Cn.z))), some (.blk [.sl 2 R.length 8]), some (.row 9 1 R.length 8 (fun zz => [.str (R.getD zz [])])), some (.fac b o), some (.blk [.str [], .int .i64 0]), some (.row 64 2 l.length 0 (fun zz => [.str (l.getD zz pz).1, .int .i64 (l.getD zz pz).2])), some (.blk [.int .i64 ((L.getD (((i : Int)).toNat) Cn.z).kd), .int .i64 ((L.getD (((i : Int)).toNat) Cn.z).th), .int .i64 ((L.getD (((i : Int)).toNat) Cn.z).rg), .int .i64 ((L.getD (((i : Int)).toNat) Cn.z).lc), .int .i64 ((L.getD (((i : Int)).toNat) Cn.z).vl)])]), (10, .sl 8 (((((l.length : Nat) : Int) - (parts0 ((L.getD (((i : Int)).toNat) Cn.z).kd))).toNat) + 1) 0, [some (.lst 5 L.length (fun zz => cc (L.getD zz Cn.z))), some (.blk [.sl 2 R.length 8]), some (.row 9 1 R.length 8 (fun zz => [.str (R.getD zz [])])), some (.fac b o), some (.blk [.str [], .int .i64 0]), none, some (.blk [.int .i64 ((L.getD (((i : Int)).toNat) Cn.z).kd), .int .i64 ((L.getD (((i : Int)).toNat) Cn.z).th), .int .i64 ((L.getD (((i : Int)).toNat) Cn.z).rg), .int .i64 ((L.getD (((i : Int)).toNat) Cn.z).lc), .int .i64 ((L.getD (((i : Int)).toNat) Cn.z).vl)]), some (.blk [.str (wr0 R ((L.getD (((i : Int)).toNat) Cn.z).kd) ((L.getD (((i : Int)).toNat) Cn.z).th) ((L.getD (((i : Int)).toNat) Cn.z).rg) ((L.getD (((i : Int)).toNat) Cn.z).lc) ((L.getD (((i : Int)).toNat) Cn.z).vl) l ((((l.length : Nat) : Int) - (parts0 ((L.getD (((i : Int)).toNat) Cn.z).kd))).toNat) (l.length - (((l.length : Nat) : Int) - (parts0 ((L.getD (((i : Int)).toNat) Cn.z).kd))).toNat)), .int .i64 ((L.getD (((i : Int)).toNat) Cn.z).kd)]), some (.row 64 2 (((((l.length : Nat) : Int) - (parts0 ((L.getD (((i : Int)).toNat) Cn.z).kd))).toNat) + 1) 0 (fun zz => [.str ((l.take ((((l.length : Nat) : Int) - (parts0 ((L.getD (((i : Int)).toNat) Cn.z).kd))).toNat) ++ [(wr0 R ((L.getD (((i : Int)).toNat) Cn.z).kd) ((L.getD (((i : Int)).toNat) Cn.z).th) ((L.getD (((i : Int)).toNat) Cn.z).rg) ((L.getD (((i : Int)).toNat) Cn.z).lc) ((L.getD (((i : Int)).toNat) Cn.z).vl) l ((((l.length : Nat) : Int) - (parts0 ((L.getD (((i : Int)).toNat) Cn.z).kd))).toNat) (l.length - (((l.length : Nat) : Int) - (parts0 ((L.getD (((i : Int)).toNat) Cn.z).kd))).toNat), (L.getD (((i : Int)).toNat) Cn.z).kd)]).getD zz pz).1, .int .i64 ((l.take ((((l.length : Nat) : Int) - (parts0 ((L.getD (((i : Int)).toNat) Cn.z).kd))).toNat) ++ [(wr0 R ((L.getD (((i : Int)).toNat) Cn.z).kd) ((L.getD (((i : Int)).toNat) Cn.z).th) ((L.getD (((i : Int)).toNat) Cn.z).rg) ((L.getD (((i : Int)).toNat) Cn.z).lc) ((L.getD (((i : Int)).toNat) Cn.z).vl) l ((((l.length : Nat) : Int) - (parts0 ((L.getD (((i : Int)).toNat) Cn.z).kd))).toNat) (l.length - (((l.length : Nat) : Int) - (parts0 ((L.getD (((i : Int)).toNat) Cn.z).kd))).toNat), (L.getD (((i : Int)).toNat) Cn.z).kd)]).getD zz pz).2]))])] A rfl (ok_d (by show 0 ≤ ((l.length : Nat) : Int) - (parts0 ((L.getD (((i : Int)).toNat) Cn.z).kd)) ∧ ((l.length : Nat) : Int) - (parts0 ((L.getD (((i : Int)).toNat) Cn.z).kd)) ≤ ((l.length : Nat) : Int); exact (by have hq := hI.kn hn h1; omega)) <| ok_d (by show 0 ≤ ((l.length : Nat) : Int) - (parts0 ((L.getD (((i : Int)).toNat) Cn.z).kd)) ∧ ((l.length : Nat) : Int) - (parts0 ((L.getD (((i : Int)).toNat) Cn.z).kd)) ≤ ((l.length : Nat) : Int); exact (by have hq := hI.kn hn h1; omega)) <| ok_d (by show 0 ≤ ((l.length : Nat) : Int) - (parts0 ((L.getD (((i : Int)).toNat) Cn.z).kd)) ∧ ((l.length : Nat) : Int) - (parts0 ((L.getD (((i : Int)).toNat) Cn.z).kd)) ≤ ((l.length : Nat) : Int); exact (by have hq := hI.kn hn h1; omega)) <| ok_d (by have hq := hI.kn hn h1; omega) <| okE_nil) rfl rfl (by kernel_rfl) ⟨callE [1, 2, 5, 3] (pone_ R ((L.getD (((i : Int)).toNat) Cn.z).kd) ((L.getD (((i : Int)).toNat) Cn.z).th) ((L.getD (((i : Int)).toNat) Cn.z).rg) ((L.getD (((i : Int)).toNat) Cn.z).lc) ((L.getD (((i : Int)).toNat) Cn.z).vl) l ((((l.length : Nat) : Int) - (parts0 ((L.getD (((i : Int)).toNat) Cn.z).kd))).toNat) (l.length - (((l.length : Nat) : Int) - (parts0 ((L.getD (((i : Int)).toNat) Cn.z).kd))).toNat) b o hT (by have hq := hI.kn hn h1; omega) (by have hq := hI.kn hn h1; omega) (by have hq := hI.kn hn h1; omega) (by have hq := hI.kn hn h1; omega) (by have hq := hI.kn hn h1; omega) (hv _) (hI.sm hl) qR hR) rfl rfl rfl rfl rfl rfl rfl, ⟨trivial, ⟨eff_shrink (e := 64) (s := 2) 5 ((((l.length : Nat) : Int) - (parts0 ((L.getD (((i : Int)).toNat) Cn.z).kd))).toNat) rfl (by have hq := hI.kn hn h1; omega) (appE (i := 5) (e := 64) (s := 2) hX (((((l.length : Nat) : Int) - (parts0 ((L.getD (((i : Int)).toNat) Cn.z).kd))).toNat) + 1) (fun zz => [.str ((l.take ((((l.length : Nat) : Int) - (parts0 ((L.getD (((i : Int)).toNat) Cn.z).kd))).toNat) ++ [(wr0 R ((L.getD (((i : Int)).toNat) Cn.z).kd) ((L.getD (((i : Int)).toNat) Cn.z).th) ((L.getD (((i : Int)).toNat) Cn.z).rg) ((L.getD (((i : Int)).toNat) Cn.z).lc) ((L.getD (((i : Int)).toNat) Cn.z).vl) l ((((l.length : Nat) : Int) - (parts0 ((L.getD (((i : Int)).toNat) Cn.z).kd))).toNat) (l.length - (((l.length : Nat) : Int) - (parts0 ((L.getD (((i : Int)).toNat) Cn.z).kd))).toNat), (L.getD (((i : Int)).toNat) Cn.z).kd)]).getD zz pz).1, .int .i64 ((l.take ((((l.length : Nat) : Int) - (parts0 ((L.getD (((i : Int)).toNat) Cn.z).kd))).toNat) ++ [(wr0 R ((L.getD (((i : Int)).toNat) Cn.z).kd) ((L.getD (((i : Int)).toNat) Cn.z).th) ((L.getD (((i : Int)).toNat) Cn.z).rg) ((L.getD (((i : Int)).toNat) Cn.z).lc) ((L.getD (((i : Int)).toNat) Cn.z).vl) l ((((l.length : Nat) : Int) - (parts0 ((L.getD (((i : Int)).toNat) Cn.z).kd))).toNat) (l.length - (((l.length : Nat) : Int) - (parts0 ((L.getD (((i : Int)).toNat) Cn.z).kd))).toNat), (L.getD (((i : Int)).toNat) Cn.z).kd)]).getD zz pz).2]) rfl rfl rfl rfl (by have hq := hI.kn hn h1; omega) rfl (fun q hq => by show [SV.str _, SV.int _ _] = [SV.str _, SV.int _ _]; rw [getD_app_l (by rw [List.length_take]; have hq := hI.kn hn h1; omega), getD_take hq]) (by show [SV.str _, SV.int _ _] = _; rw [papp1 (by have hq := hI.kn hn h1; omega)]) (fun z => ⟨_, rfl, rfl⟩)), trivial⟩⟩⟩ trivial fun A => N hX 6 A rfl (ok_d (by have hq := hI.kn hn h1; omega) <| okE_nil) fun A => ⟨stepP R (L.getD ((i : Int)).toNat Cn.z) l, i + 1, _, (by omega), (hI.nx hr hn h1), ((((A.rowAs 8 (stepP R (L.getD ((i : Int)).toNat Cn.z) l).length (fun zz => [.str ((stepP R (L.getD ((i : Int)).toNat Cn.z) l).getD zz pz).1, .int .i64 ((stepP R (L.getD ((i : Int)).toNat Cn.z) l).getD zz pz).2]) rfl (stepP_len (R := R) (c := (L.getD ((i : Int)).toNat Cn.z)) (l := l) (by have hq := hI.kn hn h1; omega)) (fun q hq => rfl) (fun z => ⟨_, rfl, rfl⟩)).say 5 (.sl 8 (stepP R (L.getD ((i : Int)).toNat Cn.z) l).length 0) rfl (by rw [(stepP_len (R := R) (c := (L.getD ((i : Int)).toNat Cn.z)) (l := l) (by have hq := hI.kn hn h1; omega))])).cut [1, 4, 5, 9, 10, 11] rfl).mv 4 [4, 8] rfl rfl rfl rfl (by simp only [List.length_cons, List.length_nil] at h0; omega))⟩)
   (fun h1 A => N hX 12 A rfl (ok_d (by have hq := (hI.fi hr hn h1).1; omega) <| ok_d (by have hq := (hI.fi hr hn h1).1; omega) <| okE_nil) fun A => RETN hX A rfl rfl rfl h0 rfl rfl rfl rfl (by rw [← (hI.fi hr hn h1).2]; rfl) rfl)
theorem rgL_len {nf : Int → List UInt8} (h : ∀ x, (nf x).length ≤ 20) (q : Nat) : ((rgL nf).getD q []).length ≤ 100 := by
  by_cases hq : q < 8
  · have : q = 0 ∨ q = 1 ∨ q = 2 ∨ q = 3 ∨ q = 4 ∨ q = 5 ∨ q = 6 ∨ q = 7 := by omega
    rcases this with e | e | e | e | e | e | e | e <;> subst e <;> exact Nat.le_trans (h _) (by decide)
  · rw [List.getD_eq_getElem?_getD, List.getElem?_eq_none (by show 8 ≤ q; omega)]; decide
theorem print1_ (L : List Cn) (n : Nat) (c : Nat) (b : Nat) (o : Obj) (hT : ∀ w : World, w.heap[b]? = some o → Lib.TabIs Tryd.prog w "internal/strconv.uint64pow10" .u64 Lib.pow10Tab) (hn : n ≤ L.length) (hN : n ≤ 1000000) (hr : right (L.take n) = true) (hv : ∀ q, -9223372036854775808 ≤ (L.getD q Cn.z).vl ∧ (L.getD q Cn.z).vl ≤ 9223372036854775807) (hl : ∀ i q, ((foldP (rgL nfX) ((L.take n).take i)).getD q pz).1.length ≤ 1000000) : Fn Tryd.prog 20 [.int .i64 1, .sl 0 n c] [some (.lst 5 L.length (fun zz => cc (L.getD zz Cn.z))), some (.fac b o)] (Rt (.tup [.str (((foldP (rgL nfX) (L.take n)).getD 0 pz).1), .int .i64 0]) [some (.lst 5 L.length (fun zz => cc (L.getD zz Cn.z))), some (.fac b o)]) :=
 enterM (n := 20) (by kernel_rfl) Tryd.func20 rfl rfl rfl fun G w a h0 A => N hX 9 A rfl rfl fun A => CALL1 [] regs1_ A rfl rfl rfl rfl rfl rfl rfl fun A => N hX 8 A rfl rfl fun A => NILR hX A rfl rfl (by omega) fun A => N hX 9 A rfl rfl fun A => CALL1 [0] (pright_ L n c hn) A rfl rfl rfl rfl rfl rfl rfl fun A => N hX 3 A rfl rfl fun A => fork 14 A rfl
  (fun h1 A => absurd h1 (by rw [hr]; decide))
  (fun h1 A => N hX 7 A rfl rfl fun A => CALL1 [0, 3, 2, 1] (foldp_ (rgL nfX) L n c b o hT hn hN hr hv hl (rgL_len nfX_len) (by decide)) A rfl rfl rfl rfl rfl rfl rfl fun A => N hX 13 A rfl rfl fun A => RETN hX A rfl rfl rfl h0 rfl rfl rfl rfl rfl rfl)
theorem fn_asX {P : Program} {f : Nat} {az : List SV} {H H2 : Hp} {x y : SV} (h : Fn P f az H (Rt x H2)) (e : ∀ G, den G x = den G y) : Fn P f az H (Rt y H2) :=
  ⟨h.1, fun G w vs hM hv => Calls.mono (h.2 G w vs hM hv) fun e' w' ⟨x', H', F, v, ⟨q1, q2⟩, r⟩ => by subst q1; subst q2; exact ⟨y, _, F, v, ⟨rfl, rfl⟩, by rw [← e]; exact r.1, r.2⟩⟩
def aC : Cn := ⟨2, 0, 0, 0, 1⟩
def nC : Cn := ⟨3, 0, 0, 0, 0⟩
def oA : O := fun k => if k = 24 then 1 else 0
theorem tyC : (∀ x, (cc x).length = 5) ∧ (∀ x, inL 0 (cc x) = true) ∧ (∀ x, ∃ vs, denL [] (cc x) = some vs) := ⟨fun _ => rfl, fun _ => rfl, fun _ => ⟨_, rfl⟩⟩
theorem tyO : (∀ x, (oc x).length = 27) ∧ (∀ x, inL 0 (oc x) = true) ∧ (∀ x, ∃ vs, denL [] (oc x) = some vs) := ⟨fun _ => rfl, fun _ => rfl, fun _ => ⟨_, rfl⟩⟩
theorem itoa1 : Lib.itoa 1 = [49] := by unfold Lib.itoa; rw [if_neg (by decide)]; show Lib.decDigits 1 = _; unfold Lib.decDigits; rfl
theorem fp0 (R : List (List UInt8)) : foldP R [] = [] := rfl
theorem fp1 (R : List (List UInt8)) : foldP R [aC] = [([120, 61, 49], 2)] := by
  show stepP R aC [] = _
  have : wr0 R aC.kd aC.th aC.rg aC.lc aC.vl [] 0 0 = [120, 61] ++ Lib.itoa 1 := rfl
  show [] ++ [(wr0 R aC.kd aC.th aC.rg aC.lc aC.vl [] 0 0, 2)] = _
  rw [this, itoa1]; rfl
theorem fp2 (R : List (List UInt8)) : foldP R [aC, nC] = [([126, 120, 61, 49], 3)] := by
  have : foldP R [aC, nC] = stepP R nC (foldP R [aC]) := rfl
  rw [this, fp1]; rfl
theorem fpl (R : List (List UInt8)) : ∀ i q, ((foldP R (([aC, nC].take 2).take i)).getD q pz).1.length ≤ 1000000 := by
  intro i q
  have hi : ([aC, nC].take 2).take i = [] ∨ ([aC, nC].take 2).take i = [aC] ∨ ([aC, nC].take 2).take i = [aC, nC] := by
    rcases i with _ | _ | i
    · exact .inl rfl
    · exact .inr (.inl rfl)
    · exact .inr (.inr (List.take_of_length_le (by simp)))
  rcases hi with h | h | h <;> rw [h]
  · rw [fp0]; show (pz.1).length ≤ _; decide
  · rw [fp1]; rcases q with _ | q
    · decide
    · show (pz.1).length ≤ _; decide
  · rw [fp2]; rcases q with _ | q
    · decide
    · show (pz.1).length ≤ _; decide
theorem vA : ∀ q, -9223372036854775808 ≤ ([aC, nC].getD q Cn.z).vl ∧ ([aC, nC].getD q Cn.z).vl ≤ 9223372036854775807 := fun q => by
  rcases q with _ | _ | q
  · decide
  · decide
  · show -9223372036854775808 ≤ Cn.z.vl ∧ Cn.z.vl ≤ 9223372036854775807; decide
theorem printA_ (b : Nat) (o : Obj) (hT : ∀ w : World, w.heap[b]? = some o → Lib.TabIs Tryd.prog w "internal/strconv.uint64pow10" .u64 Lib.pow10Tab) : Fn Tryd.prog 20 [.int .i64 1, .sl 0 2 2] [some (.lst 5 ([aC, nC].length) (fun zz => cc ([aC, nC].getD zz Cn.z))), some (.fac b o)] (Rt (.tup [.str [126, 120, 61, 49], .int .i64 0]) [some (.lst 5 ([aC, nC].length) (fun zz => cc ([aC, nC].getD zz Cn.z))), some (.fac b o)]) :=
  fn_asX (print1_ [aC, nC] 2 2 b o hT (by decide) (by decide) rfl vA (fpl _)) fun _ => by rw [show ([aC, nC] : List Cn).take 2 = [aC, nC] from rfl, fp2]; rfl
theorem canA : ∀ y ∈ [oz, oA], Can y := fun y hy => by
  rcases List.mem_cons.1 hy with rfl | hy
  · intro k hk; rfl
  · rcases List.mem_cons.1 hy with rfl | hy
    · intro k hk; exact if_neg (by omega)
    · cases hy
theorem judgeA_ : Fn Tryd.prog 18 [.int .i64 1, .sl 0 1 1, .sl 1 2 2] [some (.lst 5 ([aC].length) (fun zz => cc ([aC].getD zz Cn.z))), some (.lst 27 ([oz, oA].length) (fun zz => oc ([oz, oA].getD zz oz)))] (Rt (.tup [.agg [.tt, .tt, .int .i64 0, .int .i64 0, .int .i64 0, .int .i64 0, .int .i64 0, .int .i64 0, .int .i64 0, .int .i64 0, .int .i64 0, .int .i64 0, .int .i64 0, .int .i64 0, .int .i64 0, .int .i64 0, .int .i64 0, .int .i64 0, .int .i64 0, .int .i64 0, .int .i64 0, .int .i64 0, .int .i64 0, .int .i64 0, .int .i64 0, .int .i64 0, .int .i64 1, .int .i64 0, .int .i64 0, .int .i64 2], .int .i64 0]) [some (.lst 5 ([aC].length) (fun zz => cc ([aC].getD zz Cn.z))), some (.lst 27 ([oz, oA].length) (fun zz => oc ([oz, oA].getD zz oz)))]) :=
  fn_asX (pjudge_ 1 [aC] 1 1 [oz, oA] 2 (by decide) (by decide) (by decide) canA) fun _ => rfl
theorem rightA_ : Fn Tryd.prog 9 [.sl 0 1 1] [some (.lst 5 ([aC].length) (fun zz => cc ([aC].getD zz Cn.z)))] (Rt .tt [some (.lst 5 ([aC].length) (fun zz => cc ([aC].getD zz Cn.z)))]) := fn_asX (pright_ [aC] 1 1 (by decide)) fun _ => rfl
theorem able_ (b : Nat) (o : Obj) (hT : ∀ w : World, w.heap[b]? = some o → Lib.TabIs Tryd.prog w "internal/strconv.uint64pow10" .u64 Lib.pow10Tab) : Fn Tryd.prog 8 [] [some (.fac b o)] (Rt (.tt) [some (.fac b o)]) :=
 enterM (n := 55) (by kernel_rfl) Tryd.func8 rfl rfl rfl fun G w a h0 A => N hX 17 A rfl rfl fun A => have A := A.asT Cn.z cc 5 tyC.1 tyC.2.1 tyC.2.2 [aC, nC] 2 rfl; CALL1 [2, 0] (printA_ b o hT) A rfl rfl rfl rfl rfl rfl rfl fun A => N hX 15 A rfl rfl fun A => have A := A.asT Cn.z cc 5 tyC.1 tyC.2.1 tyC.2.2 [aC] 3 rfl; have A := A.asT oz oc 27 tyO.1 tyO.2.1 tyO.2.2 [oz, oA] 4 rfl; CALL1 [3, 4] judgeA_ A rfl rfl rfl rfl rfl rfl rfl fun A => N hX 13 A rfl rfl fun A => forkE 26 A rfl
  (fun h1 A => N hX 4 A rfl rfl fun A => forkE 30 A rfl
   (fun h2 A => N hX 4 A rfl rfl fun A => forkE 34 A rfl
    (fun h3 A => N hX 9 A rfl rfl fun A => forkE 43 A rfl
     (fun h4 A => N hX 7 A rfl (ok_d (by omega) <| ok_d (by omega) <| okE_nil) fun A => forkE 50 A rfl
      (fun h5 A => N hX 2 A rfl rfl fun A => have A := A.asT Cn.z cc 5 tyC.1 tyC.2.1 tyC.2.2 [aC] 6 rfl; CALL1 [6] rightA_ A rfl rfl rfl rfl rfl rfl rfl fun A => N hX 5 A rfl rfl fun A => RETN hX A rfl rfl rfl h0 rfl rfl rfl rfl rfl rfl)
      (fun h5 A => absurd rfl h5))
     (fun h4 A => absurd rfl h4))
    (fun h3 A => absurd rfl h3))
   (fun h2 A => absurd rfl h2))
  (fun h1 A => absurd rfl h1)
end Go.Proofs.YtfdfjakafiglmaaDoor
namespace Go.Proofs.YtfdfjakafiglmaaDoor
open Go.RowKit
set_option linter.unusedVariables false
set_option linter.unusedSimpArgs false
theorem mem_ro {H : Hp} {G : Gr} {w : World} (hl : H.length = G.length) (h : ∀ (i : Nat) (e : Ent), H[i]? = some (some e) → e.mut = false ∧ EntOK G w ((G[i]?).getD none) e) : Mem H G w :=
  ⟨hl, fun i e he => (h i e he).2, fun i j e f L M _ he _ hm => by rw [(h i e he).1] at hm; cases hm⟩
theorem lst_of {α : Type} {enc : α → List Value} {f : Nat → List SV} {s B n cap : Nat} {w : World} {l : List α} {bo : Option (Nat × Nat)} (h : Sl enc s B w (.slice (bo.map fun x => ⟨x.1, x.2, none⟩) n cap) l) (hB : B ≤ w.heap.size)
    (hf : ∀ k x, l[k]? = some x → denL [] (f k) = some (enc x)) (htot : ∀ k, ∃ vs, denL [] (f k) = some vs) :
    n = l.length ∧ ∀ (G F : Gr), den (G ++ (bo.map fun x => (⟨x.1, List.replicate x.2 undef, [], 0⟩ : Loc)) :: F) (.sl G.length l.length cap) = some (.slice (bo.map fun x => ⟨x.1, x.2, none⟩) n cap) ∧ EntOK (G ++ (bo.map fun x => (⟨x.1, List.replicate x.2 undef, [], 0⟩ : Loc)) :: F) w (bo.map fun x => (⟨x.1, List.replicate x.2 undef, [], 0⟩ : Loc)) (.lst s l.length f) := by
  obtain ⟨ao, cap', hv, hlc, he⟩ := h
  simp only [Value.slice.injEq] at hv
  obtain ⟨rfl, rfl, rfl⟩ := hv
  refine ⟨rfl, fun G F => ⟨?_, htot, ?_⟩⟩
  · unfold den
    rw [List.getElem?_append_right (Nat.le_refl _)]
    cases bo <;> simp [rm]
  · cases bo with
    | none =>
      left
      cases l with
      | nil => rfl
      | cons x l => obtain ⟨b, o, h1, _⟩ := he 0 x rfl; cases h1
    | some x =>
      obtain ⟨b, o⟩ := x
      cases hl : l with
      | nil => left; rfl
      | cons y l' =>
        right
        have hb : b < B := by
          obtain ⟨b', o', h1, h2, _⟩ := he 0 y (by rw [hl]; rfl)
          cases h1; exact h2
        refine ⟨_, rfl, (by show b < _; omega), fun k hk => ?_⟩
        have hk' : k < l.length := by rw [hl]; exact hk
        obtain ⟨b', o', h1, h2, h3⟩ := he k l[k] (by simp [hk'])
        cases h1
        exact ⟨_, hf k l[k] (by simp [hk']), by simpa using h3⟩
theorem post_ro {x : SV} {H H2 : Hp} {G : Gr} {w w' : World} {e : Ending} (h : Post (Rt x H2) H G w e w') (hro : ∀ (i : Nat) (e : Ent), H[i]? = some (some e) → e.mut = false) : ∃ v F, den (G ++ F) x = some v ∧ e = .returned v ∧ Mem H2 (G ++ F) w' ∧ Grow w w' := by
  obtain ⟨y, H', F, v, ⟨rfl, rfl⟩, h1, h2, h3, hmix, _⟩ := h
  have hk : ∀ k, (keys H G).contains k = false := fun k => by
    cases hc : (keys H G).contains k with
    | false => rfl
    | true =>
      obtain ⟨i, e', L, q1, q2, _⟩ := mem_keys.1 hc
      rw [hro i e' q1] at q2; cases q2
  exact ⟨v, F, h1, h2, h3, ⟨hmix.os, hmix.tape, hmix.output, hmix.size, fun k hk' => hmix.block k hk' (hk k)⟩⟩
end Go.Proofs.YtfdfjakafiglmaaDoor
namespace Go.Proofs.YtfdfjakafiglmaaDoor
open Go.RowKit
set_option linter.unusedVariables false
set_option linter.unusedSimpArgs false
set_option maxRecDepth 100000
set_option maxHeartbeats 2000000
set_option simprocs false
theorem ro1 {s m : Nat} {f : Nat → List SV} : ∀ (i : Nat) (e : Ent), ([some (.lst s m f)] : Hp)[i]? = some (some e) → e.mut = false
  | 0, e, h => by cases h; rfl
  | i + 1, e, h => by simp at h; cases h
theorem fn_add {P : Program} {f : Nat} {az : List SV} {H H' N : Hp} {x : SV} (h : Fn P f az H (Rt x (H ++ N))) (hro : ∀ (i : Nat) (e : Ent), H[i]? = some (some e) → e.mut = false) (hw : ∀ G w, Mem H' G w → Mem H G w) (hl : H'.length = H.length) (hNm : ∀ (j : Nat) (e : Ent), H'.length ≤ j → (H ++ N)[j]? = some (some e) → e.mut = false → False) : Fn P f az H' (Rt x (H' ++ N)) := by
  refine ⟨h.1, fun G w vs hM hv => Calls.mono (h.2 G w vs (hw G w hM) hv) fun e w' hp => ?_⟩
  obtain ⟨y, H2, F, v, ⟨rfl, rfl⟩, h1, h2, h3, hmix, h5, h6, h7⟩ := hp
  have hk : ∀ k, (keys H G).contains k = false := fun k => by
    cases hc : (keys H G).contains k with
    | false => rfl
    | true =>
      obtain ⟨i, e', L, q1, q2, _⟩ := mem_keys.1 hc
      rw [hro i e' q1] at q2; cases q2
  have hg : Grow w w' := ⟨hmix.os, hmix.tape, hmix.output, hmix.size, fun k hk' => hmix.block k hk' (hk k)⟩
  have hGl := hM.len
  have hFl := h3.len
  have old : ∀ (i : Nat) (e : Ent), (H' ++ N)[i]? = some (some e) → (i < H'.length ∧ H'[i]? = some (some e) ∧ (G ++ F)[i]? = G[i]?) ∨ (H'.length ≤ i ∧ (H ++ N)[i]? = some (some e)) := by
    intro i e he
    by_cases hi : i < H'.length
    · rw [List.getElem?_append_left hi] at he; exact .inl ⟨hi, he, by rw [List.getElem?_append_left (by omega)]⟩
    · rw [List.getElem?_append_right (by omega)] at he; exact .inr ⟨by omega, by rw [List.getElem?_append_right (by omega), ← hl]; exact he⟩
  have lo : ∀ (i : Nat) (e : Ent) (L : Loc), H'[i]? = some (some e) → G[i]? = some (some L) → ¬ e.empty → L.b < w.heap.size := fun i e L q1 q2 q3 => by
    have := hM.ent i e q1
    rw [q2] at this
    exact EntOK.lt this q3
  have hi' : ∀ (i : Nat) (e : Ent) (L : Loc), (H ++ N)[i]? = some (some e) → e.mut = true → (G ++ F)[i]? = some (some L) → w.heap.size ≤ L.b := fun i e L q1 q2 q3 => by
    rcases h7 i e q1 q2 L q3 with q | q
    · rw [hk] at q; cases q
    · exact q
  refine ⟨_, H' ++ N, F, v, ⟨rfl, rfl⟩, h1, h2, ⟨by rw [List.length_append, hl, ← List.length_append]; exact hFl, fun i e he => ?_, fun i j e f' L M hij e1 e2 e3 e4 e5 e6 => ?_⟩, (Mix.refl _ w).grow hg, by rw [List.length_append]; omega, fun i e he hm => ?_, fun i e he hm L hL => ?_⟩
  · rcases old i e he with ⟨q0, q1, q2⟩ | ⟨_, q1⟩
    · rw [q2]; exact ((hM.ent i e q1).mix hg.mix (fun _ _ _ => rfl)).more F
    · exact h3.ent i e q1
  · rcases old i e e1 with ⟨q0, q1, q2⟩ | ⟨q0, q1⟩
    · rw [q2] at e4
      rcases old j f' e2 with ⟨r0, r1, r2⟩ | ⟨r0, r1⟩
      · rw [r2] at e5; exact hM.sep i j e f' L M hij q1 r1 e3 e4 e5 e6
      · have a1 := lo i e L q1 e4 (mut_full e3)
        cases hm : f'.mut with
        | true => have a2 := hi' j f' M r1 hm e5; omega
        | false =>
          intro heq
          exact hNm j f' r0 r1 hm
    · rcases old j f' e2 with ⟨r0, r1, r2⟩ | ⟨r0, r1⟩
      · rw [r2] at e5
        have a1 := lo j f' M r1 e5 e6
        have a2 := hi' i e L q1 e3 e4
        omega
      · exact h3.sep i j e f' L M hij q1 r1 e3 e4 e5 e6
  · rcases old i e he with ⟨q0, q1, q2⟩ | ⟨q0, q1⟩
    · exact q1
    · exact absurd (hNm i e q0 q1 hm) id
  · rcases old i e he with ⟨q0, q1, q2⟩ | ⟨q0, q1⟩
    · rw [q2] at hL; exact .inl (mem_keys.2 ⟨i, e, L, q1, hm, hL, rfl⟩)
    · exact .inr (hi' i e L q1 hm hL)
theorem sortG_ (os d : List O) (c : Nat) (hs : os.length ≤ 1000000) (ho : ∀ y ∈ os, Can y) : Fn Tryd.prog 14 [.sl 0 os.length c] [some (.row 26 27 ((os ++ d).length) 0 (fun zz => oc ((os ++ d).getD zz oz)))] (Rt (.sl 1 (sortO os).length 0) ([some (.row 26 27 ((os ++ d).length) 0 (fun zz => oc ((os ++ d).getD zz oz)))] ++ [some (.row 26 27 ((sortO os).length) 0 (fun zz => oc ((sortO os).getD zz oz)))])) := by
  have h := sort_ os c hs
  rw [sort_eq ho] at h
  refine fn_add (H := [some (.lst 27 os.length (fun zz => oc (os.getD zz oz)))]) (N := [some (.row 26 27 ((sortO os).length) 0 (fun zz => oc ((sortO os).getD zz oz)))]) h ro1 (fun G w hM => ?_) rfl (fun j e hj he hm => ?_)
  · have A : Sy 0 [] _ (keys _ G) G w G ⟨#[], []⟩ w := ⟨rfl, rfl, fun t x hx => (by cases hx), hM, ⟨[], by simp⟩, fun i e L h1 h2 h3 => .inl (mem_keys.2 ⟨i, e, L, h1, h2, h3, rfl⟩), Mix.refl _ _⟩
    have B := (A.shrink 0 os.length rfl (by simp)).freeze 0 rfl
    have C := B.mem
    refine ⟨C.len, fun i e he => ?_, fun i j e f L M hij h1 => ?_⟩
    · match i, he with
      | 0, he =>
        cases he
        obtain ⟨k1, k2⟩ := C.ent 0 _ rfl
        refine ⟨fun k => ⟨_, rfl⟩, ?_⟩
        rcases k2 with k2 | ⟨L, g1, g2, g3⟩
        · exact .inl k2
        · refine .inr ⟨L, g1, g2, fun k hk => ?_⟩
          obtain ⟨vs, g4, g5⟩ := g3 k hk
          refine ⟨vs, ?_, g5⟩
          have e1 : (os ++ d).getD k oz = os.getD k oz := getD_app_l hk
          rw [← g4]; show denL [] (oc (os.getD k oz)) = denL [] (oc ((os ++ d).getD k oz)); rw [e1]
      | i + 1, he => simp at he; cases he
    · match i, h1 with
      | 0, h1 => cases h1; exact fun _ hm => by cases hm
      | i + 1, h1 => simp at h1; cases h1
  · match j, hj, he with
    | 1, _, he => cases he; cases hm
    | j + 2, _, he => simp at he; cases he
theorem srt_at {l : List O} (h : Srt l) {i j : Nat} (hij : i < j) (hj : j < l.length) : lessO (l.getD i oz) (l.getD j oz) = true := by
  have := List.pairwise_iff_getElem.1 h i j (by omega) hj hij
  rwa [show l.getD i oz = l[i] by simp [List.getD, show i < l.length by omega], show l.getD j oz = l[j] by simp [List.getD, hj]]
section
variable {os : List O} {i : Nat} (ho : ∀ y ∈ os, Can y) (hi : (i : Int) < (((sortO os).length : Nat) : Int))
include ho hi
theorem lt_prev (h0 : (i : Int) > 0) : lessO ((sortO os).getD (((i : Int) - 1)).toNat oz) ((sortO os).getD ((i : Int)).toNat oz) = true := srt_at (sortO_srt ho).1 (by omega) (by omega)
theorem lt_head : lessO ((sortO os).getD ((i : Int)).toNat oz) ((sortO os).getD ((0 : Int)).toNat oz) = false := by
  by_cases h : i = 0
  · subst h; exact less_irr _
  · exact less_asym (srt_at (sortO_srt ho).1 (by omega) (by omega))
end
theorem no83 {i : Nat} {a l1 l2 : Bool} (h1 : l2 = false) (h2 : (i : Int) > 0 → l1 = true) (ha : a = true) : ¬ ((((!a) || (decide ((i : Int) > 0) && (!l1))) || l2) = true) := by
  subst h1 ha
  by_cases h0 : (i : Int) > 0
  · rw [h2 h0]; simp
  · rw [decide_eq_false h0]; cases l1 <;> simp
theorem sorts_ (os : List O) (c : Nat) (b : Nat) (o : Obj) (hT : ∀ w : World, w.heap[b]? = some o → Lib.TabIs Tryd.prog w "internal/strconv.uint64pow10" .u64 Lib.pow10Tab) (ho : ∀ y ∈ os, Can y) : Fn Tryd.prog 4 [.sl 0 os.length c] [some (.lst 27 os.length (fun zz => oc (os.getD zz oz))), some (.fac b o)] (Rt (.tt) [some (.lst 27 os.length (fun zz => oc (os.getD zz oz))), some (.fac b o)]) :=
 enterM (n := 118) (by kernel_rfl) Tryd.func4 rfl rfl rfl fun G w a h0 A => N hX 8 A rfl rfl fun A => CALL1 [1] (able_ b o hT) A rfl rfl rfl rfl rfl rfl rfl fun A => N hX 14 A rfl rfl fun A => forkD 12 A rfl
  (fun h2 A => N hX 7 A rfl rfl fun A => RETN hX A rfl rfl rfl h0 rfl rfl rfl rfl rfl rfl)
  (fun h2 A => N hX 7 A rfl rfl fun A => APPL hX (os.length) (fun zz => oc (os.getD zz oz)) A rfl rfl rfl rfl (Nat.le_refl _) (by (try simp only [List.length_append, List.length_cons, List.length_nil]); (try have := sort_len os); omega) (by (try simp only [List.length_append, List.length_cons, List.length_nil]); (try have := sort_len os); omega) (by rw [Nat.zero_add]) (fun k hk => by omega) (fun k hk => by show oc _ = oc _; rw [Nat.zero_add]) (fun z => ⟨_, rfl, rfl⟩) (fun k hk => ⟨_, rfl, okE_nil⟩) fun A => N hX 3 A rfl rfl fun A => have A := A.asT oz oc 27 tyO.1 tyO.2.1 tyO.2.2 ([(fun k => if k = 24 then (-77) else 0)] : List O) 4 rfl; APPL hX ((os ++ ([(fun k => if k = 24 then (-77) else 0)] : List O)).length) (fun zz => oc ((os ++ ([(fun k => if k = 24 then (-77) else 0)] : List O)).getD zz oz)) A rfl rfl rfl rfl (Nat.le_refl _) (by (try simp only [List.length_append, List.length_cons, List.length_nil]); (try have := sort_len os); omega) (by (try simp only [List.length_append, List.length_cons, List.length_nil]); (try have := sort_len os); omega) List.length_append (fun k hk => by show oc _ = oc _; rw [getD_app_l hk]) (fun k hk => by show oc _ = oc _; rw [getD_app_r]) (fun z => ⟨_, rfl, rfl⟩) (fun k hk => ⟨_, rfl, okE_nil⟩) fun A => N hX 9 A rfl (ok_d (by show 0 ≤ ((os.length : Nat) : Int) ∧ ((os.length : Nat) : Int) ≤ (((os ++ ([(fun k => if k = 24 then (-77) else 0)] : List O)).length : Nat) : Int); exact (by (try simp only [List.length_append, List.length_cons, List.length_nil]); (try have := sort_len os); omega)) <| okE_nil) fun A => CALL1 [5] (sortG_ os ([(fun k => if k = 24 then -77 else 0)] : List O) 0 (by (try simp only [List.length_append, List.length_cons, List.length_nil]); (try have := sort_len os); omega) ho) A rfl rfl rfl rfl rfl rfl rfl fun A => N hX 6 A rfl rfl fun A => CALL1 [0] (rsort_ os c (by (try simp only [List.length_append, List.length_cons, List.length_nil]); (try have := sort_len os); omega)) A rfl rfl rfl rfl rfl rfl rfl fun A => N hX 23 A rfl (ok_r <| ok_r <| ok_r <| ok_g (fun hg => (by (try (have hz : (_ && decide ((i : Int) > 0)) = true := hg; rw [Bool.and_eq_true, decide_eq_true_eq] at hz)); (try simp only [List.length_append, List.length_cons, List.length_nil]); (try have := sort_len os); omega)) <| ok_r <| ok_g (fun hg => (by (try (have hz : (_ && decide ((i : Int) > 0)) = true := hg; rw [Bool.and_eq_true, decide_eq_true_eq] at hz)); (try simp only [List.length_append, List.length_cons, List.length_nil]); (try have := sort_len os); omega)) <| ok_r <| ok_g (fun hg => (by (try (have hz : (_ && decide ((i : Int) > 0)) = true := hg; rw [Bool.and_eq_true, decide_eq_true_eq] at hz)); (try simp only [List.length_append, List.length_cons, List.length_nil]); (try have := sort_len os); omega)) <| ok_g (fun hg => (by (try (have hz : (_ && decide ((i : Int) > 0)) = true := hg; rw [Bool.and_eq_true, decide_eq_true_eq] at hz)); (try simp only [List.length_append, List.length_cons, List.length_nil]); (try have := sort_len os); omega)) <| ok_r <| ok_g (fun hg => (by (try (have hz : (_ && decide ((i : Int) > 0)) = true := hg; rw [Bool.and_eq_true, decide_eq_true_eq] at hz)); (try simp only [List.length_append, List.length_cons, List.length_nil]); (try have := sort_len os); omega)) <| ok_g (fun hg => (by (try (have hz : (_ && decide ((i : Int) > 0)) = true := hg; rw [Bool.and_eq_true, decide_eq_true_eq] at hz)); (try simp only [List.length_append, List.length_cons, List.length_nil]); (try have := sort_len os); omega)) <| ok_r <| ok_r <| okE_nil) fun A => fork 41 A rfl
   (fun h3 A => absurd h3 (by rw [Int.toNat_natCast, getD_app_1]; simp))
   (fun h3 A => N hX 10 A rfl rfl fun A => LOOP1 (fun (i : Nat) => [(0, .sl 0 os.length c), (2, .ff), (3, .sl 5 ((os ++ ([(fun k => if k = 24 then (-77) else 0)] : List O)).length) 0), (4, .sl 6 ((sortO os).length) 0), (5, .sl 7 ((sortO os).length) 0), (6, .int .i64 (i : Int))]) (fun (i : Nat) => [some (.lst 27 os.length (fun zz => oc (os.getD zz oz))), some (.fac b o), none, none, some (.lst 27 (([(fun k => if k = 24 then (-77) else 0)] : List O).length) (fun zz => oc (([(fun k => if k = 24 then (-77) else 0)] : List O).getD zz oz))), some (.row 26 27 ((os ++ ([(fun k => if k = 24 then -77 else 0)] : List O)).length) 0 (fun zz => oc ((os ++ ([(fun k => if k = 24 then -77 else 0)] : List O)).getD zz oz))), some (.row 26 27 ((sortO os).length) 0 (fun zz => oc ((sortO os).getD zz oz))), some (.row 26 27 ((sortO os).length) 0 (fun zz => oc ((sortO os).getD zz oz)))]) (fun (i : Nat) => i ≤ (sortO os).length) (fun (i : Nat) => (sortO os).length - i) 0 (Nat.zero_le _) ((A.cut [0, 2, 3, 4, 5, 6] rfl).trunc 8 rfl rfl rfl (by simp only [List.length_cons, List.length_nil] at h0; omega)) fun i hI {G a w} A => N hX 9 A rfl rfl fun A => forkD 45 A rfl
     (fun h5 A => N hX 6 A rfl rfl fun A => DRAWN hX hmo [(22, .opt ((!(!(((((sortO os).getD (((i : Int)).toNat) oz 0) == ((sortO os).getD (((i : Int)).toNat) oz 0)) && ((((sortO os).getD (((i : Int)).toNat) oz 1) == ((sortO os).getD (((i : Int)).toNat) oz 1)) && ((((sortO os).getD (((i : Int)).toNat) oz 2) == ((sortO os).getD (((i : Int)).toNat) oz 2)) && ((((sortO os).getD (((i : Int)).toNat) oz 3) == ((sortO os).getD (((i : Int)).toNat) oz 3)) && ((((sortO os).getD (((i : Int)).toNat) oz 4) == ((sortO os).getD (((i : Int)).toNat) oz 4)) && ((((sortO os).getD (((i : Int)).toNat) oz 5) == ((sortO os).getD (((i : Int)).toNat) oz 5)) && ((((sortO os).getD (((i : Int)).toNat) oz 6) == ((sortO os).getD (((i : Int)).toNat) oz 6)) && ((((sortO os).getD (((i : Int)).toNat) oz 7) == ((sortO os).getD (((i : Int)).toNat) oz 7)) && ((((sortO os).getD (((i : Int)).toNat) oz 8) == ((sortO os).getD (((i : Int)).toNat) oz 8)) && ((((sortO os).getD (((i : Int)).toNat) oz 9) == ((sortO os).getD (((i : Int)).toNat) oz 9)) && ((((sortO os).getD (((i : Int)).toNat) oz 10) == ((sortO os).getD (((i : Int)).toNat) oz 10)) && ((((sortO os).getD (((i : Int)).toNat) oz 11) == ((sortO os).getD (((i : Int)).toNat) oz 11)) && ((((sortO os).getD (((i : Int)).toNat) oz 12) == ((sortO os).getD (((i : Int)).toNat) oz 12)) && ((((sortO os).getD (((i : Int)).toNat) oz 13) == ((sortO os).getD (((i : Int)).toNat) oz 13)) && ((((sortO os).getD (((i : Int)).toNat) oz 14) == ((sortO os).getD (((i : Int)).toNat) oz 14)) && ((((sortO os).getD (((i : Int)).toNat) oz 15) == ((sortO os).getD (((i : Int)).toNat) oz 15)) && ((((sortO os).getD (((i : Int)).toNat) oz 16) == ((sortO os).getD (((i : Int)).toNat) oz 16)) && ((((sortO os).getD (((i : Int)).toNat) oz 17) == ((sortO os).getD (((i : Int)).toNat) oz 17)) && ((((sortO os).getD (((i : Int)).toNat) oz 18) == ((sortO os).getD (((i : Int)).toNat) oz 18)) && ((((sortO os).getD (((i : Int)).toNat) oz 19) == ((sortO os).getD (((i : Int)).toNat) oz 19)) && ((((sortO os).getD (((i : Int)).toNat) oz 20) == ((sortO os).getD (((i : Int)).toNat) oz 20)) && ((((sortO os).getD (((i : Int)).toNat) oz 21) == ((sortO os).getD (((i : Int)).toNat) oz 21)) && ((((sortO os).getD (((i : Int)).toNat) oz 22) == ((sortO os).getD (((i : Int)).toNat) oz 22)) && ((((sortO os).getD (((i : Int)).toNat) oz 23) == ((sortO os).getD (((i : Int)).toNat) oz 23)) && ((((sortO os).getD (((i : Int)).toNat) oz 24) == ((sortO os).getD (((i : Int)).toNat) oz 24)) && ((((sortO os).getD (((i : Int)).toNat) oz 25) == ((sortO os).getD (((i : Int)).toNat) oz 25)) && (((sortO os).getD (((i : Int)).toNat) oz 26) == ((sortO os).getD (((i : Int)).toNat) oz 26))))))))))))))))))))))))))))))) && (decide ((i : Int) > 0))) (.bool (lessO ((sortO os).getD (((i : Int) - 1).toNat) oz) ((sortO os).getD (((i : Int)).toNat) oz)))), (34, .opt (!((!(((((sortO os).getD (((i : Int)).toNat) oz 0) == ((sortO os).getD (((i : Int)).toNat) oz 0)) && ((((sortO os).getD (((i : Int)).toNat) oz 1) == ((sortO os).getD (((i : Int)).toNat) oz 1)) && ((((sortO os).getD (((i : Int)).toNat) oz 2) == ((sortO os).getD (((i : Int)).toNat) oz 2)) && ((((sortO os).getD (((i : Int)).toNat) oz 3) == ((sortO os).getD (((i : Int)).toNat) oz 3)) && ((((sortO os).getD (((i : Int)).toNat) oz 4) == ((sortO os).getD (((i : Int)).toNat) oz 4)) && ((((sortO os).getD (((i : Int)).toNat) oz 5) == ((sortO os).getD (((i : Int)).toNat) oz 5)) && ((((sortO os).getD (((i : Int)).toNat) oz 6) == ((sortO os).getD (((i : Int)).toNat) oz 6)) && ((((sortO os).getD (((i : Int)).toNat) oz 7) == ((sortO os).getD (((i : Int)).toNat) oz 7)) && ((((sortO os).getD (((i : Int)).toNat) oz 8) == ((sortO os).getD (((i : Int)).toNat) oz 8)) && ((((sortO os).getD (((i : Int)).toNat) oz 9) == ((sortO os).getD (((i : Int)).toNat) oz 9)) && ((((sortO os).getD (((i : Int)).toNat) oz 10) == ((sortO os).getD (((i : Int)).toNat) oz 10)) && ((((sortO os).getD (((i : Int)).toNat) oz 11) == ((sortO os).getD (((i : Int)).toNat) oz 11)) && ((((sortO os).getD (((i : Int)).toNat) oz 12) == ((sortO os).getD (((i : Int)).toNat) oz 12)) && ((((sortO os).getD (((i : Int)).toNat) oz 13) == ((sortO os).getD (((i : Int)).toNat) oz 13)) && ((((sortO os).getD (((i : Int)).toNat) oz 14) == ((sortO os).getD (((i : Int)).toNat) oz 14)) && ((((sortO os).getD (((i : Int)).toNat) oz 15) == ((sortO os).getD (((i : Int)).toNat) oz 15)) && ((((sortO os).getD (((i : Int)).toNat) oz 16) == ((sortO os).getD (((i : Int)).toNat) oz 16)) && ((((sortO os).getD (((i : Int)).toNat) oz 17) == ((sortO os).getD (((i : Int)).toNat) oz 17)) && ((((sortO os).getD (((i : Int)).toNat) oz 18) == ((sortO os).getD (((i : Int)).toNat) oz 18)) && ((((sortO os).getD (((i : Int)).toNat) oz 19) == ((sortO os).getD (((i : Int)).toNat) oz 19)) && ((((sortO os).getD (((i : Int)).toNat) oz 20) == ((sortO os).getD (((i : Int)).toNat) oz 20)) && ((((sortO os).getD (((i : Int)).toNat) oz 21) == ((sortO os).getD (((i : Int)).toNat) oz 21)) && ((((sortO os).getD (((i : Int)).toNat) oz 22) == ((sortO os).getD (((i : Int)).toNat) oz 22)) && ((((sortO os).getD (((i : Int)).toNat) oz 23) == ((sortO os).getD (((i : Int)).toNat) oz 23)) && ((((sortO os).getD (((i : Int)).toNat) oz 24) == ((sortO os).getD (((i : Int)).toNat) oz 24)) && ((((sortO os).getD (((i : Int)).toNat) oz 25) == ((sortO os).getD (((i : Int)).toNat) oz 25)) && (((sortO os).getD (((i : Int)).toNat) oz 26) == ((sortO os).getD (((i : Int)).toNat) oz 26)))))))))))))))))))))))))))))) || ((decide ((i : Int) > 0)) && (!(lessO ((sortO os).getD (((i : Int) - 1).toNat) oz) ((sortO os).getD (((i : Int)).toNat) oz)))))) (.bool (lessO ((sortO os).getD (((i : Int)).toNat) oz) ((sortO os).getD (((0 : Int)).toNat) oz))))] [] A rfl (ok_d (by (try simp only [List.length_append, List.length_cons, List.length_nil]); (try have := sort_len os); omega) <| ok_d (by (try simp only [List.length_append, List.length_cons, List.length_nil]); (try have := sort_len os); omega) <| ok_d (by (try simp only [List.length_append, List.length_cons, List.length_nil]); (try have := sort_len os); omega) <| ok_d (by (try simp only [List.length_append, List.length_cons, List.length_nil]); (try have := sort_len os); omega) <| ok_r <| ok_r <| ok_r <| ok_g (fun hg => (by (try (have hz : (_ && decide ((i : Int) > 0)) = true := hg; rw [Bool.and_eq_true, decide_eq_true_eq] at hz)); (try simp only [List.length_append, List.length_cons, List.length_nil]); (try have := sort_len os); omega)) <| ok_r <| ok_r <| ok_g (fun hg => (by (try (have hz : (_ && decide ((i : Int) > 0)) = true := hg; rw [Bool.and_eq_true, decide_eq_true_eq] at hz)); (try simp only [List.length_append, List.length_cons, List.length_nil]); (try have := sort_len os); omega)) <| ok_r <| ok_g (fun hg => (by (try (have hz : (_ && decide ((i : Int) > 0)) = true := hg; rw [Bool.and_eq_true, decide_eq_true_eq] at hz)); (try simp only [List.length_append, List.length_cons, List.length_nil]); (try have := sort_len os); omega)) <| ok_r <| ok_r <| ok_g (fun hg => (by (try (have hz : (_ && decide ((i : Int) > 0)) = true := hg; rw [Bool.and_eq_true, decide_eq_true_eq] at hz)); (try simp only [List.length_append, List.length_cons, List.length_nil]); (try have := sort_len os); omega)) <| ok_r <| ok_g (fun hg => (by (try (have hz : (_ && decide ((i : Int) > 0)) = true := hg; rw [Bool.and_eq_true, decide_eq_true_eq] at hz)); (try simp only [List.length_append, List.length_cons, List.length_nil]); (try have := sort_len os); omega)) <| ok_r <| ok_r <| ok_r <| ok_r <| ok_r <| ok_r <| ok_g (fun hg => (by (try (have hz : (_ && decide ((i : Int) > 0)) = true := hg; rw [Bool.and_eq_true, decide_eq_true_eq] at hz)); (try simp only [List.length_append, List.length_cons, List.length_nil]); (try have := sort_len os); omega)) <| ok_r <| ok_g (fun hg => (by (try (have hz : (_ && decide ((i : Int) > 0)) = true := hg; rw [Bool.and_eq_true, decide_eq_true_eq] at hz)); (try simp only [List.length_append, List.length_cons, List.length_nil]); (try have := sort_len os); omega)) <| ok_r <| ok_g (fun hg => (by (try (have hz : (_ && decide ((i : Int) > 0)) = true := hg; rw [Bool.and_eq_true, decide_eq_true_eq] at hz)); (try simp only [List.length_append, List.length_cons, List.length_nil]); (try have := sort_len os); omega)) <| ok_r <| ok_g (fun hg => (by (try (have hz : (_ && decide ((i : Int) > 0)) = true := hg; rw [Bool.and_eq_true, decide_eq_true_eq] at hz)); (try simp only [List.length_append, List.length_cons, List.length_nil]); (try have := sort_len os); omega)) <| ok_r <| okE_nil) rfl rfl (by kernel_rfl) (effAll_nil _ _) ⟨.inr ⟨_, _, _, _, _, _, rfl, rfl, rfl, rfl, rfl, fun hg => less_ ((sortO os).getD (((i : Int) - 1).toNat) oz) ((sortO os).getD (((i : Int)).toNat) oz)⟩, ⟨.inr ⟨_, _, _, _, _, _, rfl, rfl, rfl, rfl, rfl, fun hg => less_ ((sortO os).getD (((i : Int)).toNat) oz) ((sortO os).getD (((0 : Int)).toNat) oz)⟩, trivial⟩⟩ fun A => N hX 1 A rfl rfl fun A => fork 83 A rfl
      (fun h6 A => absurd h6 (no83 (lt_head ho h5) (lt_prev ho h5) (by simp)))
      (fun h6 A => N hX 9 A rfl (ok_d (by (try simp only [List.length_append, List.length_cons, List.length_nil]); (try have := sort_len os); omega) <| okE_nil) fun A => ⟨i + 1, _, (by omega), (by omega), ((A.cut [0, 2, 3, 4, 5, 6] rfl).trunc 8 rfl rfl rfl (by simp only [List.length_cons, List.length_nil] at h0; omega))⟩))
     (fun h5 A => N hX 10 A rfl rfl fun A => LOOP1 (fun (j : Nat) => [(0, .sl 0 os.length c), (2, .ff), (3, .sl 5 ((os ++ ([(fun k => if k = 24 then (-77) else 0)] : List O)).length) 0), (7, .int .i64 (j : Int))]) (fun (j : Nat) => [some (.lst 27 os.length (fun zz => oc (os.getD zz oz))), some (.fac b o), none, none, some (.lst 27 (([(fun k => if k = 24 then (-77) else 0)] : List O).length) (fun zz => oc (([(fun k => if k = 24 then (-77) else 0)] : List O).getD zz oz))), some (.row 26 27 ((os ++ ([(fun k => if k = 24 then -77 else 0)] : List O)).length) 0 (fun zz => oc ((os ++ ([(fun k => if k = 24 then -77 else 0)] : List O)).getD zz oz))), some (.row 26 27 ((sortO os).length) 0 (fun zz => oc ((sortO os).getD zz oz))), some (.row 26 27 ((sortO os).length) 0 (fun zz => oc ((sortO os).getD zz oz)))]) (fun (j : Nat) => j ≤ os.length) (fun (j : Nat) => os.length - j) 0 (Nat.zero_le _) ((A.cut [0, 2, 3, 7] rfl).trunc 8 rfl rfl rfl (by simp only [List.length_cons, List.length_nil] at h0; omega)) fun j hJ {G a w} A => N hX 9 A rfl rfl fun A => forkD 87 A rfl
       (fun h8 A => N hX 6 A rfl rfl fun A => DRAWN hX hmo [(17, .opt (!(!(((((os ++ ([(fun k => if k = 24 then -77 else 0)] : List O)).getD (((j : Int)).toNat) oz 0) == (os.getD (((j : Int)).toNat) oz 0)) && ((((os ++ ([(fun k => if k = 24 then -77 else 0)] : List O)).getD (((j : Int)).toNat) oz 1) == (os.getD (((j : Int)).toNat) oz 1)) && ((((os ++ ([(fun k => if k = 24 then -77 else 0)] : List O)).getD (((j : Int)).toNat) oz 2) == (os.getD (((j : Int)).toNat) oz 2)) && ((((os ++ ([(fun k => if k = 24 then -77 else 0)] : List O)).getD (((j : Int)).toNat) oz 3) == (os.getD (((j : Int)).toNat) oz 3)) && ((((os ++ ([(fun k => if k = 24 then -77 else 0)] : List O)).getD (((j : Int)).toNat) oz 4) == (os.getD (((j : Int)).toNat) oz 4)) && ((((os ++ ([(fun k => if k = 24 then -77 else 0)] : List O)).getD (((j : Int)).toNat) oz 5) == (os.getD (((j : Int)).toNat) oz 5)) && ((((os ++ ([(fun k => if k = 24 then -77 else 0)] : List O)).getD (((j : Int)).toNat) oz 6) == (os.getD (((j : Int)).toNat) oz 6)) && ((((os ++ ([(fun k => if k = 24 then -77 else 0)] : List O)).getD (((j : Int)).toNat) oz 7) == (os.getD (((j : Int)).toNat) oz 7)) && ((((os ++ ([(fun k => if k = 24 then -77 else 0)] : List O)).getD (((j : Int)).toNat) oz 8) == (os.getD (((j : Int)).toNat) oz 8)) && ((((os ++ ([(fun k => if k = 24 then -77 else 0)] : List O)).getD (((j : Int)).toNat) oz 9) == (os.getD (((j : Int)).toNat) oz 9)) && ((((os ++ ([(fun k => if k = 24 then -77 else 0)] : List O)).getD (((j : Int)).toNat) oz 10) == (os.getD (((j : Int)).toNat) oz 10)) && ((((os ++ ([(fun k => if k = 24 then -77 else 0)] : List O)).getD (((j : Int)).toNat) oz 11) == (os.getD (((j : Int)).toNat) oz 11)) && ((((os ++ ([(fun k => if k = 24 then -77 else 0)] : List O)).getD (((j : Int)).toNat) oz 12) == (os.getD (((j : Int)).toNat) oz 12)) && ((((os ++ ([(fun k => if k = 24 then -77 else 0)] : List O)).getD (((j : Int)).toNat) oz 13) == (os.getD (((j : Int)).toNat) oz 13)) && ((((os ++ ([(fun k => if k = 24 then -77 else 0)] : List O)).getD (((j : Int)).toNat) oz 14) == (os.getD (((j : Int)).toNat) oz 14)) && ((((os ++ ([(fun k => if k = 24 then -77 else 0)] : List O)).getD (((j : Int)).toNat) oz 15) == (os.getD (((j : Int)).toNat) oz 15)) && ((((os ++ ([(fun k => if k = 24 then -77 else 0)] : List O)).getD (((j : Int)).toNat) oz 16) == (os.getD (((j : Int)).toNat) oz 16)) && ((((os ++ ([(fun k => if k = 24 then -77 else 0)] : List O)).getD (((j : Int)).toNat) oz 17) == (os.getD (((j : Int)).toNat) oz 17)) && ((((os ++ ([(fun k => if k = 24 then -77 else 0)] : List O)).getD (((j : Int)).toNat) oz 18) == (os.getD (((j : Int)).toNat) oz 18)) && ((((os ++ ([(fun k => if k = 24 then -77 else 0)] : List O)).getD (((j : Int)).toNat) oz 19) == (os.getD (((j : Int)).toNat) oz 19)) && ((((os ++ ([(fun k => if k = 24 then -77 else 0)] : List O)).getD (((j : Int)).toNat) oz 20) == (os.getD (((j : Int)).toNat) oz 20)) && ((((os ++ ([(fun k => if k = 24 then -77 else 0)] : List O)).getD (((j : Int)).toNat) oz 21) == (os.getD (((j : Int)).toNat) oz 21)) && ((((os ++ ([(fun k => if k = 24 then -77 else 0)] : List O)).getD (((j : Int)).toNat) oz 22) == (os.getD (((j : Int)).toNat) oz 22)) && ((((os ++ ([(fun k => if k = 24 then -77 else 0)] : List O)).getD (((j : Int)).toNat) oz 23) == (os.getD (((j : Int)).toNat) oz 23)) && ((((os ++ ([(fun k => if k = 24 then -77 else 0)] : List O)).getD (((j : Int)).toNat) oz 24) == (os.getD (((j : Int)).toNat) oz 24)) && ((((os ++ ([(fun k => if k = 24 then -77 else 0)] : List O)).getD (((j : Int)).toNat) oz 25) == (os.getD (((j : Int)).toNat) oz 25)) && (((os ++ ([(fun k => if k = 24 then -77 else 0)] : List O)).getD (((j : Int)).toNat) oz 26) == (os.getD (((j : Int)).toNat) oz 26))))))))))))))))))))))))))))))) (.bool (lessO (os.getD (((0 : Int)).toNat) oz) (os.getD (((j : Int)).toNat) oz)))), (25, .opt (!(!(((((os ++ ([(fun k => if k = 24 then -77 else 0)] : List O)).getD (((j : Int)).toNat) oz 0) == (os.getD (((j : Int)).toNat) oz 0)) && ((((os ++ ([(fun k => if k = 24 then -77 else 0)] : List O)).getD (((j : Int)).toNat) oz 1) == (os.getD (((j : Int)).toNat) oz 1)) && ((((os ++ ([(fun k => if k = 24 then -77 else 0)] : List O)).getD (((j : Int)).toNat) oz 2) == (os.getD (((j : Int)).toNat) oz 2)) && ((((os ++ ([(fun k => if k = 24 then -77 else 0)] : List O)).getD (((j : Int)).toNat) oz 3) == (os.getD (((j : Int)).toNat) oz 3)) && ((((os ++ ([(fun k => if k = 24 then -77 else 0)] : List O)).getD (((j : Int)).toNat) oz 4) == (os.getD (((j : Int)).toNat) oz 4)) && ((((os ++ ([(fun k => if k = 24 then -77 else 0)] : List O)).getD (((j : Int)).toNat) oz 5) == (os.getD (((j : Int)).toNat) oz 5)) && ((((os ++ ([(fun k => if k = 24 then -77 else 0)] : List O)).getD (((j : Int)).toNat) oz 6) == (os.getD (((j : Int)).toNat) oz 6)) && ((((os ++ ([(fun k => if k = 24 then -77 else 0)] : List O)).getD (((j : Int)).toNat) oz 7) == (os.getD (((j : Int)).toNat) oz 7)) && ((((os ++ ([(fun k => if k = 24 then -77 else 0)] : List O)).getD (((j : Int)).toNat) oz 8) == (os.getD (((j : Int)).toNat) oz 8)) && ((((os ++ ([(fun k => if k = 24 then -77 else 0)] : List O)).getD (((j : Int)).toNat) oz 9) == (os.getD (((j : Int)).toNat) oz 9)) && ((((os ++ ([(fun k => if k = 24 then -77 else 0)] : List O)).getD (((j : Int)).toNat) oz 10) == (os.getD (((j : Int)).toNat) oz 10)) && ((((os ++ ([(fun k => if k = 24 then -77 else 0)] : List O)).getD (((j : Int)).toNat) oz 11) == (os.getD (((j : Int)).toNat) oz 11)) && ((((os ++ ([(fun k => if k = 24 then -77 else 0)] : List O)).getD (((j : Int)).toNat) oz 12) == (os.getD (((j : Int)).toNat) oz 12)) && ((((os ++ ([(fun k => if k = 24 then -77 else 0)] : List O)).getD (((j : Int)).toNat) oz 13) == (os.getD (((j : Int)).toNat) oz 13)) && ((((os ++ ([(fun k => if k = 24 then -77 else 0)] : List O)).getD (((j : Int)).toNat) oz 14) == (os.getD (((j : Int)).toNat) oz 14)) && ((((os ++ ([(fun k => if k = 24 then -77 else 0)] : List O)).getD (((j : Int)).toNat) oz 15) == (os.getD (((j : Int)).toNat) oz 15)) && ((((os ++ ([(fun k => if k = 24 then -77 else 0)] : List O)).getD (((j : Int)).toNat) oz 16) == (os.getD (((j : Int)).toNat) oz 16)) && ((((os ++ ([(fun k => if k = 24 then -77 else 0)] : List O)).getD (((j : Int)).toNat) oz 17) == (os.getD (((j : Int)).toNat) oz 17)) && ((((os ++ ([(fun k => if k = 24 then -77 else 0)] : List O)).getD (((j : Int)).toNat) oz 18) == (os.getD (((j : Int)).toNat) oz 18)) && ((((os ++ ([(fun k => if k = 24 then -77 else 0)] : List O)).getD (((j : Int)).toNat) oz 19) == (os.getD (((j : Int)).toNat) oz 19)) && ((((os ++ ([(fun k => if k = 24 then -77 else 0)] : List O)).getD (((j : Int)).toNat) oz 20) == (os.getD (((j : Int)).toNat) oz 20)) && ((((os ++ ([(fun k => if k = 24 then -77 else 0)] : List O)).getD (((j : Int)).toNat) oz 21) == (os.getD (((j : Int)).toNat) oz 21)) && ((((os ++ ([(fun k => if k = 24 then -77 else 0)] : List O)).getD (((j : Int)).toNat) oz 22) == (os.getD (((j : Int)).toNat) oz 22)) && ((((os ++ ([(fun k => if k = 24 then -77 else 0)] : List O)).getD (((j : Int)).toNat) oz 23) == (os.getD (((j : Int)).toNat) oz 23)) && ((((os ++ ([(fun k => if k = 24 then -77 else 0)] : List O)).getD (((j : Int)).toNat) oz 24) == (os.getD (((j : Int)).toNat) oz 24)) && ((((os ++ ([(fun k => if k = 24 then -77 else 0)] : List O)).getD (((j : Int)).toNat) oz 25) == (os.getD (((j : Int)).toNat) oz 25)) && (((os ++ ([(fun k => if k = 24 then -77 else 0)] : List O)).getD (((j : Int)).toNat) oz 26) == (os.getD (((j : Int)).toNat) oz 26))))))))))))))))))))))))))))))) (.bool (lessO (os.getD (((0 : Int)).toNat) oz) (os.getD (((j : Int)).toNat) oz))))] [] A rfl (ok_d (by (try simp only [List.length_append, List.length_cons, List.length_nil]); (try have := sort_len os); omega) <| ok_d (by (try simp only [List.length_append, List.length_cons, List.length_nil]); (try have := sort_len os); omega) <| ok_d (by (try simp only [List.length_append, List.length_cons, List.length_nil]); (try have := sort_len os); omega) <| ok_d (by (try simp only [List.length_append, List.length_cons, List.length_nil]); (try have := sort_len os); omega) <| ok_r <| ok_g (fun hg => (by (try (have hz : (_ && decide ((i : Int) > 0)) = true := hg; rw [Bool.and_eq_true, decide_eq_true_eq] at hz)); (try simp only [List.length_append, List.length_cons, List.length_nil]); (try have := sort_len os); omega)) <| ok_r <| ok_g (fun hg => (by (try (have hz : (_ && decide ((i : Int) > 0)) = true := hg; rw [Bool.and_eq_true, decide_eq_true_eq] at hz)); (try simp only [List.length_append, List.length_cons, List.length_nil]); (try have := sort_len os); omega)) <| ok_r <| ok_r <| ok_g (fun hg => (by (try (have hz : (_ && decide ((i : Int) > 0)) = true := hg; rw [Bool.and_eq_true, decide_eq_true_eq] at hz)); (try simp only [List.length_append, List.length_cons, List.length_nil]); (try have := sort_len os); omega)) <| ok_r <| ok_g (fun hg => (by (try (have hz : (_ && decide ((i : Int) > 0)) = true := hg; rw [Bool.and_eq_true, decide_eq_true_eq] at hz)); (try simp only [List.length_append, List.length_cons, List.length_nil]); (try have := sort_len os); omega)) <| ok_r <| ok_g (fun hg => (by (try (have hz : (_ && decide ((i : Int) > 0)) = true := hg; rw [Bool.and_eq_true, decide_eq_true_eq] at hz)); (try simp only [List.length_append, List.length_cons, List.length_nil]); (try have := sort_len os); omega)) <| ok_r <| ok_g (fun hg => (by (try (have hz : (_ && decide ((i : Int) > 0)) = true := hg; rw [Bool.and_eq_true, decide_eq_true_eq] at hz)); (try simp only [List.length_append, List.length_cons, List.length_nil]); (try have := sort_len os); omega)) <| ok_r <| ok_r <| ok_g (fun hg => (by (try (have hz : (_ && decide ((i : Int) > 0)) = true := hg; rw [Bool.and_eq_true, decide_eq_true_eq] at hz)); (try simp only [List.length_append, List.length_cons, List.length_nil]); (try have := sort_len os); omega)) <| ok_r <| ok_g (fun hg => (by (try (have hz : (_ && decide ((i : Int) > 0)) = true := hg; rw [Bool.and_eq_true, decide_eq_true_eq] at hz)); (try simp only [List.length_append, List.length_cons, List.length_nil]); (try have := sort_len os); omega)) <| ok_r <| ok_r <| ok_r <| okE_nil) rfl rfl (by kernel_rfl) (effAll_nil _ _) ⟨.inr ⟨_, _, _, _, _, _, rfl, rfl, rfl, rfl, rfl, fun hg => less_ (os.getD (((0 : Int)).toNat) oz) (os.getD (((j : Int)).toNat) oz)⟩, ⟨.inr ⟨_, _, _, _, _, _, rfl, rfl, rfl, rfl, rfl, fun hg => rless_ (os.getD (((0 : Int)).toNat) oz) (os.getD (((j : Int)).toNat) oz)⟩, trivial⟩⟩ fun A => N hX 1 A rfl rfl fun A => fork 117 A rfl
        (fun h9 A => absurd h9 (by rw [getD_app_l (l := os) (k := ((j : Int)).toNat) (by omega)]; simp))
        (fun h9 A => N hX 9 A rfl (ok_d (by (try simp only [List.length_append, List.length_cons, List.length_nil]); (try have := sort_len os); omega) <| okE_nil) fun A => ⟨j + 1, _, (by omega), (by omega), ((A.cut [0, 2, 3, 7] rfl).trunc 8 rfl rfl rfl (by simp only [List.length_cons, List.length_nil] at h0; omega))⟩))
       (fun h8 A => N hX 9 A rfl rfl fun A => RETN hX A rfl rfl rfl h0 rfl rfl rfl rfl rfl rfl))))
end Go.Proofs.YtfdfjakafiglmaaDoor
namespace Go.Proofs.YtfdfjakafiglmaaDoor
set_option linter.unusedSimpArgs false
set_option linter.unusedVariables false
set_option maxRecDepth 100000
open Go.ChangeShapes Go.WideShapes Go.ChangeAt Go.RowKit Go.Deep
section
variable {H : Type} {enc : TypeId × Value → H} {W : World} {base : Nat} {spare : Nat → Bool} {held : Bool} {base' : Nat}
theorem open_list {α : Type} [Inhabited α] {en : α → List Value} {Q : α → Prop} {t e s : Nat} {v : Value} {d : DataW H} {ps : List MemPlace} (ht : Tryd.prog.underlying t = some (.slice e)) (hc : Tryd.prog.cellsOf e = s) (h0 : 0 < s)
    (hel : ∀ cs n x, DataW.trod enc Tryd.prog W base' spare held n e cs = some x → cs.length = s → ∃ y : α, cs = en y ∧ Q y)
    (hv : Value.okWide Tryd.prog W .any base t v) (h : DataW.Trod enc Tryd.prog W base' spare held t v d ps) :
    ∃ (ao : Option Addr) (l : List α) (cap : Nat), v = .slice ao l.length cap ∧ l.length ≤ maxLen ∧ Sl en s W.heap.size W v l ∧ ∀ y ∈ l, Q y := by
  obtain ⟨a0, len0, cap0, rfl⟩ := okWide_slice ht hv
  obtain ⟨fuel, hf⟩ := h
  rcases open_slice ht hf with ⟨hcs, _⟩ | ⟨a, len, cap, m, n, D, Pl, hcs, hb, hl, hm, hmm, _, hx⟩
  · simp [Value.cells] at hcs
    obtain ⟨rfl, rfl, rfl⟩ := hcs
    exact ⟨none, [], 0, rfl, by simp, Sl.nil, fun y hy => by cases hy⟩
  · simp [Value.cells] at hcs
    obtain ⟨rfl, rfl, rfl⟩ := hcs
    have hlm : len0 ≤ m := by rw [hmm]; split <;> omega
    rw [hc] at hx
    obtain ⟨Y, hY⟩ := choose_lt (α := α) (n := len0) (p := fun i y => Q y ∧ (en y).length = s ∧ ∀ k, k < s → W.cell? ((a.add (i * s)).add k) = (en y)[k]?) (fun i hi => by
      obtain ⟨cs', h1, h2⟩ := hx i (by omega)
      obtain ⟨_, hlen, hcell⟩ := World.cells?_some h1
      obtain ⟨y, rfl, hq⟩ := hel cs' n _ h2 hlen
      exact ⟨y, hq, hlen, hcell⟩)
    have hlen : ((List.range len0).map Y).length = len0 := by simp
    refine ⟨some a, (List.range len0).map Y, cap0, by rw [hlen], by rw [hlen]; omega, ⟨some a, cap0, by rw [hlen], by rw [hlen]; exact hl, fun j x hj => ?_⟩, fun y hy => ?_⟩
    · have hjl : j < len0 := by have := (List.getElem?_eq_some_iff.1 hj).1; simpa using this
      have hxe : x = Y j := by simp [hjl] at hj; exact hj.symm
      subst hxe
      obtain ⟨_, hyl, hcell⟩ := hY j hjl
      obtain ⟨b, o, spot⟩ := a
      obtain ⟨_, hy0, hcell0⟩ := hY 0 (by omega)
      have h00 := hcell0 0 h0
      rw [List.getElem?_eq_getElem (by omega)] at h00
      have hspot : spot = none := by simpa [Addr.add] using World.cell?_spot h00
      subst hspot
      refine ⟨b, o, rfl, ?_, fun k u hu => ?_⟩
      · have := World.block_lt_of_cell? W _ h00
        rw [Addr.add_mid, Addr.add_mid] at this
        exact this
      · have hk : k < s := by have := (List.getElem?_eq_some_iff.1 hu).1; omega
        have := hcell k hk
        rw [hu, Addr.add_mid, Addr.add_mid] at this
        exact this
    · obtain ⟨i, hi, rfl⟩ := List.mem_map.1 hy
      exact (hY i (by simpa using hi)).1
theorem slice_bo {t e n cap : Nat} {ao : Option Addr} (ht : Tryd.prog.underlying t = some (.slice e)) (hv : Value.okWide Tryd.prog W .any base t (.slice ao n cap)) : ∃ bo : Option (Nat × Nat), ao = bo.map fun x => ⟨x.1, x.2, none⟩ := by
  cases ao with
  | none => exact ⟨none, rfl⟩
  | some a =>
    unfold Value.okWide at hv
    rw [ht] at hv
    simp only [Cell.okWide, ht, Cell.ok] at hv
    obtain ⟨b, o, s⟩ := a
    have : s = none := hv.2.2.2.1
    subst this
    exact ⟨some (b, o), rfl⟩
def AI (enc : TypeId × Value → H) (W : World) (base' : Nat) (spare : Nat → Bool) (held : Bool) (t s : Nat) : Prop := Tryd.prog.cellsOf t = s ∧ ∀ (cs : List Value) (n : Nat) (x : DataW H × List MemPlace), DataW.trod enc Tryd.prog W base' spare held n t cs = some x → ∀ k, k < s → ∃ m : Int, cs[k]? = some (.int .i64 m) ∧ -9223372036854775808 ≤ m ∧ m ≤ 9223372036854775807
theorem wf_rng {n : Int} (h : (Lit.int .i64 n).wf = true) : -9223372036854775808 ≤ n ∧ n ≤ 9223372036854775807 := by
  have h' : (decide ((IntKind.i64).min ≤ n) && decide (n ≤ (IntKind.i64).max)) = true := h
  rw [Bool.and_eq_true, decide_eq_true_eq, decide_eq_true_eq, show (IntKind.i64).min = -9223372036854775808 from rfl, show (IntKind.i64).max = 9223372036854775807 from rfl] at h'
  exact h'
theorem AI.int : AI enc W base' spare held 3 1 := ⟨by kernel_rfl, fun cs n x h k hk => by
  obtain ⟨m, h2, _, h3⟩ := DataW.trod_int Tryd.underlying3 h
  obtain rfl : k = 0 := by omega
  exact ⟨m, by rw [h2]; rfl, wf_rng h3⟩⟩
theorem sub_at {cs : List Value} {o s j : Nat} (hj : j < s) : ((cs.drop o).take s)[j]? = cs[o + j]? := by
  rw [List.getElem?_take_of_lt hj, List.getElem?_drop]
theorem AI.arr {t n e s : Nat} (ht : Tryd.prog.underlying t = some (.array n e)) (hc : Tryd.prog.cellsOf t = n * s) (h0 : 0 < s) (he : AI enc W base' spare held e s) : AI enc W base' spare held t (n * s) := ⟨hc, fun cs f x h k hk => by
  obtain ⟨xs, m, _, _, _, hxl, hx⟩ := DataW.trod_array ht h
  have hi : k / s < n := (Nat.div_lt_iff_lt_mul h0).2 hk
  have h1 := hx (k / s) hi
  rw [he.1, List.getElem?_eq_getElem (by omega)] at h1
  obtain ⟨z, h2, h3⟩ := he.2 _ _ _ h1 (k % s) (Nat.mod_lt _ h0)
  rw [sub_at (Nat.mod_lt _ h0)] at h2
  have e : k / s * s + k % s = k := by rw [Nat.mul_comm]; exact Nat.div_add_mod k s
  rw [e] at h2
  exact ⟨z, h2, h3⟩⟩
def fldAt (P : Program) (t i : Nat) : Option (Nat × Nat) := match P.underlying t with | some (.struct fs) => (fs[i]?).map fun f => (f.offset, f.type) | _ => none
theorem AI.str {t s : Nat} {fs : Array Field} (hu : Tryd.prog.underlying t = some (.struct fs)) (hc : Tryd.prog.cellsOf t = s) (hf : ∀ k, k < s → ∃ i o u z, fldAt Tryd.prog t i = some (o, u) ∧ AI enc W base' spare held u z ∧ o ≤ k ∧ k < o + z) : AI enc W base' spare held t s := ⟨hc, fun cs n x h k hk => by
  obtain ⟨i, o, u, z, h1, h2, h3, h4⟩ := hf k hk
  obtain ⟨xs, m, _, _, _, hxl, hx⟩ := DataW.trod_struct hu h
  unfold fldAt at h1
  rw [hu] at h1
  obtain ⟨f, hf1, hf2⟩ := Option.map_eq_some_iff.1 h1
  cases hf2
  have h5 := hx i f hf1
  have hil := (Array.getElem?_eq_some_iff.1 hf1).1
  rw [h2.1, List.getElem?_eq_getElem (by omega)] at h5
  obtain ⟨q, h6, h7⟩ := h2.2 _ _ _ h5 (k - f.offset) (by omega)
  rw [sub_at (by omega), show f.offset + (k - f.offset) = k by omega] at h6
  exact ⟨q, h6, h7⟩⟩
def isStr (P : Program) (t : Nat) : Bool := match P.underlying t with | some (.struct _) => true | _ => false
theorem str_of {t : Nat} (h : isStr Tryd.prog t = true) : ∃ fs, Tryd.prog.underlying t = some (.struct fs) := by
  unfold isStr at h
  split at h
  · next fs he => exact ⟨fs, he⟩
  · cases h
theorem AI.out : AI enc W base' spare held 26 27 := by
  obtain ⟨fs, hu⟩ := str_of (t := 26) (by kernel_rfl)
  refine AI.str hu (by kernel_rfl) fun k hk => ?_
  by_cases h : k < 24
  · exact ⟨0, 0, 23, 3 * 8, by kernel_rfl, AI.arr (n := 3) (e := 22) (s := 8) (by kernel_rfl) (by kernel_rfl) (by omega) (AI.arr (n := 8) (e := 3) (s := 1) (by kernel_rfl) (by kernel_rfl) (by omega) AI.int), by omega, by omega⟩
  · exact ⟨1, 24, 24, 3 * 1, by kernel_rfl, AI.arr (n := 3) (e := 3) (s := 1) (by kernel_rfl) (by kernel_rfl) (by omega) AI.int, by omega, by omega⟩
def ocV (p : O) : List Value := (List.range 27).map fun k => .int .i64 (p k)
instance : Inhabited Cn := ⟨Cn.z⟩
theorem out_of {cs : List Value} (hl : cs.length = 27) (A : ∀ k, k < 27 → ∃ m : Int, cs[k]? = some (.int .i64 m) ∧ -9223372036854775808 ≤ m ∧ m ≤ 9223372036854775807) : ∃ y : O, cs = ocV y ∧ Can y := by
  obtain ⟨f, hf⟩ := choose_lt (α := Int) (n := 27) (p := fun k m => cs[k]? = some (.int .i64 m)) fun k hk => by obtain ⟨m, h, _⟩ := A k hk; exact ⟨m, h⟩
  refine ⟨fun k => if k < 27 then f k else 0, ?_, fun k hk => if_neg (by omega)⟩
  apply List.ext_getElem?
  intro k
  by_cases hk : k < 27
  · rw [hf k hk, ocV, List.getElem?_map, List.getElem?_range hk]; simp [hk]
  · rw [List.getElem?_eq_none (by omega), List.getElem?_eq_none (by simp [ocV]; omega)]
theorem open_ocL (cs : List Value) (n : Nat) (x : DataW H × List MemPlace) (h : DataW.trod enc Tryd.prog W base' spare held n 26 cs = some x) (hl : cs.length = 27) : ∃ y : O, cs = ocV y ∧ Can y := out_of hl (AI.out.2 cs n x h)
theorem open_outs {v : Value} {d : DataW H} {ps : List MemPlace} (hv : Value.okWide Tryd.prog W .any base 36 v) (h : DataW.Trod enc Tryd.prog W base' spare held 36 v d ps) :
    ∃ (bo : Option (Nat × Nat)) (l : List O) (cap : Nat), v = .slice (bo.map fun x => ⟨x.1, x.2, none⟩) l.length cap ∧ Sl ocV 27 W.heap.size W v l ∧ ∀ y ∈ l, Can y := by
  obtain ⟨ao, l, cap, rfl, _, hs, hq⟩ := open_list (t := 36) (e := 26) (s := 27) (by kernel_rfl) (by kernel_rfl) (by omega) open_ocL hv h
  obtain ⟨bo, rfl⟩ := slice_bo (t := 36) (e := 26) (by kernel_rfl) hv
  exact ⟨bo, l, cap, rfl, hs, hq⟩
end
theorem tab_fac {W : World} (h : Lib.TabIs Tryd.prog W "internal/strconv.uint64pow10" .u64 Lib.pow10Tab) : ∃ o, W.heap[0]? = some o ∧ ∀ w : World, w.heap[0]? = some o → Lib.TabIs Tryd.prog w "internal/strconv.uint64pow10" .u64 Lib.pow10Tab := by
  have hg : Tryd.prog.globalNamed "internal/strconv.uint64pow10" = some 0 := by kernel_rfl
  cases ho : W.heap[0]? with
  | none => unfold Lib.TabIs World.var? at h; rw [hg] at h; simp [ho] at h
  | some o =>
    refine ⟨o, rfl, fun w hw => ?_⟩
    unfold Lib.TabIs World.var? at h ⊢
    rw [hg] at h ⊢
    simp only [Option.bind_some, ho, hw] at h ⊢
    exact h
theorem lstO_of {bo : Option (Nat × Nat)} {n cap : Nat} {w : World} {l : List O} (h : Sl ocV 27 w.heap.size w (.slice (bo.map fun x => ⟨x.1, x.2, none⟩) n cap) l) : n = l.length ∧ ∀ (G F : Gr), den (G ++ (bo.map fun x => (⟨x.1, List.replicate x.2 undef, [], 0⟩ : Loc)) :: F) (.sl G.length l.length cap) = some (.slice (bo.map fun x => ⟨x.1, x.2, none⟩) n cap) ∧ EntOK (G ++ (bo.map fun x => (⟨x.1, List.replicate x.2 undef, [], 0⟩ : Loc)) :: F) w (bo.map fun x => (⟨x.1, List.replicate x.2 undef, [], 0⟩ : Loc)) (.lst 27 l.length (fun zz => oc (l.getD zz oz))) := lst_of (f := fun zz => oc (l.getD zz oz)) h (Nat.le_refl _) (fun k x hx => by show denL [] (oc (l.getD k oz)) = _; rw [List.getD_eq_getElem?_getD, hx]; rfl) (fun k => ⟨_, rfl⟩)
end Go.Proofs.YtfdfjakafiglmaaDoor
