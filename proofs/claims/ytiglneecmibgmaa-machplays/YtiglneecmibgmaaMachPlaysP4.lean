/- Right instructions. -/
import Derived.Test.YtiglneecmibgmaaMachPlaysP3
import Derived.Test.YtiglneecmibgmaaChecked
import Derived.Lib.ConvBytes
import Derived.WideLaws
import Derived.Laws.AppendOwn
import Derived.Laws.OwnMore
namespace Go.Proofs.Ytiglneecmibgmaa
open Go.RowKit
set_option linter.unusedVariables false
set_option linter.unusedSimpArgs false
set_option maxRecDepth 100000
set_option maxHeartbeats 2000000
set_option simprocs false
theorem isReg_ (r : Int)  : Fn Try.prog 42 [.int .i64 r] [] (Rt (.bool ((decide (r ≥ 0)) && (decide (r < 8)))) []) :=
 enterM (n := 9) (by kernel_rfl) Try.func42 rfl rfl rfl fun G w a h0 A => N hX 17 A rfl rfl fun A => RETN hX A rfl rfl rfl h0 rfl rfl rfl rfl rfl rfl
def isRegOrNone0 (r : Int) : Bool := if r = (-1) then true else (decide (r ≥ 0)) && (decide (r < 8))
theorem isRegOrNone_ (r : Int)  : Fn Try.prog 43 [.int .i64 r] [] (Rt (.bool (isRegOrNone0 r)) []) :=
 enterM (n := 9) (by kernel_rfl) Try.func43 rfl rfl rfl fun G w a h0 A => N hX 10 A rfl rfl fun A => forkE 5 A rfl
  (fun h1 A => N hX 7 A rfl rfl fun A => RETN hX A rfl rfl rfl h0 rfl rfl rfl rfl (by simp only [oneS, nb, nbL, nbH, isRegOrNone0, if_pos h1]) rfl)
  (fun h1 A => N hX 1 A rfl rfl fun A => CALL1 [] (isReg_ r) A rfl rfl rfl rfl rfl rfl rfl fun A => N hX 5 A rfl rfl fun A => RETN hX A rfl rfl rfl h0 rfl rfl rfl rfl (by simp only [oneS, nb, nbL, nbH, isRegOrNone0, if_neg (h1)]) rfl)
theorem isFenced_ (r : Int)  : Fn Try.prog 45 [.int .i64 r] [] (Rt (.bool (((r == 1) || (r == 2)) || (r == 3))) []) :=
 enterM (n := 13) (by kernel_rfl) Try.func45 rfl rfl rfl fun G w a h0 A => N hX 21 A rfl rfl fun A => RETN hX A rfl rfl rfl h0 rfl rfl rfl rfl rfl rfl
theorem isBranch_ (op : Int) (dst : Int) (ra : Int) (rb : Int) (imm : Int) (loc : Int) (off : Int) (ix : Int) (sz : Int) (fn : Int) (acq : Bool) (weak : Bool) (rel : Bool) (pred : Int) (succ : Int) (to_ : Int) (zero : Bool)  : Fn Try.prog 32 [.agg [.int .i64 op, .int .i64 dst, .int .i64 ra, .int .i64 rb, .int .i64 imm, .int .i64 loc, .int .i64 off, .int .i64 ix, .int .i64 sz, .int .i64 fn, .bool acq, .bool weak, .bool rel, .int .i64 pred, .int .i64 succ, .int .i64 to_, .bool zero]] [] (Rt (.bool (op == 9)) []) :=
 enterM (n := 6) (by kernel_rfl) Try.func32 rfl rfl rfl fun G w a h0 A => N hX 15 A rfl rfl fun A => RETN hX A rfl rfl rfl h0 rfl rfl rfl rfl rfl rfl
theorem Reads_ (op : Int) (dst : Int) (ra : Int) (rb : Int) (imm : Int) (loc : Int) (off : Int) (ix : Int) (sz : Int) (fn : Int) (acq : Bool) (weak : Bool) (rel : Bool) (pred : Int) (succ : Int) (to_ : Int) (zero : Bool)  : Fn Try.prog 29 [.agg [.int .i64 op, .int .i64 dst, .int .i64 ra, .int .i64 rb, .int .i64 imm, .int .i64 loc, .int .i64 off, .int .i64 ix, .int .i64 sz, .int .i64 fn, .bool acq, .bool weak, .bool rel, .int .i64 pred, .int .i64 succ, .int .i64 to_, .bool zero]] [] (Rt (.bool ((op == 4) || (op == 6))) []) :=
 enterM (n := 11) (by kernel_rfl) Try.func29 rfl rfl rfl fun G w a h0 A => N hX 20 A rfl rfl fun A => RETN hX A rfl rfl rfl h0 rfl rfl rfl rfl rfl rfl
theorem Writes_ (op : Int) (dst : Int) (ra : Int) (rb : Int) (imm : Int) (loc : Int) (off : Int) (ix : Int) (sz : Int) (fn : Int) (acq : Bool) (weak : Bool) (rel : Bool) (pred : Int) (succ : Int) (to_ : Int) (zero : Bool)  : Fn Try.prog 36 [.agg [.int .i64 op, .int .i64 dst, .int .i64 ra, .int .i64 rb, .int .i64 imm, .int .i64 loc, .int .i64 off, .int .i64 ix, .int .i64 sz, .int .i64 fn, .bool acq, .bool weak, .bool rel, .int .i64 pred, .int .i64 succ, .int .i64 to_, .bool zero]] [] (Rt (.bool ((op == 5) || (op == 6))) []) :=
 enterM (n := 11) (by kernel_rfl) Try.func36 rfl rfl rfl fun G w a h0 A => N hX 20 A rfl rfl fun A => RETN hX A rfl rfl rfl h0 rfl rfl rfl rfl rfl rfl
def isOp0 (op : Int) (dst : Int) (ra : Int) (rb : Int) (imm : Int) (loc : Int) (off : Int) (ix : Int) (sz : Int) (fn : Int) (acq : Bool) (weak : Bool) (rel : Bool) (pred : Int) (succ : Int) (to_ : Int) (zero : Bool) : Bool := if ((op == 4) || (op == 6)) = true then true else (op == 5) || (op == 6)
theorem isOp_ (op : Int) (dst : Int) (ra : Int) (rb : Int) (imm : Int) (loc : Int) (off : Int) (ix : Int) (sz : Int) (fn : Int) (acq : Bool) (weak : Bool) (rel : Bool) (pred : Int) (succ : Int) (to_ : Int) (zero : Bool)  : Fn Try.prog 41 [.agg [.int .i64 op, .int .i64 dst, .int .i64 ra, .int .i64 rb, .int .i64 imm, .int .i64 loc, .int .i64 off, .int .i64 ix, .int .i64 sz, .int .i64 fn, .bool acq, .bool weak, .bool rel, .int .i64 pred, .int .i64 succ, .int .i64 to_, .bool zero]] [] (Rt (.bool (isOp0 op dst ra rb imm loc off ix sz fn acq weak rel pred succ to_ zero)) []) :=
 enterM (n := 9) (by kernel_rfl) Try.func41 rfl rfl rfl fun G w a h0 A => N hX 9 A rfl rfl fun A => CALL1 [] (Reads_ op dst ra rb imm loc off ix sz fn acq weak rel pred succ to_ zero) A rfl rfl rfl rfl rfl rfl rfl fun A => N hX 1 A rfl rfl fun A => fork 5 A rfl
  (fun h1 A => N hX 7 A rfl rfl fun A => RETN hX A rfl rfl rfl h0 rfl rfl rfl rfl (by simp only [oneS, nb, nbL, nbH, isOp0, if_pos h1]) rfl)
  (fun h1 A => N hX 1 A rfl rfl fun A => CALL1 [] (Writes_ op dst ra rb imm loc off ix sz fn acq weak rel pred succ to_ zero) A rfl rfl rfl rfl rfl rfl rfl fun A => N hX 5 A rfl rfl fun A => RETN hX A rfl rfl rfl h0 rfl rfl rfl rfl (by simp only [oneS, nb, nbL, nbH, isOp0, if_neg (ne_true_of_eq_false h1)]) rfl)
def immFor0 (op : Int) (dst : Int) (ra : Int) (rb : Int) (imm : Int) (loc : Int) (off : Int) (ix : Int) (sz : Int) (fn : Int) (acq : Bool) (weak : Bool) (rel : Bool) (pred : Int) (succ : Int) (to_ : Int) (zero : Bool) (rr : Int) : Int := if rr ≠ (-1) then 0 else imm
theorem immFor_ (op : Int) (dst : Int) (ra : Int) (rb : Int) (imm : Int) (loc : Int) (off : Int) (ix : Int) (sz : Int) (fn : Int) (acq : Bool) (weak : Bool) (rel : Bool) (pred : Int) (succ : Int) (to_ : Int) (zero : Bool) (rr : Int)  : Fn Try.prog 40 [.agg [.int .i64 op, .int .i64 dst, .int .i64 ra, .int .i64 rb, .int .i64 imm, .int .i64 loc, .int .i64 off, .int .i64 ix, .int .i64 sz, .int .i64 fn, .bool acq, .bool weak, .bool rel, .int .i64 pred, .int .i64 succ, .int .i64 to_, .bool zero], .int .i64 rr] [] (Rt (.int .i64 (immFor0 op dst ra rb imm loc off ix sz fn acq weak rel pred succ to_ zero rr)) []) :=
 enterM (n := 9) (by kernel_rfl) Try.func40 rfl rfl rfl fun G w a h0 A => N hX 13 A rfl rfl fun A => forkN 6 A rfl
  (fun h1 A => N hX 7 A rfl rfl fun A => RETN hX A rfl rfl rfl h0 rfl rfl rfl rfl (by simp only [oneS, nb, nbL, nbH, immFor0, if_pos h1]) rfl)
  (fun h1 A => N hX 11 A rfl rfl fun A => RETN hX A rfl rfl rfl h0 rfl rfl rfl rfl (by simp only [oneS, nb, nbL, nbH, immFor0, if_neg (not_not_intro h1)]) rfl)
theorem isSize_ (sz : Int)  : Fn Try.prog 39 [.int .i64 sz] [] (Rt (.bool ((((sz == 1) || (sz == 2)) || (sz == 4)) || (sz == 8))) []) :=
 enterM (n := 17) (by kernel_rfl) Try.func39 rfl rfl rfl fun G w a h0 A => N hX 25 A rfl rfl fun A => RETN hX A rfl rfl rfl h0 rfl rfl rfl rfl rfl rfl
theorem bfits_ (a1 : Int) (sz : Int)  : Fn Try.prog 37 [.int .i64 a1, .int .i64 sz] [] (Rt (.bool (((((((sz == 1) || (sz == 2)) || (sz == 4)) || (sz == 8)) && (decide (a1 ≥ 0))) && (decide (a1 ≤ (IntKind.wrap .i64 (8 - sz))))) && ((Int.tmod a1 sz) == 0))) []) :=
 enterM (n := 23) (by kernel_rfl) Try.func37 rfl rfl rfl fun G w a h0 A => M hX 8 A rfl rfl fun A => CALL1 [] (isSize_ sz) A rfl rfl rfl rfl rfl rfl rfl fun A => M hX 20 A rfl (ok_r <| ok_r <| ok_r <| ok_r <| ok_r <| ok_r <| ok_r <| ok_r <| ok_g (fun hg => (by (try simp at hg); first | omega | (simp; omega))) <| ok_r <| ok_r <| okE_nil) fun A => RETN hX A rfl rfl rfl h0 rfl rfl rfl rfl rfl rfl
def bMask0 (a1 : Int) (sz : Int) : Int := if (!(((((((sz == 1) || (sz == 2)) || (sz == 4)) || (sz == 8)) && (decide (a1 ≥ 0))) && (decide (a1 ≤ (IntKind.wrap .i64 (8 - sz))))) && ((Int.tmod a1 sz) == 0))) = true then 0 else IntKind.wrap .i64 ((IntKind.wrap .i64 ((IntKind.wrap .i64 (1 * 2 ^ min (sz).toNat (IntKind.bits .i64))) - 1)) * 2 ^ min (a1).toNat (IntKind.bits .i64))
theorem bMask_ (a1 : Int) (sz : Int)  : Fn Try.prog 28 [.int .i64 a1, .int .i64 sz] [] (Rt (.int .i64 (bMask0 a1 sz)) []) :=
 enterM (n := 14) (by kernel_rfl) Try.func28 rfl rfl rfl fun G w a h0 A => M hX 10 A rfl rfl fun A => CALL1 [] (bfits_ a1 sz) A rfl rfl rfl rfl rfl rfl rfl fun A => M hX 3 A rfl rfl fun A => fork 8 A rfl
  (fun h1 A => M hX 7 A rfl rfl fun A => RETN hX A rfl rfl rfl h0 rfl rfl rfl rfl (by simp only [oneS, nb, nbL, nbH, bMask0, if_pos h1]) rfl)
  (fun h1 A => M hX 14 A rfl (ok_d (by (try simp at h1); first | omega | (simp; omega)) <| ok_d (by (try simp at h1); first | omega | (simp; omega)) <| okE_nil) fun A => RETN hX A rfl rfl rfl h0 rfl rfl rfl rfl (by simp only [oneS, nb, nbL, nbH, bMask0, if_neg (ne_true_of_eq_false h1)]) rfl)
def isAccess0 (op : Int) (dst : Int) (ra : Int) (rb : Int) (imm : Int) (loc : Int) (off : Int) (ix : Int) (sz : Int) (fn : Int) (acq : Bool) (weak : Bool) (rel : Bool) (pred : Int) (succ : Int) (to_ : Int) (zero : Bool) : Bool := if loc ≥ 0 then if loc < 3 then if (isRegOrNone0 ix) = true then !((bMask0 off sz) == 0) else false else false else false
theorem isAccess_ (op : Int) (dst : Int) (ra : Int) (rb : Int) (imm : Int) (loc : Int) (off : Int) (ix : Int) (sz : Int) (fn : Int) (acq : Bool) (weak : Bool) (rel : Bool) (pred : Int) (succ : Int) (to_ : Int) (zero : Bool)  : Fn Try.prog 44 [.agg [.int .i64 op, .int .i64 dst, .int .i64 ra, .int .i64 rb, .int .i64 imm, .int .i64 loc, .int .i64 off, .int .i64 ix, .int .i64 sz, .int .i64 fn, .bool acq, .bool weak, .bool rel, .int .i64 pred, .int .i64 succ, .int .i64 to_, .bool zero]] [] (Rt (.bool (isAccess0 op dst ra rb imm loc off ix sz fn acq weak rel pred succ to_ zero)) []) :=
 enterM (n := 24) (by kernel_rfl) Try.func44 rfl rfl rfl fun G w a h0 A => N hX 12 A rfl rfl fun A => forkD 6 A rfl
  (fun h1 A => N hX 5 A rfl rfl fun A => forkD 11 A rfl
   (fun h2 A => N hX 2 A rfl rfl fun A => CALL1 [] (isRegOrNone_ ix) A rfl rfl rfl rfl rfl rfl rfl fun A => N hX 2 A rfl rfl fun A => fork 16 A rfl
    (fun h3 A => N hX 4 A rfl rfl fun A => CALL1 [] (bMask_ off sz) A rfl rfl rfl rfl rfl rfl rfl fun A => N hX 6 A rfl rfl fun A => RETN hX A rfl rfl rfl h0 rfl rfl rfl rfl (by simp only [oneS, nb, nbL, nbH, isAccess0, if_pos h1, if_pos h2, if_pos h3]) rfl)
    (fun h3 A => N hX 11 A rfl rfl fun A => RETN hX A rfl rfl rfl h0 rfl rfl rfl rfl (by simp only [oneS, nb, nbL, nbH, isAccess0, if_pos h1, if_pos h2, if_neg (ne_true_of_eq_false h3)]) rfl))
   (fun h2 A => N hX 16 A rfl rfl fun A => RETN hX A rfl rfl rfl h0 rfl rfl rfl rfl (by simp only [oneS, nb, nbL, nbH, isAccess0, if_pos h1, if_neg h2]) rfl))
  (fun h1 A => N hX 21 A rfl rfl fun A => RETN hX A rfl rfl rfl h0 rfl rfl rfl rfl (by simp only [oneS, nb, nbL, nbH, isAccess0, if_neg h1]) rfl)
def plain0 (op : Int) (dst : Int) (ra : Int) (rb : Int) (imm : Int) (loc : Int) (off : Int) (ix : Int) (sz : Int) (fn : Int) (acq : Bool) (weak : Bool) (rel : Bool) (pred : Int) (succ : Int) (to_ : Int) (zero : Bool) : Int := if op = 1 then dst else if op = 2 then dst else if op = 3 then dst else if op = 4 then dst else if op = 5 then (-1) else if op = 6 then dst else (-1)
def plain1 (op : Int) (dst : Int) (ra : Int) (rb : Int) (imm : Int) (loc : Int) (off : Int) (ix : Int) (sz : Int) (fn : Int) (acq : Bool) (weak : Bool) (rel : Bool) (pred : Int) (succ : Int) (to_ : Int) (zero : Bool) : Int := if op = 1 then (-1) else if op = 2 then ra else if op = 3 then ra else if op = 4 then (-1) else if op = 5 then ra else if op = 6 then ra else if op = 7 then (-1) else if op = 9 then ra else (-1)
def plain2 (op : Int) (dst : Int) (ra : Int) (rb : Int) (imm : Int) (loc : Int) (off : Int) (ix : Int) (sz : Int) (fn : Int) (acq : Bool) (weak : Bool) (rel : Bool) (pred : Int) (succ : Int) (to_ : Int) (zero : Bool) : Int := if op = 1 then (-1) else if op = 2 then (-1) else if op = 3 then rb else (-1)
def plain3 (op : Int) (dst : Int) (ra : Int) (rb : Int) (imm : Int) (loc : Int) (off : Int) (ix : Int) (sz : Int) (fn : Int) (acq : Bool) (weak : Bool) (rel : Bool) (pred : Int) (succ : Int) (to_ : Int) (zero : Bool) : Int := if op = 1 then imm else if op = 2 then 0 else if op = 3 then immFor0 op dst ra rb imm loc off ix sz fn acq weak rel pred succ to_ zero rb else if op = 4 then 0 else if op = 5 then immFor0 op dst ra rb imm loc off ix sz fn acq weak rel pred succ to_ zero ra else 0
def plain4 (op : Int) (dst : Int) (ra : Int) (rb : Int) (imm : Int) (loc : Int) (off : Int) (ix : Int) (sz : Int) (fn : Int) (acq : Bool) (weak : Bool) (rel : Bool) (pred : Int) (succ : Int) (to_ : Int) (zero : Bool) : Int := if op = 1 then if (isOp0 op dst ra rb imm loc off ix sz fn acq weak rel pred succ to_ zero) = true then loc else 0 else if op = 2 then if (isOp0 op dst ra rb imm loc off ix sz fn acq weak rel pred succ to_ zero) = true then loc else 0 else if op = 3 then if (isOp0 op dst ra rb imm loc off ix sz fn acq weak rel pred succ to_ zero) = true then loc else 0 else if op = 4 then if (isOp0 op dst ra rb imm loc off ix sz fn acq weak rel pred succ to_ zero) = true then loc else 0 else if op = 5 then if (isOp0 op dst ra rb imm loc off ix sz fn acq weak rel pred succ to_ zero) = true then loc else 0 else if op = 6 then if (isOp0 op dst ra rb imm loc off ix sz fn acq weak rel pred succ to_ zero) = true then loc else 0 else if op = 7 then if (isOp0 op dst ra rb imm loc off ix sz fn acq weak rel pred succ to_ zero) = true then loc else 0 else if op = 9 then if (isOp0 op dst ra rb imm loc off ix sz fn acq weak rel pred succ to_ zero) = true then loc else 0 else if (isOp0 op dst ra rb imm loc off ix sz fn acq weak rel pred succ to_ zero) = true then loc else 0
def plain5 (op : Int) (dst : Int) (ra : Int) (rb : Int) (imm : Int) (loc : Int) (off : Int) (ix : Int) (sz : Int) (fn : Int) (acq : Bool) (weak : Bool) (rel : Bool) (pred : Int) (succ : Int) (to_ : Int) (zero : Bool) : Int := if op = 1 then if (isOp0 op dst ra rb imm loc off ix sz fn acq weak rel pred succ to_ zero) = true then off else 0 else if op = 2 then if (isOp0 op dst ra rb imm loc off ix sz fn acq weak rel pred succ to_ zero) = true then off else 0 else if op = 3 then if (isOp0 op dst ra rb imm loc off ix sz fn acq weak rel pred succ to_ zero) = true then off else 0 else if op = 4 then if (isOp0 op dst ra rb imm loc off ix sz fn acq weak rel pred succ to_ zero) = true then off else 0 else if op = 5 then if (isOp0 op dst ra rb imm loc off ix sz fn acq weak rel pred succ to_ zero) = true then off else 0 else if op = 6 then if (isOp0 op dst ra rb imm loc off ix sz fn acq weak rel pred succ to_ zero) = true then off else 0 else if op = 7 then if (isOp0 op dst ra rb imm loc off ix sz fn acq weak rel pred succ to_ zero) = true then off else 0 else if op = 9 then if (isOp0 op dst ra rb imm loc off ix sz fn acq weak rel pred succ to_ zero) = true then off else 0 else if (isOp0 op dst ra rb imm loc off ix sz fn acq weak rel pred succ to_ zero) = true then off else 0
def plain6 (op : Int) (dst : Int) (ra : Int) (rb : Int) (imm : Int) (loc : Int) (off : Int) (ix : Int) (sz : Int) (fn : Int) (acq : Bool) (weak : Bool) (rel : Bool) (pred : Int) (succ : Int) (to_ : Int) (zero : Bool) : Int := if op = 1 then if (isOp0 op dst ra rb imm loc off ix sz fn acq weak rel pred succ to_ zero) = true then ix else (-1) else if op = 2 then if (isOp0 op dst ra rb imm loc off ix sz fn acq weak rel pred succ to_ zero) = true then ix else (-1) else if op = 3 then if (isOp0 op dst ra rb imm loc off ix sz fn acq weak rel pred succ to_ zero) = true then ix else (-1) else if op = 4 then if (isOp0 op dst ra rb imm loc off ix sz fn acq weak rel pred succ to_ zero) = true then ix else (-1) else if op = 5 then if (isOp0 op dst ra rb imm loc off ix sz fn acq weak rel pred succ to_ zero) = true then ix else (-1) else if op = 6 then if (isOp0 op dst ra rb imm loc off ix sz fn acq weak rel pred succ to_ zero) = true then ix else (-1) else if op = 7 then if (isOp0 op dst ra rb imm loc off ix sz fn acq weak rel pred succ to_ zero) = true then ix else (-1) else if op = 9 then if (isOp0 op dst ra rb imm loc off ix sz fn acq weak rel pred succ to_ zero) = true then ix else (-1) else if (isOp0 op dst ra rb imm loc off ix sz fn acq weak rel pred succ to_ zero) = true then ix else (-1)
def plain7 (op : Int) (dst : Int) (ra : Int) (rb : Int) (imm : Int) (loc : Int) (off : Int) (ix : Int) (sz : Int) (fn : Int) (acq : Bool) (weak : Bool) (rel : Bool) (pred : Int) (succ : Int) (to_ : Int) (zero : Bool) : Int := if op = 1 then if (isOp0 op dst ra rb imm loc off ix sz fn acq weak rel pred succ to_ zero) = true then sz else 0 else if op = 2 then if (isOp0 op dst ra rb imm loc off ix sz fn acq weak rel pred succ to_ zero) = true then sz else 0 else if op = 3 then if (isOp0 op dst ra rb imm loc off ix sz fn acq weak rel pred succ to_ zero) = true then sz else 0 else if op = 4 then if (isOp0 op dst ra rb imm loc off ix sz fn acq weak rel pred succ to_ zero) = true then sz else 0 else if op = 5 then if (isOp0 op dst ra rb imm loc off ix sz fn acq weak rel pred succ to_ zero) = true then sz else 0 else if op = 6 then if (isOp0 op dst ra rb imm loc off ix sz fn acq weak rel pred succ to_ zero) = true then sz else 0 else if op = 7 then if (isOp0 op dst ra rb imm loc off ix sz fn acq weak rel pred succ to_ zero) = true then sz else 0 else if op = 9 then if (isOp0 op dst ra rb imm loc off ix sz fn acq weak rel pred succ to_ zero) = true then sz else 0 else if (isOp0 op dst ra rb imm loc off ix sz fn acq weak rel pred succ to_ zero) = true then sz else 0
def plain8 (op : Int) (dst : Int) (ra : Int) (rb : Int) (imm : Int) (loc : Int) (off : Int) (ix : Int) (sz : Int) (fn : Int) (acq : Bool) (weak : Bool) (rel : Bool) (pred : Int) (succ : Int) (to_ : Int) (zero : Bool) : Int := if op = 1 then 0 else if op = 2 then 0 else if op = 3 then fn else if op = 4 then 0 else if op = 5 then 0 else if op = 6 then fn else 0
def plain9 (op : Int) (dst : Int) (ra : Int) (rb : Int) (imm : Int) (loc : Int) (off : Int) (ix : Int) (sz : Int) (fn : Int) (acq : Bool) (weak : Bool) (rel : Bool) (pred : Int) (succ : Int) (to_ : Int) (zero : Bool) : Bool := if op = 1 then false else if op = 2 then false else if op = 3 then false else if op = 4 then acq else if op = 5 then false else if op = 6 then acq else false
def plain10 (op : Int) (dst : Int) (ra : Int) (rb : Int) (imm : Int) (loc : Int) (off : Int) (ix : Int) (sz : Int) (fn : Int) (acq : Bool) (weak : Bool) (rel : Bool) (pred : Int) (succ : Int) (to_ : Int) (zero : Bool) : Bool := if op = 1 then false else if op = 2 then false else if op = 3 then false else if op = 4 then weak else false
def plain11 (op : Int) (dst : Int) (ra : Int) (rb : Int) (imm : Int) (loc : Int) (off : Int) (ix : Int) (sz : Int) (fn : Int) (acq : Bool) (weak : Bool) (rel : Bool) (pred : Int) (succ : Int) (to_ : Int) (zero : Bool) : Bool := if op = 1 then false else if op = 2 then false else if op = 3 then false else if op = 4 then false else if op = 5 then rel else if op = 6 then rel else false
def plain12 (op : Int) (dst : Int) (ra : Int) (rb : Int) (imm : Int) (loc : Int) (off : Int) (ix : Int) (sz : Int) (fn : Int) (acq : Bool) (weak : Bool) (rel : Bool) (pred : Int) (succ : Int) (to_ : Int) (zero : Bool) : Int := if op = 1 then 0 else if op = 2 then 0 else if op = 3 then 0 else if op = 4 then 0 else if op = 5 then 0 else if op = 6 then 0 else if op = 7 then pred else 0
def plain13 (op : Int) (dst : Int) (ra : Int) (rb : Int) (imm : Int) (loc : Int) (off : Int) (ix : Int) (sz : Int) (fn : Int) (acq : Bool) (weak : Bool) (rel : Bool) (pred : Int) (succ : Int) (to_ : Int) (zero : Bool) : Int := if op = 1 then 0 else if op = 2 then 0 else if op = 3 then 0 else if op = 4 then 0 else if op = 5 then 0 else if op = 6 then 0 else if op = 7 then succ else 0
def plain14 (op : Int) (dst : Int) (ra : Int) (rb : Int) (imm : Int) (loc : Int) (off : Int) (ix : Int) (sz : Int) (fn : Int) (acq : Bool) (weak : Bool) (rel : Bool) (pred : Int) (succ : Int) (to_ : Int) (zero : Bool) : Int := if op = 1 then 0 else if op = 2 then 0 else if op = 3 then 0 else if op = 4 then 0 else if op = 5 then 0 else if op = 6 then 0 else if op = 7 then 0 else if op = 9 then to_ else 0
def plain15 (op : Int) (dst : Int) (ra : Int) (rb : Int) (imm : Int) (loc : Int) (off : Int) (ix : Int) (sz : Int) (fn : Int) (acq : Bool) (weak : Bool) (rel : Bool) (pred : Int) (succ : Int) (to_ : Int) (zero : Bool) : Bool := if op = 1 then false else if op = 2 then false else if op = 3 then false else if op = 4 then false else if op = 5 then false else if op = 6 then false else if op = 7 then false else if op = 9 then zero else false
theorem plain_ (op : Int) (dst : Int) (ra : Int) (rb : Int) (imm : Int) (loc : Int) (off : Int) (ix : Int) (sz : Int) (fn : Int) (acq : Bool) (weak : Bool) (rel : Bool) (pred : Int) (succ : Int) (to_ : Int) (zero : Bool)  : Fn Try.prog 30 [.agg [.int .i64 op, .int .i64 dst, .int .i64 ra, .int .i64 rb, .int .i64 imm, .int .i64 loc, .int .i64 off, .int .i64 ix, .int .i64 sz, .int .i64 fn, .bool acq, .bool weak, .bool rel, .int .i64 pred, .int .i64 succ, .int .i64 to_, .bool zero]] [] (Rt (.agg [.int .i64 op, .int .i64 (plain0 op dst ra rb imm loc off ix sz fn acq weak rel pred succ to_ zero), .int .i64 (plain1 op dst ra rb imm loc off ix sz fn acq weak rel pred succ to_ zero), .int .i64 (plain2 op dst ra rb imm loc off ix sz fn acq weak rel pred succ to_ zero), .int .i64 (plain3 op dst ra rb imm loc off ix sz fn acq weak rel pred succ to_ zero), .int .i64 (plain4 op dst ra rb imm loc off ix sz fn acq weak rel pred succ to_ zero), .int .i64 (plain5 op dst ra rb imm loc off ix sz fn acq weak rel pred succ to_ zero), .int .i64 (plain6 op dst ra rb imm loc off ix sz fn acq weak rel pred succ to_ zero), .int .i64 (plain7 op dst ra rb imm loc off ix sz fn acq weak rel pred succ to_ zero), .int .i64 (plain8 op dst ra rb imm loc off ix sz fn acq weak rel pred succ to_ zero), .bool (plain9 op dst ra rb imm loc off ix sz fn acq weak rel pred succ to_ zero), .bool (plain10 op dst ra rb imm loc off ix sz fn acq weak rel pred succ to_ zero), .bool (plain11 op dst ra rb imm loc off ix sz fn acq weak rel pred succ to_ zero), .int .i64 (plain12 op dst ra rb imm loc off ix sz fn acq weak rel pred succ to_ zero), .int .i64 (plain13 op dst ra rb imm loc off ix sz fn acq weak rel pred succ to_ zero), .int .i64 (plain14 op dst ra rb imm loc off ix sz fn acq weak rel pred succ to_ zero), .bool (plain15 op dst ra rb imm loc off ix sz fn acq weak rel pred succ to_ zero)]) []) :=
 enterM (n := 119) (by kernel_rfl) Try.func30 rfl rfl rfl fun G w a h0 A => N hX 29 A rfl rfl fun A => forkE 9 A rfl
  (fun h1 A => N hX 1 A rfl rfl fun A => DRAWN hX hmo [] [] A rfl rfl rfl rfl (by kernel_rfl) (effAll_nil _ _) trivial fun A => N hX 6 A rfl rfl fun A => CALL1 [] (isOp_ op dst ra rb imm loc off ix sz fn acq weak rel pred succ to_ zero) A rfl rfl rfl rfl rfl rfl rfl fun A => N hX 2 A rfl rfl fun A => fork 105 A rfl
   (fun h2 A => N hX 1 A rfl rfl fun A => DRAWN hX hmo [] [] A rfl rfl rfl rfl (by kernel_rfl) (effAll_nil _ _) trivial fun A => N hX 8 A rfl rfl fun A => RETN hX A rfl rfl rfl h0 rfl rfl rfl rfl (by simp only [oneS, nb, nbL, nbH, plain0, plain1, plain2, plain3, plain4, plain5, plain6, plain7, plain8, plain9, plain10, plain11, plain12, plain13, plain14, plain15, if_pos h1, if_pos h2]) rfl)
   (fun h2 A => N hX 10 A rfl rfl fun A => RETN hX A rfl rfl rfl h0 rfl rfl rfl rfl (by simp only [oneS, nb, nbL, nbH, plain0, plain1, plain2, plain3, plain4, plain5, plain6, plain7, plain8, plain9, plain10, plain11, plain12, plain13, plain14, plain15, if_pos h1, if_neg (ne_true_of_eq_false h2)]) rfl))
  (fun h1 A => N hX 7 A rfl rfl fun A => forkE 17 A rfl
   (fun h3 A => N hX 1 A rfl rfl fun A => DRAWN hX hmo [] [] A rfl rfl rfl rfl (by kernel_rfl) (effAll_nil _ _) trivial fun A => N hX 6 A rfl rfl fun A => CALL1 [] (isOp_ op dst ra rb imm loc off ix sz fn acq weak rel pred succ to_ zero) A rfl rfl rfl rfl rfl rfl rfl fun A => N hX 2 A rfl rfl fun A => fork 105 A rfl
    (fun h4 A => N hX 1 A rfl rfl fun A => DRAWN hX hmo [] [] A rfl rfl rfl rfl (by kernel_rfl) (effAll_nil _ _) trivial fun A => N hX 8 A rfl rfl fun A => RETN hX A rfl rfl rfl h0 rfl rfl rfl rfl (by simp only [oneS, nb, nbL, nbH, plain0, plain1, plain2, plain3, plain4, plain5, plain6, plain7, plain8, plain9, plain10, plain11, plain12, plain13, plain14, plain15, if_neg (h1), if_pos h3, if_pos h4]) rfl)
    (fun h4 A => N hX 10 A rfl rfl fun A => RETN hX A rfl rfl rfl h0 rfl rfl rfl rfl (by simp only [oneS, nb, nbL, nbH, plain0, plain1, plain2, plain3, plain4, plain5, plain6, plain7, plain8, plain9, plain10, plain11, plain12, plain13, plain14, plain15, if_neg (h1), if_pos h3, if_neg (ne_true_of_eq_false h4)]) rfl))
   (fun h3 A => N hX 7 A rfl rfl fun A => forkE 25 A rfl
    (fun h5 A => N hX 1 A rfl rfl fun A => DRAWN hX hmo [(11, .int .i64 (immFor0 op dst ra rb imm loc off ix sz fn acq weak rel pred succ to_ zero rb))] [] A rfl rfl rfl rfl (by kernel_rfl) (effAll_nil _ _) ⟨.inl ⟨_, _, rfl, rfl, immFor_ op dst ra rb imm loc off ix sz fn acq weak rel pred succ to_ zero rb⟩, trivial⟩ fun A => N hX 6 A rfl rfl fun A => CALL1 [] (isOp_ op dst ra rb imm loc off ix sz fn acq weak rel pred succ to_ zero) A rfl rfl rfl rfl rfl rfl rfl fun A => N hX 2 A rfl rfl fun A => fork 105 A rfl
     (fun h6 A => N hX 1 A rfl rfl fun A => DRAWN hX hmo [] [] A rfl rfl rfl rfl (by kernel_rfl) (effAll_nil _ _) trivial fun A => N hX 8 A rfl rfl fun A => RETN hX A rfl rfl rfl h0 rfl rfl rfl rfl (by simp only [oneS, nb, nbL, nbH, plain0, plain1, plain2, plain3, plain4, plain5, plain6, plain7, plain8, plain9, plain10, plain11, plain12, plain13, plain14, plain15, if_neg (h1), if_neg (h3), if_pos h5, if_pos h6]) rfl)
     (fun h6 A => N hX 10 A rfl rfl fun A => RETN hX A rfl rfl rfl h0 rfl rfl rfl rfl (by simp only [oneS, nb, nbL, nbH, plain0, plain1, plain2, plain3, plain4, plain5, plain6, plain7, plain8, plain9, plain10, plain11, plain12, plain13, plain14, plain15, if_neg (h1), if_neg (h3), if_pos h5, if_neg (ne_true_of_eq_false h6)]) rfl))
    (fun h5 A => N hX 7 A rfl rfl fun A => forkE 44 A rfl
     (fun h7 A => N hX 1 A rfl rfl fun A => DRAWN hX hmo [] [] A rfl rfl rfl rfl (by kernel_rfl) (effAll_nil _ _) trivial fun A => N hX 6 A rfl rfl fun A => CALL1 [] (isOp_ op dst ra rb imm loc off ix sz fn acq weak rel pred succ to_ zero) A rfl rfl rfl rfl rfl rfl rfl fun A => N hX 2 A rfl rfl fun A => fork 105 A rfl
      (fun h8 A => N hX 1 A rfl rfl fun A => DRAWN hX hmo [] [] A rfl rfl rfl rfl (by kernel_rfl) (effAll_nil _ _) trivial fun A => N hX 8 A rfl rfl fun A => RETN hX A rfl rfl rfl h0 rfl rfl rfl rfl (by simp only [oneS, nb, nbL, nbH, plain0, plain1, plain2, plain3, plain4, plain5, plain6, plain7, plain8, plain9, plain10, plain11, plain12, plain13, plain14, plain15, if_neg (h1), if_neg (h3), if_neg (h5), if_pos h7, if_pos h8]) rfl)
      (fun h8 A => N hX 10 A rfl rfl fun A => RETN hX A rfl rfl rfl h0 rfl rfl rfl rfl (by simp only [oneS, nb, nbL, nbH, plain0, plain1, plain2, plain3, plain4, plain5, plain6, plain7, plain8, plain9, plain10, plain11, plain12, plain13, plain14, plain15, if_neg (h1), if_neg (h3), if_neg (h5), if_pos h7, if_neg (ne_true_of_eq_false h8)]) rfl))
     (fun h7 A => N hX 7 A rfl rfl fun A => forkE 55 A rfl
      (fun h9 A => N hX 1 A rfl rfl fun A => DRAWN hX hmo [(5, .int .i64 (immFor0 op dst ra rb imm loc off ix sz fn acq weak rel pred succ to_ zero ra))] [] A rfl rfl rfl rfl (by kernel_rfl) (effAll_nil _ _) ⟨.inl ⟨_, _, rfl, rfl, immFor_ op dst ra rb imm loc off ix sz fn acq weak rel pred succ to_ zero ra⟩, trivial⟩ fun A => N hX 6 A rfl rfl fun A => CALL1 [] (isOp_ op dst ra rb imm loc off ix sz fn acq weak rel pred succ to_ zero) A rfl rfl rfl rfl rfl rfl rfl fun A => N hX 2 A rfl rfl fun A => fork 105 A rfl
       (fun h10 A => N hX 1 A rfl rfl fun A => DRAWN hX hmo [] [] A rfl rfl rfl rfl (by kernel_rfl) (effAll_nil _ _) trivial fun A => N hX 8 A rfl rfl fun A => RETN hX A rfl rfl rfl h0 rfl rfl rfl rfl (by simp only [oneS, nb, nbL, nbH, plain0, plain1, plain2, plain3, plain4, plain5, plain6, plain7, plain8, plain9, plain10, plain11, plain12, plain13, plain14, plain15, if_neg (h1), if_neg (h3), if_neg (h5), if_neg (h7), if_pos h9, if_pos h10]) rfl)
       (fun h10 A => N hX 10 A rfl rfl fun A => RETN hX A rfl rfl rfl h0 rfl rfl rfl rfl (by simp only [oneS, nb, nbL, nbH, plain0, plain1, plain2, plain3, plain4, plain5, plain6, plain7, plain8, plain9, plain10, plain11, plain12, plain13, plain14, plain15, if_neg (h1), if_neg (h3), if_neg (h5), if_neg (h7), if_pos h9, if_neg (ne_true_of_eq_false h10)]) rfl))
      (fun h9 A => N hX 7 A rfl rfl fun A => forkE 68 A rfl
       (fun h11 A => N hX 1 A rfl rfl fun A => DRAWN hX hmo [] [] A rfl rfl rfl rfl (by kernel_rfl) (effAll_nil _ _) trivial fun A => N hX 6 A rfl rfl fun A => CALL1 [] (isOp_ op dst ra rb imm loc off ix sz fn acq weak rel pred succ to_ zero) A rfl rfl rfl rfl rfl rfl rfl fun A => N hX 2 A rfl rfl fun A => fork 105 A rfl
        (fun h12 A => N hX 1 A rfl rfl fun A => DRAWN hX hmo [] [] A rfl rfl rfl rfl (by kernel_rfl) (effAll_nil _ _) trivial fun A => N hX 8 A rfl rfl fun A => RETN hX A rfl rfl rfl h0 rfl rfl rfl rfl (by simp only [oneS, nb, nbL, nbH, plain0, plain1, plain2, plain3, plain4, plain5, plain6, plain7, plain8, plain9, plain10, plain11, plain12, plain13, plain14, plain15, if_neg (h1), if_neg (h3), if_neg (h5), if_neg (h7), if_neg (h9), if_pos h11, if_pos h12]) rfl)
        (fun h12 A => N hX 10 A rfl rfl fun A => RETN hX A rfl rfl rfl h0 rfl rfl rfl rfl (by simp only [oneS, nb, nbL, nbH, plain0, plain1, plain2, plain3, plain4, plain5, plain6, plain7, plain8, plain9, plain10, plain11, plain12, plain13, plain14, plain15, if_neg (h1), if_neg (h3), if_neg (h5), if_neg (h7), if_neg (h9), if_pos h11, if_neg (ne_true_of_eq_false h12)]) rfl))
       (fun h11 A => N hX 7 A rfl rfl fun A => forkE 85 A rfl
        (fun h13 A => N hX 1 A rfl rfl fun A => DRAWN hX hmo [] [] A rfl rfl rfl rfl (by kernel_rfl) (effAll_nil _ _) trivial fun A => N hX 6 A rfl rfl fun A => CALL1 [] (isOp_ op dst ra rb imm loc off ix sz fn acq weak rel pred succ to_ zero) A rfl rfl rfl rfl rfl rfl rfl fun A => N hX 2 A rfl rfl fun A => fork 105 A rfl
         (fun h14 A => N hX 1 A rfl rfl fun A => DRAWN hX hmo [] [] A rfl rfl rfl rfl (by kernel_rfl) (effAll_nil _ _) trivial fun A => N hX 8 A rfl rfl fun A => RETN hX A rfl rfl rfl h0 rfl rfl rfl rfl (by simp only [oneS, nb, nbL, nbH, plain0, plain1, plain2, plain3, plain4, plain5, plain6, plain7, plain8, plain9, plain10, plain11, plain12, plain13, plain14, plain15, if_neg (h1), if_neg (h3), if_neg (h5), if_neg (h7), if_neg (h9), if_neg (h11), if_pos h13, if_pos h14]) rfl)
         (fun h14 A => N hX 10 A rfl rfl fun A => RETN hX A rfl rfl rfl h0 rfl rfl rfl rfl (by simp only [oneS, nb, nbL, nbH, plain0, plain1, plain2, plain3, plain4, plain5, plain6, plain7, plain8, plain9, plain10, plain11, plain12, plain13, plain14, plain15, if_neg (h1), if_neg (h3), if_neg (h5), if_neg (h7), if_neg (h9), if_neg (h11), if_pos h13, if_neg (ne_true_of_eq_false h14)]) rfl))
        (fun h13 A => N hX 7 A rfl rfl fun A => forkE 93 A rfl
         (fun h15 A => N hX 1 A rfl rfl fun A => DRAWN hX hmo [] [] A rfl rfl rfl rfl (by kernel_rfl) (effAll_nil _ _) trivial fun A => N hX 6 A rfl rfl fun A => CALL1 [] (isOp_ op dst ra rb imm loc off ix sz fn acq weak rel pred succ to_ zero) A rfl rfl rfl rfl rfl rfl rfl fun A => N hX 2 A rfl rfl fun A => fork 105 A rfl
          (fun h16 A => N hX 1 A rfl rfl fun A => DRAWN hX hmo [] [] A rfl rfl rfl rfl (by kernel_rfl) (effAll_nil _ _) trivial fun A => N hX 8 A rfl rfl fun A => RETN hX A rfl rfl rfl h0 rfl rfl rfl rfl (by simp only [oneS, nb, nbL, nbH, plain0, plain1, plain2, plain3, plain4, plain5, plain6, plain7, plain8, plain9, plain10, plain11, plain12, plain13, plain14, plain15, if_neg (h1), if_neg (h3), if_neg (h5), if_neg (h7), if_neg (h9), if_neg (h11), if_neg (h13), if_pos h15, if_pos h16]) rfl)
          (fun h16 A => N hX 10 A rfl rfl fun A => RETN hX A rfl rfl rfl h0 rfl rfl rfl rfl (by simp only [oneS, nb, nbL, nbH, plain0, plain1, plain2, plain3, plain4, plain5, plain6, plain7, plain8, plain9, plain10, plain11, plain12, plain13, plain14, plain15, if_neg (h1), if_neg (h3), if_neg (h5), if_neg (h7), if_neg (h9), if_neg (h11), if_neg (h13), if_pos h15, if_neg (ne_true_of_eq_false h16)]) rfl))
         (fun h15 A => N hX 8 A rfl rfl fun A => CALL1 [] (isOp_ op dst ra rb imm loc off ix sz fn acq weak rel pred succ to_ zero) A rfl rfl rfl rfl rfl rfl rfl fun A => N hX 2 A rfl rfl fun A => fork 105 A rfl
          (fun h17 A => N hX 1 A rfl rfl fun A => DRAWN hX hmo [] [] A rfl rfl rfl rfl (by kernel_rfl) (effAll_nil _ _) trivial fun A => N hX 8 A rfl rfl fun A => RETN hX A rfl rfl rfl h0 rfl rfl rfl rfl (by simp only [oneS, nb, nbL, nbH, plain0, plain1, plain2, plain3, plain4, plain5, plain6, plain7, plain8, plain9, plain10, plain11, plain12, plain13, plain14, plain15, if_neg (h1), if_neg (h3), if_neg (h5), if_neg (h7), if_neg (h9), if_neg (h11), if_neg (h13), if_neg (h15), if_pos h17]) rfl)
          (fun h17 A => N hX 10 A rfl rfl fun A => RETN hX A rfl rfl rfl h0 rfl rfl rfl rfl (by simp only [oneS, nb, nbL, nbH, plain0, plain1, plain2, plain3, plain4, plain5, plain6, plain7, plain8, plain9, plain10, plain11, plain12, plain13, plain14, plain15, if_neg (h1), if_neg (h3), if_neg (h5), if_neg (h7), if_neg (h9), if_neg (h11), if_neg (h13), if_neg (h15), if_neg (ne_true_of_eq_false h17)]) rfl)))))))))
def sound0 (op : Int) (dst : Int) (ra : Int) (rb : Int) (imm : Int) (loc : Int) (off : Int) (ix : Int) (sz : Int) (fn : Int) (acq : Bool) (weak : Bool) (rel : Bool) (pred : Int) (succ : Int) (to_ : Int) (zero : Bool) : Bool := if op = 1 then (decide (dst ≥ 0)) && (decide (dst < 8)) else if op = 2 then if ((decide (dst ≥ 0)) && (decide (dst < 8))) = true then (decide (ra ≥ 0)) && (decide (ra < 8)) else false else if op = 3 then if ((decide (dst ≥ 0)) && (decide (dst < 8))) = true then if ((decide (ra ≥ 0)) && (decide (ra < 8))) = true then ((isRegOrNone0 rb) && (decide (fn ≥ 1))) && (decide (fn ≤ 5)) else false else false else if op = 4 then if ((decide (dst ≥ 0)) && (decide (dst < 8))) = true then (isAccess0 op dst ra rb imm loc off ix sz fn acq weak rel pred succ to_ zero) && (!(acq && weak)) else false else if op = 5 then if (isRegOrNone0 ra) = true then isAccess0 op dst ra rb imm loc off ix sz fn acq weak rel pred succ to_ zero else false else if op = 6 then if ((decide (dst ≥ 0)) && (decide (dst < 8))) = true then if ((decide (ra ≥ 0)) && (decide (ra < 8))) = true then (isAccess0 op dst ra rb imm loc off ix sz fn acq weak rel pred succ to_ zero) && ((fn == 6) || (fn == 1)) else false else false else if op = 7 then if (((pred == 1) || (pred == 2)) || (pred == 3)) = true then ((succ == 1) || (succ == 2)) || (succ == 3) else false else if op = 8 then true else if op = 9 then (decide (ra ≥ 0)) && (decide (ra < 8)) else false
theorem sound_ (op : Int) (dst : Int) (ra : Int) (rb : Int) (imm : Int) (loc : Int) (off : Int) (ix : Int) (sz : Int) (fn : Int) (acq : Bool) (weak : Bool) (rel : Bool) (pred : Int) (succ : Int) (to_ : Int) (zero : Bool)  : Fn Try.prog 31 [.agg [.int .i64 op, .int .i64 dst, .int .i64 ra, .int .i64 rb, .int .i64 imm, .int .i64 loc, .int .i64 off, .int .i64 ix, .int .i64 sz, .int .i64 fn, .bool acq, .bool weak, .bool rel, .int .i64 pred, .int .i64 succ, .int .i64 to_, .bool zero]] [] (Rt (.bool (sound0 op dst ra rb imm loc off ix sz fn acq weak rel pred succ to_ zero)) []) :=
 enterM (n := 113) (by kernel_rfl) Try.func31 rfl rfl rfl fun G w a h0 A => N hX 20 A rfl rfl fun A => forkE 5 A rfl
  (fun h1 A => N hX 5 A rfl rfl fun A => CALL1 [] (isReg_ dst) A rfl rfl rfl rfl rfl rfl rfl fun A => N hX 4 A rfl rfl fun A => RETN hX A rfl rfl rfl h0 rfl rfl rfl rfl (by simp only [oneS, nb, nbL, nbH, sound0, if_pos h1]) rfl)
  (fun h1 A => N hX 7 A rfl rfl fun A => forkE 10 A rfl
   (fun h2 A => N hX 5 A rfl rfl fun A => CALL1 [] (isReg_ dst) A rfl rfl rfl rfl rfl rfl rfl fun A => N hX 1 A rfl rfl fun A => fork 15 A rfl
    (fun h3 A => N hX 2 A rfl rfl fun A => CALL1 [] (isReg_ ra) A rfl rfl rfl rfl rfl rfl rfl fun A => N hX 5 A rfl rfl fun A => RETN hX A rfl rfl rfl h0 rfl rfl rfl rfl (by simp only [oneS, nb, nbL, nbH, sound0, if_neg (h1), if_pos h2, if_pos h3]) rfl)
    (fun h3 A => N hX 8 A rfl rfl fun A => RETN hX A rfl rfl rfl h0 rfl rfl rfl rfl (by simp only [oneS, nb, nbL, nbH, sound0, if_neg (h1), if_pos h2, if_neg (ne_true_of_eq_false h3)]) rfl))
   (fun h2 A => N hX 7 A rfl rfl fun A => forkE 20 A rfl
    (fun h4 A => N hX 5 A rfl rfl fun A => CALL1 [] (isReg_ dst) A rfl rfl rfl rfl rfl rfl rfl fun A => N hX 1 A rfl rfl fun A => fork 25 A rfl
     (fun h5 A => N hX 2 A rfl rfl fun A => CALL1 [] (isReg_ ra) A rfl rfl rfl rfl rfl rfl rfl fun A => N hX 2 A rfl rfl fun A => fork 30 A rfl
      (fun h6 A => N hX 2 A rfl rfl fun A => CALL1 [] (isRegOrNone_ rb) A rfl rfl rfl rfl rfl rfl rfl fun A => N hX 15 A rfl rfl fun A => RETN hX A rfl rfl rfl h0 rfl rfl rfl rfl (by simp only [oneS, nb, nbL, nbH, sound0, if_neg (h1), if_neg (h2), if_pos h4, if_pos h5, if_pos h6]) rfl)
      (fun h6 A => N hX 18 A rfl rfl fun A => RETN hX A rfl rfl rfl h0 rfl rfl rfl rfl (by simp only [oneS, nb, nbL, nbH, sound0, if_neg (h1), if_neg (h2), if_pos h4, if_pos h5, if_neg (ne_true_of_eq_false h6)]) rfl))
     (fun h5 A => N hX 23 A rfl rfl fun A => RETN hX A rfl rfl rfl h0 rfl rfl rfl rfl (by simp only [oneS, nb, nbL, nbH, sound0, if_neg (h1), if_neg (h2), if_pos h4, if_neg (ne_true_of_eq_false h5)]) rfl))
    (fun h4 A => N hX 7 A rfl rfl fun A => forkE 45 A rfl
     (fun h7 A => N hX 5 A rfl rfl fun A => CALL1 [] (isReg_ dst) A rfl rfl rfl rfl rfl rfl rfl fun A => N hX 1 A rfl rfl fun A => fork 50 A rfl
      (fun h8 A => N hX 1 A rfl rfl fun A => CALL1 [] (isAccess_ op dst ra rb imm loc off ix sz fn acq weak rel pred succ to_ zero) A rfl rfl rfl rfl rfl rfl rfl fun A => N hX 14 A rfl rfl fun A => RETN hX A rfl rfl rfl h0 rfl rfl rfl rfl (by simp only [oneS, nb, nbL, nbH, sound0, if_neg (h1), if_neg (h2), if_neg (h4), if_pos h7, if_pos h8]) rfl)
      (fun h8 A => N hX 16 A rfl rfl fun A => RETN hX A rfl rfl rfl h0 rfl rfl rfl rfl (by simp only [oneS, nb, nbL, nbH, sound0, if_neg (h1), if_neg (h2), if_neg (h4), if_pos h7, if_neg (ne_true_of_eq_false h8)]) rfl))
     (fun h7 A => N hX 7 A rfl rfl fun A => forkE 63 A rfl
      (fun h9 A => N hX 5 A rfl rfl fun A => CALL1 [] (isRegOrNone_ ra) A rfl rfl rfl rfl rfl rfl rfl fun A => N hX 1 A rfl rfl fun A => fork 68 A rfl
       (fun h10 A => N hX 1 A rfl rfl fun A => CALL1 [] (isAccess_ op dst ra rb imm loc off ix sz fn acq weak rel pred succ to_ zero) A rfl rfl rfl rfl rfl rfl rfl fun A => N hX 5 A rfl rfl fun A => RETN hX A rfl rfl rfl h0 rfl rfl rfl rfl (by simp only [oneS, nb, nbL, nbH, sound0, if_neg (h1), if_neg (h2), if_neg (h4), if_neg (h7), if_pos h9, if_pos h10]) rfl)
       (fun h10 A => N hX 7 A rfl rfl fun A => RETN hX A rfl rfl rfl h0 rfl rfl rfl rfl (by simp only [oneS, nb, nbL, nbH, sound0, if_neg (h1), if_neg (h2), if_neg (h4), if_neg (h7), if_pos h9, if_neg (ne_true_of_eq_false h10)]) rfl))
      (fun h9 A => N hX 7 A rfl rfl fun A => forkE 72 A rfl
       (fun h11 A => N hX 5 A rfl rfl fun A => CALL1 [] (isReg_ dst) A rfl rfl rfl rfl rfl rfl rfl fun A => N hX 1 A rfl rfl fun A => fork 77 A rfl
        (fun h12 A => N hX 2 A rfl rfl fun A => CALL1 [] (isReg_ ra) A rfl rfl rfl rfl rfl rfl rfl fun A => N hX 2 A rfl rfl fun A => fork 82 A rfl
         (fun h13 A => N hX 1 A rfl rfl fun A => CALL1 [] (isAccess_ op dst ra rb imm loc off ix sz fn acq weak rel pred succ to_ zero) A rfl rfl rfl rfl rfl rfl rfl fun A => N hX 15 A rfl rfl fun A => RETN hX A rfl rfl rfl h0 rfl rfl rfl rfl (by simp only [oneS, nb, nbL, nbH, sound0, if_neg (h1), if_neg (h2), if_neg (h4), if_neg (h7), if_neg (h9), if_pos h11, if_pos h12, if_pos h13]) rfl)
         (fun h13 A => N hX 17 A rfl rfl fun A => RETN hX A rfl rfl rfl h0 rfl rfl rfl rfl (by simp only [oneS, nb, nbL, nbH, sound0, if_neg (h1), if_neg (h2), if_neg (h4), if_neg (h7), if_neg (h9), if_pos h11, if_pos h12, if_neg (ne_true_of_eq_false h13)]) rfl))
        (fun h12 A => N hX 22 A rfl rfl fun A => RETN hX A rfl rfl rfl h0 rfl rfl rfl rfl (by simp only [oneS, nb, nbL, nbH, sound0, if_neg (h1), if_neg (h2), if_neg (h4), if_neg (h7), if_neg (h9), if_pos h11, if_neg (ne_true_of_eq_false h12)]) rfl))
       (fun h11 A => N hX 7 A rfl rfl fun A => forkE 96 A rfl
        (fun h14 A => N hX 5 A rfl rfl fun A => CALL1 [] (isFenced_ pred) A rfl rfl rfl rfl rfl rfl rfl fun A => N hX 1 A rfl rfl fun A => fork 101 A rfl
         (fun h15 A => N hX 2 A rfl rfl fun A => CALL1 [] (isFenced_ succ) A rfl rfl rfl rfl rfl rfl rfl fun A => N hX 5 A rfl rfl fun A => RETN hX A rfl rfl rfl h0 rfl rfl rfl rfl (by simp only [oneS, nb, nbL, nbH, sound0, if_neg (h1), if_neg (h2), if_neg (h4), if_neg (h7), if_neg (h9), if_neg (h11), if_pos h14, if_pos h15]) rfl)
         (fun h15 A => N hX 8 A rfl rfl fun A => RETN hX A rfl rfl rfl h0 rfl rfl rfl rfl (by simp only [oneS, nb, nbL, nbH, sound0, if_neg (h1), if_neg (h2), if_neg (h4), if_neg (h7), if_neg (h9), if_neg (h11), if_pos h14, if_neg (ne_true_of_eq_false h15)]) rfl))
        (fun h14 A => N hX 7 A rfl rfl fun A => forkE 106 A rfl
         (fun h16 A => N hX 7 A rfl rfl fun A => RETN hX A rfl rfl rfl h0 rfl rfl rfl rfl (by simp only [oneS, nb, nbL, nbH, sound0, if_neg (h1), if_neg (h2), if_neg (h4), if_neg (h7), if_neg (h9), if_neg (h11), if_neg (h14), if_pos h16]) rfl)
         (fun h16 A => N hX 7 A rfl rfl fun A => forkE 108 A rfl
          (fun h17 A => N hX 5 A rfl rfl fun A => CALL1 [] (isReg_ ra) A rfl rfl rfl rfl rfl rfl rfl fun A => N hX 4 A rfl rfl fun A => RETN hX A rfl rfl rfl h0 rfl rfl rfl rfl (by simp only [oneS, nb, nbL, nbH, sound0, if_neg (h1), if_neg (h2), if_neg (h4), if_neg (h7), if_neg (h9), if_neg (h11), if_neg (h14), if_neg (h16), if_pos h17]) rfl)
          (fun h17 A => N hX 10 A rfl rfl fun A => RETN hX A rfl rfl rfl h0 rfl rfl rfl rfl (by simp only [oneS, nb, nbL, nbH, sound0, if_neg (h1), if_neg (h2), if_neg (h4), if_neg (h7), if_neg (h9), if_neg (h11), if_neg (h14), if_neg (h16), if_neg (h17)]) rfl)))))))))
def Right0 (op : Int) (dst : Int) (ra : Int) (rb : Int) (imm : Int) (loc : Int) (off : Int) (ix : Int) (sz : Int) (fn : Int) (acq : Bool) (weak : Bool) (rel : Bool) (pred : Int) (succ : Int) (to_ : Int) (zero : Bool) (at_ : Int) (nn_ : Int) : Int := if ((!(((op == op) && ((dst == (plain0 op dst ra rb imm loc off ix sz fn acq weak rel pred succ to_ zero)) && ((ra == (plain1 op dst ra rb imm loc off ix sz fn acq weak rel pred succ to_ zero)) && ((rb == (plain2 op dst ra rb imm loc off ix sz fn acq weak rel pred succ to_ zero)) && ((imm == (plain3 op dst ra rb imm loc off ix sz fn acq weak rel pred succ to_ zero)) && ((loc == (plain4 op dst ra rb imm loc off ix sz fn acq weak rel pred succ to_ zero)) && ((off == (plain5 op dst ra rb imm loc off ix sz fn acq weak rel pred succ to_ zero)) && ((ix == (plain6 op dst ra rb imm loc off ix sz fn acq weak rel pred succ to_ zero)) && ((sz == (plain7 op dst ra rb imm loc off ix sz fn acq weak rel pred succ to_ zero)) && ((fn == (plain8 op dst ra rb imm loc off ix sz fn acq weak rel pred succ to_ zero)) && ((acq == (plain9 op dst ra rb imm loc off ix sz fn acq weak rel pred succ to_ zero)) && ((weak == (plain10 op dst ra rb imm loc off ix sz fn acq weak rel pred succ to_ zero)) && ((rel == (plain11 op dst ra rb imm loc off ix sz fn acq weak rel pred succ to_ zero)) && ((pred == (plain12 op dst ra rb imm loc off ix sz fn acq weak rel pred succ to_ zero)) && ((succ == (plain13 op dst ra rb imm loc off ix sz fn acq weak rel pred succ to_ zero)) && ((to_ == (plain14 op dst ra rb imm loc off ix sz fn acq weak rel pred succ to_ zero)) && (zero == (plain15 op dst ra rb imm loc off ix sz fn acq weak rel pred succ to_ zero)))))))))))))))))))) || (!(sound0 op dst ra rb imm loc off ix sz fn acq weak rel pred succ to_ zero))) = true then 34 else if ((op == 9) && ((decide (to_ ≤ at_)) || (decide (to_ > nn_)))) = true then 35 else 0
theorem Right_ (op : Int) (dst : Int) (ra : Int) (rb : Int) (imm : Int) (loc : Int) (off : Int) (ix : Int) (sz : Int) (fn : Int) (acq : Bool) (weak : Bool) (rel : Bool) (pred : Int) (succ : Int) (to_ : Int) (zero : Bool) (at_ : Int) (nn_ : Int)  : Fn Try.prog 19 [.agg [.int .i64 op, .int .i64 dst, .int .i64 ra, .int .i64 rb, .int .i64 imm, .int .i64 loc, .int .i64 off, .int .i64 ix, .int .i64 sz, .int .i64 fn, .bool acq, .bool weak, .bool rel, .int .i64 pred, .int .i64 succ, .int .i64 to_, .bool zero], .int .i64 at_, .int .i64 nn_] [] (Rt (.int .i64 (Right0 op dst ra rb imm loc off ix sz fn acq weak rel pred succ to_ zero at_ nn_)) []) :=
 enterM (n := 30) (by kernel_rfl) Try.func19 rfl rfl rfl fun G w a h0 A => N hX 8 A rfl rfl fun A => DRAWN hX hmo [(2, .agg [.int .i64 op, .int .i64 (plain0 op dst ra rb imm loc off ix sz fn acq weak rel pred succ to_ zero), .int .i64 (plain1 op dst ra rb imm loc off ix sz fn acq weak rel pred succ to_ zero), .int .i64 (plain2 op dst ra rb imm loc off ix sz fn acq weak rel pred succ to_ zero), .int .i64 (plain3 op dst ra rb imm loc off ix sz fn acq weak rel pred succ to_ zero), .int .i64 (plain4 op dst ra rb imm loc off ix sz fn acq weak rel pred succ to_ zero), .int .i64 (plain5 op dst ra rb imm loc off ix sz fn acq weak rel pred succ to_ zero), .int .i64 (plain6 op dst ra rb imm loc off ix sz fn acq weak rel pred succ to_ zero), .int .i64 (plain7 op dst ra rb imm loc off ix sz fn acq weak rel pred succ to_ zero), .int .i64 (plain8 op dst ra rb imm loc off ix sz fn acq weak rel pred succ to_ zero), .bool (plain9 op dst ra rb imm loc off ix sz fn acq weak rel pred succ to_ zero), .bool (plain10 op dst ra rb imm loc off ix sz fn acq weak rel pred succ to_ zero), .bool (plain11 op dst ra rb imm loc off ix sz fn acq weak rel pred succ to_ zero), .int .i64 (plain12 op dst ra rb imm loc off ix sz fn acq weak rel pred succ to_ zero), .int .i64 (plain13 op dst ra rb imm loc off ix sz fn acq weak rel pred succ to_ zero), .int .i64 (plain14 op dst ra rb imm loc off ix sz fn acq weak rel pred succ to_ zero), .bool (plain15 op dst ra rb imm loc off ix sz fn acq weak rel pred succ to_ zero)]), (6, .opt (!(!(((op == op) && ((dst == (plain0 op dst ra rb imm loc off ix sz fn acq weak rel pred succ to_ zero)) && ((ra == (plain1 op dst ra rb imm loc off ix sz fn acq weak rel pred succ to_ zero)) && ((rb == (plain2 op dst ra rb imm loc off ix sz fn acq weak rel pred succ to_ zero)) && ((imm == (plain3 op dst ra rb imm loc off ix sz fn acq weak rel pred succ to_ zero)) && ((loc == (plain4 op dst ra rb imm loc off ix sz fn acq weak rel pred succ to_ zero)) && ((off == (plain5 op dst ra rb imm loc off ix sz fn acq weak rel pred succ to_ zero)) && ((ix == (plain6 op dst ra rb imm loc off ix sz fn acq weak rel pred succ to_ zero)) && ((sz == (plain7 op dst ra rb imm loc off ix sz fn acq weak rel pred succ to_ zero)) && ((fn == (plain8 op dst ra rb imm loc off ix sz fn acq weak rel pred succ to_ zero)) && ((acq == (plain9 op dst ra rb imm loc off ix sz fn acq weak rel pred succ to_ zero)) && ((weak == (plain10 op dst ra rb imm loc off ix sz fn acq weak rel pred succ to_ zero)) && ((rel == (plain11 op dst ra rb imm loc off ix sz fn acq weak rel pred succ to_ zero)) && ((pred == (plain12 op dst ra rb imm loc off ix sz fn acq weak rel pred succ to_ zero)) && ((succ == (plain13 op dst ra rb imm loc off ix sz fn acq weak rel pred succ to_ zero)) && ((to_ == (plain14 op dst ra rb imm loc off ix sz fn acq weak rel pred succ to_ zero)) && (zero == (plain15 op dst ra rb imm loc off ix sz fn acq weak rel pred succ to_ zero))))))))))))))))))))) (.bool (sound0 op dst ra rb imm loc off ix sz fn acq weak rel pred succ to_ zero)))] [] A rfl rfl rfl rfl (by kernel_rfl) (effAll_nil _ _) ⟨.inl ⟨_, _, rfl, rfl, plain_ op dst ra rb imm loc off ix sz fn acq weak rel pred succ to_ zero⟩, ⟨.inr ⟨_, _, _, _, _, _, rfl, rfl, rfl, rfl, rfl, fun hg => sound_ op dst ra rb imm loc off ix sz fn acq weak rel pred succ to_ zero⟩, trivial⟩⟩ fun A => N hX 1 A rfl rfl fun A => fork 15 A rfl
  (fun h1 A => N hX 7 A rfl rfl fun A => RETN hX A rfl rfl rfl h0 rfl rfl rfl rfl (by simp only [oneS, nb, nbL, nbH, Right0, if_pos h1]) rfl)
  (fun h1 A => N hX 7 A rfl rfl fun A => CALL1 [] (isBranch_ op dst ra rb imm loc off ix sz fn acq weak rel pred succ to_ zero) A rfl rfl rfl rfl rfl rfl rfl fun A => N hX 14 A rfl rfl fun A => fork 29 A rfl
   (fun h2 A => N hX 7 A rfl rfl fun A => RETN hX A rfl rfl rfl h0 rfl rfl rfl rfl (by simp only [oneS, nb, nbL, nbH, Right0, if_neg (ne_true_of_eq_false h1), if_pos h2]) rfl)
   (fun h2 A => N hX 9 A rfl rfl fun A => RETN hX A rfl rfl rfl h0 rfl rfl rfl rfl (by simp only [oneS, nb, nbL, nbH, Right0, if_neg (ne_true_of_eq_false h1), if_neg (ne_true_of_eq_false h2)]) rfl))
end Go.Proofs.Ytiglneecmibgmaa
/- Lists that lie at addresses, of parts of any size, at any place of a block (codes that are handed in): known by the address; a place of their own when they are read. -/
namespace Go.Proofs.Ytiglneecmibgmaa
open Go.RowKit
set_option linter.unusedVariables false
set_option linter.unusedSimpArgs false
set_option linter.unusedSectionVars false
abbrev BO := Option (Nat × Nat)
def adB (bo : BO) : Option Addr := bo.map fun x => ⟨x.1, x.2, none⟩
def locB (bo : BO) : Option Loc := bo.map fun x => ⟨x.1, List.replicate x.2 undef, [], 0⟩
mutual
theorem adB_den {G : Gr} {i : Nat} {bo : BO} (hG : G[i]? = some (locB bo)) : ∀ (x : SV), (∀ z ∈ slaS x, z = adB bo) → den G (adS i x) = den G x
  | .sla a m c, h => by
    have h1 : a = adB bo := h a (by unfold slaS; exact List.mem_singleton.2 rfl)
    subst h1
    unfold adS den
    rw [hG]
    cases bo with
    | none => rfl
    | some x => simp [locB, adB, rm]
  | .agg l, h => by unfold adS den; rw [adBL_den hG l (by unfold slaS at h; exact h)]
  | .int _ _, _ => rfl
  | .bool _, _ => rfl
  | .tt, _ => rfl
  | .ff, _ => rfl
  | .str _, _ => rfl
  | .ptr _ _, _ => rfl
  | .el _ _ _ _, _ => rfl
  | .ix _ _ _ _ _, _ => rfl
  | .sl _ _ _, _ => rfl
  | .sp _ _ _, _ => rfl
  | .st _ _ _ _ _, _ => rfl
  | .tup _, _ => rfl
  | .fn _ _, _ => rfl
  | .opt _ _, _ => rfl
  | .v _, _ => rfl
theorem adBL_den {G : Gr} {i : Nat} {bo : BO} (hG : G[i]? = some (locB bo)) : ∀ (l : List SV), (∀ z ∈ slaL l, z = adB bo) → denL G (adL i l) = denL G l
  | [], _ => rfl
  | x :: l, h => by
    unfold slaL at h
    unfold adL denL
    rw [adB_den hG x (fun z hz => h z (List.mem_append_left _ hz)), adBL_den hG l (fun z hz => h z (List.mem_append_right _ hz))]
end
/-- a list of n parts of s cells lies there, outside of what may be turned (of none the address may be any) -/
def LstAt (ao : Option Addr) (s n : Nat) (f : Nat → List SV) : Amb := fun w ks =>
  (∀ k, ∃ vs, denL [] (f k) = some vs) ∧ (n = 0 ∨ ∃ b o, ao = adB (some (b, o)) ∧ b < w.heap.size ∧ ks.contains b = false ∧ ∀ k, k < n → ∃ vs, denL [] (f k) = some vs ∧ w.rangeAt b (o + k * s) vs)
theorem LstAt.ok {ao : Option Addr} {s n : Nat} {f : Nat → List SV} : Amb.OK (LstAt ao s n f) := fun w ks w' ks' h m hk => by
  refine ⟨h.1, ?_⟩
  rcases h.2 with h | ⟨b, o, h1, h2, h3, h4⟩
  · exact .inl h
  · refine .inr ⟨b, o, h1, Nat.lt_of_lt_of_le h2 m.size, ?_, fun k hk' => ?_⟩
    · cases hc : ks'.contains b with
      | false => rfl
      | true =>
        rcases hk b hc with h5 | h5
        · rw [h5] at h3; cases h3
        · omega
    · obtain ⟨vs, v1, v2⟩ := h4 k hk'
      exact ⟨vs, v1, range_mix v2 m h2 h3⟩
section
variable {P : Program} {n : Nat} {ks : List Nat} {G0 : Gr} {w0 : World} {T : List (Nat × SV)} {H : Hp} {G : Gr} {a : Act} {w : World} {Q : Exit → Act → World → Prop} {K : List Fr} {pos : Pos}
theorem Sy.adoptB (A : Sy n T H ks G0 w0 G a w) {bo : BO} {s m : Nat} {f : Nat → List SV} (h0 : LstAt (adB bo) s m f w0 ks) (hm0 : m ≠ 0) (t : Nat) {x : SV} (hx : look T t = some x) (hs : ∀ z ∈ slaS x, z = adB bo) : Sy n ((t, adS H.length x) :: T) (H ++ [some (.lst s m f)]) ks G0 w0 (G ++ [locB bo]) a w := by
  have hl := LstAt.ok _ _ _ _ h0 A.mix (fun b hb => .inl hb : ∀ b, ks.contains b = true → ks.contains b = true ∨ w0.heap.size ≤ b)
  have hlen := A.mem.len
  have hG : (G ++ [locB bo])[H.length]? = some (locB bo) := by rw [List.getElem?_append_right (by omega), hlen]; simp
  have hold : ∀ (i : Nat) (e : Ent), (H ++ [some (.lst s m f)])[i]? = some (some e) → (H[i]? = some (some e) ∧ i < H.length) ∨ (i = H.length ∧ e = .lst s m f) := by
    intro i e h
    by_cases hi : i < H.length
    · rw [List.getElem?_append_left hi] at h; exact .inl ⟨h, hi⟩
    · rw [List.getElem?_append_right (by omega)] at h
      have : i - H.length = 0 := by
        cases hq : i - H.length with
        | zero => rfl
        | succ k => rw [hq] at h; simp at h
      rw [this] at h
      simp at h
      exact .inr ⟨by omega, h.symm⟩
  have hGl : ∀ i, i < H.length → (G ++ [locB bo])[i]? = G[i]? := fun i hi => List.getElem?_append_left (by omega)
  refine ⟨A.size, A.defers, fun q z hz => ?_, ⟨by simp [hlen], ?_, ?_⟩, ?_, ?_, A.mix⟩
  · unfold look at hz
    cases hc : Nat.beq t q with
    | true =>
      rw [hc] at hz; cases hz
      have := Nat.eq_of_beq_eq_true hc
      subst this
      rw [adB_den hG x hs]
      exact den_mono _ x (A.get t x hx)
    | false => rw [hc] at hz; exact den_mono _ z (A.get q z hz)
  · intro i e h
    rcases hold i e h with ⟨h1, h2⟩ | ⟨rfl, rfl⟩
    · rw [hGl i h2]; exact (A.mem.ent i e h1).more _
    · rw [hG]
      refine ⟨hl.1, ?_⟩
      rcases hl.2 with h2 | ⟨b, o, h1, h2, _, h4⟩
      · exact .inl h2
      · right
        have e : bo = some (b, o) := by
          cases bo with
          | none => cases h1
          | some z => obtain ⟨z1, z2⟩ := z; simp [adB] at h1; rw [h1.1, h1.2]
        subst e
        refine ⟨_, rfl, h2, fun k hk => ?_⟩
        obtain ⟨vs, v1, v2⟩ := h4 k hk
        exact ⟨vs, v1, by simpa using v2⟩
  · intro i j e g L M hij h1 h2 h3 h4 h5 h6
    rcases hold i e h1 with ⟨k1, k2⟩ | ⟨rfl, rfl⟩
    · rw [hGl i k2] at h4
      rcases hold j g h2 with ⟨k3, k4⟩ | ⟨rfl, rfl⟩
      · rw [hGl j k4] at h5; exact A.mem.sep i j e g L M hij k1 k3 h3 h4 h5 h6
      · rw [hG] at h5
        rcases h0.2 with q | ⟨b, o, q1, q2, q3, _⟩
        · exact absurd q h6
        · have e : bo = some (b, o) := by
            cases bo with
            | none => cases q1
            | some z => obtain ⟨z1, z2⟩ := z; simp [adB] at q1; rw [q1.1, q1.2]
          subst e
          cases h5
          intro hLM
          rcases A.own i e L k1 h3 h4 with h7 | h7
          · rw [hLM] at h7; simp only at h7; rw [q3] at h7; cases h7
          · rw [hLM] at h7; simp only at h7; omega
    · cases h3
  · obtain ⟨F, hF⟩ := A.pre; exact ⟨F ++ [locB bo], by rw [hF, List.append_assoc]⟩
  · intro i e L h1 h2 h3
    rcases hold i e h1 with ⟨k1, k2⟩ | ⟨rfl, rfl⟩
    · rw [hGl i k2] at h3; exact A.own i e L k1 h2 h3
    · cases h2
def locO (ao : Option Addr) : Option Loc := ao.map fun a => ⟨a.block, List.replicate a.off undef, [], 0⟩
/-- a list known by its address gets a place, where it is not empty -/
theorem ADOPTD {ao : Option Addr} {s m : Nat} {f : Nat → List SV} (t : Nat) (h0 : LstAt ao s m f w0 ks) (hm : m ≠ 0) (A : Sy n T H ks G0 w0 G a w) {x y : SV} {H' : Hp} (hx : look T t = some x) (hs : slaS x = [ao]) (hy : adS H.length x = y) (hH : H ++ [some (.lst s m f)] = H') (hk : den (G ++ [locO ao]) y = den (G ++ [locO ao]) x → Sy n ((t, y) :: T) H' ks G0 w0 (G ++ [locO ao]) a w → Goal P Q K pos a w) : Goal P Q K pos a w := by
  subst hy; subst hH
  rcases h0.2 with q | ⟨b, o, e, _⟩
  · exact absurd q hm
  · subst e
    have hz : ∀ z ∈ slaS x, z = adB (some (b, o)) := fun z hz => by rw [hs] at hz; exact List.mem_singleton.1 hz
    have hlen := A.mem.len
    have hG : (G ++ [locB (some (b, o))])[H.length]? = some (locB (some (b, o))) := by rw [List.getElem?_append_right (by omega), hlen]; simp
    exact hk (adB_den hG x hz) (A.adoptB h0 hm t hx hz)
/-- what a slot was said to be before stands again -/
theorem Sy.undo {d t : Nat} {e x y : SV} (A : Sy n ((d, e) :: (t, y) :: T) H ks G0 w0 G a w) (hd : den G y = den G x) (hx : look T t = some x) (hdt : Nat.beq d t = false) : Sy n ((d, e) :: T) H ks G0 w0 G a w :=
  ⟨A.size, A.defers, fun s z hz => by
    unfold look at hz
    cases hc : Nat.beq d s with
    | true => rw [hc] at hz; cases hz; have := Nat.eq_of_beq_eq_true hc; subst this; exact A.get d e (by unfold look; rw [hc]; rfl)
    | false =>
      rw [hc] at hz
      cases hq : Nat.beq t s with
      | true =>
        have := Nat.eq_of_beq_eq_true hq
        subst this
        rw [hx] at hz
        cases hz
        rw [← hd]
        exact A.get t y (by unfold look; rw [hdt]; show look _ _ = _; unfold look; rw [hq]; rfl)
      | false => exact A.get s z (by unfold look; rw [hc]; show look _ _ = _; unfold look; rw [hq]; exact hz), A.mem, A.pre, A.own, A.mix⟩
/-- a list known by its address gets a place for one step only -/
theorem ADOPTN {Y : Tb} {pos' : Pos} {K' : List Fr} {E : Ob} {ao : Option Addr} {s m : Nat} {f : Nat → List SV} (hX : Y.ok P = true) (d t : Nat) (h0 : LstAt ao s m f w0 ks) (hm : m ≠ 0) (A : Sy n T H ks G0 w0 G a w) {x y e : SV} {H' : Hp} (hx : look T t = some x) (hs : slaS x = [ao]) (hy : adS H.length x = y) (hH : H ++ [some (.lst s m f)] = H') (hdt : Nat.beq d t = false) (h : goN ⟨Y, true⟩ n 1 ((t, y) :: T) H' K pos = ⟨(d, e) :: (t, y) :: T, H', K', pos', E⟩) (hE : okE E) (hk : ∀ {G a w}, Sy n ((d, e) :: T) H' ks G0 w0 G a w → Goal P Q K' pos' a w) : Goal P Q K pos a w := by
  subst hy; subst hH
  rcases h0.2 with q | ⟨b, o, eo, _⟩
  · exact absurd q hm
  · subst eo
    have hz : ∀ z ∈ slaS x, z = adB (some (b, o)) := fun z hz => by rw [hs] at hz; exact List.mem_singleton.1 hz
    have hlen := A.mem.len
    have B := A.adoptB h0 hm t hx hz
    obtain ⟨F0, hF0⟩ := A.pre
    have C : Sy n ((t, adS H.length x) :: T) (H ++ [some (.lst s m f)]) ks (G ++ [locB (some (b, o))]) w0 (G ++ [locB (some (b, o))]) a w := ⟨B.size, B.defers, B.get, B.mem, ⟨[], by rw [List.append_nil]⟩, B.own, B.mix⟩
    refine N hX 1 C h hE fun {G' a' w'} D => ?_
    obtain ⟨F, hF⟩ := D.pre
    have hG : G'[H.length]? = some (locB (some (b, o))) := by rw [hF, List.getElem?_append_left (by rw [List.length_append, List.length_singleton]; omega), List.getElem?_append_right (by omega), hlen]; simp
    have D' := D.undo (adB_den hG x hz) hx hdt
    exact hk ⟨D'.size, D'.defers, D'.get, D'.mem, ⟨F0 ++ [locB (some (b, o))] ++ F, by rw [hF, hF0]; simp only [List.append_assoc]⟩, D'.own, D'.mix⟩
end
end Go.Proofs.Ytiglneecmibgmaa
/- uir.Check of codes that are handed in. -/
namespace Go.Proofs.Ytiglneecmibgmaa
open Go.RowKit
set_option linter.unusedVariables false
set_option linter.unusedSimpArgs false
set_option maxRecDepth 100000
set_option maxHeartbeats 2000000
set_option simprocs false
def In.z : In := ⟨0, 0, 0, 0, 0, 0, 0, 0, 0, 0, false, false, false, 0, 0, 0, false⟩
abbrev insS (i : In) : List SV := [.int .i64 i.op, .int .i64 i.dst, .int .i64 i.ra, .int .i64 i.rb, .int .i64 i.imm, .int .i64 i.loc, .int .i64 i.off, .int .i64 i.ix, .int .i64 i.sz, .int .i64 i.fn, .bool i.acq, .bool i.weak, .bool i.rel, .int .i64 i.pred, .int .i64 i.succ, .int .i64 i.to_, .bool i.zero]
structure Cde where (ao : Option Addr) (l : List In) (cp : Nat)
def Cde.z : Cde := ⟨none, [], 0⟩
abbrev cdc (c : Cde) : List SV := [.sla c.ao c.l.length c.cp]
abbrev Cde.lies (c : Cde) : Amb := LstAt c.ao 17 c.l.length (fun zz => insS (c.l.getD zz In.z))
/-- all codes lie where they say -/
def CodesAt (cs : List Cde) : Amb := fun w ks => ∀ c ∈ cs, c.lies w ks
theorem CodesAt.ok {cs : List Cde} : Amb.OK (CodesAt cs) := fun w ks w' ks' h m hk c hc => LstAt.ok _ _ _ _ (h c hc) m hk
theorem CodesAt.at {cs : List Cde} {w : World} {ks : List Nat} (h : CodesAt cs w ks) {k : Nat} (hk : k < cs.length) : (cs.getD k Cde.z).lies w ks := h _ (by rw [List.getD_eq_getElem?_getD, List.getElem?_eq_getElem hk]; exact List.getElem_mem hk)
def R17 (i : In) (a n : Int) : Int := Right0 i.op i.dst i.ra i.rb i.imm i.loc i.off i.ix i.sz i.fn i.acq i.weak i.rel i.pred i.succ i.to_ i.zero a n
/-- the first code that is too long; the first instruction of a code that is not right; the first code that holds one -/
def bad1 (cs : List Cde) : Option Nat := (List.range cs.length).find? fun k => decide (8 < (cs.getD k Cde.z).l.length)
def badC (c : Cde) : Option Nat := (List.range c.l.length).find? fun k => !(R17 (c.l.getD k In.z) (k : Int) ((c.l.length : Nat) : Int) == 0)
def bad2 (cs : List Cde) : Option Nat := (List.range cs.length).find? fun k => (badC (cs.getD k Cde.z)).isSome
structure B1 (cs : List Cde) (i : Nat) : Prop where
  le : i ≤ cs.length
  ok : ∀ j, j < i → (cs.getD j Cde.z).l.length ≤ 8
structure B2 (cs : List Cde) (i : Nat) : Prop where
  le : i ≤ cs.length
  ok : ∀ j, j < i → badC (cs.getD j Cde.z) = none
structure B3 (c : Cde) (k : Nat) : Prop where
  le : k ≤ c.l.length
  ok : ∀ j, j < k → R17 (c.l.getD j In.z) (j : Int) ((c.l.length : Nat) : Int) = 0
section
variable {cs : List Cde} {c : Cde} {i k : Nat}
theorem B1.i0 : B1 cs 0 := ⟨Nat.zero_le _, fun j hj => by omega⟩
theorem B1.nx (h : B1 cs i) (h1 : (i : Int) < ((cs.length : Nat) : Int)) (h2 : ¬ ((((cs.getD ((i : Int)).toNat Cde.z).l.length : Nat) : Int) > 8)) : B1 cs (i + 1) := ⟨by omega, fun j hj => by
  by_cases e : j = i
  · subst e; rw [Int.toNat_natCast] at h2; omega
  · exact h.ok j (by omega)⟩
theorem B1.bad (h : B1 cs i) (h1 : (i : Int) < ((cs.length : Nat) : Int)) (h2 : (((cs.getD ((i : Int)).toNat Cde.z).l.length : Nat) : Int) > 8) : bad1 cs = some i := by
  unfold bad1
  rw [List.find?_range_eq_some]
  rw [Int.toNat_natCast] at h2
  refine ⟨by simp only [decide_eq_true_eq]; omega, by simp only [List.mem_range]; omega, fun j hj => ?_⟩
  have := h.ok j hj
  simp only [Bool.not_eq_true', decide_eq_false_iff_not]; omega
theorem B1.good (h : B1 cs i) (h1 : ¬ (i : Int) < ((cs.length : Nat) : Int)) : bad1 cs = none := by
  unfold bad1
  rw [List.find?_eq_none]
  intro j hj
  simp only [List.mem_range] at hj
  have := h.ok j (by omega)
  simp only [decide_eq_true_eq]; omega
theorem B3.i0 : B3 c 0 := ⟨Nat.zero_le _, fun j hj => by omega⟩
theorem B3.nx (h : B3 c k) (h1 : (k : Int) < ((c.l.length : Nat) : Int)) (h2 : R17 (c.l.getD ((k : Int)).toNat In.z) (k : Int) ((c.l.length : Nat) : Int) = 0) : B3 c (k + 1) := ⟨by omega, fun j hj => by
  by_cases e : j = k
  · subst e; rw [Int.toNat_natCast] at h2; exact h2
  · exact h.ok j (by omega)⟩
theorem B3.bad (h : B3 c k) (h1 : (k : Int) < ((c.l.length : Nat) : Int)) (h2 : R17 (c.l.getD ((k : Int)).toNat In.z) (k : Int) ((c.l.length : Nat) : Int) ≠ 0) : badC c = some k := by
  unfold badC
  rw [List.find?_range_eq_some]
  rw [Int.toNat_natCast] at h2
  refine ⟨by rw [beq_eq_false_iff_ne.2 h2]; rfl, by simp only [List.mem_range]; omega, fun j hj => ?_⟩
  rw [h.ok j hj]; rfl
theorem B3.good (h : B3 c k) (h1 : ¬ (k : Int) < ((c.l.length : Nat) : Int)) : badC c = none := by
  unfold badC
  rw [List.find?_eq_none]
  intro j hj
  simp only [List.mem_range] at hj
  rw [h.ok j (by omega)]; decide
theorem B2.i0 : B2 cs 0 := ⟨Nat.zero_le _, fun j hj => by omega⟩
theorem B2.nx (h : B2 cs i) (h1 : (i : Int) < ((cs.length : Nat) : Int)) (h2 : badC (cs.getD ((i : Int)).toNat Cde.z) = none) : B2 cs (i + 1) := ⟨by omega, fun j hj => by
  by_cases e : j = i
  · subst e; rw [Int.toNat_natCast] at h2; exact h2
  · exact h.ok j (by omega)⟩
theorem B2.bad (h : B2 cs i) (h1 : (i : Int) < ((cs.length : Nat) : Int)) {k : Nat} (h2 : badC (cs.getD ((i : Int)).toNat Cde.z) = some k) : bad2 cs = some i := by
  unfold bad2
  rw [List.find?_range_eq_some]
  rw [Int.toNat_natCast] at h2
  refine ⟨by rw [h2]; rfl, by simp only [List.mem_range]; omega, fun j hj => ?_⟩
  rw [h.ok j hj]; rfl
theorem B2.good (h : B2 cs i) (h1 : ¬ (i : Int) < ((cs.length : Nat) : Int)) : bad2 cs = none := by
  unfold bad2
  rw [List.find?_eq_none]
  intro j hj
  simp only [List.mem_range] at hj
  rw [h.ok j (by omega)]; decide
end
theorem len_at {cs : List Cde} {B : Nat} (hs : ∀ c ∈ cs, c.l.length ≤ B) (k : Nat) : (cs.getD k Cde.z).l.length ≤ B := by
  rw [List.getD_eq_getElem?_getD]
  cases hh : cs[k]? with
  | none => exact Nat.zero_le _
  | some y => exact hs y (List.mem_of_getElem? hh)
theorem bad1_le {cs : List Cde} (h : bad1 cs = none) : ∀ c ∈ cs, c.l.length ≤ 8 := fun c hc => by
  obtain ⟨j, hj⟩ := List.getElem?_of_mem hc
  have hl := (List.getElem?_eq_some_iff.1 hj).1
  unfold bad1 at h
  rw [List.find?_eq_none] at h
  have h2 := h j (List.mem_range.2 hl)
  rw [List.getD_eq_getElem?_getD, hj] at h2
  simp only [Option.getD_some, decide_eq_true_eq] at h2
  omega
theorem or_f2 {p q : Prop} [Decidable p] [Decidable q] (h : (decide p || decide q) = false) : ¬ p ∧ ¬ q := by simpa using h
def isOpI (i : In) : Bool := isOp0 i.op i.dst i.ra i.rb i.imm i.loc i.off i.ix i.sz i.fn i.acq i.weak i.rel i.pred i.succ i.to_ i.zero
def cntI (p : In → Bool) (l : List In) : Nat := (l.filter p).length
def cntA (p : In → Bool) (cs : List Cde) : Nat := (cs.map fun c => cntI p c.l).sum
def isBrI (i : In) : Bool := i.op == 9
def cntEr (cs : List Cde) : Int := if ((cntA isOpI cs : Nat) : Int) > 6 then 32 else if ((cntA isBrI cs : Nat) : Int) > 3 then 33 else 0
def ckT (cs : List Cde) : Int := if (decide (((cs.length : Nat) : Int) < 1) || decide (((cs.length : Nat) : Int) > 3)) = true then 0 else match bad1 cs with
  | some k => (k : Int)
  | none => match bad2 cs with
    | some k => (k : Int)
    | none => 0
def ckA (cs : List Cde) : Int := if (decide (((cs.length : Nat) : Int) < 1) || decide (((cs.length : Nat) : Int) > 3)) = true then 0 else match bad1 cs with
  | some k => 0
  | none => match bad2 cs with
    | some k => (((badC (cs.getD k Cde.z)).getD 0 : Nat) : Int)
    | none => 0
def ckE (cs : List Cde) : Int := if (decide (((cs.length : Nat) : Int) < 1) || decide (((cs.length : Nat) : Int) > 3)) = true then 30 else match bad1 cs with
  | some k => 31
  | none => match bad2 cs with
    | some k => R17 ((cs.getD k Cde.z).l.getD ((badC (cs.getD k Cde.z)).getD 0) In.z) (((badC (cs.getD k Cde.z)).getD 0 : Nat) : Int) (((cs.getD k Cde.z).l.length : Nat) : Int)
    | none => cntEr cs
theorem uCheck_ (cs : List Cde) (cx : Nat) (hs : ∀ c ∈ cs, c.l.length ≤ 9223372036854775807) (hcc : bad1 cs = none → cs.length ≤ 3 → FnI (CodesAt cs) Try.prog 20 [.sl 0 cs.length cx] [some (.lst 1 cs.length (fun zz => cdc (cs.getD zz Cde.z)))] (Rt (.int .i64 (cntEr cs)) [some (.lst 1 cs.length (fun zz => cdc (cs.getD zz Cde.z)))])) : FnI (CodesAt cs) Try.prog 12 [.sl 0 cs.length cx] [some (.lst 1 cs.length (fun zz => cdc (cs.getD zz Cde.z)))] (Rt (.tup [.int .i64 (ckT cs), .int .i64 (ckA cs), .int .i64 (ckE cs)]) [some (.lst 1 cs.length (fun zz => cdc (cs.getD zz Cde.z)))]) :=
 enterI (n := 60) (by kernel_rfl) Try.func12 rfl rfl rfl fun G w a h0 hI A => N hX 20 A rfl rfl fun A => fork 19 A rfl
  (fun h1 A => N hX 9 A rfl rfl fun A => RETN hX A rfl rfl rfl h0 rfl rfl rfl rfl (by unfold ckT ckA ckE; rw [if_pos h1, if_pos h1, if_pos h1]; rfl) rfl)
  (fun h1 A => N hX 12 A rfl rfl fun A => LOOP1 (fun (i : Nat) => [(0, .sl 0 cs.length cx), (2, .int .i64 0), (3, .int .i64 0), (4, .int .i64 0), (20, .sl 0 cs.length cx), (21, .int .i64 ((cs.length : Nat) : Int)), (22, .int .i64 (i : Int))]) (fun (i : Nat) => [some (.lst 1 cs.length (fun zz => cdc (cs.getD zz Cde.z)))]) (fun (i : Nat) => B1 cs i) (fun (i : Nat) => cs.length - i) 0 B1.i0 ((A.cut [0, 2, 3, 4, 20, 21, 22] rfl).trunc 1 rfl rfl rfl (by simp only [List.length_cons, List.length_nil] at h0; omega)) fun i hJ {G a w} A => N hX 6 A rfl rfl fun A => forkD 23 A rfl
    (fun h2 A => N hX 15 A rfl (ok_d (by (try have hz := or_f2 h1); (try have hy := len_at hs ((i : Int)).toNat); (try have := hL.le); (try have := hK.le); (try have := hJ.le); omega) <| ok_d (by (try have hz := or_f2 h1); (try have hy := len_at hs ((i : Int)).toNat); (try have := hL.le); (try have := hK.le); (try have := hJ.le); omega) <| okE_nil) fun A => N hX 6 A rfl rfl fun A => forkD 29 A rfl
     (fun h3 A => N hX 10 A rfl rfl fun A => RETN hX A rfl rfl rfl h0 rfl rfl rfl rfl (by unfold ckT ckA ckE; rw [if_neg (ne_true_of_eq_false h1), if_neg (ne_true_of_eq_false h1), if_neg (ne_true_of_eq_false h1)]; rw [hJ.bad h2 h3]; rfl) rfl)
     (fun h3 A => N hX 8 A rfl (ok_d (by (try have hz := or_f2 h1); (try have hy := len_at hs ((i : Int)).toNat); (try have := hL.le); (try have := hK.le); (try have := hJ.le); omega) <| okE_nil) fun A => ⟨i + 1, _, (by omega), (hJ.nx h2 h3), ((A.cut [0, 2, 3, 4, 20, 21, 22] rfl).trunc 1 rfl rfl rfl (by simp only [List.length_cons, List.length_nil] at h0; omega))⟩))
    (fun h2 A => N hX 12 A rfl rfl fun A => have hG := hJ.good h2; LOOP1 (fun (i : Nat) => [(0, .sl 0 cs.length cx), (2, .int .i64 0), (3, .int .i64 0), (4, .int .i64 0), (32, .sl 0 cs.length cx), (33, .int .i64 ((cs.length : Nat) : Int)), (34, .int .i64 (i : Int))]) (fun (i : Nat) => [some (.lst 1 cs.length (fun zz => cdc (cs.getD zz Cde.z)))]) (fun (i : Nat) => B2 cs i) (fun (i : Nat) => cs.length - i) 0 B2.i0 ((A.cut [0, 2, 3, 4, 32, 33, 34] rfl).trunc 1 rfl rfl rfl (by simp only [List.length_cons, List.length_nil] at h0; omega)) fun i hK {G a w} A => N hX 6 A rfl rfl fun A => forkD 35 A rfl
      (fun h4 A => N hX 15 A rfl (ok_d (by (try have hz := or_f2 h1); (try have hy := len_at hs ((i : Int)).toNat); (try have := hL.le); (try have := hK.le); (try have := hJ.le); omega) <| ok_d (by (try have hz := or_f2 h1); (try have hy := len_at hs ((i : Int)).toNat); (try have := hL.le); (try have := hK.le); (try have := hJ.le); omega) <| okE_nil) fun A => N hX 7 A rfl rfl fun A => LOOP1 (fun (k : Nat) => [(0, .sl 0 cs.length cx), (2, .int .i64 0), (3, .int .i64 0), (4, .int .i64 0), (7, .int .i64 (i : Int)), (8, .sla ((cs.getD (((i : Int)).toNat) Cde.z).ao) ((cs.getD (((i : Int)).toNat) Cde.z).l.length) ((cs.getD (((i : Int)).toNat) Cde.z).cp)), (32, .sl 0 cs.length cx), (33, .int .i64 ((cs.length : Nat) : Int)), (34, .int .i64 (i : Int)), (39, .sla ((cs.getD (((i : Int)).toNat) Cde.z).ao) ((cs.getD (((i : Int)).toNat) Cde.z).l.length) ((cs.getD (((i : Int)).toNat) Cde.z).cp)), (40, .int .i64 (((cs.getD (((i : Int)).toNat) Cde.z).l.length : Nat) : Int)), (41, .int .i64 (k : Int))]) (fun (k : Nat) => [some (.lst 1 cs.length (fun zz => cdc (cs.getD zz Cde.z)))]) (fun (k : Nat) => B3 (cs.getD ((i : Int)).toNat Cde.z) k) (fun (k : Nat) => (cs.getD ((i : Int)).toNat Cde.z).l.length - k) 0 B3.i0 ((A.cut [0, 2, 3, 4, 7, 8, 32, 33, 34, 39, 40, 41] rfl).trunc 1 rfl rfl rfl (by simp only [List.length_cons, List.length_nil] at h0; omega)) fun k hL {G a w} A => N hX 6 A rfl rfl fun A => forkD 42 A rfl
        (fun h5 A => N hX 8 A rfl rfl fun A => ADOPTN (ao := (cs.getD (((i : Int)).toNat) Cde.z).ao) (s := 17) (m := (cs.getD (((i : Int)).toNat) Cde.z).l.length) (f := fun zz => insS ((cs.getD (((i : Int)).toNat) Cde.z).l.getD zz In.z)) hX 44 39 (hI.at (by omega)) (by omega) A rfl rfl rfl rfl rfl rfl (ok_d (by (try have hz := or_f2 h1); (try have hy := len_at hs ((i : Int)).toNat); (try have := hL.le); (try have := hK.le); (try have := hJ.le); omega) <| okE_nil) fun A => N hX 7 A rfl (ok_d (by (try have hz := or_f2 h1); (try have hy := len_at hs ((i : Int)).toNat); (try have := hL.le); (try have := hK.le); (try have := hJ.le); omega) <| okE_nil) fun A => N hX 5 A rfl rfl fun A => CALL1 [] (Right_ ((cs.getD (((i : Int)).toNat) Cde.z).l.getD (((k : Int)).toNat) In.z).op ((cs.getD (((i : Int)).toNat) Cde.z).l.getD (((k : Int)).toNat) In.z).dst ((cs.getD (((i : Int)).toNat) Cde.z).l.getD (((k : Int)).toNat) In.z).ra ((cs.getD (((i : Int)).toNat) Cde.z).l.getD (((k : Int)).toNat) In.z).rb ((cs.getD (((i : Int)).toNat) Cde.z).l.getD (((k : Int)).toNat) In.z).imm ((cs.getD (((i : Int)).toNat) Cde.z).l.getD (((k : Int)).toNat) In.z).loc ((cs.getD (((i : Int)).toNat) Cde.z).l.getD (((k : Int)).toNat) In.z).off ((cs.getD (((i : Int)).toNat) Cde.z).l.getD (((k : Int)).toNat) In.z).ix ((cs.getD (((i : Int)).toNat) Cde.z).l.getD (((k : Int)).toNat) In.z).sz ((cs.getD (((i : Int)).toNat) Cde.z).l.getD (((k : Int)).toNat) In.z).fn ((cs.getD (((i : Int)).toNat) Cde.z).l.getD (((k : Int)).toNat) In.z).acq ((cs.getD (((i : Int)).toNat) Cde.z).l.getD (((k : Int)).toNat) In.z).weak ((cs.getD (((i : Int)).toNat) Cde.z).l.getD (((k : Int)).toNat) In.z).rel ((cs.getD (((i : Int)).toNat) Cde.z).l.getD (((k : Int)).toNat) In.z).pred ((cs.getD (((i : Int)).toNat) Cde.z).l.getD (((k : Int)).toNat) In.z).succ ((cs.getD (((i : Int)).toNat) Cde.z).l.getD (((k : Int)).toNat) In.z).to_ ((cs.getD (((i : Int)).toNat) Cde.z).l.getD (((k : Int)).toNat) In.z).zero (k : Int) (((cs.getD (((i : Int)).toNat) Cde.z).l.length : Nat) : Int)) A rfl rfl rfl rfl rfl rfl rfl fun A => N hX 9 A rfl rfl fun A => forkN 52 A rfl
         (fun h6 A => N hX 12 A rfl rfl fun A => RETN hX A rfl rfl rfl h0 rfl rfl rfl rfl (by unfold ckT ckA ckE; rw [if_neg (ne_true_of_eq_false h1), if_neg (ne_true_of_eq_false h1), if_neg (ne_true_of_eq_false h1)]; have hb := hL.bad h5 h6; have hb2 := hK.bad h4 hb; rw [Int.toNat_natCast] at hb; simp only [hG, hb2, hb, Option.getD_some, Int.toNat_natCast]; rfl) rfl)
         (fun h6 A => N hX 8 A rfl (ok_d (by (try have hz := or_f2 h1); (try have hy := len_at hs ((i : Int)).toNat); (try have := hL.le); (try have := hK.le); (try have := hJ.le); omega) <| okE_nil) fun A => ⟨k + 1, _, (by omega), (hL.nx h5 h6), ((A.cut [0, 2, 3, 4, 7, 8, 32, 33, 34, 39, 40, 41] rfl).trunc 1 rfl rfl rfl (by simp only [List.length_cons, List.length_nil] at h0; omega))⟩))
        (fun h5 A => N hX 8 A rfl (ok_d (by (try have hz := or_f2 h1); (try have hy := len_at hs ((i : Int)).toNat); (try have := hL.le); (try have := hK.le); (try have := hJ.le); omega) <| okE_nil) fun A => ⟨i + 1, _, (by omega), (hK.nx h4 (hL.good h5)), ((A.cut [0, 2, 3, 4, 32, 33, 34] rfl).trunc 1 rfl rfl rfl (by simp only [List.length_cons, List.length_nil] at h0; omega))⟩))
      (fun h4 A => N hX 6 A rfl rfl fun A => CALLI [0] CodesAt.ok hI (hcc hG (by have hz := or_f2 h1; omega)) A rfl rfl rfl rfl rfl rfl rfl fun A => N hX 6 A rfl rfl fun A => RETN hX A rfl rfl rfl h0 rfl rfl rfl rfl (by unfold ckT ckA ckE; rw [if_neg (ne_true_of_eq_false h1), if_neg (ne_true_of_eq_false h1), if_neg (ne_true_of_eq_false h1)]; simp only [hG, hK.good h4]; rfl) rfl)))
end Go.Proofs.Ytiglneecmibgmaa
/- how many operations and branches codes have. -/
namespace Go.Proofs.Ytiglneecmibgmaa
open Go.RowKit
set_option linter.unusedVariables false
set_option linter.unusedSimpArgs false
set_option maxRecDepth 100000
set_option maxHeartbeats 2000000
set_option simprocs false
structure CnI (p : In → Bool) (l : List In) (m k : Nat) : Prop where
  le : k ≤ l.length
  ml : m ≤ k
  eq : m + cntI p (l.drop k) = cntI p l
theorem cntI_le (p : In → Bool) (l : List In) : cntI p l ≤ l.length := List.length_filter_le _ _
section
variable {p : In → Bool} {l : List In} {m k : Nat}
theorem CnI.i0 : CnI p l 0 0 := ⟨Nat.zero_le _, Nat.le_refl _, by rw [List.drop_zero, Nat.zero_add]⟩
theorem CnI.at (h1 : (k : Int) < ((l.length : Nat) : Int)) : cntI p (l.drop k) = (if p (l.getD ((k : Int)).toNat In.z) = true then 1 else 0) + cntI p (l.drop (k + 1)) := by
  have hk : k < l.length := by omega
  have e : l.getD ((k : Int)).toNat In.z = l[k] := by rw [Int.toNat_natCast, List.getD_eq_getElem?_getD, List.getElem?_eq_getElem hk]; rfl
  rw [List.drop_eq_getElem_cons hk, e]
  unfold cntI
  rw [List.filter_cons]
  split
  · rw [List.length_cons]; omega
  · omega
theorem CnI.y (hI : CnI p l m k) (h1 : (k : Int) < ((l.length : Nat) : Int)) (h : p (l.getD ((k : Int)).toNat In.z) = true) : CnI p l (m + 1) (k + 1) := ⟨by omega, by have := hI.ml; omega, by rw [← hI.eq, CnI.at h1, if_pos h]; omega⟩
theorem CnI.n (hI : CnI p l m k) (h1 : (k : Int) < ((l.length : Nat) : Int)) (h : p (l.getD ((k : Int)).toNat In.z) = false) : CnI p l m (k + 1) := ⟨by omega, by have := hI.ml; omega, by rw [← hI.eq, CnI.at h1, if_neg (by rw [h]; decide)]; omega⟩
theorem CnI.fi (hI : CnI p l m k) (h1 : ¬ (k : Int) < ((l.length : Nat) : Int)) : (m : Int) = ((cntI p l : Nat) : Int) := by
  have := hI.eq
  rw [List.drop_eq_nil_of_le (by omega)] at this
  have e : cntI p [] = 0 := rfl
  omega
end
structure CmI (cs : List Cde) (x y i : Nat) : Prop where
  le : i ≤ cs.length
  x1 : x = cntA isOpI (cs.take i)
  y1 : y = cntA isBrI (cs.take i)
theorem cntA_nx {cs : List Cde} {p : In → Bool} {i : Nat} (h : (i : Int) < ((cs.length : Nat) : Int)) : cntA p (cs.take (i + 1)) = cntA p (cs.take i) + cntI p (cs.getD ((i : Int)).toNat Cde.z).l := by
  have hi : i < cs.length := by omega
  have e : cs.getD ((i : Int)).toNat Cde.z = cs[i] := by rw [Int.toNat_natCast, List.getD_eq_getElem?_getD, List.getElem?_eq_getElem hi]; rfl
  rw [e, List.take_succ_eq_append_getElem hi]
  unfold cntA
  rw [List.map_append, List.sum_append]
  rfl
theorem cntA_le {p : In → Bool} : ∀ (cs : List Cde), (∀ c ∈ cs, c.l.length ≤ 1000000) → cntA p cs ≤ 1000000 * cs.length
  | [], _ => Nat.le_refl _
  | c :: cs, h => by
    have h1 := cntA_le (p := p) cs fun x hx => h x (List.mem_cons_of_mem _ hx)
    have h2 := cntI_le p c.l
    have h3 := h c (List.mem_cons_self ..)
    show cntI p c.l + cntA p cs ≤ _
    rw [List.length_cons]; omega
theorem CmI.i0 {cs : List Cde} : CmI cs 0 0 0 := ⟨Nat.zero_le _, rfl, rfl⟩
theorem CmI.nx {cs : List Cde} {x y i : Nat} (h : CmI cs x y i) (h1 : (i : Int) < ((cs.length : Nat) : Int)) : CmI cs (x + cntI isOpI (cs.getD ((i : Int)).toNat Cde.z).l) (y + cntI isBrI (cs.getD ((i : Int)).toNat Cde.z).l) (i + 1) := ⟨by omega, by rw [cntA_nx h1, h.x1], by rw [cntA_nx h1, h.y1]⟩
theorem CmI.fi {cs : List Cde} {x y i : Nat} (h : CmI cs x y i) (h1 : ¬ (i : Int) < ((cs.length : Nat) : Int)) : x = cntA isOpI cs ∧ y = cntA isBrI cs := by
  have hx := h.x1; have hy := h.y1
  rw [List.take_of_length_le (by omega)] at hx hy
  exact ⟨hx, hy⟩
theorem CmI.bd {cs : List Cde} {x y i : Nat} (h : CmI cs x y i) (hs : ∀ c ∈ cs, c.l.length ≤ 1000000) (hn : cs.length ≤ 1000000) : x ≤ 1000000000000 ∧ y ≤ 1000000000000 := by
  have h1 := cntA_le (p := isOpI) (cs.take i) fun c hc => hs c (List.mem_of_mem_take hc)
  have h2 := cntA_le (p := isBrI) (cs.take i) fun c hc => hs c (List.mem_of_mem_take hc)
  have h3 : (cs.take i).length ≤ 1000000 := by rw [List.length_take]; omega
  rw [h.x1, h.y1]
  constructor
  · exact Nat.le_trans h1 (by omega)
  · exact Nat.le_trans h2 (by omega)
theorem ucount_ (l : List In) (ao : Option Addr) (c : Nat) (f : Nat) (p : In → Bool) (hf : ∀ i : In, Fn Try.prog f [.agg (insS i)] [] (Rt (.bool (p i)) [])) (hn : l.length ≤ 1000000) : FnI (LstAt ao 17 l.length (fun zz => insS (l.getD zz In.z))) Try.prog 46 [.sla ao l.length c, .fn f []] [] (Rt (.int .i64 ((cntI p l : Nat) : Int)) []) :=
 enterI (n := 21) (by kernel_rfl) Try.func46 rfl rfl rfl fun G w a h0 hI A => N hX 19 A rfl rfl fun A => LOOP2 (fun (m : Nat) (k : Nat) => [(1, .fn f []), (4, .int .i64 0), (5, .int .i64 (m : Int)), (8, .sla ao l.length c), (9, .int .i64 ((l.length : Nat) : Int)), (10, .int .i64 (k : Int))]) (fun (m : Nat) (k : Nat) => []) (fun (m : Nat) (k : Nat) => CnI p l m k) (fun (m : Nat) (k : Nat) => l.length - k) 0 0 CnI.i0 ((A.cut [1, 4, 5, 8, 9, 10] rfl).trunc 0 rfl rfl rfl (by simp only [List.length_cons, List.length_nil] at h0; omega)) fun m k hJ {G a w} A => N hX 6 A rfl rfl fun A => forkD 11 A rfl
   (fun h1 A => N hX 7 A rfl rfl fun A => ADOPTN (ao := ao) (s := 17) (m := l.length) (f := fun zz => insS (l.getD zz In.z)) hX 12 8 (hI) (by omega) A rfl rfl rfl rfl rfl rfl (ok_d (by have := hJ.le; have := hJ.ml; omega) <| okE_nil) fun A => N hX 6 A rfl (ok_d (by have := hJ.le; have := hJ.ml; omega) <| okE_nil) fun A => N hX 3 A rfl rfl fun A => CALL1 [] (hf (l.getD (((k : Int)).toNat) In.z)) A rfl rfl rfl rfl rfl rfl rfl fun A => N hX 2 A rfl rfl fun A => fork 16 A rfl
    (fun h2 A => N hX 8 A rfl (ok_d (by have := hJ.le; have := hJ.ml; omega) <| okE_nil) fun A => N hX 4 A rfl (ok_d (by have := hJ.le; have := hJ.ml; omega) <| okE_nil) fun A => ⟨m + 1, k + 1, _, (by omega), (hJ.y h1 h2), ((A.cut [1, 4, 5, 8, 9, 10] rfl).trunc 0 rfl rfl rfl (by simp only [List.length_cons, List.length_nil] at h0; omega))⟩)
    (fun h2 A => N hX 8 A rfl (ok_d (by have := hJ.le; have := hJ.ml; omega) <| okE_nil) fun A => ⟨m, k + 1, _, (by omega), (hJ.n h1 h2), ((A.cut [1, 4, 5, 8, 9, 10] rfl).trunc 0 rfl rfl rfl (by simp only [List.length_cons, List.length_nil] at h0; omega))⟩))
   (fun h1 A => N hX 10 A rfl rfl fun A => RETN hX A rfl rfl rfl h0 rfl rfl rfl rfl (congrArg (SV.int IntKind.i64) (hJ.fi h1)) rfl)
theorem isOpF (i : In) : Fn Try.prog 41 [.agg (insS i)] [] (Rt (.bool (isOpI i)) []) := isOp_ i.op i.dst i.ra i.rb i.imm i.loc i.off i.ix i.sz i.fn i.acq i.weak i.rel i.pred i.succ i.to_ i.zero
theorem isBrF (i : In) : Fn Try.prog 32 [.agg (insS i)] [] (Rt (.bool (isBrI i)) []) := isBranch_ i.op i.dst i.ra i.rb i.imm i.loc i.off i.ix i.sz i.fn i.acq i.weak i.rel i.pred i.succ i.to_ i.zero
theorem uOps_ (l : List In) (ao : Option Addr) (c : Nat) (hn : l.length ≤ 1000000) : FnI (LstAt ao 17 l.length (fun zz => insS (l.getD zz In.z))) Try.prog 33 [.sla ao l.length c] [] (Rt (.int .i64 ((cntI isOpI l : Nat) : Int)) []) :=
 enterI (n := 5) (by kernel_rfl) Try.func33 rfl rfl rfl fun G w a h0 hI A => N hX 8 A rfl rfl fun A => CALLI [] LstAt.ok hI (ucount_ l ao c 41 isOpI isOpF hn) A rfl rfl rfl rfl rfl rfl rfl fun A => N hX 4 A rfl rfl fun A => RETN hX A rfl rfl rfl h0 rfl rfl rfl rfl rfl rfl
theorem uBrs_ (l : List In) (ao : Option Addr) (c : Nat) (hn : l.length ≤ 1000000) : FnI (LstAt ao 17 l.length (fun zz => insS (l.getD zz In.z))) Try.prog 34 [.sla ao l.length c] [] (Rt (.int .i64 ((cntI isBrI l : Nat) : Int)) []) :=
 enterI (n := 5) (by kernel_rfl) Try.func34 rfl rfl rfl fun G w a h0 hI A => N hX 8 A rfl rfl fun A => CALLI [] LstAt.ok hI (ucount_ l ao c 32 isBrI isBrF hn) A rfl rfl rfl rfl rfl rfl rfl fun A => N hX 4 A rfl rfl fun A => RETN hX A rfl rfl rfl h0 rfl rfl rfl rfl rfl rfl
theorem ucc_ (cs : List Cde) (cx : Nat) (hs : ∀ c ∈ cs, c.l.length ≤ 1000000) (hn : cs.length ≤ 1000000) : FnI (CodesAt cs) Try.prog 20 [.sl 0 cs.length cx] [some (.lst 1 cs.length (fun zz => cdc (cs.getD zz Cde.z)))] (Rt (.int .i64 (cntEr cs)) [some (.lst 1 cs.length (fun zz => cdc (cs.getD zz Cde.z)))]) :=
 enterI (n := 26) (by kernel_rfl) Try.func20 rfl rfl rfl fun G w a h0 hI A => N hX 20 A rfl rfl fun A => LOOP3 (fun (x : Nat) (y : Nat) (i : Nat) => [(2, .int .i64 0), (3, .int .i64 (x : Int)), (4, .int .i64 (y : Int)), (7, .sl 0 cs.length cx), (8, .int .i64 ((cs.length : Nat) : Int)), (9, .int .i64 (i : Int))]) (fun (x : Nat) (y : Nat) (i : Nat) => [some (.lst 1 cs.length (fun zz => cdc (cs.getD zz Cde.z)))]) (fun (x : Nat) (y : Nat) (i : Nat) => CmI cs x y i) (fun (x : Nat) (y : Nat) (i : Nat) => cs.length - i) 0 0 0 CmI.i0 ((A.cut [2, 3, 4, 7, 8, 9] rfl).trunc 1 rfl rfl rfl (by simp only [List.length_cons, List.length_nil] at h0; omega)) fun x y i hJ {G a w} A => N hX 6 A rfl rfl fun A => forkD 10 A rfl
   (fun h1 A => N hX 13 A rfl (ok_d (by have hb := hJ.bd hs hn; have h7 := len_at hs ((i : Int)).toNat; have h8 := cntI_le isOpI (cs.getD ((i : Int)).toNat Cde.z).l; have h9 := cntI_le isBrI (cs.getD ((i : Int)).toNat Cde.z).l; have := hJ.le; omega) <| ok_d (by have hb := hJ.bd hs hn; have h7 := len_at hs ((i : Int)).toNat; have h8 := cntI_le isOpI (cs.getD ((i : Int)).toNat Cde.z).l; have h9 := cntI_le isBrI (cs.getD ((i : Int)).toNat Cde.z).l; have := hJ.le; omega) <| okE_nil) fun A => N hX 3 A rfl rfl fun A => CALLI [] LstAt.ok (hI.at (by omega)) (uOps_ (cs.getD (((i : Int)).toNat) Cde.z).l (cs.getD (((i : Int)).toNat) Cde.z).ao (cs.getD (((i : Int)).toNat) Cde.z).cp (len_at hs _)) A rfl rfl rfl rfl rfl rfl rfl fun A => N hX 4 A rfl (ok_d (by have hb := hJ.bd hs hn; have h7 := len_at hs ((i : Int)).toNat; have h8 := cntI_le isOpI (cs.getD ((i : Int)).toNat Cde.z).l; have h9 := cntI_le isBrI (cs.getD ((i : Int)).toNat Cde.z).l; have := hJ.le; omega) <| okE_nil) fun A => N hX 3 A rfl rfl fun A => CALLI [] LstAt.ok (hI.at (by omega)) (uBrs_ (cs.getD (((i : Int)).toNat) Cde.z).l (cs.getD (((i : Int)).toNat) Cde.z).ao (cs.getD (((i : Int)).toNat) Cde.z).cp (len_at hs _)) A rfl rfl rfl rfl rfl rfl rfl fun A => N hX 5 A rfl (ok_d (by have hb := hJ.bd hs hn; have h7 := len_at hs ((i : Int)).toNat; have h8 := cntI_le isOpI (cs.getD ((i : Int)).toNat Cde.z).l; have h9 := cntI_le isBrI (cs.getD ((i : Int)).toNat Cde.z).l; have := hJ.le; omega) <| okE_nil) fun A => N hX 4 A rfl (ok_d (by have hb := hJ.bd hs hn; have h7 := len_at hs ((i : Int)).toNat; have h8 := cntI_le isOpI (cs.getD ((i : Int)).toNat Cde.z).l; have h9 := cntI_le isBrI (cs.getD ((i : Int)).toNat Cde.z).l; have := hJ.le; omega) <| okE_nil) fun A => ⟨x + cntI isOpI (cs.getD ((i : Int)).toNat Cde.z).l, y + cntI isBrI (cs.getD ((i : Int)).toNat Cde.z).l, i + 1, _, (by omega), (hJ.nx h1), ((A.cut [2, 3, 4, 7, 8, 9] rfl).trunc 1 rfl rfl rfl (by simp only [List.length_cons, List.length_nil] at h0; omega)).sayT (by rfl)⟩)
   (fun h1 A => N hX 10 A rfl rfl fun A => forkD 23 A rfl
    (fun h2 A => N hX 7 A rfl rfl fun A => RETN hX A rfl rfl rfl h0 rfl rfl rfl rfl (by have hf := hJ.fi h1; unfold cntEr; rw [← hf.1, ← hf.2]; rw [if_pos h2]; rfl) rfl)
    (fun h2 A => N hX 10 A rfl rfl fun A => forkD 25 A rfl
     (fun h3 A => N hX 7 A rfl rfl fun A => RETN hX A rfl rfl rfl h0 rfl rfl rfl rfl (by have hf := hJ.fi h1; unfold cntEr; rw [← hf.1, ← hf.2]; rw [if_neg h2]; rw [if_pos h3]; rfl) rfl)
     (fun h3 A => N hX 9 A rfl rfl fun A => RETN hX A rfl rfl rfl h0 rfl rfl rfl rfl (by have hf := hJ.fi h1; unfold cntEr; rw [← hf.1, ← hf.2]; rw [if_neg h2]; rw [if_neg h3]; rfl) rfl)))
end Go.Proofs.Ytiglneecmibgmaa
/- Chapter 4's words in Lean: kinds of bytes, how far a run goes. -/
namespace Go.Proofs.Ytiglneecmibgmaa
set_option linter.unusedVariables false

theorem ret_bool {b v : Bool} (h : b = v) : Ending.returned (.bool b) = .returned (.bool v) := by rw [h]
/-- two texts are the same -/
def eqL (l m : List UInt8) : Bool := l == m
theorem eqL_same (l : List UInt8) : eqL l l = true := beq_self_eq_true l
theorem eqL_eq {l m : List UInt8} (h : eqL l m = true) : l = m := eq_of_beq h
theorem eqL_ne {l m : List UInt8} (h : eqL l m = false) : l ≠ m := fun e => by rw [e, eqL_same] at h; cases h
def digB (b : UInt8) : Bool := decide (48 ≤ b.toNat ∧ b.toNat ≤ 57)
def letB (b : UInt8) : Bool := decide (97 ≤ b.toNat ∧ b.toNat ≤ 122 ∨ 65 ≤ b.toNat ∧ b.toNat ≤ 90)
def blkB (b : UInt8) : Bool := decide (b.toNat = 32 ∨ b.toNat = 9 ∨ b.toNat = 10)
def numB (b : UInt8) : Bool := letB b || digB b
def nbgB (b : UInt8) : Bool := letB b || b.toNat == 95
def namB (b : UInt8) : Bool := nbgB b || (digB b || b.toNat == 46)
/-- how many bytes from the first one on are of a kind -/
def rn (p : UInt8 → Bool) (l : List UInt8) : Nat := (l.takeWhile p).length
theorem rn_le (p : UInt8 → Bool) (l : List UInt8) : rn p l ≤ l.length := by
  unfold rn; exact (List.takeWhile_sublist p).length_le
theorem rn_nil (p : UInt8 → Bool) : rn p [] = 0 := rfl
theorem rn_cons (p : UInt8 → Bool) (b : UInt8) (l : List UInt8) : rn p (b :: l) = if p b then rn p l + 1 else 0 := by
  unfold rn; rw [List.takeWhile_cons]; split <;> rfl
theorem drop_at {l : List UInt8} {n : Nat} {y : UInt8} (h : l[n]? = some y) : l.drop n = y :: l.drop (n + 1) := by
  obtain ⟨h1, h2⟩ := List.getElem?_eq_some_iff.1 h
  rw [List.drop_eq_getElem_cons h1, h2]
theorem rn_go {p : UInt8 → Bool} {l : List UInt8} {n : Nat} {y : UInt8} (h : l[n]? = some y) (hp : p y = true) : rn p (l.drop n) = rn p (l.drop (n + 1)) + 1 := by
  rw [drop_at h, rn_cons, if_pos hp]
theorem rn_stop {p : UInt8 → Bool} {l : List UInt8} {n : Nat} {y : UInt8} (h : l[n]? = some y) (hp : p y = false) : rn p (l.drop n) = 0 := by
  rw [drop_at h, rn_cons, if_neg (by simp [hp])]
theorem rn_end {p : UInt8 → Bool} {l : List UInt8} {n : Nat} (h : l.length ≤ n) : rn p (l.drop n) = 0 := by
  rw [List.drop_eq_nil_of_le h, rn_nil]
end Go.Proofs.Ytiglneecmibgmaa
/- Numbers of other kinds, conversions, interfaces for the engine. -/
namespace Go.Proofs.Ytiglneecmibgmaa
set_option linter.unusedVariables false
set_option linter.unusedSimpArgs false
open Go.RowKit

def byteE (b : UInt8) : List Value := [.int .u8 ((b.toNat : Nat) : Int)]
def kindB (P : Program) (t : TypeId) (k : IntKind) : Bool := match P.underlying t with | some (.int k') => k' == k | _ => false
theorem kind_fact {P : Program} {t : TypeId} {k : IntKind} (h : kindB P t k = true) : P.underlying t = some (.int k) := by
  unfold kindB at h; split at h
  · next k' hk => rw [hk, eq_of_beq h]
  · cases h
def concB (P : Program) (t : TypeId) : Bool := match P.underlying t with | some (.interface _) => false | some _ => true | none => false
section
variable {P : Program} {ops : Array Oper} {a : Act} {w : World} {K : Value → World → Prop} {d : Option Tmp} {ty : TypeId} {pos : String} {af : Array Edge} {gd : Option (Nat × Bool)} {v : Value}
theorem d_conv {x : Operand} {s t : Nat} {k k' : IntKind} {n : Int} (m : Int) (hw : Region.wanted { dst := d, op := .convert s t x, type := ty, pos := pos, after := af, guard := gd } (yielded ops a.tmps) = true) (hx : a.eval x = .int k n) (hs : kindB P s k = true) (ht : kindB P t k' = true) (hm : k'.wrap n = m)
    (h : K (.int k' m) w) : Does P ops { dst := d, op := .convert s t x, type := ty, pos := pos, after := af, guard := gd } a w K :=
  does_val hw (by
    subst hm
    unfold execOp
    simp only [hx, Sem.run_bind]
    simp [convert, run_underlying (kind_fact hs), run_underlying (kind_fact ht), Conv.intToInt]) h
theorem d_iface {x : Operand} {t : Nat} {v : Value} (hw : Region.wanted { dst := d, op := .makeInterface t x, type := ty, pos := pos, after := af, guard := gd } (yielded ops a.tmps) = true) (hx : a.eval x = v) (ht : concB P t = true)
    (h : K (.iface t v) w) : Does P ops { dst := d, op := .makeInterface t x, type := ty, pos := pos, after := af, guard := gd } a w K :=
  does_val hw (by
    unfold execOp
    simp only [hx, Sem.run_bind]
    unfold concB at ht
    cases hd : P.underlying t with
    | none => simp [hd] at ht
    | some u => cases u <;> first | (simp [hd] at ht; done) | simp [Instr.makeInterface, run_underlying hd]) h
theorem d_bytes {x : Operand} {s t e : Nat} {l : List UInt8} (hw : Region.wanted { dst := d, op := .convert s t x, type := ty, pos := pos, after := af, guard := gd } (yielded ops a.tmps) = true) (hx : a.eval x = .string (S l)) (hs : strB P s = true) (ht : sliceB P t e 1 = true) (he : kindB P e .u8 = true) (hl : l.length ≤ 8192)
    (h : ∀ v w', Grow w w' → Sl byteE 1 w'.heap.size w' v l → K v w') : Does P ops { dst := d, op := .convert s t x, type := ty, pos := pos, after := af, guard := gd } a w K := by
  refine does_val (w' := Lib.bytesWorld w e (S l)) (v := .slice (some ⟨w.heap.size, 0, none⟩) (S l).size (grownCap w (S l).size 0 e)) hw ?_ (h _ _ ?_ ?_)
  · unfold execOp
    simp only [hx, Sem.run_bind, Lib.run_convert_string_bytes w s t e (S l) (str_fact hs) (slice_facts ht).1 (kind_fact he), Sem.run_pure, Result.andThen_ok]
  · exact ⟨rfl, rfl, rfl, by rw [Lib.bytesWorld_size]; omega, fun k hk => Lib.bytesWorld_at_old w e (S l) k hk⟩
  · refine ⟨_, _, by rw [S_size], ?_, fun j y hy => ?_⟩
    · exact grownCap_ge _ _ _ _
    · have hj : j < l.length := (List.getElem?_eq_some_iff.1 hy).1
      refine ⟨_, _, rfl, by rw [Lib.bytesWorld_size]; omega, fun i z hz => ?_⟩
      have hi : i = 0 := by
        have := (List.getElem?_eq_some_iff.1 hz).1
        simp [byteE] at this; exact this
      subst hi
      have h1 := Lib.bytesWorld_cell w e (S l) j (by rw [S_size]; exact hj)
      rw [S_data] at h1
      simp [byteE] at hz
      subst hz
      simpa [List.getD, hy] using h1
end
section
variable {P : Program} {w : World} {t : TypeId} {x y : Operand} {k : IntKind} {a b : Int}
theorem b_addK (n : Int) (h : k.wrap (a + b) = n) : (eqGuard .add t x y (.int k a) (.int k b)).run P w = .ok () w ∧ (binOp .add t (.int k a) (.int k b)).run P w = .ok (.int k n) w := by
  subst h; exact ⟨by simp [eqGuard], by simp [binOp, Op.intArith]⟩
theorem b_subK (n : Int) (h : k.wrap (a - b) = n) : (eqGuard .sub t x y (.int k a) (.int k b)).run P w = .ok () w ∧ (binOp .sub t (.int k a) (.int k b)).run P w = .ok (.int k n) w := by
  subst h; exact ⟨by simp [eqGuard], by simp [binOp, Op.intArith]⟩
theorem b_mulK (n : Int) (h : k.wrap (a * b) = n) : (eqGuard .mul t x y (.int k a) (.int k b)).run P w = .ok () w ∧ (binOp .mul t (.int k a) (.int k b)).run P w = .ok (.int k n) w := by
  subst h; exact ⟨by simp [eqGuard], by simp [binOp, Op.intArith]⟩
theorem b_nilNe {c : Value} (ht : P.underlying t = some (.interface (P.methodsAt t))) : (eqGuard .neq t x (.const c) .nilIface .nilIface).run P w = .ok () w ∧ (binOp .neq t .nilIface .nilIface).run P w = .ok (.bool false) w :=
  ⟨by rw [eqGuard_nil_constR]; rfl, run_neq_nil_nil w t ht⟩
theorem b_ifcNe {tt : TypeId} {v : Value} (ht : P.underlying t = some (.interface (P.methodsAt t))) : (eqGuard .neq t x y (.iface tt v) .nilIface).run P w = .ok () w ∧ (binOp .neq t (.iface tt v) .nilIface).run P w = .ok (.bool true) w :=
  ⟨rfl, run_neq_held_nil w t tt v ht⟩
end
theorem wrap8 {n : Int} (h1 : 0 ≤ n) (h2 : n ≤ 255) : IntKind.wrap .u8 n = n := by simp only [IntKind.wrap, IntKind.signed, IntKind.bits]; simp; omega
theorem wrap64 {n : Int} (h1 : 0 ≤ n) (h2 : n ≤ 18446744073709551615) : IntKind.wrap .u64 n = n := by simp only [IntKind.wrap, IntKind.signed, IntKind.bits]; simp; omega
theorem wrapI {n : Int} (h1 : -9223372036854775808 ≤ n) (h2 : n ≤ 9223372036854775807) : IntKind.wrap .i64 n = n := by simp only [IntKind.wrap, IntKind.signed, IntKind.bits]; simp; omega
end Go.Proofs.Ytiglneecmibgmaa
/- Values in interfaces; a text as bytes. -/
namespace Go.Proofs.Ytiglneecmibgmaa
open Go.RowKit
set_option linter.unusedVariables false
set_option linter.unusedSimpArgs false
set_option linter.unusedSectionVars false

section
variable {P : Program} {n : Nat} {ks : List Nat} {G0 : Gr} {w0 : World} {T : List (Nat × SV)} {H : Hp} {G : Gr} {w : World} {ops : Array Oper} {o : Oper}
theorem ifcE {x : Operand} {t : Nat} {y : SV} {v : Value} (hg : guardS ops T o.guard = some .run) (hop : o.op = .makeInterface t x) (hx : evS T x = some y) (hy : den [] y = some v) (ht : concB P t = true) : EffOK P n ops ks G0 w0 T H o (.v (.iface t v)) H := fun G a w A => by
  have hw := gd_run (gd := none) A hg
  obtain ⟨d, op, ty, ps, af, gd⟩ := o
  simp only at hop
  subst hop
  have h1 := A.ev hx
  have h2 : den G y = some v := by simpa using den_mono G y hy
  rw [h2] at h1
  exact d_iface hw (Option.some.inj h1).symm ht ⟨[], rfl, by rw [List.append_nil]; exact A.ms⟩
theorem ifneE {x y : Operand} {t t2 tt : Nat} {v : Value} (hg : guardS ops T o.guard = some .run) (hop : o.op = .binOp .neq t x y t2) (hx : evS T x = some (.v (.iface tt v))) (hy : evS T y = some (.v .nilIface)) (ht : P.underlying t = some (.interface (P.methodsAt t))) : EffOK P n ops ks G0 w0 T H o .tt H := fun G a w A => by
  have hw := gd_run (gd := none) A hg
  obtain ⟨d, op, ty, ps, af, gd⟩ := o
  simp only at hop
  subst hop
  have h1 := A.ev hx
  have h2 := A.ev hy
  simp only [den, Option.some.injEq] at h1 h2
  exact d_bin hw h1.symm h2.symm (b_ifcNe ht) ⟨[], rfl, by rw [List.append_nil]; exact A.ms⟩
theorem nilneE {x : Operand} {c : Value} {t t2 : Nat} (hg : guardS ops T o.guard = some .run) (hop : o.op = .binOp .neq t x (.const c) t2) (hx : evS T x = some (.v .nilIface)) (hy : evS T (.const c) = some (.v .nilIface)) (ht : P.underlying t = some (.interface (P.methodsAt t))) : EffOK P n ops ks G0 w0 T H o .ff H := fun G a w A => by
  have hw := gd_run (gd := none) A hg
  obtain ⟨d, op, ty, ps, af, gd⟩ := o
  simp only at hop
  subst hop
  have h1 := A.ev hx
  have h2 := A.ev hy
  simp only [den, Option.some.injEq] at h1 h2
  exact d_bin hw h1.symm h2.symm (b_nilNe ht) ⟨[], rfl, by rw [List.append_nil]; exact A.ms⟩
/-- a list that is only read, at a place more -/
theorem Ms.addLst (h : Ms H ks G0 w0 G w) (p : Option Loc) (e : Ent) (he : e.mut = false) (hok : EntOK (G ++ [p]) w p e) (hoff : ∀ (i : Nat) (e' : Ent) (L' L : Loc), H[i]? = some (some e') → e'.mut = true → G[i]? = some (some L') → p = some L → L'.b ≠ L.b) : Ms (H ++ [some e]) ks G0 w0 (G ++ [p]) w := by
  have hlen := h.mem.len
  have hold : ∀ (i : Nat) (e' : Ent), (H ++ [some e])[i]? = some (some e') → (H[i]? = some (some e') ∧ i < H.length) ∨ (i = H.length ∧ e' = e) := by
    intro i e' hh
    by_cases hi : i < H.length
    · rw [List.getElem?_append_left hi] at hh; exact .inl ⟨hh, hi⟩
    · rw [List.getElem?_append_right (by omega)] at hh
      have : i - H.length = 0 := by
        cases hq : i - H.length with
        | zero => rfl
        | succ k => rw [hq] at hh; simp at hh
      rw [this] at hh
      simp at hh
      exact .inr ⟨by omega, hh.symm⟩
  have hG : (G ++ [p])[H.length]? = some p := by rw [List.getElem?_append_right (by omega), hlen]; simp
  have hGl : ∀ i, i < H.length → (G ++ [p])[i]? = G[i]? := fun i hi => List.getElem?_append_left (by omega)
  refine ⟨⟨by simp [hlen], ?_, ?_⟩, ?_, ?_, h.mix⟩
  · intro i e' hh
    rcases hold i e' hh with ⟨h1, h2⟩ | ⟨rfl, rfl⟩
    · rw [hGl i h2]; exact (h.mem.ent i e' h1).more _
    · rw [hG]; exact hok
  · intro i j e1 f L M hij h1 h2 h3 h4 h5 h6
    rcases hold i e1 h1 with ⟨k1, k2⟩ | ⟨rfl, rfl⟩
    · rw [hGl i k2] at h4
      rcases hold j f h2 with ⟨k3, k4⟩ | ⟨rfl, rfl⟩
      · rw [hGl j k4] at h5; exact h.mem.sep i j e1 f L M hij k1 k3 h3 h4 h5 h6
      · rw [hG] at h5; cases h5; exact hoff i e1 L M k1 h3 h4 rfl
    · rw [he] at h3; cases h3
  · obtain ⟨F, hF⟩ := h.pre; exact ⟨F ++ [p], by rw [hF, List.append_assoc]⟩
  · intro i e1 L h1 h2 h3
    rcases hold i e1 h1 with ⟨k1, k2⟩ | ⟨rfl, rfl⟩
    · rw [hGl i k2] at h3; exact h.own i e1 L k1 h2 h3
    · rw [he] at h2; cases h2
abbrev byL (l : List UInt8) : Ent := .lst 1 l.length fun k => [.int .u8 (((l.getD k 0).toNat : Nat) : Int)]
theorem bytesE {x : Operand} {s t e i : Nat} {l : List UInt8} (hg : guardS ops T o.guard = some .run) (hop : o.op = .convert s t x) (hx : evS T x = some (.str l)) (hs : P.underlying s = some .string) (ht : P.underlying t = some (.slice e)) (he : P.underlying e = some (.int .u8)) (hi : H.length = i) : EffOK P n ops ks G0 w0 T H o (.sl i l.length 0) (H ++ [some (byL l)]) := fun G a w A => by
  have hw := gd_run (gd := none) A hg
  obtain ⟨d, op, ty, ps, af, gd⟩ := o
  simp only at hop
  subst hop
  subst hi
  have h1 := A.ev hx
  simp only [den, Option.some.injEq] at h1
  have hgr : Grow w (Lib.bytesWorld w e (S l)) := ⟨rfl, rfl, rfl, by rw [Lib.bytesWorld_size]; omega, fun k hk => Lib.bytesWorld_at_old w e (S l) k hk⟩
  refine does_val (w' := Lib.bytesWorld w e (S l)) (v := .slice (some ⟨w.heap.size, 0, none⟩) (S l).size (grownCap w (S l).size 0 e)) hw ?_ ⟨[some ⟨w.heap.size, [], List.replicate (grownCap w (S l).size 0 e) undef, 0⟩], ?_, ?_⟩
  · unfold execOp
    simp only [h1.symm, Sem.run_bind, Lib.run_convert_string_bytes w s t e (S l) hs ht he, Sem.run_pure, Result.andThen_ok]
  · unfold den
    rw [List.getElem?_append_right (by rw [A.mem.len]; exact Nat.le_refl _), A.mem.len]
    simp [rm, S_size]
  · refine (A.ms.grow hgr).addLst _ _ rfl ⟨fun k => ⟨_, rfl⟩, .inr ⟨_, rfl, by rw [Lib.bytesWorld_size]; exact Nat.lt_succ_self _, fun k hk => ⟨_, rfl, fun j z hz => ?_⟩⟩⟩ fun j e' L' L h2 h3 h4 h5 => ?_
    · have hj : j = 0 := by
        cases j with
        | zero => rfl
        | succ j => simp at hz
      subst hj
      have h2 := Lib.bytesWorld_cell w e (S l) k (by rw [S_size]; exact hk)
      rw [S_data] at h2
      simp at hz
      subst hz
      simpa [List.getD, hk] using h2
    · cases h5
      have := A.mem.ent j e' h2
      rw [h4] at this
      have := EntOK.lt this (mut_full h3)
      simp only; omega
theorem sy_sayD {a : Act} (A : Sy n T H ks G0 w0 G a w) (t : Nat) (y : SV) {x : SV} (h : look T t = some x) (e : ∀ G, den G x = den G y) : Sy n ((t, y) :: T) H ks G0 w0 G a w :=
  ⟨A.size, A.defers, fun s z hz => by
    simp only [look] at hz
    cases hc : Nat.beq t s with
    | true => rw [hc] at hz; cases hz; have := Nat.eq_of_beq_eq_true hc; subst this; rw [← e]; exact A.get t _ h
    | false => rw [hc] at hz; exact A.get s z hz, A.mem, A.pre, A.own, A.mix⟩
theorem optE {α : Type} {R : Prop} (o : Option α) (h1 : o = none → R) (h2 : ∀ x, o = some x → R) : R := by
  cases h : o with
  | none => exact h1 h
  | some x => exact h2 x h
end
end Go.Proofs.Ytiglneecmibgmaa
/- Functions that are handed no memory, and yield what is known but in part. -/
namespace Go.Proofs.Ytiglneecmibgmaa
open Go.RowKit
set_option linter.unusedVariables false
set_option linter.unusedSimpArgs false
set_option linter.unusedSectionVars false

def FnX (I : Amb) (P : Program) (f : Nat) (args : List SV) (J : SV → Prop) : Prop :=
  Ent_ P f = some (false, false) ∧ ∀ w ks vs, denL [] args = some vs → I w ks → Calls P f vs.toArray w fun e w' => ∃ x v, J x ∧ den [] x = some v ∧ e = .returned v ∧ Grow w w'
section
variable {P : Program} {n : Nat} {ks : List Nat} {G0 : Gr} {w0 : World} {T : List (Nat × SV)} {H : Hp} {G : Gr} {a : Act} {w : World} {Q : Exit → Act → World → Prop} {K : List Fr} {ops : Array Oper} {o : Oper} {rest : List Oper} {I : Amb}
theorem CALLX {f : Nat} {az : List SV} {vs : List Value} {J : SV → Prop} (hok : I.OK) (h0 : I w0 ks) (hf : FnX I P f az J) (A : Sy n T H ks G0 w0 G a w) (h1 : callS n ops T o = some (f, az)) (h2 : denL [] az = some vs)
    (hk : ∀ x, J x → ∀ {a' w'}, Sy n (extS T o.dst x) H ks G0 w0 G a' w' → Goal P Q K (.ops ops rest) a' w') : Goal P Q K (.ops ops (o :: rest)) a w := by
  obtain ⟨hd, us, hu, hdo⟩ := callS_do (P := P) (ops := ops) A h1 hf.1
  have h3 : denL G az = some vs := by simpa using denL_mono G az h2
  rw [h3] at hu
  cases hu
  refine q_does (Q := wpK P Q K) (hdo (hf.2 w ks vs h2 (hok _ _ _ _ h0 A.mix fun b hb => .inl hb)) fun e w' he => ?_)
  obtain ⟨x, v, hJ, e1, rfl, hg⟩ := he
  exact ⟨v, rfl, hk x hJ (Sy.put ⟨A.size, A.defers, A.get, ⟨A.mem.len, fun i e hi => (A.mem.ent i e hi).mix hg.mix (fun _ _ _ => rfl), A.mem.sep⟩, A.pre, A.own, A.mix.grow hg⟩ hd (by simpa using den_mono G x e1))⟩
theorem enterX (hok : I.OK) {f : Nat} {fn : Func} {c : Code} {args : List SV} {J : SV → Prop} (hent : Ent_ P f = some (false, false)) (hf : P.funcs[f]? = some fn) (hb : fn.body = some c) (hn : fn.ntmps = n) (hl : Nat.ble args.length n = true)
    (h : ∀ w a, I w [] → Sy n (argS args 0) [] [] [] w [] a w → Goal P (bodyPost P fn fun e w' => ∃ x v, J x ∧ den [] x = some v ∧ e = .returned v ∧ Grow w w') [] (.code c) a w) : FnX I P f args J := by
  refine ⟨hent, fun w ks vs hv hI => ?_⟩
  refine calls_of_wp hf hb (h w _ ?_ ⟨?_, rfl, fun t x hx => ?_, ⟨rfl, fun i e he => by simp at he, fun i j e f L M _ he => by simp at he⟩, ⟨[], by simp⟩, fun i e L h1 => by simp at h1, Mix.refl _ _⟩)
  · exact hok _ _ _ _ hI (Mix.refl ks w) fun b hb => by simp at hb
  · have := denL_len hv
    have := Nat.le_of_ble_eq_true hl
    simp [hn]; omega
  · obtain ⟨_, h2⟩ := argS_look hx
    simp only [Nat.sub_zero] at h2
    obtain ⟨v, h3, h4⟩ := denL_get hv h2
    have hlt : t < vs.length := (List.getElem?_eq_some_iff.1 h3).1
    rw [h4]
    simp [Array.getD_eq_getD_getElem?, Array.getElem?_append, hlt] at h3 ⊢
    exact h3.symm
theorem RETX {Y : Tb} {fn : Func} {J : SV → Prop} (hX : Y.ok P = true) {y : SV} {r : List SV} {rv : List ResultVar} {v' : Value} (A : Sy n T H [] [] w0 G a w) (hr : fn.results.toList = rv) (hv : resS ⟨Y, false⟩ T H rv = some r) (hy : oneS r = y) (hc : den [] y = some v') (hJ : J y) : bodyPost P fn (fun e w' => ∃ x v, J x ∧ den [] x = some v ∧ e = .returned v ∧ Grow w0 w') .ret a w := by
  obtain ⟨v, h1, h2⟩ := res_run (X := ⟨Y, false⟩) (fn := fn) hX A hr hv hy
  have h3 : den G y = some v' := by simpa using den_mono G y hc
  rw [h3] at h1
  cases h1
  have hm := A.mix
  exact ⟨A.defers, v', h2, y, v', hJ, hc, rfl, ⟨hm.os, hm.tape, hm.output, hm.size, fun k hk' => hm.block k hk' (by simp)⟩⟩
theorem CALLN (mk : Nat → SV) {f : Nat} {az : List SV} {vs : List Value} (hok : I.OK) (h0 : I w0 ks) (hf : FnX I P f az (fun x => ∃ N, x = mk N)) (A : Sy n T H ks G0 w0 G a w) (h1 : callS n ops T o = some (f, az)) (h2 : denL [] az = some vs)
    (hk : ∀ N, ∀ {a' w'}, Sy n (extS T o.dst (mk N)) H ks G0 w0 G a' w' → Goal P Q K (.ops ops rest) a' w') : Goal P Q K (.ops ops (o :: rest)) a w :=
  CALLX hok h0 hf A h1 h2 fun x hx => by obtain ⟨N, rfl⟩ := hx; exact hk N
end
end Go.Proofs.Ytiglneecmibgmaa
/- Rows of empty texts are made. -/
namespace Go.Proofs.Ytiglneecmibgmaa
open Go.RowKit
set_option linter.unusedVariables false
set_option linter.unusedSimpArgs false
set_option linter.unusedSectionVars false

theorem flat_rep (n : Nat) : flatV (fun _ => [.str []]) n = some (List.replicate n (.string (S []))) := by
  induction n with
  | zero => rfl
  | succ n ih =>
    unfold flatV
    rw [ih]
    show some (List.replicate n (Value.string (S [])) ++ [Value.string (S [])]) = _
    rw [List.replicate_succ', ]
section
variable {P : Program} {n : Nat} {ks : List Nat} {G0 : Gr} {w0 : World} {T : List (Nat × SV)} {H : Hp} {ops : Array Oper} {o : Oper}
theorem mkE {x y : Operand} {t e m i : Nat} {ti : TypeInfo} (hg : guardS ops T o.guard = some .run) (hop : o.op = .makeSlice t x y) (hx : evS T x = some (.int .i64 ((m : Nat) : Int))) (hy : evS T y = some (.int .i64 ((m : Nat) : Int))) (ht : P.underlying t = some (.slice e)) (hti : P.info? e = some ti) (hz : ti.zero = some (.string (S []))) (hs : ti.size = 1) (hb : ti.bytes ≤ 1000) (hm : m ≤ 1000000) (hi : H.length = i) : EffOK P n ops ks G0 w0 T H o (.sl i m m) (H ++ [some (.row e 1 m m fun _ => [.str []])]) := fun G a w A => by
  have hw := gd_run (gd := none) A hg
  obtain ⟨d, op, ty, ps, af, gd⟩ := o
  simp only at hop
  subst hop
  subst hi
  have h1 := A.ev hx
  have h2 := A.ev hy
  simp only [den, Option.some.injEq] at h1 h2
  have hmul : ti.bytes * m ≤ 1000 * 1000000 := Nat.mul_le_mul hb hm
  obtain ⟨w', hr, ho, hgb⟩ := run_makeSlice_full (P := P) w 0 t e ti _ 1 ht hti hz hs .i64 .i64 m (by omega) (by omega) (by unfold maxLen; omega) (Nat.zero_le _)
  have hgr : Grow w w' := ⟨hgb.os, hgb.tape, hgb.output, hgb.size, fun k hk => hgb.block k hk (by simp)⟩
  refine does_val (v := .slice (some ⟨w.heap.size, 0, none⟩) m m) (w' := w') hw ?_ ⟨[some ⟨w.heap.size, [], [], e⟩], ?_, ?_⟩
  · unfold execOp
    simp only [h1.symm, h2.symm, Sem.run_bind, hr, Sem.run_pure, Result.andThen_ok]
  · unfold den
    rw [List.getElem?_append_right (by rw [A.mem.len]; exact Nat.le_refl _), A.mem.len]
    simp [rm]
  · refine (A.newBlk (g := w.heap.size) (t := e) (en := .row e 1 m m fun _ => [.str []]) rfl hgr ⟨fun k => ⟨_, rfl, rfl⟩, fun L hL => by cases hL; rfl, _, flat_rep m, ?_⟩ rfl).ms
    have hc : (madeCells (Value.cells (.string (S []))) (m * 1)).toList = List.replicate m (.string (S [])) := by
      unfold madeCells
      apply List.ext_getElem
      · simp
      · intro k h1 h2
        simp [Value.cells, Nat.mod_one]
    rw [hc] at ho
    simpa [rm] using ho
theorem mkE' {x y : Operand} {t e m i : Nat} (f : Nat → List SV) (hf : ∀ j, f j = [.str []]) (hg : guardS ops T o.guard = some .run) (hop : o.op = .makeSlice t x y) (hx : evS T x = some (.int .i64 ((m : Nat) : Int))) (hy : evS T y = some (.int .i64 ((m : Nat) : Int))) (ht : P.underlying t = some (.slice e)) (hst : ∃ ti, P.info? e = some ti ∧ ti.zero = some (.string (S [])) ∧ ti.size = 1 ∧ ti.bytes ≤ 1000) (hm : m ≤ 1000000) (hi : H.length = i) : EffOK P n ops ks G0 w0 T H o (.sl i m m) (H ++ [some (.row e 1 m m f)]) := by
  have : f = fun _ => [.str []] := funext hf
  subst this
  obtain ⟨ti, hti, hz, hs, hb⟩ := hst
  exact mkE hg hop hx hy ht hti hz hs hb hm hi
end
end Go.Proofs.Ytiglneecmibgmaa
/- Slices that are built of closed values and never turned: known by their addresses, with no place of their own. -/
namespace Go.Proofs.Ytiglneecmibgmaa
open Go.RowKit
set_option linter.unusedVariables false
set_option linter.unusedSimpArgs false
set_option linter.unusedSectionVars false
/-- these cells lie in these blocks, which are none of those that may be turned, and none below -/
def Acc (lo : Nat) (l : List (Nat × List SV)) (w : World) (ks : List Nat) : Prop := ∀ p ∈ l, lo ≤ p.1 ∧ ∃ vs, denL [] p.2 = some vs ∧ Lies p.1 0 vs w ks
theorem Acc.nil {lo : Nat} {w : World} {ks : List Nat} : Acc lo [] w ks := fun p hp => by cases hp
theorem Acc.go {lo : Nat} {l : List (Nat × List SV)} {w w' : World} {ks ks' : List Nat} (h : Acc lo l w ks) (m : Mix ks w w') (hk : ∀ b, ks'.contains b = true → ks.contains b = true ∨ w.heap.size ≤ b) : Acc lo l w' ks' := fun p hp => by
  obtain ⟨h1, vs, h2, h3⟩ := h p hp
  exact ⟨h1, vs, h2, h3.go m hk⟩
theorem Acc.bare {lo : Nat} {l : List (Nat × List SV)} {w : World} {ks : List Nat} (h : Acc lo l w ks) : Acc lo l w [] := fun p hp => by
  obtain ⟨h1, vs, h2, h3, h4, h5⟩ := h p hp
  exact ⟨h1, vs, h2, h3, rfl, h5⟩
section
variable {P : Program} {X : Tx} {n : Nat} {ks : List Nat} {G0 : Gr} {w0 : World} {T : List (Nat × SV)} {H : Hp} {G : Gr} {a : Act} {w w' : World} {ops : Array Oper} {o : Oper} {rest : List Oper} {Q : Exit → Act → World → Prop} {K : List Fr}
/-- memory grows -/
theorem Sy.grew (A : Sy n T H ks G0 w0 G a w) (hgr : Grow w w') : Sy n T H ks G0 w0 G a w' :=
  ⟨A.size, A.defers, A.get, ⟨A.mem.len, fun i e h => (A.mem.ent i e h).mix hgr.mix (fun _ L _ => rfl), A.mem.sep⟩, A.pre, A.own, A.mix.grow hgr⟩
theorem Acc.now {lo : Nat} {l : List (Nat × List SV)} (h : Acc lo l w0 ks) (A : Sy n T H ks G0 w0 G a w) : Acc lo l w (keys H G) := h.go A.mix A.keys_own
/-- cells are laid at an address -/
theorem BSL {t m : Nat} (cs : List SV) {vs : List Value} (hX : X.ok P = true) (A : Sy n T H ks G0 w0 G a w) (h : xop X T H none o.op = some (.new t (.blk cs) (.sl H.length m m))) (hc : denL [] cs = some vs) (hg : guardS ops T o.guard = some .run) (hd : fitsD n o.dst = true)
    (k : ∀ {a w} b, w0.heap.size ≤ b → Sy n (extS T o.dst (.sla (some ⟨b, 0, none⟩) m m)) H ks G0 w0 G a w → Lies b 0 vs w (keys H G) → Goal P Q K (.ops ops rest) a w) : Goal P Q K (.ops ops (o :: rest)) a w := by
  refine q_does (Q := wpK P Q K) ?_
  refine xop_new hX A h (gd_run (gd := none) A hg) fun g w' v hg' hgr hen hmu hv => ?_
  have hlast : (G ++ [some (⟨g, [], [], t⟩ : Loc)])[H.length]? = some (some ⟨g, [], [], t⟩) := by rw [List.getElem?_append_right (by rw [A.mem.len]; exact Nat.le_refl _), A.mem.len]; simp
  have hv' : v = .slice (some ⟨g, 0, none⟩) m m := by
    unfold den at hv
    rw [hlast] at hv
    simp [rm] at hv
    exact hv.symm
  subst hv'
  obtain ⟨L, us, e1, e2, e3⟩ := hen.range
  cases e1
  have h4 : denL G cs = some vs := by simpa using denL_mono G cs hc
  rw [h4] at e2
  cases e2
  have hlt : g < w'.heap.size := EntOK.lt hen (mut_full hmu)
  refine k g (by rw [hg']; exact A.mix.size) (Sy.put (A.grew hgr) hd (by rfl)) ⟨hlt, ?_, e3⟩
  cases hc : (keys H G).contains g with
  | false => rfl
  | true =>
    obtain ⟨i, e', M, q1, q2, q3, q4⟩ := mem_keys.1 hc
    have := A.mem.ent i e' q1
    rw [q3] at this
    have := EntOK.lt this (mut_full q2)
    omega
/-- the same, beside what has been laid -/
theorem BSCA {nB : Nat} {TB : List (Nat × SV)} {HB : Hp} {ks00 : List Nat} {G00 : Gr} {w00 : World} {aB : Act} {l : List (Nat × List SV)} {t m : Nat} (cs : List SV) {vs : List Value} (hX : X.ok P = true) (B : Sy nB TB HB ks00 G00 w00 G0 aB w0) (hA : Acc w00.heap.size l w0 (keys HB G0)) (A : Sy n T H (keys HB G0) G0 w0 G a w)
    (h : xop X T H none o.op = some (.new t (.blk cs) (.sl H.length m m))) (hc : denL [] cs = some vs) (hg : guardS ops T o.guard = some .run) (hd : fitsD n o.dst = true)
    (k : ∀ {G a w} b, Sy n (extS T o.dst (.sla (some ⟨b, 0, none⟩) m m)) H ks00 G00 w00 G a w → Acc w00.heap.size ((b, cs) :: l) w (keys H G) → Sy n (extS T o.dst (.sla (some ⟨b, 0, none⟩) m m)) H (keys H G) G w G a w → Goal P Q K (.ops ops rest) a w) : Goal P Q K (.ops ops (o :: rest)) a w := by
  refine BSL cs hX A h hc hg hd fun b hb A' hL => ?_
  refine k b (B.trans A') (fun p hp => ?_) A'.base
  rcases List.mem_cons.1 hp with rfl | hp
  · exact ⟨Nat.le_trans B.mix.size hb, vs, hc, hL⟩
  · exact (hA.now A') p hp
/-- the same, beside another fact that no step turns -/
theorem BSCI {I : Amb} {nB : Nat} {TB : List (Nat × SV)} {HB : Hp} {ks00 : List Nat} {G00 : Gr} {w00 : World} {aB : Act} {l : List (Nat × List SV)} {t m : Nat} (cs : List SV) {vs : List Value} (hX : X.ok P = true) (hok : I.OK) (B : Sy nB TB HB ks00 G00 w00 G0 aB w0) (hA : Acc w00.heap.size l w0 (keys HB G0)) (hI : I w0 (keys HB G0)) (A : Sy n T H (keys HB G0) G0 w0 G a w)
    (h : xop X T H none o.op = some (.new t (.blk cs) (.sl H.length m m))) (hc : denL [] cs = some vs) (hg : guardS ops T o.guard = some .run) (hd : fitsD n o.dst = true)
    (k : ∀ {G a w} b, Sy n (extS T o.dst (.sla (some ⟨b, 0, none⟩) m m)) H ks00 G00 w00 G a w → Acc w00.heap.size ((b, cs) :: l) w (keys H G) → I w (keys H G) → Sy n (extS T o.dst (.sla (some ⟨b, 0, none⟩) m m)) H (keys H G) G w G a w → Goal P Q K (.ops ops rest) a w) : Goal P Q K (.ops ops (o :: rest)) a w := by
  refine BSL cs hX A h hc hg hd fun b hb A' hL => ?_
  refine k b (B.trans A') (fun p hp => ?_) (hok _ _ _ _ hI A'.mix A'.keys_own) A'.base
  rcases List.mem_cons.1 hp with rfl | hp
  · exact ⟨Nat.le_trans B.mix.size hb, vs, hc, hL⟩
  · exact (hA.now A') p hp
end
end Go.Proofs.Ytiglneecmibgmaa
/- Regions that draw their order, where several make memory and do not wait for one another: each new block has its place from the start. -/
namespace Go.Proofs.Ytiglneecmibgmaa
open Go.RowKit
set_option linter.unusedVariables false
set_option linter.unusedSimpArgs false
set_option linter.unusedSectionVars false

theorem le0 {H : Hp} {G : Gr} {r : Nat} (h : H.length = G.length) (hb : Nat.ble H.length r = true) : G.length ≤ r := by rw [← h]; exact Nat.le_of_ble_eq_true hb
mutual
def avS (r : Nat) : SV → Bool
  | .ptr i _ => !Nat.beq i r
  | .el i _ _ _ => !Nat.beq i r
  | .sl i _ _ => !Nat.beq i r
  | .agg l => avL r l
  | .tup l => avL r l
  | .fn _ l => avL r l
  | .opt _ x => avS r x
  | .ix p _ _ _ _ => avS r p
  | .sp p _ _ => avS r p
  | .st i _ _ _ _ => !Nat.beq i r
  | _ => true
def avL (r : Nat) : List SV → Bool
  | [] => true
  | x :: l => avS r x && avL r l
end
theorem av_out {D : List Nat} {i : Nat} (h : ∀ r ∈ D, (!Nat.beq i r) = true) : i ∉ D := fun hi => by
  have := h i hi
  rw [show Nat.beq i i = true from Nat.beq_refl i] at this
  cases this
mutual
theorem den_off {G G' : Gr} {D : List Nat} (e : ∀ i, i ∉ D → G'[i]? = G[i]?) : ∀ (x : SV), (∀ r ∈ D, avS r x = true) → den G' x = den G x
  | .ptr i _, h => by unfold den; rw [e i (av_out h)]
  | .el i _ _ _, h => by unfold den; rw [e i (av_out h)]
  | .sl i _ _, h => by unfold den; rw [e i (av_out h)]
  | .agg l, h => by unfold den; rw [denL_off e l h]
  | .tup l, h => by unfold den; rw [denL_off e l h]
  | .fn _ l, h => by unfold den; rw [denL_off e l h]
  | .opt _ x, h => by unfold den; rw [den_off e x h]
  | .ix p _ _ _ _, h => by unfold den; rw [den_off e p h]
  | .sp p _ _, h => by unfold den; rw [den_off e p h]
  | .st i _ _ _ _, h => by unfold den; rw [e i (av_out h)]
  | .int _ _, _ => rfl
  | .bool _, _ => rfl
  | .tt, _ => rfl
  | .ff, _ => rfl
  | .str _, _ => rfl
  | .sla _ _ _, _ => rfl
  | .v _, _ => rfl
theorem denL_off {G G' : Gr} {D : List Nat} (e : ∀ i, i ∉ D → G'[i]? = G[i]?) : ∀ (l : List SV), (∀ r ∈ D, avL r l = true) → denL G' l = denL G l
  | [], _ => rfl
  | x :: l, h => by
    unfold denL
    rw [den_off e x fun r hr => by have := h r hr; simp only [avL, Bool.and_eq_true] at this; exact this.1, denL_off e l fun r hr => by have := h r hr; simp only [avL, Bool.and_eq_true] at this; exact this.2]
end
def avE (r : Nat) : Option Ent → Bool
  | some (.blk cs) => avL r cs
  | _ => true
def avH (r : Nat) : Hp → Bool
  | [] => true
  | e :: H => avE r e && avH r H
theorem avH_at {r : Nat} : ∀ {H : Hp}, avH r H = true → ∀ (i : Nat) (e : Option Ent), H[i]? = some e → avE r e = true
  | [], _, i, e, h => by cases h
  | f :: H, hb, i, e, h => by
    simp only [avH, Bool.and_eq_true] at hb
    cases i with
    | zero => cases h; exact hb.1
    | succ i => exact avH_at hb.2 i e (by simpa using h)
theorem EntOK.off {G G' : Gr} {r : Nat} {w : World} {p : Option Loc} {e : Ent} (h : EntOK G w p e) (hG : ∀ i, i ∉ [r] → G'[i]? = G[i]?) (ha : avE r (some e) = true) : EntOK G' w p e := by
  cases e with
  | blk cs => obtain ⟨M, vs, h1, h2, h3⟩ := h; exact ⟨M, vs, h1, by rw [denL_off hG cs (fun q hq => by simp at hq; subst hq; exact ha)]; exact h2, h3⟩
  | lst s n f => exact h
  | fac b o => exact h
  | row e s n c f => exact h
section
variable {P : Program} {X : Tx} {n : Nat} {ks : List Nat} {G0 : Gr} {w0 : World} {T : List (Nat × SV)} {H : Hp} {G : Gr} {a : Act} {w w' : World} {ops : Array Oper} {o : Oper}
theorem set_off {r : Nat} {y : Option Loc} : ∀ i, i ∉ [r] → (G.set r y)[i]? = G[i]? := fun i hi => by
  simp at hi
  rw [List.getElem?_set_ne (fun h => hi h.symm)]
/-- a new block at the place that was kept for it -/
theorem Sy.place (A : Sy n T H ks G0 w0 G a w) {r g : Nat} {t : TypeId} {en : Ent} (hr : H[r]? = some none) (hr0 : G0.length ≤ r) (hav : avH r H = true) (hg : g = w.heap.size) (hgr : Grow w w') (hen : EntOK G w' (some ⟨g, [], [], t⟩) en) (hmu : en.mut = true) (hae : avE r (some en) = true) :
    Ms (stH H r (some en)) ks G0 w0 (G.set r (some ⟨g, [], [], t⟩)) w' := by
  have hlen := A.mem.len
  have hrl : r < H.length := (List.getElem?_eq_some_iff.1 hr).1
  have B := A.ms.grow hgr
  have hold : ∀ (i : Nat) (e : Ent), (stH H r (some en))[i]? = some (some e) → (i ≠ r ∧ H[i]? = some (some e)) ∨ (i = r ∧ e = en) := by
    intro i e h
    rw [stH_is] at h
    by_cases hi : i = r
    · subst hi; rw [List.getElem?_set_self hrl] at h; cases h; exact .inr ⟨rfl, rfl⟩
    · rw [List.getElem?_set_ne (Ne.symm hi)] at h; exact .inl ⟨hi, h⟩
  have hself : (G.set r (some (⟨g, [], [], t⟩ : Loc)))[r]? = some (some ⟨g, [], [], t⟩) := List.getElem?_set_self (by omega)
  have hne : ∀ {i : Nat}, i ≠ r → (G.set r (some (⟨g, [], [], t⟩ : Loc)))[i]? = G[i]? := fun hi => by rw [List.getElem?_set_ne (Ne.symm hi)]
  refine ⟨⟨by rw [stH_is]; simpa using hlen, fun i e h => ?_, fun i j e f L M hij h1 h2 h3 h4 h5 h6 => ?_⟩, ?_, fun i e L h1 h2 h3 => ?_, B.mix⟩
  · rcases hold i e h with ⟨h1, h2⟩ | ⟨rfl, rfl⟩
    · rw [hne h1]; exact (B.mem.ent i e h2).off set_off (avH_at hav i _ h2)
    · rw [hself]; exact hen.off set_off hae
  · rcases hold i e h1 with ⟨a1, a2⟩ | ⟨rfl, rfl⟩
    · rw [hne a1] at h4
      rcases hold j f h2 with ⟨b1, b2⟩ | ⟨rfl, rfl⟩
      · rw [hne b1] at h5; exact B.mem.sep i j e f L M hij a2 b2 h3 h4 h5 h6
      · rw [hself] at h5; cases h5
        have := A.mem.ent i e a2
        rw [h4] at this
        have := EntOK.lt this (mut_full h3)
        show L.b ≠ g; omega
    · rw [hself] at h4; cases h4
      rcases hold j f h2 with ⟨b1, b2⟩ | ⟨rfl, rfl⟩
      · rw [hne b1] at h5
        have := A.mem.ent j f b2
        rw [h5] at this
        have := EntOK.lt this h6
        show g ≠ M.b; omega
      · exact absurd rfl hij
  · obtain ⟨F, hF⟩ := A.pre
    refine ⟨F.set (r - G0.length) (some ⟨g, [], [], t⟩), ?_⟩
    rw [hF, List.set_append_right _ _ hr0]
  · rcases hold i e h1 with ⟨a1, a2⟩ | ⟨rfl, rfl⟩
    · rw [hne a1] at h3; exact B.own i e L a2 h2 h3
    · rw [hself] at h3; cases h3
      have := A.mix.size
      exact .inr (by show w0.heap.size ≤ g; omega)
def EffAt (P : Program) (n : Nat) (ops : Array Oper) (ks : List Nat) (G0 : Gr) (w0 : World) (Tw : List (Nat × SV)) (H : Hp) (o : Oper) (x : SV) (H' : Hp) (rs : List Nat) : Prop :=
  ∀ G a w, Sy n Tw H ks G0 w0 G a w → Does P ops o a w fun v w' => ∃ G', (∀ i, i ∉ rs → G'[i]? = G[i]?) ∧ den G' x = some v ∧ Ms H' ks G0 w0 G' w'
theorem eff_at {Tw : List (Nat × SV)} {x : SV} {H' : Hp} {rs : List Nat} (h : EffOK P n ops ks G0 w0 Tw H o x H') (hl : H'.length = H.length) : EffAt P n ops ks G0 w0 Tw H o x H' rs := by
  intro G a w A
  refine does_mono (h G a w A) fun v w' ⟨F, h1, h2⟩ => ⟨G, fun _ _ => rfl, ?_⟩
  have e1 := h2.mem.len
  have e2 := A.mem.len
  have : F = [] := List.eq_nil_of_length_eq_zero (by rw [List.length_append] at e1; omega)
  subst this
  rw [List.append_nil] at h1 h2
  exact ⟨h1, h2⟩
theorem new_at (r : Nat) {Tw : List (Nat × SV)} {x x0 : SV} {H' : Hp} {rs : List Nat} {t : TypeId} {en : Ent} (hX : X.ok P = true) (h : stepS X n ops Tw H o = some (.new t en x0)) (hr : lg H r = some none) (hr0 : G0.length ≤ r) (hav : (avH r H && avE r (some en)) = true) (hren : renO (stH (rngF 0 H.length) r H.length) x = some x0) (hH : stH H r (some en) = H') (hrs : rs.contains r = true) : EffAt P n ops ks G0 w0 Tw H o x H' rs := by
  intro G a w A
  rw [Bool.and_eq_true] at hav
  rw [lg_is] at hr
  have hrl : r < H.length := (List.getElem?_eq_some_iff.1 hr).1
  unfold stepS at h
  split at h
  · next hd =>
    split at h
    · next hg =>
      refine xop_new (P := P) (ops := ops) hX A h (gd_run (gd := none) A hg) fun g w' v a1 a2 a3 a4 a5 => ⟨G.set r (some ⟨g, [], [], t⟩), fun i hi => set_off i (fun hq => ?_), ?_, ?_⟩
      · simp at hq; subst hq; exact hi (by simpa using hrs)
      · have hm : ∀ j ∈ (rngF 0 H.length).set r H.length, j < (G ++ [some (⟨g, [], [], t⟩ : Loc)]).length := fun j hj => by
          have hle : j ∈ rngF 0 H.length ∨ j = H.length := by
            rcases List.mem_or_eq_of_mem_set hj with h | h
            · exact .inl h
            · exact .inr h
          have := A.mem.len
          rcases hle with h | h
          · obtain ⟨k, hk, he⟩ := List.getElem_of_mem h
            rw [rngF_len] at hk
            have := rngF_at H.length 0 k hk
            rw [List.getElem?_eq_getElem (by rw [rngF_len]; exact hk), he] at this
            cases this
            simp; omega
          · simp; omega
        rw [stH_is] at hren
        rw [← a5, ← den_ren hm x hren]
        congr 1
        have hlen := A.mem.len
        apply List.ext_getElem?
        intro i
        by_cases hi : i < H.length
        · by_cases hir : i = r
          · subst hir
            have h1 : ((rngF 0 H.length).set i H.length)[i]? = some H.length := List.getElem?_set_self (by rw [rngF_len]; exact hi)
            rw [pickG_at hm h1, List.getElem?_set_self (by omega), List.getElem?_append_right (by omega), hlen]; simp
          · have h1 : ((rngF 0 H.length).set r H.length)[i]? = some i := by rw [List.getElem?_set_ne (Ne.symm hir), rngF_at _ _ _ hi, Nat.zero_add]
            rw [pickG_at hm h1, List.getElem?_set_ne (Ne.symm hir), List.getElem?_append_left (by omega)]
        · rw [List.getElem?_eq_none (by simp; omega), List.getElem?_eq_none (by simp [pickG, rngF_len]; omega)]
      · rw [← hH]; exact A.place hr hr0 hav.1 a1 a2 a3 a4 hav.2
    · cases h
    · split at h <;> cases h
    · cases h
  · cases h
end
section
variable {P : Program} {n : Nat} {ks : List Nat} {G0 : Gr} {w0 : World} {H : Hp} {G : Gr} {w w' : World} {ops : Array Oper} {o : Oper}
theorem EntOK.offL {G G' : Gr} {D : List Nat} {w : World} {p : Option Loc} {e : Ent} (h : EntOK G w p e) (hG : ∀ i, i ∉ D → G'[i]? = G[i]?) (ha : ∀ r ∈ D, avE r (some e) = true) : EntOK G' w p e := by
  cases e with
  | blk cs => obtain ⟨M, vs, h1, h2, h3⟩ := h; exact ⟨M, vs, h1, by rw [denL_off hG cs ha]; exact h2, h3⟩
  | lst s n f => exact h
  | fac b o => exact h
  | row e s n c f => exact h
/-- what stands last, put at the place that was kept for it -/
theorem Ms.put {r : Nat} {en : Ent} {p : Option Loc} (M : Ms (H ++ [some en]) ks G0 w0 (G ++ [p]) w') (hr : H[r]? = some none) (hr0 : G0.length ≤ r) (hav : ∀ q ∈ [r, H.length], avH q H = true ∧ avE q (some en) = true) : Ms (stH H r (some en)) ks G0 w0 (G.set r p) w' := by
  have hlen : H.length = G.length := by have := M.mem.len; simpa using this
  have hrl : r < H.length := (List.getElem?_eq_some_iff.1 hr).1
  have hold : ∀ (i : Nat) (e : Ent), (stH H r (some en))[i]? = some (some e) → ∃ j, (H ++ [some en])[j]? = some (some e) ∧ (G.set r p)[i]? = (G ++ [p])[j]? ∧ ((i ≠ r ∧ j = i ∧ H[i]? = some (some e)) ∨ (i = r ∧ j = H.length ∧ e = en)) := by
    intro i e h
    rw [stH_is] at h
    by_cases hi : i = r
    · subst hi; rw [List.getElem?_set_self hrl] at h; cases h
      refine ⟨H.length, by simp, ?_, .inr ⟨rfl, rfl, rfl⟩⟩
      rw [List.getElem?_set_self (by omega), hlen]; simp
    · rw [List.getElem?_set_ne (Ne.symm hi)] at h
      have hl := (List.getElem?_eq_some_iff.1 h).1
      refine ⟨i, by rw [List.getElem?_append_left hl]; exact h, ?_, .inl ⟨hi, rfl, h⟩⟩
      rw [List.getElem?_set_ne (Ne.symm hi), List.getElem?_append_left (by omega)]
  have hoff : ∀ i, i ∉ [r, H.length] → (G.set r p)[i]? = (G ++ [p])[i]? := fun i hi => by
    simp at hi
    rw [List.getElem?_set_ne (fun h => hi.1 h.symm)]
    by_cases hg : i < G.length
    · rw [List.getElem?_append_left hg]
    · rw [List.getElem?_eq_none (by omega), List.getElem?_eq_none (by simp; omega)]
  refine ⟨⟨by rw [stH_is]; simpa using hlen, fun i e h => ?_, fun i j e f L N hij h1 h2 h3 h4 h5 h6 => ?_⟩, ?_, fun i e L h1 h2 h3 => ?_, M.mix⟩
  · obtain ⟨j, g1, g2, g3⟩ := hold i e h
    rw [g2]
    refine (M.mem.ent j e g1).offL hoff fun q hq => ?_
    rcases g3 with ⟨_, _, g⟩ | ⟨_, _, rfl⟩
    · exact avH_at (hav q hq).1 i _ g
    · exact (hav q hq).2
  · obtain ⟨i', g1, g2, g3⟩ := hold i e h1
    obtain ⟨j', k1, k2, k3⟩ := hold j f h2
    rw [g2] at h4
    rw [k2] at h5
    refine M.mem.sep i' j' e f L N ?_ g1 k1 h3 h4 h5 h6
    have hi : ∀ {i : Nat} {e : Ent}, H[i]? = some (some e) → i < H.length := fun h => (List.getElem?_eq_some_iff.1 h).1
    rcases g3 with ⟨a1, a2, a3⟩ | ⟨a1, a2, a3⟩ <;> rcases k3 with ⟨b1, b2, b3⟩ | ⟨b1, b2, b3⟩
    · omega
    · have := hi a3; omega
    · have := hi b3; omega
    · omega
  · obtain ⟨F, hF⟩ := M.pre
    refine ⟨(G.set r p).drop G0.length, ?_⟩
    have e : (G.set r p).take G0.length = G0 := by
      have h1 : (G ++ [p]).take G0.length = G0 := by rw [hF]; simp
      rw [List.take_append_of_le_length (by omega)] at h1
      rw [List.take_set_of_le (by omega)]; exact h1
    have := (List.take_append_drop G0.length (G.set r p)).symm
    rw [e] at this; exact this
  · obtain ⟨i', g1, g2, g3⟩ := hold i e h1
    rw [g2] at h3
    exact M.own i' e L g1 h2 h3
/-- an operation that makes one more, by what it does -/
theorem put_at (r : Nat) {Tw : List (Nat × SV)} {x x0 : SV} {H1 H' : Hp} {rs : List Nat} {en : Ent} (h : EffOK P n ops ks G0 w0 Tw H o x0 (H1 ++ [some en])) (hl : H1.length = H.length) (hr : lg H1 r = some none) (hr0 : G0.length ≤ r) (hav : (avH r H1 && avE r (some en) && avH H1.length H1 && avE H1.length (some en)) = true) (hren : renO (stH (rngF 0 H1.length) r H1.length) x = some x0) (hH : stH H1 r (some en) = H') (hrs : rs.contains r = true) : EffAt P n ops ks G0 w0 Tw H o x H' rs := by
  intro G a w A
  rw [lg_is] at hr
  have hrl : r < H1.length := (List.getElem?_eq_some_iff.1 hr).1
  simp only [Bool.and_eq_true] at hav
  refine does_mono (h G a w A) fun v w' ⟨F, h1, h2⟩ => ?_
  have e1 := h2.mem.len
  have e2 := A.mem.len
  have hF1 : F.length = 1 := by simp at e1; omega
  obtain ⟨p, rfl⟩ := List.length_eq_one_iff.1 hF1
  refine ⟨G.set r p, fun i hi => set_off i (fun hq => ?_), ?_, ?_⟩
  · simp at hq; subst hq; exact hi (by simpa using hrs)
  · have hm : ∀ j ∈ (rngF 0 H1.length).set r H1.length, j < (G ++ [p]).length := fun j hj => by
      rcases List.mem_or_eq_of_mem_set hj with h | h
      · obtain ⟨k, hk, he⟩ := List.getElem_of_mem h
        rw [rngF_len] at hk
        have := rngF_at H1.length 0 k hk
        rw [List.getElem?_eq_getElem (by rw [rngF_len]; exact hk), he] at this
        cases this
        simp; omega
      · simp; omega
    rw [stH_is] at hren
    rw [← h1, ← den_ren hm x hren]
    congr 1
    apply List.ext_getElem?
    intro i
    by_cases hi : i < H1.length
    · by_cases hir : i = r
      · subst hir
        have h1 : ((rngF 0 H1.length).set i H1.length)[i]? = some H1.length := List.getElem?_set_self (by rw [rngF_len]; exact hi)
        rw [pickG_at hm h1, List.getElem?_set_self (by omega), List.getElem?_append_right (by omega), hl, e2]; simp
      · have h1 : ((rngF 0 H1.length).set r H1.length)[i]? = some i := by rw [List.getElem?_set_ne (Ne.symm hir), rngF_at _ _ _ hi, Nat.zero_add]
        rw [pickG_at hm h1, List.getElem?_set_ne (Ne.symm hir), List.getElem?_append_left (by omega)]
    · rw [List.getElem?_eq_none (by simp; omega), List.getElem?_eq_none (by simp [pickG, rngF_len]; omega)]
  · rw [← hH]
    refine h2.put hr hr0 fun q hq => ?_
    simp at hq
    rcases hq with rfl | rfl
    · exact ⟨hav.1.1.1, hav.1.1.2⟩
    · exact ⟨hav.1.2, hav.2⟩
end
/-- may operation i come where these stand behind it? -/
def mayI (ops : Array Oper) (ef c : List Nat) (i : Nat) (o : Oper) : Bool :=
  !c.contains i && ef.all (fun p => !wt ops o p || c.contains p) && c.all (fun p => match ops[p]? with | some q => !waits q i | none => true)
section
variable {P : Program} {X : Tx} {n : Nat} {ks : List Nat} {G0 : Gr} {w0 : World} {T : List (Nat × SV)} {l : List Oper} {xs : List SV} {Q : Exit → Act → World → Prop} {ef rs0 : List Nat} {tb : List (List Nat × List Nat × Hp)}
structure AInv (n : Nat) (ks : List Nat) (G0 : Gr) (w0 : World) (T : List (Nat × SV)) (l : List Oper) (xs : List SV) (ef rs0 : List Nat) (c rs : List Nat) (H : Hp) (listed : Array Bool) (G : Gr) (a : Act) (w : World) : Prop where
  size : a.tmps.size = n
  defers : a.defers = []
  base : ∀ t x, look T t = some x → (∀ (j : Nat) (o : Oper), l[j]? = some o → o.dst = some t → listed.getD j false = false) → den G x = some (a.tmps.getD t undef)
  done : ∀ (j : Nat) (o : Oper) (x : SV), l[j]? = some o → listed.getD j false = true → xs[j]? = some x → (∀ r ∈ rs, avS r x = true) ∧ ∀ d, o.dst = some d → den G x = some (a.tmps.getD d undef)
  ms : Ms H ks G0 w0 G w
  eff : ∀ p ∈ ef, (listed.getD p false = true ↔ p ∈ c)
  sub : ∀ p ∈ c, p ∈ ef
  rsub : ∀ r ∈ rs, r ∈ rs0
  closed : ∀ (j : Nat) (o : Oper) (p : Nat), l[j]? = some o → listed.getD j false = true → waits o p = true → listed.getD p false = true
theorem tw_look2 {o : Oper} {T : List (Nat × SV)} {t : Nat} {x : SV} : ∀ {l : List Oper} {xs : List SV} {k : Nat}, xs.length = l.length → look (twL o l xs k T) t = some x → (∃ i p, l[i]? = some p ∧ xs[i]? = some x ∧ waits o (k + i) = true ∧ p.dst = some t) ∨ (look T t = some x ∧ ∀ (i : Nat) (p : Oper), l[i]? = some p → p.dst = some t → waits o (k + i) = false)
  | [], _, _, _, h => .inr ⟨h, fun i p hi => by cases hi⟩
  | _ :: _, [], _, hl, h => by cases hl
  | p :: l, y :: xs, k, hl, h => by
    have rest : (p.dst = some t → waits o k = false) → look (twL o l xs (k + 1) T) t = some x → (∃ i q, (p :: l)[i]? = some q ∧ (y :: xs)[i]? = some x ∧ waits o (k + i) = true ∧ q.dst = some t) ∨ (look T t = some x ∧ ∀ (i : Nat) (q : Oper), (p :: l)[i]? = some q → q.dst = some t → waits o (k + i) = false) := fun h0 h => by
      rcases tw_look2 (by simpa using hl) h with ⟨i, q, h1, h2, h3, h4⟩ | ⟨h, hn⟩
      · exact .inl ⟨i + 1, q, by simpa using h1, by simpa using h2, by rw [show k + (i + 1) = k + 1 + i by omega]; exact h3, h4⟩
      · refine .inr ⟨h, fun i q hi hd => ?_⟩
        cases i with
        | zero => cases hi; simpa using h0 hd
        | succ i => rw [show k + (i + 1) = k + 1 + i by omega]; exact hn i q (by simpa using hi) hd
    unfold twL at h
    cases hb : waits o k with
    | false => rw [hb] at h; exact rest (fun _ => hb) h
    | true =>
      rw [hb] at h
      simp only [cond_true] at h
      cases hd : p.dst with
      | none => rw [hd] at h; exact rest (fun e => by rw [hd] at e; cases e) h
      | some d =>
        rw [hd] at h
        simp only [extS, look] at h
        cases hk : Nat.beq d t with
        | false => rw [hk] at h; exact rest (fun e => by rw [hd] at e; cases e; rw [Nat.beq_refl] at hk; cases hk) h
        | true =>
          rw [hk] at h
          cases h
          have := Nat.eq_of_beq_eq_true hk
          subst this
          exact .inl ⟨0, p, rfl, rfl, by simpa using hb, hd⟩
def StepOb (P : Program) (n : Nat) (ks : List Nat) (G0 : Gr) (w0 : World) (T : List (Nat × SV)) (l : List Oper) (xs : List SV) (ef : List Nat) (tb : List (List Nat × List Nat × Hp)) (c rs : List Nat) (H : Hp) (i : Nat) (o : Oper) : Prop :=
  ∃ (x : SV) (c' rs' : List Nat) (H' : Hp) (k' : Nat), xs[i]? = some x ∧ tb[k']? = some (c', rs', H') ∧ ((ef.all fun p => c'.contains p == (Nat.beq p i || c.contains p)) && c'.all ef.contains) = true ∧ (rs'.all fun r => rs.contains r && avS r x) = true ∧ EffAt P n l.toArray ks G0 w0 (twL o l xs 0 T) H o x H' rs
theorem any_go (hfit : fitB l.toArray n [] = true) (hT : ∀ t x, look T t = some x → ∀ (j : Nat) (o : Oper), l[j]? = some o → o.dst = some t → ∀ (i : Nat) (q : Oper), l[i]? = some q → i ≠ j → waits o i = true ∨ waits q j = true) (hTa : ∀ t x, look T t = some x → ∀ r ∈ rs0, avS r x = true) (hl : xs.length = l.length)
    (hob : ∀ (k : Nat) (c rs : List Nat) (H : Hp), tb[k]? = some (c, rs, H) → ∀ (i : Nat) (o : Oper), l[i]? = some o → mayI l.toArray ef c i o = true → StepOb P n ks G0 w0 T l xs ef tb c rs H i o)
    (hend : ∀ (k : Nat) (c rs : List Nat) (H : Hp), tb[k]? = some (c, rs, H) → (∀ p ∈ ef, p < l.length → p ∈ c) → ∀ G a w, Sy n (putS l xs T) H ks G0 w0 G a w → Q .normal a w) :
    ∀ (fuel : Nat) (listed : Array Bool) (a : Act) (w : World) (k : Nat) (c rs : List Nat) (H : Hp) (G : Gr), listed.size = l.length → ((List.range l.length).filter fun i => !listed.getD i true).length ≤ fuel → tb[k]? = some (c, rs, H) → AInv n ks G0 w0 T l xs ef rs0 c rs H listed G a w → wpAny P .any l.toArray Q fuel listed a w := by
  have last : ∀ (listed : Array Bool) (a : Act) (w : World) (k : Nat) (c rs : List Nat) (H : Hp) (G : Gr), listed.size = l.length → Region.ready .any l.toArray listed = [] → tb[k]? = some (c, rs, H) → AInv n ks G0 w0 T l xs ef rs0 c rs H listed G a w → Q .normal a w := by
    intro listed a w k c rs H G hls hr hk I
    have all : ∀ i, i < l.length → listed.getD i false = true := by
      intro i
      induction i using Nat.strongRecOn with
      | _ i ih =>
        intro hi
        cases hq : listed.getD i false with
        | true => rfl
        | false =>
          exfalso
          have : i ∈ Region.ready .any l.toArray listed := by
            rw [mem_ready]
            have hli : i < listed.size := by omega
            have hoi : l.toArray[i]? = some l[i] := by simp [hi]
            refine ⟨by simpa [hli] using hq, l[i], hoi, fun e he hb => ?_⟩
            have hlt := (fit_spec hfit hoi).2 e he hb
            exact ih e.on hlt (by omega)
          rw [hr] at this; cases this
    refine hend k c rs H hk (fun p hp hpl => (I.eff p hp).1 (all p hpl)) G a w (I.ms.sy I.size I.defers fun t x hx => ?_)
    rcases put_look hl hx with ⟨i, p, q1, q2, q3⟩ | ⟨hx, hno⟩
    · exact (I.done i p x q1 (all i (List.getElem?_eq_some_iff.1 q1).1) q2).2 t q3
    · exact I.base t x hx fun j o h1 h2 => absurd h2 (hno j o h1)
  intro fuel
  induction fuel with
  | zero =>
    intro listed a w k c rs H G hls hf hk I
    have hr : Region.ready .any l.toArray listed = [] := by
      unfold Region.ready
      rw [List.filter_eq_nil_iff]
      intro i hi
      have hnil : ((List.range l.length).filter fun i => !listed.getD i true) = [] := List.eq_nil_of_length_eq_zero (by omega)
      rw [List.filter_eq_nil_iff] at hnil
      have := hnil i (by simpa using hi)
      simp only [Bool.not_eq_true, Bool.not_eq_false'] at this
      simp [this]
    exact ⟨hr, last listed a w k c rs H G hls hr hk I⟩
  | succ fuel ih =>
    intro listed a w k c rs H G hls hf hkt I
    refine ⟨fun hr => last listed a w k c rs H G hls hr hkt I, fun i hi => ?_⟩
    obtain ⟨hun, o, hoi, hall⟩ := mem_ready.1 hi
    have hil : i < l.length := by have := (Array.getElem?_eq_some_iff.1 hoi).1; simpa using this
    have hoi' : l[i]? = some o := by simpa using hoi
    obtain ⟨hfd, hfe⟩ := fit_spec hfit hoi
    have hun' : listed.getD i false = false := by
      have hlt : i < listed.size := by omega
      simpa [hlt] using hun
    have hw : ∀ p, waits o p = true → listed.getD p false = true := fun p hp => by
      unfold waits at hp
      rw [List.any_eq_true] at hp
      obtain ⟨e, he', hb⟩ := hp
      have he : e ∈ o.after := by simpa using he'
      simp only [Bool.and_eq_true, beq_iff_eq] at hb
      rw [← hb.2]
      exact hall e he hb.1
    -- what is known where it stands
    have A : Sy n (twL o l xs 0 T) H ks G0 w0 G a w := I.ms.sy I.size I.defers fun t x hx => by
      rcases tw_look2 hl hx with ⟨j, p, q1, q2, q3, q4⟩ | ⟨hx, hnw⟩
      · exact (I.done j p x q1 (hw j (by simpa using q3)) q2).2 t q4
      · refine I.base t x hx fun j p h1 h2 => ?_
        by_cases hji : j = i
        · subst hji; exact hun'
        · cases hlj : listed.getD j false with
          | false => rfl
          | true =>
            rcases hT t x hx j p h1 h2 i o hoi' (Ne.symm hji) with hwt | hwt
            · have := I.closed j p i h1 hlj hwt
              rw [hun'] at this; cases this
            · have := hnw j p h1 h2
              rw [Nat.zero_add] at this
              rw [hwt] at this; cases this
    have hmay : mayI l.toArray ef c i o = true := by
      unfold mayI
      simp only [Bool.and_eq_true, Bool.not_eq_true', List.all_eq_true, Bool.or_eq_true]
      refine ⟨⟨?_, fun p hp => ?_⟩, fun p hp => ?_⟩
      · cases hc : c.contains i with
        | false => rfl
        | true =>
          have h1 : i ∈ c := by simpa using hc
          have := (I.eff i (I.sub i h1)).2 h1
          rw [hun'] at this; cases this
      · cases hq : wt l.toArray o p with
        | false => exact .inl rfl
        | true =>
          refine .inr ?_
          have hlp : listed.getD p false = true := by
            unfold wt at hq
            cases hd : waits o p with
            | true => exact hw p hd
            | false =>
              rw [hd] at hq
              exact via_listed (ops := l.toArray) (fun j o' p' h1 h2 h3 => I.closed j o' p' (by simpa using h1) h2 h3) 2 o.after.toList (fun e he hb => hall e (by simpa using he) hb) hq
          have := (I.eff p hp).1 hlp
          simpa using this
      · split
        · next q hq =>
          cases hd : waits q i with
          | false => rfl
          | true =>
            have h1 := (I.eff p (I.sub p hp)).2 hp
            have := I.closed p q i (by simpa using hq) h1 hd
            rw [hun'] at this; cases this
        · rfl
    obtain ⟨x, c', rs', H', k', hx, hk', hc', hrs', he⟩ := hob k c rs H hkt i o hoi' hmay
    rw [Bool.and_eq_true, List.all_eq_true, List.all_eq_true] at hc'
    rw [List.all_eq_true] at hrs'
    have hr1 : ∀ r ∈ rs', r ∈ rs ∧ avS r x = true := fun r hr => by
      have := hrs' r hr
      rw [Bool.and_eq_true] at this
      exact ⟨by simpa using this.1, this.2⟩
    -- the next state
    have next : ∀ (v : Value) (w' : World) (G' : Gr), (∀ i, i ∉ rs → G'[i]? = G[i]?) → den G' x = some v → Ms H' ks G0 w0 G' w' → wpAny P .any l.toArray Q fuel (listed.setIfInBounds i true) (a.put o.dst v) w' := by
      intro v w' G' hG hv hms
      have hlt : i < listed.size := by omega
      have hget : ∀ j, (listed.setIfInBounds i true).getD j false = true ↔ (j = i ∨ listed.getD j false = true) := by
        intro j
        by_cases hji : j = i
        · subst hji; simp [hlt]
        · rw [set_ne false (Ne.symm hji)]; simp [hji]
      refine ih _ _ _ k' c' rs' H' G' (by simpa using hls) ?_ hk' ⟨?_, ?_, fun t y hy hno => ?_, fun j p y q1 q2 q3 => ?_, hms, fun p hp => ?_, fun p hp => ?_, fun r hr => I.rsub r (hr1 r hr).1, fun j p r q1 q2 q3 => ?_⟩
      · have : ((List.range l.length).filter fun k => !(listed.setIfInBounds i true).getD k true).length < ((List.range l.length).filter fun k => !listed.getD k true).length := by
          have hsub : ((List.range l.length).filter fun k => !(listed.setIfInBounds i true).getD k true) = ((List.range l.length).filter fun k => !listed.getD k true).filter (fun k => k != i) := by
            rw [List.filter_filter]
            apply List.filter_congr
            intro k _
            by_cases hk : k = i
            · subst hk; simp [hlt]
            · rw [set_ne true (Ne.symm hk)]; simp [hk]
          rw [hsub]
          refine List.length_filter_lt_length_iff_exists.2 ⟨i, ?_, by simp⟩
          simp only [List.mem_filter, List.mem_range]
          exact ⟨hil, by rw [hun]; rfl⟩
        omega
      · cases hd : o.dst <;> simp [Act.put, I.size]
      · cases hd : o.dst <;> simp [Act.put, I.defers]
      · have hno' : ∀ (j : Nat) (q : Oper), l[j]? = some q → q.dst = some t → listed.getD j false = false := fun j q h1 h2 => by
          have h3 := hno j q h1 h2
          cases hlj : listed.getD j false with
          | false => rfl
          | true => rw [(hget j).2 (.inr hlj)] at h3; cases h3
        have h1 : den G' y = some (a.tmps.getD t undef) := by rw [den_off hG y fun r hr => hTa t y hy r (I.rsub r hr)]; exact I.base t y hy hno'
        cases hd : o.dst with
        | none => exact h1
        | some d =>
          have hne : d ≠ t := fun e => by
            have h3 := hno i o hoi' (by rw [hd, e])
            rw [(hget i).2 (.inl rfl)] at h3; cases h3
          simp only [Act.put, Array.getD_eq_getD_getElem?]
          rw [Array.getElem?_setIfInBounds_ne hne, ← Array.getD_eq_getD_getElem?]
          exact h1
      · by_cases hji : j = i
        · subst hji
          rw [hoi'] at q1; cases q1
          rw [hx] at q3; cases q3
          refine ⟨fun r hr => (hr1 r hr).2, fun d q4 => ?_⟩
          have hdn : d < a.tmps.size := by rw [I.size]; exact (hfd d q4).1
          rw [q4]
          simp [Act.put, hdn, hv]
        · have h2 : listed.getD j false = true := by
            rcases (hget j).1 q2 with h | h
            · exact absurd h hji
            · exact h
          obtain ⟨g1, g2⟩ := I.done j p y q1 h2 q3
          refine ⟨fun r hr => g1 r (hr1 r hr).1, fun d q4 => ?_⟩
          have h1 : den G' y = some (a.tmps.getD d undef) := by rw [den_off hG y g1]; exact g2 d q4
          cases hd : o.dst with
          | none => exact h1
          | some d' =>
            have hne : d' ≠ d := fun e => by
              subst e
              exact hji ((hfd d' hd).2.1 j (by simpa using (List.getElem?_eq_some_iff.1 q1).1) (by simp [dstOf, q1, q4]))
            simp only [Act.put, Array.getD_eq_getD_getElem?]
            rw [Array.getElem?_setIfInBounds_ne hne, ← Array.getD_eq_getD_getElem?]
            exact h1
      · rw [hget p, I.eff p hp]
        have := hc'.1 p hp
        have hb : (p = i ∨ p ∈ c) ↔ (Nat.beq p i || c.contains p) = true := by
          rw [Bool.or_eq_true]
          refine or_congr ⟨fun h => by subst h; exact Nat.beq_refl p, Nat.eq_of_beq_eq_true⟩ (by simp)
        rw [hb]
        rw [beq_iff_eq] at this
        rw [← this]; simp
      · have := hc'.2 p hp; simpa using this
      · rw [hget r]
        by_cases hji : j = i
        · subst hji; rw [hoi'] at q1; cases q1; exact .inr (hw r q3)
        · rcases (hget j).1 q2 with h | h
          · exact absurd h hji
          · exact .inr (I.closed j p r q1 h q3)
    unfold wpOp
    rcases he G a w A with ⟨hwn, h⟩ | ⟨hwn, G', h1, h2, h3⟩
    · simp only [hoi, hwn, if_true]
      refine .inl (Oper.wp_mono (fun a2 w2 h => ?_) (h Q))
      obtain ⟨v, rfl, G', h1, h2, h3⟩ := h
      exact next v w2 G' h1 h2 h3
    · simp only [hoi, hwn, Bool.false_eq_true, if_false]
      exact next undef w G' h1 h2 h3
def mayR (ops : Array Oper) (ef c : List Nat) : List Oper → Nat → List Bool
  | [], _ => []
  | o :: l, i => mayI ops ef c i o :: mayR ops ef c l (i + 1)
def ObS (P : Program) (n : Nat) (ks : List Nat) (G0 : Gr) (w0 : World) (T : List (Nat × SV)) (L : List Oper) (xs : List SV) (ef : List Nat) (tb : List (List Nat × List Nat × Hp)) (c rs : List Nat) (H : Hp) : List Bool → List Oper → Nat → Prop
  | true :: bs, o :: l, i => StepOb P n ks G0 w0 T L xs ef tb c rs H i o ∧ ObS P n ks G0 w0 T L xs ef tb c rs H bs l (i + 1)
  | false :: bs, o :: l, i => ObS P n ks G0 w0 T L xs ef tb c rs H bs l (i + 1)
  | _, _, _ => True
def ObA (P : Program) (n : Nat) (ks : List Nat) (G0 : Gr) (w0 : World) (T : List (Nat × SV)) (L : List Oper) (xs : List SV) (ef : List Nat) (tb : List (List Nat × List Nat × Hp)) : List (List Bool) → List (List Nat × List Nat × Hp) → Prop
  | bs :: B, (c, rs, H) :: ss => ObS P n ks G0 w0 T L xs ef tb c rs H bs L 0 ∧ ObA P n ks G0 w0 T L xs ef tb B ss
  | _, _ => True
theorem obs_at {c rs : List Nat} {H : Hp} {L : List Oper} : ∀ {m : List Oper} {j : Nat}, ObS P n ks G0 w0 T L xs ef tb c rs H (mayR L.toArray ef c m j) m j → ∀ (i : Nat) (o : Oper), m[i]? = some o → mayI L.toArray ef c (j + i) o = true → StepOb P n ks G0 w0 T L xs ef tb c rs H (j + i) o
  | [], j, _, i, o, h, _ => by cases h
  | p :: m, j, hO, i, o, h, hm => by
    unfold mayR at hO
    cases i with
    | zero =>
      cases h
      rw [Nat.add_zero] at hm ⊢
      rw [hm] at hO
      exact hO.1
    | succ i =>
      have hO' : ObS P n ks G0 w0 T L xs ef tb c rs H (mayR L.toArray ef c m (j + 1)) m (j + 1) := by
        cases hb : mayI L.toArray ef c j p with
        | true => rw [hb] at hO; exact hO.2
        | false => rw [hb] at hO; exact hO
      have := obs_at hO' i o (by simpa using h) (by rw [show j + 1 + i = j + (i + 1) by omega]; exact hm)
      rwa [show j + 1 + i = j + (i + 1) by omega] at this
theorem oba_at : ∀ {ss : List (List Nat × List Nat × Hp)}, ObA P n ks G0 w0 T l xs ef tb (ss.map fun s => mayR l.toArray ef s.1 l 0) ss → ∀ (k : Nat) (c rs : List Nat) (H : Hp), ss[k]? = some (c, rs, H) → ObS P n ks G0 w0 T l xs ef tb c rs H (mayR l.toArray ef c l 0) l 0
  | [], _, k, c, rs, H, h => by cases h
  | (c1, r1, H1) :: ss, hO, k, c, rs, H, h => by
    simp only [List.map_cons, ObA] at hO
    cases k with
    | zero => cases h; exact hO.1
    | succ k => exact oba_at hO.2 k c rs H (by simpa using h)
theorem Sy.pad {H : Hp} {G : Gr} {a : Act} {w : World} (A : Ms H ks G0 w0 G w) (m : Nat) : Ms (H ++ List.replicate m none) ks G0 w0 (G ++ List.replicate m none) w := by
  have hlen := A.mem.len
  have hold : ∀ (i : Nat) (e : Ent), (H ++ List.replicate m none)[i]? = some (some e) → H[i]? = some (some e) := by
    intro i e h
    by_cases hi : i < H.length
    · rwa [List.getElem?_append_left hi] at h
    · rw [List.getElem?_append_right (by omega), List.getElem?_replicate] at h
      split at h <;> cases h
  have hg : ∀ (i : Nat) (e : Ent), H[i]? = some (some e) → (G ++ List.replicate m none)[i]? = G[i]? := fun i e h => by
    have := (List.getElem?_eq_some_iff.1 h).1
    rw [List.getElem?_append_left (by omega)]
  refine ⟨⟨by simp [hlen], fun i e h => ?_, fun i j e f L M hij h1 h2 h3 h4 h5 h6 => ?_⟩, ?_, fun i e L h1 h2 h3 => ?_, A.mix⟩
  · rw [hg i e (hold i e h)]; exact (A.mem.ent i e (hold i e h)).more _
  · rw [hg i e (hold i e h1)] at h4
    rw [hg j f (hold j f h2)] at h5
    exact A.mem.sep i j e f L M hij (hold i e h1) (hold j f h2) h3 h4 h5 h6
  · obtain ⟨F, rfl⟩ := A.pre; exact ⟨F ++ List.replicate m none, by simp⟩
  · rw [hg i e (hold i e h1)] at h3; exact A.own i e L (hold i e h1) h2 h3
mutual
theorem av_go {G : Gr} {r : Nat} (key : ∀ i, (∃ p, G[i]? = some p) → (!Nat.beq i r) = true) : ∀ (x : SV) {v : Value}, den G x = some v → avS r x = true
  | .ptr i _, v, hx => by unfold den at hx; split at hx; · next L hL => exact key i ⟨_, hL⟩
                          · cases hx
  | .el i _ _ _, v, hx => by unfold den at hx; split at hx; · next L hL => exact key i ⟨_, hL⟩
                             · cases hx
  | .sl i _ _, v, hx => by unfold den at hx; split at hx; · next L hL => exact key i ⟨_, hL⟩
                           · cases hx
  | .st i _ _ _ _, v, hx => by unfold den at hx; split at hx; · next L hL => exact key i ⟨_, hL⟩
                               · cases hx
  | .agg l, v, hx => by unfold den at hx; obtain ⟨vs, h1, _⟩ := Option.map_eq_some_iff.1 hx; exact avL_go key l h1
  | .tup l, v, hx => by unfold den at hx; obtain ⟨vs, h1, _⟩ := Option.map_eq_some_iff.1 hx; exact avL_go key l h1
  | .fn _ l, v, hx => by unfold den at hx; obtain ⟨vs, h1, _⟩ := Option.map_eq_some_iff.1 hx; exact avL_go key l h1
  | .opt _ x, v, hx => by unfold den at hx; obtain ⟨vs, h1, _⟩ := Option.map_eq_some_iff.1 hx; exact av_go key x h1
  | .ix p _ _ _ _, v, hx => by
    unfold den at hx
    cases hq : den G p with
    | none => rw [hq] at hx; cases hx
    | some u => exact av_go key p hq
  | .sp p _ _, v, hx => by
    unfold den at hx
    cases hq : den G p with
    | none => rw [hq] at hx; cases hx
    | some u => exact av_go key p hq
  | .int _ _, _, _ => rfl
  | .bool _, _, _ => rfl
  | .tt, _, _ => rfl
  | .ff, _, _ => rfl
  | .str _, _, _ => rfl
  | .sla _ _ _, _, _ => rfl
  | .v _, _, _ => rfl
theorem avL_go {G : Gr} {r : Nat} (key : ∀ i, (∃ p, G[i]? = some p) → (!Nat.beq i r) = true) : ∀ (l : List SV) {vs : List Value}, denL G l = some vs → avL r l = true
  | [], _, _ => rfl
  | x :: l, vs, hx => by
    obtain ⟨v, ws, h1, h2, _⟩ := denL_cons hx
    unfold avL
    rw [av_go key x h1, avL_go key l h2]; rfl
end
theorem inS_av {G : Gr} {r : Nat} (h : G.length ≤ r) (x : SV) {v : Value} (hx : den G x = some v) : avS r x = true :=
  av_go (fun i ⟨p, hp⟩ => by
    have := (List.getElem?_eq_some_iff.1 hp).1
    cases hb : Nat.beq i r with
    | false => rfl
    | true => have := Nat.eq_of_beq_eq_true hb; omega) x hx
def endS (ef : List Nat) : List (List Nat × List Nat × Hp) → Option Hp
  | [] => none
  | [(_, _, H)] => some H
  | (c, _, _) :: s => bif ef.all c.contains then none else endS ef s
theorem endS_spec {HE : Hp} : ∀ {tb : List (List Nat × List Nat × Hp)}, endS ef tb = some HE → ∀ (k : Nat) (c rs : List Nat) (H : Hp), tb[k]? = some (c, rs, H) → ef.all c.contains = true → H = HE
  | [], h, k, c, rs, H, hk, _ => by cases hk
  | [(c1, r1, H1)], h, k, c, rs, H, hk, _ => by
    cases h
    cases k with
    | zero => cases hk; rfl
    | succ k => simp at hk
  | (c1, r1, H1) :: s1 :: ss, h, k, c, rs, H, hk, hc => by
    unfold endS at h
    cases hb : ef.all c1.contains with
    | true => rw [hb] at h; cases h
    | false =>
      rw [hb] at h
      cases k with
      | zero => cases hk; rw [hc] at hb; cases hb
      | succ k => exact endS_spec (tb := s1 :: ss) h k c rs H (by simpa using hk) hc
/-- a region that draws its order, with places kept for what is made -/
theorem ANY {id : Nat} {H HE : Hp} {G : Gr} {a : Act} {w : World} {K : List Fr} (hmo : P.follows .mixedOrders = true) (xs : List SV) (ef rs0 : List Nat) (m : Nat) (tb : List (List Nat × List Nat × Hp)) (B : List (List Bool)) (A : Sy n T H ks G0 w0 G a w)
    (h0 : tb[0]? = some ([], rs0, H ++ List.replicate m none)) (hE : endS ef tb = some HE) (hrs : (rs0.all fun r => Nat.ble H.length r) = true) (hef : (ef.all fun p => Nat.blt p l.length) = true) (hB : (tb.map fun s => mayR l.toArray ef s.1 l 0) = B) (hl : xs.length = l.length) (hfit : fitB l.toArray n [] = true)
    (hO : ObA P n ks G0 w0 (keepT l T) l xs ef tb B tb) (hk : ∀ {G a w}, Sy n (putS l xs (keepT l T)) HE ks G0 w0 G a w → Goal P Q K .norm a w) : Goal P Q K (.code (.region id l.toArray true)) a w := by
  refine wp_region_any hmo ?_
  have hB1 : Ms H ks G0 w0 G w.drew := A.ms.grow (Grow.refl w).drew
  rw [List.all_eq_true] at hrs hef
  refine any_go (P := P) (xs := xs) (T := keepT l T) (ef := ef) (rs0 := rs0) (tb := tb) hfit (fun t x hx j o h3 h4 i q hq hne => .inl <| lt_spec (by have := keepB_spec (keep_look hx).2 j o h3 h4; rwa [Nat.zero_add] at this) i (List.getElem?_eq_some_iff.1 hq).1 hne) (fun t x hx r hr => ?_) hl (fun k c rs H hk i o hi hm => ?_) (fun k c rs H' hk' hall G a w A' => ?_) _ _ _ _ 0 [] rs0 _ (G ++ List.replicate m none) (by simp) (by
    refine Nat.le_trans (List.length_filter_le _ _) (by simp)) h0 ⟨A.size, A.defers, fun t x hx _ => den_mono _ x (A.get t x (keep_look hx).1), fun j o x _ hj => ?_, Sy.pad (a := a) hB1 m, fun p hp => ?_, fun p hp => absurd hp (by simp), fun r hr => hr, fun j o p _ hj => ?_⟩
  · have := hrs r hr
    rw [A.mem.len] at this
    exact inS_av (G := G) (Nat.le_of_ble_eq_true this) x (A.get t x (keep_look hx).1)
  · have := obs_at (oba_at (by rw [hB]; exact hO) k c rs H hk) i o hi (by rw [Nat.zero_add]; exact hm)
    rwa [Nat.zero_add] at this
  · have h2 : (ef.all c.contains) = true := by
      rw [List.all_eq_true]
      intro p hp
      have := hall p hp (by have := hef p hp; simpa [Nat.blt_eq] using this)
      simpa using this
    cases endS_spec hE k c rs H' hk' h2
    exact hk A'
  · exfalso; simp [Array.getD_eq_getD_getElem?, Array.getElem?_replicate] at hj; split at hj <;> simp at hj
  · constructor
    · intro hj; exfalso; simp [Array.getD_eq_getD_getElem?, Array.getElem?_replicate] at hj; split at hj <;> simp at hj
    · intro hj; cases hj
  · exfalso; simp [Array.getD_eq_getD_getElem?, Array.getElem?_replicate] at hj; split at hj <;> simp at hj
/-! ### Cells written out, as a list that is read -/
theorem blk_parts {α : Type} (d : α) (cf : α → List SV) (s : Nat) (hs : ∀ x, (cf x).length = s) (hin : ∀ x, inL 0 (cf x) = true) : ∀ (L : List α) (k : Nat), k < L.length → tk s (dp (k * s) (L.flatMap cf)) = some (cf (L.getD k d)) ∧ inL 0 (cf (L.getD k d)) = true
  | [], k, h => by simp at h
  | x :: L, 0, _ => by
    refine ⟨?_, hin _⟩
    have tkl : ∀ (a b : List SV), tk a.length (a ++ b) = some a := by
      intro a b
      induction a with
      | nil => rfl
      | cons y a ih => simp [tk, ih]
    rw [Nat.zero_mul, ← hs x]
    exact tkl _ _
  | x :: L, k + 1, h => by
    have := blk_parts d cf s hs hin L k (by simpa using h)
    rw [dp_is] at this ⊢
    have e : (k + 1) * s = (cf x).length + k * s := by rw [hs, Nat.add_mul]; omega
    rw [List.flatMap_cons, e, ← List.drop_drop, List.drop_left]
    exact this
theorem Sy.asT {H : Hp} {G : Gr} {a : Act} {w : World} (A : Sy n T H ks G0 w0 G a w) {α : Type} (d : α) (cf : α → List SV) (s : Nat) (hs : ∀ x, (cf x).length = s) (hin : ∀ x, inL 0 (cf x) = true) (htot : ∀ x, ∃ vs, denL [] (cf x) = some vs) (L : List α) (i : Nat) (hi : lg H i = some (some (.blk (L.flatMap cf)))) : Sy n T (stH H i (some (.lst s L.length fun zz => cf (L.getD zz d)))) ks G0 w0 G a w :=
  A.asList i (f := fun zz => cf (L.getD zz d)) (by rw [lg_is] at hi; exact hi) (.inr ⟨_, rfl, blk_parts d cf s hs hin L⟩) (fun _ _ => rfl) (fun k => htot _)
theorem eff_asT {α : Type} {d : α} {cf : α → List SV} {s : Nat} (hc : (∀ x, (cf x).length = s) ∧ (∀ x, inL 0 (cf x) = true) ∧ (∀ x, ∃ vs, denL [] (cf x) = some vs)) (L : List α) (i : Nat) {H H' : Hp} {ops : Array Oper} {o : Oper} {x : SV} {Tw : List (Nat × SV)} (hi : lg H i = some (some (.blk (L.flatMap cf)))) (h : EffOK P n ops ks G0 w0 Tw (stH H i (some (.lst s L.length fun zz => cf (L.getD zz d)))) o x H') : EffOK P n ops ks G0 w0 Tw H o x H' := fun G a w A => h G a w (A.asT d cf s hc.1 hc.2.1 hc.2.2 L i hi)
end
end Go.Proofs.Ytiglneecmibgmaa
/- A row that a call made and gives away; a row that was given. -/
namespace Go.Proofs.Ytiglneecmibgmaa
open Go.RowKit
set_option linter.unusedVariables false
set_option linter.unusedSimpArgs false
set_option linter.unusedSectionVars false
/-- a row lies in this block, and nobody else has it -/
def Given (e s m : Nat) (f : Nat → List SV) (b cp : Nat) (w : World) : Prop := (∀ k, ∃ vs, denL [] (f k) = some vs ∧ vs.length = s) ∧ ∃ xs, flatV f m = some xs ∧ w.ownsRow 0 e s (.slice (some ⟨b, 0, none⟩) m cp) m xs
section
variable {P : Program} {n : Nat} {ks : List Nat} {G0 : Gr} {w0 : World} {T : List (Nat × SV)} {H : Hp} {G : Gr} {a : Act} {w w' : World}
theorem Sy.giveRow (A : Sy n T H ks G0 w0 G a w) (i t : Nat) {e s m c : Nat} {f : Nat → List SV} {H' : Hp} (hm : 0 < m) (hi : lg H i = some (some (.row e s m c f))) (ht : look T t = some (.sl i m c)) (hH : stH H i none = H') :
    ∃ b cp, Sy n ((t, .sla (some ⟨b, 0, none⟩) m cp) :: T) H' ks G0 w0 G a w ∧ Given e s m f b cp w ∧ (ks.contains b = true ∨ w0.heap.size ≤ b) ∧ (keys H' G).contains b = false := by
  subst hH
  rw [lg_is] at hi
  obtain ⟨h1, h2, xs, h3, h4⟩ := A.mem.ent i _ hi
  have h5 : ∃ L, G[i]? = some (some L) := by
    cases hq : G[i]? with
    | none =>
      rw [hq] at h4
      rcases h4.2 with ⟨_, h⟩ | ⟨g, cap, cur, h, _⟩
      · omega
      · cases h
    | some p =>
      cases p with
      | none =>
        rw [hq] at h4
        rcases h4.2 with ⟨_, h⟩ | ⟨g, cap, cur, h, _⟩
        · omega
        · cases h
      | some L => exact ⟨L, rfl⟩
  obtain ⟨L, hGi⟩ := h5
  rw [hGi] at h2 h4
  have hpre : L.pre = [] := h2 L rfl
  have h4' : w.ownsRow 0 e s (.slice (some ⟨L.b, 0, none⟩) m (c + rm (some L))) m xs := by
    have : (Option.map (fun L : Loc => (⟨L.b, L.pre.length, none⟩ : Addr)) (some L)) = some ⟨L.b, 0, none⟩ := by simp [hpre]
    rw [← this]; exact h4
  have hold : ∀ (j : Nat) (e : Ent), (stH H i none)[j]? = some (some e) → j ≠ i ∧ H[j]? = some (some e) := by
    intro j e h
    rw [stH_is] at h
    by_cases hj : j = i
    · subst hj; rw [List.getElem?_set_self (List.getElem?_eq_some_iff.1 hi).1] at h; cases h
    · rw [List.getElem?_set_ne (Ne.symm hj)] at h; exact ⟨hj, h⟩
  refine ⟨L.b, c + rm (some L), ⟨A.size, A.defers, fun q x hx => ?_, ⟨by rw [stH_is]; simpa using A.mem.len, fun j e he => A.mem.ent j e (hold j e he).2, fun j k e f L' M hjk g1 g2 g3 g4 g5 g6 => A.mem.sep j k e f L' M hjk (hold j e g1).2 (hold k f g2).2 g3 g4 g5 g6⟩, A.pre, fun j e L' g1 g2 g3 => A.own j e L' (hold j e g1).2 g2 g3, A.mix⟩, ⟨h1, xs, h3, h4'⟩, A.own i _ L hi rfl hGi, ?_⟩
  · unfold look at hx
    cases hb : Nat.beq t q with
    | true =>
      rw [hb] at hx; cases hx
      have := Nat.eq_of_beq_eq_true hb
      subst this
      have := A.get t _ ht
      unfold den at this
      rw [hGi] at this
      rw [← this]
      simp [den, hpre]
    | false => rw [hb] at hx; exact A.get q x hx
  · cases hq : (keys (stH H i none) G).contains L.b with
    | false => rfl
    | true =>
      obtain ⟨j, e, L', g1, g2, g3, g4⟩ := mem_keys.1 hq
      obtain ⟨k1, k2⟩ := hold j e g1
      exact absurd g4.symm (A.mem.sep i j _ e L L' (Ne.symm k1) hi k2 rfl hGi g3 (mut_full g2))
/-- a given row gets a place -/
theorem Sy.takeRow (A : Sy n T H ks G0 w0 G a w) (t : Nat) {e s m b cp : Nat} {f : Nat → List SV} (hg : Given e s m f b cp w) (hn : ∀ (i : Nat) (e : Ent) (L : Loc), H[i]? = some (some e) → G[i]? = some (some L) → ¬ e.empty → L.b ≠ b) (ho : w0.heap.size ≤ b) (ht : look T t = some (.sla (some ⟨b, 0, none⟩) m cp)) :
    Sy n ((t, .sl H.length m 0) :: T) (H ++ [some (.row e s m 0 f)]) ks G0 w0 (G ++ [some ⟨b, [], List.replicate cp undef, e⟩]) a w := by
  have hlen := A.mem.len
  obtain ⟨p1, xs, p2, p3⟩ := hg
  have hen : EntOK G w (some ⟨b, [], List.replicate cp undef, e⟩) (.row e s m 0 f) := ⟨p1, fun L hL => by cases hL; rfl, xs, p2, by simpa [rm] using p3⟩
  have hold : ∀ (i : Nat) (x : Ent), (H ++ [some (Ent.row e s m 0 f)])[i]? = some (some x) → (H[i]? = some (some x) ∧ i < H.length) ∨ (i = H.length ∧ x = .row e s m 0 f) := by
    intro i x h
    by_cases hi : i < H.length
    · rw [List.getElem?_append_left hi] at h; exact .inl ⟨h, hi⟩
    · rw [List.getElem?_append_right (by omega)] at h
      have : i - H.length = 0 := by
        cases hq : i - H.length with
        | zero => rfl
        | succ k => rw [hq] at h; simp at h
      rw [this] at h
      simp at h
      exact .inr ⟨by omega, h.symm⟩
  have hG : ∀ i, i < H.length → (G ++ [some (⟨b, [], List.replicate cp undef, e⟩ : Loc)])[i]? = G[i]? := fun i hi => List.getElem?_append_left (by omega)
  have hGn : (G ++ [some (⟨b, [], List.replicate cp undef, e⟩ : Loc)])[H.length]? = some (some ⟨b, [], List.replicate cp undef, e⟩) := by rw [List.getElem?_append_right (by omega), hlen]; simp
  refine ⟨A.size, A.defers, fun q x hx => ?_, ⟨by simp [hlen], ?_, ?_⟩, ?_, ?_, A.mix⟩
  · unfold look at hx
    cases hb : Nat.beq t q with
    | true =>
      rw [hb] at hx; cases hx
      have := Nat.eq_of_beq_eq_true hb
      subst this
      have := A.get t _ ht
      unfold den at this ⊢
      rw [hGn, ← this]
      simp [rm]
    | false => rw [hb] at hx; exact den_mono _ x (A.get q x hx)
  · intro i x h
    rcases hold i x h with ⟨h1, h2⟩ | ⟨rfl, rfl⟩
    · rw [hG i h2]; exact (A.mem.ent i x h1).more _
    · rw [hGn]; exact hen.more _
  · intro i j x y L M hij h1 h2 h3 h4 h5 h6
    rcases hold i x h1 with ⟨k1, k2⟩ | ⟨rfl, rfl⟩
    · rw [hG i k2] at h4
      rcases hold j y h2 with ⟨k3, k4⟩ | ⟨rfl, rfl⟩
      · rw [hG j k4] at h5; exact A.mem.sep i j x y L M hij k1 k3 h3 h4 h5 h6
      · rw [hGn] at h5; cases h5; exact hn i x L k1 h4 (mut_full h3)
    · rw [hGn] at h4; cases h4
      rcases hold j y h2 with ⟨k3, k4⟩ | ⟨rfl, rfl⟩
      · rw [hG j k4] at h5; exact fun z => hn j y M k3 h5 h6 z.symm
      · exact absurd rfl hij
  · obtain ⟨F, hF⟩ := A.pre; exact ⟨F ++ [some ⟨b, [], List.replicate cp undef, e⟩], by rw [hF, List.append_assoc]⟩
  · intro i x L h1 h2 h3
    rcases hold i x h1 with ⟨k1, k2⟩ | ⟨rfl, rfl⟩
    · rw [hG i k2] at h3; exact A.own i x L k1 h2 h3
    · rw [hGn] at h3; cases h3; exact .inr ho
/-- cells that lie at an address, as a list that is read -/
theorem Sy.adoptL (A : Sy n T H ks G0 w0 G a w) {α : Type} (d : α) (cf : α → List SV) (s : Nat) (hs : ∀ x, (cf x).length = s) (hin : ∀ x, inL 0 (cf x) = true) (htot : ∀ x, ∃ vs, denL [] (cf x) = some vs) (R : List α) {b cp : Nat} {vs : List Value} (h0 : Lies b 0 vs w0 ks) (hv : denL [] (R.flatMap cf) = some vs) (t : Nat) (hx : look T t = some (.sla (some ⟨b, 0, none⟩) R.length cp)) :
    Sy n ((t, .sl H.length R.length cp) :: T) (H ++ [some (.lst s R.length fun zz => cf (R.getD zz d))]) ks G0 w0 (G ++ [some ⟨b, [], [], 0⟩]) a w := by
  have hl := h0.go A.mix (ks' := ks) fun b hb => .inl hb
  have hlen := A.mem.len
  have hG : (G ++ [some (⟨b, [], [], 0⟩ : Loc)])[H.length]? = some (some ⟨b, [], [], 0⟩) := by rw [List.getElem?_append_right (by omega), hlen]; simp
  have hold : ∀ (i : Nat) (e : Ent), (H ++ [some (Ent.lst s R.length fun zz => cf (R.getD zz d))])[i]? = some (some e) → (H[i]? = some (some e) ∧ i < H.length) ∨ (i = H.length ∧ e = .lst s R.length fun zz => cf (R.getD zz d)) := by
    intro i e h
    by_cases hi : i < H.length
    · rw [List.getElem?_append_left hi] at h; exact .inl ⟨h, hi⟩
    · rw [List.getElem?_append_right (by omega)] at h
      have : i - H.length = 0 := by
        cases hq : i - H.length with
        | zero => rfl
        | succ k => rw [hq] at h; simp at h
      rw [this] at h
      simp at h
      exact .inr ⟨by omega, h.symm⟩
  have hGl : ∀ i, i < H.length → (G ++ [some (⟨b, [], [], 0⟩ : Loc)])[i]? = G[i]? := fun i hi => List.getElem?_append_left (by omega)
  refine ⟨A.size, A.defers, fun q z hz => ?_, ⟨by simp [hlen], ?_, ?_⟩, ?_, ?_, A.mix⟩
  · unfold look at hz
    cases hb : Nat.beq t q with
    | true =>
      rw [hb] at hz; cases hz
      have := Nat.eq_of_beq_eq_true hb
      subst this
      have h1 := A.get t _ hx
      unfold den at h1 ⊢
      rw [hG, ← h1]
      simp [rm]
    | false => rw [hb] at hz; exact den_mono _ z (A.get q z hz)
  · intro i e h
    rcases hold i e h with ⟨h1, h2⟩ | ⟨rfl, rfl⟩
    · rw [hGl i h2]; exact (A.mem.ent i e h1).more _
    · rw [hG]
      refine ⟨fun k => htot _, .inr ⟨_, rfl, hl.1, fun k hk => ?_⟩⟩
      obtain ⟨r1, r2⟩ := blk_parts d cf s hs hin R k hk
      obtain ⟨r3, r4⟩ := tk_is r1
      rw [dp_is] at r3 r4
      have hd : denL [] (cf (R.getD k d)) = some ((vs.drop (k * s)).take s) := by rw [r3]; exact denL_take s (denL_drop _ hv)
      refine ⟨_, hd, fun q v hq => ?_⟩
      have hq' : vs[k * s + q]? = some v := by
        rw [List.getElem?_take] at hq
        split at hq
        · rw [List.getElem?_drop] at hq; exact hq
        · cases hq
      have := hl.2.2 (k * s + q) v hq'
      simpa using this
  · intro i j e f L M hij h1 h2 h3 h4 h5 h6
    rcases hold i e h1 with ⟨k1, k2⟩ | ⟨rfl, rfl⟩
    · rw [hGl i k2] at h4
      rcases hold j f h2 with ⟨k3, k4⟩ | ⟨rfl, rfl⟩
      · rw [hGl j k4] at h5; exact A.mem.sep i j e f L M hij k1 k3 h3 h4 h5 h6
      · rw [hG] at h5
        cases h5
        intro hLM
        rcases A.own i e L k1 h3 h4 with h7 | h7
        · rw [hLM] at h7; simp only at h7; rw [h0.2.1] at h7; cases h7
        · rw [hLM] at h7; simp only at h7; have := h0.1; omega
    · cases h3
  · obtain ⟨F, hF⟩ := A.pre; exact ⟨F ++ [some ⟨b, [], [], 0⟩], by rw [hF, List.append_assoc]⟩
  · intro i e L h1 h2 h3
    rcases hold i e h1 with ⟨k1, k2⟩ | ⟨rfl, rfl⟩
    · rw [hGl i k2] at h3; exact A.own i e L k1 h2 h3
    · cases h2
end
section
variable {P : Program} {n : Nat} {ks : List Nat} {G0 : Gr} {w0 : World} {T : List (Nat × SV)} {H : Hp} {G : Gr} {a : Act} {w w' : World} {Q : Exit → Act → World → Prop} {K : List Fr} {ops : Array Oper} {o : Oper} {rest : List Oper}
/-- a call that gives a row -/
theorem CALLROW {β : Type} {e s m t f : Nat} {F : β → Nat → List SV} {R : β → Nat → World → World → Prop} (hf : FnR P f [] [] (fun x w w' => ∃ (L : β) (b cp : Nat), x = .sla (some ⟨b, 0, none⟩) m cp ∧ R L b w w' ∧ w.heap.size ≤ b ∧ Given e s m (F L) b cp w')) (A : Sy n T H ks G0 w0 G a w) (hd : o.dst = some t) (h1 : callS n ops T o = some (f, []))
    (k : ∀ L b cp a' w' G', R L b w w' → w.heap.size ≤ b → (∀ k, (keys (H ++ [some (.row e s m 0 (F L))]) G').contains k = true → k < w.heap.size ∨ k = b) → Sy n ((t, .sl H.length m 0) :: extS T o.dst (.sla (some ⟨b, 0, none⟩) m cp)) (H ++ [some (.row e s m 0 (F L))]) ks G0 w0 G' a' w' → Goal P Q K (.ops ops rest) a' w') : Goal P Q K (.ops ops (o :: rest)) a w := by
  refine CALLR [] hf A h1 rfl rfl rfl rfl fun x a' w' hJ hk A' => ?_
  obtain ⟨L, b, cp, rfl, hR, hlo, hg⟩ := hJ
  have hl : look (extS T o.dst (.sla (some ⟨b, 0, none⟩) m cp)) t = some (.sla (some ⟨b, 0, none⟩) m cp) := by rw [hd]; simp [extS, look, Nat.beq_refl]
  have A2 := A'.takeRow t hg (fun i e L q1 q2 q3 => by
    have := A.mem.ent i e q1
    rw [q2] at this
    have := EntOK.lt this q3
    omega) (Nat.le_trans A.mix.size hlo) hl
  refine k L b cp a' w' _ hR hlo (fun k hk' => ?_) A2
  obtain ⟨i, e', M, q1, q2, q3, q4⟩ := mem_keys.1 hk'
  have hlen := A.mem.len
  by_cases hi : i < H.length
  · rw [List.getElem?_append_left hi] at q1
    rw [List.getElem?_append_left (by omega)] at q3
    exact .inl (hk k (mem_keys.2 ⟨i, e', M, q1, q2, q3, q4⟩))
  · right
    have hi2 : i = G.length := by
      have := (List.getElem?_eq_some_iff.1 q3).1
      simp at this
      omega
    subst hi2
    rw [List.getElem?_append_right (Nat.le_refl _)] at q3
    simp at q3
    rw [← q4, ← q3]
end
end Go.Proofs.Ytiglneecmibgmaa
/- Rows by their addresses: what is appended to them, functions that turn one block; slices held against nil, min and max. -/
namespace Go.Proofs.Ytiglneecmibgmaa
open Go.RowKit
set_option linter.unusedVariables false
set_option linter.unusedSimpArgs false
set_option linter.unusedSectionVars false

/-- an append: the old row stays as it was -/
theorem run_append_fine {P : Program} (w : World) (base : Nat) (t ty e : TypeId) (i : TypeInfo) (z : Value) (size bytes : Nat) (ht : P.underlying t = some (.slice e)) (hi : P.info? e = some i) (hz : i.zero = some z)
    (hsize : i.size = size) (hby : i.bytes = bytes) (hzs : z.cells.size = size) (hsz : 0 < size)
    (v : Value) (n : Nat) (xs : List Value) (hown : w.ownsRow base e size v n xs)
    (a : Addr) (m c : Nat) (news : List Value) (hl : news.length = m * size) (hnews : ∀ j u, news[j]? = some u → w.cell? (a.add j) = some u) (h1 : ∀ u ∈ news, u.oneCell' = true)
    (h63 : n + m ≤ maxLen) (hbytes : (n + m) * bytes ≤ 140737488355328) (hbase : base ≤ w.heap.size) :
    ∃ v' w', (Builtin.append_ #[t, t] ty #[v, .slice (some a) m c]).run P w = .ok v' w' ∧ w'.ownsRow base e size v' (n + m) (xs ++ news) ∧ w.grownBy w' v.ownBlock ∧
      w'.ownsRow base e size v n xs ∧ (v'.ownBlock = v.ownBlock ∨ v'.ownBlock = some w.heap.size) := by
  subst hsize
  subst hby
  have hsmall : n + m ≤ 9223372036854775807 := by simp only [maxLen] at h63; omega
  have hlen : (xs ++ news).length = (n + m) * i.size := by rw [List.length_append, hown.1, hl, Nat.add_mul]
  have grown : ∀ (old : Nat), old < n + m → ∀ (row : Option Nat),
      (w.drew.alloc (.cells (xs.toArray ++ news.toArray ++ Builtin.zeroCells z.cells (grownCap w (n + m) old e - (n + m))) e)).ownsRow base e i.size
        (.slice (some ⟨w.heap.size, 0, none⟩) (n + m) (grownCap w (n + m) old e)) (n + m) (xs ++ news) ∧
      w.grownBy (w.drew.alloc (.cells (xs.toArray ++ news.toArray ++ Builtin.zeroCells z.cells (grownCap w (n + m) old e - (n + m))) e)) row := by
    intro old ho row
    have hge := grownCap_ge w (n + m) old e
    have hcm : grownCap w (n + m) old e ≤ maxLen := grownCap_le_maxLen w (n + m) old e h63
    refine ⟨⟨hlen, .inr ⟨w.heap.size, _, _, rfl, hbase, heap_alloc_new w.drew _, hge, hcm, ?_, ?_⟩⟩, ⟨rfl, rfl, rfl, by simp, fun k hk _ => _root_.Go.heap_alloc_old w.drew _ hk⟩⟩
    · simp only [Array.size_append, List.size_toArray, size_zeroCells, hzs, hown.1, hl, ← Nat.add_mul]
      congr 1
      omega
    · simp only [Array.toList_append, List.append_assoc]
      rw [← List.append_assoc, ← hlen]
      exact List.take_left
  have hkeep : ∀ (w' : World), (∀ k, k < w.heap.size → w'.heap[k]? = w.heap[k]?) → w'.ownsRow base e i.size v n xs := fun w' hw => own_keep hown fun k hk => hw k (own_lt hown k hk).2
  rcases hown.2 with ⟨rfl, rfl⟩ | ⟨g, cap, cur, rfl, hbg, hg, hnc, hcm, hcs, htake⟩
  · have hx : xs = [] := List.eq_nil_of_length_eq_zero (by simpa using hown.1)
    subst hx
    by_cases hm : m = 0
    · subst hm
      have hn : news = [] := List.eq_nil_of_length_eq_zero (by simpa using hl)
      subst hn
      refine ⟨.slice none 0 0, w, ?_, World.ownsRow_nil w base e i.size, ⟨rfl, rfl, rfl, Nat.le_refl _, fun _ _ _ => rfl⟩, hown, Or.inl rfl⟩
      simp [Builtin.append_, run_underlying ht, sizeOf, typeInfo, hi, Builtin.lenOf, Builtin.firstCells, loadCells, loadCellsFrom]
    · have hr := run_append_nil (P := P) w t ty e i z ht hi hz a m c news hl hnews (by omega) (by omega) (by have hb := hbytes; simp only [Nat.zero_add] at hb; omega)
      have hgr := grown 0 (by omega) (Value.ownBlock (.slice none 0 0))
      simp only [Nat.zero_add, List.nil_append, Array.empty_append] at hgr ⊢
      exact ⟨_, _, hr, hgr.1, hgr.2, World.ownsRow_nil _ _ _ _, Or.inr rfl⟩
  · by_cases hroom : n + m ≤ cap
    · have hfit : n * i.size + news.length ≤ cur.size := by rw [hl, hcs, ← Nat.add_mul]; exact Nat.mul_le_mul_right _ hroom
      have hr := run_append_room (P := P) w t ty e i ht hi g n cap cur hg a m c news hl hnews h1 hroom hfit
      have hsz' : (cur.toList.take (n * i.size) ++ news ++ cur.toList.drop (n * i.size + news.length)).toArray.size = cap * i.size := by
        simp only [List.size_toArray, List.length_append, List.length_take, List.length_drop, Array.length_toList]
        omega
      refine ⟨_, _, hr, ⟨hlen, .inr ⟨g, cap, _, rfl, hbg, setRow_heap w g cur _ e _ hg, hroom, hcm, hsz', ?_⟩⟩, ⟨rfl, rfl, rfl, by simp, fun k _ hk => setRow_other w g k _ (fun e => hk (by simp [Value.ownBlock, e]))⟩, ⟨hown.1, .inr ⟨g, cap, _, rfl, hbg, setRow_heap w g cur _ e _ hg, hnc, hcm, hsz', ?_⟩⟩, Or.inl rfl⟩
      · rw [htake, ← hlen]
        exact List.take_left
      · rw [htake, ← hown.1, List.append_assoc]
        exact List.take_left
    · have holds : ∀ j u, xs[j]? = some u → w.cell? ((⟨g, 0, none⟩ : Addr).add j) = some u := hown.cells (g := g) rfl
      have hr := run_append_grow (P := P) w t ty e i z ht hi hz ⟨g, 0, none⟩ n cap xs hown.1 holds a m c news hl hnews (by omega) (by omega) (growslice_fits (by omega) hbytes)
      have hgr := grown cap (by omega) (Value.ownBlock (.slice (some ⟨g, 0, none⟩) n cap))
      exact ⟨_, _, hr, hgr.1, hgr.2, hkeep _ fun k hk => _root_.Go.heap_alloc_old w.drew _ hk, Or.inr rfl⟩

/-- the block of a slice that is known by its address -/
def bl : Option Addr → List Nat
  | some a => [a.block]
  | none => []
/-- a row at an address -/
abbrev Ro (e : Nat) (w : World) (ao : Option Addr) (n cp : Nat) (xs : List Value) : Prop := w.ownsRow 0 e 1 (.slice ao n cp) n xs
theorem bl_own {ao : Option Addr} {n cp k : Nat} : (bl ao).contains k = true ↔ (Value.slice ao n cp).ownBlock = some k := by
  cases ao with
  | none => simp [bl, Value.ownBlock]
  | some a => simp [bl, Value.ownBlock]; exact ⟨fun h => h.symm, fun h => h.symm⟩
theorem Ro.lt {e : Nat} {w : World} {ao : Option Addr} {n cp : Nat} {xs : List Value} (h : Ro e w ao n cp xs) {k : Nat} (hk : (bl ao).contains k = true) : k < w.heap.size := (own_lt h k (bl_own.1 hk)).2
theorem Ro.len {e : Nat} {w : World} {ao : Option Addr} {n cp : Nat} {xs : List Value} (h : Ro e w ao n cp xs) : xs.length = n := by simpa using h.1
theorem Ro.mix {e : Nat} {w w' : World} {ao : Option Addr} {n cp : Nat} {xs : List Value} {ks : List Nat} (h : Ro e w ao n cp xs) (m : Mix ks w w') (hk : ∀ k, (bl ao).contains k = true → ks.contains k = false) : Ro e w' ao n cp xs :=
  own_mix h m fun k hv => hk k (bl_own.2 hv)
theorem Ro.addr {e : Nat} {w : World} {ao : Option Addr} {n cp : Nat} {xs : List Value} (h : Ro e w ao n cp xs) : (ao = none ∧ n = 0 ∧ cp = 0) ∨ ∃ b, ao = some ⟨b, 0, none⟩ := by
  rcases h.2 with ⟨h1, h2⟩ | ⟨g, cap, cur, h1, _⟩
  · cases h1; exact .inl ⟨rfl, rfl, rfl⟩
  · cases h1; exact .inr ⟨g, rfl⟩
theorem Ro.cell {e : Nat} {w : World} {b n cp : Nat} {xs : List Value} (h : Ro e w (some ⟨b, 0, none⟩) n cp xs) : ∀ j u, xs[j]? = some u → w.cell? ((⟨b, 0, none⟩ : Addr).add j) = some u := h.cells (g := b) rfl
/-- the cells of such a row lie there -/
theorem Ro.range {e : Nat} {w : World} {b n cp : Nat} {xs : List Value} (h : Ro e w (some ⟨b, 0, none⟩) n cp xs) : w.rangeAt b 0 xs := fun j u hu => by
  have := h.cell j u hu
  rw [Addr.add_mid, Nat.zero_add] at this; simpa using this
/-- a shorter row, of the same block -/
theorem Ro.cut {e : Nat} {w : World} {ao : Option Addr} {n m cp : Nat} {xs ys : List Value} (h : Ro e w ao n cp (xs ++ ys)) (hm : xs.length = m) (h0 : m ≤ n) (hn : ao ≠ none) : Ro e w ao m cp xs := by
  obtain ⟨h1, h2⟩ := h
  refine ⟨by simpa using hm, ?_⟩
  rcases h2 with ⟨q1, q2⟩ | ⟨g, cap, cur, q1, q2, q3, q4, q5, q6, q7⟩
  · cases q1; exact absurd rfl hn
  · cases q1
    refine .inr ⟨g, _, cur, rfl, q2, q3, by omega, q5, q6, ?_⟩
    rw [Nat.mul_one] at q7 ⊢
    have := congrArg (List.take m) q7
    rw [List.take_take, Nat.min_eq_left h0] at this
    rw [this, ← hm]; simp

section
variable {P : Program} {X : Tx} {n : Nat} {ks : List Nat} {G0 : Gr} {w0 : World} {T : List (Nat × SV)} {H : Hp} {G : Gr} {a : Act} {w w' : World} {ops : Array Oper} {o : Oper} {rest : List Oper} {Q : Exit → Act → World → Prop} {K : List Fr}
/-- blocks that are known are none of these -/
def Off (H : Hp) (G : Gr) (ks : List Nat) : Prop := ∀ (i : Nat) (e : Ent) (L : Loc), H[i]? = some (some e) → G[i]? = some (some L) → ¬ e.empty → ks.contains L.b = false
theorem Sy.mixed (A : Sy n T H ks G0 w0 G a w) {ks' : List Nat} (m : Mix ks' w w') (hoff : Off H G ks') (hk : ∀ b, ks'.contains b = true → ks.contains b = true ∨ w0.heap.size ≤ b) : Sy n T H ks G0 w0 G a w' := by
  refine ⟨A.size, A.defers, A.get, ⟨A.mem.len, fun i e h => (A.mem.ent i e h).mix m (fun hne L hL => hoff i e L h ?_ hne), A.mem.sep⟩, A.pre, A.own, A.mix.mix m fun k hl hc => ?_⟩
  · cases hq : G[i]? with
    | none => rw [hq] at hL; cases hL
    | some p => rw [hq] at hL; simp at hL; rw [hL]
  · cases hz : ks'.contains k with
    | false => rfl
    | true =>
      rcases hk k hz with h | h
      · rw [h] at hc; cases hc
      · omega
theorem grown_mix {ao : Option Addr} {nn cp : Nat} (h : w.grownBy w' (Value.slice ao nn cp).ownBlock) : Mix (bl ao) w w' :=
  ⟨h.os, h.tape, h.output, h.size, fun k hk hc => h.block k hk fun e => by rw [bl_own.2 e.symm] at hc; cases hc⟩
/-- an append onto a row at an address -/
theorem APW {Y : Tb} {x y : Operand} {t e b nn cp m c : Nat} {ti : TI} {ao : Option Addr} {sy : SV} {ad : Addr} {xs news : List Value} (hX : Y.ok P = true) (A : Sy n T H ks G0 w0 G a w) (hg : guardS ops T o.guard = some .run) (hd : fitsD n o.dst = true) (hop : o.op = .call { callee := .builtin .append, args := #[x, y], argTypes := #[t, t] })
    (hx : evS T x = some (.sla ao nn cp)) (hy : evS T y = some sy) (hti : Y.get t = some ti) (hel : ti.elm = some (e, 1, b)) (hb : Nat.ble b 10000 = true) (hro : Ro e w ao nn cp xs) (hsy : den G sy = some (.slice (some ad) m c)) (hl : news.length = m)
    (hnews : ∀ j u, news[j]? = some u → w.cell? (ad.add j) = some u) (h1 : ∀ u ∈ news, u.oneCell' = true) (hnn : nn ≤ 1000000) (hm : m ≤ 1000000) (hoff : Off H G (bl ao)) (hk : ∀ b, (bl ao).contains b = true → ks.contains b = true ∨ w0.heap.size ≤ b)
    (k : ∀ {a w'} ao' cp', Ro e w' ao' (nn + m) cp' (xs ++ news) → Ro e w' ao nn cp xs → Mix (bl ao) w w' → (bl ao' = bl ao ∨ bl ao' = [w.heap.size]) → Sy n (extS T o.dst (.sla ao' (nn + m) cp')) H ks G0 w0 G a w' → Goal P Q K (.ops ops rest) a w') : Goal P Q K (.ops ops (o :: rest)) a w := by
  have hw := gd_run (gd := none) A hg
  obtain ⟨d, op, ty, pos, af, gd⟩ := o
  simp only at hop
  subst hop
  obtain ⟨ie, z, f1, f2, f3, f4, f5, f6, f7⟩ := elem_facts (ti_elm (i := ti) (Tb.at (X := Y) hX hti) hel)
  have hvx := A.ev hx
  have hvy := A.ev hy
  unfold den at hvx
  simp only [Option.some.injEq] at hvx
  rw [hsy] at hvy
  have hvy := Option.some.inj hvy
  have hby := Nat.le_of_ble_eq_true hb
  have hmul : (nn + m) * b ≤ 2000000 * 10000 := Nat.mul_le_mul (by omega) hby
  obtain ⟨v', w', hr, k1, k2, k3, k4⟩ := run_append_fine (P := P) w 0 t ty e ie z 1 b f1 f2 f3 f4 f5 f6 f7 _ nn xs hro ad m c news (by omega) hnews h1 (by simp only [maxLen]; omega) (by omega) (Nat.zero_le _)
  obtain ⟨p', o1, o2, o3⟩ := own_split k1
  refine q_does (Q := wpK P Q K) (does_val (v := v') (w' := w') hw ?_ ?_)
  · unfold execOp
    simp only [resolve, invoke, builtin, Sem.run_bind, Sem.run_pure, Result.andThen_ok, List.map_toArray, List.map_cons, List.map_nil, ← hvx, ← hvy, hr]
  · subst o1
    have hM := grown_mix k2
    refine k _ _ k1 k3 hM ?_ (Sy.put (A.mixed hM hoff hk) hd (by rfl))
    rcases k4 with k4 | k4
    · left
      cases p' with
      | none => cases ao with
        | none => rfl
        | some a' => simp [Value.ownBlock] at k4
      | some L => cases ao with
        | none => simp [Value.ownBlock] at k4
        | some a' => simp [Value.ownBlock] at k4; simp [bl, k4]
    · right
      cases p' with
      | none => simp [Value.ownBlock] at k4
      | some L => simp [Value.ownBlock] at k4; simp [bl, k4]
/-- a slice held against nil -/
theorem NILQ {x y : Operand} {t rt : Nat} {ao : Option Addr} {nn cp : Nat} (A : Sy n T H ks G0 w0 G a w) (hg : guardS ops T o.guard = some .run) (hd : fitsD n o.dst = true) (hop : o.op = .binOp .eql t x y rt) (hx : evS T x = some (.sla ao nn cp)) (hy : evS T y = some (.sla none 0 0)) {e : Nat} (ht : P.underlying t = some (.slice e)) {r : SV} (hr : den [] r = some (.bool ao.isNone))
    (k : ∀ {a}, Sy n (extS T o.dst r) H ks G0 w0 G a w → Goal P Q K (.ops ops rest) a w) : Goal P Q K (.ops ops (o :: rest)) a w := by
  have hw := gd_run (gd := none) A hg
  obtain ⟨d, op, ty, pos, af, gd⟩ := o
  simp only at hop
  subst hop
  have hvx := A.ev hx
  have hvy := A.ev hy
  unfold den at hvx hvy
  simp only [Option.some.injEq] at hvx hvy
  exact q_does (Q := wpK P Q K) (d_bin (u := .slice ao nn cp) (v := .slice none 0 0) hw hvx.symm hvy.symm ⟨by simp [eqGuard], Lib.run_eql_slice_nil w t e ao nn cp 0 0 ht⟩ (k (Sy.put A hd (by simpa using den_mono G r hr))))
/-- what is built is a row at an address -/
theorem BSR {t m : Nat} {Y : Tb} (cs : List SV) {vs : List Value} (hX : Y.ok P = true) (A : Sy n T H ks G0 w0 G a w) (h : xop ⟨Y, true⟩ T H none o.op = some (.new t (.blk cs) (.sl H.length m m))) (hc : denL [] cs = some vs) (hg : guardS ops T o.guard = some .run) (hd : fitsD n o.dst = true) (hm : m ≤ 1000000) (hvs : vs.length = m)
    (k : ∀ {a w'} b, b = w.heap.size → Grow w w' → Ro t w' (some ⟨b, 0, none⟩) m m vs → Sy n (extS T o.dst (.sla (some ⟨b, 0, none⟩) m m)) H ks G0 w0 G a w' → Goal P Q K (.ops ops rest) a w') : Goal P Q K (.ops ops (o :: rest)) a w := by
  refine q_does (Q := wpK P Q K) ?_
  refine xop_new hX A h (gd_run (gd := none) A hg) fun g w' v hg' hgr hen hmu hv => ?_
  have hlast : (G ++ [some (⟨g, [], [], t⟩ : Loc)])[H.length]? = some (some ⟨g, [], [], t⟩) := by rw [List.getElem?_append_right (by rw [A.mem.len]; exact Nat.le_refl _), A.mem.len]; simp
  have hv' : v = .slice (some ⟨g, 0, none⟩) m m := by
    unfold den at hv
    rw [hlast] at hv
    simp [rm] at hv
    exact hv.symm
  subst hv'
  obtain ⟨L, us, e1, e2, e3⟩ := hen
  cases e1
  have h4 : denL G cs = some vs := by simpa using denL_mono G cs hc
  rw [h4] at e2
  cases e2
  have e4 : Blk w' g vs.toArray t := by simpa only [List.nil_append, List.append_nil] using e3
  refine k g hg' hgr ⟨by simpa using hvs, .inr ⟨g, m, vs.toArray, rfl, Nat.zero_le _, e4, Nat.le_refl _, by simp only [maxLen]; omega, by simp [hvs], by rw [Nat.mul_one, ← hvs]; simp⟩⟩ (Sy.put (A.grew hgr) hd (by rfl))
/-- the smaller, the greater of two numbers -/
theorem MINI {x y : Operand} {ats : Array TypeId} {p q : Int} (A : Sy n T H ks G0 w0 G a w) (hg : guardS ops T o.guard = some .run) (hd : fitsD n o.dst = true) (hop : o.op = .call { callee := .builtin .min, args := #[x, y], argTypes := ats }) (hx : evS T x = some (.int .i64 p)) (hy : evS T y = some (.int .i64 q))
    (k : ∀ {a}, Sy n (extS T o.dst (.int .i64 (min p q))) H ks G0 w0 G a w → Goal P Q K (.ops ops rest) a w) : Goal P Q K (.ops ops (o :: rest)) a w := by
  have hw := gd_run (gd := none) A hg
  obtain ⟨d, op, ty, pos, af, gd⟩ := o
  simp only at hop
  subst hop
  have hvx := A.ev hx
  have hvy := A.ev hy
  unfold den at hvx hvy
  simp only [Option.some.injEq] at hvx hvy
  refine q_does (Q := wpK P Q K) (does_val (v := .int .i64 (min p q)) (w' := w) hw ?_ (k (Sy.put A hd (by rfl))))
  have e : (if q < p then q else p) = min p q := by split <;> omega
  unfold execOp
  simp [resolve, invoke, builtin, ← hvx, ← hvy, Builtin.min_, Builtin.min2, e]
theorem MAXI {x y : Operand} {ats : Array TypeId} {p q : Int} (A : Sy n T H ks G0 w0 G a w) (hg : guardS ops T o.guard = some .run) (hd : fitsD n o.dst = true) (hop : o.op = .call { callee := .builtin .max, args := #[x, y], argTypes := ats }) (hx : evS T x = some (.int .i64 p)) (hy : evS T y = some (.int .i64 q))
    (k : ∀ {a}, Sy n (extS T o.dst (.int .i64 (max p q))) H ks G0 w0 G a w → Goal P Q K (.ops ops rest) a w) : Goal P Q K (.ops ops (o :: rest)) a w := by
  have hw := gd_run (gd := none) A hg
  obtain ⟨d, op, ty, pos, af, gd⟩ := o
  simp only at hop
  subst hop
  have hvx := A.ev hx
  have hvy := A.ev hy
  unfold den at hvx hvy
  simp only [Option.some.injEq] at hvx hvy
  refine q_does (Q := wpK P Q K) (does_val (v := .int .i64 (max p q)) (w' := w) hw ?_ (k (Sy.put A hd (by rfl))))
  have e : (if p < q then q else p) = max p q := by split <;> omega
  unfold execOp
  simp [resolve, invoke, builtin, ← hvx, ← hvy, Builtin.max_, Builtin.max2, e]
end
/-- a function that reads what it is handed in H, and turns these blocks alone; what it yields is closed -/
def FnW (P : Program) (f : Nat) (args : List SV) (H : Hp) (ks : List Nat) (pre : World → Prop) (J : SV → World → World → Prop) : Prop :=
  Ent_ P f = some (false, false) ∧ (∀ (i : Nat) (e : Ent), H[i]? = some (some e) → e.mut = false) ∧ ∀ G w vs, Mem H G w → Off H G ks → pre w → denL G args = some vs → Calls P f vs.toArray w fun e w' => ∃ x v, den [] x = some v ∧ e = .returned v ∧ Mix ks w w' ∧ J x w w'
section
variable {P : Program} {n : Nat} {ks : List Nat} {G0 : Gr} {w0 : World} {T : List (Nat × SV)} {H : Hp} {G : Gr} {a : Act} {w : World} {Q : Exit → Act → World → Prop} {K : List Fr} {pos : Pos} {ops : Array Oper} {o : Oper} {rest : List Oper} {pre : World → Prop}
theorem enterW {f : Nat} {fn : Func} {c : Code} {args : List SV} {J : SV → World → World → Prop} (hent : Ent_ P f = some (false, false)) (hf : P.funcs[f]? = some fn) (hb : fn.body = some c) (hn : fn.ntmps = n) (hl : Nat.ble args.length n = true) (hro : ∀ (i : Nat) (e : Ent), H[i]? = some (some e) → e.mut = false)
    (h : ∀ G w a, H.length = G.length → Off H G ks → pre w → Sy n (argS args 0) H ks G w G a w → Goal P (bodyPost P fn fun e w' => ∃ x v, den [] x = some v ∧ e = .returned v ∧ Mix ks w w' ∧ J x w w') [] (.code c) a w) : FnW P f args H ks pre J := by
  refine ⟨hent, hro, fun G w vs hM ho hp hv => ?_⟩
  refine calls_of_wp hf hb (h G w _ hM.len ho hp ⟨?_, rfl, fun t x hx => ?_, hM, ⟨[], by simp⟩, fun i e L h1 h2 h3 => (by rw [hro i e h1] at h2; cases h2), Mix.refl _ _⟩)
  · have := denL_len hv
    have := Nat.le_of_ble_eq_true hl
    simp [hn]; omega
  · obtain ⟨_, h2⟩ := argS_look hx
    simp only [Nat.sub_zero] at h2
    obtain ⟨v, h3, h4⟩ := denL_get hv h2
    have hlt : t < vs.length := (List.getElem?_eq_some_iff.1 h3).1
    rw [h4]
    simp [Array.getD_eq_getD_getElem?, Array.getElem?_append, hlt] at h3 ⊢
    exact h3.symm
theorem RETW {Y : Tb} {fn : Func} {J : SV → World → World → Prop} (hX : Y.ok P = true) {y : SV} {r : List SV} {rv : List ResultVar} {v' : Value} (A : Sy n T H ks G0 w0 G a w) (hr : fn.results.toList = rv) (hv : resS ⟨Y, false⟩ T H rv = some r) (hy : oneS r = y) (hc : den [] y = some v') (hJ : J y w0 w) : bodyPost P fn (fun e w' => ∃ x v, den [] x = some v ∧ e = .returned v ∧ Mix ks w0 w' ∧ J x w0 w') .ret a w := by
  obtain ⟨v, h1, h2⟩ := res_run (X := ⟨Y, false⟩) (fn := fn) hX A hr hv hy
  have h3 : den G y = some v' := by simpa using den_mono G y hc
  rw [h3] at h1
  cases h1
  exact ⟨A.defers, v', h2, y, v', hc, rfl, A.mix, hJ⟩
theorem CALLW {f : Nat} {args az : List SV} {H' l : Hp} {ks' : List Nat} {J : SV → World → World → Prop} (m : List Nat) (hf : FnW P f args H' ks' pre J) (A : Sy n T H ks G0 w0 G a w) (hp : pre w) (hoff : Off H G ks') (hk : ∀ b, ks'.contains b = true → ks.contains b = true ∨ w0.heap.size ≤ b) (h1 : callS n ops T o = some (f, az)) (h2 : renL m args = some az) (h3 : renH m H' = some l) (h4 : pickH H m = some l) (h5 : ndB m = true)
    (k : ∀ {x a' w'}, Mix ks' w w' → J x w w' → Sy n (extS T o.dst x) H ks G0 w0 G a' w' → Goal P Q K (.ops ops rest) a' w') : Goal P Q K (.ops ops (o :: rest)) a w := by
  obtain ⟨hd, us, hu, hdo⟩ := callS_do (P := P) (ops := ops) A h1 hf.1
  obtain ⟨p1, p2, p3⟩ := pickH_at h4
  obtain ⟨r1, r2⟩ := renH_at h3
  have hm : ∀ j ∈ m, j < G.length := fun j hj => by rw [← A.mem.len]; exact p2 j hj
  have hM := A.mem.sub h4 h3 h5
  have hv' : denL (pickG m G) args = some us := by rw [denL_ren hm args h2]; exact hu
  have ho' : Off H' (pickG m G) ks' := fun i e L q1 q2 q3 => by
    obtain ⟨f, s1, s2⟩ := r2 i _ q1
    obtain ⟨f', rfl⟩ := renE_some s2
    have hi : i < m.length := by rw [← p1]; exact (List.getElem?_eq_some_iff.1 s1).1
    have hj : m[i]? = some m[i] := by simp [hi]
    rw [pickG_at hm hj] at q2
    rw [p3 i _ hj] at s1
    exact hoff _ f' L s1 q2 fun h => q3 ((renE_mut s2).2.1 h)
  refine q_does (Q := wpK P Q K) (hdo (hf.2.2 _ w us hM ho' hp hv') fun e w' he => ?_)
  obtain ⟨x, v, e1, rfl, hg, hJ⟩ := he
  exact ⟨v, rfl, k hg hJ (Sy.put (A.mixed hg hoff hk) hd (by simpa using den_mono G x e1))⟩
/-- mutable blocks, and lists that are read -/
theorem off_of {ks' : List Nat} (A : Sy n T H ks G0 w0 G a w) (h1 : ∀ b, ks'.contains b = true → (keys H G).contains b = false) (h2 : ∀ (i : Nat) (e : Ent) (L : Loc), H[i]? = some (some e) → e.mut = false → G[i]? = some (some L) → ¬ e.empty → ks'.contains L.b = false) : Off H G ks' := fun i e L q1 q2 q3 => by
  cases hm : e.mut with
  | false => exact h2 i e L q1 hm q2 q3
  | true =>
    cases hz : ks'.contains L.b with
    | false => rfl
    | true =>
      have := h1 _ hz
      rw [mem_keys.2 ⟨i, e, L, q1, hm, q2, rfl⟩] at this; cases this
theorem Off.nil : Off H G [] := fun _ _ _ _ _ _ => rfl
/-- blocks that are known now: they were, or are new -/
theorem Off.one {b : Nat} (A : Sy n T H ks G0 w0 G a w) (hb : w.heap.size ≤ b) : Off H G [b] := fun i e L q1 q2 q3 => by
  have := A.mem.ent i e q1
  rw [q2] at this
  have := EntOK.lt this q3
  simp; omega
end
section
variable {P : Program} {n : Nat} {ks : List Nat} {G0 : Gr} {w0 : World} {T : List (Nat × SV)} {H : Hp} {G : Gr} {a : Act} {w : World} {Q : Exit → Act → World → Prop} {K : List Fr}
/-- a loop that goes round once -/
theorem LOOPU {c : Code} (T1 : List (Nat × SV)) (H1 : Hp) (I : Prop) (A : Sy n T H ks G0 w0 G a w) (r0 : ∀ {G a w}, Sy n T H ks G0 w0 G a w → Goal P Q (.lp (fun a' w' => ∃ G', I ∧ Sy n T1 H1 ks G0 w0 G' a' w') :: K) (.code c) a w)
    (r1 : I → ∀ {G a w}, Sy n T1 H1 ks G0 w0 G a w → Goal P Q (.lp (fun _ _ => False) :: K) (.code c) a w) : Goal P Q K (.code (.loop c)) a w := by
  refine loop_by (fun m a w => (m = 1 ∧ ∃ G, Sy n T H ks G0 w0 G a w) ∨ (m = 0 ∧ I ∧ ∃ G, Sy n T1 H1 ks G0 w0 G a w)) 1 (.inl ⟨rfl, G, A⟩) ?_
  rintro m a w (⟨rfl, G, A⟩ | ⟨rfl, hI, G, A⟩)
  · refine Code.wp_mono (fun e a' w' h => ?_) (r0 A)
    cases e with
    | normal => obtain ⟨G', h1, h2⟩ := h; exact ⟨0, by omega, .inr ⟨rfl, h1, G', h2⟩⟩
    | _ => exact h
  · refine Code.wp_mono (fun e a' w' h => ?_) (r1 hI A)
    cases e with
    | normal => exact absurd h (fun h => h)
    | _ => exact h
end
theorem ix_ptr {i o s m k : Nat} (j : Nat) {q : Nat} (hq : o + j * s + k = q) : ∀ G, den G (.ix (.ptr i o) s m (j : Int) k) = den G (.ptr i q) := fun G => by
  subst hq
  unfold den
  cases hG : G[i]? with
  | none => unfold den; rw [hG]
  | some p => cases p with
    | none => unfold den; rw [hG]
    | some L => unfold den; rw [hG]; simp [Nat.add_assoc]
/-- lists that are read stay where they are -/
theorem off_pre {H : Hp} {G : Gr} {ks : List Nat} {F : Gr} {E : Hp} (hlen : H.length = G.length) (h : Off H G ks) (hF : ∀ (i : Nat) (e : Ent) (L : Loc), E[i]? = some (some e) → F[i]? = some (some L) → ¬ e.empty → ks.contains L.b = false) : Off (H ++ E) (G ++ F) ks := fun i e L q1 q2 q3 => by
  by_cases hi : i < H.length
  · rw [List.getElem?_append_left hi] at q1
    rw [List.getElem?_append_left (by omega)] at q2
    exact h i e L q1 q2 q3
  · rw [List.getElem?_append_right (by omega)] at q1
    rw [List.getElem?_append_right (by omega), ← hlen] at q2
    exact hF _ e L q1 q2 q3
section
variable {P : Program} {Y : Tb} {n : Nat} {ks : List Nat} {G0 : Gr} {w0 : World} {T : List (Nat × SV)} {H : Hp} {G : Gr} {a : Act} {w w' : World} {Q : Exit → Act → World → Prop} {K : List Fr} {ops : Array Oper} {o : Oper} {rest : List Oper}
/-- a list is appended, however long it is -/
theorem APPB {i e s m c nn cc mm mb mc : Nat} {f g : Nat → List SV} (hY : Y.ok P = true) (m' : Nat) (f' : Nat → List SV) (A : Sy n T H ks G0 w0 G a w) (h : aplS Y n ops T H o = some ((i, e, s, m, c), f, (mm, mb, mc), g, (nn, cc))) (h1 : nn = m) (h2 : cc = c) (hc0 : c = 0) (hmb : mm ≤ mb) (hbb : ∀ ie : TypeInfo, P.info? e = some ie → (m + mm) * ie.bytes ≤ 140737488355328) (hmx : m + mm ≤ 140737488355328) (hm' : m' = m + mm)
    (hf : ∀ k, k < m → f' k = f k) (hn : ∀ k, k < mm → f' (m + k) = g k) (htot : ∀ k, ∃ vs, denL [] (f' k) = some vs ∧ vs.length = s) (hone : ∀ k, k < mm → ∃ E, onesS (g k) = some E ∧ okE E)
    (hk : ∀ {G a w}, Sy n (extS T o.dst (.sl H.length m' 0)) (stH H i none ++ [some (.row e s m' 0 f')]) ks G0 w0 G a w → Goal P Q K (.ops ops rest) a w) : Goal P Q K (.ops ops (o :: rest)) a w := by
  subst hm'
  obtain ⟨d, op, ty, pos, af, gd⟩ := o
  unfold aplS at h
  split at h
  · next hd =>
    split at h
    · next hgd =>
      have hw := gd_run (gd := none) A hgd
      split at h
      · next ca hca =>
        simp only at hca
        subst hca
        obtain ⟨callee, args, ats⟩ := ca
        simp only at h
        split at h
        · next x y t t' ha ht =>
          split at h
          · next i' nn' cc' j mm' mc' hx hy htt =>
            split at h
            · next e' s' m' c1 f1 s2 mb' g' ti hi hj hti =>
              split at h
              · next e2 s3 b hel =>
                split at h
                · next hck =>
                  cases h
                  subst h1; subst h2
                  simp only [Bool.and_eq_true] at hck
                  obtain ⟨⟨⟨c1, c2⟩, c3⟩, c4⟩ := hck
                  have e1 := Nat.eq_of_beq_eq_true c1
                  have e2' := Nat.eq_of_beq_eq_true c2
                  have e3 := Nat.eq_of_beq_eq_true c3
                  have e4 := Nat.eq_of_beq_eq_true htt
                  have hby := Nat.le_of_ble_eq_true c4
                  subst e1; subst e2'; subst e3; subst e4
                  rw [lg_is] at hi
                  have hargs : args = #[x, y] := by have := congrArg List.toArray ha; simpa using this
                  have hats : ats = #[t, t] := by have := congrArg List.toArray ht; simpa using this
                  subst hargs; subst hats
                  obtain ⟨r1, r2, xs, r3, r4⟩ := A.mem.ent i _ hi
                  obtain ⟨g1, g2⟩ := parts_at A.mem hj
                  obtain ⟨ie, z, f1', f2', f3', f4', f5', f6', f7'⟩ := elem_facts (ti_elm (Tb.at hY hti) hel)
                  have hvx := A.ev hx
                  have hvy := A.ev hy
                  obtain ⟨q, hq⟩ : ∃ q, G[i]? = some q := by
                    have : i < G.length := by rw [← A.mem.len]; exact (List.getElem?_eq_some_iff.1 hi).1
                    exact ⟨G[i], by simp [this]⟩
                  rw [hq] at r2 r4
                  simp only [Option.getD_some] at r2 r4
                  unfold den at hvx hvy
                  rw [hq] at hvx
                  simp only [Option.some.injEq] at hvx
                  have htg : ∀ k, k < mm → ∃ vs, denL [] (g k) = some vs ∧ vs.length = s := fun k hk => by rw [← hn k hk]; exact htot _
                  obtain ⟨ys, hys⟩ := flat_ex (f := fun k => f' (nn + k)) (fun k => htot _) mm
                  have hyl := flat_len (f := fun k => f' (nn + k)) (fun k => htot _) hys
                  have hflat : flatV f' (nn + mm) = some (xs ++ ys) := flat_more mm nn (by rw [flat_congr hf]; exact r3) hys
                  have hob : Value.ownBlock (.slice (q.map fun L => ⟨L.b, L.pre.length, none⟩) nn (cc + rm q)) = q.map (·.b) := by cases q <;> rfl
                  by_cases h0 : mm = 0
                  · subst h0
                    cases hys
                    have hsrc : Src P ie.size t (a.eval y) 0 [] w := by
                      split at hvy
                      · next p hp =>
                        rw [← Option.some.inj hvy]
                        cases p with
                        | none => exact Src.ofNil w f1' mc
                        | some L => exact Src.ofSlice w f1' _ 0 _ [] (by simp) (fun j u hj => by simp at hj) (fun u hu => by cases hu)
                      · cases hvy
                    have hnc : nn ≤ cc + rm q := by
                      rcases r4.2 with ⟨q1, q2⟩ | ⟨g, cap, cur, q1, _, _, q4, _⟩
                      · omega
                      · cases q <;> simp at q1; omega
                    have hr := run_append_nothing (P := P) w t t ty e ie f1' f2' (q.map fun L => ⟨L.b, L.pre.length, none⟩) nn (cc + rm q) hnc _ hsrc
                    refine q_does (Q := wpK P Q K) (does_val (v := .slice (q.map fun L => ⟨L.b, L.pre.length, none⟩) nn (cc + rm q)) (w' := w) hw ?_ ?_)
                    · unfold execOp
                      simp only [resolve, invoke, builtin, Sem.run_bind, Sem.run_pure, Result.andThen_ok, List.map_toArray, List.map_cons, List.map_nil, ← hvx, hr]
                    · have A2 := A.rowMove (w' := w) (p' := q) (m' := nn + 0) (c' := cc) (xs' := xs ++ []) hi ⟨rfl, rfl, rfl, Nat.le_refl _, fun _ _ _ => rfl⟩ (by simpa using r4) r2 (.inl (by rw [hq]; rfl)) hflat htot
                      subst hc0
                      refine hk (Sy.put A2 hd ?_)
                      unfold den
                      rw [List.getElem?_append_right (by rw [A.mem.len]; exact Nat.le_refl _), A.mem.len]
                      simp
                  · obtain ⟨L, vs0, b1, _⟩ := g2 0 (by omega)
                    rw [get_loc b1] at hvy
                    simp only [Option.map_some, Option.some.injEq] at hvy
                    have hmul : (nn + mm) * b ≤ 140737488355328 := by have := hbb ie f2'; rwa [f5'] at this
                    obtain ⟨v', w', hr, k1, k2, _, k4⟩ := run_append_own_at (P := P) w 0 t ty e ie z s b f1' f2' f3' f4' f5' f6' f7' _ nn xs r4 ⟨L.b, L.pre.length, none⟩ mm (mc + rm (some L)) ys hyl
                      (fun j u hj => by
                        obtain ⟨k, r, us, d1, d2, d3, d4⟩ := flat_inv (f := fun k => f' (nn + k)) (fun k => htot _) hys j u hj
                        obtain ⟨L', us', b1', b2', b3'⟩ := g2 k (by omega)
                        rw [b1] at b1'; cases b1'
                        rw [hn k d1, b2'] at d2
                        cases d2
                        have := b3' r u d3
                        rw [Addr.add_mid, d4, ← Nat.add_assoc]
                        exact this)
                      (fun u hu => by
                        obtain ⟨j, hj⟩ := List.mem_iff_getElem?.1 hu
                        obtain ⟨k, r, us, d1, d2, d3, d4⟩ := flat_inv (f := fun k => f' (nn + k)) (fun k => htot _) hys j u hj
                        rw [hn k d1] at d2
                        obtain ⟨E, o1, o2⟩ := hone k d1
                        exact List.all_eq_true.1 (onesS_spec o1 o2 d2) u (List.mem_of_getElem? d3))
                      (by simp only [maxLen]; omega) (by omega) (Nat.zero_le _)
                    obtain ⟨p', o1, o2, o3⟩ := own_split k1
                    rw [hob] at k2 k4
                    rw [o3] at k4
                    rw [o1] at k1
                    refine q_does (Q := wpK P Q K) (does_val (v := v') (w' := w') hw ?_ ?_)
                    · unfold execOp
                      simp only [resolve, invoke, builtin, Sem.run_bind, Sem.run_pure, Result.andThen_ok, List.map_toArray, List.map_cons, List.map_nil, ← hvx, ← hvy, hr]
                    · have A2 := A.rowMove (p' := p') hi (by rw [hq]; exact k2) k1 o2 (by rw [hq]; exact k4) hflat htot
                      refine hk (Sy.put A2 hd ?_)
                      unfold den
                      rw [List.getElem?_append_right (by rw [A.mem.len]; exact Nat.le_refl _), A.mem.len]
                      simp [o1]
                · cases h
              · cases h
            · cases h
          · cases h
        · cases h
      · cases h
    · cases h
  · cases h
end
end Go.Proofs.Ytiglneecmibgmaa
/- Arrays of eight pairs (a number, a truth) in one block: read and written at a place that is not known. -/
namespace Go.Proofs.Ytiglneecmibgmaa
open Go.RowKit
set_option linter.unusedVariables false
set_option linter.unusedSimpArgs false
set_option linter.unusedSectionVars false
abbrev Fl := Nat → Int × Bool
def updF (f : Fl) (k : Nat) (x : Int × Bool) : Fl := fun j => if j = k then x else f j
abbrev fileS (f : Fl) : List SV := [.int .i64 (f 0).1, .bool (f 0).2, .int .i64 (f 1).1, .bool (f 1).2, .int .i64 (f 2).1, .bool (f 2).2, .int .i64 (f 3).1, .bool (f 3).2, .int .i64 (f 4).1, .bool (f 4).2, .int .i64 (f 5).1, .bool (f 5).2, .int .i64 (f 6).1, .bool (f 6).2, .int .i64 (f 7).1, .bool (f 7).2]
theorem lt8 {j : Int} (h : 0 ≤ j ∧ j < 8) : j = 0 ∨ j = 1 ∨ j = 2 ∨ j = 3 ∨ j = 4 ∨ j = 5 ∨ j = 6 ∨ j = 7 := by omega
section
variable {P : Program} {Y : Tb} {n : Nat} {ks : List Nat} {G0 : Gr} {w0 : World} {T : List (Nat × SV)} {H : Hp} {ops : Array Oper} {o : Oper} {rest : List Oper} {Q : Exit → Act → World → Prop} {K : List Fr}
theorem stxE {x y : Operand} {ty i : Nat} {j v : Int} {b : Bool} {f : Fl} {ti : TI} {yv : SV} (hX : Y.ok P = true) (hop : o.op = .store ty x y) (hg : guardS ops T o.guard = some .run) (hx : evS T x = some (.ix (.ptr i 0) 2 8 j 0)) (hy : evS T y = some yv) (hyv : ∀ G, den G yv = den G (.agg [.int .i64 v, .bool b])) (hH : lg H i = some (some (.blk (fileS f)))) (hti : Y.get ty = some ti) (hrow : ti.row = some 2) (hj : 0 ≤ j ∧ j < 8) :
    EffOK P n ops ks G0 w0 T H o (.tup []) (stH H i (some (.blk (fileS (updF f j.toNat (v, b)))))) := fun G a w A => by
  have hw := gd_run (gd := none) A hg
  obtain ⟨d, op, ty', pos, af, gd⟩ := o
  simp only at hop
  subst hop
  have hvx := A.ev hx
  have hvy := A.ev hy
  rw [hyv] at hvy
  have key : ∀ k : Nat, j = (k : Int) → (∀ r : List SV, sp (2 * k) (fileS f) [.int .i64 v, .bool b] = some r → r = fileS (updF f j.toNat (v, b)) → Does P ops { dst := d, op := .store ty x y, type := ty', pos := pos, after := af, guard := gd } a w fun v' w' => ∃ F, den (G ++ F) (.tup []) = some v' ∧ Ms (stH H i (some (.blk (fileS (updF f j.toNat (v, b)))))) ks G0 w0 (G ++ F) w') := by
    intro k hk r hr e
    rw [hk, ix_ptr (q := 2 * k) k (by omega)] at hvx
    have hs : storeS ⟨Y, true⟩ H ty (.ptr i (2 * k)) (.agg [.int .i64 v, .bool b]) = some (i, r, []) := by
      have ht : Tx.get ⟨Y, true⟩ ty = some ti := hti
      simp only [storeS, hH, ht, hrow, hr]
      rfl
    refine storeS_do (X := ⟨Y, true⟩) hX A hs okE_nil hvx hvy rfl rfl hw fun cs L vs' w' a1 a2 a3 a4 a5 => ⟨[], rfl, ?_⟩
    subst e
    simpa using (A.turn a1 a2 a3 a4 a5).ms
  rcases lt8 hj with rfl | rfl | rfl | rfl | rfl | rfl | rfl | rfl
  · exact key 0 rfl _ rfl rfl
  · exact key 1 rfl _ rfl rfl
  · exact key 2 rfl _ rfl rfl
  · exact key 3 rfl _ rfl rfl
  · exact key 4 rfl _ rfl rfl
  · exact key 5 rfl _ rfl rfl
  · exact key 6 rfl _ rfl rfl
  · exact key 7 rfl _ rfl rfl
theorem ldxE {x : Operand} {ty i : Nat} {j : Int} {f : Fl} {ti : TI} (hX : Y.ok P = true) (hop : o.op = .load ty x) (hg : guardS ops T o.guard = some .run) (hx : evS T x = some (.ix (.ptr i 0) 2 8 j 0)) (hH : lg H i = some (some (.blk (fileS f)))) (hti : Y.get ty = some ti) (hrow : ti.row = some 2) (hj : 0 ≤ j ∧ j < 8) :
    EffOK P n ops ks G0 w0 T H o (.agg [.int .i64 (f j.toNat).1, .bool (f j.toNat).2]) H := fun G a w A => by
  have hw := gd_run (gd := none) A hg
  obtain ⟨d, op, ty', pos, af, gd⟩ := o
  simp only at hop
  subst hop
  have hvx := A.ev hx
  have key : ∀ k : Nat, j = (k : Int) → (tk 2 (dp (2 * k) (fileS f)) = some [.int .i64 (f j.toNat).1, .bool (f j.toNat).2]) → Does P ops { dst := d, op := .load ty x, type := ty', pos := pos, after := af, guard := gd } a w fun v' w' => ∃ F, den (G ++ F) (.agg [.int .i64 (f j.toNat).1, .bool (f j.toNat).2]) = some v' ∧ Ms H ks G0 w0 (G ++ F) w' := by
    intro k hk hr
    rw [hk, ix_ptr (q := 2 * k) k (by omega)] at hvx
    have hs : loadS ⟨Y, true⟩ H ty (.ptr i (2 * k)) = some (.agg [.int .i64 (f j.toNat).1, .bool (f j.toNat).2], []) := by
      have ht : Tx.get ⟨Y, true⟩ ty = some ti := hti
      simp only [loadS, baseS, hH, selL, cellS, ht, hrow, hr]
    obtain ⟨z, hz, h3⟩ := loadS_do (X := ⟨Y, true⟩) (P := P) (ops := ops) (d := d) (ty := ty') (pos := pos) (af := af) (gd := gd) (x := x) hX A hs hvx
    exact h3 (fun p hp => by cases hp) rfl hw _ ⟨[], by simpa using hz, by simpa using A.ms⟩
  rcases lt8 hj with rfl | rfl | rfl | rfl | rfl | rfl | rfl | rfl
  · exact key 0 rfl rfl
  · exact key 1 rfl rfl
  · exact key 2 rfl rfl
  · exact key 3 rfl rfl
  · exact key 4 rfl rfl
  · exact key 5 rfl rfl
  · exact key 6 rfl rfl
  · exact key 7 rfl rfl
end
end Go.Proofs.Ytiglneecmibgmaa
/- Eight numbers inside a block of twelve cells: read and written at a place that is not known. -/
namespace Go.Proofs.Ytiglneecmibgmaa
open Go.RowKit
set_option linter.unusedVariables false
set_option linter.unusedSimpArgs false
set_option linter.unusedSectionVars false
abbrev Rg := Nat → Int
def updR (r : Rg) (k : Nat) (x : Int) : Rg := fun j => if j = k then x else r j
abbrev wkS (at_ : Int) (r : Rg) (x y z : SV) : List SV := [.int .i64 at_, .int .i64 (r 0), .int .i64 (r 1), .int .i64 (r 2), .int .i64 (r 3), .int .i64 (r 4), .int .i64 (r 5), .int .i64 (r 6), .int .i64 (r 7), x, y, z]
section
variable {P : Program} {Y : Tb} {n : Nat} {ks : List Nat} {G0 : Gr} {w0 : World} {T : List (Nat × SV)} {H : Hp} {ops : Array Oper} {o : Oper} {rest : List Oper} {Q : Exit → Act → World → Prop} {K : List Fr}
theorem stwE {x y : Operand} {ty i : Nat} {j v at_ : Int} {r : Rg} {s1 s2 s3 : SV} {ti : TI} (hX : Y.ok P = true) (hop : o.op = .store ty x y) (hg : guardS ops T o.guard = some .run) (hx : evS T x = some (.ix (.ptr i 1) 1 8 j 0)) (hy : evS T y = some (.int .i64 v)) (hH : lg H i = some (some (.blk (wkS at_ r s1 s2 s3)))) (hti : Y.get ty = some ti) (hrow : ti.row = none) (hone : ti.one = true) (hj : 0 ≤ j ∧ j < 8) :
    EffOK P n ops ks G0 w0 T H o (.tup []) (stH H i (some (.blk (wkS at_ (updR r j.toNat v) s1 s2 s3)))) := fun G a w A => by
  have hw := gd_run (gd := none) A hg
  obtain ⟨d, op, ty', pos, af, gd⟩ := o
  simp only at hop
  subst hop
  have hvx := A.ev hx
  have hvy := A.ev hy
  have key : ∀ k : Nat, j = (k : Int) → (∀ q : List SV, sp (1 + k) (wkS at_ r s1 s2 s3) [.int .i64 v] = some q → q = wkS at_ (updR r j.toNat v) s1 s2 s3 → Does P ops { dst := d, op := .store ty x y, type := ty', pos := pos, after := af, guard := gd } a w fun v' w' => ∃ F, den (G ++ F) (.tup []) = some v' ∧ Ms (stH H i (some (.blk (wkS at_ (updR r j.toNat v) s1 s2 s3)))) ks G0 w0 (G ++ F) w') := by
    intro k hk q hr e
    rw [hk, ix_ptr (q := 1 + k) k (by omega)] at hvx
    have hs : storeS ⟨Y, true⟩ H ty (.ptr i (1 + k)) (.int .i64 v) = some (i, q, []) := by
      have ht : Tx.get ⟨Y, true⟩ ty = some ti := hti
      simp only [storeS, hH, ht, hrow, hone, hr]
      rfl
    refine storeS_do (X := ⟨Y, true⟩) hX A hs okE_nil hvx hvy rfl rfl hw fun cs L vs' w' a1 a2 a3 a4 a5 => ⟨[], rfl, ?_⟩
    subst e
    simpa using (A.turn a1 a2 a3 a4 a5).ms
  rcases lt8 hj with rfl | rfl | rfl | rfl | rfl | rfl | rfl | rfl
  · exact key 0 rfl _ rfl rfl
  · exact key 1 rfl _ rfl rfl
  · exact key 2 rfl _ rfl rfl
  · exact key 3 rfl _ rfl rfl
  · exact key 4 rfl _ rfl rfl
  · exact key 5 rfl _ rfl rfl
  · exact key 6 rfl _ rfl rfl
  · exact key 7 rfl _ rfl rfl
theorem ldwE {x : Operand} {ty i : Nat} {j at_ : Int} {r : Rg} {s1 s2 s3 : SV} {ti : TI} (hX : Y.ok P = true) (hop : o.op = .load ty x) (hg : guardS ops T o.guard = some .run) (hx : evS T x = some (.ix (.ptr i 1) 1 8 j 0)) (hH : lg H i = some (some (.blk (wkS at_ r s1 s2 s3)))) (hti : Y.get ty = some ti) (hrow : ti.row = none) (hone : ti.one = true) (hj : 0 ≤ j ∧ j < 8) :
    EffOK P n ops ks G0 w0 T H o (.int .i64 (r j.toNat)) H := fun G a w A => by
  have hw := gd_run (gd := none) A hg
  obtain ⟨d, op, ty', pos, af, gd⟩ := o
  simp only at hop
  subst hop
  have hvx := A.ev hx
  have key : ∀ k : Nat, j = (k : Int) → (lg (wkS at_ r s1 s2 s3) (1 + k) = some (.int .i64 (r j.toNat))) → Does P ops { dst := d, op := .load ty x, type := ty', pos := pos, after := af, guard := gd } a w fun v' w' => ∃ F, den (G ++ F) (.int .i64 (r j.toNat)) = some v' ∧ Ms H ks G0 w0 (G ++ F) w' := by
    intro k hk hr
    rw [hk, ix_ptr (q := 1 + k) k (by omega)] at hvx
    have hs : loadS ⟨Y, true⟩ H ty (.ptr i (1 + k)) = some (.int .i64 (r j.toNat), []) := by
      have ht : Tx.get ⟨Y, true⟩ ty = some ti := hti
      simp only [loadS, baseS, hH, selL, cellS, ht, hrow, hone, hr, cond_true]
    obtain ⟨z, hz, h3⟩ := loadS_do (X := ⟨Y, true⟩) (P := P) (ops := ops) (d := d) (ty := ty') (pos := pos) (af := af) (gd := gd) (x := x) hX A hs hvx
    exact h3 (fun p hp => by cases hp) rfl hw _ ⟨[], by simpa using hz, by simpa using A.ms⟩
  rcases lt8 hj with rfl | rfl | rfl | rfl | rfl | rfl | rfl | rfl
  · exact key 0 rfl rfl
  · exact key 1 rfl rfl
  · exact key 2 rfl rfl
  · exact key 3 rfl rfl
  · exact key 4 rfl rfl
  · exact key 5 rfl rfl
  · exact key 6 rfl rfl
  · exact key 7 rfl rfl
end
end Go.Proofs.Ytiglneecmibgmaa
/- A runner: its code, where it stands, eight registers, in a block of ten cells; a part of a row as a block of its own for a call. -/
namespace Go.Proofs.Ytiglneecmibgmaa
open Go.RowKit
set_option linter.unusedVariables false
set_option linter.unusedSimpArgs false
set_option linter.unusedSectionVars false
abbrev rnS (x : SV) (at_ : Int) (r : Rg) : List SV := [x, .int .i64 at_, .int .i64 (r 0), .int .i64 (r 1), .int .i64 (r 2), .int .i64 (r 3), .int .i64 (r 4), .int .i64 (r 5), .int .i64 (r 6), .int .i64 (r 7)]
section
variable {P : Program} {Y : Tb} {n : Nat} {ks : List Nat} {G0 : Gr} {w0 : World} {T : List (Nat × SV)} {H : Hp} {ops : Array Oper} {o : Oper} {rest : List Oper} {Q : Exit → Act → World → Prop} {K : List Fr}
theorem stnE {x y : Operand} {ty i : Nat} {j v at_ : Int} {r : Rg} {s1 : SV} {ti : TI} (hX : Y.ok P = true) (hop : o.op = .store ty x y) (hg : guardS ops T o.guard = some .run) (hx : evS T x = some (.ix (.ptr i 2) 1 8 j 0)) (hy : evS T y = some (.int .i64 v)) (hH : lg H i = some (some (.blk (rnS s1 at_ r)))) (hti : Y.get ty = some ti) (hrow : ti.row = none) (hone : ti.one = true) (hj : 0 ≤ j ∧ j < 8) :
    EffOK P n ops ks G0 w0 T H o (.tup []) (stH H i (some (.blk (rnS s1 at_ (updR r j.toNat v))))) := fun G a w A => by
  have hw := gd_run (gd := none) A hg
  obtain ⟨d, op, ty', pos, af, gd⟩ := o
  simp only at hop
  subst hop
  have hvx := A.ev hx
  have hvy := A.ev hy
  have key : ∀ k : Nat, j = (k : Int) → (∀ q : List SV, sp (2 + k) (rnS s1 at_ r) [.int .i64 v] = some q → q = rnS s1 at_ (updR r j.toNat v) → Does P ops { dst := d, op := .store ty x y, type := ty', pos := pos, after := af, guard := gd } a w fun v' w' => ∃ F, den (G ++ F) (.tup []) = some v' ∧ Ms (stH H i (some (.blk (rnS s1 at_ (updR r j.toNat v))))) ks G0 w0 (G ++ F) w') := by
    intro k hk q hr e
    rw [hk, ix_ptr (q := 2 + k) k (by omega)] at hvx
    have hs : storeS ⟨Y, true⟩ H ty (.ptr i (2 + k)) (.int .i64 v) = some (i, q, []) := by
      have ht : Tx.get ⟨Y, true⟩ ty = some ti := hti
      simp only [storeS, hH, ht, hrow, hone, hr]
      rfl
    refine storeS_do (X := ⟨Y, true⟩) hX A hs okE_nil hvx hvy rfl rfl hw fun cs L vs' w' a1 a2 a3 a4 a5 => ⟨[], rfl, ?_⟩
    subst e
    simpa using (A.turn a1 a2 a3 a4 a5).ms
  rcases lt8 hj with rfl | rfl | rfl | rfl | rfl | rfl | rfl | rfl
  · exact key 0 rfl _ rfl rfl
  · exact key 1 rfl _ rfl rfl
  · exact key 2 rfl _ rfl rfl
  · exact key 3 rfl _ rfl rfl
  · exact key 4 rfl _ rfl rfl
  · exact key 5 rfl _ rfl rfl
  · exact key 6 rfl _ rfl rfl
  · exact key 7 rfl _ rfl rfl
theorem ldnE {x : Operand} {ty i : Nat} {j at_ : Int} {r : Rg} {s1 : SV} {ti : TI} (hX : Y.ok P = true) (hop : o.op = .load ty x) (hg : guardS ops T o.guard = some .run) (hx : evS T x = some (.ix (.ptr i 2) 1 8 j 0)) (hH : lg H i = some (some (.blk (rnS s1 at_ r)))) (hti : Y.get ty = some ti) (hrow : ti.row = none) (hone : ti.one = true) (hj : 0 ≤ j ∧ j < 8) :
    EffOK P n ops ks G0 w0 T H o (.int .i64 (r j.toNat)) H := fun G a w A => by
  have hw := gd_run (gd := none) A hg
  obtain ⟨d, op, ty', pos, af, gd⟩ := o
  simp only at hop
  subst hop
  have hvx := A.ev hx
  have key : ∀ k : Nat, j = (k : Int) → (lg (rnS s1 at_ r) (2 + k) = some (.int .i64 (r j.toNat))) → Does P ops { dst := d, op := .load ty x, type := ty', pos := pos, after := af, guard := gd } a w fun v' w' => ∃ F, den (G ++ F) (.int .i64 (r j.toNat)) = some v' ∧ Ms H ks G0 w0 (G ++ F) w' := by
    intro k hk hr
    rw [hk, ix_ptr (q := 2 + k) k (by omega)] at hvx
    have hs : loadS ⟨Y, true⟩ H ty (.ptr i (2 + k)) = some (.int .i64 (r j.toNat), []) := by
      have ht : Tx.get ⟨Y, true⟩ ty = some ti := hti
      simp only [loadS, baseS, hH, selL, cellS, ht, hrow, hone, hr, cond_true]
    obtain ⟨z, hz, h3⟩ := loadS_do (X := ⟨Y, true⟩) (P := P) (ops := ops) (d := d) (ty := ty') (pos := pos) (af := af) (gd := gd) (x := x) hX A hs hvx
    exact h3 (fun p hp => by cases hp) rfl hw _ ⟨[], by simpa using hz, by simpa using A.ms⟩
  rcases lt8 hj with rfl | rfl | rfl | rfl | rfl | rfl | rfl | rfl
  · exact key 0 rfl rfl
  · exact key 1 rfl rfl
  · exact key 2 rfl rfl
  · exact key 3 rfl rfl
  · exact key 4 rfl rfl
  · exact key 5 rfl rfl
  · exact key 6 rfl rfl
  · exact key 7 rfl rfl
def adJ (ao : Option Addr) (s : Nat) (j : Int) : Option Addr := ao.map fun a => ⟨a.block, a.off + j.toNat * s, none⟩
theorem ixcE {x y : Operand} {t e nn cp s : Nat} {j : Int} {ao : Option Addr} {f : Nat → List SV} (hop : o.op = .indexAddr t x y) (hg : guardS ops T o.guard = some .run) (hx : evS T x = some (.sla ao nn cp)) (hy : evS T y = some (.int .i64 j)) (h0 : LstAt ao s nn f w0 ks) (ht : sliceB P t e s = true) (hj : 0 ≤ j ∧ j < ((nn : Nat) : Int)) :
    EffOK P n ops ks G0 w0 T H o (.v (.pointer (adJ ao s j))) H := fun G a w A => by
  rcases h0.2 with q | ⟨b, q, rfl, _⟩
  · omega
  have hw := gd_run (gd := none) A hg
  obtain ⟨d, op, ty, pos, af, gd⟩ := o
  simp only at hop
  subst hop
  have hvx := A.ev hx
  have hvy := A.ev hy
  unfold den at hvx hvy
  simp only [Option.some.injEq] at hvx hvy
  exact d_indexAt (n := nn) (s := s) (b := b) (o := q + j.toNat * s) (j := j.toNat) hw hvx.symm (by rw [← hvy]; congr 1; omega) ht ⟨q, cp, rfl, rfl⟩ (by omega) ⟨[], rfl, by simpa using A.ms⟩
theorem ldcE {x : Operand} {ty s nn : Nat} {j : Int} {ao : Option Addr} {f : Nat → List SV} (r : List SV) (hX : Y.ok P = true) (hop : o.op = .load ty x) (hg : guardS ops T o.guard = some .run) (hx : evS T x = some (.v (.pointer (adJ ao s j)))) (h0 : LstAt ao s nn f w0 ks) (hj : 0 ≤ j ∧ j < ((nn : Nat) : Int)) (hr : f j.toNat = r) (hc : cellS ⟨Y, true⟩ ty r 0 = some (.agg r)) :
    EffOK P n ops ks G0 w0 T H o (.agg r) H := fun G a w A => by
  have h1 := LstAt.ok w0 ks w ks h0 A.mix (fun b hb => .inl hb)
  rcases h1.2 with q | ⟨b, q, rfl, _, _, h4⟩
  · omega
  have hw := gd_run (gd := none) A hg
  obtain ⟨d, op, ty, pos, af, gd⟩ := o
  simp only at hop
  subst hop
  have hvx := A.ev hx
  unfold den at hvx
  simp only [Option.some.injEq] at hvx
  obtain ⟨vs, v1, v2⟩ := h4 j.toNat (by omega)
  rw [hr] at v1
  have v3 : denL G r = some vs := by simpa using denL_mono G r v1
  exact cellS_load (X := ⟨Y, true⟩) hX hc v3 (by show (denL G r).map _ = _; rw [v3]; rfl) v2 hw hvx.symm ⟨[], by simp only [List.append_nil]; show (denL G r).map _ = _; rw [v3]; rfl, by simpa using A.ms⟩
end
/-- a contract over a block, where the block is a part of a row -/
theorem fnI_el {I : Amb} {P : Program} {f : Nat} {args : List SV} {x : SV} {e s m c : Nat} {F F' : Nat → List SV} {j : Int} (k : Nat) (hjk : j.toNat = k) (hj : k < m)
    (h : FnI I P f (.ptr 0 0 :: args) [some (.blk (F k))] (Rt x [some (.blk (F' k))])) (hin : inL 0 args = true) (hxin : inS 0 x = true) (hne : ∀ q, q ≠ k → F' q = F q) (hcl : ∃ vs, denL [] (F' k) = some vs ∧ vs.length = s) :
    FnI I P f (.el 0 s j 0 :: args) [some (.row e s m c F)] (Rt x [some (.row e s m c F')]) := by
  refine ⟨h.1, fun G w vs hM hI hv => ?_⟩
  have hGl : G.length = 1 := hM.len.symm
  obtain ⟨p, rfl⟩ : ∃ p, G = [p] := by
    cases G with
    | nil => cases hGl
    | cons p G => cases G with
      | nil => exact ⟨p, rfl⟩
      | cons _ _ => simp at hGl
  obtain ⟨htot, hpre, xs, hxs, hown⟩ := hM.ent 0 _ rfl
  obtain ⟨us, hus, husl⟩ := htot k
  have hxl := flat_len htot hxs
  have hmk : (k + 1) * s ≤ m * s := Nat.mul_le_mul_right s (by omega)
  have hks : (k + 1) * s = k * s + s := by rw [Nat.add_mul, Nat.one_mul]
  rcases hown.2 with ⟨_, h0⟩ | ⟨g, cap, cur, hsl, hb, hg, hnc, hcm, hcs, hxc⟩
  · omega
  obtain ⟨L, rfl⟩ : ∃ L, p = some L := by
    cases p with
    | none => simp at hsl
    | some L => exact ⟨L, rfl⟩
  have hp0 := hpre L rfl
  simp only [List.getElem?_cons_zero, Option.getD_some, Option.map_some, Value.slice.injEq, Option.some.injEq, Addr.mk.injEq, true_and] at hsl
  have hbg : L.b = g := hsl.1.1
  have hcc : m * s ≤ cap * s := Nat.mul_le_mul_right s hnc
  have hcl' : cur.toList.length = cap * s := by simpa using hcs
  have hmid : (cur.toList.drop (k * s)).take s = us := by
    obtain ⟨us2, e1, e2⟩ := flat_at htot hxs k hj
    rw [hus] at e1; cases e1
    apply List.ext_getElem?
    intro q
    by_cases hq : q < s
    · rw [List.getElem?_take_of_lt hq, List.getElem?_drop]
      have hqu : q < us.length := by omega
      have := e2 q us[q] (List.getElem?_eq_getElem hqu)
      rw [← hxc, List.getElem?_take_of_lt (by omega)] at this
      rw [this, List.getElem?_eq_getElem hqu]
    · rw [List.getElem?_eq_none (by rw [List.length_take]; omega), List.getElem?_eq_none (by omega)]
  have hsplit : cur.toList.take (k * s) ++ us ++ cur.toList.drop ((k + 1) * s) = cur.toList := by
    rw [← hmid, hks, ← List.drop_drop, List.append_assoc, List.take_append_drop, List.take_append_drop]
  have hpl : (cur.toList.take (k * s)).length = k * s := by rw [List.length_take]; omega
  let L' : Loc := ⟨g, cur.toList.take (k * s), cur.toList.drop ((k + 1) * s), e⟩
  have hden : ∀ {l : List SV} {vs : List Value} {G : Gr}, denL [] l = some vs → denL G l = some vs := fun {l vs G} h => by simpa using denL_mono G l h
  have hM' : Mem [some (.blk (F k))] [some L'] w := by
    refine ⟨rfl, fun i e' he => ?_, fun i q e1 e2 L1 L2 hne' h1 h2 => ?_⟩
    · cases i with
      | succ i => cases he
      | zero =>
        cases he
        refine ⟨L', us, rfl, hden hus, ?_⟩
        show Blk w g (cur.toList.take (k * s) ++ us ++ cur.toList.drop ((k + 1) * s)).toArray e
        rw [hsplit]
        exact hg
    · cases i with
      | succ i => cases h1
      | zero => cases q with
        | zero => exact absurd rfl hne'
        | succ q => cases h2
  have hkeys : keys [some (.row e s m c F)] [some L] = keys [some (.blk (F k))] [some L'] := by
    show [L.b] = [g]
    rw [hbg]
  have hargs : denL [some L'] (.ptr 0 0 :: args) = some vs := by
    obtain ⟨v, ws, e1, e2, rfl⟩ := denL_cons hv
    refine denL_mk ?_ ?_
    · rw [← e1]
      show some (Value.pointer (some ⟨g, (cur.toList.take (k * s)).length + 0, none⟩)) = some (Value.pointer (some ⟨L.b, L.pre.length + j.toNat * s + 0, none⟩))
      rw [hpl, hbg, hp0, hjk]
      simp
    · have a1 := denL_take' (G := [some L]) (k := 0) args hin
      have a2 := denL_take' (G := [some L']) (k := 0) args hin
      rw [List.take_zero] at a1 a2
      rw [← a2, a1, e2]
  refine Calls.mono (h.2 [some L'] w vs hM' (hkeys ▸ hI) hargs) ?_
  rintro en w' ⟨y, H', Fr, v, ⟨rfl, rfl⟩, d1, rfl, hM2, hmix, _, _, _⟩
  have hF : Fr = [] := by
    have := hM2.len
    cases Fr with
    | nil => rfl
    | cons _ _ => simp at this
  subst hF
  obtain ⟨L2, vs', q1, q2, q3⟩ := hM2.ent 0 _ rfl
  cases q1
  obtain ⟨vs2, r1, r2⟩ := hcl
  have r3 := hden (G := [some L'] ++ []) r1
  rw [r3] at q2
  cases q2
  have htot' : ∀ k, ∃ vs, denL [] (F' k) = some vs ∧ vs.length = s := fun q => by
    by_cases hq : q = k
    · subst hq; exact ⟨vs', r1, r2⟩
    · rw [hne q hq]; exact htot q
  have hxs' := flat_set htot hne r1 r2 hxs hj
  rw [← hkeys] at hmix
  refine ⟨y, _, [], v, ⟨rfl, rfl⟩, ?_, rfl, ⟨rfl, fun i e' he => ?_, fun i q e1 e2 L1 L2 hne' h1 h2 => ?_⟩, hmix, Nat.le_refl _, fun i e' he hm => ?_, fun i e' he hm L1 hL1 => ?_⟩
  · have a1 := den_take (G := [some L] ++ []) (k := 0) y hxin
    have a2 := den_take (G := [some L'] ++ []) (k := 0) y hxin
    rw [List.take_zero] at a1 a2
    rw [← a1, a2]; exact d1
  · cases i with
    | succ i => cases he
    | zero =>
      cases he
      refine ⟨htot', fun M hM => by cases hM; exact hp0, _, hxs', ?_, .inr ⟨g, cap, (cur.toList.take (k * s) ++ vs' ++ cur.toList.drop ((k + 1) * s)).toArray, ?_, hb, q3, hnc, hcm, ?_, ?_⟩⟩
      · simp only [List.length_append, List.length_take, List.length_drop]; omega
      · simp only [List.append_nil, List.getElem?_cons_zero, Option.getD_some, Option.map_some, Value.slice.injEq, Option.some.injEq, Addr.mk.injEq, true_and]
        exact hsl
      · simp only [List.size_toArray, List.length_append, List.length_take, List.length_drop]; omega
      · have e1 : (cur.toList.take (k * s) ++ vs').length = (k + 1) * s := by rw [List.length_append, hpl, r2, hks]
        show (cur.toList.take (k * s) ++ vs' ++ cur.toList.drop ((k + 1) * s)).take (m * s) = _
        rw [List.take_append, List.take_of_length_le (l := cur.toList.take (k * s) ++ vs') (by omega), e1, ← hxc, List.take_take, Nat.min_eq_left (by omega), List.drop_take]
  · cases i with
    | succ i => cases h1
    | zero => cases q with
      | zero => exact absurd rfl hne'
      | succ q => cases h2
  · cases i with
    | succ i => cases he
    | zero => cases he; cases hm
  · cases i with
    | succ i => cases he
    | zero =>
      cases he
      cases hL1
      exact .inl (by show [L.b].contains L.b = true; simp)
end Go.Proofs.Ytiglneecmibgmaa
/- An operation that makes two more, in a region that draws its order. -/
namespace Go.Proofs.Ytiglneecmibgmaa
open Go.RowKit
set_option linter.unusedVariables false
set_option linter.unusedSimpArgs false
set_option linter.unusedSectionVars false
section
variable {P : Program} {n : Nat} {ks : List Nat} {G0 : Gr} {w0 : World} {H : Hp} {G : Gr} {w w' : World} {ops : Array Oper} {o : Oper}
theorem put_at2 (r1 r2 : Nat) {Tw : List (Nat × SV)} {x x0 : SV} {H1 H2 H' : Hp} {rs : List Nat} {e1 e2 : Ent} (h : EffOK P n ops ks G0 w0 Tw H o x0 (H1 ++ [some e1, some e2])) (hl : H1.length = H.length) (hr1 : lg H1 r1 = some none) (hr2 : lg H1 r2 = some none) (hne : Nat.beq r1 r2 = false) (hg1 : G0.length ≤ r1) (hg2 : G0.length ≤ r2) (hH2 : stH H1 r2 (some e2) = H2)
    (hav : ((avH r2 (H1 ++ [some e1]) && avE r2 (some e2) && avH (H1.length + 1) (H1 ++ [some e1]) && avE (H1.length + 1) (some e2)) && (avH r1 H2 && avE r1 (some e1) && avH H1.length H2 && avE H1.length (some e1))) = true)
    (hren : renO (stH (stH (rngF 0 H1.length) r1 H1.length) r2 (H1.length + 1)) x = some x0) (hH : stH H2 r1 (some e1) = H') (hrs : (rs.contains r1 && rs.contains r2) = true) : EffAt P n ops ks G0 w0 Tw H o x H' rs := by
  intro G a w A
  subst hH2
  rw [lg_is] at hr1 hr2
  have hl1 : r1 < H1.length := (List.getElem?_eq_some_iff.1 hr1).1
  have hl2 : r2 < H1.length := (List.getElem?_eq_some_iff.1 hr2).1
  have hn : r1 ≠ r2 := fun e => by subst e; rw [Nat.beq_refl] at hne; cases hne
  simp only [Bool.and_eq_true] at hav hrs
  refine does_mono (h G a w A) fun v w' ⟨F, h1, h2⟩ => ?_
  have q1 := h2.mem.len
  have q2 := A.mem.len
  have hF1 : F.length = 2 := by simp at q1; omega
  rcases F with _ | ⟨p1, _ | ⟨p2, _ | ⟨p3, F⟩⟩⟩ <;> simp at hF1
  refine ⟨(G.set r2 p2).set r1 p1, fun i hi => ?_, ?_, ?_⟩
  · have i1 : i ≠ r1 := fun e => hi (by subst e; simpa using hrs.1)
    have i2 : i ≠ r2 := fun e => hi (by subst e; simpa using hrs.2)
    rw [List.getElem?_set_ne (Ne.symm i1), List.getElem?_set_ne (Ne.symm i2)]
  · rw [stH_is, stH_is] at hren
    have hm : ∀ j ∈ ((rngF 0 H1.length).set r1 H1.length).set r2 (H1.length + 1), j < (G ++ [p1, p2]).length := fun j hj => by
      rcases List.mem_or_eq_of_mem_set hj with h | h
      · rcases List.mem_or_eq_of_mem_set h with h | h
        · obtain ⟨k, hk, he⟩ := List.getElem_of_mem h
          rw [rngF_len] at hk
          have := rngF_at H1.length 0 k hk
          rw [List.getElem?_eq_getElem (by rw [rngF_len]; exact hk), he] at this
          cases this
          simp; omega
        · simp; omega
      · simp; omega
    rw [← h1, ← den_ren hm x hren]
    congr 1
    apply List.ext_getElem?
    intro i
    by_cases hi : i < H1.length
    · by_cases hir2 : i = r2
      · subst hir2
        have h1 : (((rngF 0 H1.length).set r1 H1.length).set i (H1.length + 1))[i]? = some (H1.length + 1) := List.getElem?_set_self (by rw [List.length_set, rngF_len]; exact hi)
        rw [pickG_at hm h1, List.getElem?_set_ne hn, List.getElem?_set_self (by omega), List.getElem?_append_right (by omega), hl, q2, show G.length + 1 - G.length = 1 by omega]; rfl
      · by_cases hir1 : i = r1
        · subst hir1
          have h1 : (((rngF 0 H1.length).set i H1.length).set r2 (H1.length + 1))[i]? = some H1.length := by rw [List.getElem?_set_ne (Ne.symm hir2)]; exact List.getElem?_set_self (by rw [rngF_len]; exact hi)
          rw [pickG_at hm h1, List.getElem?_set_self (by simp; omega), List.getElem?_append_right (by omega), hl, q2, Nat.sub_self]; rfl
        · have h1 : (((rngF 0 H1.length).set r1 H1.length).set r2 (H1.length + 1))[i]? = some i := by rw [List.getElem?_set_ne (Ne.symm hir2), List.getElem?_set_ne (Ne.symm hir1), rngF_at _ _ _ hi, Nat.zero_add]
          rw [pickG_at hm h1, List.getElem?_set_ne (Ne.symm hir1), List.getElem?_set_ne (Ne.symm hir2), List.getElem?_append_left (by omega)]
    · rw [List.getElem?_eq_none (by simp; omega), List.getElem?_eq_none (by simp [pickG, rngF_len]; omega)]
  · rw [← hH]
    have h3 : Ms ((H1 ++ [some e1]) ++ [some e2]) ks G0 w0 ((G ++ [p1]) ++ [p2]) w' := by simpa using h2
    have h4 := h3.put (r := r2) (by rw [List.getElem?_append_left hl2]; exact hr2) hg2 (fun q hq => by
      rw [List.mem_cons, List.mem_singleton, List.length_append, List.length_singleton] at hq
      rcases hq with rfl | rfl
      · exact ⟨hav.1.1.1.1, hav.1.1.1.2⟩
      · exact ⟨hav.1.1.2, hav.1.2⟩)
    have k1 : stH (H1 ++ [some e1]) r2 (some e2) = stH H1 r2 (some e2) ++ [some e1] := by rw [stH_is, stH_is, List.set_append_left _ _ hl2]
    have k2 : (G ++ [p1]).set r2 p2 = G.set r2 p2 ++ [p1] := List.set_append_left _ _ (by omega)
    rw [k1, k2] at h4
    have hlen2 : (stH H1 r2 (some e2)).length = H1.length := by rw [stH_is, List.length_set]
    exact h4.put (r := r1) (by rw [stH_is, List.getElem?_set_ne (Ne.symm hn)]; exact hr1) hg1 (fun q hq => by
      rw [List.mem_cons, List.mem_singleton, hlen2] at hq
      rcases hq with rfl | rfl
      · exact ⟨hav.2.1.1.1, hav.2.1.1.2⟩
      · exact ⟨hav.2.1.2, hav.2.2⟩)
end
end Go.Proofs.Ytiglneecmibgmaa
