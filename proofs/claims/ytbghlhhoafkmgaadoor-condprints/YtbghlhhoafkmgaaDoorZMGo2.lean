/- The same walk, each value written out once, when it comes. -/
import Derived.Test.YtbghlhhoafkmgaaDoorCondJudgesP5
namespace Go.Proofs.YtbghlhhoafkmgaaDoor
open Go.RowKit
set_option linter.unusedVariables false
set_option linter.unusedSimpArgs false
set_option linter.unusedSectionVars false

def apC {α : Type} : Hp → Option Ent → (Hp → α) → α
  | [], e, k => k [e]
  | x :: l, e, k => apC l e fun l => k (x :: l)
theorem apC_is {α : Type} (e : Option Ent) : ∀ (l : Hp) (k : Hp → α), apC l e k = k (l ++ [e])
  | [], k => rfl
  | x :: l, k => by rw [apC, apC_is e l]; rfl
def stC {α : Type} : Hp → Nat → Option Ent → (Hp → α) → α
  | [], _, _, k => k []
  | _ :: l, 0, e, k => k (e :: l)
  | y :: l, i + 1, e, k => stC l i e fun l => k (y :: l)
theorem stC_is {α : Type} (e : Option Ent) : ∀ (l : Hp) (i : Nat) (k : Hp → α), stC l i e k = k (stH l i e)
  | [], _, k => rfl
  | _ :: _, 0, k => rfl
  | y :: l, i + 1, k => by rw [stC, stC_is e l]; rfl
def nfE {α : Type} : Ent → (Ent → α) → α
  | .blk cs, k => nfL cs fun cs => k (.blk cs)
  | .lst s n f, k => k (.lst s n f)
  | .fac b o, k => k (.fac b o)
  | .row e s n c xs, k => k (.row e s n c xs)
theorem nfE_is {α : Type} : ∀ (e : Ent) (k : Ent → α), nfE e k = k e
  | .blk cs, k => by rw [nfE, nfL_is]
  | .lst _ _ _, _ => rfl
  | .fac _ _, _ => rfl
  | .row _ _ _ _ _, _ => rfl
def putD {α : Type} (T : List (Nat × SV)) : Option Nat → SV → (List (Nat × SV) → α) → α
  | some d, x, k => k ((d, x) :: T)
  | none, _, k => k T
theorem putD_is {α : Type} (T : List (Nat × SV)) (d : Option Nat) (x : SV) (k : List (Nat × SV) → α) : putD T d x k = k (extS T d x) := by cases d <;> rfl
def mrE (E : Ob) (r : Res) : Res := match E with
  | [] => r
  | E => r.more E
def go2 (X : Tx) (n : Nat) : Nat → List (Nat × SV) → Hp → List Fr → Pos → Res
  | 0, T, H, K, pos => ⟨T, H, K, pos, []⟩
  | f + 1, T, H, K, .ops all [] => go2 X n f T H K .norm
  | f + 1, T, H, K, .ops all (o :: l) => match stepS X n all T H o with
    | some (.val x E) => nfS x fun x => putD T o.dst x fun T => mrE E (go2 X n f T H K (.ops all l))
    | some (.new t e x) => nfS x fun x => nfE e fun e => putD T o.dst x fun T => apC H (some e) fun H => go2 X n f T H K (.ops all l)
    | some (.upd i cs E) => nfL cs fun cs => putD T o.dst (.tup []) fun T => stC H i (some (.blk cs)) fun H => mrE E (go2 X n f T H K (.ops all l))
    | none => ⟨T, H, K, .ops all (o :: l), []⟩
  | f + 1, T, H, [], .norm => ⟨T, H, [], .norm, []⟩
  | f + 1, T, H, .thn c :: K, .norm => go2 X n f T H K (.code c)
  | f + 1, T, H, .blk _ :: K, .norm => go2 X n f T H K .norm
  | f + 1, T, H, .lp I :: K, .norm => ⟨T, H, .lp I :: K, .norm, []⟩
  | f + 1, T, H, K, .ret => ⟨T, H, K, .ret, []⟩
  | f + 1, T, H, K, .code c => match c with
    | .skip => go2 X n f T H K .norm
    | .label _ => go2 X n f T H K .norm
    | .seq a b => go2 X n f T H (.thn b :: K) (.code a)
    | .region _ ops false => go2 X n f T H K (.ops ops ops.toList)
    | .cond x a b => match evS T x with
      | some .tt => go2 X n f T H K (.code a)
      | some .ff => go2 X n f T H K (.code b)
      | _ => ⟨T, H, K, .code c, []⟩
    | .block id b => go2 X n f T H (.blk id :: K) (.code b)
    | .exit id => match popTo id K with
      | some K' => go2 X n f T H K' .norm
      | none => ⟨T, H, K, .code c, []⟩
    | .ret => ⟨T, H, K, .ret, []⟩
    | _ => ⟨T, H, K, .code c, []⟩
theorem go2_is (X : Tx) (n : Nat) : ∀ (f : Nat) (T : List (Nat × SV)) (H : Hp) (K : List Fr) (pos : Pos), go2 X n f T H K pos = go X n f T H K pos
  | 0, T, H, K, pos => rfl
  | f + 1, T, H, K, .ops all [] => by unfold go2 go; exact go2_is X n f _ _ _ _
  | f + 1, T, H, K, .ops all (o :: l) => by
    unfold go2 go
    cases stepS X n all T H o with
    | none => rfl
    | some out =>
      cases out with
      | val x E =>
        simp only [nfS_is, putD_is, go2_is X n f, outT, outH, outE]
        cases E <;> rfl
      | new t e x =>
        simp only [nfS_is, nfE_is, putD_is, apC_is, go2_is X n f, outT, outH, outE]
      | upd i cs E =>
        simp only [nfL_is, putD_is, stC_is, go2_is X n f, outT, outH, outE]
        cases E <;> rfl
  | f + 1, T, H, [], .norm => rfl
  | f + 1, T, H, .thn c :: K, .norm => by unfold go2 go; exact go2_is X n f _ _ _ _
  | f + 1, T, H, .blk _ :: K, .norm => by unfold go2 go; exact go2_is X n f _ _ _ _
  | f + 1, T, H, .lp I :: K, .norm => rfl
  | f + 1, T, H, K, .ret => by unfold go2 go; rfl
  | f + 1, T, H, K, .code c => by
    unfold go2 go
    cases c with
    | skip => exact go2_is X n f _ _ _ _
    | label _ => exact go2_is X n f _ _ _ _
    | seq a b => exact go2_is X n f _ _ _ _
    | region id ops dr => cases dr <;> first | rfl | exact go2_is X n f _ _ _ _
    | cond x a b => simp only [go2_is X n f]; rfl
    | block id b => exact go2_is X n f _ _ _ _
    | exit id => simp only [go2_is X n f]; rfl
    | ret => rfl
    | _ => rfl
section
variable {P : Program} {X : Tx} {n : Nat} {ks : List Nat} {G0 : Gr} {w0 : World} {Q : Exit → Act → World → Prop} {T T' : List (Nat × SV)} {H H' : Hp} {K K' : List Fr} {pos pos' : Pos} {E : Ob} {G : Gr} {a : Act} {w : World}
theorem M02 (hX : X.ok P = true) (f : Nat) (A : Sy n T H ks G0 w0 G a w) (h : go2 X n f T H K pos = ⟨T', H', K', pos', E⟩) (hE : okE E) (hk : ∀ {G a w}, Sy n T' H' ks G0 w0 G a w → Goal P Q K' pos' a w) : Goal P Q K pos a w := by
  rw [go2_is] at h
  have := go_all (P := P) (Q := Q) (n := n) (ks := ks) (G0 := G0) (w0 := w0) hX f T H K pos
  rw [h] at this
  exact this hE (fun G a w A => hk A) G a w A
theorem N2 {Y : Tb} (hX : Y.ok P = true) (f : Nat) (A : Sy n T H ks G0 w0 G a w) (h : go2 ⟨Y, true⟩ n f T H K pos = ⟨T', H', K', pos', E⟩) (hE : okE E) (hk : ∀ {G a w}, Sy n T' H' ks G0 w0 G a w → Goal P Q K' pos' a w) : Goal P Q K pos a w := M02 (X := ⟨Y, true⟩) hX f A h hE hk
theorem M2 {Y : Tb} (hX : Y.ok P = true) (f : Nat) (A : Sy n T H ks G0 w0 G a w) (h : go2 ⟨Y, false⟩ n f T H K pos = ⟨T', H', K', pos', E⟩) (hE : okE E) (hk : ∀ {G a w}, Sy n T' H' ks G0 w0 G a w → Goal P Q K' pos' a w) : Goal P Q K pos a w := M02 (X := ⟨Y, false⟩) hX f A h hE hk
end
end Go.Proofs.YtbghlhhoafkmgaaDoor
