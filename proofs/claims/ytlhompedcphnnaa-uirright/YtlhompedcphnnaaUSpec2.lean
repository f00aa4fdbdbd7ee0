/- What Check and its parts come to. -/
import Derived.Test.YtlhompedcphnnaaU5
namespace Go.Proofs.Ytlhompedcphnnaa
open Go.RowKit

def insE (i : Ins) : List Value := (insC i).toList
def cellE (v : Value) : List Value := [v]
/-- codes: a slice of slices of instructions -/
def Cs (B : Nat) (w : World) (v : Value) (cs : List (List Ins)) : Prop :=
  ∃ us : List Value, Sl cellE 1 B w v us ∧ us.length = cs.length ∧ ∀ (j : Nat) u c, us[j]? = some u → cs[j]? = some c → Sl insE 17 B w u c
def longR : List (List Ins) → Nat → Option Nat
  | [], _ => none
  | c :: r, t => if decide ((c.length : Int) > 8) then some t else longR r (t + 1)
def bad1 (n : Nat) : List Ins → Nat → Option (Nat × Int)
  | [], _ => none
  | i :: r, k => if rightR i (k : Int) (n : Int) == 0 then bad1 n r (k + 1) else some (k, rightR i (k : Int) (n : Int))
def bad2 : List (List Ins) → Nat → Option (Nat × Nat × Int)
  | [], _ => none
  | c :: r, t => match bad1 c.length c 0 with
    | some (k, e) => some (t, k, e)
    | none => bad2 r (t + 1)
def opsN (c : List Ins) : Nat := c.countP opB
def brN (c : List Ins) : Nat := c.countP fun i => i.op == 9
def sumO (cs : List (List Ins)) : Nat := (cs.map opsN).sum
def sumB (cs : List (List Ins)) : Nat := (cs.map brN).sum
def cntsR (cs : List (List Ins)) : Int := if decide ((sumO cs : Int) > 6) then 32 else if decide ((sumB cs : Int) > 3) then 33 else 0
def checkR (cs : List (List Ins)) : Int × Int × Int :=
  if decide ((cs.length : Int) < 1) || decide ((cs.length : Int) > 3) then (0, 0, 30) else
  match longR cs 0 with
  | some t => ((t : Int), 0, 31)
  | none => match bad2 cs 0 with
    | some (t, k, e) => ((t : Int), (k : Int), e)
    | none => (0, 0, cntsR cs)
theorem drop_at {α : Type} {l : List α} {j : Nat} {y : α} (h : l[j]? = some y) : l.drop j = y :: l.drop (j + 1) := by
  obtain ⟨hj, rfl⟩ := List.getElem?_eq_some_iff.1 h
  exact List.drop_eq_getElem_cons hj
theorem drop_end {α : Type} {l : List α} {j : Nat} (h : l.length ≤ j) : l.drop j = [] := List.drop_eq_nil_of_le h
theorem count_at {α : Type} {l : List α} {j : Nat} {y : α} (p : α → Bool) (h : l[j]? = some y) : (l.drop j).countP p = (l.drop (j + 1)).countP p + if p y then 1 else 0 := by
  rw [drop_at h, List.countP_cons]
theorem countP_drop_le {α : Type} (p : α → Bool) (l : List α) (j : Nat) : (l.drop j).countP p ≤ l.countP p := List.Sublist.countP_le (List.drop_sublist j l)
theorem cnt_le {α : Type} (p : α → Bool) (l : List α) (j : Nat) : (l.drop j).countP p ≤ l.length := by
  have := List.countP_le_length (p := p) (l := l.drop j); simp at this; omega
theorem sum_at {l : List (List Ins)} {j : Nat} {y : List Ins} (f : List Ins → Nat) (h : l[j]? = some y) : ((l.drop j).map f).sum = f y + ((l.drop (j + 1)).map f).sum := by
  rw [drop_at h]; simp
theorem long_at {l : List (List Ins)} {j : Nat} {y : List Ins} (h : l[j]? = some y) (hy : decide ((y.length : Int) > 8) = false) : longR (l.drop j) j = longR (l.drop (j + 1)) (j + 1) := by
  rw [drop_at h, longR, hy]; simp
theorem long_yes {l : List (List Ins)} {j : Nat} {y : List Ins} (h : l[j]? = some y) (hy : decide ((y.length : Int) > 8) = true) : longR (l.drop j) j = some j := by
  rw [drop_at h, longR, hy]; simp
theorem bad1_at {n : Nat} {l : List Ins} {j : Nat} {y : Ins} (h : l[j]? = some y) (hy : (rightR y (j : Int) (n : Int) == 0) = true) : bad1 n (l.drop j) j = bad1 n (l.drop (j + 1)) (j + 1) := by
  rw [drop_at h, bad1, hy]; simp
theorem bad1_yes {n : Nat} {l : List Ins} {j : Nat} {y : Ins} (h : l[j]? = some y) (hy : (rightR y (j : Int) (n : Int) == 0) = false) : bad1 n (l.drop j) j = some (j, rightR y (j : Int) (n : Int)) := by
  rw [drop_at h, bad1, hy]; simp
theorem bad2_at {l : List (List Ins)} {j : Nat} {y : List Ins} (h : l[j]? = some y) (hy : bad1 y.length y 0 = none) : bad2 (l.drop j) j = bad2 (l.drop (j + 1)) (j + 1) := by
  rw [drop_at h, bad2, hy]
theorem bad2_yes {l : List (List Ins)} {j k : Nat} {e : Int} {y : List Ins} (h : l[j]? = some y) (hy : bad1 y.length y 0 = some (k, e)) : bad2 (l.drop j) j = some (j, k, e) := by
  rw [drop_at h, bad2, hy]
theorem ops_le (c : List Ins) : opsN c ≤ c.length := List.countP_le_length
theorem br_le (c : List Ins) : brN c ≤ c.length := List.countP_le_length
def totN (cs : List (List Ins)) : Nat := (cs.map List.length).sum
theorem len_le {cs : List (List Ins)} {j : Nat} {c : List Ins} (h : cs[j]? = some c) : c.length ≤ totN cs := by
  unfold totN
  induction cs generalizing j with
  | nil => simp at h
  | cons d cs ih => cases j with
    | zero => simp at h; subst h; simp
    | succ j => have := ih (j := j) (by simpa using h); simp; omega
theorem sum_le0 (f : List Ins → Nat) (hf : ∀ c, f c ≤ c.length) : ∀ cs : List (List Ins), (cs.map f).sum ≤ (cs.map List.length).sum
  | [] => by simp
  | c :: cs => by have := sum_le0 f hf cs; have := hf c; simp; omega
theorem sum_le (f : List Ins → Nat) (hf : ∀ c, f c ≤ c.length) (cs : List (List Ins)) : (cs.map f).sum ≤ totN cs := sum_le0 f hf cs
theorem Cs.below {B : Nat} {w w' : World} {v : Value} {cs : List (List Ins)} (h : Cs B w v cs) (hb : Below B w w') : Cs B w' v cs := by
  obtain ⟨us, h1, h2, h3⟩ := h
  exact ⟨us, h1.below hb, h2, fun j u c hu hc => (h3 j u c hu hc).below hb⟩
theorem Cs.mono {B B' : Nat} {w : World} {v : Value} {cs : List (List Ins)} (h : Cs B w v cs) (hb : B ≤ B') : Cs B' w v cs := by
  obtain ⟨us, h1, h2, h3⟩ := h
  exact ⟨us, h1.mono hb, h2, fun j u c hu hc => (h3 j u c hu hc).mono hb⟩
theorem drop_sum_le (f : List Ins → Nat) (cs : List (List Ins)) : ∀ j, ((cs.drop j).map f).sum ≤ (cs.map f).sum := fun j => by
  induction cs generalizing j with
  | nil => simp
  | cons c cs ih => cases j with
    | zero => simp
    | succ j => have := ih j; rw [List.drop_succ_cons, List.map_cons, List.sum_cons]; omega
theorem ret_three {a b c a' b' c' : Int} (h1 : a = a') (h2 : b = b') (h3 : c = c') : Ending.returned (.tuple #[.int .i64 a, .int .i64 b, .int .i64 c]) = .returned (.tuple #[.int .i64 a', .int .i64 b', .int .i64 c']) := by rw [h1, h2, h3]
theorem check_threads {cs : List (List Ins)} (h : (cs.length : Int) < 1 ∨ (cs.length : Int) > 3) : checkR cs = (0, 0, 30) := by
  unfold checkR; rw [if_pos]; simp only [Bool.or_eq_true, decide_eq_true_eq]; exact h
theorem check_long {cs : List (List Ins)} {t : Nat} (h1 : ¬ (cs.length : Int) < 1) (h2 : ¬ (cs.length : Int) > 3) (h : longR cs 0 = some t) : checkR cs = ((t : Int), 0, 31) := by
  unfold checkR; rw [if_neg (by simp only [Bool.or_eq_true, decide_eq_true_eq]; omega), h]
theorem check_bad {cs : List (List Ins)} {t k : Nat} {e : Int} (h1 : ¬ (cs.length : Int) < 1) (h2 : ¬ (cs.length : Int) > 3) (h : longR cs 0 = none) (hb : bad2 cs 0 = some (t, k, e)) : checkR cs = ((t : Int), (k : Int), e) := by
  unfold checkR; rw [if_neg (by simp only [Bool.or_eq_true, decide_eq_true_eq]; omega), h, hb]
theorem check_none {cs : List (List Ins)} (h1 : ¬ (cs.length : Int) < 1) (h2 : ¬ (cs.length : Int) > 3) (h : longR cs 0 = none) (hb : bad2 cs 0 = none) : checkR cs = (0, 0, cntsR cs) := by
  unfold checkR; rw [if_neg (by simp only [Bool.or_eq_true, decide_eq_true_eq]; omega), h, hb]
end Go.Proofs.Ytlhompedcphnnaa
