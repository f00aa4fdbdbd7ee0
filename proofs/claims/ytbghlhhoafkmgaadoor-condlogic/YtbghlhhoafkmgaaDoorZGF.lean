/- Conditions put together: what a right condition leaves upon what stood there. -/
import Derived.Test.YtbghlhhoafkmgaaDoorCondJudgesP5
namespace Go.Proofs.YtbghlhhoafkmgaaDoor
set_option linter.unusedVariables false
set_option linter.unusedSimpArgs false

theorem last_app {s l : List Bool} (h : 1 ≤ l.length) : (s ++ l).getD (((((s ++ l).length : Nat) : Int) - 1).toNat) false = l.getD ((((l.length : Nat) : Int) - 1).toNat) false := by
  have e : ((((s ++ l).length : Nat) : Int) - 1).toNat = s.length + (((l.length : Nat) : Int) - 1).toNat := by simp; omega
  rw [e, List.getD_eq_getElem?_getD, List.getElem?_append_right (by omega), List.getD_eq_getElem?_getD]; congr 2; omega
theorem prev_app {s l : List Bool} (h : 2 ≤ l.length) : (s ++ l).getD (((((s ++ l).length : Nat) : Int) - 2).toNat) false = l.getD ((((l.length : Nat) : Int) - 2).toNat) false := by
  have e : ((((s ++ l).length : Nat) : Int) - 2).toNat = s.length + (((l.length : Nat) : Int) - 2).toNat := by simp; omega
  rw [e, List.getD_eq_getElem?_getD, List.getElem?_append_right (by omega), List.getD_eq_getElem?_getD]; congr 2; omega
theorem set_app {s l : List Bool} {k : Nat} (b : Bool) (h : k + 1 ≤ l.length) : (s ++ l).set ((s ++ l).length - (k + 1)) b = s ++ l.set (l.length - (k + 1)) b := by
  have e : (s ++ l).length - (k + 1) = s.length + (l.length - (k + 1)) := by simp; omega
  rw [e, List.set_append_right _ _ (by omega)]; congr 2; omega
theorem step_app {p : O} {c : Cn} {s l : List Bool} (hn : ¬ c.n < 0) (hl : ¬ c.n > (l.length : Int)) : stepL p c (s ++ l) = s ++ stepL p c l := by
  rcases cn_kind hn with h | h | h | h | h
  · rw [st1 h.1, st1 h.1, List.append_assoc]
  · rw [st2 h.1, st2 h.1, List.append_assoc]
  · have := h.2
    rw [st3 h.1, st3 h.1, last_app (by omega), set_app (k := 0) _ (by omega)]
  · have := h.2
    rw [st4 h.1, st4 h.1, last_app (by omega), prev_app (by omega), set_app (k := 1) _ (by omega), List.length_append, show s.length + l.length - 1 = s.length + (l.length - 1) by omega, List.take_length_add_append]
  · have := h.2
    rw [st5 h.1, st5 h.1, last_app (by omega), prev_app (by omega), set_app (k := 1) _ (by omega), List.length_append, show s.length + l.length - 1 = s.length + (l.length - 1) by omega, List.take_length_add_append]
theorem step_len {p : O} {c : Cn} {l : List Bool} (hn : ¬ c.n < 0) (hl : ¬ c.n > (l.length : Int)) : ((stepL p c l).length : Int) = (l.length : Int) - c.n + 1 := by
  rcases cn_kind hn with h | h | h | h | h
  · rw [st1 h.1]; simp; omega
  · rw [st2 h.1]; simp; omega
  · rw [st3 h.1]; simp; omega
  · rw [st4 h.1]; simp; omega
  · rw [st5 h.1]; simp; omega
theorem fold_app {p : O} (s : List Bool) : ∀ (cs : List Cn) (l : List Bool), rightGo cs (l.length : Int) = true → cs.foldl (fun l c => stepL p c l) (s ++ l) = s ++ cs.foldl (fun l c => stepL p c l) l
  | [], l, _ => rfl
  | c :: cs, l, h => by
    rw [rightGo] at h
    split at h
    · cases h
    · next hc =>
      have h1 : ¬ c.n < 0 := fun x => hc (.inl x)
      have h2 : ¬ c.n > (l.length : Int) := fun x => hc (.inr x)
      rw [List.foldl_cons, List.foldl_cons, step_app h1 h2]
      exact fold_app s cs _ (by rw [step_len h1 h2]; exact h)
theorem rgoK (d : List Cn) : ∀ (cs : List Cn) (h k : Int), 0 ≤ k → rightGo cs h = true → rightGo (cs ++ d) (h + k) = rightGo d (1 + k)
  | [], h, k, _, hr => by rw [rightGo, beq_iff_eq] at hr; subst hr; rfl
  | c :: cs, h, k, hk, hr => by
    rw [rightGo] at hr
    rw [List.cons_append, rightGo]
    split at hr
    · cases hr
    · next hc =>
      rw [if_neg (fun x => hc (x.imp id (fun y => by omega))), show h + k - c.n + 1 = (h - c.n + 1) + k by omega]
      exact rgoK d cs _ k hk hr
theorem right_is {cs : List Cn} (hr : right cs = true) : rightGo cs 0 = true ∧ 1 ≤ cs.length ∧ cs.length ≤ 32 := by
  unfold right at hr
  split at hr
  · cases hr
  · next h => exact ⟨hr, by omega, by omega⟩
theorem right_mk {cs : List Cn} (h1 : 1 ≤ cs.length) (h2 : cs.length ≤ 32) (hg : rightGo cs 0 = true) : right cs = true := by
  unfold right; rw [if_neg (by omega)]; exact hg
theorem eval_is {p : O} {cs : List Cn} (hr : right cs = true) : evalB p cs = (cs.foldl (fun l c => stepL p c l) []).getD 0 false := by
  unfold evalB; rw [if_pos hr]
theorem fold1 {p : O} {cs : List Cn} (hr : right cs = true) (s : List Bool) : cs.foldl (fun l c => stepL p c l) s = s ++ [evalB p cs] := by
  have h0 := fold_app (p := p) s cs [] (right_is hr).1
  rw [List.append_nil] at h0
  rw [h0]
  congr 1
  have go : ∀ i, i ≤ cs.length → ∃ l, EI p cs l i := by
    intro i
    induction i with
    | zero => exact fun _ => ⟨[], EI.init (by rw [hr]; rfl)⟩
    | succ i ih => exact fun h => by obtain ⟨l, hl⟩ := ih (by omega); exact ⟨_, hl.next (by rw [hr]; rfl) (by omega)⟩
  obtain ⟨l, hl⟩ := go cs.length (Nat.le_refl _)
  have h1 := hl.fin (by omega)
  have h2 := hl.done (by rw [hr]; rfl) (by omega)
  have h3 := hl.eq
  rw [List.take_length] at h3
  rw [← h3, h2]
  match l, h1 with
  | [v], _ => rfl
section
variable {p : O} {a b : List Cn} (ha : right a = true)
include ha
theorem go1 (d : List Cn) (k : Int) (hk : 0 ≤ k) : rightGo (a ++ d) k = rightGo d (1 + k) := by
  have := rgoK d a 0 k hk (right_is ha).1
  rwa [Int.zero_add] at this
theorem ev_n (h : a.length < 32) : right (a ++ ([⟨3, 0, 0, 0, 0⟩] : List Cn)) = true ∧ evalB p (a ++ ([⟨3, 0, 0, 0, 0⟩] : List Cn)) = !(evalB p a) := by
  have hr : right (a ++ ([⟨3, 0, 0, 0, 0⟩] : List Cn)) = true := right_mk (by simp) (by simp; omega) (by rw [go1 ha _ 0 (by omega)]; rfl)
  exact ⟨hr, by rw [eval_is hr, List.foldl_append, fold1 ha]; rfl⟩
theorem ev_nn (h : a.length < 31) : evalB p (a ++ ([⟨3, 0, 0, 0, 0⟩, ⟨3, 0, 0, 0, 0⟩] : List Cn)) = evalB p a := by
  have hr : right (a ++ ([⟨3, 0, 0, 0, 0⟩, ⟨3, 0, 0, 0, 0⟩] : List Cn)) = true := right_mk (by simp) (by simp; omega) (by rw [go1 ha _ 0 (by omega)]; rfl)
  rw [eval_is hr, List.foldl_append, fold1 ha]
  show (!(!(evalB p a))) = _
  simp
variable (hb : right b = true) (hl : a.length + b.length ≤ 25)
include hb hl
theorem ev_and : evalB p ((a ++ b) ++ ([⟨4, 0, 0, 0, 0⟩] : List Cn)) = (evalB p a && evalB p b) := by
  have hr : right ((a ++ b) ++ ([⟨4, 0, 0, 0, 0⟩] : List Cn)) = true := right_mk (by simp; omega) (by simp; omega) (by rw [List.append_assoc, go1 ha _ 0 (by omega), go1 hb _ _ (by omega)]; rfl)
  rw [eval_is hr, List.foldl_append, List.foldl_append, fold1 ha, fold1 hb]; rfl
theorem ev_or : evalB p ((a ++ b) ++ ([⟨5, 0, 0, 0, 0⟩] : List Cn)) = (evalB p a || evalB p b) := by
  have hr : right ((a ++ b) ++ ([⟨5, 0, 0, 0, 0⟩] : List Cn)) = true := right_mk (by simp; omega) (by simp; omega) (by rw [List.append_assoc, go1 ha _ 0 (by omega), go1 hb _ _ (by omega)]; rfl)
  rw [eval_is hr, List.foldl_append, List.foldl_append, fold1 ha, fold1 hb]; rfl
theorem ev_turned : evalB p (((a ++ ([⟨3, 0, 0, 0, 0⟩] : List Cn)) ++ b) ++ ([⟨3, 0, 0, 0, 0⟩, ⟨5, 0, 0, 0, 0⟩, ⟨3, 0, 0, 0, 0⟩] : List Cn)) = (evalB p a && evalB p b) := by
  have hn := (ev_n (p := p) ha (by omega))
  have hr : right (((a ++ ([⟨3, 0, 0, 0, 0⟩] : List Cn)) ++ b) ++ ([⟨3, 0, 0, 0, 0⟩, ⟨5, 0, 0, 0, 0⟩, ⟨3, 0, 0, 0, 0⟩] : List Cn)) = true := right_mk (by simp; omega) (by simp; omega) (by rw [List.append_assoc, go1 hn.1 _ 0 (by omega), go1 hb _ _ (by omega)]; rfl)
  rw [eval_is hr, List.foldl_append, List.foldl_append, fold1 hn.1, fold1 hb, hn.2]
  show (!((!(evalB p a)) || (!(evalB p b)))) = _
  cases evalB p a <;> cases evalB p b <;> rfl
end
end Go.Proofs.YtbghlhhoafkmgaaDoor
