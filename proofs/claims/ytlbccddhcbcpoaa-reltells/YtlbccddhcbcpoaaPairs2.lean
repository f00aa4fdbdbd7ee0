/- Rows of pairs read again, pairs compared, and what is told along a row of pairs. -/
import Derived.Test.YtlbccddhcbcpoaaRefB
namespace Go.Proofs.Ytlbccddhcbcpoaa
open Go.RowKit

theorem pcs_get : ∀ (l : List (Nat × Nat)) (j x y : Nat), l[j]? = some (x, y) → (pcs l)[j * 2]? = some (.int .i64 x) ∧ (pcs l)[j * 2 + 1]? = some (.int .i64 y)
  | [], j, x, y, h => by simp at h
  | p :: l, 0, x, y, h => by
    simp at h; subst h
    have : pcs ((x, y) :: l) = [Value.int .i64 (x : Int), Value.int .i64 (y : Int)] ++ pcs l := by simp [pcs]
    rw [this]; simp
  | p :: l, j + 1, x, y, h => by
    have ih := pcs_get l j x y (by simpa using h)
    have : pcs (p :: l) = [Value.int .i64 (p.1 : Int), Value.int .i64 (p.2 : Int)] ++ pcs l := by simp [pcs]
    rw [this, show (j + 1) * 2 = j * 2 + 2 by omega, show j * 2 + 2 + 1 = (j * 2 + 1) + 2 by omega, List.getElem?_append_right (by simp), List.getElem?_append_right (by simp)]
    simpa using ih
theorem Pl.cell {w : World} {v : Value} {l : List (Nat × Nat)} (h : Pl w v l) {j x y : Nat} (hj : l[j]? = some (x, y)) : ∃ g cap, v = .slice (some ⟨g, 0, none⟩) l.length cap ∧ g < w.heap.size ∧ w.cell? ⟨g, j * 2, none⟩ = some (.int .i64 x) ∧ w.cell? ⟨g, j * 2 + 1, none⟩ = some (.int .i64 y) := by
  have hjl : j < l.length := (List.getElem?_eq_some_iff.1 hj).1
  obtain ⟨h1, h2⟩ := pcs_get l j x y hj
  rcases h.2 with ⟨hv, hn⟩ | ⟨g, cap, cur, hv, _, hg, hl, _, hs, ht⟩
  · omega
  · refine ⟨g, cap, hv, (Array.getElem?_eq_some_iff.1 hg).1, ?_, ?_⟩
    · rw [cell_of_row w g _ cur _ _ hg]
      rw [← ht, List.getElem?_take_of_lt (by omega)] at h1
      rw [← Array.getElem?_toList, h1]
    · rw [cell_of_row w g _ cur _ _ hg]
      rw [← ht, List.getElem?_take_of_lt (by omega)] at h2
      rw [← Array.getElem?_toList, h2]
theorem und_pair : Try.prog.underlying 29 = some (.array 2 3) := Try.underlying29
theorem cells_int : Try.prog.cellsOf 3 = 1 := by kernel_rfl
theorem eq_pair (d : Nat) (x y a b : Int) (w : World) : (Op.equalIn (d + 2) 29 (.agg #[.int .i64 x, .int .i64 y]) (.agg #[.int .i64 a, .int .i64 b])).run Try.prog w = .ok ((x == a) && (y == b)) w := by
  obtain ⟨i, hi, _⟩ := info_int'
  rw [run_equalIn_array w (d + 1) _ _ und_pair hi, cells_int]
  have p0 : ∀ u v : Int, (Go.part 3 #[.int .i64 u, .int .i64 v] (0 * 1)).run Try.prog w = .ok (.int .i64 u) w := fun u v => by simp [Go.part, isAgg, run_underlying Try.underlying3]
  have p1 : ∀ u v : Int, (Go.part 3 #[.int .i64 u, .int .i64 v] 1).run Try.prog w = .ok (.int .i64 v) w := fun u v => by simp [Go.part, isAgg, run_underlying Try.underlying3]
  have q1 : (Op.equalIn (d + 1) 3 (.int .i64 y) (.int .i64 b)).run Try.prog w = .ok (y == b) w := run_equalIn_int w d 3 .i64 .i64 _ _ Try.underlying3
  have hr : List.range 2 = [0, 1] := rfl
  rw [hr]
  simp only [Op.eqItems, Sem.run_bind, p0, Result.andThen_ok, run_equalIn_int w d 3 .i64 .i64 _ _ Try.underlying3]
  cases hx : (x == a) <;> cases hy : (y == b) <;> simp [p1, q1, hy]
/-- the events that stand first, second, in the first i pairs of a row; whether a pair is among them -/
def dT (l : List (Nat × Nat)) (i : Nat) : St := (l.take i).foldl (fun s p => s ||| one p.1) 0#32
def gT (l : List (Nat × Nat)) (i : Nat) : St := (l.take i).foldl (fun s p => s ||| one p.2) 0#32
def thT (a b : Int) (l : List (Nat × Nat)) (i : Nat) : Bool := (l.take i).any fun p => (p.1 : Int) == a && (p.2 : Int) == b
theorem dT_zero (l : List (Nat × Nat)) : U (dT l 0) = 0 := U_zero
theorem gT_zero (l : List (Nat × Nat)) : U (gT l 0) = 0 := U_zero
theorem thT_zero (a b : Int) (l : List (Nat × Nat)) : thT a b l 0 = false := rfl
theorem dT_next {l : List (Nat × Nat)} {i x y : Nat} (h : l[i]? = some (x, y)) : dT l (i + 1) = dT l i ||| one x := by unfold dT; rw [List.take_add_one, h, List.foldl_append]; rfl
theorem gT_next {l : List (Nat × Nat)} {i x y : Nat} (h : l[i]? = some (x, y)) : gT l (i + 1) = gT l i ||| one y := by unfold gT; rw [List.take_add_one, h, List.foldl_append]; rfl
theorem thT_next {a b : Int} {l : List (Nat × Nat)} {i x y : Nat} (h : l[i]? = some (x, y)) : thT a b l (i + 1) = (thT a b l i || (((x : Int) == a) && ((y : Int) == b))) := by unfold thT; rw [List.take_add_one, h, List.any_append]; simp
theorem inn_fold (f : Nat × Nat → Nat) (l : List (Nat × Nat)) (s : St) (e : Nat) : inn (l.foldl (fun s p => s ||| one (f p)) s) e = true ↔ inn s e = true ∨ (e < 32 ∧ ∃ p ∈ l, f p = e) := by
  induction l generalizing s with
  | nil => simp
  | cons p l ih =>
    rw [List.foldl_cons, ih, inn_or, inn_one]
    simp only [Bool.or_eq_true, Bool.and_eq_true, decide_eq_true_eq, List.mem_cons]
    constructor
    · rintro ((h | ⟨h1, h2⟩) | ⟨h1, q, hq, h2⟩)
      · exact .inl h
      · exact .inr ⟨h1, p, .inl rfl, h2.symm⟩
      · exact .inr ⟨h1, q, .inr hq, h2⟩
    · rintro (h | ⟨h1, q, rfl | hq, h2⟩)
      · exact .inl (.inl h)
      · exact .inl (.inr ⟨h1, h2.symm⟩)
      · exact .inr ⟨h1, q, hq, h2⟩
theorem dT_full (r : Rl) : dT (prs r 32) (prs r 32).length = domT r 32 := st_ext' fun e => by
  unfold dT
  rw [List.take_length, inn_fold Prod.fst, inn_zero, inn_dom]
  constructor
  · rintro (h | ⟨_, p, hp, rfl⟩)
    · cases h
    · exact ⟨p.2, ((mem_prs r 32 p).1 hp).2⟩
  · rintro ⟨b, h⟩
    exact .inr ⟨(has_lt h).1, (e, b), (mem_prs r 32 (e, b)).2 ⟨(has_lt h).1, h⟩, rfl⟩
theorem gT_full (r : Rl) : gT (prs r 32) (prs r 32).length = aft allS r 32 := st_ext' fun e => by
  unfold gT
  rw [List.take_length, inn_fold Prod.snd, inn_zero, inn_range]
  constructor
  · rintro (h | ⟨_, p, hp, rfl⟩)
    · cases h
    · exact ⟨p.1, ((mem_prs r 32 p).1 hp).2⟩
  · rintro ⟨a, h⟩
    exact .inr ⟨(has_lt h).2, (a, e), (mem_prs r 32 (a, e)).2 ⟨(has_lt h).1, h⟩, rfl⟩
theorem thT_full (a b : Int) (r : Rl) : thT a b (prs r 32) (prs r 32).length = hasB r a b := by
  rw [Bool.eq_iff_iff]
  unfold thT
  rw [List.take_length, List.any_eq_true]
  constructor
  · rintro ⟨p, hp, h⟩
    simp only [Bool.and_eq_true, beq_iff_eq] at h
    rw [← h.1, ← h.2]
    exact (hasB_iff r p.1 p.2).2 ((mem_prs r 32 p).1 hp).2
  · intro h
    have h1 : evB a = true := by unfold hasB at h; simp only [Bool.and_eq_true] at h; exact h.1.1
    have h2 : evB b = true := by unfold hasB at h; simp only [Bool.and_eq_true] at h; exact h.1.2
    obtain ⟨i, rfl, _⟩ := ev_nat h1
    obtain ⟨j, rfl, _⟩ := ev_nat h2
    have h3 := (hasB_iff r i j).1 h
    exact ⟨(i, j), (mem_prs r 32 (i, j)).2 ⟨(has_lt h3).1, h3⟩, by simp⟩
theorem empty_len (r : Rl) : (((prs r 32).length : Int) == 0) = eqB r nil := by
  rw [Bool.eq_iff_iff, empty_iff]
  simp
  constructor
  · intro h a b hab
    have := (mem_prs r 32 (a, b)).2 ⟨(has_lt hab).1, hab⟩
    rw [h] at this; cases this
  · intro h
    cases hl : prs r 32 with
    | nil => rfl
    | cons p l =>
      have := (mem_prs r 32 p).1 (by rw [hl]; simp)
      exact absurd this.2 (h p.1 p.2)
theorem prs_ev {r : Rl} {i x y : Nat} (h : (prs r 32)[i]? = some (x, y)) : x < 32 ∧ y < 32 := has_lt ((mem_prs r 32 (x, y)).1 (List.mem_of_getElem? h)).2

section
variable {ops : Array Oper} {Q : Exit → Act → World → Prop} {w : World} {tab : Nat → Cl} {d p : Tmp} {ty : TypeId} {pos : String} {af : Array Edge} {gd : Option (Nat × Bool)}
theorem k_lenp (n : Nat) (P : Value → World → Prop) (hP : ∀ v w w', Grow w w' → P v w → P v w') (hk : knownB ops { dst := some d, op := .call { callee := .builtin .len, args := #[.tmp p], argTypes := #[23] }, type := ty, pos := pos, after := af, guard := gd } p = true) (hp : tab p = .any P hP) (hn : ∀ v w, P v w → ∃ ad cap, v = .slice ad n cap) (hd : tab d = .val (.int .i64 n))
    (hg : Gd ops tab { dst := some d, op := .call { callee := .builtin .len, args := #[.tmp p], argTypes := #[23] }, type := ty, pos := pos, after := af, guard := gd }) : Obl ops Q w tab { dst := some d, op := .call { callee := .builtin .len, args := #[.tmp p], argTypes := #[23] }, type := ty, pos := pos, after := af, guard := gd } := fun a' w' _ hc => by
  refine ⟨wanted_of hg hc, ?_⟩
  have h0 := hc p hk
  rw [hp] at h0
  obtain ⟨ad, cap, hv⟩ := hn _ _ h0
  have e0 : a'.eval (.tmp p) = .slice ad n cap := hv
  have hr : (execOp a'.eval { dst := some d, op := .call { callee := .builtin .len, args := #[.tmp p], argTypes := #[23] }, type := ty, pos := pos, after := af, guard := gd }).run Try.prog w' = .ok (.value (.int .i64 n)) w' := by
    have hm : (#[.tmp p] : Array Operand).map a'.eval = #[.slice ad n cap] := by simp only [List.map_toArray, List.map_cons, List.map_nil]; rw [e0]
    unfold execOp
    simp only [resolve, Sem.run_bind, Sem.run_pure, Result.andThen_ok, invoke, builtin, hm]
    simp [Builtin.len_, run_underlying Try.underlying23, goInt]
  unfold Oper.wp
  rw [hr, Oper.upon_value]
  exact ⟨_, rfl, Grow.refl _, fun _ h => by cases h; rw [hd]; rfl⟩
end
def pairP (l : List (Nat × Nat)) : Value → World → Prop := fun v wx => Pl wx v l
theorem pairP_grow (l : List (Nat × Nat)) : ∀ v w w', Grow w w' → pairP l v w → pairP l v w' := fun _ _ _ hg h => Pl.grow hg h
theorem pairP_out {l : List (Nat × Nat)} {v : Value} {w : World} (h : pairP l v w) : Pl w v l := h

end Go.Proofs.Ytlbccddhcbcpoaa
