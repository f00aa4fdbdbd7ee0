/- Slices that are made and appended to, for the engine. -/
import Derived.Test.YtlhompedcphnnaaEngL
namespace Go.Proofs.Ytlhompedcphnnaa
open Go.RowKit

section
variable {P : Program} {ops : Array Oper} {a : Act} {w : World} {K : Value → World → Prop} {d : Option Tmp} {ty : TypeId} {pos : String} {af : Array Edge} {gd : Option (Nat × Bool)} {v : Value}
theorem d_indexArrP {t n e s g o j p : Nat} {x ix : Operand} (hw : Region.wanted { dst := d, op := .indexAddr t x ix, type := ty, pos := pos, after := af, guard := gd } (yielded ops a.tmps) = true) (hx : a.eval x = .pointer (some ⟨g, o, none⟩)) (hi : a.eval ix = .int .i64 (j : Int))
    (ht : arrB P t n e s = true) (hj : j < n) (hp : o + j * s = p) (h : K (.pointer (some ⟨g, p, none⟩)) w) : Does P ops { dst := d, op := .indexAddr t x ix, type := ty, pos := pos, after := af, guard := gd } a w K := by
  subst hp; exact d_indexArr hw hx hi ht hj h
/-- of a type: its zero, its cells, its bytes -/
def elemB (P : Program) (t e s by_ : Nat) : Bool := sliceB P t e s && (match P.info? e with | some i => (match i.zero with | some z => z.cells.size == s | none => false) && i.bytes == by_ | none => false) && decide (0 < s)
theorem elem_facts {t e s by_ : Nat} (h : elemB P t e s by_ = true) : ∃ i z, P.underlying t = some (.slice e) ∧ P.info? e = some i ∧ i.zero = some z ∧ i.size = s ∧ i.bytes = by_ ∧ z.cells.size = s ∧ 0 < s := by
  unfold elemB at h
  rw [Bool.and_eq_true, Bool.and_eq_true, decide_eq_true_eq] at h
  obtain ⟨⟨h1, h2⟩, h3⟩ := h
  obtain ⟨h4, h5⟩ := slice_facts h1
  cases hq : P.info? e with
  | none => simp [hq] at h2
  | some i =>
    cases hz : i.zero with
    | none => simp [hq, hz] at h2
    | some z => simp [hq, hz] at h2 h5; exact ⟨i, z, h4, rfl, hz, h5, h2.2, h2.1, h3⟩
/-- one element laid into a new slice -/
theorem d_slice1 {t e s by_ : Nat} {x : Operand} (hw : Region.wanted { dst := d, op := .buildSlice t 1 #[(0, x)], type := ty, pos := pos, after := af, guard := gd } (yielded ops a.tmps) = true) (hx : a.eval x = v) (ht : elemB P t e s by_ = true) (hs : v.cells.size = s) (hsm : s ≤ 1000)
    (h : ∀ g w', g = w.heap.size → Grow w w' → Blk w' g v.cells e → K (.slice (some ⟨g, 0, none⟩) 1 1) w') : Does P ops { dst := d, op := .buildSlice t 1 #[(0, x)], type := ty, pos := pos, after := af, guard := gd } a w K := by
  obtain ⟨i, z, hu, hi, hz, hsz, _, hzs, h0⟩ := elem_facts ht
  refine does_val (w' := w.alloc (.cells v.cells e)) hw ?_ (h _ _ rfl ((Grow.refl _).alloc _) (heap_alloc_last w _))
  have hfill : Instr.fill (fun j => some (j * i.size, i.size)) ((Array.range (1 * i.size)).map (z.cells[· % z.cells.size]!)) [(0, v)] = some v.cells := by
    simp only [Instr.fill, hsz, Nat.zero_mul, Nat.one_mul, Array.size_map, Array.size_range]
    rw [if_neg (by simp [hs])]
    congr 1
    have key : ∀ (c : List Value) (k : Nat) (Z : Array Value), k + c.length = Z.size → ((c.zipIdx k).foldl (fun cs (x : Value × Nat) => cs.setIfInBounds (0 + x.2) x.1) Z).toList = Z.toList.take k ++ c := by
      intro c
      induction c with
      | nil => intro k Z hk; simp at hk ⊢; rw [List.take_of_length_le (by simp; omega)]
      | cons u c ih =>
        intro k Z hk
        simp only [List.length_cons] at hk
        rw [List.zipIdx_cons, List.foldl_cons, ih (k + 1) _ (by simp; omega)]
        simp only [Nat.zero_add, Array.toList_setIfInBounds]
        have hk' : k < Z.toList.length := by simp; omega
        rw [List.take_add_one, List.getElem?_set_self hk']
        simp [List.take_set_of_le]
    have hz2 := key v.cells.toList 0 ((Array.range s).map (z.cells[· % z.cells.size]!)) (by simp [hs])
    apply Array.ext'
    rw [← Array.foldl_toList, Array.toList_zipIdx]
    simpa using hz2
  have := run_buildSlice (P := P) w t e 1 #[(0, v)] v.cells i z hu hi hz (by rw [hsz]; omega) (by rw [hsz]; omega) (by simpa using hfill)
  unfold execOp
  simp only [Sem.run_bind, List.map_toArray, List.map_cons, List.map_nil, hx, this, Result.andThen_ok, Sem.run_pure]
theorem d_append {t e s by_ B n gb : Nat} {x y : Operand} {xs : List Value} {cs : Array Value} (hw : Region.wanted { dst := d, op := .call { callee := .builtin .append, args := #[x, y], argTypes := #[t, t] }, type := ty, pos := pos, after := af, guard := gd } (yielded ops a.tmps) = true) (hx : a.eval x = v) (hy : a.eval y = .slice (some ⟨gb, 0, none⟩) 1 1)
    (ht : elemB P t e s by_ = true) (hown : w.ownsRow B e s v n xs) (hb : Blk w gb cs e) (hcs : cs.size = s) (h1 : cs.toList.all (·.oneCell') = true) (hn : n ≤ 1000000) (hby : by_ ≤ 10000) (hB : B ≤ w.heap.size)
    (h : ∀ v' w', w'.ownsRow B e s v' (n + 1) (xs ++ cs.toList) → w.grownBy w' v.ownBlock → (v'.ownBlock = v.ownBlock ∨ v'.ownBlock = some w.heap.size) → K v' w') :
    Does P ops { dst := d, op := .call { callee := .builtin .append, args := #[x, y], argTypes := #[t, t] }, type := ty, pos := pos, after := af, guard := gd } a w K := by
  obtain ⟨i, z, hu, hi, hz, hsz, hbz, hzs, h0⟩ := elem_facts ht
  have hmul : (n + 1) * by_ ≤ 1000001 * 10000 := Nat.mul_le_mul (by omega) hby
  obtain ⟨v', w', hr, h2, h3, _, h5⟩ := run_append_own_at (P := P) w B t ty e i z s by_ hu hi hz hsz hbz hzs h0 v n xs hown ⟨gb, 0, none⟩ 1 1 cs.toList (by simp [hcs])
    (fun j u hj => by rw [Addr.add_mid, Nat.zero_add]; exact hb.cell (by simpa using hj)) (fun u hu => (List.all_eq_true.1 h1) u hu) (by simp only [maxLen]; omega) (by omega) hB
  refine does_val hw ?_ (h v' w' h2 h3 h5)
  unfold execOp
  simp only [resolve, invoke, builtin, Sem.run_bind, Sem.run_pure, Result.andThen_ok, List.map_toArray, List.map_cons, List.map_nil, hx, hy, hr]
end
theorem own_lt {w : World} {b : Nat} {e : TypeId} {s n : Nat} {v : Value} {xs : List Value} (h : w.ownsRow b e s v n xs) : ∀ k, v.ownBlock = some k → b ≤ k ∧ k < w.heap.size := by
  intro k hk
  rcases h.2 with ⟨rfl, _⟩ | ⟨g, cap, cur, rfl, hb, hg, _⟩
  · simp [Value.ownBlock] at hk
  · simp [Value.ownBlock] at hk; subst hk; exact ⟨hb, (Array.getElem?_eq_some_iff.1 hg).1⟩
/-- plain operations' values, and claims of the others -/
def tabQ {S : World → World → Prop} (pl : List (Option Value)) (L : List (Cl S)) (i : Nat) : Cl S := match (pl[i]?).getD none with | some v => cv v | none => (L[i]?).getD cfree
theorem tabQ_cv {S : World → World → Prop} (pl : List (Option Value)) (L : List (Cl S)) : ∀ i v u w', (pl[i]?).getD none = some v → ((tabQ pl L i).P u w' ↔ u = v) := fun i v u w' h => by
  unfold tabQ; rw [h]; exact Iff.rfl
/-- a slice of one element in new memory -/
def cs1 (M : Nat → Option (Array Value)) (hM : ∀ k, M k = none) (cs : Array Value) (e : TypeId) : Cl (SM M) :=
  ⟨fun v w => ∃ g, v = .slice (some ⟨g, 0, none⟩) 1 1 ∧ Blk w g cs e, fun _ _ _ hS ⟨g, h1, h2⟩ => ⟨g, h1, h2.sm hS (hM g)⟩⟩
theorem own_form {w : World} {b : Nat} {e : TypeId} {s n : Nat} {v : Value} {xs : List Value} (h : w.ownsRow b e s v n xs) : ∃ ao cap, v = .slice ao n cap := by
  rcases h.2 with ⟨rfl, rfl⟩ | ⟨g, cap, cur, rfl, _⟩
  · exact ⟨none, 0, rfl⟩
  · exact ⟨_, cap, rfl⟩
theorem own_new {w : World} {b g : Nat} {e : TypeId} {s n : Nat} {v : Value} {xs : List Value} (h : w.ownsRow b e s v n xs) (hg : g = w.heap.size) : v.ownBlock ≠ some g := fun hk => by
  have := (own_lt h _ hk).2; omega
theorem own_grow {w w' : World} {b : Nat} {e : TypeId} {s n : Nat} {v : Value} {xs : List Value} (hg : Grow w w') (h : w.ownsRow b e s v n xs) : w'.ownsRow b e s v n xs := by
  obtain ⟨h1, h2⟩ := h
  refine ⟨h1, ?_⟩
  rcases h2 with h2 | ⟨g, cap, cur, hv, hb, hgg, h3⟩
  · exact .inl h2
  · exact .inr ⟨g, cap, cur, hv, hb, by rw [hg.block g (Array.getElem?_eq_some_iff.1 hgg).1]; exact hgg, h3⟩
theorem own_sm {M : Nat → Option (Array Value)} {w w' : World} {b : Nat} {e : TypeId} {s n : Nat} {v : Value} {xs : List Value} (h : w.ownsRow b e s v n xs) (hS : SM M w w') (hM : ∀ k, M k = none) : w'.ownsRow b e s v n xs := by
  obtain ⟨h1, h2⟩ := h
  refine ⟨h1, ?_⟩
  rcases h2 with h2 | ⟨g, cap, cur, hv, hb, hgg, h3⟩
  · exact .inl h2
  · exact .inr ⟨g, cap, cur, hv, hb, by rw [hS.block g (Array.getElem?_eq_some_iff.1 hgg).1 (hM g)]; exact hgg, h3⟩
theorem own_keep {w w' : World} {b : Nat} {e : TypeId} {s n : Nat} {v : Value} {xs : List Value} (h : w.ownsRow b e s v n xs) (hk : ∀ k, v.ownBlock = some k → w'.heap[k]? = w.heap[k]?) : w'.ownsRow b e s v n xs := by
  obtain ⟨h1, h2⟩ := h
  refine ⟨h1, ?_⟩
  rcases h2 with h2 | ⟨g, cap, cur, hv, hb, hgg, h3⟩
  · exact .inl h2
  · exact .inr ⟨g, cap, cur, hv, hb, by rw [hk g (by rw [hv]; rfl)]; exact hgg, h3⟩
theorem own_upd {w w' : World} {b g : Nat} {e : TypeId} {s n : Nat} {v : Value} {xs : List Value} (h : w.ownsRow b e s v n xs) (hu : Upd g w w') (hne : v.ownBlock ≠ some g) : w'.ownsRow b e s v n xs :=
  own_keep h fun k hk => hu.block k (fun e => hne (by rw [← e]; exact hk))
theorem own_by {w w' : World} {b : Nat} {e : TypeId} {s n : Nat} {v u : Value} {xs : List Value} (h : w.ownsRow b e s v n xs) (hg : w.grownBy w' u.ownBlock) (hap : ∀ k, v.ownBlock = some k → u.ownBlock ≠ some k) : w'.ownsRow b e s v n xs :=
  own_keep h fun k hk => hg.block k (own_lt h k hk).2 (fun e => hap k hk e.symm)
theorem Blk.by {w w' : World} {g : Nat} {cs : Array Value} {t : TypeId} {u : Value} (h : Blk w g cs t) (hg : w.grownBy w' u.ownBlock) (hne : u.ownBlock ≠ some g) : Blk w' g cs t := by
  unfold Blk; rw [hg.block g h.lt (fun e => hne e.symm)]; exact h
theorem below_by {B : Nat} {a w w' : World} {u : Value} (h : Below B a w) (hg : w.grownBy w' u.ownBlock) (hB : B ≤ w.heap.size) (hr : ∀ k, u.ownBlock = some k → B ≤ k) : Below B a w' := h.grown hg hB hr
theorem lies_ne {w : World} {v v' : Value} {g : Nat} (hl : v'.ownBlock = v.ownBlock ∨ v'.ownBlock = some w.heap.size) (h : v.ownBlock ≠ some g) (hg : g < w.heap.size) : v'.ownBlock ≠ some g := by
  rcases hl with hl | hl
  · rw [hl]; exact h
  · rw [hl]; intro e; cases e; omega
theorem lies_ap {w : World} {b : Nat} {e : TypeId} {s n : Nat} {v v' u : Value} {xs : List Value} (hl : v'.ownBlock = v.ownBlock ∨ v'.ownBlock = some w.heap.size) (h : ∀ k, u.ownBlock = some k → v.ownBlock ≠ some k) (hu : w.ownsRow b e s u n xs) : ∀ k, u.ownBlock = some k → v'.ownBlock ≠ some k := fun k hk => by
  rcases hl with hl | hl
  · rw [hl]; exact h k hk
  · rw [hl]; intro e; cases e; have := (own_lt hu _ hk).2; omega
end Go.Proofs.Ytlhompedcphnnaa
