/- What List returns, for every input: a row of numbers in new memory. -/
import Derived.Test.YtlbccddhcbcpoaaKinds
import Derived.OwnWalk
import Derived.Maps.AppendAt
import Derived.Deep.DeepMust
namespace Go.Proofs.Ytlbccddhcbcpoaa
open Go.RowKit

/-- a row's elements as cells -/
def nums (l : List Nat) : List Value := l.map fun n : Nat => Value.int .i64 (n : Int)
theorem nums_len (l : List Nat) : (nums l).length = l.length * 1 := by simp [nums]
theorem nums_snoc (l : List Nat) (n : Nat) : nums (l ++ [n]) = nums l ++ [Value.int .i64 n] := by simp [nums]
/-- a value is a row of these numbers -/
def Il (w : World) (v : Value) (l : List Nat) : Prop := w.ownsRow 0 3 1 v l.length (nums l)
theorem own_grow {w w' : World} {b : Nat} {e : TypeId} {s n : Nat} {v : Value} {xs : List Value} (hg : Grow w w') (h : w.ownsRow b e s v n xs) : w'.ownsRow b e s v n xs := by
  obtain ⟨h1, h2⟩ := h
  refine ⟨h1, ?_⟩
  rcases h2 with h2 | ⟨g, cap, cur, hv, hb, hgg, h3⟩
  · exact .inl h2
  · exact .inr ⟨g, cap, cur, hv, hb, by rw [hg.block g (Array.getElem?_eq_some_iff.1 hgg).1]; exact hgg, h3⟩
theorem own_zero {w : World} {b : Nat} {e : TypeId} {s n : Nat} {v : Value} {xs : List Value} (h : w.ownsRow b e s v n xs) : w.ownsRow 0 e s v n xs := by
  obtain ⟨h1, h2⟩ := h
  refine ⟨h1, ?_⟩
  rcases h2 with h2 | ⟨g, cap, cur, hv, hb, h3⟩
  · exact .inl h2
  · exact .inr ⟨g, cap, cur, hv, Nat.zero_le _, h3⟩
theorem own_block {w : World} {b : Nat} {e : TypeId} {s n : Nat} {v : Value} {xs : List Value} (h : w.ownsRow b e s v n xs) : ∀ k, v.ownBlock = some k → b ≤ k := by
  intro k hk
  rcases h.2 with ⟨rfl, _⟩ | ⟨g, cap, cur, rfl, hb, _⟩
  · simp [Value.ownBlock] at hk
  · simp [Value.ownBlock] at hk; omega
theorem own_drew {w : World} {b : Nat} {e : TypeId} {s n : Nat} {v : Value} {xs : List Value} (h : w.ownsRow b e s v n xs) : w.drew.ownsRow b e s v n xs := h
theorem own_alloc {w : World} {b : Nat} {e : TypeId} {s n : Nat} {v : Value} {xs : List Value} (h : w.ownsRow b e s v n xs) (o : Obj) : (w.alloc o).ownsRow b e s v n xs := own_grow ((Grow.refl w).alloc o) h
theorem Il.grow {w w' : World} {v : Value} {l : List Nat} (hg : Grow w w') (h : Il w v l) : Il w' v l := own_grow hg h
theorem Il.form {w : World} {v : Value} {l : List Nat} (h : Il w v l) : ∃ ad cap, v = .slice ad l.length cap := by
  rcases h.2 with ⟨hv, hn⟩ | ⟨g, cap, cur, hv, _⟩
  · exact ⟨none, 0, by rw [hv, hn]⟩
  · exact ⟨_, _, hv⟩
theorem Il.cell {w : World} {v : Value} {l : List Nat} (h : Il w v l) {j x : Nat} (hj : l[j]? = some x) : ∃ g cap, v = .slice (some ⟨g, 0, none⟩) l.length cap ∧ g < w.heap.size ∧ w.cell? ⟨g, j, none⟩ = some (.int .i64 x) := by
  have hjl : j < l.length := (List.getElem?_eq_some_iff.1 hj).1
  rcases h.2 with ⟨hv, hn⟩ | ⟨g, cap, cur, hv, _, hg, hl, _, hs, ht⟩
  · omega
  · refine ⟨g, cap, hv, (Array.getElem?_eq_some_iff.1 hg).1, ?_⟩
    rw [cell_of_row w g j cur _ _ hg]
    have h1 : (cur.toList.take (l.length * 1))[j]? = (nums l)[j]? := by rw [ht]
    rw [List.getElem?_take_of_lt (by omega)] at h1
    rw [← Array.getElem?_toList, h1]
    simp [nums, hj]
/-- the events of a set below n, rising -/
def lst (s : St) (n : Nat) : List Nat := (List.range n).filter (inn s)
theorem lst_yes {s : St} {n : Nat} (h : inn s n = true) : lst s (n + 1) = lst s n ++ [n] := by
  unfold lst; rw [List.range_succ, List.filter_append]; simp [h]
theorem lst_no {s : St} {n : Nat} (h : inn s n = false) : lst s (n + 1) = lst s n := by
  unfold lst; rw [List.range_succ, List.filter_append]; simp [h]
theorem lst_len (s : St) (n : Nat) : (lst s n).length ≤ n := by
  unfold lst; have := List.length_filter_le (inn s) (List.range n); simpa using this
theorem lst_zero (s : St) : lst s 0 = [] := rfl
theorem own_nums (w : World) (b : Nat) (e : TypeId) (s : Nat) : w.ownsRow b e s (.slice none 0 0) ([] : List Nat).length (nums []) := ⟨by simp [nums], .inl ⟨rfl, rfl⟩⟩
theorem info_int : (Try.prog.info? 3).map (fun i => (i.zero, i.size, i.bytes)) = some (some (.int .i64 0), 1, 8) := by kernel_rfl
theorem info_int' : ∃ i, Try.prog.info? 3 = some i ∧ i.zero = some (.int .i64 0) ∧ i.size = 1 ∧ i.bytes = 8 := by
  have h := info_int
  cases hq : Try.prog.info? 3 with
  | none => simp [hq] at h
  | some i => simp [hq] at h; exact ⟨i, rfl, h.1, h.2.1, h.2.2⟩
/-- behind an append: what is not the row itself is as it was; the row stayed where it was, or lies behind all that was there -/
structure Moved (w w' : World) (v v' : Value) : Prop where
  size : w.heap.size ≤ w'.heap.size
  block : ∀ k, k < w.heap.size → v.ownBlock ≠ some k → w'.heap[k]? = w.heap[k]?
  lies : v'.ownBlock = v.ownBlock ∨ v'.ownBlock = some w.heap.size
theorem own_lt {w : World} {b : Nat} {e : TypeId} {s n : Nat} {v : Value} {xs : List Value} (h : w.ownsRow b e s v n xs) : ∀ k, v.ownBlock = some k → k < w.heap.size := by
  intro k hk
  rcases h.2 with ⟨rfl, _⟩ | ⟨g, cap, cur, rfl, hb, hg, _⟩
  · simp [Value.ownBlock] at hk
  · simp [Value.ownBlock] at hk; subst hk; exact (Array.getElem?_eq_some_iff.1 hg).1
theorem own_keep {w w' : World} {b : Nat} {e : TypeId} {s n : Nat} {v : Value} {xs : List Value} (h : w.ownsRow b e s v n xs) (hk : ∀ k, v.ownBlock = some k → w'.heap[k]? = w.heap[k]?) : w'.ownsRow b e s v n xs := by
  obtain ⟨h1, h2⟩ := h
  refine ⟨h1, ?_⟩
  rcases h2 with h2 | ⟨g, cap, cur, rfl, hb, hgg, h3⟩
  · exact .inl h2
  · exact .inr ⟨g, cap, cur, rfl, hb, by rw [hk g rfl]; exact hgg, h3⟩
/-- two rows lie in two blocks, the one in the heap -/
def Apart (w : World) (u v : Value) : Prop := ∀ k, u.ownBlock = some k → k < w.heap.size ∧ v.ownBlock ≠ some k
theorem Apart.moved {w w' : World} {u v v' : Value} (h : Apart w u v) (hm : Moved w w' v v') : Apart w' u v' := fun k hk => by
  obtain ⟨h1, h2⟩ := h k hk
  refine ⟨Nat.lt_of_lt_of_le h1 hm.size, ?_⟩
  rcases hm.lies with e | e
  · rw [e]; exact h2
  · rw [e]; intro h; cases h; omega
theorem Apart.alloc {w : World} {u v : Value} (h : Apart w u v) (o : Obj) : Apart (w.alloc o) u v := fun k hk => ⟨by have := (h k hk).1; simp; omega, (h k hk).2⟩
theorem own_moved {w w' : World} {u v v' : Value} {b : Nat} {e : TypeId} {s n : Nat} {xs : List Value} (h : w.ownsRow b e s u n xs) (ha : Apart w u v) (hm : Moved w w' v v') : w'.ownsRow b e s u n xs :=
  own_keep h fun k hk => hm.block k (ha k hk).1 (ha k hk).2
theorem apart_new {w w' : World} {u v : Value} {b : Nat} {e e' : TypeId} {s n s' n' : Nat} {xs xs' : List Value} (hv : w.ownsRow b e s v n xs) (hu : w'.ownsRow w.heap.size e' s' u n' xs') : Apart w' u v := fun k hk =>
  ⟨own_lt hu k hk, fun h => by have h1 := own_block hu k hk; have h2 := own_lt hv k h; omega⟩
section
variable {ops : Array Oper} {rest : List Oper} {a : Act} {Q : Exit → Act → World → Prop}
/-- one number is appended to a row of the call's own -/
theorem app1 (w : World) {d : Option Tmp} {p q : Tmp} {ty : TypeId} {pos : String} {af : Array Edge} (B : Nat) (l : List Nat) (n g : Nat) (v : Value) (hp : a.eval (.tmp p) = v) (hq : a.eval (.tmp q) = .slice (some ⟨g, 0, none⟩) 1 1)
    (hc : w.cell? ⟨g, 0, none⟩ = some (.int .i64 n)) (ho : w.ownsRow B 3 1 v l.length (nums l)) (hl : l.length ≤ 100000) (hB : B ≤ w.heap.size)
    (h : ∀ v' w', w'.ownsRow B 3 1 v' (l ++ [n]).length (nums (l ++ [n])) → Below B w w' → Moved w w' v v' → wpList Try.prog ops Q rest (a.put d v') w') :
    wpList Try.prog ops Q ({ dst := d, op := .call { callee := .builtin .append, args := #[.tmp p, .tmp q], argTypes := #[22, 22] }, type := ty, pos := pos, after := af, guard := none } :: rest) a w := by
  obtain ⟨i, hi, hz, hs, hb⟩ := info_int'
  refine wpList_append_own_at w rfl (.tmp p) (.tmp q) 22 rfl B 3 i (.int .i64 0) 1 8 Try.underlying22 hi hz hs hb rfl (by decide) v l.length (nums l) hp ho ⟨g, 0, none⟩ 1 1 [.int .i64 n] hq rfl ?_ ?_ (by unfold maxLen; omega) (by omega) hB ?_
  · intro j u hj
    match j, hj with
    | 0, hj => simp at hj; subst hj; rw [Addr.add_mid]; exact hc
  · intro u hu; simp at hu; subst hu; rfl
  · intro v' w' h1 h2 _ h4
    exact h v' w' (by rw [nums_snoc, List.length_append]; exact h1) ((Below.refl B w).grown h2 hB (own_block ho)) ⟨h2.size, fun k hk hne => h2.block k hk (Ne.symm hne), h4⟩
end
attribute [local irreducible] wpList cells row U aft inn one nil part upd idr crs mns eqB evB stepP plusT invT uni met sqs or2 and2 seq2 allS lst nums

set_option maxHeartbeats 2000000 in
theorem list_any (s : St) (w : World) : Calls Try.prog 13 #[.int .u32 (U s)] w fun x w' => ∃ v, x = .returned v ∧ Grow w w' ∧ w'.ownsRow w.heap.size 3 1 v (lst s 32).length (nums (lst s 32)) := by
  go_enter Try.func13, Try.ntmps13
  go_wp2
  go_loopw [3, 5] (fun v i wr => ∃ k : Nat, k ≤ 32 ∧ i = .int .i64 k ∧ Grow w wr ∧ wr.ownsRow w.heap.size 3 1 v (lst s k).length (nums (lst s k))) (fun _ i _ => 32 - (intOf i).toNat)
  case atStart => exact ⟨0, by omega, rfl, Grow.refl w, by rw [lst_zero]; exact own_nums _ _ _ _⟩
  case round =>
    obtain ⟨k, hk, rfl, hg, ho⟩ := hrel
    by_cases hlt : k < 32
    · cases hin : inn s k
      · have HL : Hid (lst s (k + 1) = lst s k) := lst_no hin
        go_wp2_with (go_at_call 49; refine (in_any _ _ hlt _).mono ?_; rintro e w' ⟨rfl, rfl⟩)
        go_roundw
        case rel => exact ⟨k + 1, by omega, by go_num, hg, by rw [HL.out]; exact ho⟩
        case measure => simp [intOf]; omega
      · have HL : Hid (lst s (k + 1) = lst s k ++ [k]) := lst_yes hin
        have HN : Hid ((lst s k).length ≤ k) := lst_len s k
        have hsz := hg.size
        go_wp2_with (first | (go_at_call 49; refine (in_any _ _ hlt _).mono ?_; rintro e w' ⟨rfl, rfl⟩) | (at_builtin; go_must (refine app1 _ w.heap.size (lst s k) k _ _ (by rfl) (by rfl) ?c1 (own_alloc ho _) ?c2 ?c3 ?_)))
        case c1 => simp
        case c2 => have := HN.out; omega
        case c3 => simp; omega
        intro v' w2 ho2 hb2 _
        go_wp2
        go_roundw
        case rel => exact ⟨k + 1, by omega, by go_num, (Below.alloc hg hsz _).trans hb2, by rw [HL.out]; exact ho2⟩
        case measure => simp [intOf]; omega
    · obtain rfl : k = 32 := by omega
      go_wp2
      go_ret
      exact ⟨_, rfl, hg, ho⟩

end Go.Proofs.Ytlbccddhcbcpoaa
