/- Two numbers appended at once. -/
import Derived.Test.YtlhompedcphnnaaUUse0
namespace Go.Proofs.Ytlhompedcphnnaa
open Go.RowKit

theorem fill2 (z0 z1 : Value) (m n : Int) : Instr.fill (fun j => some (j * 1, 1)) #[z0, z1] [(0, .int .i64 m), (1, .int .i64 n)] = some #[.int .i64 m, .int .i64 n] := by kernel_rfl
section
variable {P : Program} {ops : Array Oper} {a : Act} {w : World} {K : Value → World → Prop} {d : Option Tmp} {ty : TypeId} {pos : String} {af : Array Edge} {gd : Option (Nat × Bool)} {v : Value}
theorem d_slice2 {t e by_ : Nat} {x y : Operand} {m n : Int} (hw : Region.wanted { dst := d, op := .buildSlice t 2 #[(0, x), (1, y)], type := ty, pos := pos, after := af, guard := gd } (yielded ops a.tmps) = true) (hx : a.eval x = .int .i64 m) (hy : a.eval y = .int .i64 n) (ht : elemB P t e 1 by_ = true)
    (h : ∀ g w', g = w.heap.size → Grow w w' → Blk w' g #[.int .i64 m, .int .i64 n] e → K (.slice (some ⟨g, 0, none⟩) 2 2) w') : Does P ops { dst := d, op := .buildSlice t 2 #[(0, x), (1, y)], type := ty, pos := pos, after := af, guard := gd } a w K := by
  obtain ⟨i, z, hu, hi, hz, hsz, _, hzs, h0⟩ := elem_facts ht
  refine does_val (w' := w.alloc (.cells #[.int .i64 m, .int .i64 n] e)) hw ?_ (h _ _ rfl ((Grow.refl _).alloc _) (heap_alloc_last w _))
  have hfill : Instr.fill (fun j => some (j * i.size, i.size)) ((Array.range (2 * i.size)).map (z.cells[· % z.cells.size]!)) [(0, .int .i64 m), (1, .int .i64 n)] = some #[.int .i64 m, .int .i64 n] := by
    rw [hsz]
    have h2 : ∀ f : Nat → Value, (Array.range (2 * 1)).map f = #[f 0, f 1] := fun f => by apply Array.ext'; simp [List.range_succ]
    rw [h2]
    exact fill2 _ _ m n
  have := run_buildSlice (P := P) w t e 2 #[(0, .int .i64 m), (1, .int .i64 n)] #[.int .i64 m, .int .i64 n] i z hu hi hz (by rw [hsz]; omega) (by rw [hsz]; omega) (by simpa using hfill)
  unfold execOp
  simp only [Sem.run_bind, List.map_toArray, List.map_cons, List.map_nil, hx, hy, this, Result.andThen_ok, Sem.run_pure]
theorem d_append2 {t e by_ B n gb : Nat} {x y : Operand} {xs : List Value} {cs : Array Value} (hw : Region.wanted { dst := d, op := .call { callee := .builtin .append, args := #[x, y], argTypes := #[t, t] }, type := ty, pos := pos, after := af, guard := gd } (yielded ops a.tmps) = true) (hx : a.eval x = v) (hy : a.eval y = .slice (some ⟨gb, 0, none⟩) 2 2)
    (ht : elemB P t e 1 by_ = true) (hown : w.ownsRow B e 1 v n xs) (hb : Blk w gb cs e) (hcs : cs.size = 2) (h1 : cs.toList.all (·.oneCell') = true) (hn : n ≤ 1000000) (hby : by_ ≤ 10000) (hB : B ≤ w.heap.size)
    (h : ∀ v' w', w'.ownsRow B e 1 v' (n + 2) (xs ++ cs.toList) → w.grownBy w' v.ownBlock → (v'.ownBlock = v.ownBlock ∨ v'.ownBlock = some w.heap.size) → K v' w') :
    Does P ops { dst := d, op := .call { callee := .builtin .append, args := #[x, y], argTypes := #[t, t] }, type := ty, pos := pos, after := af, guard := gd } a w K := by
  obtain ⟨i, z, hu, hi, hz, hsz, hbz, hzs, h0⟩ := elem_facts ht
  have hmul : (n + 2) * by_ ≤ 1000002 * 10000 := Nat.mul_le_mul (by omega) hby
  obtain ⟨v', w', hr, h2, h3, _, h5⟩ := run_append_own_at (P := P) w B t ty e i z 1 by_ hu hi hz hsz hbz hzs h0 v n xs hown ⟨gb, 0, none⟩ 2 2 cs.toList (by simp [hcs])
    (fun j u hj => by rw [Addr.add_mid, Nat.zero_add]; exact hb.cell (by simpa using hj)) (fun u hu => (List.all_eq_true.1 h1) u hu) (by simp only [maxLen]; omega) (by omega) hB
  refine does_val hw ?_ (h v' w' h2 h3 h5)
  unfold execOp
  simp only [resolve, invoke, builtin, Sem.run_bind, Sem.run_pure, Result.andThen_ok, List.map_toArray, List.map_cons, List.map_nil, hx, hy, hr]
end
theorem own_int {w : World} {b : Nat} {v : Value} {l : List Int} (h : w.ownsRow b 3 1 v l.length (paE l)) : Sl intE 1 w.heap.size w v l := by
  obtain ⟨h1, h2⟩ := h
  rcases h2 with ⟨rfl, h2⟩ | ⟨g, cap, cur, hv, hb, hg, hc, _, hs, ht⟩
  · have : l = [] := List.eq_nil_of_length_eq_zero h2
    subst this; exact Sl.nil
  · refine ⟨some ⟨g, 0, none⟩, cap, hv, hc, fun j x hx => ⟨g, 0, rfl, (Array.getElem?_eq_some_iff.1 hg).1, fun k u hu => ?_⟩⟩
    rw [cell_of_row w g _ cur _ _ hg]
    have hk : k < 1 := by have := get_lt hu; simpa [intE] using this
    obtain rfl : k = 0 := by omega
    have hj := get_lt hx
    have hu' : u = .int .i64 x := by simpa [intE] using hu.symm
    have hkey : (paE l)[j * 1 + 0]? = some u := by
      rw [hu', Nat.mul_one, Nat.add_zero, paE, List.getElem?_map, hx]; rfl
    have h3 : (cur.toList.take (l.length * 1))[j * 1 + 0]? = some u := by rw [ht]; exact hkey
    rw [List.getElem?_take_of_lt (by omega)] at h3
    rw [Nat.zero_add, ← Array.getElem?_toList]; exact h3
theorem use_all {l : List Int} {j : Nat} (h : l.length ≤ j) : useL l j = l.filter fun x => !(x == -1) := by unfold useL; rw [List.take_of_length_le h]
end Go.Proofs.Ytlhompedcphnnaa
