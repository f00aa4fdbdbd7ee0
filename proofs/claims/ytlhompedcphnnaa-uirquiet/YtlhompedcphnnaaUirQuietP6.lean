/- Two numbers appended at once. -/
import Derived.Test.YtlhompedcphnnaaUirQuietP5
import Derived.WalkSmall
import Derived.ProofKit
import Derived.OpenShut
import Derived.ChangeOld
import Derived.Deep.Upon
namespace Go.Proofs.Ytlhompedcphnnaa
open Go.RowKit

theorem fill2 (z0 z1 : Value) (m n : Int) : Instr.fill (fun j => some (j * 1, 1)) #[z0, z1] [(0, .int .i64 m), (1, .int .i64 n)] = some #[.int .i64 m, .int .i64 n] := by kernel_rfl
section
variable {P : Program} {ops : Array Oper} {a : Act} {w : World} {K : Value → World → Prop} {d : Option Tmp} {ty : TypeId} {pos : String} {af : Array Edge} {gd : Option (Nat × Bool)} {v : Value}
theorem d_slice2 {t e by_ : Nat} {x y : Operand} {m n : Int} (hw : Region.wanted { dst := d, op := .buildSlice t 2 #[(0, x), (1, y)], type := ty, pos := pos, after := af, guard := gd } (yielded ops a.tmps) = true) (hx : a.eval x = .int .i64 m) (hy : a.eval y = .int .i64 n) (ht : elemB P t e 1 by_ = true)
    (h : ∀ g w', g = w.heap.size → Grow w w' → Blk w' g #[.int .i64 m, .int .i64 n] e → K (.slice (some ⟨g, 0, none⟩) 2 2) w') : Does P ops { dst := d, op := .buildSlice t 2 #[(0, x), (1, y)], type := ty, pos := pos, after := af, guard := gd } a w K := by
  obtain ⟨i, z, hu, hi, hz, hsz, _, hzs, h0⟩ := elem_facts ht
  refine does_val (w' := w.alloc (.cells #[.int .i64 m, .int .i64 n] e)) hw ?_ (h _ _ rfl ((Grow.refl _).alloc _) (heap_alloc_last w _))
  have hfill : Instr.fill (fun j => some (j * i.size, i.size)) ((Array.range (2 * i.size)).map (z.cells[· % z.cells.size]!)) [(0, .int .i64 m), (1, .int .i64 n)] = some #[.int .i64 m, .int .i64 n] := by
    rw [hsz]
    have h2 : ∀ f : Nat → Value, (Array.range (2 * 1)).map f = #[f 0, f 1] := fun f => by apply Array.ext'; simp [List.range_succ]
    rw [h2]
    exact fill2 _ _ m n
  have := run_buildSlice (P := P) w t e 2 #[(0, .int .i64 m), (1, .int .i64 n)] #[.int .i64 m, .int .i64 n] i z hu hi hz (by rw [hsz]; omega) (by rw [hsz]; omega) (by simpa using hfill)
  unfold execOp
  simp only [Sem.run_bind, List.map_toArray, List.map_cons, List.map_nil, hx, hy, this, Result.andThen_ok, Sem.run_pure]
theorem d_append2 {t e by_ B n gb : Nat} {x y : Operand} {xs : List Value} {cs : Array Value} (hw : Region.wanted { dst := d, op := .call { callee := .builtin .append, args := #[x, y], argTypes := #[t, t] }, type := ty, pos := pos, after := af, guard := gd } (yielded ops a.tmps) = true) (hx : a.eval x = v) (hy : a.eval y = .slice (some ⟨gb, 0, none⟩) 2 2)
    (ht : elemB P t e 1 by_ = true) (hown : w.ownsRow B e 1 v n xs) (hb : Blk w gb cs e) (hcs : cs.size = 2) (h1 : cs.toList.all (·.oneCell') = true) (hn : n ≤ 1000000) (hby : by_ ≤ 10000) (hB : B ≤ w.heap.size)
    (h : ∀ v' w', w'.ownsRow B e 1 v' (n + 2) (xs ++ cs.toList) → w.grownBy w' v.ownBlock → (v'.ownBlock = v.ownBlock ∨ v'.ownBlock = some w.heap.size) → K v' w') :
    Does P ops { dst := d, op := .call { callee := .builtin .append, args := #[x, y], argTypes := #[t, t] }, type := ty, pos := pos, after := af, guard := gd } a w K := by
  obtain ⟨i, z, hu, hi, hz, hsz, hbz, hzs, h0⟩ := elem_facts ht
  have hmul : (n + 2) * by_ ≤ 1000002 * 10000 := Nat.mul_le_mul (by omega) hby
  obtain ⟨v', w', hr, h2, h3, _, h5⟩ := run_append_own_at (P := P) w B t ty e i z 1 by_ hu hi hz hsz hbz hzs h0 v n xs hown ⟨gb, 0, none⟩ 2 2 cs.toList (by simp [hcs])
    (fun j u hj => by rw [Addr.add_mid, Nat.zero_add]; exact hb.cell (by simpa using hj)) (fun u hu => (List.all_eq_true.1 h1) u hu) (by simp only [maxLen]; omega) (by omega) hB
  refine does_val hw ?_ (h v' w' h2 h3 h5)
  unfold execOp
  simp only [resolve, invoke, builtin, Sem.run_bind, Sem.run_pure, Result.andThen_ok, List.map_toArray, List.map_cons, List.map_nil, hx, hy, hr]
end
theorem own_int {w : World} {b : Nat} {v : Value} {l : List Int} (h : w.ownsRow b 3 1 v l.length (paE l)) : Sl intE 1 w.heap.size w v l := by
  obtain ⟨h1, h2⟩ := h
  rcases h2 with ⟨rfl, h2⟩ | ⟨g, cap, cur, hv, hb, hg, hc, _, hs, ht⟩
  · have : l = [] := List.eq_nil_of_length_eq_zero h2
    subst this; exact Sl.nil
  · refine ⟨some ⟨g, 0, none⟩, cap, hv, hc, fun j x hx => ⟨g, 0, rfl, (Array.getElem?_eq_some_iff.1 hg).1, fun k u hu => ?_⟩⟩
    rw [cell_of_row w g _ cur _ _ hg]
    have hk : k < 1 := by have := get_lt hu; simpa [intE] using this
    obtain rfl : k = 0 := by omega
    have hj := get_lt hx
    have hu' : u = .int .i64 x := by simpa [intE] using hu.symm
    have hkey : (paE l)[j * 1 + 0]? = some u := by
      rw [hu', Nat.mul_one, Nat.add_zero, paE, List.getElem?_map, hx]; rfl
    have h3 : (cur.toList.take (l.length * 1))[j * 1 + 0]? = some u := by rw [ht]; exact hkey
    rw [List.getElem?_take_of_lt (by omega)] at h3
    rw [Nat.zero_add, ← Array.getElem?_toList]; exact h3
theorem use_all {l : List Int} {j : Nat} (h : l.length ≤ j) : useL l j = l.filter fun x => !(x == -1) := by unfold useL; rw [List.take_of_length_le h]
end Go.Proofs.Ytlhompedcphnnaa
/- What the reference returns for Uses. -/
namespace Go.Proofs.Ytlhompedcphnnaa
open Go.RowKit
set_option linter.unusedSimpArgs false
set_option linter.unusedVariables false

set_option maxHeartbeats 4000000 in
set_option maxRecDepth 4000 in
theorem ruses_any (i : Ins) (w : World) : Calls Try.prog 17 #[.agg (insC i)] w fun e w' => ∃ v, e = .returned v ∧ Grow w w' ∧ w'.ownsRow w.heap.size 3 1 v (useF i).length (paE (useF i)) := by
 have b0 : Below w.heap.size w w := Below.refl _ _
 refine enter (n := 59) Try.func17 rfl rfl (Nat.le_of_ble_eq_true rfl) ?_
 intro a1 hA2
 refine wp_seq ?_
 refine wp_region_lit ?_
 refine q_step hA2 rfl (d_box (wn rfl) (hA2.ev rfl) ?_)
 intro g3 w4 eg5 hG6 (m7 : Blk w4 g3 (insC i) 23)
 have ge8 : w.heap.size ≤ g3 := eg5 ▸ b0.size
 have b9 := below_grow b0 hG6 b0.size
 intro a10 hA11
 refine q_step hA11 rfl (d_assign (wn rfl) (hA11.ev rfl) ?_)
 intro a12 hA13
 refine q_end ?_
 have hA14 : St 59 [(1, (.pointer (some ⟨g3, 0, none⟩))), (2, (.slice none 0 0))] a12 := hA13.cut _ (fm_cons (hA13.get 1 _ rfl) (fm_cons (hA13.get 2 _ rfl) fm_nil))
 refine t_norm ?_
 refine wp_seq ?_
 refine wp_region_lit ?_
 refine q_step hA14 rfl (d_assign (wn rfl) (hA14.ev rfl) ?_)
 intro a15 hA16
 refine q_end ?_
 have hA17 : St 59 [(1, (.pointer (some ⟨g3, 0, none⟩))), (2, (.slice none 0 0)), (3, (.slice none 0 0))] a15 := hA16.cut _ (fm_cons (hA16.get 1 _ rfl) (fm_cons (hA16.get 2 _ rfl) (fm_cons (hA16.get 3 _ rfl) fm_nil)))
 refine t_norm ?_
 refine wp_seq ?_
 refine wp_seq ?_
 refine wp_region_lit ?_
 refine q_step hA17 rfl (d_fieldAddr (wn rfl) (hA17.ev rfl) fo23_0 ?_)
 intro a18 hA19
 refine q_step hA19 rfl (d_load (v := (.int .i64 i.op)) (wn rfl) (hA19.ev rfl) one3 (m7.cell rfl) ?_)
 intro a20 hA21
 refine q_end ?_
 have hA22 : St 59 [(1, (.pointer (some ⟨g3, 0, none⟩))), (2, (.slice none 0 0)), (3, (.slice none 0 0)), (7, (.int .i64 i.op))] a20 := hA21.cut _ (fm_cons (hA21.get 1 _ rfl) (fm_cons (hA21.get 2 _ rfl) (fm_cons (hA21.get 3 _ rfl) (fm_cons (hA21.get 7 _ rfl) fm_nil))))
 refine t_norm ?_
 refine wp_block ?_
 refine wp_seq ?_
 refine wp_seq ?_
 refine wp_region_lit ?_
 rcases Bool.eq_false_or_eq_true (i.op == 2) with hb23 | hb23
 ·skip
  have hq24 := eq_of_beq hb23
  refine q_step hA22 rfl (d_bin (wn rfl) (hA22.ev rfl) (hA22.ev rfl) (b_eq _ _ i.op 2 true _ hb23) ?_)
  intro a25 hA26
  refine q_step hA26 rfl (d_assign (wn rfl) (hA26.ev rfl) ?_)
  intro a27 hA28
  refine q_end ?_
  have hA29 : St 59 [(1, (.pointer (some ⟨g3, 0, none⟩))), (2, (.slice none 0 0)), (3, (.slice none 0 0)), (7, (.int .i64 i.op)), (8, (.bool true))] a27 := hA28.cut _ (fm_cons (hA28.get 1 _ rfl) (fm_cons (hA28.get 2 _ rfl) (fm_cons (hA28.get 3 _ rfl) (fm_cons (hA28.get 7 _ rfl) (fm_cons (hA28.get 8 _ rfl) fm_nil)))))
  refine t_norm ?_
  refine c_true hA29 rfl ?_
  refine wp_skip ?_
  refine t_norm ?_
  refine c_true hA29 rfl ?_
  refine wp_region_lit ?_
  refine q_step hA29 rfl (d_move (wn rfl) (hA29.ev rfl) ?_)
  intro a30 hA31
  refine q_step hA31 rfl (d_fieldAddr (wn rfl) (hA31.ev rfl) fo23_2 ?_)
  intro a32 hA33
  refine q_step hA33 rfl (d_load (v := (.int .i64 i.a)) (wn rfl) (hA33.ev rfl) one3 (m7.cell rfl) ?_)
  intro a34 hA35
  refine q_step hA35 rfl (d_slice1 (wn rfl) (hA35.ev rfl) elm30 rfl (by decide) ?_)
  intro g36 w37 eg38 hG39 (m40 : Blk w37 g36 #[.int .i64 i.a] 3)
  have ge41 : w.heap.size ≤ g36 := eg38 ▸ b9.size
  have n42 : g3 ≠ g36 := fun h => Nat.lt_irrefl _ ((h.trans eg38) ▸ m7.lt)
  have m43 := m7.grow hG39
  have b44 := below_grow b9 hG39 b9.size
  intro a45 hA46
  refine q_step hA46 rfl (d_append (wn rfl) (hA46.ev rfl) (hA46.ev rfl) elm30 (⟨rfl, .inl ⟨rfl, rfl⟩⟩ : (w37).ownsRow w.heap.size 3 1 (.slice none 0 0) 0 []) m40 rfl rfl (by omega) (by decide) b44.size ?_)
  intro v47 w48 ho49 hg50 hl51
  have b52 := below_by b44 hg50 b44.size (fun k hk => (own_lt (⟨rfl, .inl ⟨rfl, rfl⟩⟩ : (w37).ownsRow w.heap.size 3 1 (.slice none 0 0) 0 []) k hk).1)
  have m53 := m43.by hg50 (fun h => nomatch h)
  have off54 := lies_ne hl51 (fun h => nomatch h) m43.lt
  intro a55 hA56
  refine q_step hA56 rfl (d_assign (wn rfl) (hA56.ev rfl) ?_)
  intro a57 hA58
  refine q_end ?_
  have hA59 : St 59 [(1, (.pointer (some ⟨g3, 0, none⟩))), (2, (.slice none 0 0)), (3, v47)] a57 := hA58.cut _ (fm_cons (hA58.get 1 _ rfl) (fm_cons (hA58.get 2 _ rfl) (fm_cons (hA58.get 3 _ rfl) fm_nil)))
  refine i_norm ?_
  refine t_norm ?_
  refine wp_seq ?_
  refine wp_seq ?_
  refine wp_region_lit ?_
  refine q_step hA59 rfl (d_loadRow (cs := (insC i)) (wn rfl) (hA59.ev rfl) row23 m53 ?_)
  intro a60 hA61
  refine q_step hA61 rfl (d_call (wn rfl) ent32 (map1 (hA61.ev rfl)) (memory_any i w48) ?_)
  rintro e65 w62 ⟨he64, hG63⟩
  have m66 := m53.grow hG63
  have b67 := below_grow b52 hG63 b52.size
  have ho68 := own_grow hG63 ho49
  refine ⟨.bool false, he64.trans (ret_bool (by simp [opB, rdB, wrB, eq_of_beq hb23])), ?_⟩
  intro a69 hA70
  refine q_end ?_
  have hA71 : St 59 [(1, (.pointer (some ⟨g3, 0, none⟩))), (2, (.slice none 0 0)), (3, v47), (34, (.bool false))] a69 := hA70.cut _ (fm_cons (hA70.get 1 _ rfl) (fm_cons (hA70.get 2 _ rfl) (fm_cons (hA70.get 3 _ rfl) (fm_cons (hA70.get 34 _ rfl) fm_nil))))
  refine t_norm ?_
  refine c_false hA71 rfl ?_
  refine wp_skip ?_
  refine t_norm ?_
  refine wp_seq ?_
  refine wp_region_lit ?_
  refine q_step hA71 rfl (d_assign (wn rfl) (hA71.ev rfl) ?_)
  intro a72 hA73
  refine q_end ?_
  have hA74 : St 59 [(2, (.slice none 0 0)), (3, v47), (4, (.slice none 0 0))] a72 := hA73.cut _ (fm_cons (hA73.get 2 _ rfl) (fm_cons (hA73.get 3 _ rfl) (fm_cons (hA73.get 4 _ rfl) fm_nil)))
  refine t_norm ?_
  refine wp_seq ?_
  refine wp_seq ?_
  refine wp_region_lit ?_
  refine q_step hA74 rfl (d_assign (wn rfl) (hA74.ev rfl) ?_)
  intro a75 hA76
  refine q_end ?_
  have hA77 : St 59 [(2, (.slice none 0 0)), (3, v47), (4, (.slice none 0 0)), (5, (.int .i64 0))] a75 := hA76.cut _ (fm_cons (hA76.get 2 _ rfl) (fm_cons (hA76.get 3 _ rfl) (fm_cons (hA76.get 4 _ rfl) (fm_cons (hA76.get 5 _ rfl) fm_nil))))
  refine t_norm ?_
  refine wp_block ?_
  have hs78 : Sl intE 1 w62.heap.size w62 v47 [i.a] := own_int (l := [i.a]) ho68
  obtain ⟨L79, hL80⟩ : ∃ L : List Int, L = [i.a] := ⟨_, rfl⟩
  have hn81 : L79.length ≤ 3 := by rw [hL80]; simp
  rw [← hL80] at hs78
  refine loop_by (fun m a' w' => ∃ (j : Nat) (v : Value), m = L79.length - j ∧ j ≤ L79.length ∧ St 59 [(3, v47), (4, v), (5, (.int .i64 ((j : Nat) : Int)))] a' ∧ Below w62.heap.size w62 w' ∧ w'.ownsRow w62.heap.size 3 1 v (useL L79 j).length (paE (useL L79 j))) (L79.length - 0) ⟨0, .slice none 0 0, rfl, Nat.zero_le _, hA77.cut _ (fm_cons (hA77.get 3 _ rfl) (fm_cons (hA77.get 4 _ rfl) (fm_cons (hA77.get 5 _ rfl) fm_nil))), Below.refl _ _, (by rw [show useL L79 0 = [] by simp [useL]]; exact ⟨rfl, .inl ⟨rfl, rfl⟩⟩)⟩ ?_
  rintro m82 a83 w84 ⟨j85, v86, hm87, hj88, hA89, b90, ho91⟩
  have hul := use_len L79 j85
  refine wp_seq ?_
  refine wp_seq ?_
  refine wp_region_lit ?_
  refine q_step hA89 rfl (d_move (wn rfl) (hA89.ev rfl) ?_)
  intro a92 hA93
  refine q_step hA93 rfl (d_move (wn rfl) (hA93.ev rfl) ?_)
  intro a94 hA95
  refine q_step hA95 rfl (d_len (n := L79.length) (wn rfl) (hA95.ev rfl) slc30 hs78.form ?_)
  intro a96 hA97
  rcases Bool.eq_false_or_eq_true (decide (((j85 : Nat) : Int) < ((L79.length : Nat) : Int))) with hb98 | hb98
  ·skip
   have hq99 := of_decide_eq_true hb98
   refine q_step hA97 rfl (d_bin (wn rfl) (hA97.ev rfl) (hA97.ev rfl) (b_lt _ _ ((j85 : Nat) : Int) ((L79.length : Nat) : Int) true _ hb98) ?_)
   intro a100 hA101
   refine q_end ?_
   have hA102 : St 59 [(3, v47), (4, v86), (5, (.int .i64 ((j85 : Nat) : Int))), (43, (.bool true))] a100 := hA101.cut _ (fm_cons (hA101.get 3 _ rfl) (fm_cons (hA101.get 4 _ rfl) (fm_cons (hA101.get 5 _ rfl) (fm_cons (hA101.get 43 _ rfl) fm_nil))))
   refine t_norm ?_
   refine c_true hA102 rfl ?_
   refine wp_skip ?_
   refine t_norm ?_
   refine wp_seq ?_
   refine wp_block ?_
   refine wp_seq ?_
   refine wp_region_lit ?_
   refine q_step hA102 rfl (d_move (wn rfl) (hA102.ev rfl) ?_)
   intro a103 hA104
   refine q_step hA104 rfl (d_move (wn rfl) (hA104.ev rfl) ?_)
   intro a105 hA106
   obtain ⟨y107, hy108⟩ : ∃ y107, L79[j85]? = some y107 := ⟨_, List.getElem?_eq_getElem (show j85 < L79.length by omega)⟩
   obtain ⟨b109, o110, lt111, hr112, hix113⟩ := (hs78.below b90).at hy108
   refine q_step hA106 rfl (d_indexAt (j := j85) (wn rfl) (hA106.ev rfl) (hA106.ev rfl) slc30 hix113 (get_lt hy108) ?_)
   intro a114 hA115
   refine q_step hA115 rfl (d_load (v := (.int .i64 y107)) (wn rfl) (hA115.ev rfl) one3 (hr112 0 _ rfl) ?_)
   intro a116 hA117
   rcases Bool.eq_false_or_eq_true (y107 == (-1)) with hb118 | hb118
   ·skip
    have hq119 := eq_of_beq hb118
    refine q_step hA117 rfl (d_bin (wn rfl) (hA117.ev rfl) (hA117.ev rfl) (b_ne _ _ y107 (-1) false _ (notof hb118)) ?_)
    intro a120 hA121
    refine q_end ?_
    have hA122 : St 59 [(3, v47), (4, v86), (5, (.int .i64 ((j85 : Nat) : Int))), (50, (.bool false))] a120 := hA121.cut _ (fm_cons (hA121.get 3 _ rfl) (fm_cons (hA121.get 4 _ rfl) (fm_cons (hA121.get 5 _ rfl) (fm_cons (hA121.get 50 _ rfl) fm_nil))))
    refine t_norm ?_
    refine c_false hA122 rfl ?_
    refine wp_skip ?_
    refine i_norm ?_
    refine t_norm ?_
    refine wp_region_lit ?_
    refine q_step hA122 rfl (d_move (wn rfl) (hA122.ev rfl) ?_)
    intro a123 hA124
    refine q_step hA124 rfl (d_bin (wn rfl) (hA124.ev rfl) (hA124.ev rfl) (b_add _ _ ((j85 : Nat) : Int) 1 _ (by omega) (by omega)) ?_)
    intro a125 hA126
    refine q_step hA126 rfl (d_assign (wn rfl) (hA126.ev rfl) ?_)
    intro a127 hA128
    refine q_end ?_
    have hA129 : St 59 [(3, v47), (4, v86), (5, (.int .i64 (((j85 : Nat) : Int) + 1)))] a127 := hA128.cut _ (fm_cons (hA128.get 3 _ rfl) (fm_cons (hA128.get 4 _ rfl) (fm_cons (hA128.get 5 _ rfl) fm_nil)))
    refine t_norm ?_
    exact ⟨L79.length - (j85 + 1), (by have := get_lt hy108; rw [hm87]; omega), j85 + 1, v86, rfl, (by have := get_lt hy108; omega), hA129.cut _ (fm_cons (hA129.get 3 _ rfl) (fm_cons (hA129.get 4 _ rfl) (fm_cons ((hA129.get 5 _ rfl).trans (congrArg (Value.int .i64) (by omega))) fm_nil))), b90, (by rw [use_no hy108 hb118]; exact ho91)⟩
   ·skip
    have hq130 := ne_of_beq hb118
    refine q_step hA117 rfl (d_bin (wn rfl) (hA117.ev rfl) (hA117.ev rfl) (b_ne _ _ y107 (-1) true _ (notof hb118)) ?_)
    intro a131 hA132
    refine q_end ?_
    have hA133 : St 59 [(3, v47), (4, v86), (5, (.int .i64 ((j85 : Nat) : Int))), (50, (.bool true))] a131 := hA132.cut _ (fm_cons (hA132.get 3 _ rfl) (fm_cons (hA132.get 4 _ rfl) (fm_cons (hA132.get 5 _ rfl) (fm_cons (hA132.get 50 _ rfl) fm_nil))))
    refine t_norm ?_
    refine c_true hA133 rfl ?_
    refine wp_region_lit ?_
    refine q_step hA133 rfl (d_move (wn rfl) (hA133.ev rfl) ?_)
    intro a134 hA135
    refine q_step hA135 rfl (d_move (wn rfl) (hA135.ev rfl) ?_)
    intro a136 hA137
    refine q_step hA137 rfl (d_move (wn rfl) (hA137.ev rfl) ?_)
    intro a138 hA139
    obtain ⟨b140, o141, lt142, hr143, hix144⟩ := (hs78.below b90).at hy108
    refine q_step hA139 rfl (d_indexAt (j := j85) (wn rfl) (hA139.ev rfl) (hA139.ev rfl) slc30 hix144 (get_lt hy108) ?_)
    intro a145 hA146
    refine q_step hA146 rfl (d_load (v := (.int .i64 y107)) (wn rfl) (hA146.ev rfl) one3 (hr143 0 _ rfl) ?_)
    intro a147 hA148
    refine q_step hA148 rfl (d_slice1 (wn rfl) (hA148.ev rfl) elm30 rfl (by decide) ?_)
    intro g149 w150 eg151 hG152 (m153 : Blk w150 g149 #[.int .i64 y107] 3)
    have ge154 : w62.heap.size ≤ g149 := eg151 ▸ b90.size
    have off155 := own_new ho91 eg151
    have hr156 := range_below hr143 hG152 (Nat.lt_of_lt_of_le lt142 b90.size)
    have b157 := below_grow b90 hG152 b90.size
    have ho158 := own_grow hG152 ho91
    intro a159 hA160
    refine q_step hA160 rfl (d_append (wn rfl) (hA160.ev rfl) (hA160.ev rfl) elm30 ho158 m153 rfl rfl (by omega) (by decide) b157.size ?_)
    intro v161 w162 ho163 hg164 hl165
    have b166 := below_by b157 hg164 b157.size (fun k hk => (own_lt ho158 k hk).1)
    intro a167 hA168
    refine q_step hA168 rfl (d_assign (wn rfl) (hA168.ev rfl) ?_)
    intro a169 hA170
    refine q_end ?_
    have hA171 : St 59 [(3, v47), (4, v161), (5, (.int .i64 ((j85 : Nat) : Int)))] a169 := hA170.cut _ (fm_cons (hA170.get 3 _ rfl) (fm_cons (hA170.get 4 _ rfl) (fm_cons (hA170.get 5 _ rfl) fm_nil)))
    refine i_norm ?_
    refine t_norm ?_
    refine wp_region_lit ?_
    refine q_step hA171 rfl (d_move (wn rfl) (hA171.ev rfl) ?_)
    intro a172 hA173
    refine q_step hA173 rfl (d_bin (wn rfl) (hA173.ev rfl) (hA173.ev rfl) (b_add _ _ ((j85 : Nat) : Int) 1 _ (by omega) (by omega)) ?_)
    intro a174 hA175
    refine q_step hA175 rfl (d_assign (wn rfl) (hA175.ev rfl) ?_)
    intro a176 hA177
    refine q_end ?_
    have hA178 : St 59 [(3, v47), (4, v161), (5, (.int .i64 (((j85 : Nat) : Int) + 1)))] a176 := hA177.cut _ (fm_cons (hA177.get 3 _ rfl) (fm_cons (hA177.get 4 _ rfl) (fm_cons (hA177.get 5 _ rfl) fm_nil)))
    refine t_norm ?_
    exact ⟨L79.length - (j85 + 1), (by have := get_lt hy108; rw [hm87]; omega), j85 + 1, v161, rfl, (by have := get_lt hy108; omega), hA178.cut _ (fm_cons (hA178.get 3 _ rfl) (fm_cons (hA178.get 4 _ rfl) (fm_cons ((hA178.get 5 _ rfl).trans (congrArg (Value.int .i64) (by omega))) fm_nil))), b166, (by rw [use_yes hy108 hb118, List.length_append, ← paE_snoc]; exact ho163)⟩
  ·skip
   have hq179 := of_decide_eq_false hb98
   refine q_step hA97 rfl (d_bin (wn rfl) (hA97.ev rfl) (hA97.ev rfl) (b_lt _ _ ((j85 : Nat) : Int) ((L79.length : Nat) : Int) false _ hb98) ?_)
   intro a180 hA181
   refine q_end ?_
   have hA182 : St 59 [(3, v47), (4, v86), (5, (.int .i64 ((j85 : Nat) : Int))), (43, (.bool false))] a180 := hA181.cut _ (fm_cons (hA181.get 3 _ rfl) (fm_cons (hA181.get 4 _ rfl) (fm_cons (hA181.get 5 _ rfl) (fm_cons (hA181.get 43 _ rfl) fm_nil))))
   refine t_norm ?_
   refine c_false hA182 rfl ?_
   refine wp_exit ?_
   refine t_exit ?_
   refine t_exit ?_
   refine i_here ?_
   refine t_norm ?_
   refine wp_seq ?_
   refine wp_region_lit ?_
   refine q_step hA182 rfl (d_move (wn rfl) (hA182.ev rfl) ?_)
   intro a183 hA184
   refine q_step hA184 rfl (d_assign (wn rfl) (hA184.ev rfl) ?_)
   intro a185 hA186
   refine q_end ?_
   have hA187 : St 59 [(2, v86)] a185 := hA186.cut _ (fm_cons (hA186.get 2 _ rfl) fm_nil)
   refine t_norm ?_
   refine wp_ret ?_
   refine ret1 rfl hA187 (v := v86) rfl ?_
   have he188 : useL L79 j85 = useF i := by rw [use_all (by omega), hL80]; simp [useF, useX, plainF, List.filter_cons, eq_of_beq hb23, opB, rdB, wrB]
   exact ⟨_, rfl, Grow.trans b67 b90, (by rw [← he188]; exact own_le ho91 b67.size)⟩
 ·skip
  have hq189 := ne_of_beq hb23
  refine q_step hA22 rfl (d_bin (wn rfl) (hA22.ev rfl) (hA22.ev rfl) (b_eq _ _ i.op 2 false _ hb23) ?_)
  intro a190 hA191
  refine q_step hA191 rfl (d_assign (wn rfl) (hA191.ev rfl) ?_)
  intro a192 hA193
  refine q_end ?_
  have hA194 : St 59 [(1, (.pointer (some ⟨g3, 0, none⟩))), (2, (.slice none 0 0)), (3, (.slice none 0 0)), (7, (.int .i64 i.op)), (8, (.bool false))] a192 := hA193.cut _ (fm_cons (hA193.get 1 _ rfl) (fm_cons (hA193.get 2 _ rfl) (fm_cons (hA193.get 3 _ rfl) (fm_cons (hA193.get 7 _ rfl) (fm_cons (hA193.get 8 _ rfl) fm_nil)))))
  refine t_norm ?_
  refine c_false hA194 rfl ?_
  refine wp_seq ?_
  refine wp_region_lit ?_
  rcases Bool.eq_false_or_eq_true (i.op == 9) with hb195 | hb195
  ·skip
   have hq196 := eq_of_beq hb195
   refine q_step hA194 rfl (d_bin (wn rfl) (hA194.ev rfl) (hA194.ev rfl) (b_eq _ _ i.op 9 true _ hb195) ?_)
   intro a197 hA198
   refine q_step hA198 rfl (d_assign (wn rfl) (hA198.ev rfl) ?_)
   intro a199 hA200
   refine q_end ?_
   have hA201 : St 59 [(1, (.pointer (some ⟨g3, 0, none⟩))), (2, (.slice none 0 0)), (3, (.slice none 0 0)), (7, (.int .i64 i.op)), (8, (.bool true))] a199 := hA200.cut _ (fm_cons (hA200.get 1 _ rfl) (fm_cons (hA200.get 2 _ rfl) (fm_cons (hA200.get 3 _ rfl) (fm_cons (hA200.get 7 _ rfl) (fm_cons (hA200.get 8 _ rfl) fm_nil)))))
   refine t_norm ?_
   refine c_true hA201 rfl ?_
   refine wp_skip ?_
   refine t_norm ?_
   refine c_true hA201 rfl ?_
   refine wp_region_lit ?_
   refine q_step hA201 rfl (d_move (wn rfl) (hA201.ev rfl) ?_)
   intro a202 hA203
   refine q_step hA203 rfl (d_fieldAddr (wn rfl) (hA203.ev rfl) fo23_2 ?_)
   intro a204 hA205
   refine q_step hA205 rfl (d_load (v := (.int .i64 i.a)) (wn rfl) (hA205.ev rfl) one3 (m7.cell rfl) ?_)
   intro a206 hA207
   refine q_step hA207 rfl (d_slice1 (wn rfl) (hA207.ev rfl) elm30 rfl (by decide) ?_)
   intro g208 w209 eg210 hG211 (m212 : Blk w209 g208 #[.int .i64 i.a] 3)
   have ge213 : w.heap.size ≤ g208 := eg210 ▸ b9.size
   have n214 : g3 ≠ g208 := fun h => Nat.lt_irrefl _ ((h.trans eg210) ▸ m7.lt)
   have m215 := m7.grow hG211
   have b216 := below_grow b9 hG211 b9.size
   intro a217 hA218
   refine q_step hA218 rfl (d_append (wn rfl) (hA218.ev rfl) (hA218.ev rfl) elm30 (⟨rfl, .inl ⟨rfl, rfl⟩⟩ : (w209).ownsRow w.heap.size 3 1 (.slice none 0 0) 0 []) m212 rfl rfl (by omega) (by decide) b216.size ?_)
   intro v219 w220 ho221 hg222 hl223
   have b224 := below_by b216 hg222 b216.size (fun k hk => (own_lt (⟨rfl, .inl ⟨rfl, rfl⟩⟩ : (w209).ownsRow w.heap.size 3 1 (.slice none 0 0) 0 []) k hk).1)
   have m225 := m215.by hg222 (fun h => nomatch h)
   have off226 := lies_ne hl223 (fun h => nomatch h) m215.lt
   intro a227 hA228
   refine q_step hA228 rfl (d_assign (wn rfl) (hA228.ev rfl) ?_)
   intro a229 hA230
   refine q_end ?_
   have hA231 : St 59 [(1, (.pointer (some ⟨g3, 0, none⟩))), (2, (.slice none 0 0)), (3, v219)] a229 := hA230.cut _ (fm_cons (hA230.get 1 _ rfl) (fm_cons (hA230.get 2 _ rfl) (fm_cons (hA230.get 3 _ rfl) fm_nil)))
   refine i_norm ?_
   refine t_norm ?_
   refine wp_seq ?_
   refine wp_seq ?_
   refine wp_region_lit ?_
   refine q_step hA231 rfl (d_loadRow (cs := (insC i)) (wn rfl) (hA231.ev rfl) row23 m225 ?_)
   intro a232 hA233
   refine q_step hA233 rfl (d_call (wn rfl) ent32 (map1 (hA233.ev rfl)) (memory_any i w220) ?_)
   rintro e237 w234 ⟨he236, hG235⟩
   have m238 := m225.grow hG235
   have b239 := below_grow b224 hG235 b224.size
   have ho240 := own_grow hG235 ho221
   refine ⟨.bool false, he236.trans (ret_bool (by simp [opB, rdB, wrB, eq_of_beq hb195])), ?_⟩
   intro a241 hA242
   refine q_end ?_
   have hA243 : St 59 [(1, (.pointer (some ⟨g3, 0, none⟩))), (2, (.slice none 0 0)), (3, v219), (34, (.bool false))] a241 := hA242.cut _ (fm_cons (hA242.get 1 _ rfl) (fm_cons (hA242.get 2 _ rfl) (fm_cons (hA242.get 3 _ rfl) (fm_cons (hA242.get 34 _ rfl) fm_nil))))
   refine t_norm ?_
   refine c_false hA243 rfl ?_
   refine wp_skip ?_
   refine t_norm ?_
   refine wp_seq ?_
   refine wp_region_lit ?_
   refine q_step hA243 rfl (d_assign (wn rfl) (hA243.ev rfl) ?_)
   intro a244 hA245
   refine q_end ?_
   have hA246 : St 59 [(2, (.slice none 0 0)), (3, v219), (4, (.slice none 0 0))] a244 := hA245.cut _ (fm_cons (hA245.get 2 _ rfl) (fm_cons (hA245.get 3 _ rfl) (fm_cons (hA245.get 4 _ rfl) fm_nil)))
   refine t_norm ?_
   refine wp_seq ?_
   refine wp_seq ?_
   refine wp_region_lit ?_
   refine q_step hA246 rfl (d_assign (wn rfl) (hA246.ev rfl) ?_)
   intro a247 hA248
   refine q_end ?_
   have hA249 : St 59 [(2, (.slice none 0 0)), (3, v219), (4, (.slice none 0 0)), (5, (.int .i64 0))] a247 := hA248.cut _ (fm_cons (hA248.get 2 _ rfl) (fm_cons (hA248.get 3 _ rfl) (fm_cons (hA248.get 4 _ rfl) (fm_cons (hA248.get 5 _ rfl) fm_nil))))
   refine t_norm ?_
   refine wp_block ?_
   have hs250 : Sl intE 1 w234.heap.size w234 v219 [i.a] := own_int (l := [i.a]) ho240
   obtain ⟨L251, hL252⟩ : ∃ L : List Int, L = [i.a] := ⟨_, rfl⟩
   have hn253 : L251.length ≤ 3 := by rw [hL252]; simp
   rw [← hL252] at hs250
   refine loop_by (fun m a' w' => ∃ (j : Nat) (v : Value), m = L251.length - j ∧ j ≤ L251.length ∧ St 59 [(3, v219), (4, v), (5, (.int .i64 ((j : Nat) : Int)))] a' ∧ Below w234.heap.size w234 w' ∧ w'.ownsRow w234.heap.size 3 1 v (useL L251 j).length (paE (useL L251 j))) (L251.length - 0) ⟨0, .slice none 0 0, rfl, Nat.zero_le _, hA249.cut _ (fm_cons (hA249.get 3 _ rfl) (fm_cons (hA249.get 4 _ rfl) (fm_cons (hA249.get 5 _ rfl) fm_nil))), Below.refl _ _, (by rw [show useL L251 0 = [] by simp [useL]]; exact ⟨rfl, .inl ⟨rfl, rfl⟩⟩)⟩ ?_
   rintro m254 a255 w256 ⟨j257, v258, hm259, hj260, hA261, b262, ho263⟩
   have hul := use_len L251 j257
   refine wp_seq ?_
   refine wp_seq ?_
   refine wp_region_lit ?_
   refine q_step hA261 rfl (d_move (wn rfl) (hA261.ev rfl) ?_)
   intro a264 hA265
   refine q_step hA265 rfl (d_move (wn rfl) (hA265.ev rfl) ?_)
   intro a266 hA267
   refine q_step hA267 rfl (d_len (n := L251.length) (wn rfl) (hA267.ev rfl) slc30 hs250.form ?_)
   intro a268 hA269
   rcases Bool.eq_false_or_eq_true (decide (((j257 : Nat) : Int) < ((L251.length : Nat) : Int))) with hb270 | hb270
   ·skip
    have hq271 := of_decide_eq_true hb270
    refine q_step hA269 rfl (d_bin (wn rfl) (hA269.ev rfl) (hA269.ev rfl) (b_lt _ _ ((j257 : Nat) : Int) ((L251.length : Nat) : Int) true _ hb270) ?_)
    intro a272 hA273
    refine q_end ?_
    have hA274 : St 59 [(3, v219), (4, v258), (5, (.int .i64 ((j257 : Nat) : Int))), (43, (.bool true))] a272 := hA273.cut _ (fm_cons (hA273.get 3 _ rfl) (fm_cons (hA273.get 4 _ rfl) (fm_cons (hA273.get 5 _ rfl) (fm_cons (hA273.get 43 _ rfl) fm_nil))))
    refine t_norm ?_
    refine c_true hA274 rfl ?_
    refine wp_skip ?_
    refine t_norm ?_
    refine wp_seq ?_
    refine wp_block ?_
    refine wp_seq ?_
    refine wp_region_lit ?_
    refine q_step hA274 rfl (d_move (wn rfl) (hA274.ev rfl) ?_)
    intro a275 hA276
    refine q_step hA276 rfl (d_move (wn rfl) (hA276.ev rfl) ?_)
    intro a277 hA278
    obtain ⟨y279, hy280⟩ : ∃ y279, L251[j257]? = some y279 := ⟨_, List.getElem?_eq_getElem (show j257 < L251.length by omega)⟩
    obtain ⟨b281, o282, lt283, hr284, hix285⟩ := (hs250.below b262).at hy280
    refine q_step hA278 rfl (d_indexAt (j := j257) (wn rfl) (hA278.ev rfl) (hA278.ev rfl) slc30 hix285 (get_lt hy280) ?_)
    intro a286 hA287
    refine q_step hA287 rfl (d_load (v := (.int .i64 y279)) (wn rfl) (hA287.ev rfl) one3 (hr284 0 _ rfl) ?_)
    intro a288 hA289
    rcases Bool.eq_false_or_eq_true (y279 == (-1)) with hb290 | hb290
    ·skip
     have hq291 := eq_of_beq hb290
     refine q_step hA289 rfl (d_bin (wn rfl) (hA289.ev rfl) (hA289.ev rfl) (b_ne _ _ y279 (-1) false _ (notof hb290)) ?_)
     intro a292 hA293
     refine q_end ?_
     have hA294 : St 59 [(3, v219), (4, v258), (5, (.int .i64 ((j257 : Nat) : Int))), (50, (.bool false))] a292 := hA293.cut _ (fm_cons (hA293.get 3 _ rfl) (fm_cons (hA293.get 4 _ rfl) (fm_cons (hA293.get 5 _ rfl) (fm_cons (hA293.get 50 _ rfl) fm_nil))))
     refine t_norm ?_
     refine c_false hA294 rfl ?_
     refine wp_skip ?_
     refine i_norm ?_
     refine t_norm ?_
     refine wp_region_lit ?_
     refine q_step hA294 rfl (d_move (wn rfl) (hA294.ev rfl) ?_)
     intro a295 hA296
     refine q_step hA296 rfl (d_bin (wn rfl) (hA296.ev rfl) (hA296.ev rfl) (b_add _ _ ((j257 : Nat) : Int) 1 _ (by omega) (by omega)) ?_)
     intro a297 hA298
     refine q_step hA298 rfl (d_assign (wn rfl) (hA298.ev rfl) ?_)
     intro a299 hA300
     refine q_end ?_
     have hA301 : St 59 [(3, v219), (4, v258), (5, (.int .i64 (((j257 : Nat) : Int) + 1)))] a299 := hA300.cut _ (fm_cons (hA300.get 3 _ rfl) (fm_cons (hA300.get 4 _ rfl) (fm_cons (hA300.get 5 _ rfl) fm_nil)))
     refine t_norm ?_
     exact ⟨L251.length - (j257 + 1), (by have := get_lt hy280; rw [hm259]; omega), j257 + 1, v258, rfl, (by have := get_lt hy280; omega), hA301.cut _ (fm_cons (hA301.get 3 _ rfl) (fm_cons (hA301.get 4 _ rfl) (fm_cons ((hA301.get 5 _ rfl).trans (congrArg (Value.int .i64) (by omega))) fm_nil))), b262, (by rw [use_no hy280 hb290]; exact ho263)⟩
    ·skip
     have hq302 := ne_of_beq hb290
     refine q_step hA289 rfl (d_bin (wn rfl) (hA289.ev rfl) (hA289.ev rfl) (b_ne _ _ y279 (-1) true _ (notof hb290)) ?_)
     intro a303 hA304
     refine q_end ?_
     have hA305 : St 59 [(3, v219), (4, v258), (5, (.int .i64 ((j257 : Nat) : Int))), (50, (.bool true))] a303 := hA304.cut _ (fm_cons (hA304.get 3 _ rfl) (fm_cons (hA304.get 4 _ rfl) (fm_cons (hA304.get 5 _ rfl) (fm_cons (hA304.get 50 _ rfl) fm_nil))))
     refine t_norm ?_
     refine c_true hA305 rfl ?_
     refine wp_region_lit ?_
     refine q_step hA305 rfl (d_move (wn rfl) (hA305.ev rfl) ?_)
     intro a306 hA307
     refine q_step hA307 rfl (d_move (wn rfl) (hA307.ev rfl) ?_)
     intro a308 hA309
     refine q_step hA309 rfl (d_move (wn rfl) (hA309.ev rfl) ?_)
     intro a310 hA311
     obtain ⟨b312, o313, lt314, hr315, hix316⟩ := (hs250.below b262).at hy280
     refine q_step hA311 rfl (d_indexAt (j := j257) (wn rfl) (hA311.ev rfl) (hA311.ev rfl) slc30 hix316 (get_lt hy280) ?_)
     intro a317 hA318
     refine q_step hA318 rfl (d_load (v := (.int .i64 y279)) (wn rfl) (hA318.ev rfl) one3 (hr315 0 _ rfl) ?_)
     intro a319 hA320
     refine q_step hA320 rfl (d_slice1 (wn rfl) (hA320.ev rfl) elm30 rfl (by decide) ?_)
     intro g321 w322 eg323 hG324 (m325 : Blk w322 g321 #[.int .i64 y279] 3)
     have ge326 : w234.heap.size ≤ g321 := eg323 ▸ b262.size
     have off327 := own_new ho263 eg323
     have hr328 := range_below hr315 hG324 (Nat.lt_of_lt_of_le lt314 b262.size)
     have b329 := below_grow b262 hG324 b262.size
     have ho330 := own_grow hG324 ho263
     intro a331 hA332
     refine q_step hA332 rfl (d_append (wn rfl) (hA332.ev rfl) (hA332.ev rfl) elm30 ho330 m325 rfl rfl (by omega) (by decide) b329.size ?_)
     intro v333 w334 ho335 hg336 hl337
     have b338 := below_by b329 hg336 b329.size (fun k hk => (own_lt ho330 k hk).1)
     intro a339 hA340
     refine q_step hA340 rfl (d_assign (wn rfl) (hA340.ev rfl) ?_)
     intro a341 hA342
     refine q_end ?_
     have hA343 : St 59 [(3, v219), (4, v333), (5, (.int .i64 ((j257 : Nat) : Int)))] a341 := hA342.cut _ (fm_cons (hA342.get 3 _ rfl) (fm_cons (hA342.get 4 _ rfl) (fm_cons (hA342.get 5 _ rfl) fm_nil)))
     refine i_norm ?_
     refine t_norm ?_
     refine wp_region_lit ?_
     refine q_step hA343 rfl (d_move (wn rfl) (hA343.ev rfl) ?_)
     intro a344 hA345
     refine q_step hA345 rfl (d_bin (wn rfl) (hA345.ev rfl) (hA345.ev rfl) (b_add _ _ ((j257 : Nat) : Int) 1 _ (by omega) (by omega)) ?_)
     intro a346 hA347
     refine q_step hA347 rfl (d_assign (wn rfl) (hA347.ev rfl) ?_)
     intro a348 hA349
     refine q_end ?_
     have hA350 : St 59 [(3, v219), (4, v333), (5, (.int .i64 (((j257 : Nat) : Int) + 1)))] a348 := hA349.cut _ (fm_cons (hA349.get 3 _ rfl) (fm_cons (hA349.get 4 _ rfl) (fm_cons (hA349.get 5 _ rfl) fm_nil)))
     refine t_norm ?_
     exact ⟨L251.length - (j257 + 1), (by have := get_lt hy280; rw [hm259]; omega), j257 + 1, v333, rfl, (by have := get_lt hy280; omega), hA350.cut _ (fm_cons (hA350.get 3 _ rfl) (fm_cons (hA350.get 4 _ rfl) (fm_cons ((hA350.get 5 _ rfl).trans (congrArg (Value.int .i64) (by omega))) fm_nil))), b338, (by rw [use_yes hy280 hb290, List.length_append, ← paE_snoc]; exact ho335)⟩
   ·skip
    have hq351 := of_decide_eq_false hb270
    refine q_step hA269 rfl (d_bin (wn rfl) (hA269.ev rfl) (hA269.ev rfl) (b_lt _ _ ((j257 : Nat) : Int) ((L251.length : Nat) : Int) false _ hb270) ?_)
    intro a352 hA353
    refine q_end ?_
    have hA354 : St 59 [(3, v219), (4, v258), (5, (.int .i64 ((j257 : Nat) : Int))), (43, (.bool false))] a352 := hA353.cut _ (fm_cons (hA353.get 3 _ rfl) (fm_cons (hA353.get 4 _ rfl) (fm_cons (hA353.get 5 _ rfl) (fm_cons (hA353.get 43 _ rfl) fm_nil))))
    refine t_norm ?_
    refine c_false hA354 rfl ?_
    refine wp_exit ?_
    refine t_exit ?_
    refine t_exit ?_
    refine i_here ?_
    refine t_norm ?_
    refine wp_seq ?_
    refine wp_region_lit ?_
    refine q_step hA354 rfl (d_move (wn rfl) (hA354.ev rfl) ?_)
    intro a355 hA356
    refine q_step hA356 rfl (d_assign (wn rfl) (hA356.ev rfl) ?_)
    intro a357 hA358
    refine q_end ?_
    have hA359 : St 59 [(2, v258)] a357 := hA358.cut _ (fm_cons (hA358.get 2 _ rfl) fm_nil)
    refine t_norm ?_
    refine wp_ret ?_
    refine ret1 rfl hA359 (v := v258) rfl ?_
    have he360 : useL L251 j257 = useF i := by rw [use_all (by omega), hL252]; simp [useF, useX, plainF, List.filter_cons, hb23, eq_of_beq hb195, opB, rdB, wrB]
    exact ⟨_, rfl, Grow.trans b239 b262, (by rw [← he360]; exact own_le ho263 b239.size)⟩
  ·skip
   have hq361 := ne_of_beq hb195
   refine q_step hA194 rfl (d_bin (wn rfl) (hA194.ev rfl) (hA194.ev rfl) (b_eq _ _ i.op 9 false _ hb195) ?_)
   intro a362 hA363
   refine q_step hA363 rfl (d_assign (wn rfl) (hA363.ev rfl) ?_)
   intro a364 hA365
   refine q_end ?_
   have hA366 : St 59 [(1, (.pointer (some ⟨g3, 0, none⟩))), (2, (.slice none 0 0)), (3, (.slice none 0 0)), (7, (.int .i64 i.op)), (8, (.bool false))] a364 := hA365.cut _ (fm_cons (hA365.get 1 _ rfl) (fm_cons (hA365.get 2 _ rfl) (fm_cons (hA365.get 3 _ rfl) (fm_cons (hA365.get 7 _ rfl) (fm_cons (hA365.get 8 _ rfl) fm_nil)))))
   refine t_norm ?_
   refine c_false hA366 rfl ?_
   refine wp_region_lit ?_
   rcases Bool.eq_false_or_eq_true (i.op == 6) with hb367 | hb367
   ·skip
    have hq368 := eq_of_beq hb367
    refine q_step hA366 rfl (d_bin (wn rfl) (hA366.ev rfl) (hA366.ev rfl) (b_eq _ _ i.op 6 true _ hb367) ?_)
    intro a369 hA370
    refine q_step hA370 rfl (d_assign (wn rfl) (hA370.ev rfl) ?_)
    intro a371 hA372
    refine q_end ?_
    have hA373 : St 59 [(1, (.pointer (some ⟨g3, 0, none⟩))), (2, (.slice none 0 0)), (3, (.slice none 0 0)), (7, (.int .i64 i.op)), (8, (.bool true))] a371 := hA372.cut _ (fm_cons (hA372.get 1 _ rfl) (fm_cons (hA372.get 2 _ rfl) (fm_cons (hA372.get 3 _ rfl) (fm_cons (hA372.get 7 _ rfl) (fm_cons (hA372.get 8 _ rfl) fm_nil)))))
    refine t_norm ?_
    refine c_true hA373 rfl ?_
    refine wp_region_lit ?_
    refine q_step hA373 rfl (d_move (wn rfl) (hA373.ev rfl) ?_)
    intro a374 hA375
    refine q_step hA375 rfl (d_fieldAddr (wn rfl) (hA375.ev rfl) fo23_2 ?_)
    intro a376 hA377
    refine q_step hA377 rfl (d_load (v := (.int .i64 i.a)) (wn rfl) (hA377.ev rfl) one3 (m7.cell rfl) ?_)
    intro a378 hA379
    refine q_step hA379 rfl (d_slice1 (wn rfl) (hA379.ev rfl) elm30 rfl (by decide) ?_)
    intro g380 w381 eg382 hG383 (m384 : Blk w381 g380 #[.int .i64 i.a] 3)
    have ge385 : w.heap.size ≤ g380 := eg382 ▸ b9.size
    have n386 : g3 ≠ g380 := fun h => Nat.lt_irrefl _ ((h.trans eg382) ▸ m7.lt)
    have m387 := m7.grow hG383
    have b388 := below_grow b9 hG383 b9.size
    intro a389 hA390
    refine q_step hA390 rfl (d_append (wn rfl) (hA390.ev rfl) (hA390.ev rfl) elm30 (⟨rfl, .inl ⟨rfl, rfl⟩⟩ : (w381).ownsRow w.heap.size 3 1 (.slice none 0 0) 0 []) m384 rfl rfl (by omega) (by decide) b388.size ?_)
    intro v391 w392 ho393 hg394 hl395
    have b396 := below_by b388 hg394 b388.size (fun k hk => (own_lt (⟨rfl, .inl ⟨rfl, rfl⟩⟩ : (w381).ownsRow w.heap.size 3 1 (.slice none 0 0) 0 []) k hk).1)
    have m397 := m387.by hg394 (fun h => nomatch h)
    have off398 := lies_ne hl395 (fun h => nomatch h) m387.lt
    intro a399 hA400
    refine q_step hA400 rfl (d_assign (wn rfl) (hA400.ev rfl) ?_)
    intro a401 hA402
    refine q_end ?_
    have hA403 : St 59 [(1, (.pointer (some ⟨g3, 0, none⟩))), (2, (.slice none 0 0)), (3, v391)] a401 := hA402.cut _ (fm_cons (hA402.get 1 _ rfl) (fm_cons (hA402.get 2 _ rfl) (fm_cons (hA402.get 3 _ rfl) fm_nil)))
    refine i_norm ?_
    refine t_norm ?_
    refine wp_seq ?_
    refine wp_seq ?_
    refine wp_region_lit ?_
    refine q_step hA403 rfl (d_loadRow (cs := (insC i)) (wn rfl) (hA403.ev rfl) row23 m397 ?_)
    intro a404 hA405
    refine q_step hA405 rfl (d_call (wn rfl) ent32 (map1 (hA405.ev rfl)) (memory_any i w392) ?_)
    rintro e409 w406 ⟨he408, hG407⟩
    have m410 := m397.grow hG407
    have b411 := below_grow b396 hG407 b396.size
    have ho412 := own_grow hG407 ho393
    refine ⟨.bool true, he408.trans (ret_bool (by simp [opB, rdB, wrB, eq_of_beq hb367])), ?_⟩
    intro a413 hA414
    refine q_end ?_
    have hA415 : St 59 [(1, (.pointer (some ⟨g3, 0, none⟩))), (2, (.slice none 0 0)), (3, v391), (34, (.bool true))] a413 := hA414.cut _ (fm_cons (hA414.get 1 _ rfl) (fm_cons (hA414.get 2 _ rfl) (fm_cons (hA414.get 3 _ rfl) (fm_cons (hA414.get 34 _ rfl) fm_nil))))
    refine t_norm ?_
    refine c_true hA415 rfl ?_
    refine wp_region_lit ?_
    refine q_step hA415 rfl (d_move (wn rfl) (hA415.ev rfl) ?_)
    intro a416 hA417
    refine q_step hA417 rfl (d_fieldAddr (wn rfl) (hA417.ev rfl) fo23_7 ?_)
    intro a418 hA419
    refine q_step hA419 rfl (d_load (v := (.int .i64 i.index)) (wn rfl) (hA419.ev rfl) one3 (m410.cell rfl) ?_)
    intro a420 hA421
    refine q_step hA421 rfl (d_slice1 (wn rfl) (hA421.ev rfl) elm30 rfl (by decide) ?_)
    intro g422 w423 eg424 hG425 (m426 : Blk w423 g422 #[.int .i64 i.index] 3)
    have ge427 : w.heap.size ≤ g422 := eg424 ▸ b411.size
    have n428 : g3 ≠ g422 := fun h => Nat.lt_irrefl _ ((h.trans eg424) ▸ m410.lt)
    have off429 := own_new ho412 eg424
    have m430 := m410.grow hG425
    have b431 := below_grow b411 hG425 b411.size
    have ho432 := own_grow hG425 ho412
    intro a433 hA434
    refine q_step hA434 rfl (d_append (wn rfl) (hA434.ev rfl) (hA434.ev rfl) elm30 ho432 m426 rfl rfl (by omega) (by decide) b431.size ?_)
    intro v435 w436 ho437 hg438 hl439
    have b440 := below_by b431 hg438 b431.size (fun k hk => (own_lt ho432 k hk).1)
    have m441 := m430.by hg438 off398
    have off442 := lies_ne hl439 off398 m430.lt
    intro a443 hA444
    refine q_step hA444 rfl (d_assign (wn rfl) (hA444.ev rfl) ?_)
    intro a445 hA446
    refine q_end ?_
    have hA447 : St 59 [(2, (.slice none 0 0)), (3, v435)] a445 := hA446.cut _ (fm_cons (hA446.get 2 _ rfl) (fm_cons (hA446.get 3 _ rfl) fm_nil))
    refine t_norm ?_
    refine wp_seq ?_
    refine wp_region_lit ?_
    refine q_step hA447 rfl (d_assign (wn rfl) (hA447.ev rfl) ?_)
    intro a448 hA449
    refine q_end ?_
    have hA450 : St 59 [(2, (.slice none 0 0)), (3, v435), (4, (.slice none 0 0))] a448 := hA449.cut _ (fm_cons (hA449.get 2 _ rfl) (fm_cons (hA449.get 3 _ rfl) (fm_cons (hA449.get 4 _ rfl) fm_nil)))
    refine t_norm ?_
    refine wp_seq ?_
    refine wp_seq ?_
    refine wp_region_lit ?_
    refine q_step hA450 rfl (d_assign (wn rfl) (hA450.ev rfl) ?_)
    intro a451 hA452
    refine q_end ?_
    have hA453 : St 59 [(2, (.slice none 0 0)), (3, v435), (4, (.slice none 0 0)), (5, (.int .i64 0))] a451 := hA452.cut _ (fm_cons (hA452.get 2 _ rfl) (fm_cons (hA452.get 3 _ rfl) (fm_cons (hA452.get 4 _ rfl) (fm_cons (hA452.get 5 _ rfl) fm_nil))))
    refine t_norm ?_
    refine wp_block ?_
    have hs454 : Sl intE 1 w436.heap.size w436 v435 [i.a, i.index] := own_int (l := [i.a, i.index]) ho437
    obtain ⟨L455, hL456⟩ : ∃ L : List Int, L = [i.a, i.index] := ⟨_, rfl⟩
    have hn457 : L455.length ≤ 3 := by rw [hL456]; simp
    rw [← hL456] at hs454
    refine loop_by (fun m a' w' => ∃ (j : Nat) (v : Value), m = L455.length - j ∧ j ≤ L455.length ∧ St 59 [(3, v435), (4, v), (5, (.int .i64 ((j : Nat) : Int)))] a' ∧ Below w436.heap.size w436 w' ∧ w'.ownsRow w436.heap.size 3 1 v (useL L455 j).length (paE (useL L455 j))) (L455.length - 0) ⟨0, .slice none 0 0, rfl, Nat.zero_le _, hA453.cut _ (fm_cons (hA453.get 3 _ rfl) (fm_cons (hA453.get 4 _ rfl) (fm_cons (hA453.get 5 _ rfl) fm_nil))), Below.refl _ _, (by rw [show useL L455 0 = [] by simp [useL]]; exact ⟨rfl, .inl ⟨rfl, rfl⟩⟩)⟩ ?_
    rintro m458 a459 w460 ⟨j461, v462, hm463, hj464, hA465, b466, ho467⟩
    have hul := use_len L455 j461
    refine wp_seq ?_
    refine wp_seq ?_
    refine wp_region_lit ?_
    refine q_step hA465 rfl (d_move (wn rfl) (hA465.ev rfl) ?_)
    intro a468 hA469
    refine q_step hA469 rfl (d_move (wn rfl) (hA469.ev rfl) ?_)
    intro a470 hA471
    refine q_step hA471 rfl (d_len (n := L455.length) (wn rfl) (hA471.ev rfl) slc30 hs454.form ?_)
    intro a472 hA473
    rcases Bool.eq_false_or_eq_true (decide (((j461 : Nat) : Int) < ((L455.length : Nat) : Int))) with hb474 | hb474
    ·skip
     have hq475 := of_decide_eq_true hb474
     refine q_step hA473 rfl (d_bin (wn rfl) (hA473.ev rfl) (hA473.ev rfl) (b_lt _ _ ((j461 : Nat) : Int) ((L455.length : Nat) : Int) true _ hb474) ?_)
     intro a476 hA477
     refine q_end ?_
     have hA478 : St 59 [(3, v435), (4, v462), (5, (.int .i64 ((j461 : Nat) : Int))), (43, (.bool true))] a476 := hA477.cut _ (fm_cons (hA477.get 3 _ rfl) (fm_cons (hA477.get 4 _ rfl) (fm_cons (hA477.get 5 _ rfl) (fm_cons (hA477.get 43 _ rfl) fm_nil))))
     refine t_norm ?_
     refine c_true hA478 rfl ?_
     refine wp_skip ?_
     refine t_norm ?_
     refine wp_seq ?_
     refine wp_block ?_
     refine wp_seq ?_
     refine wp_region_lit ?_
     refine q_step hA478 rfl (d_move (wn rfl) (hA478.ev rfl) ?_)
     intro a479 hA480
     refine q_step hA480 rfl (d_move (wn rfl) (hA480.ev rfl) ?_)
     intro a481 hA482
     obtain ⟨y483, hy484⟩ : ∃ y483, L455[j461]? = some y483 := ⟨_, List.getElem?_eq_getElem (show j461 < L455.length by omega)⟩
     obtain ⟨b485, o486, lt487, hr488, hix489⟩ := (hs454.below b466).at hy484
     refine q_step hA482 rfl (d_indexAt (j := j461) (wn rfl) (hA482.ev rfl) (hA482.ev rfl) slc30 hix489 (get_lt hy484) ?_)
     intro a490 hA491
     refine q_step hA491 rfl (d_load (v := (.int .i64 y483)) (wn rfl) (hA491.ev rfl) one3 (hr488 0 _ rfl) ?_)
     intro a492 hA493
     rcases Bool.eq_false_or_eq_true (y483 == (-1)) with hb494 | hb494
     ·skip
      have hq495 := eq_of_beq hb494
      refine q_step hA493 rfl (d_bin (wn rfl) (hA493.ev rfl) (hA493.ev rfl) (b_ne _ _ y483 (-1) false _ (notof hb494)) ?_)
      intro a496 hA497
      refine q_end ?_
      have hA498 : St 59 [(3, v435), (4, v462), (5, (.int .i64 ((j461 : Nat) : Int))), (50, (.bool false))] a496 := hA497.cut _ (fm_cons (hA497.get 3 _ rfl) (fm_cons (hA497.get 4 _ rfl) (fm_cons (hA497.get 5 _ rfl) (fm_cons (hA497.get 50 _ rfl) fm_nil))))
      refine t_norm ?_
      refine c_false hA498 rfl ?_
      refine wp_skip ?_
      refine i_norm ?_
      refine t_norm ?_
      refine wp_region_lit ?_
      refine q_step hA498 rfl (d_move (wn rfl) (hA498.ev rfl) ?_)
      intro a499 hA500
      refine q_step hA500 rfl (d_bin (wn rfl) (hA500.ev rfl) (hA500.ev rfl) (b_add _ _ ((j461 : Nat) : Int) 1 _ (by omega) (by omega)) ?_)
      intro a501 hA502
      refine q_step hA502 rfl (d_assign (wn rfl) (hA502.ev rfl) ?_)
      intro a503 hA504
      refine q_end ?_
      have hA505 : St 59 [(3, v435), (4, v462), (5, (.int .i64 (((j461 : Nat) : Int) + 1)))] a503 := hA504.cut _ (fm_cons (hA504.get 3 _ rfl) (fm_cons (hA504.get 4 _ rfl) (fm_cons (hA504.get 5 _ rfl) fm_nil)))
      refine t_norm ?_
      exact ⟨L455.length - (j461 + 1), (by have := get_lt hy484; rw [hm463]; omega), j461 + 1, v462, rfl, (by have := get_lt hy484; omega), hA505.cut _ (fm_cons (hA505.get 3 _ rfl) (fm_cons (hA505.get 4 _ rfl) (fm_cons ((hA505.get 5 _ rfl).trans (congrArg (Value.int .i64) (by omega))) fm_nil))), b466, (by rw [use_no hy484 hb494]; exact ho467)⟩
     ·skip
      have hq506 := ne_of_beq hb494
      refine q_step hA493 rfl (d_bin (wn rfl) (hA493.ev rfl) (hA493.ev rfl) (b_ne _ _ y483 (-1) true _ (notof hb494)) ?_)
      intro a507 hA508
      refine q_end ?_
      have hA509 : St 59 [(3, v435), (4, v462), (5, (.int .i64 ((j461 : Nat) : Int))), (50, (.bool true))] a507 := hA508.cut _ (fm_cons (hA508.get 3 _ rfl) (fm_cons (hA508.get 4 _ rfl) (fm_cons (hA508.get 5 _ rfl) (fm_cons (hA508.get 50 _ rfl) fm_nil))))
      refine t_norm ?_
      refine c_true hA509 rfl ?_
      refine wp_region_lit ?_
      refine q_step hA509 rfl (d_move (wn rfl) (hA509.ev rfl) ?_)
      intro a510 hA511
      refine q_step hA511 rfl (d_move (wn rfl) (hA511.ev rfl) ?_)
      intro a512 hA513
      refine q_step hA513 rfl (d_move (wn rfl) (hA513.ev rfl) ?_)
      intro a514 hA515
      obtain ⟨b516, o517, lt518, hr519, hix520⟩ := (hs454.below b466).at hy484
      refine q_step hA515 rfl (d_indexAt (j := j461) (wn rfl) (hA515.ev rfl) (hA515.ev rfl) slc30 hix520 (get_lt hy484) ?_)
      intro a521 hA522
      refine q_step hA522 rfl (d_load (v := (.int .i64 y483)) (wn rfl) (hA522.ev rfl) one3 (hr519 0 _ rfl) ?_)
      intro a523 hA524
      refine q_step hA524 rfl (d_slice1 (wn rfl) (hA524.ev rfl) elm30 rfl (by decide) ?_)
      intro g525 w526 eg527 hG528 (m529 : Blk w526 g525 #[.int .i64 y483] 3)
      have ge530 : w436.heap.size ≤ g525 := eg527 ▸ b466.size
      have off531 := own_new ho467 eg527
      have hr532 := range_below hr519 hG528 (Nat.lt_of_lt_of_le lt518 b466.size)
      have b533 := below_grow b466 hG528 b466.size
      have ho534 := own_grow hG528 ho467
      intro a535 hA536
      refine q_step hA536 rfl (d_append (wn rfl) (hA536.ev rfl) (hA536.ev rfl) elm30 ho534 m529 rfl rfl (by omega) (by decide) b533.size ?_)
      intro v537 w538 ho539 hg540 hl541
      have b542 := below_by b533 hg540 b533.size (fun k hk => (own_lt ho534 k hk).1)
      intro a543 hA544
      refine q_step hA544 rfl (d_assign (wn rfl) (hA544.ev rfl) ?_)
      intro a545 hA546
      refine q_end ?_
      have hA547 : St 59 [(3, v435), (4, v537), (5, (.int .i64 ((j461 : Nat) : Int)))] a545 := hA546.cut _ (fm_cons (hA546.get 3 _ rfl) (fm_cons (hA546.get 4 _ rfl) (fm_cons (hA546.get 5 _ rfl) fm_nil)))
      refine i_norm ?_
      refine t_norm ?_
      refine wp_region_lit ?_
      refine q_step hA547 rfl (d_move (wn rfl) (hA547.ev rfl) ?_)
      intro a548 hA549
      refine q_step hA549 rfl (d_bin (wn rfl) (hA549.ev rfl) (hA549.ev rfl) (b_add _ _ ((j461 : Nat) : Int) 1 _ (by omega) (by omega)) ?_)
      intro a550 hA551
      refine q_step hA551 rfl (d_assign (wn rfl) (hA551.ev rfl) ?_)
      intro a552 hA553
      refine q_end ?_
      have hA554 : St 59 [(3, v435), (4, v537), (5, (.int .i64 (((j461 : Nat) : Int) + 1)))] a552 := hA553.cut _ (fm_cons (hA553.get 3 _ rfl) (fm_cons (hA553.get 4 _ rfl) (fm_cons (hA553.get 5 _ rfl) fm_nil)))
      refine t_norm ?_
      exact ⟨L455.length - (j461 + 1), (by have := get_lt hy484; rw [hm463]; omega), j461 + 1, v537, rfl, (by have := get_lt hy484; omega), hA554.cut _ (fm_cons (hA554.get 3 _ rfl) (fm_cons (hA554.get 4 _ rfl) (fm_cons ((hA554.get 5 _ rfl).trans (congrArg (Value.int .i64) (by omega))) fm_nil))), b542, (by rw [use_yes hy484 hb494, List.length_append, ← paE_snoc]; exact ho539)⟩
    ·skip
     have hq555 := of_decide_eq_false hb474
     refine q_step hA473 rfl (d_bin (wn rfl) (hA473.ev rfl) (hA473.ev rfl) (b_lt _ _ ((j461 : Nat) : Int) ((L455.length : Nat) : Int) false _ hb474) ?_)
     intro a556 hA557
     refine q_end ?_
     have hA558 : St 59 [(3, v435), (4, v462), (5, (.int .i64 ((j461 : Nat) : Int))), (43, (.bool false))] a556 := hA557.cut _ (fm_cons (hA557.get 3 _ rfl) (fm_cons (hA557.get 4 _ rfl) (fm_cons (hA557.get 5 _ rfl) (fm_cons (hA557.get 43 _ rfl) fm_nil))))
     refine t_norm ?_
     refine c_false hA558 rfl ?_
     refine wp_exit ?_
     refine t_exit ?_
     refine t_exit ?_
     refine i_here ?_
     refine t_norm ?_
     refine wp_seq ?_
     refine wp_region_lit ?_
     refine q_step hA558 rfl (d_move (wn rfl) (hA558.ev rfl) ?_)
     intro a559 hA560
     refine q_step hA560 rfl (d_assign (wn rfl) (hA560.ev rfl) ?_)
     intro a561 hA562
     refine q_end ?_
     have hA563 : St 59 [(2, v462)] a561 := hA562.cut _ (fm_cons (hA562.get 2 _ rfl) fm_nil)
     refine t_norm ?_
     refine wp_ret ?_
     refine ret1 rfl hA563 (v := v462) rfl ?_
     have he564 : useL L455 j461 = useF i := by rw [use_all (by omega), hL456]; simp [useF, useX, plainF, List.filter_cons, hb23, hb195, eq_of_beq hb367, opB, rdB, wrB]
     exact ⟨_, rfl, Grow.trans b440 b466, (by rw [← he564]; exact own_le ho467 b440.size)⟩
   ·skip
    have hq565 := ne_of_beq hb367
    refine q_step hA366 rfl (d_bin (wn rfl) (hA366.ev rfl) (hA366.ev rfl) (b_eq _ _ i.op 6 false _ hb367) ?_)
    intro a566 hA567
    refine q_step hA567 rfl (d_assign (wn rfl) (hA567.ev rfl) ?_)
    intro a568 hA569
    refine q_end ?_
    have hA570 : St 59 [(1, (.pointer (some ⟨g3, 0, none⟩))), (2, (.slice none 0 0)), (3, (.slice none 0 0)), (7, (.int .i64 i.op)), (8, (.bool false))] a568 := hA569.cut _ (fm_cons (hA569.get 1 _ rfl) (fm_cons (hA569.get 2 _ rfl) (fm_cons (hA569.get 3 _ rfl) (fm_cons (hA569.get 7 _ rfl) (fm_cons (hA569.get 8 _ rfl) fm_nil)))))
    refine t_norm ?_
    refine c_false hA570 rfl ?_
    refine wp_seq ?_
    refine wp_region_lit ?_
    rcases Bool.eq_false_or_eq_true (i.op == 3) with hb571 | hb571
    ·skip
     have hq572 := eq_of_beq hb571
     refine q_step hA570 rfl (d_bin (wn rfl) (hA570.ev rfl) (hA570.ev rfl) (b_eq _ _ i.op 3 true _ hb571) ?_)
     intro a573 hA574
     refine q_step hA574 rfl (d_assign (wn rfl) (hA574.ev rfl) ?_)
     intro a575 hA576
     refine q_end ?_
     have hA577 : St 59 [(1, (.pointer (some ⟨g3, 0, none⟩))), (2, (.slice none 0 0)), (3, (.slice none 0 0)), (7, (.int .i64 i.op)), (17, (.bool true))] a575 := hA576.cut _ (fm_cons (hA576.get 1 _ rfl) (fm_cons (hA576.get 2 _ rfl) (fm_cons (hA576.get 3 _ rfl) (fm_cons (hA576.get 7 _ rfl) (fm_cons (hA576.get 17 _ rfl) fm_nil)))))
     refine t_norm ?_
     refine c_true hA577 rfl ?_
     refine wp_region_lit ?_
     refine q_step hA577 rfl (d_move (wn rfl) (hA577.ev rfl) ?_)
     intro a578 hA579
     refine q_step hA579 rfl (d_fieldAddr (wn rfl) (hA579.ev rfl) fo23_2 ?_)
     intro a580 hA581
     refine q_step hA581 rfl (d_load (v := (.int .i64 i.a)) (wn rfl) (hA581.ev rfl) one3 (m7.cell rfl) ?_)
     intro a582 hA583
     refine q_step hA583 rfl (d_fieldAddr (wn rfl) (hA583.ev rfl) fo23_3 ?_)
     intro a584 hA585
     refine q_step hA585 rfl (d_load (v := (.int .i64 i.b)) (wn rfl) (hA585.ev rfl) one3 (m7.cell rfl) ?_)
     intro a586 hA587
     refine q_step hA587 rfl (d_slice2 (wn rfl) (hA587.ev rfl) (hA587.ev rfl) elm30 ?_)
     intro g588 w589 eg590 hG591 (m592 : Blk w589 g588 #[.int .i64 i.a, .int .i64 i.b] 3)
     have ge593 : w.heap.size ≤ g588 := eg590 ▸ b9.size
     have n594 : g3 ≠ g588 := fun h => Nat.lt_irrefl _ ((h.trans eg590) ▸ m7.lt)
     have m595 := m7.grow hG591
     have b596 := below_grow b9 hG591 b9.size
     intro a597 hA598
     refine q_step hA598 rfl (d_append2 (wn rfl) (hA598.ev rfl) (hA598.ev rfl) elm30 (⟨rfl, .inl ⟨rfl, rfl⟩⟩ : (w589).ownsRow w.heap.size 3 1 (.slice none 0 0) 0 []) m592 rfl rfl (by omega) (by decide) b596.size ?_)
     intro v599 w600 ho601 hg602 hl603
     have b604 := below_by b596 hg602 b596.size (fun k hk => (own_lt (⟨rfl, .inl ⟨rfl, rfl⟩⟩ : (w589).ownsRow w.heap.size 3 1 (.slice none 0 0) 0 []) k hk).1)
     have m605 := m595.by hg602 (fun h => nomatch h)
     have off606 := lies_ne hl603 (fun h => nomatch h) m595.lt
     intro a607 hA608
     refine q_step hA608 rfl (d_assign (wn rfl) (hA608.ev rfl) ?_)
     intro a609 hA610
     refine q_end ?_
     have hA611 : St 59 [(1, (.pointer (some ⟨g3, 0, none⟩))), (2, (.slice none 0 0)), (3, v599)] a609 := hA610.cut _ (fm_cons (hA610.get 1 _ rfl) (fm_cons (hA610.get 2 _ rfl) (fm_cons (hA610.get 3 _ rfl) fm_nil)))
     refine i_norm ?_
     refine t_norm ?_
     refine wp_seq ?_
     refine wp_seq ?_
     refine wp_region_lit ?_
     refine q_step hA611 rfl (d_loadRow (cs := (insC i)) (wn rfl) (hA611.ev rfl) row23 m605 ?_)
     intro a612 hA613
     refine q_step hA613 rfl (d_call (wn rfl) ent32 (map1 (hA613.ev rfl)) (memory_any i w600) ?_)
     rintro e617 w614 ⟨he616, hG615⟩
     have m618 := m605.grow hG615
     have b619 := below_grow b604 hG615 b604.size
     have ho620 := own_grow hG615 ho601
     refine ⟨.bool false, he616.trans (ret_bool (by simp [opB, rdB, wrB, eq_of_beq hb571])), ?_⟩
     intro a621 hA622
     refine q_end ?_
     have hA623 : St 59 [(1, (.pointer (some ⟨g3, 0, none⟩))), (2, (.slice none 0 0)), (3, v599), (34, (.bool false))] a621 := hA622.cut _ (fm_cons (hA622.get 1 _ rfl) (fm_cons (hA622.get 2 _ rfl) (fm_cons (hA622.get 3 _ rfl) (fm_cons (hA622.get 34 _ rfl) fm_nil))))
     refine t_norm ?_
     refine c_false hA623 rfl ?_
     refine wp_skip ?_
     refine t_norm ?_
     refine wp_seq ?_
     refine wp_region_lit ?_
     refine q_step hA623 rfl (d_assign (wn rfl) (hA623.ev rfl) ?_)
     intro a624 hA625
     refine q_end ?_
     have hA626 : St 59 [(2, (.slice none 0 0)), (3, v599), (4, (.slice none 0 0))] a624 := hA625.cut _ (fm_cons (hA625.get 2 _ rfl) (fm_cons (hA625.get 3 _ rfl) (fm_cons (hA625.get 4 _ rfl) fm_nil)))
     refine t_norm ?_
     refine wp_seq ?_
     refine wp_seq ?_
     refine wp_region_lit ?_
     refine q_step hA626 rfl (d_assign (wn rfl) (hA626.ev rfl) ?_)
     intro a627 hA628
     refine q_end ?_
     have hA629 : St 59 [(2, (.slice none 0 0)), (3, v599), (4, (.slice none 0 0)), (5, (.int .i64 0))] a627 := hA628.cut _ (fm_cons (hA628.get 2 _ rfl) (fm_cons (hA628.get 3 _ rfl) (fm_cons (hA628.get 4 _ rfl) (fm_cons (hA628.get 5 _ rfl) fm_nil))))
     refine t_norm ?_
     refine wp_block ?_
     have hs630 : Sl intE 1 w614.heap.size w614 v599 [i.a, i.b] := own_int (l := [i.a, i.b]) ho620
     obtain ⟨L631, hL632⟩ : ∃ L : List Int, L = [i.a, i.b] := ⟨_, rfl⟩
     have hn633 : L631.length ≤ 3 := by rw [hL632]; simp
     rw [← hL632] at hs630
     refine loop_by (fun m a' w' => ∃ (j : Nat) (v : Value), m = L631.length - j ∧ j ≤ L631.length ∧ St 59 [(3, v599), (4, v), (5, (.int .i64 ((j : Nat) : Int)))] a' ∧ Below w614.heap.size w614 w' ∧ w'.ownsRow w614.heap.size 3 1 v (useL L631 j).length (paE (useL L631 j))) (L631.length - 0) ⟨0, .slice none 0 0, rfl, Nat.zero_le _, hA629.cut _ (fm_cons (hA629.get 3 _ rfl) (fm_cons (hA629.get 4 _ rfl) (fm_cons (hA629.get 5 _ rfl) fm_nil))), Below.refl _ _, (by rw [show useL L631 0 = [] by simp [useL]]; exact ⟨rfl, .inl ⟨rfl, rfl⟩⟩)⟩ ?_
     rintro m634 a635 w636 ⟨j637, v638, hm639, hj640, hA641, b642, ho643⟩
     have hul := use_len L631 j637
     refine wp_seq ?_
     refine wp_seq ?_
     refine wp_region_lit ?_
     refine q_step hA641 rfl (d_move (wn rfl) (hA641.ev rfl) ?_)
     intro a644 hA645
     refine q_step hA645 rfl (d_move (wn rfl) (hA645.ev rfl) ?_)
     intro a646 hA647
     refine q_step hA647 rfl (d_len (n := L631.length) (wn rfl) (hA647.ev rfl) slc30 hs630.form ?_)
     intro a648 hA649
     rcases Bool.eq_false_or_eq_true (decide (((j637 : Nat) : Int) < ((L631.length : Nat) : Int))) with hb650 | hb650
     ·skip
      have hq651 := of_decide_eq_true hb650
      refine q_step hA649 rfl (d_bin (wn rfl) (hA649.ev rfl) (hA649.ev rfl) (b_lt _ _ ((j637 : Nat) : Int) ((L631.length : Nat) : Int) true _ hb650) ?_)
      intro a652 hA653
      refine q_end ?_
      have hA654 : St 59 [(3, v599), (4, v638), (5, (.int .i64 ((j637 : Nat) : Int))), (43, (.bool true))] a652 := hA653.cut _ (fm_cons (hA653.get 3 _ rfl) (fm_cons (hA653.get 4 _ rfl) (fm_cons (hA653.get 5 _ rfl) (fm_cons (hA653.get 43 _ rfl) fm_nil))))
      refine t_norm ?_
      refine c_true hA654 rfl ?_
      refine wp_skip ?_
      refine t_norm ?_
      refine wp_seq ?_
      refine wp_block ?_
      refine wp_seq ?_
      refine wp_region_lit ?_
      refine q_step hA654 rfl (d_move (wn rfl) (hA654.ev rfl) ?_)
      intro a655 hA656
      refine q_step hA656 rfl (d_move (wn rfl) (hA656.ev rfl) ?_)
      intro a657 hA658
      obtain ⟨y659, hy660⟩ : ∃ y659, L631[j637]? = some y659 := ⟨_, List.getElem?_eq_getElem (show j637 < L631.length by omega)⟩
      obtain ⟨b661, o662, lt663, hr664, hix665⟩ := (hs630.below b642).at hy660
      refine q_step hA658 rfl (d_indexAt (j := j637) (wn rfl) (hA658.ev rfl) (hA658.ev rfl) slc30 hix665 (get_lt hy660) ?_)
      intro a666 hA667
      refine q_step hA667 rfl (d_load (v := (.int .i64 y659)) (wn rfl) (hA667.ev rfl) one3 (hr664 0 _ rfl) ?_)
      intro a668 hA669
      rcases Bool.eq_false_or_eq_true (y659 == (-1)) with hb670 | hb670
      ·skip
       have hq671 := eq_of_beq hb670
       refine q_step hA669 rfl (d_bin (wn rfl) (hA669.ev rfl) (hA669.ev rfl) (b_ne _ _ y659 (-1) false _ (notof hb670)) ?_)
       intro a672 hA673
       refine q_end ?_
       have hA674 : St 59 [(3, v599), (4, v638), (5, (.int .i64 ((j637 : Nat) : Int))), (50, (.bool false))] a672 := hA673.cut _ (fm_cons (hA673.get 3 _ rfl) (fm_cons (hA673.get 4 _ rfl) (fm_cons (hA673.get 5 _ rfl) (fm_cons (hA673.get 50 _ rfl) fm_nil))))
       refine t_norm ?_
       refine c_false hA674 rfl ?_
       refine wp_skip ?_
       refine i_norm ?_
       refine t_norm ?_
       refine wp_region_lit ?_
       refine q_step hA674 rfl (d_move (wn rfl) (hA674.ev rfl) ?_)
       intro a675 hA676
       refine q_step hA676 rfl (d_bin (wn rfl) (hA676.ev rfl) (hA676.ev rfl) (b_add _ _ ((j637 : Nat) : Int) 1 _ (by omega) (by omega)) ?_)
       intro a677 hA678
       refine q_step hA678 rfl (d_assign (wn rfl) (hA678.ev rfl) ?_)
       intro a679 hA680
       refine q_end ?_
       have hA681 : St 59 [(3, v599), (4, v638), (5, (.int .i64 (((j637 : Nat) : Int) + 1)))] a679 := hA680.cut _ (fm_cons (hA680.get 3 _ rfl) (fm_cons (hA680.get 4 _ rfl) (fm_cons (hA680.get 5 _ rfl) fm_nil)))
       refine t_norm ?_
       exact ⟨L631.length - (j637 + 1), (by have := get_lt hy660; rw [hm639]; omega), j637 + 1, v638, rfl, (by have := get_lt hy660; omega), hA681.cut _ (fm_cons (hA681.get 3 _ rfl) (fm_cons (hA681.get 4 _ rfl) (fm_cons ((hA681.get 5 _ rfl).trans (congrArg (Value.int .i64) (by omega))) fm_nil))), b642, (by rw [use_no hy660 hb670]; exact ho643)⟩
      ·skip
       have hq682 := ne_of_beq hb670
       refine q_step hA669 rfl (d_bin (wn rfl) (hA669.ev rfl) (hA669.ev rfl) (b_ne _ _ y659 (-1) true _ (notof hb670)) ?_)
       intro a683 hA684
       refine q_end ?_
       have hA685 : St 59 [(3, v599), (4, v638), (5, (.int .i64 ((j637 : Nat) : Int))), (50, (.bool true))] a683 := hA684.cut _ (fm_cons (hA684.get 3 _ rfl) (fm_cons (hA684.get 4 _ rfl) (fm_cons (hA684.get 5 _ rfl) (fm_cons (hA684.get 50 _ rfl) fm_nil))))
       refine t_norm ?_
       refine c_true hA685 rfl ?_
       refine wp_region_lit ?_
       refine q_step hA685 rfl (d_move (wn rfl) (hA685.ev rfl) ?_)
       intro a686 hA687
       refine q_step hA687 rfl (d_move (wn rfl) (hA687.ev rfl) ?_)
       intro a688 hA689
       refine q_step hA689 rfl (d_move (wn rfl) (hA689.ev rfl) ?_)
       intro a690 hA691
       obtain ⟨b692, o693, lt694, hr695, hix696⟩ := (hs630.below b642).at hy660
       refine q_step hA691 rfl (d_indexAt (j := j637) (wn rfl) (hA691.ev rfl) (hA691.ev rfl) slc30 hix696 (get_lt hy660) ?_)
       intro a697 hA698
       refine q_step hA698 rfl (d_load (v := (.int .i64 y659)) (wn rfl) (hA698.ev rfl) one3 (hr695 0 _ rfl) ?_)
       intro a699 hA700
       refine q_step hA700 rfl (d_slice1 (wn rfl) (hA700.ev rfl) elm30 rfl (by decide) ?_)
       intro g701 w702 eg703 hG704 (m705 : Blk w702 g701 #[.int .i64 y659] 3)
       have ge706 : w614.heap.size ≤ g701 := eg703 ▸ b642.size
       have off707 := own_new ho643 eg703
       have hr708 := range_below hr695 hG704 (Nat.lt_of_lt_of_le lt694 b642.size)
       have b709 := below_grow b642 hG704 b642.size
       have ho710 := own_grow hG704 ho643
       intro a711 hA712
       refine q_step hA712 rfl (d_append (wn rfl) (hA712.ev rfl) (hA712.ev rfl) elm30 ho710 m705 rfl rfl (by omega) (by decide) b709.size ?_)
       intro v713 w714 ho715 hg716 hl717
       have b718 := below_by b709 hg716 b709.size (fun k hk => (own_lt ho710 k hk).1)
       intro a719 hA720
       refine q_step hA720 rfl (d_assign (wn rfl) (hA720.ev rfl) ?_)
       intro a721 hA722
       refine q_end ?_
       have hA723 : St 59 [(3, v599), (4, v713), (5, (.int .i64 ((j637 : Nat) : Int)))] a721 := hA722.cut _ (fm_cons (hA722.get 3 _ rfl) (fm_cons (hA722.get 4 _ rfl) (fm_cons (hA722.get 5 _ rfl) fm_nil)))
       refine i_norm ?_
       refine t_norm ?_
       refine wp_region_lit ?_
       refine q_step hA723 rfl (d_move (wn rfl) (hA723.ev rfl) ?_)
       intro a724 hA725
       refine q_step hA725 rfl (d_bin (wn rfl) (hA725.ev rfl) (hA725.ev rfl) (b_add _ _ ((j637 : Nat) : Int) 1 _ (by omega) (by omega)) ?_)
       intro a726 hA727
       refine q_step hA727 rfl (d_assign (wn rfl) (hA727.ev rfl) ?_)
       intro a728 hA729
       refine q_end ?_
       have hA730 : St 59 [(3, v599), (4, v713), (5, (.int .i64 (((j637 : Nat) : Int) + 1)))] a728 := hA729.cut _ (fm_cons (hA729.get 3 _ rfl) (fm_cons (hA729.get 4 _ rfl) (fm_cons (hA729.get 5 _ rfl) fm_nil)))
       refine t_norm ?_
       exact ⟨L631.length - (j637 + 1), (by have := get_lt hy660; rw [hm639]; omega), j637 + 1, v713, rfl, (by have := get_lt hy660; omega), hA730.cut _ (fm_cons (hA730.get 3 _ rfl) (fm_cons (hA730.get 4 _ rfl) (fm_cons ((hA730.get 5 _ rfl).trans (congrArg (Value.int .i64) (by omega))) fm_nil))), b718, (by rw [use_yes hy660 hb670, List.length_append, ← paE_snoc]; exact ho715)⟩
     ·skip
      have hq731 := of_decide_eq_false hb650
      refine q_step hA649 rfl (d_bin (wn rfl) (hA649.ev rfl) (hA649.ev rfl) (b_lt _ _ ((j637 : Nat) : Int) ((L631.length : Nat) : Int) false _ hb650) ?_)
      intro a732 hA733
      refine q_end ?_
      have hA734 : St 59 [(3, v599), (4, v638), (5, (.int .i64 ((j637 : Nat) : Int))), (43, (.bool false))] a732 := hA733.cut _ (fm_cons (hA733.get 3 _ rfl) (fm_cons (hA733.get 4 _ rfl) (fm_cons (hA733.get 5 _ rfl) (fm_cons (hA733.get 43 _ rfl) fm_nil))))
      refine t_norm ?_
      refine c_false hA734 rfl ?_
      refine wp_exit ?_
      refine t_exit ?_
      refine t_exit ?_
      refine i_here ?_
      refine t_norm ?_
      refine wp_seq ?_
      refine wp_region_lit ?_
      refine q_step hA734 rfl (d_move (wn rfl) (hA734.ev rfl) ?_)
      intro a735 hA736
      refine q_step hA736 rfl (d_assign (wn rfl) (hA736.ev rfl) ?_)
      intro a737 hA738
      refine q_end ?_
      have hA739 : St 59 [(2, v638)] a737 := hA738.cut _ (fm_cons (hA738.get 2 _ rfl) fm_nil)
      refine t_norm ?_
      refine wp_ret ?_
      refine ret1 rfl hA739 (v := v638) rfl ?_
      have he740 : useL L631 j637 = useF i := by rw [use_all (by omega), hL632]; simp [useF, useX, plainF, List.filter_cons, hb23, hb195, hb367, eq_of_beq hb571, opB, rdB, wrB]
      exact ⟨_, rfl, Grow.trans b619 b642, (by rw [← he740]; exact own_le ho643 b619.size)⟩
    ·skip
     have hq741 := ne_of_beq hb571
     refine q_step hA570 rfl (d_bin (wn rfl) (hA570.ev rfl) (hA570.ev rfl) (b_eq _ _ i.op 3 false _ hb571) ?_)
     intro a742 hA743
     refine q_step hA743 rfl (d_assign (wn rfl) (hA743.ev rfl) ?_)
     intro a744 hA745
     refine q_end ?_
     have hA746 : St 59 [(1, (.pointer (some ⟨g3, 0, none⟩))), (2, (.slice none 0 0)), (3, (.slice none 0 0)), (7, (.int .i64 i.op)), (17, (.bool false))] a744 := hA745.cut _ (fm_cons (hA745.get 1 _ rfl) (fm_cons (hA745.get 2 _ rfl) (fm_cons (hA745.get 3 _ rfl) (fm_cons (hA745.get 7 _ rfl) (fm_cons (hA745.get 17 _ rfl) fm_nil)))))
     refine t_norm ?_
     refine c_false hA746 rfl ?_
     refine wp_seq ?_
     refine wp_region_lit ?_
     rcases Bool.eq_false_or_eq_true (i.op == 5) with hb747 | hb747
     ·skip
      have hq748 := eq_of_beq hb747
      refine q_step hA746 rfl (d_bin (wn rfl) (hA746.ev rfl) (hA746.ev rfl) (b_eq _ _ i.op 5 true _ hb747) ?_)
      intro a749 hA750
      refine q_step hA750 rfl (d_assign (wn rfl) (hA750.ev rfl) ?_)
      intro a751 hA752
      refine q_end ?_
      have hA753 : St 59 [(1, (.pointer (some ⟨g3, 0, none⟩))), (2, (.slice none 0 0)), (3, (.slice none 0 0)), (26, (.bool true))] a751 := hA752.cut _ (fm_cons (hA752.get 1 _ rfl) (fm_cons (hA752.get 2 _ rfl) (fm_cons (hA752.get 3 _ rfl) (fm_cons (hA752.get 26 _ rfl) fm_nil))))
      refine t_norm ?_
      refine c_true hA753 rfl ?_
      refine wp_region_lit ?_
      refine q_step hA753 rfl (d_move (wn rfl) (hA753.ev rfl) ?_)
      intro a754 hA755
      refine q_step hA755 rfl (d_fieldAddr (wn rfl) (hA755.ev rfl) fo23_2 ?_)
      intro a756 hA757
      refine q_step hA757 rfl (d_load (v := (.int .i64 i.a)) (wn rfl) (hA757.ev rfl) one3 (m7.cell rfl) ?_)
      intro a758 hA759
      refine q_step hA759 rfl (d_slice1 (wn rfl) (hA759.ev rfl) elm30 rfl (by decide) ?_)
      intro g760 w761 eg762 hG763 (m764 : Blk w761 g760 #[.int .i64 i.a] 3)
      have ge765 : w.heap.size ≤ g760 := eg762 ▸ b9.size
      have n766 : g3 ≠ g760 := fun h => Nat.lt_irrefl _ ((h.trans eg762) ▸ m7.lt)
      have m767 := m7.grow hG763
      have b768 := below_grow b9 hG763 b9.size
      intro a769 hA770
      refine q_step hA770 rfl (d_append (wn rfl) (hA770.ev rfl) (hA770.ev rfl) elm30 (⟨rfl, .inl ⟨rfl, rfl⟩⟩ : (w761).ownsRow w.heap.size 3 1 (.slice none 0 0) 0 []) m764 rfl rfl (by omega) (by decide) b768.size ?_)
      intro v771 w772 ho773 hg774 hl775
      have b776 := below_by b768 hg774 b768.size (fun k hk => (own_lt (⟨rfl, .inl ⟨rfl, rfl⟩⟩ : (w761).ownsRow w.heap.size 3 1 (.slice none 0 0) 0 []) k hk).1)
      have m777 := m767.by hg774 (fun h => nomatch h)
      have off778 := lies_ne hl775 (fun h => nomatch h) m767.lt
      intro a779 hA780
      refine q_step hA780 rfl (d_assign (wn rfl) (hA780.ev rfl) ?_)
      intro a781 hA782
      refine q_end ?_
      have hA783 : St 59 [(1, (.pointer (some ⟨g3, 0, none⟩))), (2, (.slice none 0 0)), (3, v771)] a781 := hA782.cut _ (fm_cons (hA782.get 1 _ rfl) (fm_cons (hA782.get 2 _ rfl) (fm_cons (hA782.get 3 _ rfl) fm_nil)))
      refine i_norm ?_
      refine t_norm ?_
      refine wp_seq ?_
      refine wp_seq ?_
      refine wp_region_lit ?_
      refine q_step hA783 rfl (d_loadRow (cs := (insC i)) (wn rfl) (hA783.ev rfl) row23 m777 ?_)
      intro a784 hA785
      refine q_step hA785 rfl (d_call (wn rfl) ent32 (map1 (hA785.ev rfl)) (memory_any i w772) ?_)
      rintro e789 w786 ⟨he788, hG787⟩
      have m790 := m777.grow hG787
      have b791 := below_grow b776 hG787 b776.size
      have ho792 := own_grow hG787 ho773
      refine ⟨.bool true, he788.trans (ret_bool (by simp [opB, rdB, wrB, eq_of_beq hb747])), ?_⟩
      intro a793 hA794
      refine q_end ?_
      have hA795 : St 59 [(1, (.pointer (some ⟨g3, 0, none⟩))), (2, (.slice none 0 0)), (3, v771), (34, (.bool true))] a793 := hA794.cut _ (fm_cons (hA794.get 1 _ rfl) (fm_cons (hA794.get 2 _ rfl) (fm_cons (hA794.get 3 _ rfl) (fm_cons (hA794.get 34 _ rfl) fm_nil))))
      refine t_norm ?_
      refine c_true hA795 rfl ?_
      refine wp_region_lit ?_
      refine q_step hA795 rfl (d_move (wn rfl) (hA795.ev rfl) ?_)
      intro a796 hA797
      refine q_step hA797 rfl (d_fieldAddr (wn rfl) (hA797.ev rfl) fo23_7 ?_)
      intro a798 hA799
      refine q_step hA799 rfl (d_load (v := (.int .i64 i.index)) (wn rfl) (hA799.ev rfl) one3 (m790.cell rfl) ?_)
      intro a800 hA801
      refine q_step hA801 rfl (d_slice1 (wn rfl) (hA801.ev rfl) elm30 rfl (by decide) ?_)
      intro g802 w803 eg804 hG805 (m806 : Blk w803 g802 #[.int .i64 i.index] 3)
      have ge807 : w.heap.size ≤ g802 := eg804 ▸ b791.size
      have n808 : g3 ≠ g802 := fun h => Nat.lt_irrefl _ ((h.trans eg804) ▸ m790.lt)
      have off809 := own_new ho792 eg804
      have m810 := m790.grow hG805
      have b811 := below_grow b791 hG805 b791.size
      have ho812 := own_grow hG805 ho792
      intro a813 hA814
      refine q_step hA814 rfl (d_append (wn rfl) (hA814.ev rfl) (hA814.ev rfl) elm30 ho812 m806 rfl rfl (by omega) (by decide) b811.size ?_)
      intro v815 w816 ho817 hg818 hl819
      have b820 := below_by b811 hg818 b811.size (fun k hk => (own_lt ho812 k hk).1)
      have m821 := m810.by hg818 off778
      have off822 := lies_ne hl819 off778 m810.lt
      intro a823 hA824
      refine q_step hA824 rfl (d_assign (wn rfl) (hA824.ev rfl) ?_)
      intro a825 hA826
      refine q_end ?_
      have hA827 : St 59 [(2, (.slice none 0 0)), (3, v815)] a825 := hA826.cut _ (fm_cons (hA826.get 2 _ rfl) (fm_cons (hA826.get 3 _ rfl) fm_nil))
      refine t_norm ?_
      refine wp_seq ?_
      refine wp_region_lit ?_
      refine q_step hA827 rfl (d_assign (wn rfl) (hA827.ev rfl) ?_)
      intro a828 hA829
      refine q_end ?_
      have hA830 : St 59 [(2, (.slice none 0 0)), (3, v815), (4, (.slice none 0 0))] a828 := hA829.cut _ (fm_cons (hA829.get 2 _ rfl) (fm_cons (hA829.get 3 _ rfl) (fm_cons (hA829.get 4 _ rfl) fm_nil)))
      refine t_norm ?_
      refine wp_seq ?_
      refine wp_seq ?_
      refine wp_region_lit ?_
      refine q_step hA830 rfl (d_assign (wn rfl) (hA830.ev rfl) ?_)
      intro a831 hA832
      refine q_end ?_
      have hA833 : St 59 [(2, (.slice none 0 0)), (3, v815), (4, (.slice none 0 0)), (5, (.int .i64 0))] a831 := hA832.cut _ (fm_cons (hA832.get 2 _ rfl) (fm_cons (hA832.get 3 _ rfl) (fm_cons (hA832.get 4 _ rfl) (fm_cons (hA832.get 5 _ rfl) fm_nil))))
      refine t_norm ?_
      refine wp_block ?_
      have hs834 : Sl intE 1 w816.heap.size w816 v815 [i.a, i.index] := own_int (l := [i.a, i.index]) ho817
      obtain ⟨L835, hL836⟩ : ∃ L : List Int, L = [i.a, i.index] := ⟨_, rfl⟩
      have hn837 : L835.length ≤ 3 := by rw [hL836]; simp
      rw [← hL836] at hs834
      refine loop_by (fun m a' w' => ∃ (j : Nat) (v : Value), m = L835.length - j ∧ j ≤ L835.length ∧ St 59 [(3, v815), (4, v), (5, (.int .i64 ((j : Nat) : Int)))] a' ∧ Below w816.heap.size w816 w' ∧ w'.ownsRow w816.heap.size 3 1 v (useL L835 j).length (paE (useL L835 j))) (L835.length - 0) ⟨0, .slice none 0 0, rfl, Nat.zero_le _, hA833.cut _ (fm_cons (hA833.get 3 _ rfl) (fm_cons (hA833.get 4 _ rfl) (fm_cons (hA833.get 5 _ rfl) fm_nil))), Below.refl _ _, (by rw [show useL L835 0 = [] by simp [useL]]; exact ⟨rfl, .inl ⟨rfl, rfl⟩⟩)⟩ ?_
      rintro m838 a839 w840 ⟨j841, v842, hm843, hj844, hA845, b846, ho847⟩
      have hul := use_len L835 j841
      refine wp_seq ?_
      refine wp_seq ?_
      refine wp_region_lit ?_
      refine q_step hA845 rfl (d_move (wn rfl) (hA845.ev rfl) ?_)
      intro a848 hA849
      refine q_step hA849 rfl (d_move (wn rfl) (hA849.ev rfl) ?_)
      intro a850 hA851
      refine q_step hA851 rfl (d_len (n := L835.length) (wn rfl) (hA851.ev rfl) slc30 hs834.form ?_)
      intro a852 hA853
      rcases Bool.eq_false_or_eq_true (decide (((j841 : Nat) : Int) < ((L835.length : Nat) : Int))) with hb854 | hb854
      ·skip
       have hq855 := of_decide_eq_true hb854
       refine q_step hA853 rfl (d_bin (wn rfl) (hA853.ev rfl) (hA853.ev rfl) (b_lt _ _ ((j841 : Nat) : Int) ((L835.length : Nat) : Int) true _ hb854) ?_)
       intro a856 hA857
       refine q_end ?_
       have hA858 : St 59 [(3, v815), (4, v842), (5, (.int .i64 ((j841 : Nat) : Int))), (43, (.bool true))] a856 := hA857.cut _ (fm_cons (hA857.get 3 _ rfl) (fm_cons (hA857.get 4 _ rfl) (fm_cons (hA857.get 5 _ rfl) (fm_cons (hA857.get 43 _ rfl) fm_nil))))
       refine t_norm ?_
       refine c_true hA858 rfl ?_
       refine wp_skip ?_
       refine t_norm ?_
       refine wp_seq ?_
       refine wp_block ?_
       refine wp_seq ?_
       refine wp_region_lit ?_
       refine q_step hA858 rfl (d_move (wn rfl) (hA858.ev rfl) ?_)
       intro a859 hA860
       refine q_step hA860 rfl (d_move (wn rfl) (hA860.ev rfl) ?_)
       intro a861 hA862
       obtain ⟨y863, hy864⟩ : ∃ y863, L835[j841]? = some y863 := ⟨_, List.getElem?_eq_getElem (show j841 < L835.length by omega)⟩
       obtain ⟨b865, o866, lt867, hr868, hix869⟩ := (hs834.below b846).at hy864
       refine q_step hA862 rfl (d_indexAt (j := j841) (wn rfl) (hA862.ev rfl) (hA862.ev rfl) slc30 hix869 (get_lt hy864) ?_)
       intro a870 hA871
       refine q_step hA871 rfl (d_load (v := (.int .i64 y863)) (wn rfl) (hA871.ev rfl) one3 (hr868 0 _ rfl) ?_)
       intro a872 hA873
       rcases Bool.eq_false_or_eq_true (y863 == (-1)) with hb874 | hb874
       ·skip
        have hq875 := eq_of_beq hb874
        refine q_step hA873 rfl (d_bin (wn rfl) (hA873.ev rfl) (hA873.ev rfl) (b_ne _ _ y863 (-1) false _ (notof hb874)) ?_)
        intro a876 hA877
        refine q_end ?_
        have hA878 : St 59 [(3, v815), (4, v842), (5, (.int .i64 ((j841 : Nat) : Int))), (50, (.bool false))] a876 := hA877.cut _ (fm_cons (hA877.get 3 _ rfl) (fm_cons (hA877.get 4 _ rfl) (fm_cons (hA877.get 5 _ rfl) (fm_cons (hA877.get 50 _ rfl) fm_nil))))
        refine t_norm ?_
        refine c_false hA878 rfl ?_
        refine wp_skip ?_
        refine i_norm ?_
        refine t_norm ?_
        refine wp_region_lit ?_
        refine q_step hA878 rfl (d_move (wn rfl) (hA878.ev rfl) ?_)
        intro a879 hA880
        refine q_step hA880 rfl (d_bin (wn rfl) (hA880.ev rfl) (hA880.ev rfl) (b_add _ _ ((j841 : Nat) : Int) 1 _ (by omega) (by omega)) ?_)
        intro a881 hA882
        refine q_step hA882 rfl (d_assign (wn rfl) (hA882.ev rfl) ?_)
        intro a883 hA884
        refine q_end ?_
        have hA885 : St 59 [(3, v815), (4, v842), (5, (.int .i64 (((j841 : Nat) : Int) + 1)))] a883 := hA884.cut _ (fm_cons (hA884.get 3 _ rfl) (fm_cons (hA884.get 4 _ rfl) (fm_cons (hA884.get 5 _ rfl) fm_nil)))
        refine t_norm ?_
        exact ⟨L835.length - (j841 + 1), (by have := get_lt hy864; rw [hm843]; omega), j841 + 1, v842, rfl, (by have := get_lt hy864; omega), hA885.cut _ (fm_cons (hA885.get 3 _ rfl) (fm_cons (hA885.get 4 _ rfl) (fm_cons ((hA885.get 5 _ rfl).trans (congrArg (Value.int .i64) (by omega))) fm_nil))), b846, (by rw [use_no hy864 hb874]; exact ho847)⟩
       ·skip
        have hq886 := ne_of_beq hb874
        refine q_step hA873 rfl (d_bin (wn rfl) (hA873.ev rfl) (hA873.ev rfl) (b_ne _ _ y863 (-1) true _ (notof hb874)) ?_)
        intro a887 hA888
        refine q_end ?_
        have hA889 : St 59 [(3, v815), (4, v842), (5, (.int .i64 ((j841 : Nat) : Int))), (50, (.bool true))] a887 := hA888.cut _ (fm_cons (hA888.get 3 _ rfl) (fm_cons (hA888.get 4 _ rfl) (fm_cons (hA888.get 5 _ rfl) (fm_cons (hA888.get 50 _ rfl) fm_nil))))
        refine t_norm ?_
        refine c_true hA889 rfl ?_
        refine wp_region_lit ?_
        refine q_step hA889 rfl (d_move (wn rfl) (hA889.ev rfl) ?_)
        intro a890 hA891
        refine q_step hA891 rfl (d_move (wn rfl) (hA891.ev rfl) ?_)
        intro a892 hA893
        refine q_step hA893 rfl (d_move (wn rfl) (hA893.ev rfl) ?_)
        intro a894 hA895
        obtain ⟨b896, o897, lt898, hr899, hix900⟩ := (hs834.below b846).at hy864
        refine q_step hA895 rfl (d_indexAt (j := j841) (wn rfl) (hA895.ev rfl) (hA895.ev rfl) slc30 hix900 (get_lt hy864) ?_)
        intro a901 hA902
        refine q_step hA902 rfl (d_load (v := (.int .i64 y863)) (wn rfl) (hA902.ev rfl) one3 (hr899 0 _ rfl) ?_)
        intro a903 hA904
        refine q_step hA904 rfl (d_slice1 (wn rfl) (hA904.ev rfl) elm30 rfl (by decide) ?_)
        intro g905 w906 eg907 hG908 (m909 : Blk w906 g905 #[.int .i64 y863] 3)
        have ge910 : w816.heap.size ≤ g905 := eg907 ▸ b846.size
        have off911 := own_new ho847 eg907
        have hr912 := range_below hr899 hG908 (Nat.lt_of_lt_of_le lt898 b846.size)
        have b913 := below_grow b846 hG908 b846.size
        have ho914 := own_grow hG908 ho847
        intro a915 hA916
        refine q_step hA916 rfl (d_append (wn rfl) (hA916.ev rfl) (hA916.ev rfl) elm30 ho914 m909 rfl rfl (by omega) (by decide) b913.size ?_)
        intro v917 w918 ho919 hg920 hl921
        have b922 := below_by b913 hg920 b913.size (fun k hk => (own_lt ho914 k hk).1)
        intro a923 hA924
        refine q_step hA924 rfl (d_assign (wn rfl) (hA924.ev rfl) ?_)
        intro a925 hA926
        refine q_end ?_
        have hA927 : St 59 [(3, v815), (4, v917), (5, (.int .i64 ((j841 : Nat) : Int)))] a925 := hA926.cut _ (fm_cons (hA926.get 3 _ rfl) (fm_cons (hA926.get 4 _ rfl) (fm_cons (hA926.get 5 _ rfl) fm_nil)))
        refine i_norm ?_
        refine t_norm ?_
        refine wp_region_lit ?_
        refine q_step hA927 rfl (d_move (wn rfl) (hA927.ev rfl) ?_)
        intro a928 hA929
        refine q_step hA929 rfl (d_bin (wn rfl) (hA929.ev rfl) (hA929.ev rfl) (b_add _ _ ((j841 : Nat) : Int) 1 _ (by omega) (by omega)) ?_)
        intro a930 hA931
        refine q_step hA931 rfl (d_assign (wn rfl) (hA931.ev rfl) ?_)
        intro a932 hA933
        refine q_end ?_
        have hA934 : St 59 [(3, v815), (4, v917), (5, (.int .i64 (((j841 : Nat) : Int) + 1)))] a932 := hA933.cut _ (fm_cons (hA933.get 3 _ rfl) (fm_cons (hA933.get 4 _ rfl) (fm_cons (hA933.get 5 _ rfl) fm_nil)))
        refine t_norm ?_
        exact ⟨L835.length - (j841 + 1), (by have := get_lt hy864; rw [hm843]; omega), j841 + 1, v917, rfl, (by have := get_lt hy864; omega), hA934.cut _ (fm_cons (hA934.get 3 _ rfl) (fm_cons (hA934.get 4 _ rfl) (fm_cons ((hA934.get 5 _ rfl).trans (congrArg (Value.int .i64) (by omega))) fm_nil))), b922, (by rw [use_yes hy864 hb874, List.length_append, ← paE_snoc]; exact ho919)⟩
      ·skip
       have hq935 := of_decide_eq_false hb854
       refine q_step hA853 rfl (d_bin (wn rfl) (hA853.ev rfl) (hA853.ev rfl) (b_lt _ _ ((j841 : Nat) : Int) ((L835.length : Nat) : Int) false _ hb854) ?_)
       intro a936 hA937
       refine q_end ?_
       have hA938 : St 59 [(3, v815), (4, v842), (5, (.int .i64 ((j841 : Nat) : Int))), (43, (.bool false))] a936 := hA937.cut _ (fm_cons (hA937.get 3 _ rfl) (fm_cons (hA937.get 4 _ rfl) (fm_cons (hA937.get 5 _ rfl) (fm_cons (hA937.get 43 _ rfl) fm_nil))))
       refine t_norm ?_
       refine c_false hA938 rfl ?_
       refine wp_exit ?_
       refine t_exit ?_
       refine t_exit ?_
       refine i_here ?_
       refine t_norm ?_
       refine wp_seq ?_
       refine wp_region_lit ?_
       refine q_step hA938 rfl (d_move (wn rfl) (hA938.ev rfl) ?_)
       intro a939 hA940
       refine q_step hA940 rfl (d_assign (wn rfl) (hA940.ev rfl) ?_)
       intro a941 hA942
       refine q_end ?_
       have hA943 : St 59 [(2, v842)] a941 := hA942.cut _ (fm_cons (hA942.get 2 _ rfl) fm_nil)
       refine t_norm ?_
       refine wp_ret ?_
       refine ret1 rfl hA943 (v := v842) rfl ?_
       have he944 : useL L835 j841 = useF i := by rw [use_all (by omega), hL836]; simp [useF, useX, plainF, List.filter_cons, hb23, hb195, hb367, hb571, eq_of_beq hb747, opB, rdB, wrB]
       exact ⟨_, rfl, Grow.trans b820 b846, (by rw [← he944]; exact own_le ho847 b820.size)⟩
     ·skip
      have hq945 := ne_of_beq hb747
      refine q_step hA746 rfl (d_bin (wn rfl) (hA746.ev rfl) (hA746.ev rfl) (b_eq _ _ i.op 5 false _ hb747) ?_)
      intro a946 hA947
      refine q_step hA947 rfl (d_assign (wn rfl) (hA947.ev rfl) ?_)
      intro a948 hA949
      refine q_end ?_
      have hA950 : St 59 [(1, (.pointer (some ⟨g3, 0, none⟩))), (2, (.slice none 0 0)), (3, (.slice none 0 0)), (26, (.bool false))] a948 := hA949.cut _ (fm_cons (hA949.get 1 _ rfl) (fm_cons (hA949.get 2 _ rfl) (fm_cons (hA949.get 3 _ rfl) (fm_cons (hA949.get 26 _ rfl) fm_nil))))
      refine t_norm ?_
      refine c_false hA950 rfl ?_
      refine wp_skip ?_
      refine i_norm ?_
      refine t_norm ?_
      refine wp_seq ?_
      refine wp_seq ?_
      refine wp_region_lit ?_
      refine q_step hA950 rfl (d_loadRow (cs := (insC i)) (wn rfl) (hA950.ev rfl) row23 m7 ?_)
      intro a951 hA952
      refine q_step hA952 rfl (d_call (wn rfl) ent32 (map1 (hA952.ev rfl)) (memory_any i w4) ?_)
      rintro e956 w953 ⟨he955, hG954⟩
      have m957 := m7.grow hG954
      have b958 := below_grow b9 hG954 b9.size
      rcases Bool.eq_false_or_eq_true (opB i) with hb959 | hb959
      ·skip
       refine ⟨.bool true, he955.trans (ret_bool hb959), ?_⟩
       intro a961 hA962
       refine q_end ?_
       have hA963 : St 59 [(1, (.pointer (some ⟨g3, 0, none⟩))), (2, (.slice none 0 0)), (3, (.slice none 0 0)), (34, (.bool true))] a961 := hA962.cut _ (fm_cons (hA962.get 1 _ rfl) (fm_cons (hA962.get 2 _ rfl) (fm_cons (hA962.get 3 _ rfl) (fm_cons (hA962.get 34 _ rfl) fm_nil))))
       refine t_norm ?_
       refine c_true hA963 rfl ?_
       refine wp_region_lit ?_
       refine q_step hA963 rfl (d_move (wn rfl) (hA963.ev rfl) ?_)
       intro a964 hA965
       refine q_step hA965 rfl (d_fieldAddr (wn rfl) (hA965.ev rfl) fo23_7 ?_)
       intro a966 hA967
       refine q_step hA967 rfl (d_load (v := (.int .i64 i.index)) (wn rfl) (hA967.ev rfl) one3 (m957.cell rfl) ?_)
       intro a968 hA969
       refine q_step hA969 rfl (d_slice1 (wn rfl) (hA969.ev rfl) elm30 rfl (by decide) ?_)
       intro g970 w971 eg972 hG973 (m974 : Blk w971 g970 #[.int .i64 i.index] 3)
       have ge975 : w.heap.size ≤ g970 := eg972 ▸ b958.size
       have n976 : g3 ≠ g970 := fun h => Nat.lt_irrefl _ ((h.trans eg972) ▸ m957.lt)
       have m977 := m957.grow hG973
       have b978 := below_grow b958 hG973 b958.size
       intro a979 hA980
       refine q_step hA980 rfl (d_append (wn rfl) (hA980.ev rfl) (hA980.ev rfl) elm30 (⟨rfl, .inl ⟨rfl, rfl⟩⟩ : (w971).ownsRow w.heap.size 3 1 (.slice none 0 0) 0 []) m974 rfl rfl (by omega) (by decide) b978.size ?_)
       intro v981 w982 ho983 hg984 hl985
       have b986 := below_by b978 hg984 b978.size (fun k hk => (own_lt (⟨rfl, .inl ⟨rfl, rfl⟩⟩ : (w971).ownsRow w.heap.size 3 1 (.slice none 0 0) 0 []) k hk).1)
       have m987 := m977.by hg984 (fun h => nomatch h)
       have off988 := lies_ne hl985 (fun h => nomatch h) m977.lt
       intro a989 hA990
       refine q_step hA990 rfl (d_assign (wn rfl) (hA990.ev rfl) ?_)
       intro a991 hA992
       refine q_end ?_
       have hA993 : St 59 [(2, (.slice none 0 0)), (3, v981)] a991 := hA992.cut _ (fm_cons (hA992.get 2 _ rfl) (fm_cons (hA992.get 3 _ rfl) fm_nil))
       refine t_norm ?_
       refine wp_seq ?_
       refine wp_region_lit ?_
       refine q_step hA993 rfl (d_assign (wn rfl) (hA993.ev rfl) ?_)
       intro a994 hA995
       refine q_end ?_
       have hA996 : St 59 [(2, (.slice none 0 0)), (3, v981), (4, (.slice none 0 0))] a994 := hA995.cut _ (fm_cons (hA995.get 2 _ rfl) (fm_cons (hA995.get 3 _ rfl) (fm_cons (hA995.get 4 _ rfl) fm_nil)))
       refine t_norm ?_
       refine wp_seq ?_
       refine wp_seq ?_
       refine wp_region_lit ?_
       refine q_step hA996 rfl (d_assign (wn rfl) (hA996.ev rfl) ?_)
       intro a997 hA998
       refine q_end ?_
       have hA999 : St 59 [(2, (.slice none 0 0)), (3, v981), (4, (.slice none 0 0)), (5, (.int .i64 0))] a997 := hA998.cut _ (fm_cons (hA998.get 2 _ rfl) (fm_cons (hA998.get 3 _ rfl) (fm_cons (hA998.get 4 _ rfl) (fm_cons (hA998.get 5 _ rfl) fm_nil))))
       refine t_norm ?_
       refine wp_block ?_
       have hs1000 : Sl intE 1 w982.heap.size w982 v981 [i.index] := own_int (l := [i.index]) ho983
       obtain ⟨L1001, hL1002⟩ : ∃ L : List Int, L = [i.index] := ⟨_, rfl⟩
       have hn1003 : L1001.length ≤ 3 := by rw [hL1002]; simp
       rw [← hL1002] at hs1000
       refine loop_by (fun m a' w' => ∃ (j : Nat) (v : Value), m = L1001.length - j ∧ j ≤ L1001.length ∧ St 59 [(3, v981), (4, v), (5, (.int .i64 ((j : Nat) : Int)))] a' ∧ Below w982.heap.size w982 w' ∧ w'.ownsRow w982.heap.size 3 1 v (useL L1001 j).length (paE (useL L1001 j))) (L1001.length - 0) ⟨0, .slice none 0 0, rfl, Nat.zero_le _, hA999.cut _ (fm_cons (hA999.get 3 _ rfl) (fm_cons (hA999.get 4 _ rfl) (fm_cons (hA999.get 5 _ rfl) fm_nil))), Below.refl _ _, (by rw [show useL L1001 0 = [] by simp [useL]]; exact ⟨rfl, .inl ⟨rfl, rfl⟩⟩)⟩ ?_
       rintro m1004 a1005 w1006 ⟨j1007, v1008, hm1009, hj1010, hA1011, b1012, ho1013⟩
       have hul := use_len L1001 j1007
       refine wp_seq ?_
       refine wp_seq ?_
       refine wp_region_lit ?_
       refine q_step hA1011 rfl (d_move (wn rfl) (hA1011.ev rfl) ?_)
       intro a1014 hA1015
       refine q_step hA1015 rfl (d_move (wn rfl) (hA1015.ev rfl) ?_)
       intro a1016 hA1017
       refine q_step hA1017 rfl (d_len (n := L1001.length) (wn rfl) (hA1017.ev rfl) slc30 hs1000.form ?_)
       intro a1018 hA1019
       rcases Bool.eq_false_or_eq_true (decide (((j1007 : Nat) : Int) < ((L1001.length : Nat) : Int))) with hb1020 | hb1020
       ·skip
        have hq1021 := of_decide_eq_true hb1020
        refine q_step hA1019 rfl (d_bin (wn rfl) (hA1019.ev rfl) (hA1019.ev rfl) (b_lt _ _ ((j1007 : Nat) : Int) ((L1001.length : Nat) : Int) true _ hb1020) ?_)
        intro a1022 hA1023
        refine q_end ?_
        have hA1024 : St 59 [(3, v981), (4, v1008), (5, (.int .i64 ((j1007 : Nat) : Int))), (43, (.bool true))] a1022 := hA1023.cut _ (fm_cons (hA1023.get 3 _ rfl) (fm_cons (hA1023.get 4 _ rfl) (fm_cons (hA1023.get 5 _ rfl) (fm_cons (hA1023.get 43 _ rfl) fm_nil))))
        refine t_norm ?_
        refine c_true hA1024 rfl ?_
        refine wp_skip ?_
        refine t_norm ?_
        refine wp_seq ?_
        refine wp_block ?_
        refine wp_seq ?_
        refine wp_region_lit ?_
        refine q_step hA1024 rfl (d_move (wn rfl) (hA1024.ev rfl) ?_)
        intro a1025 hA1026
        refine q_step hA1026 rfl (d_move (wn rfl) (hA1026.ev rfl) ?_)
        intro a1027 hA1028
        obtain ⟨y1029, hy1030⟩ : ∃ y1029, L1001[j1007]? = some y1029 := ⟨_, List.getElem?_eq_getElem (show j1007 < L1001.length by omega)⟩
        obtain ⟨b1031, o1032, lt1033, hr1034, hix1035⟩ := (hs1000.below b1012).at hy1030
        refine q_step hA1028 rfl (d_indexAt (j := j1007) (wn rfl) (hA1028.ev rfl) (hA1028.ev rfl) slc30 hix1035 (get_lt hy1030) ?_)
        intro a1036 hA1037
        refine q_step hA1037 rfl (d_load (v := (.int .i64 y1029)) (wn rfl) (hA1037.ev rfl) one3 (hr1034 0 _ rfl) ?_)
        intro a1038 hA1039
        rcases Bool.eq_false_or_eq_true (y1029 == (-1)) with hb1040 | hb1040
        ·skip
         have hq1041 := eq_of_beq hb1040
         refine q_step hA1039 rfl (d_bin (wn rfl) (hA1039.ev rfl) (hA1039.ev rfl) (b_ne _ _ y1029 (-1) false _ (notof hb1040)) ?_)
         intro a1042 hA1043
         refine q_end ?_
         have hA1044 : St 59 [(3, v981), (4, v1008), (5, (.int .i64 ((j1007 : Nat) : Int))), (50, (.bool false))] a1042 := hA1043.cut _ (fm_cons (hA1043.get 3 _ rfl) (fm_cons (hA1043.get 4 _ rfl) (fm_cons (hA1043.get 5 _ rfl) (fm_cons (hA1043.get 50 _ rfl) fm_nil))))
         refine t_norm ?_
         refine c_false hA1044 rfl ?_
         refine wp_skip ?_
         refine i_norm ?_
         refine t_norm ?_
         refine wp_region_lit ?_
         refine q_step hA1044 rfl (d_move (wn rfl) (hA1044.ev rfl) ?_)
         intro a1045 hA1046
         refine q_step hA1046 rfl (d_bin (wn rfl) (hA1046.ev rfl) (hA1046.ev rfl) (b_add _ _ ((j1007 : Nat) : Int) 1 _ (by omega) (by omega)) ?_)
         intro a1047 hA1048
         refine q_step hA1048 rfl (d_assign (wn rfl) (hA1048.ev rfl) ?_)
         intro a1049 hA1050
         refine q_end ?_
         have hA1051 : St 59 [(3, v981), (4, v1008), (5, (.int .i64 (((j1007 : Nat) : Int) + 1)))] a1049 := hA1050.cut _ (fm_cons (hA1050.get 3 _ rfl) (fm_cons (hA1050.get 4 _ rfl) (fm_cons (hA1050.get 5 _ rfl) fm_nil)))
         refine t_norm ?_
         exact ⟨L1001.length - (j1007 + 1), (by have := get_lt hy1030; rw [hm1009]; omega), j1007 + 1, v1008, rfl, (by have := get_lt hy1030; omega), hA1051.cut _ (fm_cons (hA1051.get 3 _ rfl) (fm_cons (hA1051.get 4 _ rfl) (fm_cons ((hA1051.get 5 _ rfl).trans (congrArg (Value.int .i64) (by omega))) fm_nil))), b1012, (by rw [use_no hy1030 hb1040]; exact ho1013)⟩
        ·skip
         have hq1052 := ne_of_beq hb1040
         refine q_step hA1039 rfl (d_bin (wn rfl) (hA1039.ev rfl) (hA1039.ev rfl) (b_ne _ _ y1029 (-1) true _ (notof hb1040)) ?_)
         intro a1053 hA1054
         refine q_end ?_
         have hA1055 : St 59 [(3, v981), (4, v1008), (5, (.int .i64 ((j1007 : Nat) : Int))), (50, (.bool true))] a1053 := hA1054.cut _ (fm_cons (hA1054.get 3 _ rfl) (fm_cons (hA1054.get 4 _ rfl) (fm_cons (hA1054.get 5 _ rfl) (fm_cons (hA1054.get 50 _ rfl) fm_nil))))
         refine t_norm ?_
         refine c_true hA1055 rfl ?_
         refine wp_region_lit ?_
         refine q_step hA1055 rfl (d_move (wn rfl) (hA1055.ev rfl) ?_)
         intro a1056 hA1057
         refine q_step hA1057 rfl (d_move (wn rfl) (hA1057.ev rfl) ?_)
         intro a1058 hA1059
         refine q_step hA1059 rfl (d_move (wn rfl) (hA1059.ev rfl) ?_)
         intro a1060 hA1061
         obtain ⟨b1062, o1063, lt1064, hr1065, hix1066⟩ := (hs1000.below b1012).at hy1030
         refine q_step hA1061 rfl (d_indexAt (j := j1007) (wn rfl) (hA1061.ev rfl) (hA1061.ev rfl) slc30 hix1066 (get_lt hy1030) ?_)
         intro a1067 hA1068
         refine q_step hA1068 rfl (d_load (v := (.int .i64 y1029)) (wn rfl) (hA1068.ev rfl) one3 (hr1065 0 _ rfl) ?_)
         intro a1069 hA1070
         refine q_step hA1070 rfl (d_slice1 (wn rfl) (hA1070.ev rfl) elm30 rfl (by decide) ?_)
         intro g1071 w1072 eg1073 hG1074 (m1075 : Blk w1072 g1071 #[.int .i64 y1029] 3)
         have ge1076 : w982.heap.size ≤ g1071 := eg1073 ▸ b1012.size
         have off1077 := own_new ho1013 eg1073
         have hr1078 := range_below hr1065 hG1074 (Nat.lt_of_lt_of_le lt1064 b1012.size)
         have b1079 := below_grow b1012 hG1074 b1012.size
         have ho1080 := own_grow hG1074 ho1013
         intro a1081 hA1082
         refine q_step hA1082 rfl (d_append (wn rfl) (hA1082.ev rfl) (hA1082.ev rfl) elm30 ho1080 m1075 rfl rfl (by omega) (by decide) b1079.size ?_)
         intro v1083 w1084 ho1085 hg1086 hl1087
         have b1088 := below_by b1079 hg1086 b1079.size (fun k hk => (own_lt ho1080 k hk).1)
         intro a1089 hA1090
         refine q_step hA1090 rfl (d_assign (wn rfl) (hA1090.ev rfl) ?_)
         intro a1091 hA1092
         refine q_end ?_
         have hA1093 : St 59 [(3, v981), (4, v1083), (5, (.int .i64 ((j1007 : Nat) : Int)))] a1091 := hA1092.cut _ (fm_cons (hA1092.get 3 _ rfl) (fm_cons (hA1092.get 4 _ rfl) (fm_cons (hA1092.get 5 _ rfl) fm_nil)))
         refine i_norm ?_
         refine t_norm ?_
         refine wp_region_lit ?_
         refine q_step hA1093 rfl (d_move (wn rfl) (hA1093.ev rfl) ?_)
         intro a1094 hA1095
         refine q_step hA1095 rfl (d_bin (wn rfl) (hA1095.ev rfl) (hA1095.ev rfl) (b_add _ _ ((j1007 : Nat) : Int) 1 _ (by omega) (by omega)) ?_)
         intro a1096 hA1097
         refine q_step hA1097 rfl (d_assign (wn rfl) (hA1097.ev rfl) ?_)
         intro a1098 hA1099
         refine q_end ?_
         have hA1100 : St 59 [(3, v981), (4, v1083), (5, (.int .i64 (((j1007 : Nat) : Int) + 1)))] a1098 := hA1099.cut _ (fm_cons (hA1099.get 3 _ rfl) (fm_cons (hA1099.get 4 _ rfl) (fm_cons (hA1099.get 5 _ rfl) fm_nil)))
         refine t_norm ?_
         exact ⟨L1001.length - (j1007 + 1), (by have := get_lt hy1030; rw [hm1009]; omega), j1007 + 1, v1083, rfl, (by have := get_lt hy1030; omega), hA1100.cut _ (fm_cons (hA1100.get 3 _ rfl) (fm_cons (hA1100.get 4 _ rfl) (fm_cons ((hA1100.get 5 _ rfl).trans (congrArg (Value.int .i64) (by omega))) fm_nil))), b1088, (by rw [use_yes hy1030 hb1040, List.length_append, ← paE_snoc]; exact ho1085)⟩
       ·skip
        have hq1101 := of_decide_eq_false hb1020
        refine q_step hA1019 rfl (d_bin (wn rfl) (hA1019.ev rfl) (hA1019.ev rfl) (b_lt _ _ ((j1007 : Nat) : Int) ((L1001.length : Nat) : Int) false _ hb1020) ?_)
        intro a1102 hA1103
        refine q_end ?_
        have hA1104 : St 59 [(3, v981), (4, v1008), (5, (.int .i64 ((j1007 : Nat) : Int))), (43, (.bool false))] a1102 := hA1103.cut _ (fm_cons (hA1103.get 3 _ rfl) (fm_cons (hA1103.get 4 _ rfl) (fm_cons (hA1103.get 5 _ rfl) (fm_cons (hA1103.get 43 _ rfl) fm_nil))))
        refine t_norm ?_
        refine c_false hA1104 rfl ?_
        refine wp_exit ?_
        refine t_exit ?_
        refine t_exit ?_
        refine i_here ?_
        refine t_norm ?_
        refine wp_seq ?_
        refine wp_region_lit ?_
        refine q_step hA1104 rfl (d_move (wn rfl) (hA1104.ev rfl) ?_)
        intro a1105 hA1106
        refine q_step hA1106 rfl (d_assign (wn rfl) (hA1106.ev rfl) ?_)
        intro a1107 hA1108
        refine q_end ?_
        have hA1109 : St 59 [(2, v1008)] a1107 := hA1108.cut _ (fm_cons (hA1108.get 2 _ rfl) fm_nil)
        refine t_norm ?_
        refine wp_ret ?_
        refine ret1 rfl hA1109 (v := v1008) rfl ?_
        have he1110 : useL L1001 j1007 = useF i := by rw [use_all (by omega), hL1002]; simp [useF, useX, plainF, List.filter_cons, hb23, hb195, hb367, hb571, hb747, hb959]
        exact ⟨_, rfl, Grow.trans b986 b1012, (by rw [← he1110]; exact own_le ho1013 b986.size)⟩
      ·skip
       refine ⟨.bool false, he955.trans (ret_bool hb959), ?_⟩
       intro a1112 hA1113
       refine q_end ?_
       have hA1114 : St 59 [(1, (.pointer (some ⟨g3, 0, none⟩))), (2, (.slice none 0 0)), (3, (.slice none 0 0)), (34, (.bool false))] a1112 := hA1113.cut _ (fm_cons (hA1113.get 1 _ rfl) (fm_cons (hA1113.get 2 _ rfl) (fm_cons (hA1113.get 3 _ rfl) (fm_cons (hA1113.get 34 _ rfl) fm_nil))))
       refine t_norm ?_
       refine c_false hA1114 rfl ?_
       refine wp_skip ?_
       refine t_norm ?_
       refine wp_seq ?_
       refine wp_region_lit ?_
       refine q_step hA1114 rfl (d_assign (wn rfl) (hA1114.ev rfl) ?_)
       intro a1115 hA1116
       refine q_end ?_
       have hA1117 : St 59 [(2, (.slice none 0 0)), (3, (.slice none 0 0)), (4, (.slice none 0 0))] a1115 := hA1116.cut _ (fm_cons (hA1116.get 2 _ rfl) (fm_cons (hA1116.get 3 _ rfl) (fm_cons (hA1116.get 4 _ rfl) fm_nil)))
       refine t_norm ?_
       refine wp_seq ?_
       refine wp_seq ?_
       refine wp_region_lit ?_
       refine q_step hA1117 rfl (d_assign (wn rfl) (hA1117.ev rfl) ?_)
       intro a1118 hA1119
       refine q_end ?_
       have hA1120 : St 59 [(2, (.slice none 0 0)), (3, (.slice none 0 0)), (4, (.slice none 0 0)), (5, (.int .i64 0))] a1118 := hA1119.cut _ (fm_cons (hA1119.get 2 _ rfl) (fm_cons (hA1119.get 3 _ rfl) (fm_cons (hA1119.get 4 _ rfl) (fm_cons (hA1119.get 5 _ rfl) fm_nil))))
       refine t_norm ?_
       refine wp_block ?_
       have hs1121 : Sl intE 1 w953.heap.size w953 (.slice none 0 0) ([] : List Int) := Sl.nil
       obtain ⟨L1122, hL1123⟩ : ∃ L : List Int, L = ([] : List Int) := ⟨_, rfl⟩
       have hn1124 : L1122.length ≤ 3 := by rw [hL1123]; simp
       rw [← hL1123] at hs1121
       refine loop_by (fun m a' w' => ∃ (j : Nat) (v : Value), m = L1122.length - j ∧ j ≤ L1122.length ∧ St 59 [(3, (.slice none 0 0)), (4, v), (5, (.int .i64 ((j : Nat) : Int)))] a' ∧ Below w953.heap.size w953 w' ∧ w'.ownsRow w953.heap.size 3 1 v (useL L1122 j).length (paE (useL L1122 j))) (L1122.length - 0) ⟨0, .slice none 0 0, rfl, Nat.zero_le _, hA1120.cut _ (fm_cons (hA1120.get 3 _ rfl) (fm_cons (hA1120.get 4 _ rfl) (fm_cons (hA1120.get 5 _ rfl) fm_nil))), Below.refl _ _, (by rw [show useL L1122 0 = [] by simp [useL]]; exact ⟨rfl, .inl ⟨rfl, rfl⟩⟩)⟩ ?_
       rintro m1125 a1126 w1127 ⟨j1128, v1129, hm1130, hj1131, hA1132, b1133, ho1134⟩
       have hul := use_len L1122 j1128
       refine wp_seq ?_
       refine wp_seq ?_
       refine wp_region_lit ?_
       refine q_step hA1132 rfl (d_move (wn rfl) (hA1132.ev rfl) ?_)
       intro a1135 hA1136
       refine q_step hA1136 rfl (d_move (wn rfl) (hA1136.ev rfl) ?_)
       intro a1137 hA1138
       refine q_step hA1138 rfl (d_len (n := L1122.length) (wn rfl) (hA1138.ev rfl) slc30 hs1121.form ?_)
       intro a1139 hA1140
       rcases Bool.eq_false_or_eq_true (decide (((j1128 : Nat) : Int) < ((L1122.length : Nat) : Int))) with hb1141 | hb1141
       ·skip
        have hq1142 := of_decide_eq_true hb1141
        refine q_step hA1140 rfl (d_bin (wn rfl) (hA1140.ev rfl) (hA1140.ev rfl) (b_lt _ _ ((j1128 : Nat) : Int) ((L1122.length : Nat) : Int) true _ hb1141) ?_)
        intro a1143 hA1144
        refine q_end ?_
        have hA1145 : St 59 [(3, (.slice none 0 0)), (4, v1129), (5, (.int .i64 ((j1128 : Nat) : Int))), (43, (.bool true))] a1143 := hA1144.cut _ (fm_cons (hA1144.get 3 _ rfl) (fm_cons (hA1144.get 4 _ rfl) (fm_cons (hA1144.get 5 _ rfl) (fm_cons (hA1144.get 43 _ rfl) fm_nil))))
        refine t_norm ?_
        refine c_true hA1145 rfl ?_
        refine wp_skip ?_
        refine t_norm ?_
        refine wp_seq ?_
        refine wp_block ?_
        refine wp_seq ?_
        refine wp_region_lit ?_
        refine q_step hA1145 rfl (d_move (wn rfl) (hA1145.ev rfl) ?_)
        intro a1146 hA1147
        refine q_step hA1147 rfl (d_move (wn rfl) (hA1147.ev rfl) ?_)
        intro a1148 hA1149
        obtain ⟨y1150, hy1151⟩ : ∃ y1150, L1122[j1128]? = some y1150 := ⟨_, List.getElem?_eq_getElem (show j1128 < L1122.length by omega)⟩
        obtain ⟨b1152, o1153, lt1154, hr1155, hix1156⟩ := (hs1121.below b1133).at hy1151
        refine q_step hA1149 rfl (d_indexAt (j := j1128) (wn rfl) (hA1149.ev rfl) (hA1149.ev rfl) slc30 hix1156 (get_lt hy1151) ?_)
        intro a1157 hA1158
        refine q_step hA1158 rfl (d_load (v := (.int .i64 y1150)) (wn rfl) (hA1158.ev rfl) one3 (hr1155 0 _ rfl) ?_)
        intro a1159 hA1160
        rcases Bool.eq_false_or_eq_true (y1150 == (-1)) with hb1161 | hb1161
        ·skip
         have hq1162 := eq_of_beq hb1161
         refine q_step hA1160 rfl (d_bin (wn rfl) (hA1160.ev rfl) (hA1160.ev rfl) (b_ne _ _ y1150 (-1) false _ (notof hb1161)) ?_)
         intro a1163 hA1164
         refine q_end ?_
         have hA1165 : St 59 [(3, (.slice none 0 0)), (4, v1129), (5, (.int .i64 ((j1128 : Nat) : Int))), (50, (.bool false))] a1163 := hA1164.cut _ (fm_cons (hA1164.get 3 _ rfl) (fm_cons (hA1164.get 4 _ rfl) (fm_cons (hA1164.get 5 _ rfl) (fm_cons (hA1164.get 50 _ rfl) fm_nil))))
         refine t_norm ?_
         refine c_false hA1165 rfl ?_
         refine wp_skip ?_
         refine i_norm ?_
         refine t_norm ?_
         refine wp_region_lit ?_
         refine q_step hA1165 rfl (d_move (wn rfl) (hA1165.ev rfl) ?_)
         intro a1166 hA1167
         refine q_step hA1167 rfl (d_bin (wn rfl) (hA1167.ev rfl) (hA1167.ev rfl) (b_add _ _ ((j1128 : Nat) : Int) 1 _ (by omega) (by omega)) ?_)
         intro a1168 hA1169
         refine q_step hA1169 rfl (d_assign (wn rfl) (hA1169.ev rfl) ?_)
         intro a1170 hA1171
         refine q_end ?_
         have hA1172 : St 59 [(3, (.slice none 0 0)), (4, v1129), (5, (.int .i64 (((j1128 : Nat) : Int) + 1)))] a1170 := hA1171.cut _ (fm_cons (hA1171.get 3 _ rfl) (fm_cons (hA1171.get 4 _ rfl) (fm_cons (hA1171.get 5 _ rfl) fm_nil)))
         refine t_norm ?_
         exact ⟨L1122.length - (j1128 + 1), (by have := get_lt hy1151; rw [hm1130]; omega), j1128 + 1, v1129, rfl, (by have := get_lt hy1151; omega), hA1172.cut _ (fm_cons (hA1172.get 3 _ rfl) (fm_cons (hA1172.get 4 _ rfl) (fm_cons ((hA1172.get 5 _ rfl).trans (congrArg (Value.int .i64) (by omega))) fm_nil))), b1133, (by rw [use_no hy1151 hb1161]; exact ho1134)⟩
        ·skip
         have hq1173 := ne_of_beq hb1161
         refine q_step hA1160 rfl (d_bin (wn rfl) (hA1160.ev rfl) (hA1160.ev rfl) (b_ne _ _ y1150 (-1) true _ (notof hb1161)) ?_)
         intro a1174 hA1175
         refine q_end ?_
         have hA1176 : St 59 [(3, (.slice none 0 0)), (4, v1129), (5, (.int .i64 ((j1128 : Nat) : Int))), (50, (.bool true))] a1174 := hA1175.cut _ (fm_cons (hA1175.get 3 _ rfl) (fm_cons (hA1175.get 4 _ rfl) (fm_cons (hA1175.get 5 _ rfl) (fm_cons (hA1175.get 50 _ rfl) fm_nil))))
         refine t_norm ?_
         refine c_true hA1176 rfl ?_
         refine wp_region_lit ?_
         refine q_step hA1176 rfl (d_move (wn rfl) (hA1176.ev rfl) ?_)
         intro a1177 hA1178
         refine q_step hA1178 rfl (d_move (wn rfl) (hA1178.ev rfl) ?_)
         intro a1179 hA1180
         refine q_step hA1180 rfl (d_move (wn rfl) (hA1180.ev rfl) ?_)
         intro a1181 hA1182
         obtain ⟨b1183, o1184, lt1185, hr1186, hix1187⟩ := (hs1121.below b1133).at hy1151
         refine q_step hA1182 rfl (d_indexAt (j := j1128) (wn rfl) (hA1182.ev rfl) (hA1182.ev rfl) slc30 hix1187 (get_lt hy1151) ?_)
         intro a1188 hA1189
         refine q_step hA1189 rfl (d_load (v := (.int .i64 y1150)) (wn rfl) (hA1189.ev rfl) one3 (hr1186 0 _ rfl) ?_)
         intro a1190 hA1191
         refine q_step hA1191 rfl (d_slice1 (wn rfl) (hA1191.ev rfl) elm30 rfl (by decide) ?_)
         intro g1192 w1193 eg1194 hG1195 (m1196 : Blk w1193 g1192 #[.int .i64 y1150] 3)
         have ge1197 : w953.heap.size ≤ g1192 := eg1194 ▸ b1133.size
         have off1198 := own_new ho1134 eg1194
         have hr1199 := range_below hr1186 hG1195 (Nat.lt_of_lt_of_le lt1185 b1133.size)
         have b1200 := below_grow b1133 hG1195 b1133.size
         have ho1201 := own_grow hG1195 ho1134
         intro a1202 hA1203
         refine q_step hA1203 rfl (d_append (wn rfl) (hA1203.ev rfl) (hA1203.ev rfl) elm30 ho1201 m1196 rfl rfl (by omega) (by decide) b1200.size ?_)
         intro v1204 w1205 ho1206 hg1207 hl1208
         have b1209 := below_by b1200 hg1207 b1200.size (fun k hk => (own_lt ho1201 k hk).1)
         intro a1210 hA1211
         refine q_step hA1211 rfl (d_assign (wn rfl) (hA1211.ev rfl) ?_)
         intro a1212 hA1213
         refine q_end ?_
         have hA1214 : St 59 [(3, (.slice none 0 0)), (4, v1204), (5, (.int .i64 ((j1128 : Nat) : Int)))] a1212 := hA1213.cut _ (fm_cons (hA1213.get 3 _ rfl) (fm_cons (hA1213.get 4 _ rfl) (fm_cons (hA1213.get 5 _ rfl) fm_nil)))
         refine i_norm ?_
         refine t_norm ?_
         refine wp_region_lit ?_
         refine q_step hA1214 rfl (d_move (wn rfl) (hA1214.ev rfl) ?_)
         intro a1215 hA1216
         refine q_step hA1216 rfl (d_bin (wn rfl) (hA1216.ev rfl) (hA1216.ev rfl) (b_add _ _ ((j1128 : Nat) : Int) 1 _ (by omega) (by omega)) ?_)
         intro a1217 hA1218
         refine q_step hA1218 rfl (d_assign (wn rfl) (hA1218.ev rfl) ?_)
         intro a1219 hA1220
         refine q_end ?_
         have hA1221 : St 59 [(3, (.slice none 0 0)), (4, v1204), (5, (.int .i64 (((j1128 : Nat) : Int) + 1)))] a1219 := hA1220.cut _ (fm_cons (hA1220.get 3 _ rfl) (fm_cons (hA1220.get 4 _ rfl) (fm_cons (hA1220.get 5 _ rfl) fm_nil)))
         refine t_norm ?_
         exact ⟨L1122.length - (j1128 + 1), (by have := get_lt hy1151; rw [hm1130]; omega), j1128 + 1, v1204, rfl, (by have := get_lt hy1151; omega), hA1221.cut _ (fm_cons (hA1221.get 3 _ rfl) (fm_cons (hA1221.get 4 _ rfl) (fm_cons ((hA1221.get 5 _ rfl).trans (congrArg (Value.int .i64) (by omega))) fm_nil))), b1209, (by rw [use_yes hy1151 hb1161, List.length_append, ← paE_snoc]; exact ho1206)⟩
       ·skip
        have hq1222 := of_decide_eq_false hb1141
        refine q_step hA1140 rfl (d_bin (wn rfl) (hA1140.ev rfl) (hA1140.ev rfl) (b_lt _ _ ((j1128 : Nat) : Int) ((L1122.length : Nat) : Int) false _ hb1141) ?_)
        intro a1223 hA1224
        refine q_end ?_
        have hA1225 : St 59 [(3, (.slice none 0 0)), (4, v1129), (5, (.int .i64 ((j1128 : Nat) : Int))), (43, (.bool false))] a1223 := hA1224.cut _ (fm_cons (hA1224.get 3 _ rfl) (fm_cons (hA1224.get 4 _ rfl) (fm_cons (hA1224.get 5 _ rfl) (fm_cons (hA1224.get 43 _ rfl) fm_nil))))
        refine t_norm ?_
        refine c_false hA1225 rfl ?_
        refine wp_exit ?_
        refine t_exit ?_
        refine t_exit ?_
        refine i_here ?_
        refine t_norm ?_
        refine wp_seq ?_
        refine wp_region_lit ?_
        refine q_step hA1225 rfl (d_move (wn rfl) (hA1225.ev rfl) ?_)
        intro a1226 hA1227
        refine q_step hA1227 rfl (d_assign (wn rfl) (hA1227.ev rfl) ?_)
        intro a1228 hA1229
        refine q_end ?_
        have hA1230 : St 59 [(2, v1129)] a1228 := hA1229.cut _ (fm_cons (hA1229.get 2 _ rfl) fm_nil)
        refine t_norm ?_
        refine wp_ret ?_
        refine ret1 rfl hA1230 (v := v1129) rfl ?_
        have he1231 : useL L1122 j1128 = useF i := by rw [use_all (by omega), hL1123]; simp [useF, useX, plainF, List.filter_cons, hb23, hb195, hb367, hb571, hb747, hb959]
        exact ⟨_, rfl, Grow.trans b958 b1133, (by rw [← he1231]; exact own_le ho1134 b958.size)⟩
end Go.Proofs.Ytlhompedcphnnaa
/- A row of numbers that a call returns, while others go on; what a law's ints wants. -/
namespace Go.Proofs.Ytlhompedcphnnaa
open Go.RowKit

def cu (M : Nat → Option (Array Value)) (hM : ∀ k, M k = none) (l : List Int) : Cl (SM M) :=
 ⟨fun v w => ∃ b, w.ownsRow b 3 1 v l.length (paE l), fun _ _ _ hS ⟨b, h⟩ => ⟨b, own_sm h hS hM⟩⟩
theorem cu_sl {w : World} {v : Value} {l : List Int} (h : ∃ b, w.ownsRow b 3 1 v l.length (paE l)) : Sl intE 1 w.heap.size w v l := let ⟨_, h⟩ := h; own_int h
theorem use_le (i : Ins) : (useF i).length ≤ 1000000 := by
 have := List.length_filter_le (fun x : Int => !(x == -1)) (useX i)
 have h3 : (useX i).length = 3 := rfl
 unfold useF; omega
end Go.Proofs.Ytlhompedcphnnaa
/- How an instruction that is handed in by value is read. -/
namespace Go.Proofs.Ytlhompedcphnnaa
open Go.ChangeShapes Go.WideShapes Go.ChangeAt Go.RowKit

def insT (k : Nat) : Nat := if k == 10 || k == 11 || k == 12 || k == 16 then 4 else 3
def insFs (P : Program) : Option (Array Field) := match P.underlying 23 with | some (.struct fs) => some fs | _ => none
def insFB (P : Program) : Bool := match insFs P with | some fs => (List.range 17).all (fun k => match fs[k]? with | some f => f.offset == k && f.type == insT k | none => false) | none => false
theorem insFB_true : insFB Try.prog = true := by kernel_rfl
theorem ins_fields : ∃ fs : Array Field, Try.prog.underlying 23 = some (.struct fs) ∧ ∀ k, k < 17 → ∃ f, fs[k]? = some f ∧ f.offset = k ∧ f.type = insT k := by
  have h := insFB_true
  unfold insFB at h
  cases hq : insFs Try.prog with
  | none => simp [hq] at h
  | some fs =>
    rw [hq] at h
    refine ⟨fs, ?_, fun k hk => ?_⟩
    · unfold insFs at hq
      split at hq
      · rename_i fs' he; rw [he]; cases hq; rfl
      · cases hq
    · have h1 := List.all_eq_true.1 h k (List.mem_range.2 hk)
      cases hf : fs[k]? with
      | none => simp [hf] at h1
      | some f => rw [hf] at h1; simp only [Bool.and_eq_true, beq_iff_eq] at h1; exact ⟨f, rfl, h1.1, h1.2⟩
theorem ins_cells : Try.prog.cellsOf 23 = 17 := by kernel_rfl
theorem int_cells : Try.prog.cellsOf 3 = 1 := by kernel_rfl
theorem bool_cells : Try.prog.cellsOf 4 = 1 := by kernel_rfl
theorem take_one {l : List Value} {k : Nat} {v : Value} (h : (l.drop k).take 1 = [v]) : l[k]? = some v := by
  have := congrArg (fun l => l[0]?) h
  simpa using this
theorem open_ins {H : Type} {enc : TypeId × Value → H} {W : World} {base : Nat} {spare : Nat → Bool} {held : Bool} {base' : Nat} {v : Value} {d : DataW H} {ps : List MemPlace}
    (hv : Value.okWide Try.prog W .any base 23 v) (h : DataW.Trod enc Try.prog W base' spare held 23 v d ps) : ∃ i : Ins, v = .agg (insC i) := by
  obtain ⟨fs, hu, hfs⟩ := ins_fields
  obtain ⟨cs, rfl, hsz⟩ := okWide_struct hu hv
  rw [ins_cells] at hsz
  obtain ⟨fuel, hf⟩ := h
  obtain ⟨xs, n, _, _, _, hlen, hx⟩ := DataW.trod_struct hu hf
  have int : ∀ k, k < 17 → insT k = 3 → ∃ m : Int, cs.toList[k]? = some (.int .i64 m) := fun k hk ht => by
    obtain ⟨f, hf1, ho, hty⟩ := hfs k hk
    have h1 := hx k f hf1
    have hl := (Array.getElem?_eq_some_iff.1 hf1).1
    rw [ho, hty, ht, int_cells, List.getElem?_eq_getElem (by omega)] at h1
    obtain ⟨m, h2, _, _⟩ := DataW.trod_int Try.underlying3 h1
    exact ⟨m, take_one h2⟩
  have bool : ∀ k, k < 17 → insT k = 4 → ∃ b : Bool, cs.toList[k]? = some (.bool b) := fun k hk ht => by
    obtain ⟨f, hf1, ho, hty⟩ := hfs k hk
    have h1 := hx k f hf1
    have hl := (Array.getElem?_eq_some_iff.1 hf1).1
    rw [ho, hty, ht, bool_cells, List.getElem?_eq_getElem (by omega)] at h1
    obtain ⟨m, h2, _⟩ := DataW.trod_bool Try.underlying4 h1
    exact ⟨m, take_one h2⟩
  obtain ⟨c0, h0⟩ := int 0 (by decide) rfl
  obtain ⟨c1, h1⟩ := int 1 (by decide) rfl
  obtain ⟨c2, h2⟩ := int 2 (by decide) rfl
  obtain ⟨c3, h3⟩ := int 3 (by decide) rfl
  obtain ⟨c4, h4⟩ := int 4 (by decide) rfl
  obtain ⟨c5, h5⟩ := int 5 (by decide) rfl
  obtain ⟨c6, h6⟩ := int 6 (by decide) rfl
  obtain ⟨c7, h7⟩ := int 7 (by decide) rfl
  obtain ⟨c8, h8⟩ := int 8 (by decide) rfl
  obtain ⟨c9, h9⟩ := int 9 (by decide) rfl
  obtain ⟨c10, h10⟩ := bool 10 (by decide) rfl
  obtain ⟨c11, h11⟩ := bool 11 (by decide) rfl
  obtain ⟨c12, h12⟩ := bool 12 (by decide) rfl
  obtain ⟨c13, h13⟩ := int 13 (by decide) rfl
  obtain ⟨c14, h14⟩ := int 14 (by decide) rfl
  obtain ⟨c15, h15⟩ := int 15 (by decide) rfl
  obtain ⟨c16, h16⟩ := bool 16 (by decide) rfl
  refine ⟨⟨c0, c1, c2, c3, c4, c5, c6, c7, c8, c9, c10, c11, c12, c13, c14, c15, c16⟩, congrArg Value.agg ?_⟩
  apply Array.ext'
  apply List.ext_getElem?
  intro k
  by_cases hk : k < 17
  · have : k = 0 ∨ k = 1 ∨ k = 2 ∨ k = 3 ∨ k = 4 ∨ k = 5 ∨ k = 6 ∨ k = 7 ∨ k = 8 ∨ k = 9 ∨ k = 10 ∨ k = 11 ∨ k = 12 ∨ k = 13 ∨ k = 14 ∨ k = 15 ∨ k = 16 := by omega
    rcases this with rfl | rfl | rfl | rfl | rfl | rfl | rfl | rfl | rfl | rfl | rfl | rfl | rfl | rfl | rfl | rfl | rfl
    · exact h0
    · exact h1
    · exact h2
    · exact h3
    · exact h4
    · exact h5
    · exact h6
    · exact h7
    · exact h8
    · exact h9
    · exact h10
    · exact h11
    · exact h12
    · exact h13
    · exact h14
    · exact h15
    · exact h16
  · rw [List.getElem?_eq_none (by simp; omega), List.getElem?_eq_none (by simp [insC]; omega)]
end Go.Proofs.Ytlhompedcphnnaa
/- What runs keep: places rise, each event lies at its place of the path, reads are used once; a register that no instruction uses turns nothing. -/
namespace Go.Proofs.Ytlhompedcphnnaa
open Go.RowKit
set_option linter.unusedSimpArgs false

theorem step_ev {s s' : Wk} {i : Ins} (h : stepW s i = some s') :
    (s'.evs = s.evs ∧ s'.rds = s.rds) ∨ ∃ e : Ev, s'.evs = s.evs ++ [e] ∧ e.pos = ((s.path.length : Nat) : Int) ∧ e.at_ = s.p ∧ e.op = i.op ∧ e.reads = rdB i ∧ e.writes = wrB i ∧ s'.rds.length + (if e.reads = true then 1 else 0) = s.rds.length := by
  unfold stepW at h
  split at h
  · cases h; exact .inl ⟨rfl, rfl⟩
  split at h
  · cases h; exact .inl ⟨rfl, rfl⟩
  split at h
  · cases h; exact .inl ⟨rfl, rfl⟩
  split at h
  · rename_i h4
    split at h
    · cases h
    · rename_i u rl hl
      cases h
      exact .inr ⟨_, rfl, rfl, rfl, h4.symm, by simp [acc4, rdB, h4], by simp [acc4, wrB, h4], by simp [acc4, hl]⟩
  split at h
  · rename_i h5
    cases h
    exact .inr ⟨_, rfl, rfl, rfl, h5.symm, by simp [acc5, rdB, h5], by simp [acc5, wrB, h5], by simp [acc5, nextW]⟩
  split at h
  · rename_i h6
    split at h
    · cases h
    · rename_i u rl hl
      cases h
      exact .inr ⟨_, rfl, rfl, rfl, h6.symm, by simp [acc6, rdB, h6], by simp [acc6, wrB, h6], by simp [acc6, hl]⟩
  split at h
  · cases h; exact .inl ⟨rfl, rfl⟩
  · rename_i h1 h2 h3 h4 h5 h6 h9
    cases h
    exact .inr ⟨_, rfl, rfl, rfl, rfl, rfl, rfl, by simp [ev0, rdB, h4, h6, nextW]⟩
theorem snoc_at {α : Type} {l : List α} {x y : α} {i : Nat} (h : (l ++ [x])[i]? = some y) : l[i]? = some y ∨ (i = l.length ∧ y = x) := by
  by_cases hi : i < l.length
  · rw [List.getElem?_append_left hi] at h; exact .inl h
  · have hlt := (List.getElem?_eq_some_iff.1 h).1
    simp at hlt
    have : i = l.length := by omega
    subst this
    simp at h
    exact .inr ⟨rfl, h.symm⟩
structure Good (code : List Ins) (n0 : Nat) (s : Wk) : Prop where
  p0 : 0 ≤ s.p
  p1 : s.p ≤ (code.length : Int)
  wf : ∀ k, wfI (s.r k)
  len : ((s.path.length : Nat) : Int) ≤ s.p
  pa : ∀ (i : Nat) x, s.path[i]? = some x → 0 ≤ x ∧ x < s.p
  pz : ∀ x, s.path[0]? = some x → x = 0
  ps : s.path = [] → s.p = 0
  pr : ∀ (i : Nat) x y, s.path[i]? = some x → s.path[i + 1]? = some y → x < y
  ev : ∀ (i : Nat) e, s.evs[i]? = some e → ∃ k : Nat, e.pos = (k : Int) ∧ s.path[k]? = some e.at_ ∧ ∃ c, code[e.at_.toNat]? = some c ∧ c.op = e.op ∧ e.reads = rdB c ∧ e.writes = wrB c
  er : ∀ (i : Nat) e f, s.evs[i]? = some e → s.evs[i + 1]? = some f → e.pos < f.pos
  rd : s.evs.countP (fun e => e.reads) + s.rds.length = n0
theorem good_step {code : List Ins} {n0 : Nat} {s s' : Wk} {i : Ins} (g : Good code n0 s) (hi : code[s.p.toNat]? = some i) (hr : rightR i s.p (code.length : Int) = 0) (hw : wfI i.imm) (h : stepW s i = some s') : Good code n0 s' := by
  have hlt : s.p < (code.length : Int) := by have := get_lt hi; have := g.p0; omega
  obtain ⟨f1, f2, f3, f4, _, _⟩ := step_facts hr hlt g.wf hw h
  have hpk : ∀ (k : Nat) x, s.path[k]? = some x → s'.path[k]? = some x := fun k x hk => by
    rw [f4, List.getElem?_append_left (get_lt hk)]; exact hk
  have hev : ∀ (k : Nat) e, s.evs[k]? = some e → ∃ k : Nat, e.pos = (k : Int) ∧ s'.path[k]? = some e.at_ ∧ ∃ c, code[e.at_.toNat]? = some c ∧ c.op = e.op ∧ e.reads = rdB c ∧ e.writes = wrB c := fun k e hk => by
    obtain ⟨q, h1, h2, h3⟩ := g.ev k e hk
    exact ⟨q, h1, hpk _ _ h2, h3⟩
  refine ⟨by have := g.p0; omega, f2, f3, ?_, ?_, ?_, ?_, ?_, ?_, ?_, ?_⟩
  · rw [f4, List.length_append]; have := g.len; simp; omega
  · intro k x hk
    rw [f4] at hk
    rcases snoc_at hk with h1 | ⟨_, rfl⟩
    · have := g.pa k x h1; omega
    · exact ⟨g.p0, f1⟩
  · intro x hk
    rw [f4] at hk
    rcases snoc_at hk with h1 | ⟨h0, rfl⟩
    · exact g.pz x h1
    · exact g.ps (List.eq_nil_of_length_eq_zero h0.symm)
  · intro h0; rw [f4] at h0; simp at h0
  · intro k x y hx hy
    rw [f4] at hx hy
    rcases snoc_at hy with h1 | ⟨hk, rfl⟩
    · have hk := get_lt h1
      rw [List.getElem?_append_left (by omega)] at hx
      exact g.pr k x y hx h1
    · rw [List.getElem?_append_left (by omega)] at hx
      exact (g.pa k x hx).2
  · intro k e hk
    rcases step_ev h with ⟨h1, _⟩ | ⟨e', h1, h2, h3, h4, h5, h6, _⟩
    · rw [h1] at hk; exact hev k e hk
    · rw [h1] at hk
      rcases snoc_at hk with h7 | ⟨_, rfl⟩
      · exact hev k e h7
      · refine ⟨s.path.length, h2, ?_, i, ?_, h4.symm, h5, h6⟩
        · rw [f4, h3]; simp
        · rw [h3]; exact hi
  · intro k e f hk hk2
    rcases step_ev h with ⟨h1, _⟩ | ⟨e', h1, h2, h3, h4, h5, h6, _⟩
    · rw [h1] at hk hk2; exact g.er k e f hk hk2
    · rw [h1] at hk hk2
      rcases snoc_at hk2 with h7 | ⟨h8, rfl⟩
      · have := get_lt h7
        rw [List.getElem?_append_left (by omega)] at hk
        exact g.er k e f hk h7
      · rw [List.getElem?_append_left (by omega)] at hk
        obtain ⟨q, q1, q2, _⟩ := g.ev k e hk
        have := get_lt q2
        rw [q1, h2]; omega
  · rcases step_ev h with ⟨h1, h2⟩ | ⟨e', h1, h2, h3, h4, h5, h6, h7⟩
    · rw [h1, h2]; exact g.rd
    · rw [h1, List.countP_append, List.countP_cons, List.countP_nil]
      have := g.rd
      split at h7 <;> simp_all <;> omega
theorem run_good {code : List Ins} {n0 : Nat} (hc : ∀ (k : Nat) i, code[k]? = some i → rightR i (k : Int) (code.length : Int) = 0) (hw : ∀ i ∈ code, wfI i.imm ∧ wfI i.off) : ∀ (f : Nat) (s s' : Wk), Good code n0 s → runW code f s = some s' → Good code n0 s'
  | 0, s, s', g, h => by cases h; exact g
  | f + 1, s, s', g, h => by
    rw [runW] at h
    split at h
    · cases h; exact g
    · rename_i i hi
      split at h
      · cases h
      · rename_i s2 h2
        have hp : ((s.p.toNat : Nat) : Int) = s.p := Int.toNat_of_nonneg g.p0
        exact run_good hc hw f s2 s' (good_step g hi (by have := hc _ _ hi; rwa [hp] at this) (hw i (List.mem_of_getElem? hi)).1 h2) h
theorem good0 (code : List Ins) (r0 : Nat → Int) (rds : List Int) (hr : ∀ k, wfI (r0 k)) : Good code rds.length ⟨((0 : Nat) : Int), r0, rds, [], []⟩ :=
  ⟨by simp, by simp, hr, by simp, by simp, by simp, by simp, by simp, by simp, by simp, by simp⟩
theorem local_good {code : List Ins} {r0 : Nat → Int} {rds : List Int} {s : Wk} (h0 : (checkR [code]).2.2 = 0) (hr : ∀ k, wfI (r0 k)) (hw : ∀ i ∈ code, wfI i.imm ∧ wfI i.off) (h : runW code code.length ⟨((0 : Nat) : Int), r0, rds, [], []⟩ = some s) : Good code rds.length s :=
  run_good (check_one h0).2 hw _ _ _ (good0 code r0 rds hr) h

/-- two runs under way that differ in one register at most -/
structure Same (q : Nat) (s t : Wk) : Prop where
  p : s.p = t.p
  rds : s.rds = t.rds
  evs : s.evs = t.evs
  path : s.path = t.path
  r : ∀ k, k ≠ q → s.r k = t.r k
theorem plain_of {i : Ins} {p n : Int} (h : rightR i p n = 0) : i = plainF i := by
  unfold rightR at h
  split at h
  · rename_i h1; simp [insEq] at h1; exact h1.1
  · cases h
theorem not_used {i : Ins} {q : Nat} (h : ∀ z ∈ useF i, z ≠ (q : Int)) : (plainF i).a ≠ q ∧ (plainF i).b ≠ q ∧ (plainF i).index ≠ q := by
  unfold useF useX at h
  have key : ∀ z, z ∈ [(plainF i).a, (plainF i).b, (plainF i).index] → z ≠ (q : Int) := fun z hz => by
    by_cases h1 : z = -1
    · omega
    · exact h z (List.mem_filter.2 ⟨hz, by simp [h1]⟩)
  exact ⟨key _ (by simp), key _ (by simp), key _ (by simp)⟩
theorem or_same {q : Nat} {s t : Nat → Int} {z x : Int} (h : ∀ k, k ≠ q → s k = t k) (hz : z ≠ (q : Int)) (hr : ronB z = true) : orR s z x = orR t z x := by
  unfold orR
  split
  · rfl
  · rename_i h1
    refine h _ ?_
    unfold ronB regB at hr
    simp at hr h1
    omega
theorem r_same {q : Nat} {s t : Nat → Int} {z : Int} (h : ∀ k, k ≠ q → s k = t k) (hz : z ≠ (q : Int)) (hr : regB z = true) : s z.toNat = t z.toNat := by
  refine h _ ?_
  unfold regB at hr
  simp at hr
  omega
theorem upd_same {q d : Nat} {s t : Nat → Int} {x : Int} (h : ∀ k, k ≠ q → s k = t k) : ∀ k, k ≠ q → updR s d x k = updR t d x k := fun k hk => by
  unfold updR; split
  · rfl
  · exact h k hk
def Twin (q : Nat) (g : Bool) (s t : Wk) : Option Wk → Option Wk → Prop
  | none, none => True
  | some s', some t' => Same q s' t' ∧ (g = true → s'.r q = s.r q ∧ t'.r q = t.r q)
  | _, _ => False
set_option maxHeartbeats 1000000 in
theorem step_same {q : Nat} {s t : Wk} {i : Ins} {p n : Int} (hr : rightR i p n = 0) (hu : ∀ z ∈ useF i, z ≠ (q : Int)) (h : Same q s t) : Twin q (!(givesF i == (q : Int))) s t (stepW s i) (stepW t i) := by
  obtain ⟨hs, _⟩ := right_yes hr
  have hp := plain_of hr
  obtain ⟨ua, ub, ui⟩ := not_used hu
  unfold givesF
  rw [← hp] at ua ub ui ⊢
  obtain ⟨sp, sr, srd, sev, spa⟩ := s
  obtain ⟨tp, tr, trd, tev, tpa⟩ := t
  obtain ⟨rfl, rfl, rfl, rfl, hreg⟩ := h
  simp only at hreg
  have keep : ∀ (d : Int) (x y : Int), regB d = true → (!(d == (q : Int))) = true → updR sr d.toNat x q = sr q ∧ updR tr d.toNat y q = tr q := fun d x y hd hg => by
    unfold regB at hd
    simp at hd hg
    unfold updR
    have : ¬ q = d.toNat := by omega
    simp [this]
  have spanE : i.op = 4 ∨ i.op = 5 ∨ i.op = 6 → accB i = true → spanM i sr = spanM i tr := fun _ ha => by
    unfold spanM; rw [or_same hreg ui (acc_parts ha)]
  unfold stepW
  by_cases h1 : i.op = 1
  · simp only [h1, if_true]
    have hd : regB i.dst = true := by simpa [soundB, h1] using hs
    exact ⟨⟨rfl, rfl, rfl, rfl, upd_same hreg⟩, fun hg => keep _ _ _ hd hg⟩
  by_cases h2 : i.op = 2
  · have hd : regB i.dst = true ∧ regB i.a = true := by simpa [soundB, h2] using hs
    simp only [h1, h2, if_true, if_false, r_same hreg ua hd.2]
    exact ⟨⟨rfl, rfl, rfl, rfl, upd_same hreg⟩, fun hg => keep _ _ _ hd.1 hg⟩
  by_cases h3 : i.op = 3
  · have hd := hs
    simp [soundB, h3] at hd
    simp only [h1, h2, h3, if_true, if_false, r_same hreg ua hd.1.1.1.2, or_same hreg ub hd.1.1.2]
    exact ⟨⟨rfl, rfl, rfl, rfl, upd_same hreg⟩, fun hg => keep _ _ _ hd.1.1.1.1 hg⟩
  by_cases h4 : i.op = 4
  · have hd := hs
    simp [soundB, h4] at hd
    simp only [h1, h2, h3, h4, if_true, if_false]
    cases srd with
    | nil => trivial
    | cons u rl =>
      refine ⟨⟨rfl, rfl, ?_, rfl, upd_same hreg⟩, fun hg => keep _ _ _ hd.1.1 hg⟩
      simp only [acc4, spanE (.inl h4) hd.1.2]
  by_cases h5 : i.op = 5
  · have hd : ronB i.a = true ∧ accB i = true := by simpa [soundB, h5] using hs
    simp only [h1, h2, h3, h4, h5, if_true, if_false]
    refine ⟨⟨rfl, rfl, ?_, rfl, hreg⟩, fun _ => ⟨rfl, rfl⟩⟩
    simp only [acc5, spanE (.inr (.inl h5)) hd.2, or_same hreg ua hd.1]
  by_cases h6 : i.op = 6
  · have hd := hs
    simp [soundB, h6] at hd
    simp only [h1, h2, h3, h4, h5, h6, if_true, if_false]
    cases srd with
    | nil => trivial
    | cons u rl =>
      refine ⟨⟨rfl, rfl, ?_, rfl, upd_same hreg⟩, fun hg => keep _ _ _ hd.1.1.1 hg⟩
      simp only [acc6, spanE (.inr (.inr h6)) hd.1.2, r_same hreg ua hd.1.1.2]
  by_cases h9 : i.op = 9
  · have hd : regB i.a = true := by simpa [soundB, h9] using hs
    simp only [h1, h2, h3, h4, h5, h6, h9, if_true, if_false]
    refine ⟨⟨?_, rfl, rfl, rfl, hreg⟩, fun _ => ⟨rfl, rfl⟩⟩
    simp only [brP, r_same hreg ua hd]
  simp only [h1, h2, h3, h4, h5, h6, h9, if_false]
  exact ⟨⟨rfl, rfl, rfl, rfl, hreg⟩, fun _ => ⟨rfl, rfl⟩⟩
theorem run_same {code : List Ins} {q : Nat} {g : Bool} (hc : ∀ (k : Nat) i, code[k]? = some i → rightR i (k : Int) (code.length : Int) = 0) (hu : ∀ i ∈ code, ∀ z ∈ useF i, z ≠ (q : Int)) (hg : g = true → ∀ i ∈ code, givesF i ≠ (q : Int)) :
    ∀ (f : Nat) (s t : Wk), Same q s t → Twin q g s t (runW code f s) (runW code f t)
  | 0, s, t, h => ⟨h, fun _ => ⟨rfl, rfl⟩⟩
  | f + 1, s, t, h => by
    rw [runW, runW, ← h.p]
    cases hi : code[s.p.toNat]? with
    | none => exact ⟨h, fun _ => ⟨rfl, rfl⟩⟩
    | some i =>
      have hm := List.mem_of_getElem? hi
      have hs := step_same (hc _ _ hi) (hu i hm) h
      simp only
      revert hs
      rcases hsi : stepW s i with _ | s' <;> rcases hti : stepW t i with _ | t' <;> intro hs
      · trivial
      · exact hs.elim
      · exact hs.elim
      have ih := run_same hc hu hg f s' t' hs.1
      simp only
      revert ih
      rcases hsr : runW code f s' with _ | s2 <;> rcases htr : runW code f t' with _ | t2 <;> intro ih
      · trivial
      · exact ih.elim
      · exact ih.elim
      refine ⟨ih.1, fun hgt => ?_⟩
      have h1 := ih.2 hgt
      have h2 := hs.2 (by have := hg hgt i hm; simpa using this)
      exact ⟨h1.1.trans h2.1, h1.2.trans h2.2⟩
end Go.Proofs.Ytlhompedcphnnaa
/- Regions that draw their order in which a block is made and filled: one claim on another operation's value; copies of slices by append. -/
namespace Go.Proofs.Ytlhompedcphnnaa
open Go.RowKit

theorem does_mono {P : Program} {ops : Array Oper} {o : Oper} {a : Act} {w : World} {K K' : Value → World → Prop} (h : Does P ops o a w K) (hK : ∀ v w, K v w → K' v w) : Does P ops o a w K' := by
  rcases h with ⟨h1, h2⟩ | ⟨h1, h2⟩
  · refine .inl ⟨h1, fun Q => Oper.wp_mono (fun a' w' hh => ?_) (h2 Q)⟩
    obtain ⟨v, e, k⟩ := hh
    exact ⟨v, e, hK v w' k⟩
  · exact .inr ⟨h1, hK _ _ h2⟩
/-- what is owed for operation i, where pi's doing makes a claim on pj's value -/
def OblP (P : Program) (ops : Array Oper) (S : World → World → Prop) (n : Nat) (T : List (Nat × Value)) (tab : Nat → Cl S) (pi pj : Nat) (pc : Cl S) (w : World) (i : Nat) (o : Oper) : Prop :=
  ∀ a' w', S w w' → St n T a' → (∀ j, waits o j = true → (tab j).P (valOf ops a' j) w') → Does P ops o a' w' fun v w'' => S w' w'' ∧ (tab i).P (seenV o v) w'' ∧ (i = pi → pc.P (valOf ops a' pj) w'')
section
variable {P : Program} {l : List Oper} {Q : Exit → Act → World → Prop} {S : World → World → Prop} {n : Nat} {T : List (Nat × Value)} {w : World}
theorem drawn_anyP (tab : Nat → Cl S) (pi pj : Nat) (pc : Cl S) (hpi : pi < l.length) (hpw : ∀ o, l[pi]? = some o → waits o pj = true) (htrans : ∀ a b c, S a b → S b c → S a c) (hfit : fitB l.toArray n T = true)
    (hop : ∀ i o, l[i]? = some o → OblP P l.toArray S n T tab pi pj pc w i o)
    (hend : ∀ f a' w', S w w' → (∀ i, i < l.length → (tab i).P (f i) w') → pc.P (f pj) w' → St n (puts l f 0 ++ T) a' → Q .normal a' w') :
    ∀ (fuel : Nat) (listed : Array Bool) (a' : Act) (w' : World), listed.size = l.length → ((List.range l.length).filter fun i => !listed.getD i true).length ≤ fuel → S w w' → St n T a' →
      (∀ i, i < l.length → listed.getD i false = true → (tab i).P (valOf l.toArray a' i) w') → (listed.getD pi false = true → listed.getD pj false = true ∧ pc.P (valOf l.toArray a' pj) w') → wpAny P .any l.toArray Q fuel listed a' w' := by
  have last : ∀ (listed : Array Bool) (a' : Act) (w' : World), listed.size = l.length → Region.ready .any l.toArray listed = [] → S w w' → St n T a' →
      (∀ i, i < l.length → listed.getD i false = true → (tab i).P (valOf l.toArray a' i) w') → (listed.getD pi false = true → listed.getD pj false = true ∧ pc.P (valOf l.toArray a' pj) w') → Q .normal a' w' := by
    intro listed a' w' hls hr hS hT hin hlk
    have all : ∀ i, i < l.length → listed.getD i false = true := by
      intro i
      induction i using Nat.strongRecOn with
      | _ i ih =>
        intro hi
        cases hl : listed.getD i false with
        | true => rfl
        | false =>
          exfalso
          have : i ∈ Region.ready .any l.toArray listed := by
            rw [mem_ready]
            have hli : i < listed.size := by omega
            have hoi : l.toArray[i]? = some l[i] := by simp [hi]
            refine ⟨by simpa [hli] using hl, l[i], hoi, fun e he hb => ?_⟩
            have hlt := (fit_spec hfit hoi).2 e he hb
            exact ih e.on hlt (by omega)
          rw [hr] at this; cases this
    refine hend (valOf l.toArray a') a' w' hS (fun i hi => hin i hi (all i hi)) (hlk (all pi hpi)).2 ⟨hT.size, hT.defers, fun t v hv => ?_⟩
    rcases puts_look (valOf l.toArray a') T l 0 hv with ⟨i, o, h1, h2, h3⟩ | h
    · have hd : dstOf l.toArray i = some t := by simp [dstOf, h1, h2]
      rw [h3, Nat.zero_add]; unfold valOf; rw [hd]
    · exact hT.get t v h
  intro fuel
  induction fuel with
  | zero =>
    intro listed a' w' hls hf hS hT hin hlk
    have hr : Region.ready .any l.toArray listed = [] := by
      unfold Region.ready
      rw [List.filter_eq_nil_iff]
      intro i hi
      have hnil : ((List.range l.length).filter fun i => !listed.getD i true) = [] := List.eq_nil_of_length_eq_zero (by omega)
      rw [List.filter_eq_nil_iff] at hnil
      have := hnil i (by simpa using hi)
      simp only [Bool.not_eq_true, Bool.not_eq_false'] at this
      simp [this]
    exact ⟨hr, last listed a' w' hls hr hS hT hin hlk⟩
  | succ fuel ih =>
    intro listed a' w' hls hf hS hT hin hlk
    refine ⟨fun hr => last listed a' w' hls hr hS hT hin hlk, fun i hi => ?_⟩
    obtain ⟨hun, o, hoi, hall⟩ := mem_ready.1 hi
    have hil : i < l.length := by have := (Array.getElem?_eq_some_iff.1 hoi).1; simpa using this
    have hoi' : l[i]? = some o := by simpa using hoi
    obtain ⟨hfd, hfe⟩ := fit_spec hfit hoi
    have hk0 : ∀ j, waits o j = true → j < i ∧ listed.getD j false = true := fun j hj => by
      unfold waits at hj
      rw [List.any_eq_true] at hj
      obtain ⟨e, he', hb⟩ := hj
      have he : e ∈ o.after := by simpa using he'
      simp only [Bool.and_eq_true, beq_iff_eq] at hb
      have := hfe e he hb.1
      rw [← hb.2]
      exact ⟨by omega, hall e he hb.1⟩
    have hk : ∀ j, waits o j = true → (tab j).P (valOf l.toArray a' j) w' := fun j hj => hin j (by have := (hk0 j hj).1; omega) (hk0 j hj).2
    have hunf : listed.getD i false = false := by
      have hli : i < listed.size := by omega
      simpa [Array.getD_eq_getD_getElem?, hli] using hun
    have same : ∀ (v : Value) (j : Nat), j < l.length → j ≠ i → valOf l.toArray (a'.put o.dst v) j = valOf l.toArray a' j := fun v j hj hji => by
      unfold valOf
      cases hdj : dstOf l.toArray j with
      | none => rfl
      | some d' =>
        cases hd : o.dst with
        | none => rfl
        | some d =>
          have hne : d ≠ d' := fun e => by subst e; exact hji ((hfd d hd).2.1 j (by simpa using hj) hdj)
          simp [Act.put, Array.getD_eq_getD_getElem?, Array.getElem?_setIfInBounds_ne hne]
    have go : ∀ (v : Value) (w2 : World), S w' w2 → (tab i).P (seenV o v) w2 → (i = pi → pc.P (valOf l.toArray a' pj) w2) → wpAny P .any l.toArray Q fuel (listed.setIfInBounds i true) (a'.put o.dst v) w2 := by
      intro v w2 hS2 hv hpc
      have hT2 : St n T (a'.put o.dst v) := by
        cases hd : o.dst with
        | none => exact hT
        | some d =>
          obtain ⟨hdn, _, hTd⟩ := hfd d hd
          have hp := hT.put hdn v
          refine ⟨hp.size, hp.defers, fun t u hu => hp.get t u ?_⟩
          have hne : t ≠ d := hTd (t, u) (lookup_mem hu)
          rw [List.lookup_cons]
          have : (t == d) = false := by simpa using hne
          simp only [this]; exact hu
      refine ih _ _ _ (by simpa using hls) ?_ (htrans _ _ _ hS hS2) hT2 (fun j hj hlj => ?_) (fun hlp => ?_)
      · have hlt : i < listed.size := by omega
        have : ((List.range l.length).filter fun k => !(listed.setIfInBounds i true).getD k true).length < ((List.range l.length).filter fun k => !listed.getD k true).length := by
          have hsub : ((List.range l.length).filter fun k => !(listed.setIfInBounds i true).getD k true) = ((List.range l.length).filter fun k => !listed.getD k true).filter (fun k => k != i) := by
            rw [List.filter_filter]
            apply List.filter_congr
            intro k _
            by_cases hk : k = i
            · subst hk; simp [hlt]
            · rw [set_ne true (Ne.symm hk)]; simp [hk]
          rw [hsub]
          refine List.length_filter_lt_length_iff_exists.2 ⟨i, ?_, by simp⟩
          simp only [List.mem_filter, List.mem_range]
          exact ⟨hil, by rw [hun]; rfl⟩
        omega
      · by_cases hji : j = i
        · subst hji
          have : valOf l.toArray (a'.put o.dst v) j = seenV o v := by
            cases hd : o.dst with
            | none =>
              have hdi : dstOf l.toArray j = none := by simp [dstOf, hoi', hd]
              unfold valOf seenV; rw [hdi, hd]
            | some d =>
              have hdi : dstOf l.toArray j = some d := by simp [dstOf, hoi', hd]
              have hdl : d < a'.tmps.size := by rw [hT.size]; exact (hfd d hd).1
              unfold valOf seenV; rw [hdi, hd]; simp [Act.put, hdl]
          rw [this]; exact hv
        · have h1 := hin j hj (by rwa [set_ne false (Ne.symm hji)] at hlj)
          rw [same v j hj hji]; exact (tab j).st _ _ _ hS2 h1
      · by_cases hpe : i = pi
        · have hw := hk0 pj (hpw o (hpe ▸ hoi'))
          have hne : pj ≠ i := by omega
          refine ⟨by rw [set_ne false (Ne.symm hne)]; exact hw.2, ?_⟩
          rw [same v pj (by omega) hne]
          exact hpc hpe
        · rw [set_ne false hpe] at hlp
          obtain ⟨h1, h2⟩ := hlk hlp
          have hne : pj ≠ i := fun e => by rw [e, hunf] at h1; cases h1
          have hpl : pj < l.length := by
            have : pj < listed.size := by
              by_cases hc : pj < listed.size
              · exact hc
              · simp [Array.getD_eq_getD_getElem?, hc] at h1
            omega
          refine ⟨by rw [set_ne false (Ne.symm hne)]; exact h1, ?_⟩
          rw [same v pj hpl hne]
          exact pc.st _ _ _ hS2 h2
    unfold wpOp
    rcases hop i o hoi' a' w' hS hT hk with ⟨hw, h⟩ | ⟨hw, h⟩
    · simp only [hoi, hw, if_true]
      refine .inl (Oper.wp_mono (fun a2 w2 h => ?_) (h Q))
      obtain ⟨v, rfl, hS2, hv, hp⟩ := h
      exact go v w2 hS2 hv hp
    · simp only [hoi, hw, Bool.false_eq_true, if_false]
      exact go undef w' h.1 h.2.1 h.2.2
def EachsP (P : Program) (ops : Array Oper) (S : World → World → Prop) (n : Nat) (T : List (Nat × Value)) (tab : Nat → Cl S) (pi pj : Nat) (pc : Cl S) (w : World) (k : Nat) (l : List Oper) : Prop := ∀ i o, l[i]? = some o → OblP P ops S n T tab pi pj pc w (k + i) o
theorem eachP_nil {ops : Array Oper} {tab : Nat → Cl S} {k pi pj : Nat} {pc : Cl S} : EachsP P ops S n T tab pi pj pc w k [] := fun i o h => by simp at h
theorem eachP_pair {ops : Array Oper} {tab : Nat → Cl S} {k pi pj : Nat} {pc : Cl S} {o : Oper} {os : List Oper} (h : OblP P ops S n T tab pi pj pc w k o) (ht : EachsP P ops S n T tab pi pj pc w (k + 1) os) : EachsP P ops S n T tab pi pj pc w k (o :: os) := fun i p hp => by
  cases i with
  | zero => simp at hp; subst hp; exact h
  | succ i => have := ht i p (by simpa using hp); rwa [show k + 1 + i = k + (i + 1) by omega] at this
theorem eachP_cons {ops : Array Oper} {tab : Nat → Cl S} {k pi pj : Nat} {pc : Cl S} {o : Oper} {os : List Oper} (hne : k ≠ pi) (h : Obl P ops S n T tab w k o) (ht : EachsP P ops S n T tab pi pj pc w (k + 1) os) : EachsP P ops S n T tab pi pj pc w k (o :: os) :=
  eachP_pair (fun a' w' h1 h2 h3 => does_mono (h a' w' h1 h2 h3) fun _ _ hh => ⟨hh.1, hh.2, fun e => absurd e hne⟩) ht
theorem drawnP {id : Nat} {a : Act} (tab : Nat → Cl S) (pi pj : Nat) (pc : Cl S) (hpi : pi < l.length) (hpw : ((l[pi]?).map fun o => waits o pj) = some true) (hm : P.follows .mixedOrders = true) (hrefl : ∀ w, S w w) (htrans : ∀ a b c, S a b → S b c → S a c) (hdrew : ∀ w : World, S w w.drew) (hA : St n T a) (hfit : fitB l.toArray n T = true)
    (hop : EachsP P l.toArray S n T tab pi pj pc w.drew 0 l)
    (hend : ∀ f a' w', S w w' → (∀ i, i < l.length → (tab i).P (f i) w') → pc.P (f pj) w' → St n (puts l f 0 ++ T) a' → Q .normal a' w') : (Code.region id l.toArray true).wp P Q a w := by
  refine wp_region_any hm ?_
  refine drawn_anyP (w := w.drew) tab pi pj pc hpi (fun o ho => by rw [ho] at hpw; simpa using hpw) htrans hfit (fun i o h => by have := hop i o h; rwa [Nat.zero_add] at this) (fun f a' w' hS => hend f a' w' (htrans _ _ _ (hdrew w) hS)) _ _ _ _ (by simp) ?_ (hrefl _) hA (fun i _ hi => ?_) (fun hi => ?_)
  · refine Nat.le_trans (List.length_filter_le _ _) (by simp)
  · exfalso
    simp [Array.getD_eq_getD_getElem?, Array.getElem?_replicate] at hi; split at hi <;> simp at hi
  · exfalso
    simp [Array.getD_eq_getD_getElem?, Array.getElem?_replicate] at hi; split at hi <;> simp at hi
end

/-! ### Worlds that grow, blocks of one kind in new memory turning from what they were made with to what they will hold -/
structure SZ (B0 : Nat) (Z R : Array Value) (t : TypeId) (w w' : World) : Prop where
  os : w'.os = w.os
  tape : w'.tape = w.tape
  output : w'.output = w.output
  size : w.heap.size ≤ w'.heap.size
  block : ∀ k, k < w.heap.size → w'.heap[k]? = w.heap[k]? ∨ (B0 ≤ k ∧ Blk w k Z t ∧ Blk w' k R t)
section
variable {B0 : Nat} {Z R : Array Value} {t : TypeId} {w w' : World}
theorem SZ.refl (w : World) : SZ B0 Z R t w w := ⟨rfl, rfl, rfl, Nat.le_refl _, fun _ _ => .inl rfl⟩
theorem SZ.trans (a b c : World) (h : SZ B0 Z R t a b) (k : SZ B0 Z R t b c) : SZ B0 Z R t a c :=
  ⟨k.os.trans h.os, k.tape.trans h.tape, k.output.trans h.output, Nat.le_trans h.size k.size, fun i hi => by
    rcases h.block i hi with h1 | ⟨h1, h2, h3⟩ <;> rcases k.block i (Nat.lt_of_lt_of_le hi h.size) with k1 | ⟨k1, k2, k3⟩
    · exact .inl (k1.trans h1)
    · refine .inr ⟨k1, ?_, k3⟩; unfold Blk at k2 ⊢; rw [← h1]; exact k2
    · refine .inr ⟨h1, h2, ?_⟩; unfold Blk at h3 ⊢; rw [k1]; exact h3
    · exact .inr ⟨h1, h2, k3⟩⟩
theorem SZ.grow (h : Grow w w') : SZ B0 Z R t w w' := ⟨h.os, h.tape, h.output, h.size, fun k hk => .inl (h.block k hk)⟩
theorem SZ.drew (w : World) : SZ B0 Z R t w w.drew := SZ.grow (Grow.refl w).drew
theorem SZ.below {B : Nat} {a : World} (h : SZ B0 Z R t w w') (hb : Below B a w) (hB : B ≤ B0) (hw : B ≤ w.heap.size) : Below B a w' :=
  hb.trans ⟨h.os, h.tape, h.output, h.size, fun k hk => by
    rcases h.block k (by omega) with h1 | ⟨h1, _⟩
    · exact h1
    · omega⟩
theorem SZ.far (h : SZ B0 Z R t w w') (hB : B0 ≤ w.heap.size) : Below B0 w w' := h.below (Below.refl _ _) (Nat.le_refl _) hB
theorem SZ.keep {g : Nat} {cs : Array Value} {e : TypeId} (h : SZ B0 Z R t w w') (hb : w.heap[g]? = some (.cells cs e (0, 0))) (he : e ≠ t) : w'.heap[g]? = some (.cells cs e (0, 0)) := by
  rcases h.block g (Array.getElem?_eq_some_iff.1 hb).1 with h1 | ⟨_, h2, _⟩
  · rw [h1]; exact hb
  · unfold Blk at h2; rw [hb] at h2; injection h2 with h2; injection h2 with _ h4; exact absurd h4 he
theorem own_sz {b : Nat} {e : TypeId} {s n : Nat} {v : Value} {xs : List Value} (h : w.ownsRow b e s v n xs) (hS : SZ B0 Z R t w w') (he : e ≠ t) : w'.ownsRow b e s v n xs := by
  obtain ⟨h1, h2⟩ := h
  refine ⟨h1, ?_⟩
  rcases h2 with h2 | ⟨g, cap, cur, hv, hb, hgg, h3⟩
  · exact .inl h2
  · exact .inr ⟨g, cap, cur, hv, hb, hS.keep hgg he, h3⟩
def cRow (e s n : Nat) (xs : List Value) (he : e ≠ t) : Cl (SZ B0 Z R t) := ⟨fun v w => ∃ b, w.ownsRow b e s v n xs, fun _ _ _ hS ⟨b, h⟩ => ⟨b, own_sz h hS he⟩⟩
def cMade : Cl (SZ B0 Z R t) := ⟨fun v w => ∃ g, v = .pointer (some ⟨g, 0, none⟩) ∧ B0 ≤ g ∧ (Blk w g Z t ∨ Blk w g R t), fun _ w w' hS ⟨g, h1, h2, h3⟩ => ⟨g, h1, h2, by
  have hlt : g < w.heap.size := h3.elim (fun h => h.lt) (fun h => h.lt)
  rcases hS.block g hlt with k | ⟨_, _, k⟩
  · unfold Blk at h3 ⊢; rw [k]; exact h3
  · exact .inr k⟩⟩
def cFilled : Cl (SZ B0 Z R t) := ⟨fun v w => ∃ g, v = .pointer (some ⟨g, 0, none⟩) ∧ B0 ≤ g ∧ Blk w g R t, fun _ w w' hS ⟨g, h1, h2, h3⟩ => ⟨g, h1, h2, by
  rcases hS.block g h3.lt with k | ⟨_, _, k⟩
  · unfold Blk at h3 ⊢; rw [k]; exact h3
  · exact k⟩⟩
end
section
variable {P : Program} {ops : Array Oper} {a : Act} {w : World} {K : Value → World → Prop} {d : Option Tmp} {ty : TypeId} {pos : String} {af : Array Edge} {gd : Option (Nat × Bool)} {v : Value}
theorem d_storeZ {B0 : Nat} {Z R : Array Value} {t t' : TypeId} {x y : Operand} {u : Value} (hw : Region.wanted { dst := none, op := .store t' x y, type := ty, pos := pos, after := af, guard := gd } (yielded ops a.tmps) = true) (hx : a.eval x = u) (hu : ∃ g, u = .pointer (some ⟨g, 0, none⟩) ∧ B0 ≤ g ∧ (Blk w g Z t ∨ Blk w g R t)) (hy : a.eval y = .agg R)
    (h1 : rowB P t' R.size = true) (hs : Z.size = R.size) (ho : R.toList.all (·.oneCell') = true) (h : ∀ w', SZ B0 Z R t w w' → (∃ g, u = .pointer (some ⟨g, 0, none⟩) ∧ B0 ≤ g ∧ Blk w' g R t) → K undef w') :
    Does P ops { dst := none, op := .store t' x y, type := ty, pos := pos, after := af, guard := gd } a w K := by
  obtain ⟨g, rfl, hg, hb⟩ := hu
  have main : ∀ cs : Array Value, Blk w g cs t → cs.size = R.size → (∀ w', Upd g w w' → Blk w' g R t → SZ B0 Z R t w w') → Does P ops { dst := none, op := .store t' x y, type := ty, pos := pos, after := af, guard := gd } a w K := fun cs hcs hsz hz =>
    d_storeRow hw hx hy h1 hcs hsz ho fun w' hU hb' => h w' (hz w' hU hb') ⟨g, rfl, hg, hb'⟩
  rcases hb with hb | hb
  · exact main Z hb hs fun w' hU hb' => ⟨hU.os, hU.tape, hU.output, Nat.le_of_eq hU.size.symm, fun k _ => by
      by_cases hk : k = g
      · subst hk; exact .inr ⟨hg, hb, hb'⟩
      · exact .inl (hU.block k hk)⟩
  · exact main R hb rfl fun w' hU hb' => ⟨hU.os, hU.tape, hU.output, Nat.le_of_eq hU.size.symm, fun k _ => by
      by_cases hk : k = g
      · subst hk; left; unfold Blk at hb hb'; rw [hb, hb']
      · exact .inl (hU.block k hk)⟩
/-- a slice literal without parts -/
theorem d_none {t e s by_ : Nat} (hw : Region.wanted { dst := d, op := .buildSlice t 0 #[], type := ty, pos := pos, after := af, guard := gd } (yielded ops a.tmps) = true) (ht : elemB P t e s by_ = true)
    (h : ∀ g w', g = w.heap.size → Grow w w' → Blk w' g #[] e → K (.slice (some ⟨g, 0, none⟩) 0 0) w') : Does P ops { dst := d, op := .buildSlice t 0 #[], type := ty, pos := pos, after := af, guard := gd } a w K := by
  obtain ⟨i, z, hu, hi, hz, hsz, _, hzs, h0⟩ := elem_facts ht
  refine does_val (w' := w.alloc (.cells #[] e)) hw ?_ (h _ _ rfl ((Grow.refl _).alloc _) (heap_alloc_last w _))
  have : (Instr.buildSlice t 0 #[]).run P w = .ok (.slice (some ⟨w.heap.size, 0, none⟩) 0 0) (w.alloc (.cells #[] e)) := by
    simp [Instr.buildSlice, run_underlying hu, sizeOf, typeInfo, hi, Instr.fill, newRow]
    congr 1
    congr 1
    apply Array.ext'
    simp
  unfold execOp
  simp only [Sem.run_bind, List.map_toArray, List.map_nil, this, Result.andThen_ok, Sem.run_pure]
/-- append([]T{}, l...) -/
theorem d_copy {α : Type} {enc : α → List Value} {t e s by_ B g : Nat} {x y : Operand} {l : List α} (hw : Region.wanted { dst := d, op := .call { callee := .builtin .append, args := #[x, y], argTypes := #[t, t] }, type := ty, pos := pos, after := af, guard := gd } (yielded ops a.tmps) = true) (hx : a.eval x = .slice (some ⟨g, 0, none⟩) 0 0) (hb : Blk w g #[] e) (hy : a.eval y = v)
    (ht : elemB P t e s by_ = true) (hs : Sl enc s B w v l) (hel : ∀ x, (enc x).length = s) (he1 : ∀ x, ∀ u ∈ enc x, u.oneCell' = true) (hn : l.length ≤ 1000000) (hby : by_ ≤ 10000)
    (h : ∀ v' w', Grow w w' → w'.ownsRow g e s v' l.length (l.flatMap enc) → K v' w') :
    Does P ops { dst := d, op := .call { callee := .builtin .append, args := #[x, y], argTypes := #[t, t] }, type := ty, pos := pos, after := af, guard := gd } a w K := by
  obtain ⟨i, z, hu, hi, hz, hsz, hbz, hzs, h0⟩ := elem_facts ht
  obtain ⟨ao, cap, rfl, hlc, hel'⟩ := hs
  have hfl : ∀ l : List α, (l.flatMap enc).length = l.length * s := fun l => by
    induction l with
    | nil => simp
    | cons c l ih => rw [List.flatMap_cons, List.length_append, ih, hel, List.length_cons, Nat.add_mul, Nat.one_mul, Nat.add_comm]
  have hone : ∀ u ∈ l.flatMap enc, u.oneCell' = true := fun u hu => by
    obtain ⟨c, _, hc⟩ := List.mem_flatMap.1 hu
    exact he1 c u hc
  have hat : ∀ (l : List α) (j : Nat) u, (l.flatMap enc)[j]? = some u → ∃ k c q, l[k]? = some c ∧ (enc c)[q]? = some u ∧ j = k * s + q := fun l => by
    induction l with
    | nil => intro j u hj; simp at hj
    | cons c l ih =>
      intro j u hj
      rw [List.flatMap_cons] at hj
      by_cases hlt : j < (enc c).length
      · rw [List.getElem?_append_left hlt] at hj; exact ⟨0, c, j, by simp, hj, by omega⟩
      · rw [List.getElem?_append_right (by omega)] at hj
        obtain ⟨k, c', q, h1, h2, h3⟩ := ih _ _ hj
        rw [hel] at h3 hlt
        exact ⟨k + 1, c', q, by simpa using h1, h2, by rw [Nat.add_mul, Nat.one_mul]; omega⟩
  cases l with
  | nil =>
    have hsrc : Src P i.size t (.slice ao 0 cap) 0 [] w := by
      cases ao with
      | none => exact Src.ofNil w hu cap
      | some x0 => exact Src.ofSlice w hu x0 0 cap [] (by simp) (fun j u hj => by simp at hj) (fun u hu => by cases hu)
    have hr := run_append_nothing (P := P) w t t ty e i hu hi (some ⟨g, 0, none⟩) 0 0 (Nat.le_refl _) _ hsrc
    refine does_val hw ?_ (h (.slice (some ⟨g, 0, none⟩) 0 0) w (Grow.refl _) ⟨by simp, .inr ⟨g, 0, #[], rfl, Nat.le_refl _, hb, Nat.le_refl _, by simp [maxLen], by simp, by simp⟩⟩)
    unfold execOp
    simp only [resolve, invoke, builtin, Sem.run_bind, Sem.run_pure, Result.andThen_ok, List.map_toArray, List.map_cons, List.map_nil, List.length_nil, hx, hy, hr]
  | cons c l =>
    obtain ⟨b, o, rfl, _, _⟩ := hel' 0 c (by simp)
    have hsrc : Src P i.size t (.slice (some ⟨b, o, none⟩) (c :: l).length cap) (c :: l).length ((c :: l).flatMap enc) w := by
      refine Src.ofSlice w hu _ _ cap _ (by rw [hfl, hsz]) (fun j u hj => ?_) hone
      obtain ⟨k, c', q, h1, h2, rfl⟩ := hat _ j u hj
      obtain ⟨b', o', h3, _, h5⟩ := hel' k c' h1
      simp at h3
      obtain ⟨rfl, rfl⟩ := h3
      rw [Addr.add_mid, show o + (k * s + q) = o + k * s + q by omega]
      exact h5 q u h2
    have hpos : 0 < (c :: l).length := by simp
    have hcap : Builtin.nextslicecap (0 + (c :: l).length) 0 = (c :: l).length := by unfold Builtin.nextslicecap; rw [if_pos (by omega)]; omega
    have hmul : (c :: l).length * i.bytes ≤ 1000000 * 10000 := Nat.mul_le_mul hn (by omega)
    have hr := run_append_grow_src (P := P) w t t ty e i z hu hi hz (some ⟨g, 0, none⟩) 0 0 [] (by simp [Builtin.firstCells, loadCells, loadCellsFrom]) _ _ _ hsrc (by omega) (by omega) (by rw [hcap]; omega)
    have hge := grownCap_ge w (0 + (c :: l).length) 0 e
    have hcm : grownCap w (0 + (c :: l).length) 0 e ≤ maxLen := grownCap_le_maxLen w (0 + (c :: l).length) 0 e (by simp only [maxLen]; omega)
    have hown : (w.drew.alloc (.cells (([] ++ (c :: l).flatMap enc).toArray ++ Builtin.zeroCells z.cells (grownCap w (0 + (c :: l).length) 0 e - (0 + (c :: l).length))) e)).ownsRow g e s (.slice (some ⟨w.heap.size, 0, none⟩) (c :: l).length (grownCap w (0 + (c :: l).length) 0 e)) (c :: l).length ((c :: l).flatMap enc) := by
      refine ⟨hfl _, .inr ⟨w.heap.size, _, _, rfl, Nat.le_of_lt hb.lt, heap_alloc_new w.drew _, (by rw [Nat.zero_add] at hge ⊢; exact hge), hcm, ?_, ?_⟩⟩
      · simp only [Array.size_append, List.size_toArray, size_zeroCells, hzs, List.nil_append, hfl, ← Nat.add_mul]
        congr 1
        omega
      · simp only [Array.toList_append, List.nil_append]
        rw [← hfl]
        exact List.take_left
    refine does_val hw ?_ (h _ _ (((Grow.refl w).drew).alloc _) hown)
    unfold execOp
    simp only [resolve, invoke, builtin, Sem.run_bind, Sem.run_pure, Result.andThen_ok, List.map_toArray, List.map_cons, List.map_nil, hx, hy, hr]
    rw [Nat.zero_add]
end
theorem own_gen {α : Type} {enc : α → List Value} {w : World} {b e s : Nat} {v : Value} {l : List α} (hel : ∀ x, (enc x).length = s) (h : w.ownsRow b e s v l.length (l.flatMap enc)) : Sl enc s w.heap.size w v l := by
  obtain ⟨h1, h2⟩ := h
  rcases h2 with ⟨rfl, h2⟩ | ⟨g, cap, cur, hv, hb, hg, hc, _, hs, ht⟩
  · have : l = [] := List.eq_nil_of_length_eq_zero h2
    subst this; exact Sl.nil
  · refine ⟨some ⟨g, 0, none⟩, cap, hv, hc, fun j x hx => ⟨g, 0, rfl, (Array.getElem?_eq_some_iff.1 hg).1, fun k u hu => ?_⟩⟩
    rw [cell_of_row w g _ cur _ _ hg]
    have hk : k < s := by have := get_lt hu; rwa [hel] at this
    have hj := get_lt hx
    have key : ∀ (l : List α) (j : Nat) (x : α), l[j]? = some x → (enc x)[k]? = some u → (l.flatMap enc)[j * s + k]? = some u := by
      intro l
      induction l with
      | nil => intro j x hx; simp at hx
      | cons c l ih =>
        intro j x hx hu
        rw [List.flatMap_cons]
        cases j with
        | zero =>
          simp at hx; subst hx
          rw [Nat.zero_mul, Nat.zero_add, List.getElem?_append_left (by rw [hel]; exact hk)]; exact hu
        | succ j =>
          rw [List.getElem?_append_right (by rw [hel, Nat.add_mul]; omega), hel, show (j + 1) * s + k - s = j * s + k by rw [Nat.add_mul]; omega]
          exact ih j x (by simpa using hx) hu
    have hlt : j * s + k < l.length * s := by
      have := Nat.mul_le_mul_right s (show j + 1 ≤ l.length by omega)
      rw [Nat.add_mul] at this; omega
    have h3 : (cur.toList.take (l.length * s))[j * s + k]? = some u := by rw [ht]; exact key l j x hx hu
    rw [List.getElem?_take_of_lt hlt] at h3
    rw [Nat.zero_add, ← Array.getElem?_toList]; exact h3
end Go.Proofs.Ytlhompedcphnnaa
/- What Local comes to, as functions of what it is handed; the region that calls it on copies. -/
namespace Go.Proofs.Ytlhompedcphnnaa
open Go.RowKit

def lE (code : List Ins) (r0 : Nat → Int) (rds : List Int) : Int := if (checkR [code]).2.2 = 0 then (match runW code code.length ⟨((0 : Nat) : Int), r0, rds, [], []⟩ with | none => 24 | some _ => 0) else 1
def lRun (code : List Ins) (r0 : Nat → Int) (rds : List Int) : Option Wk := if (checkR [code]).2.2 = 0 then runW code code.length ⟨((0 : Nat) : Int), r0, rds, [], []⟩ else none
def lR (code : List Ins) (r0 : Nat → Int) (rds : List Int) : Nat → Int := match lRun code r0 rds with | none => fun _ => 0 | some s => s.r
def lEv (code : List Ins) (r0 : Nat → Int) (rds : List Int) : List Ev := match lRun code r0 rds with | none => [] | some s => s.evs
def lPa (code : List Ins) (r0 : Nat → Int) (rds : List Int) : List Int := match lRun code r0 rds with | none => [] | some s => s.path
theorem insE_len (i : Ins) : (insE i).length = 17 := rfl
theorem evS_len (i : Ev) : (evS i).length = 15 := rfl
theorem intE_len (i : Int) : (intE i).length = 1 := rfl
theorem insE_one (i : Ins) : ∀ u ∈ insE i, u.oneCell' = true := List.all_eq_true.1 rfl
theorem intE_one (i : Int) : ∀ u ∈ intE i, u.oneCell' = true := List.all_eq_true.1 rfl
theorem paE_flat (l : List Int) : paE l = l.flatMap intE := by
  induction l with
  | nil => rfl
  | cons x l ih => simp [paE, intE] at ih ⊢; exact ih
theorem row_nil (w : World) (e s : Nat) : ∃ b, w.ownsRow b e s (.slice none 0 0) 0 [] := ⟨0, by simp, .inl ⟨rfl, rfl⟩⟩
theorem local_v (code : List Ins) (rds : List Int) (r0 : Nat → Int) (v1 v2 : Value) (w : World) (hs : Sl insE 17 w.heap.size w v1 code) (hrd : Sl intE 1 w.heap.size w v2 rds) (hcl : code.length ≤ 1000000) (hwr : ∀ k, wfI (r0 k)) (hwi : ∀ i ∈ code, wfI i.imm ∧ wfI i.off) (hwd : ∀ z ∈ rds, wfI z) :
    Calls Try.prog 26 #[v1, .agg (regsC r0), v2] w fun e w' => Grow w w' ∧ ∃ ev pa, e = .returned (.tuple #[.agg (regsC (lR code r0 rds)), ev, pa, .int .i64 (lE code r0 rds)]) ∧ (∃ b, w'.ownsRow b 52 15 ev (lEv code r0 rds).length ((lEv code r0 rds).flatMap evS)) ∧ ∃ b, w'.ownsRow b 3 1 pa (lPa code r0 rds).length ((lPa code r0 rds).flatMap intE) := by
  obtain ⟨ao, cap, rfl⟩ := hs.form
  obtain ⟨ao2, cap2, rfl⟩ := hrd.form
  refine (local_any code rds ao ao2 cap cap2 r0 w hs hrd hcl hwr hwi hwd).mono fun e w' ⟨hG, h⟩ => ⟨hG, ?_⟩
  unfold lR lEv lPa lE lRun
  by_cases hc : (checkR [code]).2.2 = 0
  · rw [if_pos hc] at h
    simp only [hc, if_true]
    cases hr : runW code code.length ⟨((0 : Nat) : Int), r0, rds, [], []⟩ with
    | none => rw [hr] at h; exact ⟨_, _, h, row_nil w' _ _, row_nil w' _ _⟩
    | some s =>
      rw [hr] at h
      obtain ⟨ev, pa, he, h1, h2⟩ := h
      exact ⟨ev, pa, he, ⟨_, h1⟩, _, by rw [← paE_flat]; exact h2⟩
  · rw [if_neg hc] at h
    simp only [hc, if_false]
    exact ⟨_, _, h, row_nil w' _ _, row_nil w' _ _⟩
theorem l_no {code : List Ins} {r0 : Nat → Int} {rds : List Int} (h : (lE code r0 rds == 0) = false) : lEv code r0 rds = [] ∧ lPa code r0 rds = [] := by
  unfold lE at h
  unfold lEv lPa lRun
  split at h
  · rename_i hc
    simp only [hc, if_true]
    cases hr : runW code code.length ⟨((0 : Nat) : Int), r0, rds, [], []⟩ with
    | none => exact ⟨rfl, rfl⟩
    | some s => rw [hr] at h; simp at h
  · rename_i hc
    simp [hc]
theorem l_yes {code : List Ins} {r0 : Nat → Int} {rds : List Int} (hr0 : ∀ k, wfI (r0 k)) (hw : ∀ i ∈ code, wfI i.imm ∧ wfI i.off) (h : (lE code r0 rds == 0) = true) : ∃ s : Wk, s.evs = lEv code r0 rds ∧ s.path = lPa code r0 rds ∧ s.r = lR code r0 rds ∧ Good code rds.length s ∧ (checkR [code]).2.2 = 0 ∧ runW code code.length ⟨((0 : Nat) : Int), r0, rds, [], []⟩ = some s := by
  unfold lE at h
  unfold lEv lPa lR lRun
  split at h
  · rename_i hc
    simp only [hc, if_true]
    cases hr : runW code code.length ⟨((0 : Nat) : Int), r0, rds, [], []⟩ with
    | none => rw [hr] at h; simp at h
    | some s => exact ⟨s, rfl, rfl, rfl, local_good hc hr0 hw hr, trivial, rfl⟩
  · simp at h
section
variable {B0 : Nat} {Z R : Array Value} {t : TypeId}
def cNone (e : Nat) (he : e ≠ t) : Cl (SZ B0 Z R t) := ⟨fun v w => ∃ g, v = .slice (some ⟨g, 0, none⟩) 0 0 ∧ Blk w g #[] e, fun _ _ _ hS ⟨g, h1, h2⟩ => ⟨g, h1, hS.keep h2 he⟩⟩
def cLoc (code : List Ins) (r0 : Nat → Int) (rds : List Int) (h1 : 52 ≠ t) (h2 : 3 ≠ t) : Cl (SZ B0 Z R t) :=
  ⟨fun v w => ∃ ev pa, v = .tuple #[.agg (regsC (lR code r0 rds)), ev, pa, .int .i64 (lE code r0 rds)] ∧ (∃ b, w.ownsRow b 52 15 ev (lEv code r0 rds).length ((lEv code r0 rds).flatMap evS)) ∧ ∃ b, w.ownsRow b 3 1 pa (lPa code r0 rds).length ((lPa code r0 rds).flatMap intE),
   fun _ _ _ hS ⟨ev, pa, h, ⟨b, k1⟩, c, k2⟩ => ⟨ev, pa, h, ⟨b, own_sz k1 hS h1⟩, c, own_sz k2 hS h2⟩⟩
end
theorem own_apart {w : World} {b g e t s n : Nat} {v : Value} {xs : List Value} {cs : Array Value} (h : w.ownsRow b e s v n xs) (hb : Blk w g cs t) (he : e ≠ t) : v.ownBlock ≠ some g := fun hk => by
  rcases h.2 with ⟨rfl, _⟩ | ⟨g', cap, cur, rfl, _, hg, _⟩
  · simp [Value.ownBlock] at hk
  · simp [Value.ownBlock] at hk
    subst hk
    unfold Blk at hb; rw [hb] at hg; injection hg with hg; injection hg with _ h4; exact he h4.symm
theorem regs_set {r : Nat → Int} {x : Int} : ∀ {j : Nat}, j < 8 → (regsC r).setIfInBounds j (.int .i64 x) = regsC (updR r j x)
  | 0, _ | 1, _ | 2, _ | 3, _ | 4, _ | 5, _ | 6, _ | 7, _ => by simp [regsC, updR]
theorem regs_get {r : Nat → Int} : ∀ {j : Nat}, j < 8 → (regsC r)[j]? = some (.int .i64 (r j))
  | 0, _ | 1, _ | 2, _ | 3, _ | 4, _ | 5, _ | 6, _ | 7, _ => rfl
theorem b_neb {P : Program} {t : TypeId} (x y : Operand) (a b r : Bool) (w : World) (ht : P.underlying t = some .bool) (h : (!(a == b)) = r) : (eqGuard .neq t x y (.bool a) (.bool b)).run P w = .ok () w ∧ (binOp .neq t (.bool a) (.bool b)).run P w = .ok (.bool r) w := by
  subst h
  exact ⟨by simp [eqGuard], run_neq_bool w t a b ht⟩
theorem b_subn (x y : Operand) (j : Nat) (t : TypeId) (w : World) {P : Program} (h : 0 < j) (hj : j ≤ 1000000) : (eqGuard .sub t x y (.int .i64 (j : Int)) (.int .i64 1)).run P w = .ok () w ∧ (binOp .sub t (.int .i64 (j : Int)) (.int .i64 1)).run P w = .ok (.int .i64 ((j - 1 : Nat) : Int)) w := by
  have e : (((j - 1 : Nat)) : Int) = (j : Int) - 1 := by omega
  rw [e]
  refine ⟨by simp [eqGuard], ?_⟩
  have : IntKind.wrap .i64 ((j : Int) - 1) = (j : Int) - 1 := by simp only [IntKind.wrap, IntKind.signed, IntKind.bits]; simp; omega
  simp [binOp, this, go_sem]
/-- the event at a place of a run: its fields as its instruction has them -/
theorem ev_form {code : List Ins} {n0 : Nat} {s : Wk} (G : Good code n0 s) {j : Nat} {e : Ev} (h : s.evs[j]? = some e) : ∃ (k a : Nat) (c : Ins) (th loc mask old nw prd suc : Int) (aq wk rl : Bool), e = ⟨th, (k : Int), (a : Int), c.op, loc, mask, rdB c, wrB c, old, nw, aq, wk, rl, prd, suc⟩ ∧ s.path[k]? = some (a : Int) ∧ code[a]? = some c := by
  obtain ⟨k, h1, h2, c, h3, h4, h5, h6⟩ := G.ev j e h
  obtain ⟨a, ha⟩ := Int.eq_ofNat_of_zero_le (G.pa k _ h2).1
  obtain ⟨th, ps, at_, op, loc, mask, rd, wr, old, nw, aq, wk, rl, prd, suc⟩ := e
  simp only at h1 h2 h3 h4 h5 h6 ha
  subst h1; subst h4; subst h5; subst h6; subst ha
  exact ⟨k, a, c, th, loc, mask, old, nw, prd, suc, aq, wk, rl, rfl, h2, by simpa using h3⟩
def usedN (l : List Ev) (j : Nat) : Nat := (l.take j).countP fun e => e.reads
theorem used_at {l : List Ev} {j : Nat} {e : Ev} (h : l[j]? = some e) : usedN l (j + 1) = usedN l j + if e.reads = true then 1 else 0 := by
  unfold usedN; rw [List.take_add_one, h, List.countP_append]; simp
theorem used_le {code : List Ins} {n0 : Nat} {s : Wk} (G : Good code n0 s) (j : Nat) : usedN s.evs j ≤ n0 := by
  have h1 := G.rd
  have h2 : usedN s.evs j ≤ s.evs.countP fun e => e.reads := List.Sublist.countP_le (List.take_sublist j s.evs)
  omega
end Go.Proofs.Ytlhompedcphnnaa
/- Events, and arrays of registers, held against each other. -/
namespace Go.Proofs.Ytlhompedcphnnaa
open Go.RowKit
set_option linter.unusedSimpArgs false

section
variable {P : Program}
theorem eqFields_gen (d : Nat) (w : World) (xs ys : Array Value) : ∀ (fs : List Field) (bs : List Bool), fs.length = bs.length → (∀ (i : Nat) f b, fs[i]? = some f → bs[i]? = some b → f.name ≠ "_" ∧ ∃ u v, (part f.type xs f.offset).run P w = .ok u w ∧ (part f.type ys f.offset).run P w = .ok v w ∧ (Op.equalIn (d + 1) f.type u v).run P w = .ok b w) →
    (Op.eqFields (d + 1) xs ys fs).run P w = .ok (bs.all id) w
  | [], [], _, _ => by simp [Op.eqFields]
  | [], _ :: _, h, _ => by simp at h
  | _ :: _, [], h, _ => by simp at h
  | f :: fs, b :: bs, hl, h => by
    obtain ⟨hn, u, v, h1, h2, h3⟩ := h 0 f b rfl rfl
    have ih := eqFields_gen d w xs ys fs bs (by simpa using hl) (fun i f b hf hb => h (i + 1) f b (by simpa using hf) (by simpa using hb))
    unfold Op.eqFields
    simp only [ne_eq, hn, not_false_eq_true, if_true, Sem.run_bind, h1, h2, Result.andThen_ok, h3]
    cases b
    · simp
    · simp [ih]
end
def evT (k : Nat) : Nat := if k == 4 then 50 else if k == 5 || k == 6 || k == 9 || k == 10 || k == 11 then 4 else 3
def evO (k : Nat) : Nat := if k ≤ 4 then k else k + 1
def evFs (P : Program) : Option (Array Field) := match P.underlying 52 with | some (.struct fs) => some fs | _ => none
def evFB (P : Program) : Bool := match evFs P with | some fs => fs.size == 14 && (List.range 14).all (fun k => match fs[k]? with | some f => f.offset == evO k && f.type == evT k && f.name != "_" | none => false) | none => false
theorem evFB_true : evFB Try.prog = true := by kernel_rfl
theorem ev_fields : ∃ fs : Array Field, Try.prog.underlying 52 = some (.struct fs) ∧ fs.size = 14 ∧ ∀ k, k < 14 → ∃ f, fs[k]? = some f ∧ f.offset = evO k ∧ f.type = evT k ∧ f.name ≠ "_" := by
  have h := evFB_true
  unfold evFB at h
  cases hq : evFs Try.prog with
  | none => simp [hq] at h
  | some fs =>
    rw [hq] at h
    simp only [Bool.and_eq_true, beq_iff_eq] at h
    refine ⟨fs, ?_, h.1, fun k hk => ?_⟩
    · unfold evFs at hq
      split at hq
      · rename_i fs' he; rw [he]; cases hq; rfl
      · cases hq
    · have h1 := List.all_eq_true.1 h.2 k (List.mem_range.2 hk)
      cases hf : fs[k]? with
      | none => simp [hf] at h1
      | some f => rw [hf] at h1; simp only [Bool.and_eq_true, beq_iff_eq, bne_iff_ne] at h1; exact ⟨f, rfl, h1.1.1, h1.1.2, h1.2⟩
theorem flat_span : flatT Try.prog 50 = some [(0, false), (1, false)] := by kernel_rfl
theorem span_cells : (Try.prog.info? 50).map (·.size) = some 2 := by kernel_rfl
theorem eq_span (d : Nat) (w : World) (a b a' b' : Int) : (Op.equalIn (d + 2) 50 (.agg #[.int .i64 a, .int .i64 b]) (.agg #[.int .i64 a', .int .i64 b'])).run Try.prog w = .ok ([a == a', b == b'].all id) w := by
  have h := flat_span
  unfold flatT at h
  split at h
  · rename_i fs hu
    split at h
    · cases h
    · rename_i hs
      simp only [Bool.or_eq_true, not_or, Bool.not_eq_true] at hs
      have hf : Try.prog.fieldsOf 50 = fs := by unfold Program.fieldsOf; rw [hu]
      rw [run_equalIn_struct w (d + 1) 50 _ _ (by rw [hf]; exact hu) hs.1, hf]
      exact eqFields_flat d w _ _ _ _ _ h rfl
  · cases h
theorem held_ev : (Try.prog.stoodInHeld 52 || Try.prog.eqGuardType Try.prog.depth 52) = false := by kernel_rfl
def evBs (x y : Ev) : List Bool := [x.thread == y.thread, x.pos == y.pos, x.at_ == y.at_, x.op == y.op, [x.loc == y.loc, x.mask == y.mask].all id, x.reads == y.reads, x.writes == y.writes, x.old == y.old, x.new_ == y.new_, x.acq == y.acq, x.weak == y.weak, x.rel == y.rel, x.pred == y.pred, x.succ == y.succ]
def evEq (x y : Ev) : Bool := decide (x = y)
theorem evBs_all (x y : Ev) : (evBs x y).all id = evEq x y := by
  unfold evEq
  rw [Bool.eq_iff_iff, decide_eq_true_iff]
  cases x; cases y
  simp [evBs, and_assoc]
theorem span_agg (w : World) : (isAgg 50).run Try.prog w = .ok true w := by
  have h := flat_span
  unfold flatT at h
  split at h
  · rename_i fs hu; simp [isAgg, run_underlying hu]
  · cases h
theorem part_span (w : World) (x : Ev) : (part 50 (evC x) 4).run Try.prog w = .ok (.agg #[.int .i64 x.loc, .int .i64 x.mask]) w := by
  unfold part
  simp only [Sem.run_bind, span_agg, Result.andThen_ok, if_true, run_size span_cells, Sem.run_pure]
  rfl
set_option maxHeartbeats 1000000 in
theorem equal_ev (w : World) (x y : Ev) : (Op.equalIn 10000 52 (.agg (evC x)) (.agg (evC y))).run Try.prog w = .ok (evEq x y) w := by
  obtain ⟨fs, hu, hsz, hfs⟩ := ev_fields
  have hs := held_ev
  simp only [Bool.or_eq_false_iff] at hs
  have hf : Try.prog.fieldsOf 52 = fs := by unfold Program.fieldsOf; rw [hu]
  rw [run_equalIn_struct w 9999 52 _ _ (by rw [hf]; exact hu) hs.1, hf, ← evBs_all]
  refine eqFields_gen 9998 w (evC x) (evC y) fs.toList (evBs x y) (by simp [evBs, hsz]) fun i f b hfi hb => ?_
  have hi : i < 14 := by have := (List.getElem?_eq_some_iff.1 hb).1; simpa [evBs] using this
  obtain ⟨f', h1, h2, h3, h4⟩ := hfs i hi
  have he : f' = f := by rw [Array.getElem?_toList] at hfi; rw [h1] at hfi; exact Option.some.inj hfi
  subst he
  refine ⟨h4, ?_⟩
  rw [h2, h3]
  have int : ∀ (a c : Int) (o : Nat), (evC x)[o]? = some (.int .i64 a) → (evC y)[o]? = some (.int .i64 c) → b = (a == c) → ∃ u v, (part 3 (evC x) o).run Try.prog w = .ok u w ∧ (part 3 (evC y) o).run Try.prog w = .ok v w ∧ (Op.equalIn (9998 + 1) 3 u v).run Try.prog w = .ok b w := fun a c o ha hc hb => by
    have hag : (isAgg 3).run Try.prog w = .ok false w := by simp [isAgg, run_underlying Try.underlying3]
    subst hb
    exact ⟨_, _, part_one w hag ha, part_one w hag hc, run_equalIn_int w 9998 3 .i64 .i64 _ _ Try.underlying3⟩
  have bool : ∀ (a c : Bool) (o : Nat), (evC x)[o]? = some (.bool a) → (evC y)[o]? = some (.bool c) → b = (a == c) → ∃ u v, (part 4 (evC x) o).run Try.prog w = .ok u w ∧ (part 4 (evC y) o).run Try.prog w = .ok v w ∧ (Op.equalIn (9998 + 1) 4 u v).run Try.prog w = .ok b w := fun a c o ha hc hb => by
    have hag : (isAgg 4).run Try.prog w = .ok false w := by simp [isAgg, run_underlying Try.underlying4]
    subst hb
    exact ⟨_, _, part_one w hag ha, part_one w hag hc, run_equalIn_bool w 9998 4 _ _ Try.underlying4⟩
  have hbe : ∀ c, (evBs x y)[i]? = some c → b = c := fun c hc => by rw [hb] at hc; exact Option.some.inj hc
  have : i = 0 ∨ i = 1 ∨ i = 2 ∨ i = 3 ∨ i = 4 ∨ i = 5 ∨ i = 6 ∨ i = 7 ∨ i = 8 ∨ i = 9 ∨ i = 10 ∨ i = 11 ∨ i = 12 ∨ i = 13 := by omega
  rcases this with rfl | rfl | rfl | rfl | rfl | rfl | rfl | rfl | rfl | rfl | rfl | rfl | rfl | rfl
  · exact int _ _ 0 rfl rfl (hbe _ rfl)
  · exact int _ _ 1 rfl rfl (hbe _ rfl)
  · exact int _ _ 2 rfl rfl (hbe _ rfl)
  · exact int _ _ 3 rfl rfl (hbe _ rfl)
  · exact ⟨_, _, part_span w x, part_span w y, by rw [hbe _ rfl]; exact eq_span 9997 w _ _ _ _⟩
  · exact bool _ _ 6 rfl rfl (hbe _ rfl)
  · exact bool _ _ 7 rfl rfl (hbe _ rfl)
  · exact int _ _ 8 rfl rfl (hbe _ rfl)
  · exact int _ _ 9 rfl rfl (hbe _ rfl)
  · exact bool _ _ 10 rfl rfl (hbe _ rfl)
  · exact bool _ _ 11 rfl rfl (hbe _ rfl)
  · exact bool _ _ 12 rfl rfl (hbe _ rfl)
  · exact int _ _ 13 rfl rfl (hbe _ rfl)
  · exact int _ _ 14 rfl rfl (hbe _ rfl)
theorem ne_ev (x y : Ev) (p q : Operand) (w : World) (r : Bool) (h : (!evEq x y) = r) : (eqGuard .neq 52 p q (.agg (evC x)) (.agg (evC y))).run Try.prog w = .ok () w ∧ (binOp .neq 52 (.agg (evC x)) (.agg (evC y))).run Try.prog w = .ok (.bool r) w := by
  have hs := held_ev
  simp only [Bool.or_eq_false_iff] at hs
  subst h
  refine ⟨run_eqGuard_agg w _ _ _ _ _ _ hs.2, ?_⟩
  rw [run_neq_struct, equal_ev]; rfl
/-! ### Arrays of registers -/
def regEq (r s : Nat → Int) : Bool := (List.range 8).all fun k => r k == s k
theorem part_reg (r : Nat → Int) (k : Nat) (hk : k < 8) (w : World) : (part 3 (regsC r) (k * 1)).run Try.prog w = .ok (.int .i64 (r k)) w := by
  have hag : (isAgg 3).run Try.prog w = .ok false w := by simp [isAgg, run_underlying Try.underlying3]
  exact part_one w hag (by rw [Nat.mul_one]; exact regs_get hk)
theorem items_reg (d : Nat) (r s : Nat → Int) (w : World) : ∀ is : List Nat, (∀ k ∈ is, k < 8) → (Op.eqItems (d + 1) 3 1 (regsC r) (regsC s) is).run Try.prog w = .ok (is.all fun k => r k == s k) w
  | [], _ => by simp [Op.eqItems]
  | k :: is, h => by
    have hk := h k (by simp)
    have ih := items_reg d r s w is (fun j hj => h j (by simp [hj]))
    simp only [Op.eqItems, Sem.run_bind, part_reg r k hk, part_reg s k hk, Result.andThen_ok, run_equalIn_int w d 3 .i64 .i64 _ _ Try.underlying3, List.all_cons]
    cases hb : (r k == s k)
    · simp
    · simp only [Bool.not_true, Bool.false_eq_true, if_false, Bool.true_and]; exact ih
theorem und_regs : Try.prog.underlying 43 = some (.array 8 3) := by kernel_rfl
theorem info_int : ∃ i, Try.prog.info? 3 = some i := by
  cases h : Try.prog.info? 3 with
  | none => exact absurd h (by decide +kernel)
  | some i => exact ⟨i, rfl⟩
theorem guard_regs : Try.prog.eqGuardType Try.prog.depth 43 = false := by kernel_rfl
theorem equal_regs (d : Nat) (r s : Nat → Int) (w : World) : (Op.equalIn (d + 2) 43 (.agg (regsC r)) (.agg (regsC s))).run Try.prog w = .ok (regEq r s) w := by
  obtain ⟨i, hi⟩ := info_int
  rw [run_equalIn_array w (d + 1) (regsC r) (regsC s) und_regs hi, int_cells, items_reg d r s w _ (fun k hk => by simpa using hk)]
  rfl
theorem eq_regs (r s : Nat → Int) (p q : Operand) (w : World) (b : Bool) (h : regEq r s = b) : (eqGuard .eql 43 p q (.agg (regsC r)) (.agg (regsC s))).run Try.prog w = .ok () w ∧ (binOp .eql 43 (.agg (regsC r)) (.agg (regsC s))).run Try.prog w = .ok (.bool b) w := by
  subst h
  refine ⟨run_eqGuard_agg w _ _ _ _ _ _ guard_regs, ?_⟩
  rw [run_eql_struct, equal_regs 9998]; rfl
theorem ne_regs (r s : Nat → Int) (p q : Operand) (w : World) (b : Bool) (h : (!regEq r s) = b) : (eqGuard .neq 43 p q (.agg (regsC r)) (.agg (regsC s))).run Try.prog w = .ok () w ∧ (binOp .neq 43 (.agg (regsC r)) (.agg (regsC s))).run Try.prog w = .ok (.bool b) w := by
  subst h
  refine ⟨run_eqGuard_agg w _ _ _ _ _ _ guard_regs, ?_⟩
  rw [run_neq_struct, equal_regs 9998]; rfl
theorem regEq_of {r s : Nat → Int} (h : ∀ k, k < 8 → r k = s k) : regEq r s = true := by
  unfold regEq; rw [List.all_eq_true]; intro k hk; simp [h k (by simpa using hk)]
end Go.Proofs.Ytlhompedcphnnaa
/- A run's events are few. -/
namespace Go.Proofs.Ytlhompedcphnnaa
open Go.RowKit

theorem rises {l : List Ev} (h : ∀ (i : Nat) e f, l[i]? = some e → l[i + 1]? = some f → e.pos < f.pos) (h0 : ∀ (i : Nat) e, l[i]? = some e → 0 ≤ e.pos) : ∀ (i : Nat) e, l[i]? = some e → (i : Int) ≤ e.pos
  | 0, e, he => by have := h0 0 e he; omega
  | i + 1, e, he => by
    have hlt := get_lt he
    have hi : l[i]? = some l[i] := List.getElem?_eq_getElem (by omega)
    have h1 := rises h h0 i _ hi
    have h2 := h i _ e hi he
    omega
theorem ev_small {code : List Ins} {n0 : Nat} {s : Wk} (G : Good code n0 s) (hc : code.length ≤ 8) : s.evs.length ≤ 1000000 := by
  by_cases h : s.evs.length = 0
  · omega
  · have hi : s.evs[s.evs.length - 1]? = some (s.evs[s.evs.length - 1]'(by omega)) := List.getElem?_eq_getElem (by omega)
    have h1 := rises G.er (fun i e he => by obtain ⟨k, hk, _⟩ := G.ev i e he; omega) _ _ hi
    obtain ⟨k, hk, hp, _⟩ := G.ev _ _ hi
    have h2 := get_lt hp
    have h3 := G.len
    have h4 := G.p1
    omega
end Go.Proofs.Ytlhompedcphnnaa
/- Two runs that differ in a register that no instruction uses. -/
namespace Go.Proofs.Ytlhompedcphnnaa
open Go.RowKit

theorem andq7 {rg : Int} (h : wfI rg) : ∃ q : Nat, q < 8 ∧ ∀ (P : Program) (t : TypeId) (x y : Operand) (w : World), (eqGuard .and t x y (.int .i64 rg) (.int .i64 7)).run P w = .ok () w ∧ (binOp .and t (.int .i64 rg) (.int .i64 7)).run P w = .ok (.int .i64 (q : Int)) w := by
  have h7 : (7 : Int) = I 7#64 := rfl
  have key : I (B rg &&& 7#64) = (((B rg &&& 7#64).toNat : Nat) : Int) := by
    unfold I
    rw [BitVec.toInt_eq_toNat_of_lt]
    have : (B rg &&& 7#64).toNat ≤ 7 := by rw [BitVec.toNat_and]; exact Nat.and_le_right
    omega
  refine ⟨(B rg &&& 7#64).toNat, ?_, fun P t x y w => ⟨by simp [eqGuard], ?_⟩⟩
  · have : (B rg &&& 7#64).toNat ≤ 7 := by rw [BitVec.toNat_and]; exact Nat.and_le_right
    omega
  · have hb : bits .and .i64 rg 7 = I (B rg &&& 7#64) := by
      have e := bits_and (B rg) 7#64
      rw [← h, ← h7] at e; exact e
    rw [← key, ← hb]
    simp [binOp, go_sem]
def givN (code : List Ins) (q j : Nat) : Bool := (code.take j).any fun i => givesF i == (q : Int)
def freeN (code : List Ins) (q j : Nat) : Prop := ∀ i ∈ code.take j, ∀ z ∈ useF i, z ≠ (q : Int)
theorem giv_at {code : List Ins} {q j : Nat} {i : Ins} (h : code[j]? = some i) : givN code q (j + 1) = (givN code q j || givesF i == (q : Int)) := by
  unfold givN; rw [List.take_add_one, h]; simp [List.any_append]
theorem free_at {code : List Ins} {q j k : Nat} {i : Ins} (h : code[j]? = some i) (hf : freeN code q j) (hk : (useF i).length ≤ k) (hu : ∀ z ∈ (useF i).take k, z ≠ (q : Int)) : freeN code q (j + 1) := by
  intro c hc
  rw [List.take_add_one, h] at hc
  simp at hc
  rcases hc with hc | rfl
  · exact hf c hc
  · rw [List.take_of_length_le hk] at hu; exact hu
theorem fresh_at {l : List Int} {q : Int} {j : Nat} {y : Int} (h : l[j]? = some y) (hf : ∀ z ∈ l.take j, z ≠ q) (hy : y ≠ q) : ∀ z ∈ l.take (j + 1), z ≠ q := by
  intro z hz
  rw [List.take_add_one, h] at hz
  simp at hz
  rcases hz with hz | rfl
  · exact hf z hz
  · exact hy
theorem quiet {code : List Ins} {r0 : Nat → Int} {rds : List Int} {q j : Nat} {v : Int} (hj : code.length ≤ j) (hu : freeN code q j) :
    lE code r0 rds = lE code (updR r0 q v) rds ∧ lEv code r0 rds = lEv code (updR r0 q v) rds ∧ lPa code r0 rds = lPa code (updR r0 q v) rds ∧ (∀ k, k ≠ q → lR code r0 rds k = lR code (updR r0 q v) rds k) ∧ (givN code q j = false → (lE code r0 rds == 0) = true → lR code (updR r0 q v) rds q = v) := by
  unfold lE lEv lPa lR lRun
  by_cases hc : (checkR [code]).2.2 = 0
  · simp only [hc, if_true]
    unfold freeN givN at *
    rw [List.take_of_length_le hj] at hu ⊢
    have hs : Same q ⟨((0 : Nat) : Int), r0, rds, [], []⟩ ⟨((0 : Nat) : Int), updR r0 q v, rds, [], []⟩ := ⟨rfl, rfl, rfl, rfl, fun k hk => by simp [updR, hk]⟩
    have ht := run_same (g := !(code.any fun i => givesF i == (q : Int))) (check_one hc).2 hu (fun hg i hi => by
      intro e
      simp at hg
      exact hg i hi e) code.length _ _ hs
    revert ht
    rcases runW code code.length ⟨((0 : Nat) : Int), r0, rds, [], []⟩ with _ | s <;> rcases runW code code.length ⟨((0 : Nat) : Int), updR r0 q v, rds, [], []⟩ with _ | t <;> intro ht
    · exact ⟨rfl, rfl, rfl, fun _ _ => rfl, fun _ h => by simp at h⟩
    · exact ht.elim
    · exact ht.elim
    · refine ⟨rfl, ht.1.evs, ht.1.path, ht.1.r, fun hg _ => ?_⟩
      have := (ht.2 (by rw [hg]; rfl)).2
      simpa [updR] using this
  · simp only [hc, if_false]
    exact ⟨trivial, trivial, trivial, fun _ _ => trivial, fun _ h => by simp at h⟩
theorem upd_eq {r s : Nat → Int} {q : Nat} (h : ∀ k, k ≠ q → r k = s k) : regEq (updR r q 0) (updR s q 0) = true := regEq_of fun k _ => by
  unfold updR
  split
  · rfl
  · exact h k (by assumption)
end Go.Proofs.Ytlhompedcphnnaa
/- Rows of runs are short; elements of one row. -/
namespace Go.Proofs.Ytlhompedcphnnaa
open Go.RowKit

theorem ev_same {E F : List Ev} {j : Nat} {x y : Ev} (h : E = F) (hx : E[j]? = some x) (hy : F[j]? = some y) : x = y := by subst h; rw [hx] at hy; exact Option.some.inj hy
theorem l_small {code : List Ins} {r0 : Nat → Int} {rds : List Int} (hr0 : ∀ k, wfI (r0 k)) (hw : ∀ i ∈ code, wfI i.imm ∧ wfI i.off) : (lEv code r0 rds).length ≤ 1000000 ∧ (lPa code r0 rds).length ≤ 1000000 := by
  rcases Bool.eq_false_or_eq_true (lE code r0 rds == 0) with h | h
  · obtain ⟨s, h1, h2, _, G, hc, _⟩ := l_yes hr0 hw h
    rw [← h1, ← h2]
    have h8 := (check_one hc).1
    refine ⟨ev_small G h8, ?_⟩
    have := G.len
    have := G.p1
    omega
  · rw [(l_no h).1, (l_no h).2]; simp
end Go.Proofs.Ytlhompedcphnnaa
