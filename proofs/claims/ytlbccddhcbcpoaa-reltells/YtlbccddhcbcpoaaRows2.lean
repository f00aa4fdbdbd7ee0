/- What Pairs and Count return, for every input. -/
import Derived.Test.YtlbccddhcbcpoaaRows1
namespace Go.Proofs.Ytlbccddhcbcpoaa
open Go.RowKit

/-- a row of pairs as cells -/
def pcs (l : List (Nat × Nat)) : List Value := l.flatMap fun p => [Value.int .i64 (p.1 : Int), Value.int .i64 (p.2 : Int)]
theorem pcs_snoc (l : List (Nat × Nat)) (p : Nat × Nat) : pcs (l ++ [p]) = pcs l ++ [Value.int .i64 (p.1 : Int), Value.int .i64 (p.2 : Int)] := by simp [pcs]
theorem pcs_len (l : List (Nat × Nat)) : (pcs l).length = l.length * 2 := by
  induction l with
  | nil => rfl
  | cons p l ih => have : pcs (p :: l) = [Value.int .i64 (p.1 : Int), Value.int .i64 (p.2 : Int)] ++ pcs l := by simp [pcs]
                   rw [this, List.length_append, ih, List.length_cons]; simp; omega
/-- a value is a row of these pairs -/
def Pl (w : World) (v : Value) (l : List (Nat × Nat)) : Prop := w.ownsRow 0 29 2 v l.length (pcs l)
theorem Pl.grow {w w' : World} {v : Value} {l : List (Nat × Nat)} (hg : Grow w w') (h : Pl w v l) : Pl w' v l := own_grow hg h
theorem Pl.form {w : World} {v : Value} {l : List (Nat × Nat)} (h : Pl w v l) : ∃ ad cap, v = .slice ad l.length cap := by
  rcases h.2 with ⟨hv, hn⟩ | ⟨g, cap, cur, hv, _⟩
  · exact ⟨none, 0, by rw [hv, hn]⟩
  · exact ⟨_, _, hv⟩
theorem own_pcs (w : World) (b : Nat) (e : TypeId) (s : Nat) : w.ownsRow b e s (.slice none 0 0) ([] : List (Nat × Nat)).length (pcs []) := ⟨by simp [pcs], .inl ⟨rfl, rfl⟩⟩
theorem info_pair : (Try.prog.info? 29).map (fun i => (i.zero, i.size, i.bytes)) = some (some (.agg #[.int .i64 0, .int .i64 0]), 2, 16) := by kernel_rfl
theorem info_pair' : ∃ i, Try.prog.info? 29 = some i ∧ i.zero = some (.agg #[.int .i64 0, .int .i64 0]) ∧ i.size = 2 ∧ i.bytes = 16 := by
  have h := info_pair
  cases hq : Try.prog.info? 29 with
  | none => simp [hq] at h
  | some i => simp [hq] at h; exact ⟨i, rfl, h.1, h.2.1, h.2.2⟩
section
variable {ops : Array Oper} {rest : List Oper} {a : Act} {Q : Exit → Act → World → Prop}
/-- one pair is appended to a row of the call's own -/
theorem app2 (w : World) {d : Option Tmp} {p q : Tmp} {ty : TypeId} {pos : String} {af : Array Edge} (B : Nat) (l : List (Nat × Nat)) (m n g : Nat) (v : Value) (hp : a.eval (.tmp p) = v) (hq : a.eval (.tmp q) = .slice (some ⟨g, 0, none⟩) 1 1)
    (hc : w.cell? ⟨g, 0, none⟩ = some (.int .i64 m)) (hc2 : w.cell? ⟨g, 1, none⟩ = some (.int .i64 n)) (ho : w.ownsRow B 29 2 v l.length (pcs l)) (hl : l.length ≤ 100000) (hB : B ≤ w.heap.size)
    (h : ∀ v' w', w'.ownsRow B 29 2 v' (l ++ [(m, n)]).length (pcs (l ++ [(m, n)])) → Below B w w' → Moved w w' v v' → wpList Try.prog ops Q rest (a.put d v') w') :
    wpList Try.prog ops Q ({ dst := d, op := .call { callee := .builtin .append, args := #[.tmp p, .tmp q], argTypes := #[23, 23] }, type := ty, pos := pos, after := af, guard := none } :: rest) a w := by
  obtain ⟨i, hi, hz, hs, hb⟩ := info_pair'
  refine wpList_append_own_at w rfl (.tmp p) (.tmp q) 23 rfl B 29 i (.agg #[.int .i64 0, .int .i64 0]) 2 16 Try.underlying23 hi hz hs hb rfl (by decide) v l.length (pcs l) hp ho ⟨g, 0, none⟩ 1 1 [.int .i64 m, .int .i64 n] hq rfl ?_ ?_ (by unfold maxLen; omega) (by omega) hB ?_
  · intro j u hj
    match j, hj with
    | 0, hj => simp at hj; subst hj; rw [Addr.add_mid]; exact hc
    | 1, hj => simp at hj; subst hj; rw [Addr.add_mid]; exact hc2
  · intro u hu; simp at hu; rcases hu with rfl | rfl <;> rfl
  · intro v' w' h1 h2 _ h4
    exact h v' w' (by rw [pcs_snoc, List.length_append]; exact h1) ((Below.refl B w).grown h2 hB (own_block ho)) ⟨h2.size, fun k hk hne => h2.block k hk (Ne.symm hne), h4⟩
end
/-- the pairs of the rows below n -/
def prs (r : Rl) (n : Nat) : List (Nat × Nat) := (List.range n).flatMap fun a => (lst (row r a) 32).map fun b => (a, b)
theorem prs_zero (r : Rl) : prs r 0 = [] := rfl
theorem prs_succ (r : Rl) (n : Nat) : prs r (n + 1) = prs r n ++ (lst (row r n) 32).map fun b => (n, b) := by
  unfold prs; rw [List.range_succ, List.flatMap_append]; simp
theorem prs_len (r : Rl) (n : Nat) : (prs r n).length ≤ n * 32 := by
  induction n with
  | zero => simp [prs]
  | succ n ih => rw [prs_succ, List.length_append, List.length_map]; have := lst_len (row r n) 32; omega
/-- the pairs of the rows below n, and the first j of row n -/
def prt (r : Rl) (n j : Nat) : List (Nat × Nat) := prs r n ++ ((lst (row r n) 32).take j).map fun b => (n, b)
theorem prt_zero (r : Rl) (n : Nat) : prt r n 0 = prs r n := by simp [prt]
theorem prt_full (r : Rl) (n : Nat) : prt r n (lst (row r n) 32).length = prs r (n + 1) := by rw [prs_succ]; simp [prt]
theorem prt_succ {r : Rl} {n j x : Nat} (h : (lst (row r n) 32)[j]? = some x) : prt r n (j + 1) = prt r n j ++ [(n, x)] := by
  unfold prt; rw [List.take_add_one, h]; simp
theorem prt_len (r : Rl) (n j : Nat) : (prt r n j).length ≤ n * 32 + 32 := by
  unfold prt; rw [List.length_append, List.length_map, List.length_take]
  have := prs_len r n; have := lst_len (row r n) 32; omega
attribute [local irreducible] wpList cells row U aft inn one nil part upd idr crs mns eqB evB stepP plusT invT uni met sqs or2 and2 seq2 allS lst nums prs prt pcs

set_option maxHeartbeats 2000000 in
theorem pairs_any (r : Rl) (w : World) : Calls Try.prog 34 #[.agg (cells r)] w fun x w' => ∃ v, x = .returned v ∧ Grow w w' ∧ Pl w' v (prs r 32) := by
  have h1 := At.new w r
  have hg0 : Grow w (w.alloc (.cells (cells r) 28)) := (Grow.refl w).alloc _
  go_enter Try.func34, Try.ntmps34
  go_wp2_with (refine ld w.heap.size r (by rfl) h1 ?_)
  clear h1
  go_loopw [3, 9] (fun v i wr => ∃ k : Nat, k ≤ 32 ∧ i = .int .i64 k ∧ Grow w wr ∧ wr.ownsRow w.heap.size 29 2 v (prs r k).length (pcs (prs r k))) (fun _ i _ => 32 - (intOf i).toNat)
  case atStart => exact ⟨0, by omega, rfl, hg0, by rw [prs_zero]; exact own_pcs _ _ _ _⟩
  case round =>
    clear hg0
    obtain ⟨k, hk, rfl, hg, ho⟩ := hrel
    by_cases hlt : k < 32
    · have hdk : decide ((k : Int) < 32) = true := by simp; omega
      have hsz := hg.size
      go_wp2_with (first | (refine ix r k hlt (by rfl) (by rfl) ?_) | (go_at_call 13; refine (list_any _ _).mono ?_; rintro e w1 ⟨v1, rfl, hg1, hi1⟩; have hap1 := apart_new ho hi1; have hi1 := own_zero hi1; obtain ⟨ad1, cap1, hv1⟩ := Il.form hi1; subst hv1))
      have hgw : Grow w w1 := Grow.trans hg hg1
      have ho1 := own_grow hg1 ho
      have HL := lst_len (row r k) 32
      obtain ⟨l, Hl⟩ : ∃ l, Hid (l = lst (row r k) 32) := ⟨_, rfl⟩
      rw [← Hl.out] at hi1 hap1 HL ⊢
      clear hg ho hg1
      go_loopw [3, 16] (fun v i wr => ∃ j : Nat, j ≤ l.length ∧ i = .int .i64 j ∧ Grow w wr ∧ Il wr (.slice ad1 l.length cap1) l ∧ Apart wr (.slice ad1 l.length cap1) v ∧ wr.ownsRow w.heap.size 29 2 v (prt r k j).length (pcs (prt r k j))) (fun _ i _ => l.length - (intOf i).toNat)
      case atStart => exact ⟨0, by omega, rfl, hgw, hi1, hap1, by rw [prt_zero]; exact ho1⟩
      case round =>
        clear hgw hi1 ho1 hap1
        obtain ⟨j, hj, rfl, hg, hi, hap, ho⟩ := hrel
        by_cases hjl : j < l.length
        · obtain ⟨x, hx⟩ : ∃ x, l[j]? = some x := ⟨l[j], List.getElem?_eq_getElem hjl⟩
          obtain ⟨g, cap, hv, hgl, hcx⟩ := hi.cell hx
          cases hv
          have HT : Hid (prt r k (j + 1) = prt r k j ++ [(k, x)]) := prt_succ (by rw [← Hl.out]; exact hx)
          have HN : Hid ((prt r k j).length ≤ k * 32 + 32) := prt_len r k j
          have Hx : Hid (l[j]? = some x) := hx
          clear hx
          have hsz2 := hg.size
          go_wp2_with (first | (at_builtin; go_must (refine app2 _ w.heap.size (prt r k j) k x _ _ (by rfl) (by rfl) ?c1 ?c2 (own_alloc ho _) ?c3 ?c4 ?_)))
          case c1 => simp
          case c2 => simp
          case c3 => have := HN.out; omega
          case c4 => simp; omega
          intro v' w2 ho2 hb2 hm2
          go_wp2
          go_roundw
          case rel => exact ⟨j + 1, by omega, by go_num, (Below.alloc hg hsz2 _).trans hb2, own_moved (own_alloc hi _) (hap.alloc _) hm2, (hap.alloc _).moved hm2, by rw [HT.out]; exact ho2⟩
          case measure => simp [intOf]; omega
        · obtain rfl : j = l.length := by omega
          rw [Hl.out, prt_full] at ho
          go_wp2
          go_roundw
          case rel => exact ⟨k + 1, by omega, by go_num, hg, ho⟩
          case measure => simp [intOf]; omega
    · obtain rfl : k = 32 := by omega
      go_wp2
      go_ret
      exact ⟨_, rfl, hg, own_zero ho⟩

theorem count_any (r : Rl) (w : World) : Calls Try.prog 36 #[.agg (cells r)] w fun x w' => x = .returned (.int .i64 ((prs r 32).length : Int)) ∧ Grow w w' := by
  have h1 := At.new w r
  have hg0 : Grow w (w.alloc (.cells (cells r) 28)) := (Grow.refl w).alloc _
  go_enter Try.func36, Try.ntmps36
  go_wp2_with (first | (refine ld w.heap.size r (by rfl) h1 ?_) | (go_at_call 34; refine (pairs_any r _).mono ?_; rintro e w1 ⟨v1, rfl, hg1, hp1⟩; obtain ⟨ad, cap, hv⟩ := hp1.form; subst hv))
  go_ret
  exact ⟨rfl, Grow.trans hg0 hg1⟩

end Go.Proofs.Ytlbccddhcbcpoaa
