/- How an instruction that is handed in by value is read. -/
import Derived.Test.YtlhompedcphnnaaUirLocalP4
import Derived.WalkSmall
import Derived.ProofKit
import Derived.OpenShut
import Derived.ChangeOld
import Derived.Deep.Upon
namespace Go.Proofs.Ytlhompedcphnnaa
open Go.ChangeShapes Go.WideShapes Go.ChangeAt Go.RowKit

def insT (k : Nat) : Nat := if k == 10 || k == 11 || k == 12 || k == 16 then 4 else 3
def insFs (P : Program) : Option (Array Field) := match P.underlying 23 with | some (.struct fs) => some fs | _ => none
def insFB (P : Program) : Bool := match insFs P with | some fs => (List.range 17).all (fun k => match fs[k]? with | some f => f.offset == k && f.type == insT k | none => false) | none => false
theorem insFB_true : insFB Try.prog = true := by kernel_rfl
theorem ins_fields : ∃ fs : Array Field, Try.prog.underlying 23 = some (.struct fs) ∧ ∀ k, k < 17 → ∃ f, fs[k]? = some f ∧ f.offset = k ∧ f.type = insT k := by
  have h := insFB_true
  unfold insFB at h
  cases hq : insFs Try.prog with
  | none => simp [hq] at h
  | some fs =>
    rw [hq] at h
    refine ⟨fs, ?_, fun k hk => ?_⟩
    · unfold insFs at hq
      split at hq
      · rename_i fs' he; rw [he]; cases hq; rfl
      · cases hq
    · have h1 := List.all_eq_true.1 h k (List.mem_range.2 hk)
      cases hf : fs[k]? with
      | none => simp [hf] at h1
      | some f => rw [hf] at h1; simp only [Bool.and_eq_true, beq_iff_eq] at h1; exact ⟨f, rfl, h1.1, h1.2⟩
theorem ins_cells : Try.prog.cellsOf 23 = 17 := by kernel_rfl
theorem int_cells : Try.prog.cellsOf 3 = 1 := by kernel_rfl
theorem bool_cells : Try.prog.cellsOf 4 = 1 := by kernel_rfl
theorem take_one {l : List Value} {k : Nat} {v : Value} (h : (l.drop k).take 1 = [v]) : l[k]? = some v := by
  have := congrArg (fun l => l[0]?) h
  simpa using this
theorem open_ins {H : Type} {enc : TypeId × Value → H} {W : World} {base : Nat} {spare : Nat → Bool} {held : Bool} {base' : Nat} {v : Value} {d : DataW H} {ps : List MemPlace}
    (hv : Value.okWide Try.prog W .any base 23 v) (h : DataW.Trod enc Try.prog W base' spare held 23 v d ps) : ∃ i : Ins, v = .agg (insC i) := by
  obtain ⟨fs, hu, hfs⟩ := ins_fields
  obtain ⟨cs, rfl, hsz⟩ := okWide_struct hu hv
  rw [ins_cells] at hsz
  obtain ⟨fuel, hf⟩ := h
  obtain ⟨xs, n, _, _, _, hlen, hx⟩ := DataW.trod_struct hu hf
  have int : ∀ k, k < 17 → insT k = 3 → ∃ m : Int, cs.toList[k]? = some (.int .i64 m) := fun k hk ht => by
    obtain ⟨f, hf1, ho, hty⟩ := hfs k hk
    have h1 := hx k f hf1
    have hl := (Array.getElem?_eq_some_iff.1 hf1).1
    rw [ho, hty, ht, int_cells, List.getElem?_eq_getElem (by omega)] at h1
    obtain ⟨m, h2, _, _⟩ := DataW.trod_int Try.underlying3 h1
    exact ⟨m, take_one h2⟩
  have bool : ∀ k, k < 17 → insT k = 4 → ∃ b : Bool, cs.toList[k]? = some (.bool b) := fun k hk ht => by
    obtain ⟨f, hf1, ho, hty⟩ := hfs k hk
    have h1 := hx k f hf1
    have hl := (Array.getElem?_eq_some_iff.1 hf1).1
    rw [ho, hty, ht, bool_cells, List.getElem?_eq_getElem (by omega)] at h1
    obtain ⟨m, h2, _⟩ := DataW.trod_bool Try.underlying4 h1
    exact ⟨m, take_one h2⟩
  obtain ⟨c0, h0⟩ := int 0 (by decide) rfl
  obtain ⟨c1, h1⟩ := int 1 (by decide) rfl
  obtain ⟨c2, h2⟩ := int 2 (by decide) rfl
  obtain ⟨c3, h3⟩ := int 3 (by decide) rfl
  obtain ⟨c4, h4⟩ := int 4 (by decide) rfl
  obtain ⟨c5, h5⟩ := int 5 (by decide) rfl
  obtain ⟨c6, h6⟩ := int 6 (by decide) rfl
  obtain ⟨c7, h7⟩ := int 7 (by decide) rfl
  obtain ⟨c8, h8⟩ := int 8 (by decide) rfl
  obtain ⟨c9, h9⟩ := int 9 (by decide) rfl
  obtain ⟨c10, h10⟩ := bool 10 (by decide) rfl
  obtain ⟨c11, h11⟩ := bool 11 (by decide) rfl
  obtain ⟨c12, h12⟩ := bool 12 (by decide) rfl
  obtain ⟨c13, h13⟩ := int 13 (by decide) rfl
  obtain ⟨c14, h14⟩ := int 14 (by decide) rfl
  obtain ⟨c15, h15⟩ := int 15 (by decide) rfl
  obtain ⟨c16, h16⟩ := bool 16 (by decide) rfl
  refine ⟨⟨c0, c1, c2, c3, c4, c5, c6, c7, c8, c9, c10, c11, c12, c13, c14, c15, c16⟩, congrArg Value.agg ?_⟩
  apply Array.ext'
  apply List.ext_getElem?
  intro k
  by_cases hk : k < 17
  · have : k = 0 ∨ k = 1 ∨ k = 2 ∨ k = 3 ∨ k = 4 ∨ k = 5 ∨ k = 6 ∨ k = 7 ∨ k = 8 ∨ k = 9 ∨ k = 10 ∨ k = 11 ∨ k = 12 ∨ k = 13 ∨ k = 14 ∨ k = 15 ∨ k = 16 := by omega
    rcases this with rfl | rfl | rfl | rfl | rfl | rfl | rfl | rfl | rfl | rfl | rfl | rfl | rfl | rfl | rfl | rfl | rfl
    · exact h0
    · exact h1
    · exact h2
    · exact h3
    · exact h4
    · exact h5
    · exact h6
    · exact h7
    · exact h8
    · exact h9
    · exact h10
    · exact h11
    · exact h12
    · exact h13
    · exact h14
    · exact h15
    · exact h16
  · rw [List.getElem?_eq_none (by simp; omega), List.getElem?_eq_none (by simp [insC]; omega)]
end Go.Proofs.Ytlhompedcphnnaa
/- Two rows of numbers compared. -/
namespace Go.Proofs.Ytlhompedcphnnaa

theorem take_more {l m : List Int} {j : Nat} {y z : Int} (h : l.take j = m.take j) (hy : l[j]? = some y) (hz : m[j]? = some z) (he : y = z) : l.take (j + 1) = m.take (j + 1) := by
  rw [List.take_add_one, List.take_add_one, h, hy, hz, he]
theorem take_all {l m : List Int} {j : Nat} (h : l.take j = m.take j) (hl : l.length ≤ j) (hm : m.length ≤ j) : l = m := by
  rwa [List.take_of_length_le hl, List.take_of_length_le hm] at h
theorem eq_no_len {l m : List Int} (h : (l.length : Int) ≠ (m.length : Int)) : decide (l = m) = false := by
  rw [decide_eq_false_iff_not]; intro e; subst e; exact h rfl
theorem eq_no_at {l m : List Int} {j : Nat} {y z : Int} (hy : l[j]? = some y) (hz : m[j]? = some z) (he : y ≠ z) : decide (l = m) = false := by
  rw [decide_eq_false_iff_not]; intro e; subst e; rw [hy] at hz; cases hz; exact he rfl
end Go.Proofs.Ytlhompedcphnnaa
/- ints tells whether two rows of numbers are the same. -/
namespace Go.Proofs.Ytlhompedcphnnaa
open Go.RowKit
set_option linter.unusedSimpArgs false
set_option linter.unusedVariables false

set_option maxHeartbeats 4000000 in
set_option maxRecDepth 4000 in
theorem ints_any (l m : List Int) (va vb : Value) (w : World) (hsa : Sl intE 1 w.heap.size w va l) (hsb : Sl intE 1 w.heap.size w vb m) (hll : l.length ≤ 1000000) : Calls Try.prog 15 #[va, vb] w fun e w' => e = .returned (.bool (decide (l = m))) ∧ Grow w w' := by
 have b0 : Below w.heap.size w w := Below.refl _ _
 refine enter (n := 26) Try.func15 rfl rfl (Nat.le_of_ble_eq_true rfl) ?_
 intro a1 hA2
 refine wp_seq ?_
 refine wp_region_lit ?_
 refine qs hA2 rfl (das (wn rfl) (hA2.ev rfl) ?_)
 intro a3 hA4
 refine qe_ ?_
 refine tn_ ?_
 refine wp_seq ?_
 refine wp_seq ?_
 refine wp_region_lit ?_
 refine qs hA4 rfl (dmv (wn rfl) (hA4.ev rfl) ?_)
 intro a5 hA6
 refine qs hA6 rfl (dle (n := l.length) (wn rfl) (hA6.ev rfl) slc30 hsa.form ?_)
 intro a7 hA8
 refine qs hA8 rfl (dmv (wn rfl) (hA8.ev rfl) ?_)
 intro a9 hA10
 refine qs hA10 rfl (dle (n := m.length) (wn rfl) (hA10.ev rfl) slc30 hsb.form ?_)
 intro a11 hA12
 rcases Bool.eq_false_or_eq_true (((l.length : Nat) : Int) == ((m.length : Nat) : Int)) with hb13 | hb13
 ·skip
  have hq14 := eq_of_beq hb13
  refine qs hA12 rfl (dbn (wn rfl) (hA12.ev rfl) (hA12.ev rfl) (b_ne _ _ ((l.length : Nat) : Int) ((m.length : Nat) : Int) false _ (notof hb13)) ?_)
  intro a15 hA16
  refine qe_ ?_
  refine tn_ ?_
  refine c_false hA16 rfl ?_
  refine wp_skip ?_
  refine tn_ ?_
  refine wp_seq ?_
  refine wp_seq ?_
  refine wp_region_lit ?_
  refine qs hA16 rfl (das (wn rfl) (hA16.ev rfl) ?_)
  intro a17 hA18
  refine qe_ ?_
  refine tn_ ?_
  refine wp_block ?_
  refine loop_by (fun m20 a21 w22 => ∃ j19 : Nat, m20 = l.length - j19 ∧ (j19 ≤ l.length ∧ l.take (j19) = m.take (j19)) ∧ St 26 [(0, va), (1, vb), (5, (.int .i64 ((j19 : Nat) : Int)))] a21 ∧ Below w.heap.size w w22) (l.length - 0) ⟨0, rfl, ⟨Nat.zero_le _, rfl⟩, hA18.cut _ (fc (hA18.get 0 _ rfl) (fc (hA18.get 1 _ rfl) (fc ((hA18.get 5 _ rfl).trans (congrArg (Value.int .i64) (by omega))) fn_))), b0⟩ ?_
  rintro m20 a21 w22 ⟨j19, hm25, hc26, hA23, b24⟩
  refine wp_seq ?_
  refine wp_seq ?_
  refine wp_region_lit ?_
  refine qs hA23 rfl (dmv (wn rfl) (hA23.ev rfl) ?_)
  intro a27 hA28
  refine qs hA28 rfl (dmv (wn rfl) (hA28.ev rfl) ?_)
  intro a29 hA30
  refine qs hA30 rfl (dle (n := l.length) (wn rfl) (hA30.ev rfl) slc30 hsa.form ?_)
  intro a31 hA32
  rcases Bool.eq_false_or_eq_true (decide (((j19 : Nat) : Int) < ((l.length : Nat) : Int))) with hb33 | hb33
  ·skip
   have hq34 := of_decide_eq_true hb33
   refine qs hA32 rfl (dbn (wn rfl) (hA32.ev rfl) (hA32.ev rfl) (b_lt _ _ ((j19 : Nat) : Int) ((l.length : Nat) : Int) true _ hb33) ?_)
   intro a35 hA36
   refine qe_ ?_
   refine tn_ ?_
   refine c_true hA36 rfl ?_
   refine wp_skip ?_
   refine tn_ ?_
   refine wp_seq ?_
   refine wp_block ?_
   refine wp_seq ?_
   obtain ⟨y37, hy38⟩ : ∃ y37, l[j19]? = some y37 := ⟨_, List.getElem?_eq_getElem (show j19 < l.length by omega)⟩
   obtain ⟨b39, o40, lt41, hr42, hix43⟩ := (hsa.below b24).at hy38
   obtain ⟨y44, hy45⟩ : ∃ y44, m[j19]? = some y44 := ⟨_, List.getElem?_eq_getElem (show j19 < m.length by omega)⟩
   obtain ⟨b46, o47, lt48, hr49, hix50⟩ := (hsb.below b24).at hy45
   rcases Bool.eq_false_or_eq_true (y37 == y44) with hb51 | hb51
   ·skip
    have hq52 := eq_of_beq hb51
    have hA53 : St 26 [(0, va), (1, vb), (5, (.int .i64 ((j19 : Nat) : Int)))] a35 := hA36.sub rfl
    let M54 : Nat → Option (Array Value) := fun _ => none
    have hM54 : M54 = fun _ => none := rfl
    clear_value M54
    have hM54B : ∀ k, k < w.heap.size → M54 k = none := (fun k hk => (congrFun hM54 k))
    refine drawn (S := SM M54) (tabL [cv va, cv (.int .i64 ((j19 : Nat) : Int)), cv (.pointer (some ⟨b39, o40, none⟩)), cv (.int .i64 y37), cv vb, cv (.int .i64 ((j19 : Nat) : Int)), cv (.pointer (some ⟨b46, o47, none⟩)), cv (.int .i64 y44), cv (.bool false)]) mixedY SM.refl SM.trans SM.drew hA53 (by kernel_rfl) ?_ ?_
    ·skip
     refine ec_ (fun x y hS hT hk => dmv (wn rfl) (hT.ev rfl) ⟨SM.refl _, rfl⟩) ?_
     refine ec_ (fun x y hS hT hk => dmv (wn rfl) (hT.ev rfl) ⟨SM.refl _, rfl⟩) ?_
     refine ec_ (fun x y hS hT hk => dia (j := j19) (wn rfl) (hk 0 rfl) (hk 1 rfl) slc30 hix43 (get_lt hy38) ⟨SM.refl _, rfl⟩) ?_
     refine ec_ (fun x y hS hT hk => dld (v := (.int .i64 y37)) (wn rfl) (hk 2 rfl) one3 ((range_sm (w := w22.drew) hr42 hS (Nat.lt_of_lt_of_le lt41 b24.size) (hM54B _ lt41)) 0 _ rfl) ⟨SM.refl _, rfl⟩) ?_
     refine ec_ (fun x y hS hT hk => dmv (wn rfl) (hT.ev rfl) ⟨SM.refl _, rfl⟩) ?_
     refine ec_ (fun x y hS hT hk => dmv (wn rfl) (hT.ev rfl) ⟨SM.refl _, rfl⟩) ?_
     refine ec_ (fun x y hS hT hk => dia (j := j19) (wn rfl) (hk 4 rfl) (hk 5 rfl) slc30 hix50 (get_lt hy45) ⟨SM.refl _, rfl⟩) ?_
     refine ec_ (fun x y hS hT hk => dld (v := (.int .i64 y44)) (wn rfl) (hk 6 rfl) one3 ((range_sm (w := w22.drew) hr49 hS (Nat.lt_of_lt_of_le lt48 b24.size) (hM54B _ lt48)) 0 _ rfl) ⟨SM.refl _, rfl⟩) ?_
     refine ec_ (fun x y hS hT hk => dbn (wn rfl) (hk 3 rfl) (hk 7 rfl) (b_ne _ _ y37 y44 false _ (notof hb51)) ⟨SM.refl _, rfl⟩) ?_
     exact each_nil
    intro f55 a56 w57 hS58 hC59 hA60
    have hA61 : St 26 [(0, va), (1, vb), (5, (.int .i64 ((j19 : Nat) : Int))), (25, (.bool false))] a56 := hA60.cut _ (fc (hA60.get 0 _ rfl) (fc (hA60.get 1 _ rfl) (fc (hA60.get 5 _ rfl) (fc ((hA60.get 25 _ rfl).trans (hC59 8 (Nat.le_of_ble_eq_true rfl))) fn_))))
    have b62 := hS58.below b24 b24.size hM54B
    have hr63 := range_sm hr42 hS58 (Nat.lt_of_lt_of_le lt41 b24.size) (hM54B _ lt41)
    have hr64 := range_sm hr49 hS58 (Nat.lt_of_lt_of_le lt48 b24.size) (hM54B _ lt48)
    refine tn_ ?_
    refine c_false hA61 rfl ?_
    refine wp_skip ?_
    refine i_norm ?_
    refine tn_ ?_
    refine wp_region_lit ?_
    refine qs hA61 rfl (dmv (wn rfl) (hA61.ev rfl) ?_)
    intro a65 hA66
    refine qs hA66 rfl (dbn (wn rfl) (hA66.ev rfl) (hA66.ev rfl) (b_add _ _ ((j19 : Nat) : Int) 1 _ (by omega) (by omega)) ?_)
    intro a67 hA68
    refine qs hA68 rfl (das (wn rfl) (hA68.ev rfl) ?_)
    intro a69 hA70
    refine qe_ ?_
    refine tn_ ?_
    exact ⟨l.length - (j19 + 1), (by rw [hm25]; omega), j19 + 1, rfl, ⟨by have := get_lt hy38; omega, take_more hc26.2 hy38 hy45 (eq_of_beq hb51)⟩, hA70.cut _ (fc (hA70.get 0 _ rfl) (fc (hA70.get 1 _ rfl) (fc ((hA70.get 5 _ rfl).trans (congrArg (Value.int .i64) (by omega))) fn_))), b62⟩
   have hq71 := ne_of_beq hb51
   have hA72 : St 26 [(0, va), (1, vb), (5, (.int .i64 ((j19 : Nat) : Int)))] a35 := hA36.sub rfl
   let M73 : Nat → Option (Array Value) := fun _ => none
   have hM73 : M73 = fun _ => none := rfl
   clear_value M73
   have hM73B : ∀ k, k < w.heap.size → M73 k = none := (fun k hk => (congrFun hM73 k))
   refine drawn (S := SM M73) (tabL [cv va, cv (.int .i64 ((j19 : Nat) : Int)), cv (.pointer (some ⟨b39, o40, none⟩)), cv (.int .i64 y37), cv vb, cv (.int .i64 ((j19 : Nat) : Int)), cv (.pointer (some ⟨b46, o47, none⟩)), cv (.int .i64 y44), cv (.bool true)]) mixedY SM.refl SM.trans SM.drew hA72 (by kernel_rfl) ?_ ?_
   ·skip
    refine ec_ (fun x y hS hT hk => dmv (wn rfl) (hT.ev rfl) ⟨SM.refl _, rfl⟩) ?_
    refine ec_ (fun x y hS hT hk => dmv (wn rfl) (hT.ev rfl) ⟨SM.refl _, rfl⟩) ?_
    refine ec_ (fun x y hS hT hk => dia (j := j19) (wn rfl) (hk 0 rfl) (hk 1 rfl) slc30 hix43 (get_lt hy38) ⟨SM.refl _, rfl⟩) ?_
    refine ec_ (fun x y hS hT hk => dld (v := (.int .i64 y37)) (wn rfl) (hk 2 rfl) one3 ((range_sm (w := w22.drew) hr42 hS (Nat.lt_of_lt_of_le lt41 b24.size) (hM73B _ lt41)) 0 _ rfl) ⟨SM.refl _, rfl⟩) ?_
    refine ec_ (fun x y hS hT hk => dmv (wn rfl) (hT.ev rfl) ⟨SM.refl _, rfl⟩) ?_
    refine ec_ (fun x y hS hT hk => dmv (wn rfl) (hT.ev rfl) ⟨SM.refl _, rfl⟩) ?_
    refine ec_ (fun x y hS hT hk => dia (j := j19) (wn rfl) (hk 4 rfl) (hk 5 rfl) slc30 hix50 (get_lt hy45) ⟨SM.refl _, rfl⟩) ?_
    refine ec_ (fun x y hS hT hk => dld (v := (.int .i64 y44)) (wn rfl) (hk 6 rfl) one3 ((range_sm (w := w22.drew) hr49 hS (Nat.lt_of_lt_of_le lt48 b24.size) (hM73B _ lt48)) 0 _ rfl) ⟨SM.refl _, rfl⟩) ?_
    refine ec_ (fun x y hS hT hk => dbn (wn rfl) (hk 3 rfl) (hk 7 rfl) (b_ne _ _ y37 y44 true _ (notof hb51)) ⟨SM.refl _, rfl⟩) ?_
    exact each_nil
   intro f74 a75 w76 hS77 hC78 hA79
   have hA80 : St 26 [(0, va), (1, vb), (5, (.int .i64 ((j19 : Nat) : Int))), (25, (.bool true))] a75 := hA79.cut _ (fc (hA79.get 0 _ rfl) (fc (hA79.get 1 _ rfl) (fc (hA79.get 5 _ rfl) (fc ((hA79.get 25 _ rfl).trans (hC78 8 (Nat.le_of_ble_eq_true rfl))) fn_))))
   have b81 := hS77.below b24 b24.size hM73B
   have hr82 := range_sm hr42 hS77 (Nat.lt_of_lt_of_le lt41 b24.size) (hM73B _ lt41)
   have hr83 := range_sm hr49 hS77 (Nat.lt_of_lt_of_le lt48 b24.size) (hM73B _ lt48)
   refine tn_ ?_
   refine c_true hA80 rfl ?_
   refine wp_seq ?_
   refine wp_region_lit ?_
   refine qs hA80 rfl (das (wn rfl) (hA80.ev rfl) ?_)
   intro a84 hA85
   refine qe_ ?_
   refine tn_ ?_
   refine wp_ret ?_
   refine i_ret ?_
   refine t_ret ?_
   refine t_ret ?_
   refine i_ret ?_
   refine t_ret ?_
   refine ret1 rfl hA85 (v := (.bool false)) rfl ?_
   exact ⟨ret_bool (eq_no_at hy38 hy45 (ne_of_beq hb51)).symm, b81⟩
  have hq86 := of_decide_eq_false hb33
  refine qs hA32 rfl (dbn (wn rfl) (hA32.ev rfl) (hA32.ev rfl) (b_lt _ _ ((j19 : Nat) : Int) ((l.length : Nat) : Int) false _ hb33) ?_)
  intro a87 hA88
  refine qe_ ?_
  refine tn_ ?_
  refine c_false hA88 rfl ?_
  refine wp_exit ?_
  refine t_exit ?_
  refine t_exit ?_
  refine i_here ?_
  refine tn_ ?_
  refine wp_seq ?_
  refine wp_region_lit ?_
  refine qs hA88 rfl (das (wn rfl) (hA88.ev rfl) ?_)
  intro a89 hA90
  refine qe_ ?_
  refine tn_ ?_
  refine wp_ret ?_
  refine ret1 rfl hA90 (v := (.bool true)) rfl ?_
  exact ⟨ret_bool (by rw [eq_comm, decide_eq_true_iff]; exact take_all hc26.2 (by omega) (by omega)), b24⟩
 have hq91 := ne_of_beq hb13
 refine qs hA12 rfl (dbn (wn rfl) (hA12.ev rfl) (hA12.ev rfl) (b_ne _ _ ((l.length : Nat) : Int) ((m.length : Nat) : Int) true _ (notof hb13)) ?_)
 intro a92 hA93
 refine qe_ ?_
 refine tn_ ?_
 refine c_true hA93 rfl ?_
 refine wp_seq ?_
 refine wp_region_lit ?_
 refine qs hA93 rfl (das (wn rfl) (hA93.ev rfl) ?_)
 intro a94 hA95
 refine qe_ ?_
 refine tn_ ?_
 refine wp_ret ?_
 refine t_ret ?_
 refine ret1 rfl hA95 (v := (.bool false)) rfl ?_
 exact ⟨ret_bool (eq_no_len (ne_of_beq hb13)).symm, b0⟩
end Go.Proofs.Ytlhompedcphnnaa
/- Arrays by value, by parts and by index; the registers that an instruction uses. -/
namespace Go.Proofs.Ytlhompedcphnnaa
open Go.RowKit

section
variable {P : Program} {ops : Array Oper} {a : Act} {w : World} {K : Value → World → Prop} {d : Option Tmp} {ty : TypeId} {pos : String} {af : Array Edge} {gd : Option (Nat × Bool)} {v : Value}
theorem d_buildArr {t n e s m : Nat} {parts : Array (Nat × Operand)} {vs : List (Nat × Value)} {z : Value} {cs : Array Value} (hw : Region.wanted { dst := d, op := .build t parts, type := ty, pos := pos, after := af, guard := gd } (yielded ops a.tmps) = true)
    (hx : (parts.map fun x => (x.1, a.eval x.2)).toList = vs) (ht : arrB P t n e s = true) (hi : (P.info? t).map (fun i => (i.zero, i.size)) = some (some z, m)) (hf : Instr.fill (fun i => some (i * s, s)) z.cells vs = some cs) (h : K (.agg cs) w) :
    Does P ops { dst := d, op := .build t parts, type := ty, pos := pos, after := af, guard := gd } a w K :=
  does_val hw (by
    have hz := (zero_of_info hi).1 w
    have hf' : Instr.fill (fun i => some (i * s, s)) z.cells (parts.map fun x => (x.1, a.eval x.2)).toList = some cs := by rw [hx]; exact hf
    unfold execOp
    simp only [Sem.run_bind, Instr.build, hz, Result.andThen_ok, run_underlying (arr_facts ht).1, run_size (arr_facts ht).2, hf', Sem.run_pure]) h
theorem d_indexV {t n e j : Nat} {x ix : Operand} {cs : Array Value} (hw : Region.wanted { dst := d, op := .index t x ix, type := ty, pos := pos, after := af, guard := gd } (yielded ops a.tmps) = true) (hx : a.eval x = .agg cs) (hi : a.eval ix = .int .i64 (j : Int)) (ht : arrB P t n e 1 = true) (h1 : oneB P e = true) (hj : j < n) (hv : cs[j]? = some v) (h : K v w) :
    Does P ops { dst := d, op := .index t x ix, type := ty, pos := pos, after := af, guard := gd } a w K :=
  does_val hw (by
    have hc : (0 : Int) ≤ (j : Int) ∧ (j : Int) < ((n : Nat) : Int) := ⟨by omega, by omega⟩
    have h2 := part_one (P := P) (t := e) (cs := cs) (o := j * 1) w (agg_no h1 w) (by rw [Nat.mul_one]; exact hv)
    have h3 : (Instr.index t (.agg cs) (.int .i64 (j : Int))).run P w = .ok v w := by
      unfold Instr.index
      simp only [asIntOf, Sem.run_bind, Sem.run_pure, Result.andThen_ok, run_underlying (arr_facts ht).1, if_pos hc, run_size (arr_facts ht).2, Int.toNat_natCast]
      exact h2
    unfold execOp
    simp only [hx, hi, Sem.run_bind, h3, Result.andThen_ok, Sem.run_pure]) h
end
def useX (i : Ins) : List Int := [(plainF i).a, (plainF i).b, (plainF i).index]
def useL (l : List Int) (j : Nat) : List Int := (l.take j).filter fun x => !(x == -1)
def useF (i : Ins) : List Int := (useX i).filter fun x => !(x == -1)
theorem use_yes {l : List Int} {j : Nat} {y : Int} (h : l[j]? = some y) (hy : (y == -1) = false) : useL l (j + 1) = useL l j ++ [y] := by
  unfold useL; rw [List.take_add_one, h, List.filter_append]; simp [hy]
theorem use_no {l : List Int} {j : Nat} {y : Int} (h : l[j]? = some y) (hy : (y == -1) = true) : useL l (j + 1) = useL l j := by
  unfold useL; rw [List.take_add_one, h, List.filter_append]; simp [hy]
theorem arr_of {l : List Int} {j : Nat} {y : Int} (h : l[j]? = some y) : ((l.map (Value.int .i64)).toArray)[j]? = some (.int .i64 y) := by simp [h]
theorem use_len (l : List Int) (j : Nat) : (useL l j).length ≤ l.length := by
  unfold useL
  have := List.length_filter_le (fun x : Int => !(x == -1)) (l.take j)
  simp at this ⊢; omega
end Go.Proofs.Ytlhompedcphnnaa
/- What runs keep: places rise, each event lies at its place of the path, reads are used once; a register that no instruction uses turns nothing. -/
namespace Go.Proofs.Ytlhompedcphnnaa
open Go.RowKit
set_option linter.unusedSimpArgs false

theorem step_ev {s s' : Wk} {i : Ins} (h : stepW s i = some s') :
    (s'.evs = s.evs ∧ s'.rds = s.rds) ∨ ∃ e : Ev, s'.evs = s.evs ++ [e] ∧ e.pos = ((s.path.length : Nat) : Int) ∧ e.at_ = s.p ∧ e.op = i.op ∧ e.reads = rdB i ∧ e.writes = wrB i ∧ s'.rds.length + (if e.reads = true then 1 else 0) = s.rds.length := by
  unfold stepW at h
  split at h
  · cases h; exact .inl ⟨rfl, rfl⟩
  split at h
  · cases h; exact .inl ⟨rfl, rfl⟩
  split at h
  · cases h; exact .inl ⟨rfl, rfl⟩
  split at h
  · rename_i h4
    split at h
    · cases h
    · rename_i u rl hl
      cases h
      exact .inr ⟨_, rfl, rfl, rfl, h4.symm, by simp [acc4, rdB, h4], by simp [acc4, wrB, h4], by simp [acc4, hl]⟩
  split at h
  · rename_i h5
    cases h
    exact .inr ⟨_, rfl, rfl, rfl, h5.symm, by simp [acc5, rdB, h5], by simp [acc5, wrB, h5], by simp [acc5, nextW]⟩
  split at h
  · rename_i h6
    split at h
    · cases h
    · rename_i u rl hl
      cases h
      exact .inr ⟨_, rfl, rfl, rfl, h6.symm, by simp [acc6, rdB, h6], by simp [acc6, wrB, h6], by simp [acc6, hl]⟩
  split at h
  · cases h; exact .inl ⟨rfl, rfl⟩
  · rename_i h1 h2 h3 h4 h5 h6 h9
    cases h
    exact .inr ⟨_, rfl, rfl, rfl, rfl, rfl, rfl, by simp [ev0, rdB, h4, h6, nextW]⟩
theorem snoc_at {α : Type} {l : List α} {x y : α} {i : Nat} (h : (l ++ [x])[i]? = some y) : l[i]? = some y ∨ (i = l.length ∧ y = x) := by
  by_cases hi : i < l.length
  · rw [List.getElem?_append_left hi] at h; exact .inl h
  · have hlt := (List.getElem?_eq_some_iff.1 h).1
    simp at hlt
    have : i = l.length := by omega
    subst this
    simp at h
    exact .inr ⟨rfl, h.symm⟩
structure Good (code : List Ins) (n0 : Nat) (s : Wk) : Prop where
  p0 : 0 ≤ s.p
  p1 : s.p ≤ (code.length : Int)
  wf : ∀ k, wfI (s.r k)
  len : ((s.path.length : Nat) : Int) ≤ s.p
  pa : ∀ (i : Nat) x, s.path[i]? = some x → 0 ≤ x ∧ x < s.p
  pz : ∀ x, s.path[0]? = some x → x = 0
  ps : s.path = [] → s.p = 0
  pr : ∀ (i : Nat) x y, s.path[i]? = some x → s.path[i + 1]? = some y → x < y
  ev : ∀ (i : Nat) e, s.evs[i]? = some e → ∃ k : Nat, e.pos = (k : Int) ∧ s.path[k]? = some e.at_ ∧ ∃ c, code[e.at_.toNat]? = some c ∧ c.op = e.op ∧ e.reads = rdB c ∧ e.writes = wrB c
  er : ∀ (i : Nat) e f, s.evs[i]? = some e → s.evs[i + 1]? = some f → e.pos < f.pos
  rd : s.evs.countP (fun e => e.reads) + s.rds.length = n0
theorem good_step {code : List Ins} {n0 : Nat} {s s' : Wk} {i : Ins} (g : Good code n0 s) (hi : code[s.p.toNat]? = some i) (hr : rightR i s.p (code.length : Int) = 0) (hw : wfI i.imm) (h : stepW s i = some s') : Good code n0 s' := by
  have hlt : s.p < (code.length : Int) := by have := get_lt hi; have := g.p0; omega
  obtain ⟨f1, f2, f3, f4, _, _⟩ := step_facts hr hlt g.wf hw h
  have hpk : ∀ (k : Nat) x, s.path[k]? = some x → s'.path[k]? = some x := fun k x hk => by
    rw [f4, List.getElem?_append_left (get_lt hk)]; exact hk
  have hev : ∀ (k : Nat) e, s.evs[k]? = some e → ∃ k : Nat, e.pos = (k : Int) ∧ s'.path[k]? = some e.at_ ∧ ∃ c, code[e.at_.toNat]? = some c ∧ c.op = e.op ∧ e.reads = rdB c ∧ e.writes = wrB c := fun k e hk => by
    obtain ⟨q, h1, h2, h3⟩ := g.ev k e hk
    exact ⟨q, h1, hpk _ _ h2, h3⟩
  refine ⟨by have := g.p0; omega, f2, f3, ?_, ?_, ?_, ?_, ?_, ?_, ?_, ?_⟩
  · rw [f4, List.length_append]; have := g.len; simp; omega
  · intro k x hk
    rw [f4] at hk
    rcases snoc_at hk with h1 | ⟨_, rfl⟩
    · have := g.pa k x h1; omega
    · exact ⟨g.p0, f1⟩
  · intro x hk
    rw [f4] at hk
    rcases snoc_at hk with h1 | ⟨h0, rfl⟩
    · exact g.pz x h1
    · exact g.ps (List.eq_nil_of_length_eq_zero h0.symm)
  · intro h0; rw [f4] at h0; simp at h0
  · intro k x y hx hy
    rw [f4] at hx hy
    rcases snoc_at hy with h1 | ⟨hk, rfl⟩
    · have hk := get_lt h1
      rw [List.getElem?_append_left (by omega)] at hx
      exact g.pr k x y hx h1
    · rw [List.getElem?_append_left (by omega)] at hx
      exact (g.pa k x hx).2
  · intro k e hk
    rcases step_ev h with ⟨h1, _⟩ | ⟨e', h1, h2, h3, h4, h5, h6, _⟩
    · rw [h1] at hk; exact hev k e hk
    · rw [h1] at hk
      rcases snoc_at hk with h7 | ⟨_, rfl⟩
      · exact hev k e h7
      · refine ⟨s.path.length, h2, ?_, i, ?_, h4.symm, h5, h6⟩
        · rw [f4, h3]; simp
        · rw [h3]; exact hi
  · intro k e f hk hk2
    rcases step_ev h with ⟨h1, _⟩ | ⟨e', h1, h2, h3, h4, h5, h6, _⟩
    · rw [h1] at hk hk2; exact g.er k e f hk hk2
    · rw [h1] at hk hk2
      rcases snoc_at hk2 with h7 | ⟨h8, rfl⟩
      · have := get_lt h7
        rw [List.getElem?_append_left (by omega)] at hk
        exact g.er k e f hk h7
      · rw [List.getElem?_append_left (by omega)] at hk
        obtain ⟨q, q1, q2, _⟩ := g.ev k e hk
        have := get_lt q2
        rw [q1, h2]; omega
  · rcases step_ev h with ⟨h1, h2⟩ | ⟨e', h1, h2, h3, h4, h5, h6, h7⟩
    · rw [h1, h2]; exact g.rd
    · rw [h1, List.countP_append, List.countP_cons, List.countP_nil]
      have := g.rd
      split at h7 <;> simp_all <;> omega
theorem run_good {code : List Ins} {n0 : Nat} (hc : ∀ (k : Nat) i, code[k]? = some i → rightR i (k : Int) (code.length : Int) = 0) (hw : ∀ i ∈ code, wfI i.imm ∧ wfI i.off) : ∀ (f : Nat) (s s' : Wk), Good code n0 s → runW code f s = some s' → Good code n0 s'
  | 0, s, s', g, h => by cases h; exact g
  | f + 1, s, s', g, h => by
    rw [runW] at h
    split at h
    · cases h; exact g
    · rename_i i hi
      split at h
      · cases h
      · rename_i s2 h2
        have hp : ((s.p.toNat : Nat) : Int) = s.p := Int.toNat_of_nonneg g.p0
        exact run_good hc hw f s2 s' (good_step g hi (by have := hc _ _ hi; rwa [hp] at this) (hw i (List.mem_of_getElem? hi)).1 h2) h
theorem good0 (code : List Ins) (r0 : Nat → Int) (rds : List Int) (hr : ∀ k, wfI (r0 k)) : Good code rds.length ⟨((0 : Nat) : Int), r0, rds, [], []⟩ :=
  ⟨by simp, by simp, hr, by simp, by simp, by simp, by simp, by simp, by simp, by simp, by simp⟩
theorem local_good {code : List Ins} {r0 : Nat → Int} {rds : List Int} {s : Wk} (h0 : (checkR [code]).2.2 = 0) (hr : ∀ k, wfI (r0 k)) (hw : ∀ i ∈ code, wfI i.imm ∧ wfI i.off) (h : runW code code.length ⟨((0 : Nat) : Int), r0, rds, [], []⟩ = some s) : Good code rds.length s :=
  run_good (check_one h0).2 hw _ _ _ (good0 code r0 rds hr) h

/-- two runs under way that differ in one register at most -/
structure Same (q : Nat) (s t : Wk) : Prop where
  p : s.p = t.p
  rds : s.rds = t.rds
  evs : s.evs = t.evs
  path : s.path = t.path
  r : ∀ k, k ≠ q → s.r k = t.r k
theorem plain_of {i : Ins} {p n : Int} (h : rightR i p n = 0) : i = plainF i := by
  unfold rightR at h
  split at h
  · rename_i h1; simp [insEq] at h1; exact h1.1
  · cases h
theorem not_used {i : Ins} {q : Nat} (h : ∀ z ∈ useF i, z ≠ (q : Int)) : (plainF i).a ≠ q ∧ (plainF i).b ≠ q ∧ (plainF i).index ≠ q := by
  unfold useF useX at h
  have key : ∀ z, z ∈ [(plainF i).a, (plainF i).b, (plainF i).index] → z ≠ (q : Int) := fun z hz => by
    by_cases h1 : z = -1
    · omega
    · exact h z (List.mem_filter.2 ⟨hz, by simp [h1]⟩)
  exact ⟨key _ (by simp), key _ (by simp), key _ (by simp)⟩
theorem or_same {q : Nat} {s t : Nat → Int} {z x : Int} (h : ∀ k, k ≠ q → s k = t k) (hz : z ≠ (q : Int)) (hr : ronB z = true) : orR s z x = orR t z x := by
  unfold orR
  split
  · rfl
  · rename_i h1
    refine h _ ?_
    unfold ronB regB at hr
    simp at hr h1
    omega
theorem r_same {q : Nat} {s t : Nat → Int} {z : Int} (h : ∀ k, k ≠ q → s k = t k) (hz : z ≠ (q : Int)) (hr : regB z = true) : s z.toNat = t z.toNat := by
  refine h _ ?_
  unfold regB at hr
  simp at hr
  omega
theorem upd_same {q d : Nat} {s t : Nat → Int} {x : Int} (h : ∀ k, k ≠ q → s k = t k) : ∀ k, k ≠ q → updR s d x k = updR t d x k := fun k hk => by
  unfold updR; split
  · rfl
  · exact h k hk
def Twin (q : Nat) (g : Bool) (s t : Wk) : Option Wk → Option Wk → Prop
  | none, none => True
  | some s', some t' => Same q s' t' ∧ (g = true → s'.r q = s.r q ∧ t'.r q = t.r q)
  | _, _ => False
set_option maxHeartbeats 1000000 in
theorem step_same {q : Nat} {s t : Wk} {i : Ins} {p n : Int} (hr : rightR i p n = 0) (hu : ∀ z ∈ useF i, z ≠ (q : Int)) (h : Same q s t) : Twin q (!(givesF i == (q : Int))) s t (stepW s i) (stepW t i) := by
  obtain ⟨hs, _⟩ := right_yes hr
  have hp := plain_of hr
  obtain ⟨ua, ub, ui⟩ := not_used hu
  unfold givesF
  rw [← hp] at ua ub ui ⊢
  obtain ⟨sp, sr, srd, sev, spa⟩ := s
  obtain ⟨tp, tr, trd, tev, tpa⟩ := t
  obtain ⟨rfl, rfl, rfl, rfl, hreg⟩ := h
  simp only at hreg
  have keep : ∀ (d : Int) (x y : Int), regB d = true → (!(d == (q : Int))) = true → updR sr d.toNat x q = sr q ∧ updR tr d.toNat y q = tr q := fun d x y hd hg => by
    unfold regB at hd
    simp at hd hg
    unfold updR
    have : ¬ q = d.toNat := by omega
    simp [this]
  have spanE : i.op = 4 ∨ i.op = 5 ∨ i.op = 6 → accB i = true → spanM i sr = spanM i tr := fun _ ha => by
    unfold spanM; rw [or_same hreg ui (acc_parts ha)]
  unfold stepW
  by_cases h1 : i.op = 1
  · simp only [h1, if_true]
    have hd : regB i.dst = true := by simpa [soundB, h1] using hs
    exact ⟨⟨rfl, rfl, rfl, rfl, upd_same hreg⟩, fun hg => keep _ _ _ hd hg⟩
  by_cases h2 : i.op = 2
  · have hd : regB i.dst = true ∧ regB i.a = true := by simpa [soundB, h2] using hs
    simp only [h1, h2, if_true, if_false, r_same hreg ua hd.2]
    exact ⟨⟨rfl, rfl, rfl, rfl, upd_same hreg⟩, fun hg => keep _ _ _ hd.1 hg⟩
  by_cases h3 : i.op = 3
  · have hd := hs
    simp [soundB, h3] at hd
    simp only [h1, h2, h3, if_true, if_false, r_same hreg ua hd.1.1.1.2, or_same hreg ub hd.1.1.2]
    exact ⟨⟨rfl, rfl, rfl, rfl, upd_same hreg⟩, fun hg => keep _ _ _ hd.1.1.1.1 hg⟩
  by_cases h4 : i.op = 4
  · have hd := hs
    simp [soundB, h4] at hd
    simp only [h1, h2, h3, h4, if_true, if_false]
    cases srd with
    | nil => trivial
    | cons u rl =>
      refine ⟨⟨rfl, rfl, ?_, rfl, upd_same hreg⟩, fun hg => keep _ _ _ hd.1.1 hg⟩
      simp only [acc4, spanE (.inl h4) hd.1.2]
  by_cases h5 : i.op = 5
  · have hd : ronB i.a = true ∧ accB i = true := by simpa [soundB, h5] using hs
    simp only [h1, h2, h3, h4, h5, if_true, if_false]
    refine ⟨⟨rfl, rfl, ?_, rfl, hreg⟩, fun _ => ⟨rfl, rfl⟩⟩
    simp only [acc5, spanE (.inr (.inl h5)) hd.2, or_same hreg ua hd.1]
  by_cases h6 : i.op = 6
  · have hd := hs
    simp [soundB, h6] at hd
    simp only [h1, h2, h3, h4, h5, h6, if_true, if_false]
    cases srd with
    | nil => trivial
    | cons u rl =>
      refine ⟨⟨rfl, rfl, ?_, rfl, upd_same hreg⟩, fun hg => keep _ _ _ hd.1.1.1 hg⟩
      simp only [acc6, spanE (.inr (.inr h6)) hd.1.2, r_same hreg ua hd.1.1.2]
  by_cases h9 : i.op = 9
  · have hd : regB i.a = true := by simpa [soundB, h9] using hs
    simp only [h1, h2, h3, h4, h5, h6, h9, if_true, if_false]
    refine ⟨⟨?_, rfl, rfl, rfl, hreg⟩, fun _ => ⟨rfl, rfl⟩⟩
    simp only [brP, r_same hreg ua hd]
  simp only [h1, h2, h3, h4, h5, h6, h9, if_false]
  exact ⟨⟨rfl, rfl, rfl, rfl, hreg⟩, fun _ => ⟨rfl, rfl⟩⟩
theorem run_same {code : List Ins} {q : Nat} {g : Bool} (hc : ∀ (k : Nat) i, code[k]? = some i → rightR i (k : Int) (code.length : Int) = 0) (hu : ∀ i ∈ code, ∀ z ∈ useF i, z ≠ (q : Int)) (hg : g = true → ∀ i ∈ code, givesF i ≠ (q : Int)) :
    ∀ (f : Nat) (s t : Wk), Same q s t → Twin q g s t (runW code f s) (runW code f t)
  | 0, s, t, h => ⟨h, fun _ => ⟨rfl, rfl⟩⟩
  | f + 1, s, t, h => by
    rw [runW, runW, ← h.p]
    cases hi : code[s.p.toNat]? with
    | none => exact ⟨h, fun _ => ⟨rfl, rfl⟩⟩
    | some i =>
      have hm := List.mem_of_getElem? hi
      have hs := step_same (hc _ _ hi) (hu i hm) h
      simp only
      revert hs
      rcases hsi : stepW s i with _ | s' <;> rcases hti : stepW t i with _ | t' <;> intro hs
      · trivial
      · exact hs.elim
      · exact hs.elim
      have ih := run_same hc hu hg f s' t' hs.1
      simp only
      revert ih
      rcases hsr : runW code f s' with _ | s2 <;> rcases htr : runW code f t' with _ | t2 <;> intro ih
      · trivial
      · exact ih.elim
      · exact ih.elim
      refine ⟨ih.1, fun hgt => ?_⟩
      have h1 := ih.2 hgt
      have h2 := hs.2 (by have := hg hgt i hm; simpa using this)
      exact ⟨h1.1.trans h2.1, h1.2.trans h2.2⟩
end Go.Proofs.Ytlhompedcphnnaa
/- Regions that draw their order in which a block is made and filled: one claim on another operation's value; copies of slices by append. -/
namespace Go.Proofs.Ytlhompedcphnnaa
open Go.RowKit

theorem does_mono {P : Program} {ops : Array Oper} {o : Oper} {a : Act} {w : World} {K K' : Value → World → Prop} (h : Does P ops o a w K) (hK : ∀ v w, K v w → K' v w) : Does P ops o a w K' := by
  rcases h with ⟨h1, h2⟩ | ⟨h1, h2⟩
  · refine .inl ⟨h1, fun Q => Oper.wp_mono (fun a' w' hh => ?_) (h2 Q)⟩
    obtain ⟨v, e, k⟩ := hh
    exact ⟨v, e, hK v w' k⟩
  · exact .inr ⟨h1, hK _ _ h2⟩
/-- what is owed for operation i, where pi's doing makes a claim on pj's value -/
def OblP (P : Program) (ops : Array Oper) (S : World → World → Prop) (n : Nat) (T : List (Nat × Value)) (tab : Nat → Cl S) (pi pj : Nat) (pc : Cl S) (w : World) (i : Nat) (o : Oper) : Prop :=
  ∀ a' w', S w w' → St n T a' → (∀ j, waits o j = true → (tab j).P (valOf ops a' j) w') → Does P ops o a' w' fun v w'' => S w' w'' ∧ (tab i).P (seenV o v) w'' ∧ (i = pi → pc.P (valOf ops a' pj) w'')
section
variable {P : Program} {l : List Oper} {Q : Exit → Act → World → Prop} {S : World → World → Prop} {n : Nat} {T : List (Nat × Value)} {w : World}
theorem drawn_anyP (tab : Nat → Cl S) (pi pj : Nat) (pc : Cl S) (hpi : pi < l.length) (hpw : ∀ o, l[pi]? = some o → waits o pj = true) (htrans : ∀ a b c, S a b → S b c → S a c) (hfit : fitB l.toArray n T = true)
    (hop : ∀ i o, l[i]? = some o → OblP P l.toArray S n T tab pi pj pc w i o)
    (hend : ∀ f a' w', S w w' → (∀ i, i < l.length → (tab i).P (f i) w') → pc.P (f pj) w' → St n (puts l f 0 ++ T) a' → Q .normal a' w') :
    ∀ (fuel : Nat) (listed : Array Bool) (a' : Act) (w' : World), listed.size = l.length → ((List.range l.length).filter fun i => !listed.getD i true).length ≤ fuel → S w w' → St n T a' →
      (∀ i, i < l.length → listed.getD i false = true → (tab i).P (valOf l.toArray a' i) w') → (listed.getD pi false = true → listed.getD pj false = true ∧ pc.P (valOf l.toArray a' pj) w') → wpAny P .any l.toArray Q fuel listed a' w' := by
  have last : ∀ (listed : Array Bool) (a' : Act) (w' : World), listed.size = l.length → Region.ready .any l.toArray listed = [] → S w w' → St n T a' →
      (∀ i, i < l.length → listed.getD i false = true → (tab i).P (valOf l.toArray a' i) w') → (listed.getD pi false = true → listed.getD pj false = true ∧ pc.P (valOf l.toArray a' pj) w') → Q .normal a' w' := by
    intro listed a' w' hls hr hS hT hin hlk
    have all : ∀ i, i < l.length → listed.getD i false = true := by
      intro i
      induction i using Nat.strongRecOn with
      | _ i ih =>
        intro hi
        cases hl : listed.getD i false with
        | true => rfl
        | false =>
          exfalso
          have : i ∈ Region.ready .any l.toArray listed := by
            rw [mem_ready]
            have hli : i < listed.size := by omega
            have hoi : l.toArray[i]? = some l[i] := by simp [hi]
            refine ⟨by simpa [hli] using hl, l[i], hoi, fun e he hb => ?_⟩
            have hlt := (fit_spec hfit hoi).2 e he hb
            exact ih e.on hlt (by omega)
          rw [hr] at this; cases this
    refine hend (valOf l.toArray a') a' w' hS (fun i hi => hin i hi (all i hi)) (hlk (all pi hpi)).2 ⟨hT.size, hT.defers, fun t v hv => ?_⟩
    rcases puts_look (valOf l.toArray a') T l 0 hv with ⟨i, o, h1, h2, h3⟩ | h
    · have hd : dstOf l.toArray i = some t := by simp [dstOf, h1, h2]
      rw [h3, Nat.zero_add]; unfold valOf; rw [hd]
    · exact hT.get t v h
  intro fuel
  induction fuel with
  | zero =>
    intro listed a' w' hls hf hS hT hin hlk
    have hr : Region.ready .any l.toArray listed = [] := by
      unfold Region.ready
      rw [List.filter_eq_nil_iff]
      intro i hi
      have hnil : ((List.range l.length).filter fun i => !listed.getD i true) = [] := List.eq_nil_of_length_eq_zero (by omega)
      rw [List.filter_eq_nil_iff] at hnil
      have := hnil i (by simpa using hi)
      simp only [Bool.not_eq_true, Bool.not_eq_false'] at this
      simp [this]
    exact ⟨hr, last listed a' w' hls hr hS hT hin hlk⟩
  | succ fuel ih =>
    intro listed a' w' hls hf hS hT hin hlk
    refine ⟨fun hr => last listed a' w' hls hr hS hT hin hlk, fun i hi => ?_⟩
    obtain ⟨hun, o, hoi, hall⟩ := mem_ready.1 hi
    have hil : i < l.length := by have := (Array.getElem?_eq_some_iff.1 hoi).1; simpa using this
    have hoi' : l[i]? = some o := by simpa using hoi
    obtain ⟨hfd, hfe⟩ := fit_spec hfit hoi
    have hk0 : ∀ j, waits o j = true → j < i ∧ listed.getD j false = true := fun j hj => by
      unfold waits at hj
      rw [List.any_eq_true] at hj
      obtain ⟨e, he', hb⟩ := hj
      have he : e ∈ o.after := by simpa using he'
      simp only [Bool.and_eq_true, beq_iff_eq] at hb
      have := hfe e he hb.1
      rw [← hb.2]
      exact ⟨by omega, hall e he hb.1⟩
    have hk : ∀ j, waits o j = true → (tab j).P (valOf l.toArray a' j) w' := fun j hj => hin j (by have := (hk0 j hj).1; omega) (hk0 j hj).2
    have hunf : listed.getD i false = false := by
      have hli : i < listed.size := by omega
      simpa [Array.getD_eq_getD_getElem?, hli] using hun
    have same : ∀ (v : Value) (j : Nat), j < l.length → j ≠ i → valOf l.toArray (a'.put o.dst v) j = valOf l.toArray a' j := fun v j hj hji => by
      unfold valOf
      cases hdj : dstOf l.toArray j with
      | none => rfl
      | some d' =>
        cases hd : o.dst with
        | none => rfl
        | some d =>
          have hne : d ≠ d' := fun e => by subst e; exact hji ((hfd d hd).2.1 j (by simpa using hj) hdj)
          simp [Act.put, Array.getD_eq_getD_getElem?, Array.getElem?_setIfInBounds_ne hne]
    have go : ∀ (v : Value) (w2 : World), S w' w2 → (tab i).P (seenV o v) w2 → (i = pi → pc.P (valOf l.toArray a' pj) w2) → wpAny P .any l.toArray Q fuel (listed.setIfInBounds i true) (a'.put o.dst v) w2 := by
      intro v w2 hS2 hv hpc
      have hT2 : St n T (a'.put o.dst v) := by
        cases hd : o.dst with
        | none => exact hT
        | some d =>
          obtain ⟨hdn, _, hTd⟩ := hfd d hd
          have hp := hT.put hdn v
          refine ⟨hp.size, hp.defers, fun t u hu => hp.get t u ?_⟩
          have hne : t ≠ d := hTd (t, u) (lookup_mem hu)
          rw [List.lookup_cons]
          have : (t == d) = false := by simpa using hne
          simp only [this]; exact hu
      refine ih _ _ _ (by simpa using hls) ?_ (htrans _ _ _ hS hS2) hT2 (fun j hj hlj => ?_) (fun hlp => ?_)
      · have hlt : i < listed.size := by omega
        have : ((List.range l.length).filter fun k => !(listed.setIfInBounds i true).getD k true).length < ((List.range l.length).filter fun k => !listed.getD k true).length := by
          have hsub : ((List.range l.length).filter fun k => !(listed.setIfInBounds i true).getD k true) = ((List.range l.length).filter fun k => !listed.getD k true).filter (fun k => k != i) := by
            rw [List.filter_filter]
            apply List.filter_congr
            intro k _
            by_cases hk : k = i
            · subst hk; simp [hlt]
            · rw [set_ne true (Ne.symm hk)]; simp [hk]
          rw [hsub]
          refine List.length_filter_lt_length_iff_exists.2 ⟨i, ?_, by simp⟩
          simp only [List.mem_filter, List.mem_range]
          exact ⟨hil, by rw [hun]; rfl⟩
        omega
      · by_cases hji : j = i
        · subst hji
          have : valOf l.toArray (a'.put o.dst v) j = seenV o v := by
            cases hd : o.dst with
            | none =>
              have hdi : dstOf l.toArray j = none := by simp [dstOf, hoi', hd]
              unfold valOf seenV; rw [hdi, hd]
            | some d =>
              have hdi : dstOf l.toArray j = some d := by simp [dstOf, hoi', hd]
              have hdl : d < a'.tmps.size := by rw [hT.size]; exact (hfd d hd).1
              unfold valOf seenV; rw [hdi, hd]; simp [Act.put, hdl]
          rw [this]; exact hv
        · have h1 := hin j hj (by rwa [set_ne false (Ne.symm hji)] at hlj)
          rw [same v j hj hji]; exact (tab j).st _ _ _ hS2 h1
      · by_cases hpe : i = pi
        · have hw := hk0 pj (hpw o (hpe ▸ hoi'))
          have hne : pj ≠ i := by omega
          refine ⟨by rw [set_ne false (Ne.symm hne)]; exact hw.2, ?_⟩
          rw [same v pj (by omega) hne]
          exact hpc hpe
        · rw [set_ne false hpe] at hlp
          obtain ⟨h1, h2⟩ := hlk hlp
          have hne : pj ≠ i := fun e => by rw [e, hunf] at h1; cases h1
          have hpl : pj < l.length := by
            have : pj < listed.size := by
              by_cases hc : pj < listed.size
              · exact hc
              · simp [Array.getD_eq_getD_getElem?, hc] at h1
            omega
          refine ⟨by rw [set_ne false (Ne.symm hne)]; exact h1, ?_⟩
          rw [same v pj hpl hne]
          exact pc.st _ _ _ hS2 h2
    unfold wpOp
    rcases hop i o hoi' a' w' hS hT hk with ⟨hw, h⟩ | ⟨hw, h⟩
    · simp only [hoi, hw, if_true]
      refine .inl (Oper.wp_mono (fun a2 w2 h => ?_) (h Q))
      obtain ⟨v, rfl, hS2, hv, hp⟩ := h
      exact go v w2 hS2 hv hp
    · simp only [hoi, hw, Bool.false_eq_true, if_false]
      exact go undef w' h.1 h.2.1 h.2.2
def EachsP (P : Program) (ops : Array Oper) (S : World → World → Prop) (n : Nat) (T : List (Nat × Value)) (tab : Nat → Cl S) (pi pj : Nat) (pc : Cl S) (w : World) (k : Nat) (l : List Oper) : Prop := ∀ i o, l[i]? = some o → OblP P ops S n T tab pi pj pc w (k + i) o
theorem eachP_nil {ops : Array Oper} {tab : Nat → Cl S} {k pi pj : Nat} {pc : Cl S} : EachsP P ops S n T tab pi pj pc w k [] := fun i o h => by simp at h
theorem eachP_pair {ops : Array Oper} {tab : Nat → Cl S} {k pi pj : Nat} {pc : Cl S} {o : Oper} {os : List Oper} (h : OblP P ops S n T tab pi pj pc w k o) (ht : EachsP P ops S n T tab pi pj pc w (k + 1) os) : EachsP P ops S n T tab pi pj pc w k (o :: os) := fun i p hp => by
  cases i with
  | zero => simp at hp; subst hp; exact h
  | succ i => have := ht i p (by simpa using hp); rwa [show k + 1 + i = k + (i + 1) by omega] at this
theorem ep_ {ops : Array Oper} {tab : Nat → Cl S} {k pi pj : Nat} {pc : Cl S} {o : Oper} {os : List Oper} (hne : k ≠ pi) (h : Obl P ops S n T tab w k o) (ht : EachsP P ops S n T tab pi pj pc w (k + 1) os) : EachsP P ops S n T tab pi pj pc w k (o :: os) :=
  eachP_pair (fun a' w' h1 h2 h3 => does_mono (h a' w' h1 h2 h3) fun _ _ hh => ⟨hh.1, hh.2, fun e => absurd e hne⟩) ht
theorem drawnP {id : Nat} {a : Act} (tab : Nat → Cl S) (pi pj : Nat) (pc : Cl S) (hpi : pi < l.length) (hpw : ((l[pi]?).map fun o => waits o pj) = some true) (hm : P.follows .mixedOrders = true) (hrefl : ∀ w, S w w) (htrans : ∀ a b c, S a b → S b c → S a c) (hdrew : ∀ w : World, S w w.drew) (hA : St n T a) (hfit : fitB l.toArray n T = true)
    (hop : EachsP P l.toArray S n T tab pi pj pc w.drew 0 l)
    (hend : ∀ f a' w', S w w' → (∀ i, i < l.length → (tab i).P (f i) w') → pc.P (f pj) w' → St n (puts l f 0 ++ T) a' → Q .normal a' w') : (Code.region id l.toArray true).wp P Q a w := by
  refine wp_region_any hm ?_
  refine drawn_anyP (w := w.drew) tab pi pj pc hpi (fun o ho => by rw [ho] at hpw; simpa using hpw) htrans hfit (fun i o h => by have := hop i o h; rwa [Nat.zero_add] at this) (fun f a' w' hS => hend f a' w' (htrans _ _ _ (hdrew w) hS)) _ _ _ _ (by simp) ?_ (hrefl _) hA (fun i _ hi => ?_) (fun hi => ?_)
  · refine Nat.le_trans (List.length_filter_le _ _) (by simp)
  · exfalso
    simp [Array.getD_eq_getD_getElem?, Array.getElem?_replicate] at hi; split at hi <;> simp at hi
  · exfalso
    simp [Array.getD_eq_getD_getElem?, Array.getElem?_replicate] at hi; split at hi <;> simp at hi
end

/-! ### Worlds that grow, blocks of one kind in new memory turning from what they were made with to what they will hold -/
structure SZ (B0 : Nat) (Z R : Array Value) (t : TypeId) (w w' : World) : Prop where
  os : w'.os = w.os
  tape : w'.tape = w.tape
  output : w'.output = w.output
  size : w.heap.size ≤ w'.heap.size
  block : ∀ k, k < w.heap.size → w'.heap[k]? = w.heap[k]? ∨ (B0 ≤ k ∧ Blk w k Z t ∧ Blk w' k R t)
section
variable {B0 : Nat} {Z R : Array Value} {t : TypeId} {w w' : World}
theorem SZ.refl (w : World) : SZ B0 Z R t w w := ⟨rfl, rfl, rfl, Nat.le_refl _, fun _ _ => .inl rfl⟩
theorem SZ.trans (a b c : World) (h : SZ B0 Z R t a b) (k : SZ B0 Z R t b c) : SZ B0 Z R t a c :=
  ⟨k.os.trans h.os, k.tape.trans h.tape, k.output.trans h.output, Nat.le_trans h.size k.size, fun i hi => by
    rcases h.block i hi with h1 | ⟨h1, h2, h3⟩ <;> rcases k.block i (Nat.lt_of_lt_of_le hi h.size) with k1 | ⟨k1, k2, k3⟩
    · exact .inl (k1.trans h1)
    · refine .inr ⟨k1, ?_, k3⟩; unfold Blk at k2 ⊢; rw [← h1]; exact k2
    · refine .inr ⟨h1, h2, ?_⟩; unfold Blk at h3 ⊢; rw [k1]; exact h3
    · exact .inr ⟨h1, h2, k3⟩⟩
theorem SZ.grow (h : Grow w w') : SZ B0 Z R t w w' := ⟨h.os, h.tape, h.output, h.size, fun k hk => .inl (h.block k hk)⟩
theorem SZ.drew (w : World) : SZ B0 Z R t w w.drew := SZ.grow (Grow.refl w).drew
theorem SZ.below {B : Nat} {a : World} (h : SZ B0 Z R t w w') (hb : Below B a w) (hB : B ≤ B0) (hw : B ≤ w.heap.size) : Below B a w' :=
  hb.trans ⟨h.os, h.tape, h.output, h.size, fun k hk => by
    rcases h.block k (by omega) with h1 | ⟨h1, _⟩
    · exact h1
    · omega⟩
theorem SZ.far (h : SZ B0 Z R t w w') (hB : B0 ≤ w.heap.size) : Below B0 w w' := h.below (Below.refl _ _) (Nat.le_refl _) hB
theorem SZ.keep {g : Nat} {cs : Array Value} {e : TypeId} (h : SZ B0 Z R t w w') (hb : w.heap[g]? = some (.cells cs e (0, 0))) (he : e ≠ t) : w'.heap[g]? = some (.cells cs e (0, 0)) := by
  rcases h.block g (Array.getElem?_eq_some_iff.1 hb).1 with h1 | ⟨_, h2, _⟩
  · rw [h1]; exact hb
  · unfold Blk at h2; rw [hb] at h2; injection h2 with h2; injection h2 with _ h4; exact absurd h4 he
theorem own_sz {b : Nat} {e : TypeId} {s n : Nat} {v : Value} {xs : List Value} (h : w.ownsRow b e s v n xs) (hS : SZ B0 Z R t w w') (he : e ≠ t) : w'.ownsRow b e s v n xs := by
  obtain ⟨h1, h2⟩ := h
  refine ⟨h1, ?_⟩
  rcases h2 with h2 | ⟨g, cap, cur, hv, hb, hgg, h3⟩
  · exact .inl h2
  · exact .inr ⟨g, cap, cur, hv, hb, hS.keep hgg he, h3⟩
def cRow (e s n : Nat) (xs : List Value) (he : e ≠ t) : Cl (SZ B0 Z R t) := ⟨fun v w => ∃ b, w.ownsRow b e s v n xs, fun _ _ _ hS ⟨b, h⟩ => ⟨b, own_sz h hS he⟩⟩
def cMade : Cl (SZ B0 Z R t) := ⟨fun v w => ∃ g, v = .pointer (some ⟨g, 0, none⟩) ∧ B0 ≤ g ∧ (Blk w g Z t ∨ Blk w g R t), fun _ w w' hS ⟨g, h1, h2, h3⟩ => ⟨g, h1, h2, by
  have hlt : g < w.heap.size := h3.elim (fun h => h.lt) (fun h => h.lt)
  rcases hS.block g hlt with k | ⟨_, _, k⟩
  · unfold Blk at h3 ⊢; rw [k]; exact h3
  · exact .inr k⟩⟩
def cFilled : Cl (SZ B0 Z R t) := ⟨fun v w => ∃ g, v = .pointer (some ⟨g, 0, none⟩) ∧ B0 ≤ g ∧ Blk w g R t, fun _ w w' hS ⟨g, h1, h2, h3⟩ => ⟨g, h1, h2, by
  rcases hS.block g h3.lt with k | ⟨_, _, k⟩
  · unfold Blk at h3 ⊢; rw [k]; exact h3
  · exact k⟩⟩
end
section
variable {P : Program} {ops : Array Oper} {a : Act} {w : World} {K : Value → World → Prop} {d : Option Tmp} {ty : TypeId} {pos : String} {af : Array Edge} {gd : Option (Nat × Bool)} {v : Value}
theorem d_storeZ {B0 : Nat} {Z R : Array Value} {t t' : TypeId} {x y : Operand} {u : Value} (hw : Region.wanted { dst := none, op := .store t' x y, type := ty, pos := pos, after := af, guard := gd } (yielded ops a.tmps) = true) (hx : a.eval x = u) (hu : ∃ g, u = .pointer (some ⟨g, 0, none⟩) ∧ B0 ≤ g ∧ (Blk w g Z t ∨ Blk w g R t)) (hy : a.eval y = .agg R)
    (h1 : rowB P t' R.size = true) (hs : Z.size = R.size) (ho : R.toList.all (·.oneCell') = true) (h : ∀ w', SZ B0 Z R t w w' → (∃ g, u = .pointer (some ⟨g, 0, none⟩) ∧ B0 ≤ g ∧ Blk w' g R t) → K undef w') :
    Does P ops { dst := none, op := .store t' x y, type := ty, pos := pos, after := af, guard := gd } a w K := by
  obtain ⟨g, rfl, hg, hb⟩ := hu
  have main : ∀ cs : Array Value, Blk w g cs t → cs.size = R.size → (∀ w', Upd g w w' → Blk w' g R t → SZ B0 Z R t w w') → Does P ops { dst := none, op := .store t' x y, type := ty, pos := pos, after := af, guard := gd } a w K := fun cs hcs hsz hz =>
    dsr hw hx hy h1 hcs hsz ho fun w' hU hb' => h w' (hz w' hU hb') ⟨g, rfl, hg, hb'⟩
  rcases hb with hb | hb
  · exact main Z hb hs fun w' hU hb' => ⟨hU.os, hU.tape, hU.output, Nat.le_of_eq hU.size.symm, fun k _ => by
      by_cases hk : k = g
      · subst hk; exact .inr ⟨hg, hb, hb'⟩
      · exact .inl (hU.block k hk)⟩
  · exact main R hb rfl fun w' hU hb' => ⟨hU.os, hU.tape, hU.output, Nat.le_of_eq hU.size.symm, fun k _ => by
      by_cases hk : k = g
      · subst hk; left; unfold Blk at hb hb'; rw [hb, hb']
      · exact .inl (hU.block k hk)⟩
/-- a slice literal without parts -/
theorem d_none {t e s by_ : Nat} (hw : Region.wanted { dst := d, op := .buildSlice t 0 #[], type := ty, pos := pos, after := af, guard := gd } (yielded ops a.tmps) = true) (ht : elemB P t e s by_ = true)
    (h : ∀ g w', g = w.heap.size → Grow w w' → Blk w' g #[] e → K (.slice (some ⟨g, 0, none⟩) 0 0) w') : Does P ops { dst := d, op := .buildSlice t 0 #[], type := ty, pos := pos, after := af, guard := gd } a w K := by
  obtain ⟨i, z, hu, hi, hz, hsz, _, hzs, h0⟩ := elem_facts ht
  refine does_val (w' := w.alloc (.cells #[] e)) hw ?_ (h _ _ rfl ((Grow.refl _).alloc _) (heap_alloc_last w _))
  have : (Instr.buildSlice t 0 #[]).run P w = .ok (.slice (some ⟨w.heap.size, 0, none⟩) 0 0) (w.alloc (.cells #[] e)) := by
    simp [Instr.buildSlice, run_underlying hu, sizeOf, typeInfo, hi, Instr.fill, newRow]
    congr 1
    congr 1
    apply Array.ext'
    simp
  unfold execOp
  simp only [Sem.run_bind, List.map_toArray, List.map_nil, this, Result.andThen_ok, Sem.run_pure]
/-- append([]T{}, l...) -/
theorem d_copy {α : Type} {enc : α → List Value} {t e s by_ B g : Nat} {x y : Operand} {l : List α} (hw : Region.wanted { dst := d, op := .call { callee := .builtin .append, args := #[x, y], argTypes := #[t, t] }, type := ty, pos := pos, after := af, guard := gd } (yielded ops a.tmps) = true) (hx : a.eval x = .slice (some ⟨g, 0, none⟩) 0 0) (hb : Blk w g #[] e) (hy : a.eval y = v)
    (ht : elemB P t e s by_ = true) (hs : Sl enc s B w v l) (hel : ∀ x, (enc x).length = s) (he1 : ∀ x, ∀ u ∈ enc x, u.oneCell' = true) (hn : l.length ≤ 1000000) (hby : by_ ≤ 10000)
    (h : ∀ v' w', Grow w w' → w'.ownsRow g e s v' l.length (l.flatMap enc) → K v' w') :
    Does P ops { dst := d, op := .call { callee := .builtin .append, args := #[x, y], argTypes := #[t, t] }, type := ty, pos := pos, after := af, guard := gd } a w K := by
  obtain ⟨i, z, hu, hi, hz, hsz, hbz, hzs, h0⟩ := elem_facts ht
  obtain ⟨ao, cap, rfl, hlc, hel'⟩ := hs
  have hfl : ∀ l : List α, (l.flatMap enc).length = l.length * s := fun l => by
    induction l with
    | nil => simp
    | cons c l ih => rw [List.flatMap_cons, List.length_append, ih, hel, List.length_cons, Nat.add_mul, Nat.one_mul, Nat.add_comm]
  have hone : ∀ u ∈ l.flatMap enc, u.oneCell' = true := fun u hu => by
    obtain ⟨c, _, hc⟩ := List.mem_flatMap.1 hu
    exact he1 c u hc
  have hat : ∀ (l : List α) (j : Nat) u, (l.flatMap enc)[j]? = some u → ∃ k c q, l[k]? = some c ∧ (enc c)[q]? = some u ∧ j = k * s + q := fun l => by
    induction l with
    | nil => intro j u hj; simp at hj
    | cons c l ih =>
      intro j u hj
      rw [List.flatMap_cons] at hj
      by_cases hlt : j < (enc c).length
      · rw [List.getElem?_append_left hlt] at hj; exact ⟨0, c, j, by simp, hj, by omega⟩
      · rw [List.getElem?_append_right (by omega)] at hj
        obtain ⟨k, c', q, h1, h2, h3⟩ := ih _ _ hj
        rw [hel] at h3 hlt
        exact ⟨k + 1, c', q, by simpa using h1, h2, by rw [Nat.add_mul, Nat.one_mul]; omega⟩
  cases l with
  | nil =>
    have hsrc : Src P i.size t (.slice ao 0 cap) 0 [] w := by
      cases ao with
      | none => exact Src.ofNil w hu cap
      | some x0 => exact Src.ofSlice w hu x0 0 cap [] (by simp) (fun j u hj => by simp at hj) (fun u hu => by cases hu)
    have hr := run_append_nothing (P := P) w t t ty e i hu hi (some ⟨g, 0, none⟩) 0 0 (Nat.le_refl _) _ hsrc
    refine does_val hw ?_ (h (.slice (some ⟨g, 0, none⟩) 0 0) w (Grow.refl _) ⟨by simp, .inr ⟨g, 0, #[], rfl, Nat.le_refl _, hb, Nat.le_refl _, by simp [maxLen], by simp, by simp⟩⟩)
    unfold execOp
    simp only [resolve, invoke, builtin, Sem.run_bind, Sem.run_pure, Result.andThen_ok, List.map_toArray, List.map_cons, List.map_nil, List.length_nil, hx, hy, hr]
  | cons c l =>
    obtain ⟨b, o, rfl, _, _⟩ := hel' 0 c (by simp)
    have hsrc : Src P i.size t (.slice (some ⟨b, o, none⟩) (c :: l).length cap) (c :: l).length ((c :: l).flatMap enc) w := by
      refine Src.ofSlice w hu _ _ cap _ (by rw [hfl, hsz]) (fun j u hj => ?_) hone
      obtain ⟨k, c', q, h1, h2, rfl⟩ := hat _ j u hj
      obtain ⟨b', o', h3, _, h5⟩ := hel' k c' h1
      simp at h3
      obtain ⟨rfl, rfl⟩ := h3
      rw [Addr.add_mid, show o + (k * s + q) = o + k * s + q by omega]
      exact h5 q u h2
    have hpos : 0 < (c :: l).length := by simp
    have hcap : Builtin.nextslicecap (0 + (c :: l).length) 0 = (c :: l).length := by unfold Builtin.nextslicecap; rw [if_pos (by omega)]; omega
    have hmul : (c :: l).length * i.bytes ≤ 1000000 * 10000 := Nat.mul_le_mul hn (by omega)
    have hr := run_append_grow_src (P := P) w t t ty e i z hu hi hz (some ⟨g, 0, none⟩) 0 0 [] (by simp [Builtin.firstCells, loadCells, loadCellsFrom]) _ _ _ hsrc (by omega) (by omega) (by rw [hcap]; omega)
    have hge := grownCap_ge w (0 + (c :: l).length) 0 e
    have hcm : grownCap w (0 + (c :: l).length) 0 e ≤ maxLen := grownCap_le_maxLen w (0 + (c :: l).length) 0 e (by simp only [maxLen]; omega)
    have hown : (w.drew.alloc (.cells (([] ++ (c :: l).flatMap enc).toArray ++ Builtin.zeroCells z.cells (grownCap w (0 + (c :: l).length) 0 e - (0 + (c :: l).length))) e)).ownsRow g e s (.slice (some ⟨w.heap.size, 0, none⟩) (c :: l).length (grownCap w (0 + (c :: l).length) 0 e)) (c :: l).length ((c :: l).flatMap enc) := by
      refine ⟨hfl _, .inr ⟨w.heap.size, _, _, rfl, Nat.le_of_lt hb.lt, heap_alloc_new w.drew _, (by rw [Nat.zero_add] at hge ⊢; exact hge), hcm, ?_, ?_⟩⟩
      · simp only [Array.size_append, List.size_toArray, size_zeroCells, hzs, List.nil_append, hfl, ← Nat.add_mul]
        congr 1
        omega
      · simp only [Array.toList_append, List.nil_append]
        rw [← hfl]
        exact List.take_left
    refine does_val hw ?_ (h _ _ (((Grow.refl w).drew).alloc _) hown)
    unfold execOp
    simp only [resolve, invoke, builtin, Sem.run_bind, Sem.run_pure, Result.andThen_ok, List.map_toArray, List.map_cons, List.map_nil, hx, hy, hr]
    rw [Nat.zero_add]
end
theorem own_gen {α : Type} {enc : α → List Value} {w : World} {b e s : Nat} {v : Value} {l : List α} (hel : ∀ x, (enc x).length = s) (h : w.ownsRow b e s v l.length (l.flatMap enc)) : Sl enc s w.heap.size w v l := by
  obtain ⟨h1, h2⟩ := h
  rcases h2 with ⟨rfl, h2⟩ | ⟨g, cap, cur, hv, hb, hg, hc, _, hs, ht⟩
  · have : l = [] := List.eq_nil_of_length_eq_zero h2
    subst this; exact Sl.nil
  · refine ⟨some ⟨g, 0, none⟩, cap, hv, hc, fun j x hx => ⟨g, 0, rfl, (Array.getElem?_eq_some_iff.1 hg).1, fun k u hu => ?_⟩⟩
    rw [cell_of_row w g _ cur _ _ hg]
    have hk : k < s := by have := get_lt hu; rwa [hel] at this
    have hj := get_lt hx
    have key : ∀ (l : List α) (j : Nat) (x : α), l[j]? = some x → (enc x)[k]? = some u → (l.flatMap enc)[j * s + k]? = some u := by
      intro l
      induction l with
      | nil => intro j x hx; simp at hx
      | cons c l ih =>
        intro j x hx hu
        rw [List.flatMap_cons]
        cases j with
        | zero =>
          simp at hx; subst hx
          rw [Nat.zero_mul, Nat.zero_add, List.getElem?_append_left (by rw [hel]; exact hk)]; exact hu
        | succ j =>
          rw [List.getElem?_append_right (by rw [hel, Nat.add_mul]; omega), hel, show (j + 1) * s + k - s = j * s + k by rw [Nat.add_mul]; omega]
          exact ih j x (by simpa using hx) hu
    have hlt : j * s + k < l.length * s := by
      have := Nat.mul_le_mul_right s (show j + 1 ≤ l.length by omega)
      rw [Nat.add_mul] at this; omega
    have h3 : (cur.toList.take (l.length * s))[j * s + k]? = some u := by rw [ht]; exact key l j x hx hu
    rw [List.getElem?_take_of_lt hlt] at h3
    rw [Nat.zero_add, ← Array.getElem?_toList]; exact h3
end Go.Proofs.Ytlhompedcphnnaa
/- What Local comes to, as functions of what it is handed; the region that calls it on copies. -/
namespace Go.Proofs.Ytlhompedcphnnaa
open Go.RowKit

def lE (code : List Ins) (r0 : Nat → Int) (rds : List Int) : Int := if (checkR [code]).2.2 = 0 then (match runW code code.length ⟨((0 : Nat) : Int), r0, rds, [], []⟩ with | none => 24 | some _ => 0) else 1
def lRun (code : List Ins) (r0 : Nat → Int) (rds : List Int) : Option Wk := if (checkR [code]).2.2 = 0 then runW code code.length ⟨((0 : Nat) : Int), r0, rds, [], []⟩ else none
def lR (code : List Ins) (r0 : Nat → Int) (rds : List Int) : Nat → Int := match lRun code r0 rds with | none => fun _ => 0 | some s => s.r
def lEv (code : List Ins) (r0 : Nat → Int) (rds : List Int) : List Ev := match lRun code r0 rds with | none => [] | some s => s.evs
def lPa (code : List Ins) (r0 : Nat → Int) (rds : List Int) : List Int := match lRun code r0 rds with | none => [] | some s => s.path
theorem insE_len (i : Ins) : (insE i).length = 17 := rfl
theorem evS_len (i : Ev) : (evS i).length = 15 := rfl
theorem intE_len (i : Int) : (intE i).length = 1 := rfl
theorem insE_one (i : Ins) : ∀ u ∈ insE i, u.oneCell' = true := List.all_eq_true.1 rfl
theorem intE_one (i : Int) : ∀ u ∈ intE i, u.oneCell' = true := List.all_eq_true.1 rfl
theorem paE_flat (l : List Int) : paE l = l.flatMap intE := by
  induction l with
  | nil => rfl
  | cons x l ih => simp [paE, intE] at ih ⊢; exact ih
theorem row_nil (w : World) (e s : Nat) : ∃ b, w.ownsRow b e s (.slice none 0 0) 0 [] := ⟨0, by simp, .inl ⟨rfl, rfl⟩⟩
theorem local_v (code : List Ins) (rds : List Int) (r0 : Nat → Int) (v1 v2 : Value) (w : World) (hs : Sl insE 17 w.heap.size w v1 code) (hrd : Sl intE 1 w.heap.size w v2 rds) (hcl : code.length ≤ 1000000) (hwr : ∀ k, wfI (r0 k)) (hwi : ∀ i ∈ code, wfI i.imm ∧ wfI i.off) (hwd : ∀ z ∈ rds, wfI z) :
    Calls Try.prog 26 #[v1, .agg (regsC r0), v2] w fun e w' => Grow w w' ∧ ∃ ev pa, e = .returned (.tuple #[.agg (regsC (lR code r0 rds)), ev, pa, .int .i64 (lE code r0 rds)]) ∧ (∃ b, w'.ownsRow b 52 15 ev (lEv code r0 rds).length ((lEv code r0 rds).flatMap evS)) ∧ ∃ b, w'.ownsRow b 3 1 pa (lPa code r0 rds).length ((lPa code r0 rds).flatMap intE) := by
  obtain ⟨ao, cap, rfl⟩ := hs.form
  obtain ⟨ao2, cap2, rfl⟩ := hrd.form
  refine (local_any code rds ao ao2 cap cap2 r0 w hs hrd hcl hwr hwi hwd).mono fun e w' ⟨hG, h⟩ => ⟨hG, ?_⟩
  unfold lR lEv lPa lE lRun
  by_cases hc : (checkR [code]).2.2 = 0
  · rw [if_pos hc] at h
    simp only [hc, if_true]
    cases hr : runW code code.length ⟨((0 : Nat) : Int), r0, rds, [], []⟩ with
    | none => rw [hr] at h; exact ⟨_, _, h, row_nil w' _ _, row_nil w' _ _⟩
    | some s =>
      rw [hr] at h
      obtain ⟨ev, pa, he, h1, h2⟩ := h
      exact ⟨ev, pa, he, ⟨_, h1⟩, _, by rw [← paE_flat]; exact h2⟩
  · rw [if_neg hc] at h
    simp only [hc, if_false]
    exact ⟨_, _, h, row_nil w' _ _, row_nil w' _ _⟩
theorem l_no {code : List Ins} {r0 : Nat → Int} {rds : List Int} (h : (lE code r0 rds == 0) = false) : lEv code r0 rds = [] ∧ lPa code r0 rds = [] := by
  unfold lE at h
  unfold lEv lPa lRun
  split at h
  · rename_i hc
    simp only [hc, if_true]
    cases hr : runW code code.length ⟨((0 : Nat) : Int), r0, rds, [], []⟩ with
    | none => exact ⟨rfl, rfl⟩
    | some s => rw [hr] at h; simp at h
  · rename_i hc
    simp [hc]
theorem l_yes {code : List Ins} {r0 : Nat → Int} {rds : List Int} (hr0 : ∀ k, wfI (r0 k)) (hw : ∀ i ∈ code, wfI i.imm ∧ wfI i.off) (h : (lE code r0 rds == 0) = true) : ∃ s : Wk, s.evs = lEv code r0 rds ∧ s.path = lPa code r0 rds ∧ s.r = lR code r0 rds ∧ Good code rds.length s ∧ (checkR [code]).2.2 = 0 ∧ runW code code.length ⟨((0 : Nat) : Int), r0, rds, [], []⟩ = some s := by
  unfold lE at h
  unfold lEv lPa lR lRun
  split at h
  · rename_i hc
    simp only [hc, if_true]
    cases hr : runW code code.length ⟨((0 : Nat) : Int), r0, rds, [], []⟩ with
    | none => rw [hr] at h; simp at h
    | some s => exact ⟨s, rfl, rfl, rfl, local_good hc hr0 hw hr, trivial, rfl⟩
  · simp at h
section
variable {B0 : Nat} {Z R : Array Value} {t : TypeId}
def cNone (e : Nat) (he : e ≠ t) : Cl (SZ B0 Z R t) := ⟨fun v w => ∃ g, v = .slice (some ⟨g, 0, none⟩) 0 0 ∧ Blk w g #[] e, fun _ _ _ hS ⟨g, h1, h2⟩ => ⟨g, h1, hS.keep h2 he⟩⟩
def cLoc (code : List Ins) (r0 : Nat → Int) (rds : List Int) (h1 : 52 ≠ t) (h2 : 3 ≠ t) : Cl (SZ B0 Z R t) :=
  ⟨fun v w => ∃ ev pa, v = .tuple #[.agg (regsC (lR code r0 rds)), ev, pa, .int .i64 (lE code r0 rds)] ∧ (∃ b, w.ownsRow b 52 15 ev (lEv code r0 rds).length ((lEv code r0 rds).flatMap evS)) ∧ ∃ b, w.ownsRow b 3 1 pa (lPa code r0 rds).length ((lPa code r0 rds).flatMap intE),
   fun _ _ _ hS ⟨ev, pa, h, ⟨b, k1⟩, c, k2⟩ => ⟨ev, pa, h, ⟨b, own_sz k1 hS h1⟩, c, own_sz k2 hS h2⟩⟩
end
theorem own_apart {w : World} {b g e t s n : Nat} {v : Value} {xs : List Value} {cs : Array Value} (h : w.ownsRow b e s v n xs) (hb : Blk w g cs t) (he : e ≠ t) : v.ownBlock ≠ some g := fun hk => by
  rcases h.2 with ⟨rfl, _⟩ | ⟨g', cap, cur, rfl, _, hg, _⟩
  · simp [Value.ownBlock] at hk
  · simp [Value.ownBlock] at hk
    subst hk
    unfold Blk at hb; rw [hb] at hg; injection hg with hg; injection hg with _ h4; exact he h4.symm
theorem regs_set {r : Nat → Int} {x : Int} : ∀ {j : Nat}, j < 8 → (regsC r).setIfInBounds j (.int .i64 x) = regsC (updR r j x)
  | 0, _ | 1, _ | 2, _ | 3, _ | 4, _ | 5, _ | 6, _ | 7, _ => by simp [regsC, updR]
theorem regs_get {r : Nat → Int} : ∀ {j : Nat}, j < 8 → (regsC r)[j]? = some (.int .i64 (r j))
  | 0, _ | 1, _ | 2, _ | 3, _ | 4, _ | 5, _ | 6, _ | 7, _ => rfl
theorem b_neb {P : Program} {t : TypeId} (x y : Operand) (a b r : Bool) (w : World) (ht : P.underlying t = some .bool) (h : (!(a == b)) = r) : (eqGuard .neq t x y (.bool a) (.bool b)).run P w = .ok () w ∧ (binOp .neq t (.bool a) (.bool b)).run P w = .ok (.bool r) w := by
  subst h
  exact ⟨by simp [eqGuard], run_neq_bool w t a b ht⟩
theorem b_subn (x y : Operand) (j : Nat) (t : TypeId) (w : World) {P : Program} (h : 0 < j) (hj : j ≤ 1000000) : (eqGuard .sub t x y (.int .i64 (j : Int)) (.int .i64 1)).run P w = .ok () w ∧ (binOp .sub t (.int .i64 (j : Int)) (.int .i64 1)).run P w = .ok (.int .i64 ((j - 1 : Nat) : Int)) w := by
  have e : (((j - 1 : Nat)) : Int) = (j : Int) - 1 := by omega
  rw [e]
  refine ⟨by simp [eqGuard], ?_⟩
  have : IntKind.wrap .i64 ((j : Int) - 1) = (j : Int) - 1 := by simp only [IntKind.wrap, IntKind.signed, IntKind.bits]; simp; omega
  simp [binOp, this, go_sem]
/-- the event at a place of a run: its fields as its instruction has them -/
theorem ev_form {code : List Ins} {n0 : Nat} {s : Wk} (G : Good code n0 s) {j : Nat} {e : Ev} (h : s.evs[j]? = some e) : ∃ (k a : Nat) (c : Ins) (th loc mask old nw prd suc : Int) (aq wk rl : Bool), e = ⟨th, (k : Int), (a : Int), c.op, loc, mask, rdB c, wrB c, old, nw, aq, wk, rl, prd, suc⟩ ∧ s.path[k]? = some (a : Int) ∧ code[a]? = some c := by
  obtain ⟨k, h1, h2, c, h3, h4, h5, h6⟩ := G.ev j e h
  obtain ⟨a, ha⟩ := Int.eq_ofNat_of_zero_le (G.pa k _ h2).1
  obtain ⟨th, ps, at_, op, loc, mask, rd, wr, old, nw, aq, wk, rl, prd, suc⟩ := e
  simp only at h1 h2 h3 h4 h5 h6 ha
  subst h1; subst h4; subst h5; subst h6; subst ha
  exact ⟨k, a, c, th, loc, mask, old, nw, prd, suc, aq, wk, rl, rfl, h2, by simpa using h3⟩
def usedN (l : List Ev) (j : Nat) : Nat := (l.take j).countP fun e => e.reads
theorem used_at {l : List Ev} {j : Nat} {e : Ev} (h : l[j]? = some e) : usedN l (j + 1) = usedN l j + if e.reads = true then 1 else 0 := by
  unfold usedN; rw [List.take_add_one, h, List.countP_append]; simp
theorem used_le {code : List Ins} {n0 : Nat} {s : Wk} (G : Good code n0 s) (j : Nat) : usedN s.evs j ≤ n0 := by
  have h1 := G.rd
  have h2 : usedN s.evs j ≤ s.evs.countP fun e => e.reads := List.Sublist.countP_le (List.take_sublist j s.evs)
  omega
end Go.Proofs.Ytlhompedcphnnaa
/- Events, and arrays of registers, held against each other. -/
namespace Go.Proofs.Ytlhompedcphnnaa
open Go.RowKit
set_option linter.unusedSimpArgs false

section
variable {P : Program}
theorem eqFields_gen (d : Nat) (w : World) (xs ys : Array Value) : ∀ (fs : List Field) (bs : List Bool), fs.length = bs.length → (∀ (i : Nat) f b, fs[i]? = some f → bs[i]? = some b → f.name ≠ "_" ∧ ∃ u v, (part f.type xs f.offset).run P w = .ok u w ∧ (part f.type ys f.offset).run P w = .ok v w ∧ (Op.equalIn (d + 1) f.type u v).run P w = .ok b w) →
    (Op.eqFields (d + 1) xs ys fs).run P w = .ok (bs.all id) w
  | [], [], _, _ => by simp [Op.eqFields]
  | [], _ :: _, h, _ => by simp at h
  | _ :: _, [], h, _ => by simp at h
  | f :: fs, b :: bs, hl, h => by
    obtain ⟨hn, u, v, h1, h2, h3⟩ := h 0 f b rfl rfl
    have ih := eqFields_gen d w xs ys fs bs (by simpa using hl) (fun i f b hf hb => h (i + 1) f b (by simpa using hf) (by simpa using hb))
    unfold Op.eqFields
    simp only [ne_eq, hn, not_false_eq_true, if_true, Sem.run_bind, h1, h2, Result.andThen_ok, h3]
    cases b
    · simp
    · simp [ih]
end
def evT (k : Nat) : Nat := if k == 4 then 50 else if k == 5 || k == 6 || k == 9 || k == 10 || k == 11 then 4 else 3
def evO (k : Nat) : Nat := if k ≤ 4 then k else k + 1
def evFs (P : Program) : Option (Array Field) := match P.underlying 52 with | some (.struct fs) => some fs | _ => none
def evFB (P : Program) : Bool := match evFs P with | some fs => fs.size == 14 && (List.range 14).all (fun k => match fs[k]? with | some f => f.offset == evO k && f.type == evT k && f.name != "_" | none => false) | none => false
theorem evFB_true : evFB Try.prog = true := by kernel_rfl
theorem ev_fields : ∃ fs : Array Field, Try.prog.underlying 52 = some (.struct fs) ∧ fs.size = 14 ∧ ∀ k, k < 14 → ∃ f, fs[k]? = some f ∧ f.offset = evO k ∧ f.type = evT k ∧ f.name ≠ "_" := by
  have h := evFB_true
  unfold evFB at h
  cases hq : evFs Try.prog with
  | none => simp [hq] at h
  | some fs =>
    rw [hq] at h
    simp only [Bool.and_eq_true, beq_iff_eq] at h
    refine ⟨fs, ?_, h.1, fun k hk => ?_⟩
    · unfold evFs at hq
      split at hq
      · rename_i fs' he; rw [he]; cases hq; rfl
      · cases hq
    · have h1 := List.all_eq_true.1 h.2 k (List.mem_range.2 hk)
      cases hf : fs[k]? with
      | none => simp [hf] at h1
      | some f => rw [hf] at h1; simp only [Bool.and_eq_true, beq_iff_eq, bne_iff_ne] at h1; exact ⟨f, rfl, h1.1.1, h1.1.2, h1.2⟩
theorem flat_span : flatT Try.prog 50 = some [(0, false), (1, false)] := by kernel_rfl
theorem span_cells : (Try.prog.info? 50).map (·.size) = some 2 := by kernel_rfl
theorem eq_span (d : Nat) (w : World) (a b a' b' : Int) : (Op.equalIn (d + 2) 50 (.agg #[.int .i64 a, .int .i64 b]) (.agg #[.int .i64 a', .int .i64 b'])).run Try.prog w = .ok ([a == a', b == b'].all id) w := by
  have h := flat_span
  unfold flatT at h
  split at h
  · rename_i fs hu
    split at h
    · cases h
    · rename_i hs
      simp only [Bool.or_eq_true, not_or, Bool.not_eq_true] at hs
      have hf : Try.prog.fieldsOf 50 = fs := by unfold Program.fieldsOf; rw [hu]
      rw [run_equalIn_struct w (d + 1) 50 _ _ (by rw [hf]; exact hu) hs.1, hf]
      exact eqFields_flat d w _ _ _ _ _ h rfl
  · cases h
theorem held_ev : (Try.prog.stoodInHeld 52 || Try.prog.eqGuardType Try.prog.depth 52) = false := by kernel_rfl
def evBs (x y : Ev) : List Bool := [x.thread == y.thread, x.pos == y.pos, x.at_ == y.at_, x.op == y.op, [x.loc == y.loc, x.mask == y.mask].all id, x.reads == y.reads, x.writes == y.writes, x.old == y.old, x.new_ == y.new_, x.acq == y.acq, x.weak == y.weak, x.rel == y.rel, x.pred == y.pred, x.succ == y.succ]
def evEq (x y : Ev) : Bool := decide (x = y)
theorem evBs_all (x y : Ev) : (evBs x y).all id = evEq x y := by
  unfold evEq
  rw [Bool.eq_iff_iff, decide_eq_true_iff]
  cases x; cases y
  simp [evBs, and_assoc]
theorem span_agg (w : World) : (isAgg 50).run Try.prog w = .ok true w := by
  have h := flat_span
  unfold flatT at h
  split at h
  · rename_i fs hu; simp [isAgg, run_underlying hu]
  · cases h
theorem part_span (w : World) (x : Ev) : (part 50 (evC x) 4).run Try.prog w = .ok (.agg #[.int .i64 x.loc, .int .i64 x.mask]) w := by
  unfold part
  simp only [Sem.run_bind, span_agg, Result.andThen_ok, if_true, run_size span_cells, Sem.run_pure]
  rfl
set_option maxHeartbeats 1000000 in
theorem equal_ev (w : World) (x y : Ev) : (Op.equalIn 10000 52 (.agg (evC x)) (.agg (evC y))).run Try.prog w = .ok (evEq x y) w := by
  obtain ⟨fs, hu, hsz, hfs⟩ := ev_fields
  have hs := held_ev
  simp only [Bool.or_eq_false_iff] at hs
  have hf : Try.prog.fieldsOf 52 = fs := by unfold Program.fieldsOf; rw [hu]
  rw [run_equalIn_struct w 9999 52 _ _ (by rw [hf]; exact hu) hs.1, hf, ← evBs_all]
  refine eqFields_gen 9998 w (evC x) (evC y) fs.toList (evBs x y) (by simp [evBs, hsz]) fun i f b hfi hb => ?_
  have hi : i < 14 := by have := (List.getElem?_eq_some_iff.1 hb).1; simpa [evBs] using this
  obtain ⟨f', h1, h2, h3, h4⟩ := hfs i hi
  have he : f' = f := by rw [Array.getElem?_toList] at hfi; rw [h1] at hfi; exact Option.some.inj hfi
  subst he
  refine ⟨h4, ?_⟩
  rw [h2, h3]
  have int : ∀ (a c : Int) (o : Nat), (evC x)[o]? = some (.int .i64 a) → (evC y)[o]? = some (.int .i64 c) → b = (a == c) → ∃ u v, (part 3 (evC x) o).run Try.prog w = .ok u w ∧ (part 3 (evC y) o).run Try.prog w = .ok v w ∧ (Op.equalIn (9998 + 1) 3 u v).run Try.prog w = .ok b w := fun a c o ha hc hb => by
    have hag : (isAgg 3).run Try.prog w = .ok false w := by simp [isAgg, run_underlying Try.underlying3]
    subst hb
    exact ⟨_, _, part_one w hag ha, part_one w hag hc, run_equalIn_int w 9998 3 .i64 .i64 _ _ Try.underlying3⟩
  have bool : ∀ (a c : Bool) (o : Nat), (evC x)[o]? = some (.bool a) → (evC y)[o]? = some (.bool c) → b = (a == c) → ∃ u v, (part 4 (evC x) o).run Try.prog w = .ok u w ∧ (part 4 (evC y) o).run Try.prog w = .ok v w ∧ (Op.equalIn (9998 + 1) 4 u v).run Try.prog w = .ok b w := fun a c o ha hc hb => by
    have hag : (isAgg 4).run Try.prog w = .ok false w := by simp [isAgg, run_underlying Try.underlying4]
    subst hb
    exact ⟨_, _, part_one w hag ha, part_one w hag hc, run_equalIn_bool w 9998 4 _ _ Try.underlying4⟩
  have hbe : ∀ c, (evBs x y)[i]? = some c → b = c := fun c hc => by rw [hb] at hc; exact Option.some.inj hc
  have : i = 0 ∨ i = 1 ∨ i = 2 ∨ i = 3 ∨ i = 4 ∨ i = 5 ∨ i = 6 ∨ i = 7 ∨ i = 8 ∨ i = 9 ∨ i = 10 ∨ i = 11 ∨ i = 12 ∨ i = 13 := by omega
  rcases this with rfl | rfl | rfl | rfl | rfl | rfl | rfl | rfl | rfl | rfl | rfl | rfl | rfl | rfl
  · exact int _ _ 0 rfl rfl (hbe _ rfl)
  · exact int _ _ 1 rfl rfl (hbe _ rfl)
  · exact int _ _ 2 rfl rfl (hbe _ rfl)
  · exact int _ _ 3 rfl rfl (hbe _ rfl)
  · exact ⟨_, _, part_span w x, part_span w y, by rw [hbe _ rfl]; exact eq_span 9997 w _ _ _ _⟩
  · exact bool _ _ 6 rfl rfl (hbe _ rfl)
  · exact bool _ _ 7 rfl rfl (hbe _ rfl)
  · exact int _ _ 8 rfl rfl (hbe _ rfl)
  · exact int _ _ 9 rfl rfl (hbe _ rfl)
  · exact bool _ _ 10 rfl rfl (hbe _ rfl)
  · exact bool _ _ 11 rfl rfl (hbe _ rfl)
  · exact bool _ _ 12 rfl rfl (hbe _ rfl)
  · exact int _ _ 13 rfl rfl (hbe _ rfl)
  · exact int _ _ 14 rfl rfl (hbe _ rfl)
theorem ne_ev (x y : Ev) (p q : Operand) (w : World) (r : Bool) (h : (!evEq x y) = r) : (eqGuard .neq 52 p q (.agg (evC x)) (.agg (evC y))).run Try.prog w = .ok () w ∧ (binOp .neq 52 (.agg (evC x)) (.agg (evC y))).run Try.prog w = .ok (.bool r) w := by
  have hs := held_ev
  simp only [Bool.or_eq_false_iff] at hs
  subst h
  refine ⟨run_eqGuard_agg w _ _ _ _ _ _ hs.2, ?_⟩
  rw [run_neq_struct, equal_ev]; rfl
/-! ### Arrays of registers -/
def regEq (r s : Nat → Int) : Bool := (List.range 8).all fun k => r k == s k
theorem part_reg (r : Nat → Int) (k : Nat) (hk : k < 8) (w : World) : (part 3 (regsC r) (k * 1)).run Try.prog w = .ok (.int .i64 (r k)) w := by
  have hag : (isAgg 3).run Try.prog w = .ok false w := by simp [isAgg, run_underlying Try.underlying3]
  exact part_one w hag (by rw [Nat.mul_one]; exact regs_get hk)
theorem items_reg (d : Nat) (r s : Nat → Int) (w : World) : ∀ is : List Nat, (∀ k ∈ is, k < 8) → (Op.eqItems (d + 1) 3 1 (regsC r) (regsC s) is).run Try.prog w = .ok (is.all fun k => r k == s k) w
  | [], _ => by simp [Op.eqItems]
  | k :: is, h => by
    have hk := h k (by simp)
    have ih := items_reg d r s w is (fun j hj => h j (by simp [hj]))
    simp only [Op.eqItems, Sem.run_bind, part_reg r k hk, part_reg s k hk, Result.andThen_ok, run_equalIn_int w d 3 .i64 .i64 _ _ Try.underlying3, List.all_cons]
    cases hb : (r k == s k)
    · simp
    · simp only [Bool.not_true, Bool.false_eq_true, if_false, Bool.true_and]; exact ih
theorem und_regs : Try.prog.underlying 43 = some (.array 8 3) := by kernel_rfl
theorem info_int : ∃ i, Try.prog.info? 3 = some i := by
  cases h : Try.prog.info? 3 with
  | none => exact absurd h (by decide +kernel)
  | some i => exact ⟨i, rfl⟩
theorem guard_regs : Try.prog.eqGuardType Try.prog.depth 43 = false := by kernel_rfl
theorem equal_regs (d : Nat) (r s : Nat → Int) (w : World) : (Op.equalIn (d + 2) 43 (.agg (regsC r)) (.agg (regsC s))).run Try.prog w = .ok (regEq r s) w := by
  obtain ⟨i, hi⟩ := info_int
  rw [run_equalIn_array w (d + 1) (regsC r) (regsC s) und_regs hi, int_cells, items_reg d r s w _ (fun k hk => by simpa using hk)]
  rfl
theorem eq_regs (r s : Nat → Int) (p q : Operand) (w : World) (b : Bool) (h : regEq r s = b) : (eqGuard .eql 43 p q (.agg (regsC r)) (.agg (regsC s))).run Try.prog w = .ok () w ∧ (binOp .eql 43 (.agg (regsC r)) (.agg (regsC s))).run Try.prog w = .ok (.bool b) w := by
  subst h
  refine ⟨run_eqGuard_agg w _ _ _ _ _ _ guard_regs, ?_⟩
  rw [run_eql_struct, equal_regs 9998]; rfl
theorem ne_regs (r s : Nat → Int) (p q : Operand) (w : World) (b : Bool) (h : (!regEq r s) = b) : (eqGuard .neq 43 p q (.agg (regsC r)) (.agg (regsC s))).run Try.prog w = .ok () w ∧ (binOp .neq 43 (.agg (regsC r)) (.agg (regsC s))).run Try.prog w = .ok (.bool b) w := by
  subst h
  refine ⟨run_eqGuard_agg w _ _ _ _ _ _ guard_regs, ?_⟩
  rw [run_neq_struct, equal_regs 9998]; rfl
theorem regEq_of {r s : Nat → Int} (h : ∀ k, k < 8 → r k = s k) : regEq r s = true := by
  unfold regEq; rw [List.all_eq_true]; intro k hk; simp [h k (by simpa using hk)]
end Go.Proofs.Ytlhompedcphnnaa
/- A run's events are few. -/
namespace Go.Proofs.Ytlhompedcphnnaa
open Go.RowKit

theorem rises {l : List Ev} (h : ∀ (i : Nat) e f, l[i]? = some e → l[i + 1]? = some f → e.pos < f.pos) (h0 : ∀ (i : Nat) e, l[i]? = some e → 0 ≤ e.pos) : ∀ (i : Nat) e, l[i]? = some e → (i : Int) ≤ e.pos
  | 0, e, he => by have := h0 0 e he; omega
  | i + 1, e, he => by
    have hlt := get_lt he
    have hi : l[i]? = some l[i] := List.getElem?_eq_getElem (by omega)
    have h1 := rises h h0 i _ hi
    have h2 := h i _ e hi he
    omega
theorem ev_small {code : List Ins} {n0 : Nat} {s : Wk} (G : Good code n0 s) (hc : code.length ≤ 8) : s.evs.length ≤ 1000000 := by
  by_cases h : s.evs.length = 0
  · omega
  · have hi : s.evs[s.evs.length - 1]? = some (s.evs[s.evs.length - 1]'(by omega)) := List.getElem?_eq_getElem (by omega)
    have h1 := rises G.er (fun i e he => by obtain ⟨k, hk, _⟩ := G.ev i e he; omega) _ _ hi
    obtain ⟨k, hk, hp, _⟩ := G.ev _ _ hi
    have h2 := get_lt hp
    have h3 := G.len
    have h4 := G.p1
    omega
end Go.Proofs.Ytlhompedcphnnaa
/- Two runs that differ in a register that no instruction uses. -/
namespace Go.Proofs.Ytlhompedcphnnaa
open Go.RowKit

theorem andq7 {rg : Int} (h : wfI rg) : ∃ q : Nat, q < 8 ∧ ∀ (P : Program) (t : TypeId) (x y : Operand) (w : World), (eqGuard .and t x y (.int .i64 rg) (.int .i64 7)).run P w = .ok () w ∧ (binOp .and t (.int .i64 rg) (.int .i64 7)).run P w = .ok (.int .i64 (q : Int)) w := by
  have h7 : (7 : Int) = I 7#64 := rfl
  have key : I (B rg &&& 7#64) = (((B rg &&& 7#64).toNat : Nat) : Int) := by
    unfold I
    rw [BitVec.toInt_eq_toNat_of_lt]
    have : (B rg &&& 7#64).toNat ≤ 7 := by rw [BitVec.toNat_and]; exact Nat.and_le_right
    omega
  refine ⟨(B rg &&& 7#64).toNat, ?_, fun P t x y w => ⟨by simp [eqGuard], ?_⟩⟩
  · have : (B rg &&& 7#64).toNat ≤ 7 := by rw [BitVec.toNat_and]; exact Nat.and_le_right
    omega
  · have hb : bits .and .i64 rg 7 = I (B rg &&& 7#64) := by
      have e := bits_and (B rg) 7#64
      rw [← h, ← h7] at e; exact e
    rw [← key, ← hb]
    simp [binOp, go_sem]
def givN (code : List Ins) (q j : Nat) : Bool := (code.take j).any fun i => givesF i == (q : Int)
def freeN (code : List Ins) (q j : Nat) : Prop := ∀ i ∈ code.take j, ∀ z ∈ useF i, z ≠ (q : Int)
theorem giv_at {code : List Ins} {q j : Nat} {i : Ins} (h : code[j]? = some i) : givN code q (j + 1) = (givN code q j || givesF i == (q : Int)) := by
  unfold givN; rw [List.take_add_one, h]; simp [List.any_append]
theorem free_at {code : List Ins} {q j k : Nat} {i : Ins} (h : code[j]? = some i) (hf : freeN code q j) (hk : (useF i).length ≤ k) (hu : ∀ z ∈ (useF i).take k, z ≠ (q : Int)) : freeN code q (j + 1) := by
  intro c hc
  rw [List.take_add_one, h] at hc
  simp at hc
  rcases hc with hc | rfl
  · exact hf c hc
  · rw [List.take_of_length_le hk] at hu; exact hu
theorem fresh_at {l : List Int} {q : Int} {j : Nat} {y : Int} (h : l[j]? = some y) (hf : ∀ z ∈ l.take j, z ≠ q) (hy : y ≠ q) : ∀ z ∈ l.take (j + 1), z ≠ q := by
  intro z hz
  rw [List.take_add_one, h] at hz
  simp at hz
  rcases hz with hz | rfl
  · exact hf z hz
  · exact hy
theorem quiet {code : List Ins} {r0 : Nat → Int} {rds : List Int} {q j : Nat} {v : Int} (hj : code.length ≤ j) (hu : freeN code q j) :
    lE code r0 rds = lE code (updR r0 q v) rds ∧ lEv code r0 rds = lEv code (updR r0 q v) rds ∧ lPa code r0 rds = lPa code (updR r0 q v) rds ∧ (∀ k, k ≠ q → lR code r0 rds k = lR code (updR r0 q v) rds k) ∧ (givN code q j = false → (lE code r0 rds == 0) = true → lR code (updR r0 q v) rds q = v) := by
  unfold lE lEv lPa lR lRun
  by_cases hc : (checkR [code]).2.2 = 0
  · simp only [hc, if_true]
    unfold freeN givN at *
    rw [List.take_of_length_le hj] at hu ⊢
    have hs : Same q ⟨((0 : Nat) : Int), r0, rds, [], []⟩ ⟨((0 : Nat) : Int), updR r0 q v, rds, [], []⟩ := ⟨rfl, rfl, rfl, rfl, fun k hk => by simp [updR, hk]⟩
    have ht := run_same (g := !(code.any fun i => givesF i == (q : Int))) (check_one hc).2 hu (fun hg i hi => by
      intro e
      simp at hg
      exact hg i hi e) code.length _ _ hs
    revert ht
    rcases runW code code.length ⟨((0 : Nat) : Int), r0, rds, [], []⟩ with _ | s <;> rcases runW code code.length ⟨((0 : Nat) : Int), updR r0 q v, rds, [], []⟩ with _ | t <;> intro ht
    · exact ⟨rfl, rfl, rfl, fun _ _ => rfl, fun _ h => by simp at h⟩
    · exact ht.elim
    · exact ht.elim
    · refine ⟨rfl, ht.1.evs, ht.1.path, ht.1.r, fun hg _ => ?_⟩
      have := (ht.2 (by rw [hg]; rfl)).2
      simpa [updR] using this
  · simp only [hc, if_false]
    exact ⟨trivial, trivial, trivial, fun _ _ => trivial, fun _ h => by simp at h⟩
theorem upd_eq {r s : Nat → Int} {q : Nat} (h : ∀ k, k ≠ q → r k = s k) : regEq (updR r q 0) (updR s q 0) = true := regEq_of fun k _ => by
  unfold updR
  split
  · rfl
  · exact h k (by assumption)
end Go.Proofs.Ytlhompedcphnnaa
/- Rows of runs are short; elements of one row. -/
namespace Go.Proofs.Ytlhompedcphnnaa
open Go.RowKit

theorem ev_same {E F : List Ev} {j : Nat} {x y : Ev} (h : E = F) (hx : E[j]? = some x) (hy : F[j]? = some y) : x = y := by subst h; rw [hx] at hy; exact Option.some.inj hy
theorem l_small {code : List Ins} {r0 : Nat → Int} {rds : List Int} (hr0 : ∀ k, wfI (r0 k)) (hw : ∀ i ∈ code, wfI i.imm ∧ wfI i.off) : (lEv code r0 rds).length ≤ 1000000 ∧ (lPa code r0 rds).length ≤ 1000000 := by
  rcases Bool.eq_false_or_eq_true (lE code r0 rds == 0) with h | h
  · obtain ⟨s, h1, h2, _, G, hc, _⟩ := l_yes hr0 hw h
    rw [← h1, ← h2]
    have h8 := (check_one hc).1
    refine ⟨ev_small G h8, ?_⟩
    have := G.len
    have := G.p1
    omega
  · rw [(l_no h).1, (l_no h).2]; simp
end Go.Proofs.Ytlhompedcphnnaa
/- The reference's thread in memory; what its plain instructions do to a run. -/
namespace Go.Proofs.Ytlhompedcphnnaa
open Go.RowKit
set_option linter.unusedSimpArgs false

def thrC (cd : Value) (r : Nat → Int) (p : Int) (pa : Value) : Array Value := #[cd, .int .i64 (r 0), .int .i64 (r 1), .int .i64 (r 2), .int .i64 (r 3), .int .i64 (r 4), .int .i64 (r 5), .int .i64 (r 6), .int .i64 (r 7), .int .i64 p, pa]
theorem thr_get {p : Int} {r : Nat → Int} {cd pa : Value} : ∀ {j : Nat}, j < 8 → (thrC cd r p pa)[1 + j]? = some (.int .i64 (r j))
  | 0, _ | 1, _ | 2, _ | 3, _ | 4, _ | 5, _ | 6, _ | 7, _ => rfl
theorem thr_set {p : Int} {r : Nat → Int} {cd pa : Value} {x : Int} : ∀ {j : Nat}, j < 8 → (thrC cd r p pa).setIfInBounds (1 + j) (.int .i64 x) = thrC cd (updR r j x) p pa
  | 0, _ | 1, _ | 2, _ | 3, _ | 4, _ | 5, _ | 6, _ | 7, _ => by simp [thrC, updR]
theorem thr_size {p : Int} {r : Nat → Int} {cd pa : Value} : (thrC cd r p pa).size = 11 := rfl
theorem thr_regs {w : World} {g : Nat} {t : TypeId} {p : Int} {r : Nat → Int} {cd pa : Value} (h : Blk w g (thrC cd r p pa) t) : w.rangeAt g 1 (regsC r).toList := fun j v hv => by
  have hj : j < 8 := by
    have := (List.getElem?_eq_some_iff.1 hv).1
    simpa [regsC] using this
  have hc := h.cell (thr_get (p := p) (r := r) (cd := cd) (pa := pa) hj)
  rw [hc]
  have : (regsC r).toList[j]? = some (.int .i64 (r j)) := by
    match j, hj with
    | 0, _ | 1, _ | 2, _ | 3, _ | 4, _ | 5, _ | 6, _ | 7, _ => rfl
  rw [this] at hv; exact hv
/-- a thread under way: its struct in block g, its path in memory from Bd on, its code below -/
structure TS (Bd g : Nat) (w : World) (cd : Value) (code : List Ins) (p : Int) (r : Nat → Int) (path : List Int) (pa : Value) : Prop where
  hb : Blk w g (thrC cd r p pa) 65
  hge : Bd ≤ g
  hcd : Sl insE 17 Bd w cd code
  hpa : w.ownsRow Bd 3 1 pa path.length (paE path)
  op : pa.ownBlock ≠ some g
theorem rows_apart {w : World} {b b' e e' s s' n n' : Nat} {u v : Value} {xs ys : List Value} (h : w.ownsRow b e s u n xs) (k : w.ownsRow b' e' s' v n' ys) (he : e' ≠ e) : ∀ j, u.ownBlock = some j → v.ownBlock ≠ some j := fun j hj => by
  rcases h.2 with ⟨rfl, _⟩ | ⟨g, cap, cur, rfl, _, hg, _⟩
  · simp [Value.ownBlock] at hj
  · simp [Value.ownBlock] at hj
    subst hj
    exact own_apart (t := e) k hg he
def cBlk (M : Nat → Option (Array Value)) (hM : ∀ k, M k = none) (B0 : Nat) (Z : Array Value) (t : TypeId) : Cl (SM M) :=
  ⟨fun v w => ∃ g, v = .pointer (some ⟨g, 0, none⟩) ∧ B0 ≤ g ∧ Blk w g Z t, fun _ _ _ hS ⟨g, h1, h2, h3⟩ => ⟨g, h1, h2, h3.sm hS (hM g)⟩⟩
theorem or_neg {r : Nat → Int} {q x : Int} (h : ronB q = true) (hq : q < 0) : orR r q x = x := by
  unfold ronB regB at h
  simp at h
  have : q = -1 := by omega
  subst this; simp [orR]
theorem or_pos {r : Nat → Int} {q x : Int} (hq : ¬ q < 0) : orR r q 0 = orR r q x := by
  have : q ≠ -1 := by omega
  simp [orR, this]
theorem or_nat {r : Nat → Int} {k : Nat} {x : Int} : orR r (k : Int) x = r k := by
  have : ((k : Int) == -1) = false := by simp
  simp [orR, this]
/-- a run goes on from one place as from another -/
def Adv (code : List Ins) (p : Nat) (r : Nat → Int) (path : List Int) (p' : Nat) (r' : Nat → Int) (path' : List Int) : Prop :=
  ∀ ls es F, code.length - p ≤ F → ∃ F', code.length - p' ≤ F' ∧ runW code F ⟨(p : Int), r, ls, es, path⟩ = runW code F' ⟨(p' : Int), r', ls, es, path'⟩
theorem Adv.refl {code : List Ins} {p : Nat} {r : Nat → Int} {path : List Int} : Adv code p r path p r path := fun _ _ F h => ⟨F, h, rfl⟩
theorem Adv.trans {code : List Ins} {p p' p'' : Nat} {r r' r'' : Nat → Int} {path path' path'' : List Int} (h : Adv code p r path p' r' path') (k : Adv code p' r' path' p'' r'' path'') : Adv code p r path p'' r'' path'' := fun ls es F hF => by
  obtain ⟨F1, h1, e1⟩ := h ls es F hF
  obtain ⟨F2, h2, e2⟩ := k ls es F1 h1
  exact ⟨F2, h2, e1.trans e2⟩
theorem adv_of {code : List Ins} {p p' : Nat} {r r' : Nat → Int} {path : List Int} {i : Ins} (hi : code[p]? = some i) (hp : p < p') (h : ∀ ls es, stepW ⟨(p : Int), r, ls, es, path⟩ i = some ⟨(p' : Int), r', ls, es, path ++ [(p : Int)]⟩) : Adv code p r path p' r' (path ++ [(p : Int)]) := fun ls es F hF => by
  have hlt := get_lt hi
  obtain ⟨F1, rfl⟩ : ∃ F1, F = F1 + 1 := ⟨F - 1, by omega⟩
  refine ⟨F1, by omega, ?_⟩
  rw [runW_step (i := i) (by simpa using hi), h ls es]
theorem adv_1 {code : List Ins} {p d : Nat} {r : Nat → Int} {path : List Int} {i : Ins} (hi : code[p]? = some i) (h1 : i.op = 1) (hd : i.dst = (d : Int)) : Adv code p r path (p + 1) (updR r d i.imm) (path ++ [(p : Int)]) :=
  adv_of hi (by omega) fun ls es => by simp [stepW, h1, nextW, hd]
theorem adv_2 {code : List Ins} {p d k : Nat} {r : Nat → Int} {path : List Int} {i : Ins} (hi : code[p]? = some i) (h1 : i.op = 2) (hd : i.dst = (d : Int)) (ha : i.a = (k : Int)) : Adv code p r path (p + 1) (updR r d (r k)) (path ++ [(p : Int)]) :=
  adv_of hi (by omega) fun ls es => by simp [stepW, h1, nextW, hd, ha]
theorem adv_3 {code : List Ins} {p d k : Nat} {r : Nat → Int} {path : List Int} {i : Ins} {x : Int} (hi : code[p]? = some i) (h1 : i.op = 3) (hd : i.dst = (d : Int)) (ha : i.a = (k : Int)) (hx : x = orR r i.b i.imm) : Adv code p r path (p + 1) (updR r d (aluR i.fn (r k) x)) (path ++ [(p : Int)]) :=
  adv_of hi (by omega) fun ls es => by subst hx; simp [stepW, h1, nextW, hd, ha]
theorem adv_9y {code : List Ins} {p k m : Nat} {r : Nat → Int} {path : List Int} {i : Ins} (hi : code[p]? = some i) (h1 : i.op = 9) (ha : i.a = (k : Int)) (hto : i.to = (m : Int)) (hm : p < m) (hz : (r k == 0) = i.zero) : Adv code p r path m r (path ++ [(p : Int)]) :=
  adv_of hi hm fun ls es => by simp [stepW, h1, nextW, ha, brP, hz, hto]
theorem adv_9n {code : List Ins} {p k : Nat} {r : Nat → Int} {path : List Int} {i : Ins} (hi : code[p]? = some i) (h1 : i.op = 9) (ha : i.a = (k : Int)) (hz : (r k == 0) ≠ i.zero) : Adv code p r path (p + 1) r (path ++ [(p : Int)]) :=
  adv_of hi (by omega) fun ls es => by simp [stepW, h1, nextW, ha, brP, hz]
def evtB (i : Ins) : Bool := opB i || i.op == 7 || i.op == 8
theorem sound_1 {i : Ins} (h : soundB i = true) (h1 : i.op = 1) : ∃ d : Nat, i.dst = (d : Int) ∧ d < 8 := by
  simp [soundB, h1] at h; exact reg_nat h
theorem sound_2 {i : Ins} (h : soundB i = true) (h1 : i.op = 2) : (∃ d : Nat, i.dst = (d : Int) ∧ d < 8) ∧ ∃ d : Nat, i.a = (d : Int) ∧ d < 8 := by
  simp [soundB, h1] at h; exact ⟨reg_nat h.1, reg_nat h.2⟩
theorem sound_3 {i : Ins} (h : soundB i = true) (h1 : i.op = 3) : (∃ d : Nat, i.dst = (d : Int) ∧ d < 8) ∧ (∃ d : Nat, i.a = (d : Int) ∧ d < 8) ∧ ronB i.b = true := by
  simp [soundB, h1] at h; exact ⟨reg_nat h.1.1.1.1, reg_nat h.1.1.1.2, h.1.1.2⟩
theorem sound_9 {i : Ins} (h : soundB i = true) (h1 : i.op = 9) : ∃ d : Nat, i.a = (d : Int) ∧ d < 8 := by
  simp [soundB, h1] at h; exact reg_nat h
theorem sound_no {i : Ins} (h : soundB i = true) (h0 : opB i = false) (h1 : i.op ≠ 1) (h2 : i.op ≠ 2) (h3 : i.op ≠ 3) (h7 : i.op ≠ 7) (h8 : i.op ≠ 8) (h9 : i.op ≠ 9) : False := by
  simp [opB, rdB, wrB] at h0
  simp [soundB, h1, h2, h3, h7, h8, h9] at h
  split at h
  · rename_i h4; exact h0.1.1 h4
  split at h
  · rename_i h5; exact h0.2.1 h5
  exact h0.1.2 h.1
theorem ron_nat {q : Int} (h : ronB q = true) (hq : q ≥ 0) : ∃ d : Nat, q = (d : Int) ∧ d < 8 := by
  unfold ronB regB at h
  simp at h
  exact ⟨q.toNat, by omega, by omega⟩
theorem b_get {r : Nat → Int} {q x : Int} {d : Nat} (h : q = (d : Int)) : r d = orR r q x := by rw [h, or_nat]
theorem b_none {r : Nat → Int} {q x : Int} (h : ronB q = true) (hq : ¬ q ≥ 0) : x = orR r q x := (or_neg h (by omega)).symm
end Go.Proofs.Ytlhompedcphnnaa
/- What a register of the reference's thread holds. -/
namespace Go.Proofs.Ytlhompedcphnnaa
open Go.RowKit
set_option linter.unusedSimpArgs false
set_option linter.unusedVariables false
theorem fo65_1 : fieldOff Try.prog 65 1 = some 1 := by kernel_rfl
set_option maxHeartbeats 4000000 in
set_option maxRecDepth 4000 in
theorem tget_none (g : Nat) (cd : Value) (r : Nat → Int) (p : Int) (pa : Value) (w : World) (hb : Blk w g (thrC cd r p pa) 65) : Calls Try.prog 61 #[.pointer (some ⟨g, 0, none⟩), .int .i64 (-1)] w fun e w' => e = .returned (.int .i64 0) ∧ Grow w w' := by
 have b0 : Below w.heap.size w w := Below.refl _ _
 refine enter (n := 13) Try.func61 rfl rfl (Nat.le_of_ble_eq_true rfl) ?_
 intro a1 hA2
 refine wp_seq ?_
 refine wp_region_lit ?_
 refine qs hA2 rfl (das (wn rfl) (hA2.ev rfl) ?_)
 intro a3 hA4
 refine qe_ ?_
 refine tn_ ?_
 refine wp_seq ?_
 refine wp_seq ?_
 refine wp_region_lit ?_
 refine qs hA4 rfl (dmv (wn rfl) (hA4.ev rfl) ?_)
 intro a5 hA6
 refine qs hA6 rfl (dbn (wn rfl) (hA6.ev rfl) (hA6.ev rfl) (b_lt _ _ (-1) 0 true _ rfl) ?_)
 intro a7 hA8
 refine qe_ ?_
 refine tn_ ?_
 refine c_true hA8 rfl ?_
 refine wp_seq ?_
 refine wp_region_lit ?_
 refine qs hA8 rfl (das (wn rfl) (hA8.ev rfl) ?_)
 intro a9 hA10
 refine qe_ ?_
 refine tn_ ?_
 refine wp_ret ?_
 refine t_ret ?_
 refine ret1 rfl hA10 (v := (.int .i64 0)) rfl ?_
 exact ⟨rfl, b0⟩
set_option maxHeartbeats 4000000 in
set_option maxRecDepth 4000 in
theorem tget_reg (g : Nat) (cd : Value) (r : Nat → Int) (p : Int) (pa : Value) (j : Nat) (w : World) (hb : Blk w g (thrC cd r p pa) 65) (hj : j < 8) : Calls Try.prog 61 #[.pointer (some ⟨g, 0, none⟩), .int .i64 ((j : Nat) : Int)] w fun e w' => e = .returned (.int .i64 (r j)) ∧ Grow w w' := by
 have b0 : Below w.heap.size w w := Below.refl _ _
 refine enter (n := 13) Try.func61 rfl rfl (Nat.le_of_ble_eq_true rfl) ?_
 intro a1 hA2
 refine wp_seq ?_
 refine wp_region_lit ?_
 refine qs hA2 rfl (das (wn rfl) (hA2.ev rfl) ?_)
 intro a3 hA4
 refine qe_ ?_
 refine tn_ ?_
 refine wp_seq ?_
 refine wp_seq ?_
 refine wp_region_lit ?_
 refine qs hA4 rfl (dmv (wn rfl) (hA4.ev rfl) ?_)
 intro a5 hA6
 refine qs hA6 rfl (dbn (wn rfl) (hA6.ev rfl) (hA6.ev rfl) (b_lt _ _ ((j : Nat) : Int) 0 false _ (decide_eq_false (by omega))) ?_)
 intro a7 hA8
 refine qe_ ?_
 refine tn_ ?_
 refine c_false hA8 rfl ?_
 refine wp_skip ?_
 refine tn_ ?_
 refine wp_seq ?_
 refine wp_region_lit ?_
 refine qs hA8 rfl (dmv (wn rfl) (hA8.ev rfl) ?_)
 intro a9 hA10
 refine qs hA10 rfl (dmv (wn rfl) (hA10.ev rfl) ?_)
 intro a11 hA12
 refine qs hA12 rfl (dnc (wn rfl) (hA12.ev rfl) ?_)
 intro a13 hA14
 refine qs hA14 rfl (dfa (wn rfl) (hA14.ev rfl) fo65_1 ?_)
 intro a15 hA16
 refine qs hA16 rfl (dix (j := j) (p := 1 + j) (wn rfl) (hA16.ev rfl) (hA16.ev rfl) arr43 (by omega) (by omega) ?_)
 intro a17 hA18
 refine qs hA18 rfl (dld (v := (.int .i64 (r j))) (wn rfl) (hA18.ev rfl) one3 (hb.cell (thr_get (by omega))) ?_)
 intro a19 hA20
 refine qs hA20 rfl (das (wn rfl) (hA20.ev rfl) ?_)
 intro a21 hA22
 refine qe_ ?_
 refine tn_ ?_
 refine wp_ret ?_
 refine ret1 rfl hA22 (v := (.int .i64 (r j))) rfl ?_
 exact ⟨rfl, b0⟩
end Go.Proofs.Ytlhompedcphnnaa
/- A register of the reference's thread, or none. -/
namespace Go.Proofs.Ytlhompedcphnnaa
open Go.RowKit

theorem tget_any (g : Nat) (cd : Value) (r : Nat → Int) (p : Int) (pa : Value) (q : Int) (w : World) (hb : Blk w g (thrC cd r p pa) 65) (hq : ronB q = true) : Calls Try.prog 61 #[.pointer (some ⟨g, 0, none⟩), .int .i64 q] w fun e w' => e = .returned (.int .i64 (orR r q 0)) ∧ Grow w w' := by
  by_cases h : q = -1
  · subst h; have := tget_none g cd r p pa w hb; simpa [orR] using this
  · have h2 : 0 ≤ q ∧ q < 8 := by unfold ronB regB at hq; simp [h] at hq; omega
    obtain ⟨j, rfl⟩ := Int.eq_ofNat_of_zero_le h2.1
    have := tget_reg g cd r p pa j w hb (by omega)
    rw [or_nat]; exact this
end Go.Proofs.Ytlhompedcphnnaa
/- Where an access of the reference's thread lies, what it works with. -/
namespace Go.Proofs.Ytlhompedcphnnaa
open Go.RowKit
set_option linter.unusedSimpArgs false
set_option linter.unusedVariables false
theorem ent60 : ((Try.prog.funcs[60]?).map fun fn => (fn.name == "runtime.NumGoroutine", fn.body.isNone)) = some (false, false) := by kernel_rfl
theorem ent61 : ((Try.prog.funcs[61]?).map fun fn => (fn.name == "runtime.NumGoroutine", fn.body.isNone)) = some (false, false) := by kernel_rfl
theorem ent68 : ((Try.prog.funcs[68]?).map fun fn => (fn.name == "runtime.NumGoroutine", fn.body.isNone)) = some (false, false) := by kernel_rfl
set_option maxHeartbeats 4000000 in
set_option maxRecDepth 4000 in
theorem span3_any (i : Ins) (ix : Int) (w : World) (hoff : wfI i.off) (hx : wfI ix) : Calls Try.prog 60 #[.agg (insC i), .int .i64 ix] w fun e w' => e = .returned (.agg #[.int .i64 i.loc, .int .i64 (maskR (placeR (B i.off) (B ix) i.size) i.size)]) ∧ Grow w w' := by
 have b0 : Below w.heap.size w w := Below.refl _ _
 refine enter (n := 17) Try.func60 rfl rfl (Nat.le_of_ble_eq_true rfl) ?_
 intro a1 hA2
 refine wp_seq ?_
 refine wp_region_lit ?_
 refine qs hA2 rfl (d_box (wn rfl) (hA2.ev rfl) ?_)
 intro g3 w4 eg5 hG6 (m7 : Blk w4 g3 (insC i) 23)
 have ge8 : w.heap.size ≤ g3 := eg5 ▸ b0.size
 have b9 := blg b0 hG6 b0.size
 intro a10 hA11
 refine qs hA11 rfl (dal (wn rfl) zero50 ?_)
 intro g12 w13 eg14 hG15 (m16 : Blk w13 g12 #[.int .i64 0, .int .i64 0] 50)
 have ge17 : w.heap.size ≤ g12 := eg14 ▸ b9.size
 have n18 : g3 ≠ g12 := fun h => Nat.lt_irrefl _ ((h.trans eg14) ▸ m7.lt)
 have m19 := m7.grow hG15
 have b20 := blg b9 hG15 b9.size
 intro a21 hA22
 refine qe_ ?_
 refine tn_ ?_
 refine wp_seq ?_
 have hA23 : St 17 [(1, (.int .i64 ix)), (2, (.pointer (some ⟨g3, 0, none⟩))), (4, (.pointer (some ⟨g12, 0, none⟩)))] a21 := hA22.sub rfl
 let M24 : Nat → Option (Array Value) := fun _ => none
 have hM24 : M24 = fun _ => none := rfl
 clear_value M24
 have hM24A : ∀ k, M24 k = none := fun k => congrFun hM24 k
 have hM24B : ∀ k, k < w.heap.size → M24 k = none := fun k _ => hM24A k
 refine drawnL (S := SM M24) rfl (tabL [cv (.pointer (some ⟨g3, 5, none⟩)), cv (.int .i64 i.loc), cv (.pointer (some ⟨g3, 6, none⟩)), cv (.int .i64 i.off), cv (.int .i64 ix), cv (.pointer (some ⟨g3, 8, none⟩)), cv (.int .i64 i.size), cv (.int .i64 (placeR (B i.off) (B ix) i.size)), cv (.pointer (some ⟨g3, 8, none⟩)), cv (.int .i64 i.size), cv (.int .i64 (maskR (placeR (B i.off) (B ix) i.size) i.size)), cv (.agg #[.int .i64 i.loc, .int .i64 (maskR (placeR (B i.off) (B ix) i.size) i.size)])]) none (fun _ => none) (fun _ _ => True) [11, 10, 0, 1, 2, 3, 4, 5, 6, 7, 8, 9] [] mixedY SM.refl SM.trans hA23 (by kernel_rfl) (by kernel_rfl) (fun i v u w h => by cases h) ?_ ?_
 ·skip
  refine ed_ (.inl ⟨nofun, rfl, fun x y hS hT hk => dfa (wn rfl) (hT.ev rfl) fo23_5 ⟨SM.refl _, rfl⟩⟩) ?_
  refine ed_ (.inl ⟨nofun, rfl, fun x y hS hT hk => dld (v := (.int .i64 i.loc)) (wn rfl) (hk 0 rfl) one3 ((Blk.sm (w := w13.drew) m19 hS (hM24A _)).cell rfl) ⟨SM.refl _, rfl⟩⟩) ?_
  refine ed_ (.inl ⟨nofun, rfl, fun x y hS hT hk => dfa (wn rfl) (hT.ev rfl) fo23_6 ⟨SM.refl _, rfl⟩⟩) ?_
  refine ed_ (.inl ⟨nofun, rfl, fun x y hS hT hk => dld (v := (.int .i64 i.off)) (wn rfl) (hk 2 rfl) one3 ((Blk.sm (w := w13.drew) m19 hS (hM24A _)).cell rfl) ⟨SM.refl _, rfl⟩⟩) ?_
  refine ed_ (.inl ⟨nofun, rfl, fun x y hS hT hk => dmv (wn rfl) (hT.ev rfl) ⟨SM.refl _, rfl⟩⟩) ?_
  refine ed_ (.inl ⟨nofun, rfl, fun x y hS hT hk => dfa (wn rfl) (hT.ev rfl) fo23_8 ⟨SM.refl _, rfl⟩⟩) ?_
  refine ed_ (.inl ⟨nofun, rfl, fun x y hS hT hk => dld (v := (.int .i64 i.size)) (wn rfl) (hk 5 rfl) one3 ((Blk.sm (w := w13.drew) m19 hS (hM24A _)).cell rfl) ⟨SM.refl _, rfl⟩⟩) ?_
  refine ed_ (.inl ⟨nofun, rfl, fun x y hS hT hk => dcl (wn rfl) ent68 (map3 (show x.eval _ = (.int .i64 i.off) from (hk 3 rfl)) (show x.eval _ = (.int .i64 ix) from (hk 4 rfl)) (show x.eval _ = (.int .i64 i.size) from (hk 6 rfl))) (rplace_w i.off ix i.size y hoff hx) (fun _ _ ⟨he, hw⟩ => ⟨(.int .i64 (placeR (B i.off) (B ix) i.size)), he, hw ▸ SM.refl _, rfl⟩)⟩) ?_
  refine ed_ (.inl ⟨nofun, rfl, fun x y hS hT hk => dfa (wn rfl) (hT.ev rfl) fo23_8 ⟨SM.refl _, rfl⟩⟩) ?_
  refine ed_ (.inl ⟨nofun, rfl, fun x y hS hT hk => dld (v := (.int .i64 i.size)) (wn rfl) (hk 8 rfl) one3 ((Blk.sm (w := w13.drew) m19 hS (hM24A _)).cell rfl) ⟨SM.refl _, rfl⟩⟩) ?_
  refine ed_ (.inl ⟨nofun, rfl, fun x y hS hT hk => dcl (wn rfl) ent56 (map2 (show x.eval _ = (.int .i64 (placeR (B i.off) (B ix) i.size)) from (hk 7 rfl)) (show x.eval _ = (.int .i64 i.size) from (hk 9 rfl))) (rmask_all (placeR (B i.off) (B ix) i.size) i.size y) (fun _ _ ⟨he, hw⟩ => ⟨(.int .i64 (maskR (placeR (B i.off) (B ix) i.size) i.size)), he, hw ▸ SM.refl _, rfl⟩)⟩) ?_
  refine ed_ (.inl ⟨nofun, rfl, fun x y hS hT hk => dbd (cs := #[.int .i64 i.loc, .int .i64 (maskR (placeR (B i.off) (B ix) i.size) i.size)]) (wn rfl) (bp_of (bq_cons (show x.eval _ = (.int .i64 i.loc) from (hk 1 rfl)) (bq_cons (show x.eval _ = (.int .i64 (maskR (placeR (B i.off) (B ix) i.size) i.size)) from (hk 10 rfl)) bq_nil))) zero50 places50 (by kernel_rfl) ⟨SM.refl _, rfl⟩⟩) ?_
  exact eachD_one
 rintro a25 w26 hA27 ⟨hS29, hC30⟩
 have hA31 : St 17 [(4, (.pointer (some ⟨g12, 0, none⟩))), (16, (.agg #[.int .i64 i.loc, .int .i64 (maskR (placeR (B i.off) (B ix) i.size) i.size)]))] a25 := hA27.cut _ (fc (hA27.get 4 _ rfl) (fc (hC30 11 (Nat.le_of_ble_eq_true rfl)) fn_))
 have hG32 : Grow w13 w26 := Grow.trans ((Grow.refl _).drew) (SM.grown (by rw [hM24] at hS29; exact hS29))
 have m33 := m19.grow hG32
 have m34 := m16.grow hG32
 have b35 := blg b20 hG32 b20.size
 refine dsr (wn rfl) (hA31.ev rfl) (hA31.ev rfl) row50 m34 rfl rfl ?_
 intro w36 hU37 (m38 : Blk w36 g12 #[.int .i64 i.loc, .int .i64 (maskR (placeR (B i.off) (B ix) i.size) i.size)] 50)
 have m39 := m33.upd hU37 n18
 have b40 := hU37.below b35 ge17
 refine tn_ ?_
 refine wp_ret ?_
 refine retRow (g := g12) (cs := #[.int .i64 i.loc, .int .i64 (maskR (placeR (B i.off) (B ix) i.size) i.size)]) rfl hA31 rfl m38 row50 ?_
 exact ⟨rfl, b40⟩
set_option maxHeartbeats 4000000 in
set_option maxRecDepth 4000 in
theorem where_any (g : Nat) (cd : Value) (r : Nat → Int) (p : Int) (pa : Value) (i : Ins) (w : World) (hb : Blk w g (thrC cd r p pa) 65) (hr : ∀ k, wfI (r k)) (hix : ronB i.index = true) (hoff : wfI i.off) : Calls Try.prog 51 #[.pointer (some ⟨g, 0, none⟩), .agg (insC i)] w fun e w' => e = .returned (.agg #[.int .i64 i.loc, .int .i64 (spanM i r)]) ∧ Grow w w' := by
 have b0 : Below w.heap.size w w := Below.refl _ _
 refine enter (n := 11) Try.func51 rfl rfl (Nat.le_of_ble_eq_true rfl) ?_
 intro a1 hA2
 refine wp_seq ?_
 refine wp_region_lit ?_
 refine qs hA2 rfl (d_box (wn rfl) (hA2.ev rfl) ?_)
 intro g3 w4 eg5 hG6 (m7 : Blk w4 g3 (insC i) 23)
 have ge8 : w.heap.size ≤ g3 := eg5 ▸ b0.size
 have n9 : g ≠ g3 := fun h => Nat.lt_irrefl _ ((h.trans eg5) ▸ hb.lt)
 have m10 := hb.grow hG6
 have b11 := blg b0 hG6 b0.size
 intro a12 hA13
 refine qs hA13 rfl (dal (wn rfl) zero50 ?_)
 intro g14 w15 eg16 hG17 (m18 : Blk w15 g14 #[.int .i64 0, .int .i64 0] 50)
 have ge19 : w.heap.size ≤ g14 := eg16 ▸ b11.size
 have n20 : g ≠ g14 := fun h => Nat.lt_irrefl _ ((h.trans eg16) ▸ m10.lt)
 have n21 : g3 ≠ g14 := fun h => Nat.lt_irrefl _ ((h.trans eg16) ▸ m7.lt)
 have m22 := m10.grow hG17
 have m23 := m7.grow hG17
 have b24 := blg b11 hG17 b11.size
 intro a25 hA26
 refine qe_ ?_
 refine tn_ ?_
 refine wp_seq ?_
 have hA27 : St 11 [(0, (.pointer (some ⟨g, 0, none⟩))), (3, (.pointer (some ⟨g3, 0, none⟩))), (4, (.pointer (some ⟨g14, 0, none⟩)))] a25 := hA26.sub rfl
 let M28 : Nat → Option (Array Value) := fun _ => none
 have hM28 : M28 = fun _ => none := rfl
 clear_value M28
 have hM28A : ∀ k, M28 k = none := fun k => congrFun hM28 k
 have hM28B : ∀ k, k < w.heap.size → M28 k = none := fun k _ => hM28A k
 refine drawnL (S := SM M28) rfl (tabL [cv (.agg (insC i)), cv (.pointer (some ⟨g, 0, none⟩)), cv (.pointer (some ⟨g3, 7, none⟩)), cv (.int .i64 i.index), cv (.int .i64 (orR r i.index 0)), cv (.agg #[.int .i64 i.loc, .int .i64 (maskR (placeR (B i.off) (B (orR r i.index 0)) i.size) i.size)])]) none (fun _ => none) (fun _ _ => True) [5, 0, 1, 2, 3, 4] [] mixedY SM.refl SM.trans hA27 (by kernel_rfl) (by kernel_rfl) (fun i v u w h => by cases h) ?_ ?_
 ·skip
  refine ed_ (.inl ⟨nofun, rfl, fun x y hS hT hk => dlr (cs := (insC i)) (wn rfl) (hT.ev rfl) row23 (Blk.sm (w := w15.drew) m23 hS (hM28A _)) ⟨SM.refl _, rfl⟩⟩) ?_
  refine ed_ (.inl ⟨nofun, rfl, fun x y hS hT hk => dmv (wn rfl) (hT.ev rfl) ⟨SM.refl _, rfl⟩⟩) ?_
  refine ed_ (.inl ⟨nofun, rfl, fun x y hS hT hk => dfa (wn rfl) (hT.ev rfl) fo23_7 ⟨SM.refl _, rfl⟩⟩) ?_
  refine ed_ (.inl ⟨nofun, rfl, fun x y hS hT hk => dld (v := (.int .i64 i.index)) (wn rfl) (hk 2 rfl) one3 ((Blk.sm (w := w15.drew) m23 hS (hM28A _)).cell rfl) ⟨SM.refl _, rfl⟩⟩) ?_
  refine ed_ (.inl ⟨nofun, rfl, fun x y hS hT hk => dcl (wn rfl) ent61 (map2 (show x.eval _ = (.pointer (some ⟨g, 0, none⟩)) from (hk 1 rfl)) (show x.eval _ = (.int .i64 i.index) from (hk 3 rfl))) (tget_any g cd r p pa i.index y (Blk.sm (w := w15.drew) m22 hS (hM28A _)) hix) (fun _ _ ⟨he, hG⟩ => ⟨(.int .i64 (orR r i.index 0)), he, SM.grow hG, rfl⟩)⟩) ?_
  refine ed_ (.inl ⟨nofun, rfl, fun x y hS hT hk => dcl (wn rfl) ent60 (map2 (show x.eval _ = (.agg (insC i)) from (hk 0 rfl)) (show x.eval _ = (.int .i64 (orR r i.index 0)) from (hk 4 rfl))) (span3_any i (orR r i.index 0) y hoff (wf_or hr wf_0)) (fun _ _ ⟨he, hG⟩ => ⟨(.agg #[.int .i64 i.loc, .int .i64 (maskR (placeR (B i.off) (B (orR r i.index 0)) i.size) i.size)]), he, SM.grow hG, rfl⟩)⟩) ?_
  exact eachD_one
 rintro a29 w30 hA31 ⟨hS33, hC34⟩
 have hA35 : St 11 [(4, (.pointer (some ⟨g14, 0, none⟩))), (10, (.agg #[.int .i64 i.loc, .int .i64 (maskR (placeR (B i.off) (B (orR r i.index 0)) i.size) i.size)]))] a29 := hA31.cut _ (fc (hA31.get 4 _ rfl) (fc (hC34 5 (Nat.le_of_ble_eq_true rfl)) fn_))
 have hG36 : Grow w15 w30 := Grow.trans ((Grow.refl _).drew) (SM.grown (by rw [hM28] at hS33; exact hS33))
 have m37 := m22.grow hG36
 have m38 := m23.grow hG36
 have m39 := m18.grow hG36
 have b40 := blg b24 hG36 b24.size
 refine dsr (wn rfl) (hA35.ev rfl) (hA35.ev rfl) row50 m39 rfl rfl ?_
 intro w41 hU42 (m43 : Blk w41 g14 #[.int .i64 i.loc, .int .i64 (maskR (placeR (B i.off) (B (orR r i.index 0)) i.size) i.size)] 50)
 have m44 := m37.upd hU42 n20
 have m45 := m38.upd hU42 n21
 have b46 := hU42.below b40 ge19
 refine tn_ ?_
 refine wp_ret ?_
 refine retRow (g := g14) (cs := #[.int .i64 i.loc, .int .i64 (maskR (placeR (B i.off) (B (orR r i.index 0)) i.size) i.size)]) rfl hA35 rfl m43 row50 ?_
 exact ⟨rfl, b46⟩
set_option maxHeartbeats 4000000 in
set_option maxRecDepth 4000 in
theorem datum_5 (g : Nat) (cd : Value) (r : Nat → Int) (p : Int) (pa : Value) (i : Ins) (w : World) (hb : Blk w g (thrC cd r p pa) 65) (ha : ronB i.a = true) : Calls Try.prog 53 #[.pointer (some ⟨g, 0, none⟩), .agg (insC ⟨5, i.dst, i.a, i.b, i.imm, i.loc, i.off, i.index, i.size, i.fn, i.acq, i.weak, i.rel, i.pred, i.succ, i.to, i.zero⟩)] w fun e w' => e = .returned (.int .i64 (orR r i.a i.imm)) ∧ Grow w w' := by
 have b0 : Below w.heap.size w w := Below.refl _ _
 refine enter (n := 19) Try.func53 rfl rfl (Nat.le_of_ble_eq_true rfl) ?_
 intro a1 hA2
 refine wp_seq ?_
 refine wp_region_lit ?_
 refine qs hA2 rfl (d_box (wn rfl) (hA2.ev rfl) ?_)
 intro g3 w4 eg5 hG6 (m7 : Blk w4 g3 (insC ⟨5, i.dst, i.a, i.b, i.imm, i.loc, i.off, i.index, i.size, i.fn, i.acq, i.weak, i.rel, i.pred, i.succ, i.to, i.zero⟩) 23)
 have ge8 : w.heap.size ≤ g3 := eg5 ▸ b0.size
 have n9 : g ≠ g3 := fun h => Nat.lt_irrefl _ ((h.trans eg5) ▸ hb.lt)
 have m10 := hb.grow hG6
 have b11 := blg b0 hG6 b0.size
 intro a12 hA13
 refine qs hA13 rfl (das (wn rfl) (hA13.ev rfl) ?_)
 intro a14 hA15
 refine qe_ ?_
 refine tn_ ?_
 refine wp_seq ?_
 refine wp_seq ?_
 refine wp_region_lit ?_
 refine qs hA15 rfl (dfa (wn rfl) (hA15.ev rfl) fo23_0 ?_)
 intro a16 hA17
 refine qs hA17 rfl (dld (v := (.int .i64 5)) (wn rfl) (hA17.ev rfl) one3 (m7.cell rfl) ?_)
 intro a18 hA19
 refine qs hA19 rfl (dbn (wn rfl) (hA19.ev rfl) (hA19.ev rfl) (b_eq _ _ 5 5 true _ rfl) ?_)
 intro a20 hA21
 refine qs hA21 rfl (dmv (wn rfl) (hA21.ev rfl) ?_)
 intro a22 hA23
 refine qs hA23 rfl (dfa (wy rfl rfl (hA23.get 8 _ rfl)) (hA23.ev rfl) fo23_2 ?_)
 intro a24 hA25
 refine qs hA25 rfl (dld (v := (.int .i64 i.a)) (wy rfl rfl (hA25.get 8 _ rfl)) (hA25.ev rfl) one3 (m7.cell rfl) ?_)
 intro a26 hA27
 rcases Bool.eq_false_or_eq_true (decide (i.a < 0)) with hb28 | hb28
 ·skip
  have hq29 := of_decide_eq_true hb28
  refine qs hA27 rfl (dbn (wy rfl rfl (hA27.get 8 _ rfl)) (hA27.ev rfl) (hA27.ev rfl) (b_lt _ _ i.a 0 true _ hb28) ?_)
  intro a30 hA31
  refine qs hA31 rfl (dpt (wn rfl) (hA31.ev rfl) (hA31.ev rfl) ?_)
  intro a32 hA33
  refine qe_ ?_
  refine tn_ ?_
  refine c_true hA33 rfl ?_
  refine wp_seq ?_
  refine wp_region_lit ?_
  refine qs hA33 rfl (dfa (wn rfl) (hA33.ev rfl) fo23_4 ?_)
  intro a34 hA35
  refine qs hA35 rfl (dld (v := (.int .i64 i.imm)) (wn rfl) (hA35.ev rfl) one3 (m7.cell rfl) ?_)
  intro a36 hA37
  refine qs hA37 rfl (das (wn rfl) (hA37.ev rfl) ?_)
  intro a38 hA39
  refine qe_ ?_
  refine tn_ ?_
  refine wp_ret ?_
  refine t_ret ?_
  refine ret1 rfl hA39 (v := (.int .i64 i.imm)) rfl ?_
  exact ⟨(ret_int (or_neg ha (of_decide_eq_true hb28)).symm), b11⟩
 have hq40 := of_decide_eq_false hb28
 refine qs hA27 rfl (dbn (wy rfl rfl (hA27.get 8 _ rfl)) (hA27.ev rfl) (hA27.ev rfl) (b_lt _ _ i.a 0 false _ hb28) ?_)
 intro a41 hA42
 refine qs hA42 rfl (dpt (wn rfl) (hA42.ev rfl) (hA42.ev rfl) ?_)
 intro a43 hA44
 refine qe_ ?_
 refine tn_ ?_
 refine c_false hA44 rfl ?_
 refine wp_skip ?_
 refine tn_ ?_
 refine wp_seq ?_
 refine wp_region_lit ?_
 refine qs hA44 rfl (dmv (wn rfl) (hA44.ev rfl) ?_)
 intro a45 hA46
 refine qs hA46 rfl (dfa (wn rfl) (hA46.ev rfl) fo23_2 ?_)
 intro a47 hA48
 refine qs hA48 rfl (dld (v := (.int .i64 i.a)) (wn rfl) (hA48.ev rfl) one3 (m7.cell rfl) ?_)
 intro a49 hA50
 refine qs hA50 rfl (dcl (wn rfl) ent61 (map2 (hA50.ev rfl) (hA50.ev rfl)) (tget_any g cd r p pa i.a w4 m10 ha) ?_)
 rintro e54 w51 ⟨he53, hG52⟩
 have m55 := m10.grow hG52
 have m56 := m7.grow hG52
 have b57 := blg b11 hG52 b11.size
 refine ⟨(.int .i64 (orR r i.a 0)), he53, ?_⟩
 intro a58 hA59
 refine qs hA59 rfl (das (wn rfl) (hA59.ev rfl) ?_)
 intro a60 hA61
 refine qe_ ?_
 refine tn_ ?_
 refine wp_ret ?_
 refine ret1 rfl hA61 (v := (.int .i64 (orR r i.a 0))) rfl ?_
 exact ⟨(ret_int (or_pos (of_decide_eq_false hb28))), b57⟩
set_option maxHeartbeats 4000000 in
set_option maxRecDepth 4000 in
theorem datum_6 (g : Nat) (cd : Value) (r : Nat → Int) (p : Int) (pa : Value) (i : Ins) (k : Nat) (w : World) (hb : Blk w g (thrC cd r p pa) 65) (hk : k < 8) : Calls Try.prog 53 #[.pointer (some ⟨g, 0, none⟩), .agg (insC ⟨6, i.dst, ((k : Nat) : Int), i.b, i.imm, i.loc, i.off, i.index, i.size, i.fn, i.acq, i.weak, i.rel, i.pred, i.succ, i.to, i.zero⟩)] w fun e w' => e = .returned (.int .i64 (r k)) ∧ Grow w w' := by
 have b0 : Below w.heap.size w w := Below.refl _ _
 refine enter (n := 19) Try.func53 rfl rfl (Nat.le_of_ble_eq_true rfl) ?_
 intro a1 hA2
 refine wp_seq ?_
 refine wp_region_lit ?_
 refine qs hA2 rfl (d_box (wn rfl) (hA2.ev rfl) ?_)
 intro g3 w4 eg5 hG6 (m7 : Blk w4 g3 (insC ⟨6, i.dst, ((k : Nat) : Int), i.b, i.imm, i.loc, i.off, i.index, i.size, i.fn, i.acq, i.weak, i.rel, i.pred, i.succ, i.to, i.zero⟩) 23)
 have ge8 : w.heap.size ≤ g3 := eg5 ▸ b0.size
 have n9 : g ≠ g3 := fun h => Nat.lt_irrefl _ ((h.trans eg5) ▸ hb.lt)
 have m10 := hb.grow hG6
 have b11 := blg b0 hG6 b0.size
 intro a12 hA13
 refine qs hA13 rfl (das (wn rfl) (hA13.ev rfl) ?_)
 intro a14 hA15
 refine qe_ ?_
 refine tn_ ?_
 refine wp_seq ?_
 refine wp_seq ?_
 refine wp_region_lit ?_
 refine qs hA15 rfl (dfa (wn rfl) (hA15.ev rfl) fo23_0 ?_)
 intro a16 hA17
 refine qs hA17 rfl (dld (v := (.int .i64 6)) (wn rfl) (hA17.ev rfl) one3 (m7.cell rfl) ?_)
 intro a18 hA19
 refine qs hA19 rfl (dbn (wn rfl) (hA19.ev rfl) (hA19.ev rfl) (b_eq _ _ 6 5 false _ rfl) ?_)
 intro a20 hA21
 refine qs hA21 rfl (dmv (wn rfl) (hA21.ev rfl) ?_)
 intro a22 hA23
 refine qs hA23 rfl (dno (wno rfl rfl (.inl (hA23.get 8 _ rfl))) ?_)
 intro a24 hA25
 refine qs hA25 rfl (dno (wno rfl rfl (.inl (hA25.get 8 _ rfl))) ?_)
 intro a26 hA27
 refine qs hA27 rfl (dno (wno rfl rfl (.inl (hA27.get 8 _ rfl))) ?_)
 intro a28 hA29
 refine qs hA29 rfl (dpf (wn rfl) (hA29.ev rfl) (hA29.ev rfl) ?_)
 intro a30 hA31
 refine qe_ ?_
 refine tn_ ?_
 refine c_false hA31 rfl ?_
 refine wp_skip ?_
 refine tn_ ?_
 refine wp_seq ?_
 refine wp_region_lit ?_
 refine qs hA31 rfl (dmv (wn rfl) (hA31.ev rfl) ?_)
 intro a32 hA33
 refine qs hA33 rfl (dfa (wn rfl) (hA33.ev rfl) fo23_2 ?_)
 intro a34 hA35
 refine qs hA35 rfl (dld (v := (.int .i64 ((k : Nat) : Int))) (wn rfl) (hA35.ev rfl) one3 (m7.cell rfl) ?_)
 intro a36 hA37
 refine qs hA37 rfl (dcl (wn rfl) ent61 (map2 (hA37.ev rfl) (hA37.ev rfl)) (tget_reg g cd r p pa k w4 m10 (by omega)) ?_)
 rintro e41 w38 ⟨he40, hG39⟩
 have m42 := m10.grow hG39
 have m43 := m7.grow hG39
 have b44 := blg b11 hG39 b11.size
 refine ⟨(.int .i64 (r k)), he40, ?_⟩
 intro a45 hA46
 refine qs hA46 rfl (das (wn rfl) (hA46.ev rfl) ?_)
 intro a47 hA48
 refine qe_ ?_
 refine tn_ ?_
 refine wp_ret ?_
 refine ret1 rfl hA48 (v := (.int .i64 (r k))) rfl ?_
 exact ⟨rfl, b44⟩
end Go.Proofs.Ytlhompedcphnnaa
/- A step of the reference's thread. -/
namespace Go.Proofs.Ytlhompedcphnnaa
open Go.RowKit
set_option linter.unusedSimpArgs false
set_option linter.unusedVariables false
theorem ent12 : ((Try.prog.funcs[12]?).map fun fn => (fn.name == "runtime.NumGoroutine", fn.body.isNone)) = some (false, false) := by kernel_rfl
theorem ent14 : ((Try.prog.funcs[14]?).map fun fn => (fn.name == "runtime.NumGoroutine", fn.body.isNone)) = some (false, false) := by kernel_rfl
theorem ent51 : ((Try.prog.funcs[51]?).map fun fn => (fn.name == "runtime.NumGoroutine", fn.body.isNone)) = some (false, false) := by kernel_rfl
theorem ent52 : ((Try.prog.funcs[52]?).map fun fn => (fn.name == "runtime.NumGoroutine", fn.body.isNone)) = some (false, false) := by kernel_rfl
theorem fo65_0 : fieldOff Try.prog 65 0 = some 0 := by kernel_rfl
theorem fo65_2 : fieldOff Try.prog 65 2 = some 9 := by kernel_rfl
theorem fo65_3 : fieldOff Try.prog 65 3 = some 10 := by kernel_rfl
set_option maxHeartbeats 4000000 in
set_option maxRecDepth 4000 in
theorem rstep_4 (Bd g p ne : Nat) (r : Nat → Int) (cd pa ev : Value) (xe : List Value) (code : List Ins) (i : Ins) (d : Nat) (u : Int) (path : List Int) (w : World) (hB : Bd ≤ w.heap.size) (hT : TS Bd g w cd code ((p : Nat) : Int) r path pa) (hev : w.ownsRow Bd 52 15 ev ne xe) (hnp : path.length ≤ 1000) (hr : ∀ k, wfI (r k)) (hp2 : p ≤ 1000) (hy : code[p]? = some ⟨4, ((d : Nat) : Int), i.a, i.b, i.imm, i.loc, i.off, i.index, i.size, i.fn, i.acq, i.weak, i.rel, i.pred, i.succ, i.to, i.zero⟩) (hix : ronB i.index = true) (hoff : wfI i.off) (hd : d < 8) (hu : wfI u) : Calls Try.prog 38 #[.pointer (some ⟨g, 0, none⟩), .int .i64 u] w fun e w' => e = .returned (.agg (evC (acc4 i r path.length p u))) ∧ Below Bd w w' ∧ w'.ownsRow Bd 52 15 ev ne xe ∧ ∃ pa', TS Bd g w' cd code (((p : Nat) : Int) + 1) (updR r d (I (getR (B u) 0 i.size))) (path ++ [((p : Nat) : Int)]) pa' := by
 obtain ⟨hb, hge, hcd, hpa, op_⟩ := hT
 have oe := own_apart hev hb (by decide)
 have ap := rows_apart hpa hev (by decide)
 have ap2 : ∀ k, ev.ownBlock = some k → pa.ownBlock ≠ some k := fun k h1 h2 => ap k h2 h1
 have b0 : Below Bd w w := Below.refl _ _
 refine enter (n := 111) Try.func38 rfl rfl (Nat.le_of_ble_eq_true rfl) ?_
 intro a1 hA2
 refine wp_seq ?_
 refine wp_region_lit ?_
 refine qs hA2 rfl (dal (wn rfl) zero52 ?_)
 intro g3 w4 eg5 hG6 (m7 : Blk w4 g3 #[.int .i64 0, .int .i64 0, .int .i64 0, .int .i64 0, .int .i64 0, .int .i64 0, .bool false, .bool false, .int .i64 0, .int .i64 0, .bool false, .bool false, .bool false, .int .i64 0, .int .i64 0] 52)
 have ge8 : Bd ≤ g3 := eg5 ▸ (Nat.le_trans hB b0.size)
 have n9 : g ≠ g3 := fun h => Nat.lt_irrefl _ ((h.trans eg5) ▸ hb.lt)
 have off10 := own_new hev eg5
 have off11 := own_new hpa eg5
 have m12 := hb.grow hG6
 have b13 := blg b0 hG6 (Nat.le_trans hB b0.size)
 have ho14 := owg hG6 hev
 have ho15 := owg hG6 hpa
 intro a16 hA17
 refine qe_ ?_
 refine tn_ ?_
 refine wp_seq ?_
 obtain ⟨b18, o19, lt20, hr21, hix22⟩ := (hcd.below b13).at hy
 have hA24 : St 111 [(0, (.pointer (some ⟨g, 0, none⟩))), (1, (.int .i64 u)), (4, (.pointer (some ⟨g3, 0, none⟩)))] a16 := hA17.sub rfl
 let M25 : Nat → Option (Array Value) := fun _ => none
 have hM25 : M25 = fun _ => none := rfl
 clear_value M25
 have hM25A : ∀ k, M25 k = none := fun k => congrFun hM25 k
 have hM25B : ∀ k, k < Bd → M25 k = none := fun k _ => hM25A k
 refine drawnL (S := SM M25) rfl (tabL [cv (.pointer (some ⟨g, 0, none⟩)), cv (.pointer (some ⟨g, 0, none⟩)), cv (.pointer (some ⟨g, 0, none⟩)), cv cd, cv (.pointer (some ⟨g, 0, none⟩)), cv (.pointer (some ⟨g, 0, none⟩)), cv (.pointer (some ⟨g, 9, none⟩)), cv (.int .i64 ((p : Nat) : Int)), cv (.pointer (some ⟨b18, o19, none⟩)), cv (.agg (insC ⟨4, ((d : Nat) : Int), i.a, i.b, i.imm, i.loc, i.off, i.index, i.size, i.fn, i.acq, i.weak, i.rel, i.pred, i.succ, i.to, i.zero⟩)), cBlk M25 hM25A w4.heap.size #[.int .i64 0, .int .i64 0, .int .i64 0, .int .i64 0, .int .i64 0, .int .i64 0, .int .i64 0, .int .i64 0, .int .i64 0, .int .i64 0, .bool false, .bool false, .bool false, .int .i64 0, .int .i64 0, .int .i64 0, .bool false] 23]) none (fun _ => none) (fun _ _ => True) [10, 9, 0, 1, 2, 3, 4, 5, 6, 7, 8] [] mixedY SM.refl SM.trans hA24 (by kernel_rfl) (by kernel_rfl) (fun i v u w h => by cases h) ?_ ?_
 ·skip
  refine ed_ (.inl ⟨nofun, rfl, fun x y hS hT hk => dmv (wn rfl) (hT.ev rfl) ⟨SM.refl _, rfl⟩⟩) ?_
  refine ed_ (.inl ⟨nofun, rfl, fun x y hS hT hk => dnc (wn rfl) (hk 0 rfl) ⟨SM.refl _, rfl⟩⟩) ?_
  refine ed_ (.inl ⟨nofun, rfl, fun x y hS hT hk => dfa (wn rfl) (hk 1 rfl) fo65_0 ⟨SM.refl _, rfl⟩⟩) ?_
  refine ed_ (.inl ⟨nofun, rfl, fun x y hS hT hk => dld (v := cd) (wn rfl) (hk 2 rfl) one35 ((Blk.sm (w := w4.drew) m12 hS (hM25A _)).cell rfl) ⟨SM.refl _, rfl⟩⟩) ?_
  refine ed_ (.inl ⟨nofun, rfl, fun x y hS hT hk => dmv (wn rfl) (hT.ev rfl) ⟨SM.refl _, rfl⟩⟩) ?_
  refine ed_ (.inl ⟨nofun, rfl, fun x y hS hT hk => dnc (wn rfl) (hk 4 rfl) ⟨SM.refl _, rfl⟩⟩) ?_
  refine ed_ (.inl ⟨nofun, rfl, fun x y hS hT hk => dfa (wn rfl) (hk 5 rfl) fo65_2 ⟨SM.refl _, rfl⟩⟩) ?_
  refine ed_ (.inl ⟨nofun, rfl, fun x y hS hT hk => dld (v := (.int .i64 ((p : Nat) : Int))) (wn rfl) (hk 6 rfl) one3 ((Blk.sm (w := w4.drew) m12 hS (hM25A _)).cell rfl) ⟨SM.refl _, rfl⟩⟩) ?_
  refine ed_ (.inl ⟨nofun, rfl, fun x y hS hT hk => dia (j := p) (wn rfl) (hk 3 rfl) (hk 7 rfl) slc35 hix22 (get_lt hy) ⟨SM.refl _, rfl⟩⟩) ?_
  refine ed_ (.inl ⟨nofun, rfl, fun x y hS hT hk => dlm (cs := (insC ⟨4, ((d : Nat) : Int), i.a, i.b, i.imm, i.loc, i.off, i.index, i.size, i.fn, i.acq, i.weak, i.rel, i.pred, i.succ, i.to, i.zero⟩)) (wn rfl) (hk 8 rfl) row23 (range_sm (w := w4.drew) hr21 hS (Nat.lt_of_lt_of_le lt20 (Nat.le_trans hB b13.size)) (hM25B _ lt20)) ⟨SM.refl _, rfl⟩⟩) ?_
  refine ed_ (.inl ⟨nofun, rfl, fun x y hS hT hk => dal (wn rfl) zero23 (fun g w' eg hG hb => ⟨SM.grow hG, g, rfl, eg ▸ hS.size, hb⟩)⟩) ?_
  exact eachD_one
 rintro a26 w27 hA28 ⟨hS30, hC31⟩
 obtain ⟨g23, hg32, hge33, m34⟩ := hC31 10 (Nat.le_of_ble_eq_true rfl)
 have hA35 : St 111 [(0, (.pointer (some ⟨g, 0, none⟩))), (1, (.int .i64 u)), (4, (.pointer (some ⟨g3, 0, none⟩))), (5, (.pointer (some ⟨g23, 0, none⟩))), (16, (.agg (insC ⟨4, ((d : Nat) : Int), i.a, i.b, i.imm, i.loc, i.off, i.index, i.size, i.fn, i.acq, i.weak, i.rel, i.pred, i.succ, i.to, i.zero⟩)))] a26 := hA28.cut _ (fc (hA28.get 0 _ rfl) (fc (hA28.get 1 _ rfl) (fc (hA28.get 4 _ rfl) (fc hg32 (fc (hC31 9 (Nat.le_of_ble_eq_true rfl)) fn_)))))
 have hG36 : Grow w4 w27 := Grow.trans ((Grow.refl _).drew) (SM.grown (by rw [hM25] at hS30; exact hS30))
 have m37 := m12.grow hG36
 have m38 := m7.grow hG36
 have hr39 := range_below hr21 hG36 (Nat.lt_of_lt_of_le lt20 (Nat.le_trans hB b13.size))
 have b40 := blg b13 hG36 (Nat.le_trans hB b13.size)
 have ho41 := owg hG36 ho14
 have ho42 := owg hG36 ho15
 have ge43 : Bd ≤ g23 := Nat.le_trans (Nat.le_trans hB b13.size) hge33
 have n44 : g ≠ g23 := Nat.ne_of_lt (Nat.lt_of_lt_of_le m12.lt hge33)
 have n45 : g3 ≠ g23 := Nat.ne_of_lt (Nat.lt_of_lt_of_le m7.lt hge33)
 have off46 : ev.ownBlock ≠ some g23 := fun e => Nat.lt_irrefl _ (Nat.lt_of_lt_of_le (own_lt ho14 _ e).2 hge33)
 have off47 : pa.ownBlock ≠ some g23 := fun e => Nat.lt_irrefl _ (Nat.lt_of_lt_of_le (own_lt ho15 _ e).2 hge33)
 refine dsr (wn rfl) (hA35.ev rfl) (hA35.ev rfl) row23 m34 rfl rfl ?_
 intro w48 hU49 (m50 : Blk w48 g23 (insC ⟨4, ((d : Nat) : Int), i.a, i.b, i.imm, i.loc, i.off, i.index, i.size, i.fn, i.acq, i.weak, i.rel, i.pred, i.succ, i.to, i.zero⟩) 23)
 have m51 := m37.upd hU49 n44
 have m52 := m38.upd hU49 n45
 have hr53 := range_upd hr39 hU49 (Nat.ne_of_lt (Nat.lt_of_lt_of_le lt20 ge43))
 have b54 := hU49.below b40 ge43
 have ho55 := own_upd ho41 hU49 off46
 have ho56 := own_upd ho42 hU49 off47
 refine tn_ ?_
 refine wp_seq ?_
 have hA58 : St 111 [(0, (.pointer (some ⟨g, 0, none⟩))), (1, (.int .i64 u)), (4, (.pointer (some ⟨g3, 0, none⟩))), (5, (.pointer (some ⟨g23, 0, none⟩)))] a26 := hA35.sub rfl
 let M59 : Nat → Option (Array Value) := fun _ => none
 have hM59 : M59 = fun _ => none := rfl
 clear_value M59
 have hM59A : ∀ k, M59 k = none := fun k => congrFun hM59 k
 have hM59B : ∀ k, k < Bd → M59 k = none := fun k _ => hM59A k
 refine drawnL (S := SM M59) rfl (tabL [cv (.pointer (some ⟨g, 0, none⟩)), cv (.pointer (some ⟨g, 0, none⟩)), cv (.pointer (some ⟨g, 10, none⟩)), cv pa, cv (.int .i64 ((path.length : Nat) : Int)), cv (.pointer (some ⟨g, 0, none⟩)), cv (.pointer (some ⟨g, 0, none⟩)), cv (.pointer (some ⟨g, 9, none⟩)), cv (.int .i64 ((p : Nat) : Int)), cv (.pointer (some ⟨g23, 0, none⟩)), cv (.int .i64 4), cv (.pointer (some ⟨g23, 10, none⟩)), cv (.bool i.acq), cv (.pointer (some ⟨g23, 11, none⟩)), cv (.bool i.weak), cv (.pointer (some ⟨g23, 12, none⟩)), cv (.bool i.rel), cv (.pointer (some ⟨g23, 13, none⟩)), cv (.int .i64 i.pred), cv (.pointer (some ⟨g23, 14, none⟩)), cv (.int .i64 i.succ), cv (.agg (insC ⟨4, ((d : Nat) : Int), i.a, i.b, i.imm, i.loc, i.off, i.index, i.size, i.fn, i.acq, i.weak, i.rel, i.pred, i.succ, i.to, i.zero⟩)), cv (.bool true), cv (.agg (insC ⟨4, ((d : Nat) : Int), i.a, i.b, i.imm, i.loc, i.off, i.index, i.size, i.fn, i.acq, i.weak, i.rel, i.pred, i.succ, i.to, i.zero⟩)), cv (.bool false), cv (.agg #[.int .i64 0, .int .i64 ((path.length : Nat) : Int), .int .i64 ((p : Nat) : Int), .int .i64 4, .int .i64 0, .int .i64 0, .bool true, .bool false, .int .i64 0, .int .i64 0, .bool i.acq, .bool i.weak, .bool i.rel, .int .i64 i.pred, .int .i64 i.succ]), cBlk M59 hM59A w48.heap.size #[.int .i64 0, .int .i64 0, .int .i64 0, .int .i64 0, .int .i64 0, .int .i64 0, .bool false, .bool false, .int .i64 0, .int .i64 0, .bool false, .bool false, .bool false, .int .i64 0, .int .i64 0] 52]) none (fun _ => none) (fun _ _ => True) [26, 25, 24, 0, 1, 2, 3, 4, 5, 6, 7, 8, 9, 10, 11, 12, 13, 14, 15, 16, 17, 18, 19, 20, 21, 22, 23] [] mixedY SM.refl SM.trans hA58 (by kernel_rfl) (by kernel_rfl) (fun i v u w h => by cases h) ?_ ?_
 ·skip
  refine ed_ (.inl ⟨nofun, rfl, fun x y hS hT hk => dmv (wn rfl) (hT.ev rfl) ⟨SM.refl _, rfl⟩⟩) ?_
  refine ed_ (.inl ⟨nofun, rfl, fun x y hS hT hk => dnc (wn rfl) (hk 0 rfl) ⟨SM.refl _, rfl⟩⟩) ?_
  refine ed_ (.inl ⟨nofun, rfl, fun x y hS hT hk => dfa (wn rfl) (hk 1 rfl) fo65_3 ⟨SM.refl _, rfl⟩⟩) ?_
  refine ed_ (.inl ⟨nofun, rfl, fun x y hS hT hk => dld (v := pa) (wn rfl) (hk 2 rfl) one30 ((Blk.sm (w := w48.drew) m51 hS (hM59A _)).cell rfl) ⟨SM.refl _, rfl⟩⟩) ?_
  refine ed_ (.inl ⟨nofun, rfl, fun x y hS hT hk => dle (n := path.length) (wn rfl) (hk 3 rfl) slc30 (own_form ho56) ⟨SM.refl _, rfl⟩⟩) ?_
  refine ed_ (.inl ⟨nofun, rfl, fun x y hS hT hk => dmv (wn rfl) (hT.ev rfl) ⟨SM.refl _, rfl⟩⟩) ?_
  refine ed_ (.inl ⟨nofun, rfl, fun x y hS hT hk => dnc (wn rfl) (hk 5 rfl) ⟨SM.refl _, rfl⟩⟩) ?_
  refine ed_ (.inl ⟨nofun, rfl, fun x y hS hT hk => dfa (wn rfl) (hk 6 rfl) fo65_2 ⟨SM.refl _, rfl⟩⟩) ?_
  refine ed_ (.inl ⟨nofun, rfl, fun x y hS hT hk => dld (v := (.int .i64 ((p : Nat) : Int))) (wn rfl) (hk 7 rfl) one3 ((Blk.sm (w := w48.drew) m51 hS (hM59A _)).cell rfl) ⟨SM.refl _, rfl⟩⟩) ?_
  refine ed_ (.inl ⟨nofun, rfl, fun x y hS hT hk => dfa (wn rfl) (hT.ev rfl) fo23_0 ⟨SM.refl _, rfl⟩⟩) ?_
  refine ed_ (.inl ⟨nofun, rfl, fun x y hS hT hk => dld (v := (.int .i64 4)) (wn rfl) (hk 9 rfl) one3 ((Blk.sm (w := w48.drew) m50 hS (hM59A _)).cell rfl) ⟨SM.refl _, rfl⟩⟩) ?_
  refine ed_ (.inl ⟨nofun, rfl, fun x y hS hT hk => dfa (wn rfl) (hT.ev rfl) fo23_10 ⟨SM.refl _, rfl⟩⟩) ?_
  refine ed_ (.inl ⟨nofun, rfl, fun x y hS hT hk => dld (v := (.bool i.acq)) (wn rfl) (hk 11 rfl) one4 ((Blk.sm (w := w48.drew) m50 hS (hM59A _)).cell rfl) ⟨SM.refl _, rfl⟩⟩) ?_
  refine ed_ (.inl ⟨nofun, rfl, fun x y hS hT hk => dfa (wn rfl) (hT.ev rfl) fo23_11 ⟨SM.refl _, rfl⟩⟩) ?_
  refine ed_ (.inl ⟨nofun, rfl, fun x y hS hT hk => dld (v := (.bool i.weak)) (wn rfl) (hk 13 rfl) one4 ((Blk.sm (w := w48.drew) m50 hS (hM59A _)).cell rfl) ⟨SM.refl _, rfl⟩⟩) ?_
  refine ed_ (.inl ⟨nofun, rfl, fun x y hS hT hk => dfa (wn rfl) (hT.ev rfl) fo23_12 ⟨SM.refl _, rfl⟩⟩) ?_
  refine ed_ (.inl ⟨nofun, rfl, fun x y hS hT hk => dld (v := (.bool i.rel)) (wn rfl) (hk 15 rfl) one4 ((Blk.sm (w := w48.drew) m50 hS (hM59A _)).cell rfl) ⟨SM.refl _, rfl⟩⟩) ?_
  refine ed_ (.inl ⟨nofun, rfl, fun x y hS hT hk => dfa (wn rfl) (hT.ev rfl) fo23_13 ⟨SM.refl _, rfl⟩⟩) ?_
  refine ed_ (.inl ⟨nofun, rfl, fun x y hS hT hk => dld (v := (.int .i64 i.pred)) (wn rfl) (hk 17 rfl) one3 ((Blk.sm (w := w48.drew) m50 hS (hM59A _)).cell rfl) ⟨SM.refl _, rfl⟩⟩) ?_
  refine ed_ (.inl ⟨nofun, rfl, fun x y hS hT hk => dfa (wn rfl) (hT.ev rfl) fo23_14 ⟨SM.refl _, rfl⟩⟩) ?_
  refine ed_ (.inl ⟨nofun, rfl, fun x y hS hT hk => dld (v := (.int .i64 i.succ)) (wn rfl) (hk 19 rfl) one3 ((Blk.sm (w := w48.drew) m50 hS (hM59A _)).cell rfl) ⟨SM.refl _, rfl⟩⟩) ?_
  refine ed_ (.inl ⟨nofun, rfl, fun x y hS hT hk => dlr (cs := (insC ⟨4, ((d : Nat) : Int), i.a, i.b, i.imm, i.loc, i.off, i.index, i.size, i.fn, i.acq, i.weak, i.rel, i.pred, i.succ, i.to, i.zero⟩)) (wn rfl) (hT.ev rfl) row23 (Blk.sm (w := w48.drew) m50 hS (hM59A _)) ⟨SM.refl _, rfl⟩⟩) ?_
  refine ed_ (.inl ⟨nofun, rfl, fun x y hS hT hk => dcl (wn rfl) ent12 (map1 (show x.eval _ = (.agg (insC ⟨4, ((d : Nat) : Int), i.a, i.b, i.imm, i.loc, i.off, i.index, i.size, i.fn, i.acq, i.weak, i.rel, i.pred, i.succ, i.to, i.zero⟩)) from (hk 21 rfl))) (rreads_any (⟨4, ((d : Nat) : Int), i.a, i.b, i.imm, i.loc, i.off, i.index, i.size, i.fn, i.acq, i.weak, i.rel, i.pred, i.succ, i.to, i.zero⟩) y) (fun _ _ ⟨he, hG⟩ => ⟨(.bool true), he, SM.grow hG, rfl⟩)⟩) ?_
  refine ed_ (.inl ⟨nofun, rfl, fun x y hS hT hk => dlr (cs := (insC ⟨4, ((d : Nat) : Int), i.a, i.b, i.imm, i.loc, i.off, i.index, i.size, i.fn, i.acq, i.weak, i.rel, i.pred, i.succ, i.to, i.zero⟩)) (wn rfl) (hT.ev rfl) row23 (Blk.sm (w := w48.drew) m50 hS (hM59A _)) ⟨SM.refl _, rfl⟩⟩) ?_
  refine ed_ (.inl ⟨nofun, rfl, fun x y hS hT hk => dcl (wn rfl) ent14 (map1 (show x.eval _ = (.agg (insC ⟨4, ((d : Nat) : Int), i.a, i.b, i.imm, i.loc, i.off, i.index, i.size, i.fn, i.acq, i.weak, i.rel, i.pred, i.succ, i.to, i.zero⟩)) from (hk 23 rfl))) (rwrites_any (⟨4, ((d : Nat) : Int), i.a, i.b, i.imm, i.loc, i.off, i.index, i.size, i.fn, i.acq, i.weak, i.rel, i.pred, i.succ, i.to, i.zero⟩) y) (fun _ _ ⟨he, hG⟩ => ⟨(.bool false), he, SM.grow hG, rfl⟩)⟩) ?_
  refine ed_ (.inl ⟨nofun, rfl, fun x y hS hT hk => dbd (cs := #[.int .i64 0, .int .i64 ((path.length : Nat) : Int), .int .i64 ((p : Nat) : Int), .int .i64 4, .int .i64 0, .int .i64 0, .bool true, .bool false, .int .i64 0, .int .i64 0, .bool i.acq, .bool i.weak, .bool i.rel, .int .i64 i.pred, .int .i64 i.succ]) (wn rfl) (bp_of (bq_cons (show x.eval _ = (.int .i64 ((path.length : Nat) : Int)) from (hk 4 rfl)) (bq_cons (show x.eval _ = (.int .i64 ((p : Nat) : Int)) from (hk 8 rfl)) (bq_cons (show x.eval _ = (.int .i64 4) from (hk 10 rfl)) (bq_cons (show x.eval _ = (.bool i.acq) from (hk 12 rfl)) (bq_cons (show x.eval _ = (.bool i.weak) from (hk 14 rfl)) (bq_cons (show x.eval _ = (.bool i.rel) from (hk 16 rfl)) (bq_cons (show x.eval _ = (.int .i64 i.pred) from (hk 18 rfl)) (bq_cons (show x.eval _ = (.int .i64 i.succ) from (hk 20 rfl)) (bq_cons (show x.eval _ = (.bool true) from (hk 22 rfl)) (bq_cons (show x.eval _ = (.bool false) from (hk 24 rfl)) bq_nil))))))))))) zero52 places52 (by kernel_rfl) ⟨SM.refl _, rfl⟩⟩) ?_
  refine ed_ (.inl ⟨nofun, rfl, fun x y hS hT hk => dal (wn rfl) zero52 (fun g w' eg hG hb => ⟨SM.grow hG, g, rfl, eg ▸ hS.size, hb⟩)⟩) ?_
  exact eachD_one
 rintro a60 w61 hA62 ⟨hS64, hC65⟩
 obtain ⟨g57, hg66, hge67, m68⟩ := hC65 26 (Nat.le_of_ble_eq_true rfl)
 have hA69 : St 111 [(0, (.pointer (some ⟨g, 0, none⟩))), (1, (.int .i64 u)), (4, (.pointer (some ⟨g3, 0, none⟩))), (5, (.pointer (some ⟨g23, 0, none⟩))), (6, (.pointer (some ⟨g57, 0, none⟩))), (42, (.agg #[.int .i64 0, .int .i64 ((path.length : Nat) : Int), .int .i64 ((p : Nat) : Int), .int .i64 4, .int .i64 0, .int .i64 0, .bool true, .bool false, .int .i64 0, .int .i64 0, .bool i.acq, .bool i.weak, .bool i.rel, .int .i64 i.pred, .int .i64 i.succ]))] a60 := hA62.cut _ (fc (hA62.get 0 _ rfl) (fc (hA62.get 1 _ rfl) (fc (hA62.get 4 _ rfl) (fc (hA62.get 5 _ rfl) (fc hg66 (fc (hC65 25 (Nat.le_of_ble_eq_true rfl)) fn_))))))
 have hG70 : Grow w48 w61 := Grow.trans ((Grow.refl _).drew) (SM.grown (by rw [hM59] at hS64; exact hS64))
 have m71 := m51.grow hG70
 have m72 := m52.grow hG70
 have m73 := m50.grow hG70
 have b74 := blg b54 hG70 (Nat.le_trans hB b54.size)
 have ho75 := owg hG70 ho55
 have ho76 := owg hG70 ho56
 have ge77 : Bd ≤ g57 := Nat.le_trans (Nat.le_trans hB b54.size) hge67
 have n78 : g ≠ g57 := Nat.ne_of_lt (Nat.lt_of_lt_of_le m51.lt hge67)
 have n79 : g3 ≠ g57 := Nat.ne_of_lt (Nat.lt_of_lt_of_le m52.lt hge67)
 have n80 : g23 ≠ g57 := Nat.ne_of_lt (Nat.lt_of_lt_of_le m50.lt hge67)
 have off81 : ev.ownBlock ≠ some g57 := fun e => Nat.lt_irrefl _ (Nat.lt_of_lt_of_le (own_lt ho55 _ e).2 hge67)
 have off82 : pa.ownBlock ≠ some g57 := fun e => Nat.lt_irrefl _ (Nat.lt_of_lt_of_le (own_lt ho56 _ e).2 hge67)
 refine dsr (wn rfl) (hA69.ev rfl) (hA69.ev rfl) row52 m68 rfl rfl ?_
 intro w83 hU84 (m85 : Blk w83 g57 #[.int .i64 0, .int .i64 ((path.length : Nat) : Int), .int .i64 ((p : Nat) : Int), .int .i64 4, .int .i64 0, .int .i64 0, .bool true, .bool false, .int .i64 0, .int .i64 0, .bool i.acq, .bool i.weak, .bool i.rel, .int .i64 i.pred, .int .i64 i.succ] 52)
 have m86 := m71.upd hU84 n78
 have m87 := m72.upd hU84 n79
 have m88 := m73.upd hU84 n80
 have b89 := hU84.below b74 ge77
 have ho90 := own_upd ho75 hU84 off81
 have ho91 := own_upd ho76 hU84 off82
 refine tn_ ?_
 refine wp_seq ?_
 refine wp_seq ?_
 refine wp_region_lit ?_
 refine qs hA69 rfl (dlr (cs := (insC ⟨4, ((d : Nat) : Int), i.a, i.b, i.imm, i.loc, i.off, i.index, i.size, i.fn, i.acq, i.weak, i.rel, i.pred, i.succ, i.to, i.zero⟩)) (wn rfl) (hA69.ev rfl) row23 m88 ?_)
 intro a92 hA93
 refine qs hA93 rfl (dcl (wn rfl) ent32 (map1 (hA93.ev rfl)) (memory_any (⟨4, ((d : Nat) : Int), i.a, i.b, i.imm, i.loc, i.off, i.index, i.size, i.fn, i.acq, i.weak, i.rel, i.pred, i.succ, i.to, i.zero⟩) w83) ?_)
 rintro e97 w94 ⟨he96, hG95⟩
 have m98 := m86.grow hG95
 have m99 := m87.grow hG95
 have m100 := m88.grow hG95
 have m101 := m85.grow hG95
 have b102 := blg b89 hG95 (Nat.le_trans hB b89.size)
 have ho103 := owg hG95 ho90
 have ho104 := owg hG95 ho91
 refine ⟨(.bool true), he96, ?_⟩
 intro a105 hA106
 refine qe_ ?_
 refine tn_ ?_
 refine c_true hA106 rfl ?_
 refine wp_region_lit ?_
 refine qs hA106 rfl (dmv (wn rfl) (hA106.ev rfl) ?_)
 intro a107 hA108
 refine qs hA108 rfl (dlr (cs := (insC ⟨4, ((d : Nat) : Int), i.a, i.b, i.imm, i.loc, i.off, i.index, i.size, i.fn, i.acq, i.weak, i.rel, i.pred, i.succ, i.to, i.zero⟩)) (wn rfl) (hA108.ev rfl) row23 m100 ?_)
 intro a109 hA110
 refine qs hA110 rfl (dcl (wn rfl) ent51 (map2 (hA110.ev rfl) (hA110.ev rfl)) (where_any g cd r ((p : Nat) : Int) pa (⟨4, ((d : Nat) : Int), i.a, i.b, i.imm, i.loc, i.off, i.index, i.size, i.fn, i.acq, i.weak, i.rel, i.pred, i.succ, i.to, i.zero⟩) w94 m98 hr hix hoff) ?_)
 rintro e114 w111 ⟨he113, hG112⟩
 have m115 := m98.grow hG112
 have m116 := m99.grow hG112
 have m117 := m100.grow hG112
 have m118 := m101.grow hG112
 have b119 := blg b102 hG112 (Nat.le_trans hB b102.size)
 have ho120 := owg hG112 ho103
 have ho121 := owg hG112 ho104
 refine ⟨(.agg #[.int .i64 i.loc, .int .i64 (spanM i r)]), he113, ?_⟩
 intro a122 hA123
 refine qs hA123 rfl (dfa (wn rfl) (hA123.ev rfl) fo52_4 ?_)
 intro a124 hA125
 refine qs hA125 rfl (d_store2 (wn rfl) (hA125.ev rfl) (hA125.ev rfl) row50 rfl rfl m118 (Nat.le_of_ble_eq_true rfl) ?_)
 intro w126 hU127 (m128 : Blk w126 g57 #[.int .i64 0, .int .i64 ((path.length : Nat) : Int), .int .i64 ((p : Nat) : Int), .int .i64 4, .int .i64 i.loc, .int .i64 (spanM i r), .bool true, .bool false, .int .i64 0, .int .i64 0, .bool i.acq, .bool i.weak, .bool i.rel, .int .i64 i.pred, .int .i64 i.succ] 52)
 have m129 := m115.upd hU127 n78
 have m130 := m116.upd hU127 n79
 have m131 := m117.upd hU127 n80
 have b132 := hU127.below b119 ge77
 have ho133 := own_upd ho120 hU127 off81
 have ho134 := own_upd ho121 hU127 off82
 intro a135 hA136
 refine qe_ ?_
 refine tn_ ?_
 refine wp_seq ?_
 refine wp_seq ?_
 refine wp_region_lit ?_
 refine qs hA136 rfl (dfa (wn rfl) (hA136.ev rfl) fo52_5 ?_)
 intro a137 hA138
 refine qs hA138 rfl (dld (v := (.bool true)) (wn rfl) (hA138.ev rfl) one4 (m128.cell rfl) ?_)
 intro a139 hA140
 refine qe_ ?_
 refine tn_ ?_
 refine c_true hA140 rfl ?_
 refine wp_region_lit ?_
 refine qs hA140 rfl (dmv (wn rfl) (hA140.ev rfl) ?_)
 intro a141 hA142
 refine qs hA142 rfl (dfa (wn rfl) (hA142.ev rfl) fo23_8 ?_)
 intro a143 hA144
 refine qs hA144 rfl (dld (v := (.int .i64 i.size)) (wn rfl) (hA144.ev rfl) one3 (m131.cell rfl) ?_)
 intro a145 hA146
 refine qs hA146 rfl (dcl (wn rfl) ent52 (map3 (hA146.ev rfl) (hA146.ev rfl) (hA146.ev rfl)) (rget_w u 0 i.size w126 hu) ?_)
 rintro e150 w147 ⟨he149, hG1480⟩
 have hG148 : Grow w126 w147 := hG1480 ▸ Grow.refl _
 have m151 := m129.grow hG148
 have m152 := m130.grow hG148
 have m153 := m131.grow hG148
 have m154 := m128.grow hG148
 have b155 := blg b132 hG148 (Nat.le_trans hB b132.size)
 have ho156 := owg hG148 ho133
 have ho157 := owg hG148 ho134
 refine ⟨(.int .i64 (I (getR (B u) 0 i.size))), he149, ?_⟩
 intro a158 hA159
 refine qs hA159 rfl (dfa (wn rfl) (hA159.ev rfl) fo52_7 ?_)
 intro a160 hA161
 refine qs hA161 rfl (dst_ (wn rfl) (hA161.ev rfl) (hA161.ev rfl) one3 rfl m154 (Nat.le_of_ble_eq_true rfl) ?_)
 intro w162 hU163 (m164 : Blk w162 g57 #[.int .i64 0, .int .i64 ((path.length : Nat) : Int), .int .i64 ((p : Nat) : Int), .int .i64 4, .int .i64 i.loc, .int .i64 (spanM i r), .bool true, .bool false, .int .i64 (I (getR (B u) 0 i.size)), .int .i64 0, .bool i.acq, .bool i.weak, .bool i.rel, .int .i64 i.pred, .int .i64 i.succ] 52)
 have m165 := m151.upd hU163 n78
 have m166 := m152.upd hU163 n79
 have m167 := m153.upd hU163 n80
 have b168 := hU163.below b155 ge77
 have ho169 := own_upd ho156 hU163 off81
 have ho170 := own_upd ho157 hU163 off82
 intro a171 hA172
 refine qe_ ?_
 refine tn_ ?_
 refine wp_seq ?_
 refine wp_seq ?_
 refine wp_region_lit ?_
 refine qs hA172 rfl (dfa (wn rfl) (hA172.ev rfl) fo23_0 ?_)
 intro a173 hA174
 refine qs hA174 rfl (dld (v := (.int .i64 4)) (wn rfl) (hA174.ev rfl) one3 (m167.cell rfl) ?_)
 intro a175 hA176
 refine qs hA176 rfl (dbn (wn rfl) (hA176.ev rfl) (hA176.ev rfl) (b_eq _ _ 4 5 false _ rfl) ?_)
 intro a177 hA178
 refine qe_ ?_
 refine tn_ ?_
 refine c_false hA178 rfl ?_
 refine wp_skip ?_
 refine tn_ ?_
 refine wp_seq ?_
 refine wp_seq ?_
 refine wp_region_lit ?_
 refine qs hA178 rfl (dfa (wn rfl) (hA178.ev rfl) fo23_0 ?_)
 intro a179 hA180
 refine qs hA180 rfl (dld (v := (.int .i64 4)) (wn rfl) (hA180.ev rfl) one3 (m167.cell rfl) ?_)
 intro a181 hA182
 refine qs hA182 rfl (dbn (wn rfl) (hA182.ev rfl) (hA182.ev rfl) (b_eq _ _ 4 6 false _ rfl) ?_)
 intro a183 hA184
 refine qe_ ?_
 refine tn_ ?_
 refine c_false hA184 rfl ?_
 refine wp_skip ?_
 refine tn_ ?_
 refine wp_seq ?_
 refine wp_seq ?_
 refine wp_region_lit ?_
 refine qs hA184 rfl (dfa (wn rfl) (hA184.ev rfl) fo52_5 ?_)
 intro a185 hA186
 refine qs hA186 rfl (dld (v := (.bool true)) (wn rfl) (hA186.ev rfl) one4 (m164.cell rfl) ?_)
 intro a187 hA188
 refine qe_ ?_
 refine tn_ ?_
 refine c_true hA188 rfl ?_
 have hA189 : St 111 [(0, (.pointer (some ⟨g, 0, none⟩))), (4, (.pointer (some ⟨g3, 0, none⟩))), (5, (.pointer (some ⟨g23, 0, none⟩))), (6, (.pointer (some ⟨g57, 0, none⟩)))] a187 := hA188.sub rfl
 let M190 : Nat → Option (Array Value) := fun _ => none
 have hM190 : M190 = fun _ => none := rfl
 clear_value M190
 have hM190A : ∀ k, M190 k = none := fun k => congrFun hM190 k
 have hM190B : ∀ k, k < Bd → M190 k = none := fun k _ => hM190A k
 refine drawnL (S := SM M190) rfl (tabL [cv (.pointer (some ⟨g, 0, none⟩)), cv (.pointer (some ⟨g23, 1, none⟩)), cv (.int .i64 ((d : Nat) : Int)), cv (.pointer (some ⟨g57, 8, none⟩)), cv (.int .i64 (I (getR (B u) 0 i.size))), cv (.pointer (some ⟨g, 0, none⟩)), cv (.pointer (some ⟨g, 1, none⟩)), cv (.pointer (some ⟨g, 1 + d, none⟩))]) none (fun _ => none) (fun _ _ => True) [7, 4, 0, 1, 2, 3, 6, 5] [] mixedY SM.refl SM.trans hA189 (by kernel_rfl) (by kernel_rfl) (fun i v u w h => by cases h) ?_ ?_
 ·skip
  refine ed_ (.inl ⟨nofun, rfl, fun x y hS hT hk => dmv (wn rfl) (hT.ev rfl) ⟨SM.refl _, rfl⟩⟩) ?_
  refine ed_ (.inl ⟨nofun, rfl, fun x y hS hT hk => dfa (wn rfl) (hT.ev rfl) fo23_1 ⟨SM.refl _, rfl⟩⟩) ?_
  refine ed_ (.inl ⟨nofun, rfl, fun x y hS hT hk => dld (v := (.int .i64 ((d : Nat) : Int))) (wn rfl) (hk 1 rfl) one3 ((Blk.sm (w := w162.drew) m167 hS (hM190A _)).cell rfl) ⟨SM.refl _, rfl⟩⟩) ?_
  refine ed_ (.inl ⟨nofun, rfl, fun x y hS hT hk => dfa (wn rfl) (hT.ev rfl) fo52_7 ⟨SM.refl _, rfl⟩⟩) ?_
  refine ed_ (.inl ⟨nofun, rfl, fun x y hS hT hk => dld (v := (.int .i64 (I (getR (B u) 0 i.size)))) (wn rfl) (hk 3 rfl) one3 ((Blk.sm (w := w162.drew) m164 hS (hM190A _)).cell rfl) ⟨SM.refl _, rfl⟩⟩) ?_
  refine ed_ (.inl ⟨nofun, rfl, fun x y hS hT hk => dnc (wn rfl) (hk 0 rfl) ⟨SM.refl _, rfl⟩⟩) ?_
  refine ed_ (.inl ⟨nofun, rfl, fun x y hS hT hk => dfa (wn rfl) (hk 5 rfl) fo65_1 ⟨SM.refl _, rfl⟩⟩) ?_
  refine ed_ (.inl ⟨nofun, rfl, fun x y hS hT hk => dix (j := d) (p := 1 + d) (wn rfl) (hk 6 rfl) (hk 2 rfl) arr43 (by omega) (by omega) ⟨SM.refl _, rfl⟩⟩) ?_
  exact eachD_one
 rintro a191 w192 hA193 ⟨hS195, hC196⟩
 have hA197 : St 111 [(0, (.pointer (some ⟨g, 0, none⟩))), (4, (.pointer (some ⟨g3, 0, none⟩))), (6, (.pointer (some ⟨g57, 0, none⟩))), (86, (.int .i64 (I (getR (B u) 0 i.size)))), (89, (.pointer (some ⟨g, 1 + d, none⟩)))] a191 := hA193.cut _ (fc (hA193.get 0 _ rfl) (fc (hA193.get 4 _ rfl) (fc (hA193.get 6 _ rfl) (fc (hC196 4 (Nat.le_of_ble_eq_true rfl)) (fc (hC196 7 (Nat.le_of_ble_eq_true rfl)) fn_)))))
 have hG198 : Grow w162 w192 := Grow.trans ((Grow.refl _).drew) (SM.grown (by rw [hM190] at hS195; exact hS195))
 have m199 := m165.grow hG198
 have m200 := m166.grow hG198
 have m201 := m167.grow hG198
 have m202 := m164.grow hG198
 have b203 := blg b168 hG198 (Nat.le_trans hB b168.size)
 have ho204 := owg hG198 ho169
 have ho205 := owg hG198 ho170
 refine dst_ (v := (.int .i64 (I (getR (B u) 0 i.size)))) (wn rfl) (hA197.ev rfl) (hA197.ev rfl) one3 rfl m199 (by rw [thr_size]; omega) ?_
 intro w206 hU207 m208
 rw [thr_set (by omega)] at m208
 have m209 := m200.upd hU207 (Ne.symm n9)
 have m210 := m201.upd hU207 (Ne.symm n44)
 have m211 := m202.upd hU207 (Ne.symm n78)
 have b212 := hU207.below b203 hge
 have ho213 := own_upd ho204 hU207 oe
 have ho214 := own_upd ho205 hU207 op_
 refine tn_ ?_
 refine wp_seq ?_
 have hA215 : St 111 [(0, (.pointer (some ⟨g, 0, none⟩))), (4, (.pointer (some ⟨g3, 0, none⟩))), (6, (.pointer (some ⟨g57, 0, none⟩)))] a191 := hA197.sub rfl
 let M216 : Nat → Option (Array Value) := fun _ => none
 have hM216 : M216 = fun _ => none := rfl
 clear_value M216
 have hM216A : ∀ k, M216 k = none := fun k => congrFun hM216 k
 have hM216B : ∀ k, k < Bd → M216 k = none := fun k _ => hM216A k
 refine drawnL (S := SM M216) rfl (tabQ [some (.pointer (some ⟨g, 0, none⟩)), some (.pointer (some ⟨g, 0, none⟩)), some (.pointer (some ⟨g, 0, none⟩)), some (.pointer (some ⟨g, 10, none⟩)), none, some (.pointer (some ⟨g, 0, none⟩)), some (.pointer (some ⟨g, 0, none⟩)), some (.pointer (some ⟨g, 9, none⟩)), none, none, none, some (.pointer (some ⟨g, 0, none⟩)), some (.pointer (some ⟨g, 10, none⟩))] [cv (.pointer (some ⟨g, 0, none⟩)), cv (.pointer (some ⟨g, 0, none⟩)), cv (.pointer (some ⟨g, 0, none⟩)), cv (.pointer (some ⟨g, 10, none⟩)), cv pa, cv (.pointer (some ⟨g, 0, none⟩)), cv (.pointer (some ⟨g, 0, none⟩)), cv (.pointer (some ⟨g, 9, none⟩)), cv (.int .i64 ((p : Nat) : Int)), cs1 M216 hM216A #[.int .i64 ((p : Nat) : Int)] 3, cfree, cv (.pointer (some ⟨g, 0, none⟩)), cv (.pointer (some ⟨g, 10, none⟩))]) (some 10) (fun i => (([some (.pointer (some ⟨g, 0, none⟩)), some (.pointer (some ⟨g, 0, none⟩)), some (.pointer (some ⟨g, 0, none⟩)), some (.pointer (some ⟨g, 10, none⟩)), none, some (.pointer (some ⟨g, 0, none⟩)), some (.pointer (some ⟨g, 0, none⟩)), some (.pointer (some ⟨g, 9, none⟩)), none, none, none, some (.pointer (some ⟨g, 0, none⟩)), some (.pointer (some ⟨g, 10, none⟩))] : List (Option Value))[i]?).getD none) (fun v' w' => w'.ownsRow Bd 3 1 v' (path.length + 1) ((paE path) ++ (#[.int .i64 ((p : Nat) : Int)] : Array Value).toList) ∧ Below Bd w w' ∧ Blk w' g (thrC cd (updR r d (I (getR (B u) 0 i.size))) ((p : Nat) : Int) pa) 65 ∧ Blk w' g3 #[.int .i64 0, .int .i64 0, .int .i64 0, .int .i64 0, .int .i64 0, .int .i64 0, .bool false, .bool false, .int .i64 0, .int .i64 0, .bool false, .bool false, .bool false, .int .i64 0, .int .i64 0] 52 ∧ Blk w' g23 (insC ⟨4, ((d : Nat) : Int), i.a, i.b, i.imm, i.loc, i.off, i.index, i.size, i.fn, i.acq, i.weak, i.rel, i.pred, i.succ, i.to, i.zero⟩) 23 ∧ Blk w' g57 #[.int .i64 0, .int .i64 ((path.length : Nat) : Int), .int .i64 ((p : Nat) : Int), .int .i64 4, .int .i64 i.loc, .int .i64 (spanM i r), .bool true, .bool false, .int .i64 (I (getR (B u) 0 i.size)), .int .i64 0, .bool i.acq, .bool i.weak, .bool i.rel, .int .i64 i.pred, .int .i64 i.succ] 52 ∧ w'.ownsRow Bd 52 15 ev ne xe ∧ v'.ownBlock ≠ some g ∧ v'.ownBlock ≠ some g3 ∧ v'.ownBlock ≠ some g23 ∧ v'.ownBlock ≠ some g57 ∧ ∀ k, ev.ownBlock = some k → v'.ownBlock ≠ some k) [12, 10, 0, 1, 2, 3, 4, 5, 6, 7, 8, 9, 11] [4, 9, 3, 8, 2, 7, 1, 6, 5] mixedY SM.refl SM.trans hA215 (by kernel_rfl) (by kernel_rfl) (tabQ_cv _ _) ?_ ?_
 ·skip
  refine ed_ (.inr (.inl ⟨by decide, _, rfl, fun x y hT hk hk0 => dmv (wn rfl) (hT.ev rfl) ⟨rfl, rfl⟩⟩)) ?_
  refine ed_ (.inr (.inl ⟨by decide, _, rfl, fun x y hT hk hk0 => dmv (wn rfl) (hT.ev rfl) ⟨rfl, rfl⟩⟩)) ?_
  refine ed_ (.inr (.inl ⟨by decide, _, rfl, fun x y hT hk hk0 => dnc (wn rfl) (hk 1 _ rfl rfl) ⟨rfl, rfl⟩⟩)) ?_
  refine ed_ (.inr (.inl ⟨by decide, _, rfl, fun x y hT hk hk0 => dfa (wn rfl) (hk 2 _ rfl rfl) fo65_3 ⟨rfl, rfl⟩⟩)) ?_
  refine ed_ (.inl ⟨by decide, rfl, fun x y hS hT hk => dld (v := pa) (wn rfl) (hk 3 rfl) one30 ((Blk.sm (w := w206.drew) m208 hS (hM216A _)).cell rfl) ⟨SM.refl _, rfl⟩⟩) ?_
  refine ed_ (.inr (.inl ⟨by decide, _, rfl, fun x y hT hk hk0 => dmv (wn rfl) (hT.ev rfl) ⟨rfl, rfl⟩⟩)) ?_
  refine ed_ (.inr (.inl ⟨by decide, _, rfl, fun x y hT hk hk0 => dnc (wn rfl) (hk 5 _ rfl rfl) ⟨rfl, rfl⟩⟩)) ?_
  refine ed_ (.inr (.inl ⟨by decide, _, rfl, fun x y hT hk hk0 => dfa (wn rfl) (hk 6 _ rfl rfl) fo65_2 ⟨rfl, rfl⟩⟩)) ?_
  refine ed_ (.inl ⟨by decide, rfl, fun x y hS hT hk => dld (v := (.int .i64 ((p : Nat) : Int))) (wn rfl) (hk 7 rfl) one3 ((Blk.sm (w := w206.drew) m208 hS (hM216A _)).cell rfl) ⟨SM.refl _, rfl⟩⟩) ?_
  refine ed_ (.inl ⟨by decide, rfl, fun x y hS hT hk => d_slice1 (wn rfl) (show x.eval _ = (.int .i64 ((p : Nat) : Int)) from (hk 8 rfl)) elm30 rfl (by decide) (fun g w' _ hG hb => ⟨SM.grow hG, g, rfl, hb⟩)⟩) ?_
  refine ed_ (.inr (.inr ⟨rfl, fun x y hS hT hk => ?_⟩)) ?_
  ·skip
   obtain ⟨gb, hvb, hbb⟩ := hk 9 rfl
   have hG : Grow w206 y := Grow.trans ((Grow.refl _).drew) (SM.grown (by rw [hM216] at hS; exact hS))
   have hR := owg hG ho214
   have hO := owg hG ho213
   have hBl := blg b212 hG (Nat.le_trans hB b212.size)
   refine d_append (wn rfl) (show x.eval _ = pa from (hk 4 rfl)) hvb elm30 hR hbb rfl rfl (by omega) (by decide) (Nat.le_trans hB hBl.size) ?_
   intro v' w' h1 h2 h3
   exact ⟨h1, below_by hBl h2 (Nat.le_trans hB hBl.size) (fun k hk => (own_lt hR k hk).1), (m208.grow hG).by h2 op_, (m209.grow hG).by h2 off11, (m210.grow hG).by h2 off47, (m211.grow hG).by h2 off82, own_by hO h2 ap2, lies_ne h3 op_ (m208.grow hG).lt, lies_ne h3 off11 (m209.grow hG).lt, lies_ne h3 off47 (m210.grow hG).lt, lies_ne h3 off82 (m211.grow hG).lt, lies_ap h3 ap2 hO⟩
  refine ed_ (.inr (.inl ⟨by decide, _, rfl, fun x y hT hk hk0 => dnc (wn rfl) (hk 0 _ rfl rfl) ⟨rfl, rfl⟩⟩)) ?_
  refine ed_ (.inr (.inl ⟨by decide, _, rfl, fun x y hT hk hk0 => dfa (wn rfl) (hk 11 _ rfl rfl) fo65_3 ⟨rfl, rfl⟩⟩)) ?_
  exact eachD_one
 rintro a217 w218 hA219 ⟨hP221, hW222⟩
 obtain ⟨v223, hv224⟩ : ∃ v', v' = (a217.tmps.getD 100 undef) := ⟨_, rfl⟩
 have hW225 : (fun v' w' => w'.ownsRow Bd 3 1 v' (path.length + 1) ((paE path) ++ (#[.int .i64 ((p : Nat) : Int)] : Array Value).toList) ∧ Below Bd w w' ∧ Blk w' g (thrC cd (updR r d (I (getR (B u) 0 i.size))) ((p : Nat) : Int) pa) 65 ∧ Blk w' g3 #[.int .i64 0, .int .i64 0, .int .i64 0, .int .i64 0, .int .i64 0, .int .i64 0, .bool false, .bool false, .int .i64 0, .int .i64 0, .bool false, .bool false, .bool false, .int .i64 0, .int .i64 0] 52 ∧ Blk w' g23 (insC ⟨4, ((d : Nat) : Int), i.a, i.b, i.imm, i.loc, i.off, i.index, i.size, i.fn, i.acq, i.weak, i.rel, i.pred, i.succ, i.to, i.zero⟩) 23 ∧ Blk w' g57 #[.int .i64 0, .int .i64 ((path.length : Nat) : Int), .int .i64 ((p : Nat) : Int), .int .i64 4, .int .i64 i.loc, .int .i64 (spanM i r), .bool true, .bool false, .int .i64 (I (getR (B u) 0 i.size)), .int .i64 0, .bool i.acq, .bool i.weak, .bool i.rel, .int .i64 i.pred, .int .i64 i.succ] 52 ∧ w'.ownsRow Bd 52 15 ev ne xe ∧ v'.ownBlock ≠ some g ∧ v'.ownBlock ≠ some g3 ∧ v'.ownBlock ≠ some g23 ∧ v'.ownBlock ≠ some g57 ∧ ∀ k, ev.ownBlock = some k → v'.ownBlock ≠ some k) v223 w218 := by rw [hv224]; exact hW222
 obtain ⟨ho226, b227, m228, m229, m230, m231, ho232, off233, off234, off235, off236, ap237⟩ := hW225
 have ap238 : ∀ k, v223.ownBlock = some k → ev.ownBlock ≠ some k := fun k h1 h2 => ap237 k h2 h1
 have hA239 : St 111 [(0, (.pointer (some ⟨g, 0, none⟩))), (4, (.pointer (some ⟨g3, 0, none⟩))), (6, (.pointer (some ⟨g57, 0, none⟩))), (100, v223), (102, (.pointer (some ⟨g, 10, none⟩)))] a217 := hA219.cut _ (fc (hA219.get 0 _ rfl) (fc (hA219.get 4 _ rfl) (fc (hA219.get 6 _ rfl) (fc hv224.symm (fc (hP221 12 _ (Nat.le_of_ble_eq_true rfl) (by decide) rfl) fn_)))))
 refine dst_ (v := v223) (wn rfl) (hA239.ev rfl) (hA239.ev rfl) one30 (one_slice (own_form ho226)) m228 (Nat.le_of_ble_eq_true rfl) ?_
 intro w240 hU241 (m242 : Blk w240 g (thrC cd (updR r d (I (getR (B u) 0 i.size))) ((p : Nat) : Int) v223) 65)
 have m243 := m229.upd hU241 (Ne.symm n9)
 have m244 := m230.upd hU241 (Ne.symm n44)
 have m245 := m231.upd hU241 (Ne.symm n78)
 have b246 := hU241.below b227 hge
 have ho247 := own_upd ho232 hU241 oe
 have ho248 := own_upd ho226 hU241 off233
 refine tn_ ?_
 refine wp_seq ?_
 refine wp_region_lit ?_
 refine qs hA239 rfl (dmv (wn rfl) (hA239.ev rfl) ?_)
 intro a249 hA250
 refine qs hA250 rfl (dnc (wn rfl) (hA250.ev rfl) ?_)
 intro a251 hA252
 refine qs hA252 rfl (dfa (wn rfl) (hA252.ev rfl) fo65_2 ?_)
 intro a253 hA254
 refine qs hA254 rfl (dld (v := (.int .i64 ((p : Nat) : Int))) (wn rfl) (hA254.ev rfl) one3 (m242.cell rfl) ?_)
 intro a255 hA256
 refine qs hA256 rfl (dbn (wn rfl) (hA256.ev rfl) (hA256.ev rfl) (b_add _ _ ((p : Nat) : Int) 1 _ (by omega) (by omega)) ?_)
 intro a257 hA258
 refine qs hA258 rfl (dnc (wn rfl) (hA258.ev rfl) ?_)
 intro a259 hA260
 refine qs hA260 rfl (dfa (wn rfl) (hA260.ev rfl) fo65_2 ?_)
 intro a261 hA262
 refine qs hA262 rfl (dst_ (v := (.int .i64 (((p : Nat) : Int) + 1))) (wn rfl) (hA262.ev rfl) (hA262.ev rfl) one3 rfl m242 (Nat.le_of_ble_eq_true rfl) ?_)
 intro w263 hU264 (m265 : Blk w263 g (thrC cd (updR r d (I (getR (B u) 0 i.size))) (((p : Nat) : Int) + 1) v223) 65)
 have m266 := m243.upd hU264 (Ne.symm n9)
 have m267 := m244.upd hU264 (Ne.symm n44)
 have m268 := m245.upd hU264 (Ne.symm n78)
 have b269 := hU264.below b246 hge
 have ho270 := own_upd ho247 hU264 oe
 have ho271 := own_upd ho248 hU264 off233
 intro a272 hA273
 refine qe_ ?_
 refine tn_ ?_
 refine wp_seq ?_
 refine wp_region_lit ?_
 refine qs hA273 rfl (dlr (cs := #[.int .i64 0, .int .i64 ((path.length : Nat) : Int), .int .i64 ((p : Nat) : Int), .int .i64 4, .int .i64 i.loc, .int .i64 (spanM i r), .bool true, .bool false, .int .i64 (I (getR (B u) 0 i.size)), .int .i64 0, .bool i.acq, .bool i.weak, .bool i.rel, .int .i64 i.pred, .int .i64 i.succ]) (wn rfl) (hA273.ev rfl) row52 m268 ?_)
 intro a274 hA275
 refine qs hA275 rfl (dsr (wn rfl) (hA275.ev rfl) (hA275.ev rfl) row52 m266 rfl rfl ?_)
 intro w276 hU277 (m278 : Blk w276 g3 #[.int .i64 0, .int .i64 ((path.length : Nat) : Int), .int .i64 ((p : Nat) : Int), .int .i64 4, .int .i64 i.loc, .int .i64 (spanM i r), .bool true, .bool false, .int .i64 (I (getR (B u) 0 i.size)), .int .i64 0, .bool i.acq, .bool i.weak, .bool i.rel, .int .i64 i.pred, .int .i64 i.succ] 52)
 have m279 := m265.upd hU277 n9
 have m280 := m267.upd hU277 (Ne.symm n45)
 have m281 := m268.upd hU277 (Ne.symm n79)
 have b282 := hU277.below b269 ge8
 have ho283 := own_upd ho270 hU277 off10
 have ho284 := own_upd ho271 hU277 off234
 intro a285 hA286
 refine qe_ ?_
 refine tn_ ?_
 refine wp_ret ?_
 refine retRow (g := g3) (cs := #[.int .i64 0, .int .i64 ((path.length : Nat) : Int), .int .i64 ((p : Nat) : Int), .int .i64 4, .int .i64 i.loc, .int .i64 (spanM i r), .bool true, .bool false, .int .i64 (I (getR (B u) 0 i.size)), .int .i64 0, .bool i.acq, .bool i.weak, .bool i.rel, .int .i64 i.pred, .int .i64 i.succ]) rfl hA286 rfl m278 row52 ?_
 exact ⟨rfl, b282, ho283, v223, m279, hge, (hcd.below b282), (by rw [List.length_append, ← paE_snoc]; exact ho284), off233⟩
end Go.Proofs.Ytlhompedcphnnaa
/- A step of the reference's thread. -/
namespace Go.Proofs.Ytlhompedcphnnaa
open Go.RowKit
set_option linter.unusedSimpArgs false
set_option linter.unusedVariables false
theorem ent53 : ((Try.prog.funcs[53]?).map fun fn => (fn.name == "runtime.NumGoroutine", fn.body.isNone)) = some (false, false) := by kernel_rfl
set_option maxHeartbeats 4000000 in
set_option maxRecDepth 4000 in
theorem rstep_5 (Bd g p ne : Nat) (r : Nat → Int) (cd pa ev : Value) (xe : List Value) (code : List Ins) (i : Ins) (u : Int) (path : List Int) (w : World) (hB : Bd ≤ w.heap.size) (hT : TS Bd g w cd code ((p : Nat) : Int) r path pa) (hev : w.ownsRow Bd 52 15 ev ne xe) (hnp : path.length ≤ 1000) (hr : ∀ k, wfI (r k)) (hp2 : p ≤ 1000) (hy : code[p]? = some ⟨5, i.dst, i.a, i.b, i.imm, i.loc, i.off, i.index, i.size, i.fn, i.acq, i.weak, i.rel, i.pred, i.succ, i.to, i.zero⟩) (hix : ronB i.index = true) (hoff : wfI i.off) (ha : ronB i.a = true) (himm : wfI i.imm) : Calls Try.prog 38 #[.pointer (some ⟨g, 0, none⟩), .int .i64 u] w fun e w' => e = .returned (.agg (evC (acc5 i r path.length p))) ∧ Below Bd w w' ∧ w'.ownsRow Bd 52 15 ev ne xe ∧ ∃ pa', TS Bd g w' cd code (((p : Nat) : Int) + 1) r (path ++ [((p : Nat) : Int)]) pa' := by
 obtain ⟨hb, hge, hcd, hpa, op_⟩ := hT
 have oe := own_apart hev hb (by decide)
 have ap := rows_apart hpa hev (by decide)
 have ap2 : ∀ k, ev.ownBlock = some k → pa.ownBlock ≠ some k := fun k h1 h2 => ap k h2 h1
 have b0 : Below Bd w w := Below.refl _ _
 refine enter (n := 111) Try.func38 rfl rfl (Nat.le_of_ble_eq_true rfl) ?_
 intro a1 hA2
 refine wp_seq ?_
 refine wp_region_lit ?_
 refine qs hA2 rfl (dal (wn rfl) zero52 ?_)
 intro g3 w4 eg5 hG6 (m7 : Blk w4 g3 #[.int .i64 0, .int .i64 0, .int .i64 0, .int .i64 0, .int .i64 0, .int .i64 0, .bool false, .bool false, .int .i64 0, .int .i64 0, .bool false, .bool false, .bool false, .int .i64 0, .int .i64 0] 52)
 have ge8 : Bd ≤ g3 := eg5 ▸ (Nat.le_trans hB b0.size)
 have n9 : g ≠ g3 := fun h => Nat.lt_irrefl _ ((h.trans eg5) ▸ hb.lt)
 have off10 := own_new hev eg5
 have off11 := own_new hpa eg5
 have m12 := hb.grow hG6
 have b13 := blg b0 hG6 (Nat.le_trans hB b0.size)
 have ho14 := owg hG6 hev
 have ho15 := owg hG6 hpa
 intro a16 hA17
 refine qe_ ?_
 refine tn_ ?_
 refine wp_seq ?_
 obtain ⟨b18, o19, lt20, hr21, hix22⟩ := (hcd.below b13).at hy
 have hA24 : St 111 [(0, (.pointer (some ⟨g, 0, none⟩))), (1, (.int .i64 u)), (4, (.pointer (some ⟨g3, 0, none⟩)))] a16 := hA17.sub rfl
 let M25 : Nat → Option (Array Value) := fun _ => none
 have hM25 : M25 = fun _ => none := rfl
 clear_value M25
 have hM25A : ∀ k, M25 k = none := fun k => congrFun hM25 k
 have hM25B : ∀ k, k < Bd → M25 k = none := fun k _ => hM25A k
 refine drawnL (S := SM M25) rfl (tabL [cv (.pointer (some ⟨g, 0, none⟩)), cv (.pointer (some ⟨g, 0, none⟩)), cv (.pointer (some ⟨g, 0, none⟩)), cv cd, cv (.pointer (some ⟨g, 0, none⟩)), cv (.pointer (some ⟨g, 0, none⟩)), cv (.pointer (some ⟨g, 9, none⟩)), cv (.int .i64 ((p : Nat) : Int)), cv (.pointer (some ⟨b18, o19, none⟩)), cv (.agg (insC ⟨5, i.dst, i.a, i.b, i.imm, i.loc, i.off, i.index, i.size, i.fn, i.acq, i.weak, i.rel, i.pred, i.succ, i.to, i.zero⟩)), cBlk M25 hM25A w4.heap.size #[.int .i64 0, .int .i64 0, .int .i64 0, .int .i64 0, .int .i64 0, .int .i64 0, .int .i64 0, .int .i64 0, .int .i64 0, .int .i64 0, .bool false, .bool false, .bool false, .int .i64 0, .int .i64 0, .int .i64 0, .bool false] 23]) none (fun _ => none) (fun _ _ => True) [10, 9, 0, 1, 2, 3, 4, 5, 6, 7, 8] [] mixedY SM.refl SM.trans hA24 (by kernel_rfl) (by kernel_rfl) (fun i v u w h => by cases h) ?_ ?_
 ·skip
  refine ed_ (.inl ⟨nofun, rfl, fun x y hS hT hk => dmv (wn rfl) (hT.ev rfl) ⟨SM.refl _, rfl⟩⟩) ?_
  refine ed_ (.inl ⟨nofun, rfl, fun x y hS hT hk => dnc (wn rfl) (hk 0 rfl) ⟨SM.refl _, rfl⟩⟩) ?_
  refine ed_ (.inl ⟨nofun, rfl, fun x y hS hT hk => dfa (wn rfl) (hk 1 rfl) fo65_0 ⟨SM.refl _, rfl⟩⟩) ?_
  refine ed_ (.inl ⟨nofun, rfl, fun x y hS hT hk => dld (v := cd) (wn rfl) (hk 2 rfl) one35 ((Blk.sm (w := w4.drew) m12 hS (hM25A _)).cell rfl) ⟨SM.refl _, rfl⟩⟩) ?_
  refine ed_ (.inl ⟨nofun, rfl, fun x y hS hT hk => dmv (wn rfl) (hT.ev rfl) ⟨SM.refl _, rfl⟩⟩) ?_
  refine ed_ (.inl ⟨nofun, rfl, fun x y hS hT hk => dnc (wn rfl) (hk 4 rfl) ⟨SM.refl _, rfl⟩⟩) ?_
  refine ed_ (.inl ⟨nofun, rfl, fun x y hS hT hk => dfa (wn rfl) (hk 5 rfl) fo65_2 ⟨SM.refl _, rfl⟩⟩) ?_
  refine ed_ (.inl ⟨nofun, rfl, fun x y hS hT hk => dld (v := (.int .i64 ((p : Nat) : Int))) (wn rfl) (hk 6 rfl) one3 ((Blk.sm (w := w4.drew) m12 hS (hM25A _)).cell rfl) ⟨SM.refl _, rfl⟩⟩) ?_
  refine ed_ (.inl ⟨nofun, rfl, fun x y hS hT hk => dia (j := p) (wn rfl) (hk 3 rfl) (hk 7 rfl) slc35 hix22 (get_lt hy) ⟨SM.refl _, rfl⟩⟩) ?_
  refine ed_ (.inl ⟨nofun, rfl, fun x y hS hT hk => dlm (cs := (insC ⟨5, i.dst, i.a, i.b, i.imm, i.loc, i.off, i.index, i.size, i.fn, i.acq, i.weak, i.rel, i.pred, i.succ, i.to, i.zero⟩)) (wn rfl) (hk 8 rfl) row23 (range_sm (w := w4.drew) hr21 hS (Nat.lt_of_lt_of_le lt20 (Nat.le_trans hB b13.size)) (hM25B _ lt20)) ⟨SM.refl _, rfl⟩⟩) ?_
  refine ed_ (.inl ⟨nofun, rfl, fun x y hS hT hk => dal (wn rfl) zero23 (fun g w' eg hG hb => ⟨SM.grow hG, g, rfl, eg ▸ hS.size, hb⟩)⟩) ?_
  exact eachD_one
 rintro a26 w27 hA28 ⟨hS30, hC31⟩
 obtain ⟨g23, hg32, hge33, m34⟩ := hC31 10 (Nat.le_of_ble_eq_true rfl)
 have hA35 : St 111 [(0, (.pointer (some ⟨g, 0, none⟩))), (1, (.int .i64 u)), (4, (.pointer (some ⟨g3, 0, none⟩))), (5, (.pointer (some ⟨g23, 0, none⟩))), (16, (.agg (insC ⟨5, i.dst, i.a, i.b, i.imm, i.loc, i.off, i.index, i.size, i.fn, i.acq, i.weak, i.rel, i.pred, i.succ, i.to, i.zero⟩)))] a26 := hA28.cut _ (fc (hA28.get 0 _ rfl) (fc (hA28.get 1 _ rfl) (fc (hA28.get 4 _ rfl) (fc hg32 (fc (hC31 9 (Nat.le_of_ble_eq_true rfl)) fn_)))))
 have hG36 : Grow w4 w27 := Grow.trans ((Grow.refl _).drew) (SM.grown (by rw [hM25] at hS30; exact hS30))
 have m37 := m12.grow hG36
 have m38 := m7.grow hG36
 have hr39 := range_below hr21 hG36 (Nat.lt_of_lt_of_le lt20 (Nat.le_trans hB b13.size))
 have b40 := blg b13 hG36 (Nat.le_trans hB b13.size)
 have ho41 := owg hG36 ho14
 have ho42 := owg hG36 ho15
 have ge43 : Bd ≤ g23 := Nat.le_trans (Nat.le_trans hB b13.size) hge33
 have n44 : g ≠ g23 := Nat.ne_of_lt (Nat.lt_of_lt_of_le m12.lt hge33)
 have n45 : g3 ≠ g23 := Nat.ne_of_lt (Nat.lt_of_lt_of_le m7.lt hge33)
 have off46 : ev.ownBlock ≠ some g23 := fun e => Nat.lt_irrefl _ (Nat.lt_of_lt_of_le (own_lt ho14 _ e).2 hge33)
 have off47 : pa.ownBlock ≠ some g23 := fun e => Nat.lt_irrefl _ (Nat.lt_of_lt_of_le (own_lt ho15 _ e).2 hge33)
 refine dsr (wn rfl) (hA35.ev rfl) (hA35.ev rfl) row23 m34 rfl rfl ?_
 intro w48 hU49 (m50 : Blk w48 g23 (insC ⟨5, i.dst, i.a, i.b, i.imm, i.loc, i.off, i.index, i.size, i.fn, i.acq, i.weak, i.rel, i.pred, i.succ, i.to, i.zero⟩) 23)
 have m51 := m37.upd hU49 n44
 have m52 := m38.upd hU49 n45
 have hr53 := range_upd hr39 hU49 (Nat.ne_of_lt (Nat.lt_of_lt_of_le lt20 ge43))
 have b54 := hU49.below b40 ge43
 have ho55 := own_upd ho41 hU49 off46
 have ho56 := own_upd ho42 hU49 off47
 refine tn_ ?_
 refine wp_seq ?_
 have hA58 : St 111 [(0, (.pointer (some ⟨g, 0, none⟩))), (1, (.int .i64 u)), (4, (.pointer (some ⟨g3, 0, none⟩))), (5, (.pointer (some ⟨g23, 0, none⟩)))] a26 := hA35.sub rfl
 let M59 : Nat → Option (Array Value) := fun _ => none
 have hM59 : M59 = fun _ => none := rfl
 clear_value M59
 have hM59A : ∀ k, M59 k = none := fun k => congrFun hM59 k
 have hM59B : ∀ k, k < Bd → M59 k = none := fun k _ => hM59A k
 refine drawnL (S := SM M59) rfl (tabL [cv (.pointer (some ⟨g, 0, none⟩)), cv (.pointer (some ⟨g, 0, none⟩)), cv (.pointer (some ⟨g, 10, none⟩)), cv pa, cv (.int .i64 ((path.length : Nat) : Int)), cv (.pointer (some ⟨g, 0, none⟩)), cv (.pointer (some ⟨g, 0, none⟩)), cv (.pointer (some ⟨g, 9, none⟩)), cv (.int .i64 ((p : Nat) : Int)), cv (.pointer (some ⟨g23, 0, none⟩)), cv (.int .i64 5), cv (.pointer (some ⟨g23, 10, none⟩)), cv (.bool i.acq), cv (.pointer (some ⟨g23, 11, none⟩)), cv (.bool i.weak), cv (.pointer (some ⟨g23, 12, none⟩)), cv (.bool i.rel), cv (.pointer (some ⟨g23, 13, none⟩)), cv (.int .i64 i.pred), cv (.pointer (some ⟨g23, 14, none⟩)), cv (.int .i64 i.succ), cv (.agg (insC ⟨5, i.dst, i.a, i.b, i.imm, i.loc, i.off, i.index, i.size, i.fn, i.acq, i.weak, i.rel, i.pred, i.succ, i.to, i.zero⟩)), cv (.bool false), cv (.agg (insC ⟨5, i.dst, i.a, i.b, i.imm, i.loc, i.off, i.index, i.size, i.fn, i.acq, i.weak, i.rel, i.pred, i.succ, i.to, i.zero⟩)), cv (.bool true), cv (.agg #[.int .i64 0, .int .i64 ((path.length : Nat) : Int), .int .i64 ((p : Nat) : Int), .int .i64 5, .int .i64 0, .int .i64 0, .bool false, .bool true, .int .i64 0, .int .i64 0, .bool i.acq, .bool i.weak, .bool i.rel, .int .i64 i.pred, .int .i64 i.succ]), cBlk M59 hM59A w48.heap.size #[.int .i64 0, .int .i64 0, .int .i64 0, .int .i64 0, .int .i64 0, .int .i64 0, .bool false, .bool false, .int .i64 0, .int .i64 0, .bool false, .bool false, .bool false, .int .i64 0, .int .i64 0] 52]) none (fun _ => none) (fun _ _ => True) [26, 25, 24, 0, 1, 2, 3, 4, 5, 6, 7, 8, 9, 10, 11, 12, 13, 14, 15, 16, 17, 18, 19, 20, 21, 22, 23] [] mixedY SM.refl SM.trans hA58 (by kernel_rfl) (by kernel_rfl) (fun i v u w h => by cases h) ?_ ?_
 ·skip
  refine ed_ (.inl ⟨nofun, rfl, fun x y hS hT hk => dmv (wn rfl) (hT.ev rfl) ⟨SM.refl _, rfl⟩⟩) ?_
  refine ed_ (.inl ⟨nofun, rfl, fun x y hS hT hk => dnc (wn rfl) (hk 0 rfl) ⟨SM.refl _, rfl⟩⟩) ?_
  refine ed_ (.inl ⟨nofun, rfl, fun x y hS hT hk => dfa (wn rfl) (hk 1 rfl) fo65_3 ⟨SM.refl _, rfl⟩⟩) ?_
  refine ed_ (.inl ⟨nofun, rfl, fun x y hS hT hk => dld (v := pa) (wn rfl) (hk 2 rfl) one30 ((Blk.sm (w := w48.drew) m51 hS (hM59A _)).cell rfl) ⟨SM.refl _, rfl⟩⟩) ?_
  refine ed_ (.inl ⟨nofun, rfl, fun x y hS hT hk => dle (n := path.length) (wn rfl) (hk 3 rfl) slc30 (own_form ho56) ⟨SM.refl _, rfl⟩⟩) ?_
  refine ed_ (.inl ⟨nofun, rfl, fun x y hS hT hk => dmv (wn rfl) (hT.ev rfl) ⟨SM.refl _, rfl⟩⟩) ?_
  refine ed_ (.inl ⟨nofun, rfl, fun x y hS hT hk => dnc (wn rfl) (hk 5 rfl) ⟨SM.refl _, rfl⟩⟩) ?_
  refine ed_ (.inl ⟨nofun, rfl, fun x y hS hT hk => dfa (wn rfl) (hk 6 rfl) fo65_2 ⟨SM.refl _, rfl⟩⟩) ?_
  refine ed_ (.inl ⟨nofun, rfl, fun x y hS hT hk => dld (v := (.int .i64 ((p : Nat) : Int))) (wn rfl) (hk 7 rfl) one3 ((Blk.sm (w := w48.drew) m51 hS (hM59A _)).cell rfl) ⟨SM.refl _, rfl⟩⟩) ?_
  refine ed_ (.inl ⟨nofun, rfl, fun x y hS hT hk => dfa (wn rfl) (hT.ev rfl) fo23_0 ⟨SM.refl _, rfl⟩⟩) ?_
  refine ed_ (.inl ⟨nofun, rfl, fun x y hS hT hk => dld (v := (.int .i64 5)) (wn rfl) (hk 9 rfl) one3 ((Blk.sm (w := w48.drew) m50 hS (hM59A _)).cell rfl) ⟨SM.refl _, rfl⟩⟩) ?_
  refine ed_ (.inl ⟨nofun, rfl, fun x y hS hT hk => dfa (wn rfl) (hT.ev rfl) fo23_10 ⟨SM.refl _, rfl⟩⟩) ?_
  refine ed_ (.inl ⟨nofun, rfl, fun x y hS hT hk => dld (v := (.bool i.acq)) (wn rfl) (hk 11 rfl) one4 ((Blk.sm (w := w48.drew) m50 hS (hM59A _)).cell rfl) ⟨SM.refl _, rfl⟩⟩) ?_
  refine ed_ (.inl ⟨nofun, rfl, fun x y hS hT hk => dfa (wn rfl) (hT.ev rfl) fo23_11 ⟨SM.refl _, rfl⟩⟩) ?_
  refine ed_ (.inl ⟨nofun, rfl, fun x y hS hT hk => dld (v := (.bool i.weak)) (wn rfl) (hk 13 rfl) one4 ((Blk.sm (w := w48.drew) m50 hS (hM59A _)).cell rfl) ⟨SM.refl _, rfl⟩⟩) ?_
  refine ed_ (.inl ⟨nofun, rfl, fun x y hS hT hk => dfa (wn rfl) (hT.ev rfl) fo23_12 ⟨SM.refl _, rfl⟩⟩) ?_
  refine ed_ (.inl ⟨nofun, rfl, fun x y hS hT hk => dld (v := (.bool i.rel)) (wn rfl) (hk 15 rfl) one4 ((Blk.sm (w := w48.drew) m50 hS (hM59A _)).cell rfl) ⟨SM.refl _, rfl⟩⟩) ?_
  refine ed_ (.inl ⟨nofun, rfl, fun x y hS hT hk => dfa (wn rfl) (hT.ev rfl) fo23_13 ⟨SM.refl _, rfl⟩⟩) ?_
  refine ed_ (.inl ⟨nofun, rfl, fun x y hS hT hk => dld (v := (.int .i64 i.pred)) (wn rfl) (hk 17 rfl) one3 ((Blk.sm (w := w48.drew) m50 hS (hM59A _)).cell rfl) ⟨SM.refl _, rfl⟩⟩) ?_
  refine ed_ (.inl ⟨nofun, rfl, fun x y hS hT hk => dfa (wn rfl) (hT.ev rfl) fo23_14 ⟨SM.refl _, rfl⟩⟩) ?_
  refine ed_ (.inl ⟨nofun, rfl, fun x y hS hT hk => dld (v := (.int .i64 i.succ)) (wn rfl) (hk 19 rfl) one3 ((Blk.sm (w := w48.drew) m50 hS (hM59A _)).cell rfl) ⟨SM.refl _, rfl⟩⟩) ?_
  refine ed_ (.inl ⟨nofun, rfl, fun x y hS hT hk => dlr (cs := (insC ⟨5, i.dst, i.a, i.b, i.imm, i.loc, i.off, i.index, i.size, i.fn, i.acq, i.weak, i.rel, i.pred, i.succ, i.to, i.zero⟩)) (wn rfl) (hT.ev rfl) row23 (Blk.sm (w := w48.drew) m50 hS (hM59A _)) ⟨SM.refl _, rfl⟩⟩) ?_
  refine ed_ (.inl ⟨nofun, rfl, fun x y hS hT hk => dcl (wn rfl) ent12 (map1 (show x.eval _ = (.agg (insC ⟨5, i.dst, i.a, i.b, i.imm, i.loc, i.off, i.index, i.size, i.fn, i.acq, i.weak, i.rel, i.pred, i.succ, i.to, i.zero⟩)) from (hk 21 rfl))) (rreads_any (⟨5, i.dst, i.a, i.b, i.imm, i.loc, i.off, i.index, i.size, i.fn, i.acq, i.weak, i.rel, i.pred, i.succ, i.to, i.zero⟩) y) (fun _ _ ⟨he, hG⟩ => ⟨(.bool false), he, SM.grow hG, rfl⟩)⟩) ?_
  refine ed_ (.inl ⟨nofun, rfl, fun x y hS hT hk => dlr (cs := (insC ⟨5, i.dst, i.a, i.b, i.imm, i.loc, i.off, i.index, i.size, i.fn, i.acq, i.weak, i.rel, i.pred, i.succ, i.to, i.zero⟩)) (wn rfl) (hT.ev rfl) row23 (Blk.sm (w := w48.drew) m50 hS (hM59A _)) ⟨SM.refl _, rfl⟩⟩) ?_
  refine ed_ (.inl ⟨nofun, rfl, fun x y hS hT hk => dcl (wn rfl) ent14 (map1 (show x.eval _ = (.agg (insC ⟨5, i.dst, i.a, i.b, i.imm, i.loc, i.off, i.index, i.size, i.fn, i.acq, i.weak, i.rel, i.pred, i.succ, i.to, i.zero⟩)) from (hk 23 rfl))) (rwrites_any (⟨5, i.dst, i.a, i.b, i.imm, i.loc, i.off, i.index, i.size, i.fn, i.acq, i.weak, i.rel, i.pred, i.succ, i.to, i.zero⟩) y) (fun _ _ ⟨he, hG⟩ => ⟨(.bool true), he, SM.grow hG, rfl⟩)⟩) ?_
  refine ed_ (.inl ⟨nofun, rfl, fun x y hS hT hk => dbd (cs := #[.int .i64 0, .int .i64 ((path.length : Nat) : Int), .int .i64 ((p : Nat) : Int), .int .i64 5, .int .i64 0, .int .i64 0, .bool false, .bool true, .int .i64 0, .int .i64 0, .bool i.acq, .bool i.weak, .bool i.rel, .int .i64 i.pred, .int .i64 i.succ]) (wn rfl) (bp_of (bq_cons (show x.eval _ = (.int .i64 ((path.length : Nat) : Int)) from (hk 4 rfl)) (bq_cons (show x.eval _ = (.int .i64 ((p : Nat) : Int)) from (hk 8 rfl)) (bq_cons (show x.eval _ = (.int .i64 5) from (hk 10 rfl)) (bq_cons (show x.eval _ = (.bool i.acq) from (hk 12 rfl)) (bq_cons (show x.eval _ = (.bool i.weak) from (hk 14 rfl)) (bq_cons (show x.eval _ = (.bool i.rel) from (hk 16 rfl)) (bq_cons (show x.eval _ = (.int .i64 i.pred) from (hk 18 rfl)) (bq_cons (show x.eval _ = (.int .i64 i.succ) from (hk 20 rfl)) (bq_cons (show x.eval _ = (.bool false) from (hk 22 rfl)) (bq_cons (show x.eval _ = (.bool true) from (hk 24 rfl)) bq_nil))))))))))) zero52 places52 (by kernel_rfl) ⟨SM.refl _, rfl⟩⟩) ?_
  refine ed_ (.inl ⟨nofun, rfl, fun x y hS hT hk => dal (wn rfl) zero52 (fun g w' eg hG hb => ⟨SM.grow hG, g, rfl, eg ▸ hS.size, hb⟩)⟩) ?_
  exact eachD_one
 rintro a60 w61 hA62 ⟨hS64, hC65⟩
 obtain ⟨g57, hg66, hge67, m68⟩ := hC65 26 (Nat.le_of_ble_eq_true rfl)
 have hA69 : St 111 [(0, (.pointer (some ⟨g, 0, none⟩))), (1, (.int .i64 u)), (4, (.pointer (some ⟨g3, 0, none⟩))), (5, (.pointer (some ⟨g23, 0, none⟩))), (6, (.pointer (some ⟨g57, 0, none⟩))), (42, (.agg #[.int .i64 0, .int .i64 ((path.length : Nat) : Int), .int .i64 ((p : Nat) : Int), .int .i64 5, .int .i64 0, .int .i64 0, .bool false, .bool true, .int .i64 0, .int .i64 0, .bool i.acq, .bool i.weak, .bool i.rel, .int .i64 i.pred, .int .i64 i.succ]))] a60 := hA62.cut _ (fc (hA62.get 0 _ rfl) (fc (hA62.get 1 _ rfl) (fc (hA62.get 4 _ rfl) (fc (hA62.get 5 _ rfl) (fc hg66 (fc (hC65 25 (Nat.le_of_ble_eq_true rfl)) fn_))))))
 have hG70 : Grow w48 w61 := Grow.trans ((Grow.refl _).drew) (SM.grown (by rw [hM59] at hS64; exact hS64))
 have m71 := m51.grow hG70
 have m72 := m52.grow hG70
 have m73 := m50.grow hG70
 have b74 := blg b54 hG70 (Nat.le_trans hB b54.size)
 have ho75 := owg hG70 ho55
 have ho76 := owg hG70 ho56
 have ge77 : Bd ≤ g57 := Nat.le_trans (Nat.le_trans hB b54.size) hge67
 have n78 : g ≠ g57 := Nat.ne_of_lt (Nat.lt_of_lt_of_le m51.lt hge67)
 have n79 : g3 ≠ g57 := Nat.ne_of_lt (Nat.lt_of_lt_of_le m52.lt hge67)
 have n80 : g23 ≠ g57 := Nat.ne_of_lt (Nat.lt_of_lt_of_le m50.lt hge67)
 have off81 : ev.ownBlock ≠ some g57 := fun e => Nat.lt_irrefl _ (Nat.lt_of_lt_of_le (own_lt ho55 _ e).2 hge67)
 have off82 : pa.ownBlock ≠ some g57 := fun e => Nat.lt_irrefl _ (Nat.lt_of_lt_of_le (own_lt ho56 _ e).2 hge67)
 refine dsr (wn rfl) (hA69.ev rfl) (hA69.ev rfl) row52 m68 rfl rfl ?_
 intro w83 hU84 (m85 : Blk w83 g57 #[.int .i64 0, .int .i64 ((path.length : Nat) : Int), .int .i64 ((p : Nat) : Int), .int .i64 5, .int .i64 0, .int .i64 0, .bool false, .bool true, .int .i64 0, .int .i64 0, .bool i.acq, .bool i.weak, .bool i.rel, .int .i64 i.pred, .int .i64 i.succ] 52)
 have m86 := m71.upd hU84 n78
 have m87 := m72.upd hU84 n79
 have m88 := m73.upd hU84 n80
 have b89 := hU84.below b74 ge77
 have ho90 := own_upd ho75 hU84 off81
 have ho91 := own_upd ho76 hU84 off82
 refine tn_ ?_
 refine wp_seq ?_
 refine wp_seq ?_
 refine wp_region_lit ?_
 refine qs hA69 rfl (dlr (cs := (insC ⟨5, i.dst, i.a, i.b, i.imm, i.loc, i.off, i.index, i.size, i.fn, i.acq, i.weak, i.rel, i.pred, i.succ, i.to, i.zero⟩)) (wn rfl) (hA69.ev rfl) row23 m88 ?_)
 intro a92 hA93
 refine qs hA93 rfl (dcl (wn rfl) ent32 (map1 (hA93.ev rfl)) (memory_any (⟨5, i.dst, i.a, i.b, i.imm, i.loc, i.off, i.index, i.size, i.fn, i.acq, i.weak, i.rel, i.pred, i.succ, i.to, i.zero⟩) w83) ?_)
 rintro e97 w94 ⟨he96, hG95⟩
 have m98 := m86.grow hG95
 have m99 := m87.grow hG95
 have m100 := m88.grow hG95
 have m101 := m85.grow hG95
 have b102 := blg b89 hG95 (Nat.le_trans hB b89.size)
 have ho103 := owg hG95 ho90
 have ho104 := owg hG95 ho91
 refine ⟨(.bool true), he96, ?_⟩
 intro a105 hA106
 refine qe_ ?_
 refine tn_ ?_
 refine c_true hA106 rfl ?_
 refine wp_region_lit ?_
 refine qs hA106 rfl (dmv (wn rfl) (hA106.ev rfl) ?_)
 intro a107 hA108
 refine qs hA108 rfl (dlr (cs := (insC ⟨5, i.dst, i.a, i.b, i.imm, i.loc, i.off, i.index, i.size, i.fn, i.acq, i.weak, i.rel, i.pred, i.succ, i.to, i.zero⟩)) (wn rfl) (hA108.ev rfl) row23 m100 ?_)
 intro a109 hA110
 refine qs hA110 rfl (dcl (wn rfl) ent51 (map2 (hA110.ev rfl) (hA110.ev rfl)) (where_any g cd r ((p : Nat) : Int) pa (⟨5, i.dst, i.a, i.b, i.imm, i.loc, i.off, i.index, i.size, i.fn, i.acq, i.weak, i.rel, i.pred, i.succ, i.to, i.zero⟩) w94 m98 hr hix hoff) ?_)
 rintro e114 w111 ⟨he113, hG112⟩
 have m115 := m98.grow hG112
 have m116 := m99.grow hG112
 have m117 := m100.grow hG112
 have m118 := m101.grow hG112
 have b119 := blg b102 hG112 (Nat.le_trans hB b102.size)
 have ho120 := owg hG112 ho103
 have ho121 := owg hG112 ho104
 refine ⟨(.agg #[.int .i64 i.loc, .int .i64 (spanM i r)]), he113, ?_⟩
 intro a122 hA123
 refine qs hA123 rfl (dfa (wn rfl) (hA123.ev rfl) fo52_4 ?_)
 intro a124 hA125
 refine qs hA125 rfl (d_store2 (wn rfl) (hA125.ev rfl) (hA125.ev rfl) row50 rfl rfl m118 (Nat.le_of_ble_eq_true rfl) ?_)
 intro w126 hU127 (m128 : Blk w126 g57 #[.int .i64 0, .int .i64 ((path.length : Nat) : Int), .int .i64 ((p : Nat) : Int), .int .i64 5, .int .i64 i.loc, .int .i64 (spanM i r), .bool false, .bool true, .int .i64 0, .int .i64 0, .bool i.acq, .bool i.weak, .bool i.rel, .int .i64 i.pred, .int .i64 i.succ] 52)
 have m129 := m115.upd hU127 n78
 have m130 := m116.upd hU127 n79
 have m131 := m117.upd hU127 n80
 have b132 := hU127.below b119 ge77
 have ho133 := own_upd ho120 hU127 off81
 have ho134 := own_upd ho121 hU127 off82
 intro a135 hA136
 refine qe_ ?_
 refine tn_ ?_
 refine wp_seq ?_
 refine wp_seq ?_
 refine wp_region_lit ?_
 refine qs hA136 rfl (dfa (wn rfl) (hA136.ev rfl) fo52_5 ?_)
 intro a137 hA138
 refine qs hA138 rfl (dld (v := (.bool false)) (wn rfl) (hA138.ev rfl) one4 (m128.cell rfl) ?_)
 intro a139 hA140
 refine qe_ ?_
 refine tn_ ?_
 refine c_false hA140 rfl ?_
 refine wp_skip ?_
 refine tn_ ?_
 refine wp_seq ?_
 refine wp_seq ?_
 refine wp_region_lit ?_
 refine qs hA140 rfl (dfa (wn rfl) (hA140.ev rfl) fo23_0 ?_)
 intro a141 hA142
 refine qs hA142 rfl (dld (v := (.int .i64 5)) (wn rfl) (hA142.ev rfl) one3 (m131.cell rfl) ?_)
 intro a143 hA144
 refine qs hA144 rfl (dbn (wn rfl) (hA144.ev rfl) (hA144.ev rfl) (b_eq _ _ 5 5 true _ rfl) ?_)
 intro a145 hA146
 refine qe_ ?_
 refine tn_ ?_
 refine c_true hA146 rfl ?_
 have hA147 : St 111 [(0, (.pointer (some ⟨g, 0, none⟩))), (4, (.pointer (some ⟨g3, 0, none⟩))), (5, (.pointer (some ⟨g23, 0, none⟩))), (6, (.pointer (some ⟨g57, 0, none⟩)))] a145 := hA146.sub rfl
 let M148 : Nat → Option (Array Value) := fun _ => none
 have hM148 : M148 = fun _ => none := rfl
 clear_value M148
 have hM148A : ∀ k, M148 k = none := fun k => congrFun hM148 k
 have hM148B : ∀ k, k < Bd → M148 k = none := fun k _ => hM148A k
 refine drawnL (S := SM M148) rfl (tabL [cv (.pointer (some ⟨g, 0, none⟩)), cv (.agg (insC ⟨5, i.dst, i.a, i.b, i.imm, i.loc, i.off, i.index, i.size, i.fn, i.acq, i.weak, i.rel, i.pred, i.succ, i.to, i.zero⟩)), cv (.int .i64 (orR r i.a i.imm)), cv (.pointer (some ⟨g23, 8, none⟩)), cv (.int .i64 i.size), cv (.int .i64 (I (getR (B (orR r i.a i.imm)) 0 i.size))), cv (.pointer (some ⟨g57, 9, none⟩))]) none (fun _ => none) (fun _ _ => True) [6, 5, 0, 1, 2, 3, 4] [] mixedY SM.refl SM.trans hA147 (by kernel_rfl) (by kernel_rfl) (fun i v u w h => by cases h) ?_ ?_
 ·skip
  refine ed_ (.inl ⟨nofun, rfl, fun x y hS hT hk => dmv (wn rfl) (hT.ev rfl) ⟨SM.refl _, rfl⟩⟩) ?_
  refine ed_ (.inl ⟨nofun, rfl, fun x y hS hT hk => dlr (cs := (insC ⟨5, i.dst, i.a, i.b, i.imm, i.loc, i.off, i.index, i.size, i.fn, i.acq, i.weak, i.rel, i.pred, i.succ, i.to, i.zero⟩)) (wn rfl) (hT.ev rfl) row23 (Blk.sm (w := w126.drew) m131 hS (hM148A _)) ⟨SM.refl _, rfl⟩⟩) ?_
  refine ed_ (.inl ⟨nofun, rfl, fun x y hS hT hk => dcl (wn rfl) ent53 (map2 (show x.eval _ = (.pointer (some ⟨g, 0, none⟩)) from (hk 0 rfl)) (show x.eval _ = (.agg (insC ⟨5, i.dst, i.a, i.b, i.imm, i.loc, i.off, i.index, i.size, i.fn, i.acq, i.weak, i.rel, i.pred, i.succ, i.to, i.zero⟩)) from (hk 1 rfl))) (datum_5 g cd r ((p : Nat) : Int) pa i y (Blk.sm (w := w126.drew) m129 hS (hM148A _)) ha) (fun _ _ ⟨he, hG⟩ => ⟨(.int .i64 (orR r i.a i.imm)), he, SM.grow hG, rfl⟩)⟩) ?_
  refine ed_ (.inl ⟨nofun, rfl, fun x y hS hT hk => dfa (wn rfl) (hT.ev rfl) fo23_8 ⟨SM.refl _, rfl⟩⟩) ?_
  refine ed_ (.inl ⟨nofun, rfl, fun x y hS hT hk => dld (v := (.int .i64 i.size)) (wn rfl) (hk 3 rfl) one3 ((Blk.sm (w := w126.drew) m131 hS (hM148A _)).cell rfl) ⟨SM.refl _, rfl⟩⟩) ?_
  refine ed_ (.inl ⟨nofun, rfl, fun x y hS hT hk => dcl (wn rfl) ent52 (map3 (show x.eval _ = (.int .i64 (orR r i.a i.imm)) from (hk 2 rfl)) (show x.eval _ = (.int .i64 0) from (hT.ev rfl)) (show x.eval _ = (.int .i64 i.size) from (hk 4 rfl))) (rget_w (orR r i.a i.imm) 0 i.size y (wf_or hr himm)) (fun _ _ ⟨he, hw⟩ => ⟨(.int .i64 (I (getR (B (orR r i.a i.imm)) 0 i.size))), he, hw ▸ SM.refl _, rfl⟩)⟩) ?_
  refine ed_ (.inl ⟨nofun, rfl, fun x y hS hT hk => dfa (wn rfl) (hT.ev rfl) fo52_8 ⟨SM.refl _, rfl⟩⟩) ?_
  exact eachD_one
 rintro a149 w150 hA151 ⟨hS153, hC154⟩
 have hA155 : St 111 [(0, (.pointer (some ⟨g, 0, none⟩))), (4, (.pointer (some ⟨g3, 0, none⟩))), (5, (.pointer (some ⟨g23, 0, none⟩))), (6, (.pointer (some ⟨g57, 0, none⟩))), (64, (.int .i64 (I (getR (B (orR r i.a i.imm)) 0 i.size)))), (65, (.pointer (some ⟨g57, 9, none⟩)))] a149 := hA151.cut _ (fc (hA151.get 0 _ rfl) (fc (hA151.get 4 _ rfl) (fc (hA151.get 5 _ rfl) (fc (hA151.get 6 _ rfl) (fc (hC154 5 (Nat.le_of_ble_eq_true rfl)) (fc (hC154 6 (Nat.le_of_ble_eq_true rfl)) fn_))))))
 have hG156 : Grow w126 w150 := Grow.trans ((Grow.refl _).drew) (SM.grown (by rw [hM148] at hS153; exact hS153))
 have m157 := m129.grow hG156
 have m158 := m130.grow hG156
 have m159 := m131.grow hG156
 have m160 := m128.grow hG156
 have b161 := blg b132 hG156 (Nat.le_trans hB b132.size)
 have ho162 := owg hG156 ho133
 have ho163 := owg hG156 ho134
 refine dst_ (wn rfl) (hA155.ev rfl) (hA155.ev rfl) one3 rfl m160 (Nat.le_of_ble_eq_true rfl) ?_
 intro w164 hU165 (m166 : Blk w164 g57 #[.int .i64 0, .int .i64 ((path.length : Nat) : Int), .int .i64 ((p : Nat) : Int), .int .i64 5, .int .i64 i.loc, .int .i64 (spanM i r), .bool false, .bool true, .int .i64 0, .int .i64 (I (getR (B (orR r i.a i.imm)) 0 i.size)), .bool i.acq, .bool i.weak, .bool i.rel, .int .i64 i.pred, .int .i64 i.succ] 52)
 have m167 := m157.upd hU165 n78
 have m168 := m158.upd hU165 n79
 have m169 := m159.upd hU165 n80
 have b170 := hU165.below b161 ge77
 have ho171 := own_upd ho162 hU165 off81
 have ho172 := own_upd ho163 hU165 off82
 refine tn_ ?_
 refine wp_seq ?_
 refine wp_seq ?_
 refine wp_region_lit ?_
 refine qs hA155 rfl (dfa (wn rfl) (hA155.ev rfl) fo23_0 ?_)
 intro a173 hA174
 refine qs hA174 rfl (dld (v := (.int .i64 5)) (wn rfl) (hA174.ev rfl) one3 (m169.cell rfl) ?_)
 intro a175 hA176
 refine qs hA176 rfl (dbn (wn rfl) (hA176.ev rfl) (hA176.ev rfl) (b_eq _ _ 5 6 false _ rfl) ?_)
 intro a177 hA178
 refine qe_ ?_
 refine tn_ ?_
 refine c_false hA178 rfl ?_
 refine wp_skip ?_
 refine tn_ ?_
 refine wp_seq ?_
 refine wp_seq ?_
 refine wp_region_lit ?_
 refine qs hA178 rfl (dfa (wn rfl) (hA178.ev rfl) fo52_5 ?_)
 intro a179 hA180
 refine qs hA180 rfl (dld (v := (.bool false)) (wn rfl) (hA180.ev rfl) one4 (m166.cell rfl) ?_)
 intro a181 hA182
 refine qe_ ?_
 refine tn_ ?_
 refine c_false hA182 rfl ?_
 refine wp_skip ?_
 refine tn_ ?_
 refine wp_seq ?_
 have hA183 : St 111 [(0, (.pointer (some ⟨g, 0, none⟩))), (4, (.pointer (some ⟨g3, 0, none⟩))), (6, (.pointer (some ⟨g57, 0, none⟩)))] a181 := hA182.sub rfl
 let M184 : Nat → Option (Array Value) := fun _ => none
 have hM184 : M184 = fun _ => none := rfl
 clear_value M184
 have hM184A : ∀ k, M184 k = none := fun k => congrFun hM184 k
 have hM184B : ∀ k, k < Bd → M184 k = none := fun k _ => hM184A k
 refine drawnL (S := SM M184) rfl (tabQ [some (.pointer (some ⟨g, 0, none⟩)), some (.pointer (some ⟨g, 0, none⟩)), some (.pointer (some ⟨g, 0, none⟩)), some (.pointer (some ⟨g, 10, none⟩)), none, some (.pointer (some ⟨g, 0, none⟩)), some (.pointer (some ⟨g, 0, none⟩)), some (.pointer (some ⟨g, 9, none⟩)), none, none, none, some (.pointer (some ⟨g, 0, none⟩)), some (.pointer (some ⟨g, 10, none⟩))] [cv (.pointer (some ⟨g, 0, none⟩)), cv (.pointer (some ⟨g, 0, none⟩)), cv (.pointer (some ⟨g, 0, none⟩)), cv (.pointer (some ⟨g, 10, none⟩)), cv pa, cv (.pointer (some ⟨g, 0, none⟩)), cv (.pointer (some ⟨g, 0, none⟩)), cv (.pointer (some ⟨g, 9, none⟩)), cv (.int .i64 ((p : Nat) : Int)), cs1 M184 hM184A #[.int .i64 ((p : Nat) : Int)] 3, cfree, cv (.pointer (some ⟨g, 0, none⟩)), cv (.pointer (some ⟨g, 10, none⟩))]) (some 10) (fun i => (([some (.pointer (some ⟨g, 0, none⟩)), some (.pointer (some ⟨g, 0, none⟩)), some (.pointer (some ⟨g, 0, none⟩)), some (.pointer (some ⟨g, 10, none⟩)), none, some (.pointer (some ⟨g, 0, none⟩)), some (.pointer (some ⟨g, 0, none⟩)), some (.pointer (some ⟨g, 9, none⟩)), none, none, none, some (.pointer (some ⟨g, 0, none⟩)), some (.pointer (some ⟨g, 10, none⟩))] : List (Option Value))[i]?).getD none) (fun v' w' => w'.ownsRow Bd 3 1 v' (path.length + 1) ((paE path) ++ (#[.int .i64 ((p : Nat) : Int)] : Array Value).toList) ∧ Below Bd w w' ∧ Blk w' g (thrC cd r ((p : Nat) : Int) pa) 65 ∧ Blk w' g3 #[.int .i64 0, .int .i64 0, .int .i64 0, .int .i64 0, .int .i64 0, .int .i64 0, .bool false, .bool false, .int .i64 0, .int .i64 0, .bool false, .bool false, .bool false, .int .i64 0, .int .i64 0] 52 ∧ Blk w' g23 (insC ⟨5, i.dst, i.a, i.b, i.imm, i.loc, i.off, i.index, i.size, i.fn, i.acq, i.weak, i.rel, i.pred, i.succ, i.to, i.zero⟩) 23 ∧ Blk w' g57 #[.int .i64 0, .int .i64 ((path.length : Nat) : Int), .int .i64 ((p : Nat) : Int), .int .i64 5, .int .i64 i.loc, .int .i64 (spanM i r), .bool false, .bool true, .int .i64 0, .int .i64 (I (getR (B (orR r i.a i.imm)) 0 i.size)), .bool i.acq, .bool i.weak, .bool i.rel, .int .i64 i.pred, .int .i64 i.succ] 52 ∧ w'.ownsRow Bd 52 15 ev ne xe ∧ v'.ownBlock ≠ some g ∧ v'.ownBlock ≠ some g3 ∧ v'.ownBlock ≠ some g23 ∧ v'.ownBlock ≠ some g57 ∧ ∀ k, ev.ownBlock = some k → v'.ownBlock ≠ some k) [12, 10, 0, 1, 2, 3, 4, 5, 6, 7, 8, 9, 11] [4, 9, 3, 8, 2, 7, 1, 6, 5] mixedY SM.refl SM.trans hA183 (by kernel_rfl) (by kernel_rfl) (tabQ_cv _ _) ?_ ?_
 ·skip
  refine ed_ (.inr (.inl ⟨by decide, _, rfl, fun x y hT hk hk0 => dmv (wn rfl) (hT.ev rfl) ⟨rfl, rfl⟩⟩)) ?_
  refine ed_ (.inr (.inl ⟨by decide, _, rfl, fun x y hT hk hk0 => dmv (wn rfl) (hT.ev rfl) ⟨rfl, rfl⟩⟩)) ?_
  refine ed_ (.inr (.inl ⟨by decide, _, rfl, fun x y hT hk hk0 => dnc (wn rfl) (hk 1 _ rfl rfl) ⟨rfl, rfl⟩⟩)) ?_
  refine ed_ (.inr (.inl ⟨by decide, _, rfl, fun x y hT hk hk0 => dfa (wn rfl) (hk 2 _ rfl rfl) fo65_3 ⟨rfl, rfl⟩⟩)) ?_
  refine ed_ (.inl ⟨by decide, rfl, fun x y hS hT hk => dld (v := pa) (wn rfl) (hk 3 rfl) one30 ((Blk.sm (w := w164.drew) m167 hS (hM184A _)).cell rfl) ⟨SM.refl _, rfl⟩⟩) ?_
  refine ed_ (.inr (.inl ⟨by decide, _, rfl, fun x y hT hk hk0 => dmv (wn rfl) (hT.ev rfl) ⟨rfl, rfl⟩⟩)) ?_
  refine ed_ (.inr (.inl ⟨by decide, _, rfl, fun x y hT hk hk0 => dnc (wn rfl) (hk 5 _ rfl rfl) ⟨rfl, rfl⟩⟩)) ?_
  refine ed_ (.inr (.inl ⟨by decide, _, rfl, fun x y hT hk hk0 => dfa (wn rfl) (hk 6 _ rfl rfl) fo65_2 ⟨rfl, rfl⟩⟩)) ?_
  refine ed_ (.inl ⟨by decide, rfl, fun x y hS hT hk => dld (v := (.int .i64 ((p : Nat) : Int))) (wn rfl) (hk 7 rfl) one3 ((Blk.sm (w := w164.drew) m167 hS (hM184A _)).cell rfl) ⟨SM.refl _, rfl⟩⟩) ?_
  refine ed_ (.inl ⟨by decide, rfl, fun x y hS hT hk => d_slice1 (wn rfl) (show x.eval _ = (.int .i64 ((p : Nat) : Int)) from (hk 8 rfl)) elm30 rfl (by decide) (fun g w' _ hG hb => ⟨SM.grow hG, g, rfl, hb⟩)⟩) ?_
  refine ed_ (.inr (.inr ⟨rfl, fun x y hS hT hk => ?_⟩)) ?_
  ·skip
   obtain ⟨gb, hvb, hbb⟩ := hk 9 rfl
   have hG : Grow w164 y := Grow.trans ((Grow.refl _).drew) (SM.grown (by rw [hM184] at hS; exact hS))
   have hR := owg hG ho172
   have hO := owg hG ho171
   have hBl := blg b170 hG (Nat.le_trans hB b170.size)
   refine d_append (wn rfl) (show x.eval _ = pa from (hk 4 rfl)) hvb elm30 hR hbb rfl rfl (by omega) (by decide) (Nat.le_trans hB hBl.size) ?_
   intro v' w' h1 h2 h3
   exact ⟨h1, below_by hBl h2 (Nat.le_trans hB hBl.size) (fun k hk => (own_lt hR k hk).1), (m167.grow hG).by h2 op_, (m168.grow hG).by h2 off11, (m169.grow hG).by h2 off47, (m166.grow hG).by h2 off82, own_by hO h2 ap2, lies_ne h3 op_ (m167.grow hG).lt, lies_ne h3 off11 (m168.grow hG).lt, lies_ne h3 off47 (m169.grow hG).lt, lies_ne h3 off82 (m166.grow hG).lt, lies_ap h3 ap2 hO⟩
  refine ed_ (.inr (.inl ⟨by decide, _, rfl, fun x y hT hk hk0 => dnc (wn rfl) (hk 0 _ rfl rfl) ⟨rfl, rfl⟩⟩)) ?_
  refine ed_ (.inr (.inl ⟨by decide, _, rfl, fun x y hT hk hk0 => dfa (wn rfl) (hk 11 _ rfl rfl) fo65_3 ⟨rfl, rfl⟩⟩)) ?_
  exact eachD_one
 rintro a185 w186 hA187 ⟨hP189, hW190⟩
 obtain ⟨v191, hv192⟩ : ∃ v', v' = (a185.tmps.getD 100 undef) := ⟨_, rfl⟩
 have hW193 : (fun v' w' => w'.ownsRow Bd 3 1 v' (path.length + 1) ((paE path) ++ (#[.int .i64 ((p : Nat) : Int)] : Array Value).toList) ∧ Below Bd w w' ∧ Blk w' g (thrC cd r ((p : Nat) : Int) pa) 65 ∧ Blk w' g3 #[.int .i64 0, .int .i64 0, .int .i64 0, .int .i64 0, .int .i64 0, .int .i64 0, .bool false, .bool false, .int .i64 0, .int .i64 0, .bool false, .bool false, .bool false, .int .i64 0, .int .i64 0] 52 ∧ Blk w' g23 (insC ⟨5, i.dst, i.a, i.b, i.imm, i.loc, i.off, i.index, i.size, i.fn, i.acq, i.weak, i.rel, i.pred, i.succ, i.to, i.zero⟩) 23 ∧ Blk w' g57 #[.int .i64 0, .int .i64 ((path.length : Nat) : Int), .int .i64 ((p : Nat) : Int), .int .i64 5, .int .i64 i.loc, .int .i64 (spanM i r), .bool false, .bool true, .int .i64 0, .int .i64 (I (getR (B (orR r i.a i.imm)) 0 i.size)), .bool i.acq, .bool i.weak, .bool i.rel, .int .i64 i.pred, .int .i64 i.succ] 52 ∧ w'.ownsRow Bd 52 15 ev ne xe ∧ v'.ownBlock ≠ some g ∧ v'.ownBlock ≠ some g3 ∧ v'.ownBlock ≠ some g23 ∧ v'.ownBlock ≠ some g57 ∧ ∀ k, ev.ownBlock = some k → v'.ownBlock ≠ some k) v191 w186 := by rw [hv192]; exact hW190
 obtain ⟨ho194, b195, m196, m197, m198, m199, ho200, off201, off202, off203, off204, ap205⟩ := hW193
 have ap206 : ∀ k, v191.ownBlock = some k → ev.ownBlock ≠ some k := fun k h1 h2 => ap205 k h2 h1
 have hA207 : St 111 [(0, (.pointer (some ⟨g, 0, none⟩))), (4, (.pointer (some ⟨g3, 0, none⟩))), (6, (.pointer (some ⟨g57, 0, none⟩))), (100, v191), (102, (.pointer (some ⟨g, 10, none⟩)))] a185 := hA187.cut _ (fc (hA187.get 0 _ rfl) (fc (hA187.get 4 _ rfl) (fc (hA187.get 6 _ rfl) (fc hv192.symm (fc (hP189 12 _ (Nat.le_of_ble_eq_true rfl) (by decide) rfl) fn_)))))
 refine dst_ (v := v191) (wn rfl) (hA207.ev rfl) (hA207.ev rfl) one30 (one_slice (own_form ho194)) m196 (Nat.le_of_ble_eq_true rfl) ?_
 intro w208 hU209 (m210 : Blk w208 g (thrC cd r ((p : Nat) : Int) v191) 65)
 have m211 := m197.upd hU209 (Ne.symm n9)
 have m212 := m198.upd hU209 (Ne.symm n44)
 have m213 := m199.upd hU209 (Ne.symm n78)
 have b214 := hU209.below b195 hge
 have ho215 := own_upd ho200 hU209 oe
 have ho216 := own_upd ho194 hU209 off201
 refine tn_ ?_
 refine wp_seq ?_
 refine wp_region_lit ?_
 refine qs hA207 rfl (dmv (wn rfl) (hA207.ev rfl) ?_)
 intro a217 hA218
 refine qs hA218 rfl (dnc (wn rfl) (hA218.ev rfl) ?_)
 intro a219 hA220
 refine qs hA220 rfl (dfa (wn rfl) (hA220.ev rfl) fo65_2 ?_)
 intro a221 hA222
 refine qs hA222 rfl (dld (v := (.int .i64 ((p : Nat) : Int))) (wn rfl) (hA222.ev rfl) one3 (m210.cell rfl) ?_)
 intro a223 hA224
 refine qs hA224 rfl (dbn (wn rfl) (hA224.ev rfl) (hA224.ev rfl) (b_add _ _ ((p : Nat) : Int) 1 _ (by omega) (by omega)) ?_)
 intro a225 hA226
 refine qs hA226 rfl (dnc (wn rfl) (hA226.ev rfl) ?_)
 intro a227 hA228
 refine qs hA228 rfl (dfa (wn rfl) (hA228.ev rfl) fo65_2 ?_)
 intro a229 hA230
 refine qs hA230 rfl (dst_ (v := (.int .i64 (((p : Nat) : Int) + 1))) (wn rfl) (hA230.ev rfl) (hA230.ev rfl) one3 rfl m210 (Nat.le_of_ble_eq_true rfl) ?_)
 intro w231 hU232 (m233 : Blk w231 g (thrC cd r (((p : Nat) : Int) + 1) v191) 65)
 have m234 := m211.upd hU232 (Ne.symm n9)
 have m235 := m212.upd hU232 (Ne.symm n44)
 have m236 := m213.upd hU232 (Ne.symm n78)
 have b237 := hU232.below b214 hge
 have ho238 := own_upd ho215 hU232 oe
 have ho239 := own_upd ho216 hU232 off201
 intro a240 hA241
 refine qe_ ?_
 refine tn_ ?_
 refine wp_seq ?_
 refine wp_region_lit ?_
 refine qs hA241 rfl (dlr (cs := #[.int .i64 0, .int .i64 ((path.length : Nat) : Int), .int .i64 ((p : Nat) : Int), .int .i64 5, .int .i64 i.loc, .int .i64 (spanM i r), .bool false, .bool true, .int .i64 0, .int .i64 (I (getR (B (orR r i.a i.imm)) 0 i.size)), .bool i.acq, .bool i.weak, .bool i.rel, .int .i64 i.pred, .int .i64 i.succ]) (wn rfl) (hA241.ev rfl) row52 m236 ?_)
 intro a242 hA243
 refine qs hA243 rfl (dsr (wn rfl) (hA243.ev rfl) (hA243.ev rfl) row52 m234 rfl rfl ?_)
 intro w244 hU245 (m246 : Blk w244 g3 #[.int .i64 0, .int .i64 ((path.length : Nat) : Int), .int .i64 ((p : Nat) : Int), .int .i64 5, .int .i64 i.loc, .int .i64 (spanM i r), .bool false, .bool true, .int .i64 0, .int .i64 (I (getR (B (orR r i.a i.imm)) 0 i.size)), .bool i.acq, .bool i.weak, .bool i.rel, .int .i64 i.pred, .int .i64 i.succ] 52)
 have m247 := m233.upd hU245 n9
 have m248 := m235.upd hU245 (Ne.symm n45)
 have m249 := m236.upd hU245 (Ne.symm n79)
 have b250 := hU245.below b237 ge8
 have ho251 := own_upd ho238 hU245 off10
 have ho252 := own_upd ho239 hU245 off202
 intro a253 hA254
 refine qe_ ?_
 refine tn_ ?_
 refine wp_ret ?_
 refine retRow (g := g3) (cs := #[.int .i64 0, .int .i64 ((path.length : Nat) : Int), .int .i64 ((p : Nat) : Int), .int .i64 5, .int .i64 i.loc, .int .i64 (spanM i r), .bool false, .bool true, .int .i64 0, .int .i64 (I (getR (B (orR r i.a i.imm)) 0 i.size)), .bool i.acq, .bool i.weak, .bool i.rel, .int .i64 i.pred, .int .i64 i.succ]) rfl hA254 rfl m246 row52 ?_
 exact ⟨rfl, b250, ho251, v191, m247, hge, (hcd.below b250), (by rw [List.length_append, ← paE_snoc]; exact ho252), off201⟩
end Go.Proofs.Ytlhompedcphnnaa
