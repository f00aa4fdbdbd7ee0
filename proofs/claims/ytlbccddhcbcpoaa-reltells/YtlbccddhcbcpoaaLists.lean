/- What Union, Meet and Seq return of the relations that a slice holds. -/
import Derived.Test.YtlbccddhcbcpoaaLoops
namespace Go.Proofs.Ytlbccddhcbcpoaa
open Go.RowKit

theorem rangeAt_grow {w w' : World} {b o : Nat} {cs : List Value} (hg : Grow w w') (hb : b < w.heap.size) (h : w.rangeAt b o cs) : w'.rangeAt b o cs := fun j v hv => by
  rw [hg.cell (p := ⟨b, o + j, none⟩) hb]; exact h j v hv
section
variable {ops : Array Oper} {rest : List Oper} {a : Act} {w : World} {Q : Exit → Act → World → Prop}
theorem ldm {d : Option Tmp} {p : Tmp} {ty : TypeId} {pos : String} {af : Array Edge} (b o : Nat) (r : Rl) (hp : a.eval (.tmp p) = .pointer (some ⟨b, o, none⟩)) (hr : w.rangeAt b o (cells r).toList)
    (h : wpList Try.prog ops Q rest (a.put d (.agg (cells r))) w) : wpList Try.prog ops Q ({ dst := d, op := .load 28 (.tmp p), type := ty, pos := pos, after := af, guard := none } :: rest) a w :=
  wpList_load_mid rfl 28 (.tmp p) rfl b o hp (cells r).toList _ hr und_rel rfl (by rw [Array.length_toList, cells_size]; exact info_rel) (by simpa using h)
end
theorem new_nil (w : World) : At (w.alloc (.cells #[Value.int IntKind.u32 0, Value.int IntKind.u32 0, Value.int IntKind.u32 0, Value.int IntKind.u32 0, Value.int IntKind.u32 0, Value.int IntKind.u32 0, Value.int IntKind.u32 0, Value.int IntKind.u32 0, Value.int IntKind.u32 0, Value.int IntKind.u32 0, Value.int IntKind.u32 0, Value.int IntKind.u32 0, Value.int IntKind.u32 0, Value.int IntKind.u32 0, Value.int IntKind.u32 0, Value.int IntKind.u32 0, Value.int IntKind.u32 0, Value.int IntKind.u32 0, Value.int IntKind.u32 0, Value.int IntKind.u32 0, Value.int IntKind.u32 0, Value.int IntKind.u32 0, Value.int IntKind.u32 0, Value.int IntKind.u32 0, Value.int IntKind.u32 0, Value.int IntKind.u32 0, Value.int IntKind.u32 0, Value.int IntKind.u32 0, Value.int IntKind.u32 0, Value.int IntKind.u32 0, Value.int IntKind.u32 0, Value.int IntKind.u32 0] 28)) w.heap.size nil := by rw [nil_lit]; exact At.new w nil
/-- the pairs of one of two, of both; a step of the one, then of the other -/
def or2 (a b : Rl) : Rl := fun i => a i ||| b i
def and2 (a b : Rl) : Rl := fun i => a i &&& b i
def seq2 (a b : Rl) : Rl := fun i => aft (a i) b 32
theorem row_or2 (a b : Rl) (k : Nat) (h : k < 32) : row (or2 a b) k = row a k ||| row b k := by rw [row_of _ h, row_of _ h, row_of _ h]; rfl
theorem row_and2 (a b : Rl) (k : Nat) (h : k < 32) : row (and2 a b) k = row a k &&& row b k := by rw [row_of _ h, row_of _ h, row_of _ h]; rfl
theorem row_seq2 (a b : Rl) (k : Nat) (h : k < 32) : row (seq2 a b) k = aft (row a k) b 32 := by rw [row_of _ h, row_of _ h]; rfl
def uni (rs : List Rl) : Rl := rs.foldl or2 nil
def met (rs : List Rl) : Rl := rs.foldl and2 (crs allS allS)
def sqs (rs : List Rl) : Rl := rs.foldl seq2 (idr allS)
theorem sqs_empty : sqs [] = idr allS := rfl
theorem uni_zero (rs : List Rl) : uni (rs.take 0) = nil := rfl
theorem uni_take {rs : List Rl} {j : Nat} {r : Rl} (h : rs[j]? = some r) : uni (rs.take (j + 1)) = or2 (uni (rs.take j)) r := by
  unfold uni; rw [List.take_add_one, h, List.foldl_append]; rfl
theorem met_zero (rs : List Rl) : met (rs.take 0) = crs allS allS := rfl
theorem met_take {rs : List Rl} {j : Nat} {r : Rl} (h : rs[j]? = some r) : met (rs.take (j + 1)) = and2 (met (rs.take j)) r := by
  unfold met; rw [List.take_add_one, h, List.foldl_append]; rfl
theorem sqs_zero (rs : List Rl) : sqs (rs.take 0) = idr allS := rfl
theorem sqs_take {rs : List Rl} {j : Nat} {r : Rl} (h : rs[j]? = some r) : sqs (rs.take (j + 1)) = seq2 (sqs (rs.take j)) r := by
  unfold sqs; rw [List.take_add_one, h, List.foldl_append]; rfl
attribute [local irreducible] wpList cells row U aft inn one nil part upd idr crs mns eqB evB stepP plusT invT uni met sqs or2 and2 seq2 allS

set_option maxHeartbeats 2000000 in
theorem uni_sl (rs : List Rl) (b o cap : Nat) (w : World) (hb : b < w.heap.size) (hl : rs.length ≤ 1000000) (HR : Hid (∀ j r, rs[j]? = some r → w.rangeAt b (o + j * 32) (cells r).toList)) :
    Calls Try.prog 19 #[.slice (some ⟨b, o, none⟩) rs.length cap] w fun x w' => x = .returned (.agg (cells (uni rs))) ∧ Grow w w' := by
  go_enter Try.func19, Try.ntmps19
  go_wp2
  rw [nil_lit]
  have h0 : Hid (Grow w ((w.alloc (.cells (cells nil) 28)).alloc (.cells (cells nil) 28))) := ((Grow.refl w).alloc _).alloc _
  have h1 : At ((w.alloc (.cells (cells nil) 28)).alloc (.cells (cells nil) 28)) w.heap.size nil := (At.new w nil).alloc _
  have h2 : At ((w.alloc (.cells (cells nil) 28)).alloc (.cells (cells nil) 28)) (w.heap.size + 1) nil := by simpa using At.new (w.alloc (.cells (cells nil) 28)) nil
  generalize ((w.alloc (.cells (cells nil) 28)).alloc (.cells (cells nil) 28)) = w0 at h0 h1 h2 ⊢
  have hHG : w.heap.size < w.heap.size + 1 := by omega
  generalize w.heap.size + 1 = G at h2 hHG ⊢
  go_loopw [9] (fun i wr => ∃ j : Nat, j ≤ rs.length ∧ i = .int .i64 j ∧ Grow w wr ∧ At wr w.heap.size nil ∧ At wr G (uni (rs.take j))) (fun i _ => rs.length - (intOf i).toNat)
  case atStart => exact ⟨0, by omega, rfl, h0.out, h1, by rw [uni_zero]; exact h2⟩
  case round =>
    clear h0 h1 h2
    obtain ⟨j, hj, rfl, hg, hr, ho⟩ := hrel
    by_cases hlt : j < rs.length
    · obtain ⟨r, Hr⟩ : ∃ r, Hid (rs[j]? = some r) := ⟨rs[j], List.getElem?_eq_getElem hlt⟩
      have hrng : wr.rangeAt b (o + j * 32) (cells r).toList := rangeAt_grow hg hb (HR.out j r Hr.out)
      have hdk : decide ((j : Int) < (rs.length : Int)) = true := by simp; omega
      have Hu : Hid (uni (rs.take (j + 1)) = or2 (uni (rs.take j)) r) := uni_take Hr.out
      generalize uni (rs.take j) = R at ho Hu
      go_wp2_with (first | (refine ldm b (o + j * 32) r (by rfl) hrng ?_) | (refine st wr.heap.size nil r (by rfl) (by rfl) (new_nil wr) ?_))
      rw [nil_lit, World.setRow_alloc_new]
      have hg1 : Grow w (wr.alloc (.cells (cells r) 28)) := hg.alloc _
      have hr1 := hr.alloc (.cells (cells r) 28)
      have ho1 := ho.alloc (.cells (cells r) 28)
      have hn1 := At.new wr r
      have hGg := ho.lt
      clear hrng
      generalize wr.heap.size = g at hn1 hGg ⊢
      generalize wr.alloc (.cells (cells r) 28) = wa at hg1 hr1 ho1 hn1 ⊢
      clear hg hr ho
      go_loopw [13] (fun i wr => ∃ e : Nat, e ≤ 32 ∧ i = .int .i64 e ∧ Grow w wr ∧ At wr w.heap.size nil ∧ At wr G (part e (or2 R r) R) ∧ At wr g r) (fun i _ => 32 - (intOf i).toNat)
      case atStart => exact ⟨0, by omega, rfl, hg1, hr1, by rw [part_zero]; exact ho1, hn1⟩
      case round =>
        clear hg1 hr1 ho1 hn1
        obtain ⟨e, he, rfl, hg, hr, ho, hn⟩ := hrel
        by_cases hlt2 : e < 32
        · have hc := ho.cell e hlt2
          rw [row_part_ge _ _ _ _ (Nat.le_refl _)] at hc
          have hf := ho.frozen e
          have hc2 := hn.cell e hlt2
          have hx := bits_or (row R e) (row r e)
          have HX : Hid (row (or2 R r) e = _) := row_or2 R r e hlt2
          go_wp2
          go_region
          all_goals go_wp2
          all_goals
            go_roundw
            case rel => exact ⟨e + 1, by omega, by go_num, (bset hg (by omega) _).drew, (hr.set_other (by omega) _ _).drew, (ho.step _ (fun _ => HX.out.symm)).drew, (hn.set_other (by omega) _ _).drew⟩
            case measure => simp [intOf]; omega
        · obtain rfl : e = 32 := by omega
          rw [part_full, ← Hu.out] at ho
          go_wp2
          go_roundw
          case rel => exact ⟨j + 1, by omega, by go_num, hg, hr, ho⟩
          case measure => simp [intOf]; omega
    · obtain rfl : j = rs.length := by omega
      rw [List.take_length] at ho
      go_wp2_with (first | (refine ld G (uni rs) (by rfl) ho ?_) | (refine st w.heap.size nil (uni rs) (by rfl) (by rfl) hr ?_))
      exact bodyPost_ret (v := .agg (cells (uni rs))) (res rfl _ _ w.heap.size _ (by rfl) hr.put) rfl ⟨rfl, below_setRow hg (by omega) _⟩

set_option maxHeartbeats 2000000 in
theorem met_sl (rs : List Rl) (b o cap : Nat) (w : World) (hb : b < w.heap.size) (hl : rs.length ≤ 1000000) (HR : Hid (∀ j r, rs[j]? = some r → w.rangeAt b (o + j * 32) (cells r).toList)) :
    Calls Try.prog 20 #[.slice (some ⟨b, o, none⟩) rs.length cap] w fun x w' => x = .returned (.agg (cells (met rs))) ∧ Grow w w' := by
  go_enter Try.func20, Try.ntmps20
  have HU := U_all
  go_wp2_with (first | (go_at_call 17; rw [← HU]; refine (crs_any allS allS _).mono ?_; rintro e w1 ⟨rfl, hw1⟩) | (refine st w1.heap.size nil (crs allS allS) (by rfl) (by rfl) (new_nil w1) ?_))
  rw [nil_lit] at hw1 ⊢
  rw [World.setRow_alloc_new]
  have h0 : Hid (Grow w (w1.alloc (.cells (cells (crs allS allS)) 28))) := (((Grow.refl w).alloc _).trans hw1).alloc _
  have h1 : At (w1.alloc (.cells (cells (crs allS allS)) 28)) w.heap.size nil := ((At.new w nil).grow hw1).alloc _
  have h2 := At.new w1 (crs allS allS)
  have hHG : w.heap.size < w1.heap.size := by have := hw1.size; simp at this; omega
  clear hw1
  generalize w1.heap.size = G at h2 hHG ⊢
  generalize w1.alloc (.cells (cells (crs allS allS)) 28) = w0 at h0 h1 h2 ⊢
  go_loopw [10] (fun i wr => ∃ j : Nat, j ≤ rs.length ∧ i = .int .i64 j ∧ Grow w wr ∧ At wr w.heap.size nil ∧ At wr G (met (rs.take j))) (fun i _ => rs.length - (intOf i).toNat)
  case atStart => exact ⟨0, by omega, rfl, h0.out, h1, by rw [met_zero]; exact h2⟩
  case round =>
    clear h0 h1 h2
    obtain ⟨j, hj, rfl, hg, hr, ho⟩ := hrel
    by_cases hlt : j < rs.length
    · obtain ⟨r, Hr⟩ : ∃ r, Hid (rs[j]? = some r) := ⟨rs[j], List.getElem?_eq_getElem hlt⟩
      have hrng : wr.rangeAt b (o + j * 32) (cells r).toList := rangeAt_grow hg hb (HR.out j r Hr.out)
      have hdk : decide ((j : Int) < (rs.length : Int)) = true := by simp; omega
      have Hu : Hid (met (rs.take (j + 1)) = and2 (met (rs.take j)) r) := met_take Hr.out
      generalize met (rs.take j) = R at ho Hu
      go_wp2_with (first | (refine ldm b (o + j * 32) r (by rfl) hrng ?_) | (refine st wr.heap.size nil r (by rfl) (by rfl) (new_nil wr) ?_))
      rw [nil_lit, World.setRow_alloc_new]
      have hg1 : Grow w (wr.alloc (.cells (cells r) 28)) := hg.alloc _
      have hr1 := hr.alloc (.cells (cells r) 28)
      have ho1 := ho.alloc (.cells (cells r) 28)
      have hn1 := At.new wr r
      have hGg := ho.lt
      clear hrng
      generalize wr.heap.size = g at hn1 hGg ⊢
      generalize wr.alloc (.cells (cells r) 28) = wa at hg1 hr1 ho1 hn1 ⊢
      clear hg hr ho
      go_loopw [14] (fun i wr => ∃ e : Nat, e ≤ 32 ∧ i = .int .i64 e ∧ Grow w wr ∧ At wr w.heap.size nil ∧ At wr G (part e (and2 R r) R) ∧ At wr g r) (fun i _ => 32 - (intOf i).toNat)
      case atStart => exact ⟨0, by omega, rfl, hg1, hr1, by rw [part_zero]; exact ho1, hn1⟩
      case round =>
        clear hg1 hr1 ho1 hn1
        obtain ⟨e, he, rfl, hg, hr, ho, hn⟩ := hrel
        by_cases hlt2 : e < 32
        · have hc := ho.cell e hlt2
          rw [row_part_ge _ _ _ _ (Nat.le_refl _)] at hc
          have hf := ho.frozen e
          have hc2 := hn.cell e hlt2
          have hx := bits_and (row R e) (row r e)
          have HX : Hid (row (and2 R r) e = _) := row_and2 R r e hlt2
          go_wp2
          go_region
          all_goals go_wp2
          all_goals
            go_roundw
            case rel => exact ⟨e + 1, by omega, by go_num, (bset hg (by omega) _).drew, (hr.set_other (by omega) _ _).drew, (ho.step _ (fun _ => HX.out.symm)).drew, (hn.set_other (by omega) _ _).drew⟩
            case measure => simp [intOf]; omega
        · obtain rfl : e = 32 := by omega
          rw [part_full, ← Hu.out] at ho
          go_wp2
          go_roundw
          case rel => exact ⟨j + 1, by omega, by go_num, hg, hr, ho⟩
          case measure => simp [intOf]; omega
    · obtain rfl : j = rs.length := by omega
      rw [List.take_length] at ho
      go_wp2_with (first | (refine ld G (met rs) (by rfl) ho ?_) | (refine st w.heap.size nil (met rs) (by rfl) (by rfl) hr ?_))
      exact bodyPost_ret (v := .agg (cells (met rs))) (res rfl _ _ w.heap.size _ (by rfl) hr.put) rfl ⟨rfl, below_setRow hg (by omega) _⟩

set_option maxHeartbeats 2000000 in
theorem sqs_sl (rs : List Rl) (b o cap : Nat) (w : World) (hb : b < w.heap.size) (hl : rs.length ≤ 1000000) (HR : Hid (∀ j r, rs[j]? = some r → w.rangeAt b (o + j * 32) (cells r).toList)) :
    Calls Try.prog 21 #[.slice (some ⟨b, o, none⟩) rs.length cap] w fun x w' => x = .returned (.agg (cells (sqs rs))) ∧ Grow w w' := by
  go_enter Try.func21, Try.ntmps21
  have HU := U_all
  go_wp2_with (first | (go_at_call 15; rw [← HU]; refine (id_any allS _).mono ?_; rintro e w1 ⟨rfl, hw1⟩) | (refine st w1.heap.size nil (idr allS) (by rfl) (by rfl) (new_nil w1) ?_))
  rw [nil_lit] at hw1 ⊢
  rw [World.setRow_alloc_new]
  have h0 : Hid (Grow w (w1.alloc (.cells (cells (idr allS)) 28))) := (((Grow.refl w).alloc _).trans hw1).alloc _
  have h1 : At (w1.alloc (.cells (cells (idr allS)) 28)) w.heap.size nil := ((At.new w nil).grow hw1).alloc _
  have h2 := At.new w1 (idr allS)
  have hHG : w.heap.size < w1.heap.size := by have := hw1.size; simp at this; omega
  clear hw1
  generalize w1.heap.size = G at h2 hHG ⊢
  generalize w1.alloc (.cells (cells (idr allS)) 28) = w0 at h0 h1 h2 ⊢
  go_loopw [11] (fun i wr => ∃ j : Nat, j ≤ rs.length ∧ i = .int .i64 j ∧ Grow w wr ∧ At wr w.heap.size nil ∧ At wr G (sqs (rs.take j))) (fun i _ => rs.length - (intOf i).toNat)
  case atStart => exact ⟨0, by omega, rfl, h0.out, h1, by rw [sqs_zero]; exact h2⟩
  case round =>
    clear h0 h1 h2
    obtain ⟨j, hj, rfl, hg, hr, ho⟩ := hrel
    by_cases hlt : j < rs.length
    · obtain ⟨r, Hr⟩ : ∃ r, Hid (rs[j]? = some r) := ⟨rs[j], List.getElem?_eq_getElem hlt⟩
      have hrng : wr.rangeAt b (o + j * 32) (cells r).toList := rangeAt_grow hg hb (HR.out j r Hr.out)
      have hdk : decide ((j : Int) < (rs.length : Int)) = true := by simp; omega
      have Hu : Hid (sqs (rs.take (j + 1)) = seq2 (sqs (rs.take j)) r) := sqs_take Hr.out
      generalize sqs (rs.take j) = R at ho Hu
      go_wp2_with (first | (refine ldm b (o + j * 32) r (by rfl) hrng ?_) | (refine st wr.heap.size nil r (by rfl) (by rfl) (new_nil wr) ?_) | (refine ld G R (by rfl) (((ho.alloc _).put_other (by have := ho.lt; omega))) ?_))
      rw [nil_lit, World.setRow_alloc_new]
      have hg1 : Grow w (wr.alloc (.cells (cells r) 28)) := hg.alloc _
      have hr1 := hr.alloc (.cells (cells r) 28)
      have ho1 := ho.alloc (.cells (cells r) 28)
      have hn1 := At.new wr r
      have hGg := ho.lt
      clear hrng
      generalize wr.heap.size = g at hn1 hGg ⊢
      generalize wr.alloc (.cells (cells r) 28) = wa at hg1 hr1 ho1 hn1 ⊢
      clear hg hr ho
      go_loopw [16] (fun i wr => ∃ e : Nat, e ≤ 32 ∧ i = .int .i64 e ∧ Grow w wr ∧ At wr w.heap.size nil ∧ At wr G (part e (seq2 R r) R) ∧ At wr g r) (fun i _ => 32 - (intOf i).toNat)
      case atStart => exact ⟨0, by omega, rfl, hg1, hr1, by rw [part_zero]; exact ho1, hn1⟩
      case round =>
        clear hg1 hr1 ho1 hn1
        obtain ⟨e, he, rfl, hg, hr, ho, hn⟩ := hrel
        by_cases hlt2 : e < 32
        · have hf := ho.frozen e
          have hc := ho.cell e hlt2
          have HX : Hid (row (seq2 R r) e = _) := row_seq2 R r e hlt2
          have hHg : w.heap.size < g := by omega
          go_wp2_with (first | (refine ix R e hlt2 (by rfl) (by rfl) ?_) | (refine ld g r (by rfl) hn ?_) | (go_at_call 51; refine (after_any _ _ _).mono ?_; rintro x w2 ⟨rfl, hw2⟩; have hc' := (ho.grow hw2).cell e hlt2; have hf' := (ho.grow hw2).frozen e))
          go_roundw
          case rel => exact ⟨e + 1, by omega, by go_num, bset (Grow.trans hg hw2) (by omega) _, (hr.grow hw2).set_other (by omega) _ _, (ho.grow hw2).step _ (fun _ => HX.out.symm), (hn.grow hw2).set_other (by omega) _ _⟩
          case measure => simp [intOf]; omega
        · obtain rfl : e = 32 := by omega
          rw [part_full, ← Hu.out] at ho
          go_wp2
          go_roundw
          case rel => exact ⟨j + 1, by omega, by go_num, hg, hr, ho⟩
          case measure => simp [intOf]; omega
    · obtain rfl : j = rs.length := by omega
      rw [List.take_length] at ho
      go_wp2_with (first | (refine ld G (sqs rs) (by rfl) ho ?_) | (refine st w.heap.size nil (sqs rs) (by rfl) (by rfl) hr ?_))
      exact bodyPost_ret (v := .agg (cells (sqs rs))) (res rfl _ _ w.heap.size _ (by rfl) hr.put) rfl ⟨rfl, below_setRow hg (by omega) _⟩

set_option maxHeartbeats 1000000 in
theorem sqs_nil (w : World) : Calls Try.prog 21 #[.slice none 0 0] w fun x w' => x = .returned (.agg (cells (idr allS))) ∧ Grow w w' := by
  go_enter Try.func21, Try.ntmps21
  have HU := U_all
  go_wp2_with (first | (go_at_call 15; rw [← HU]; refine (id_any allS _).mono ?_; rintro e w1 ⟨rfl, hw1⟩) | (refine st w1.heap.size nil (idr allS) (by rfl) (by rfl) (new_nil w1) ?_))
  rw [nil_lit] at hw1 ⊢
  rw [World.setRow_alloc_new]
  have h0 : Grow w (w1.alloc (.cells (cells (idr allS)) 28)) := Grow.alloc (Grow.trans ((Grow.refl w).alloc _) hw1) _
  have h1 : At (w1.alloc (.cells (cells (idr allS)) 28)) w.heap.size nil := ((At.new w nil).grow hw1).alloc _
  have h2 := At.new w1 (idr allS)
  clear hw1
  generalize w1.heap.size = G at h2 ⊢
  generalize w1.alloc (.cells (cells (idr allS)) 28) = w0 at h0 h1 h2 ⊢
  go_loopw [11] (fun i wr => i = .int .i64 0 ∧ wr = w0) (fun _ _ => 0)
  case atStart => exact ⟨rfl, rfl⟩
  case round =>
    obtain ⟨rfl, rfl⟩ := hrel
    go_wp2_with (first | (refine ld G (idr allS) (by rfl) h2 ?_) | (refine st w.heap.size nil (idr allS) (by rfl) (by rfl) h1 ?_))
    exact bodyPost_ret (v := .agg (cells (idr allS))) (res rfl _ _ w.heap.size _ (by rfl) h1.put) rfl ⟨rfl, below_setRow h0 (Nat.le_refl _) _⟩

theorem sl_hid {w : World} {b o : Nat} {rs : List Rl} (h : ∀ j r, rs[j]? = some r → w.rangeAt b (o + j * 32) (cells r).toList) : Hid (∀ j r, rs[j]? = some r → w.rangeAt b (o + j * 32) (cells r).toList) := h
/-- a slice that is not nil holds these relations -/
def Sn (w : World) (v : Value) (rs : List Rl) : Prop :=
  ∃ b o cap, v = .slice (some ⟨b, o, none⟩) rs.length cap ∧ b < w.heap.size ∧ ∀ j r, rs[j]? = some r → w.rangeAt b (o + j * 32) (cells r).toList
theorem Sn.grow {w w' : World} {v : Value} {rs : List Rl} (hg : Grow w w') (h : Sn w v rs) : Sn w' v rs := by
  obtain ⟨b, o, cap, rfl, hb, hr⟩ := h
  exact ⟨b, o, cap, rfl, Nat.lt_of_lt_of_le hb hg.size, fun j r hj => rangeAt_grow hg hb (hr j r hj)⟩
theorem uni_any (rs : List Rl) (v : Value) (w : World) (h : Sn w v rs) (hl : rs.length ≤ 1000000) : Calls Try.prog 19 #[v] w fun x w' => x = .returned (.agg (cells (uni rs))) ∧ Grow w w' := by
  obtain ⟨b, o, cap, rfl, hb, hr⟩ := h
  exact uni_sl rs b o cap w hb hl (sl_hid hr)
theorem met_any (rs : List Rl) (v : Value) (w : World) (h : Sn w v rs) (hl : rs.length ≤ 1000000) : Calls Try.prog 20 #[v] w fun x w' => x = .returned (.agg (cells (met rs))) ∧ Grow w w' := by
  obtain ⟨b, o, cap, rfl, hb, hr⟩ := h
  exact met_sl rs b o cap w hb hl (sl_hid hr)
theorem seq_any (rs : List Rl) (v : Value) (w : World) (h : Sn w v rs) (hl : rs.length ≤ 1000000) : Calls Try.prog 21 #[v] w fun x w' => x = .returned (.agg (cells (sqs rs))) ∧ Grow w w' := by
  obtain ⟨b, o, cap, rfl, hb, hr⟩ := h
  exact sqs_sl rs b o cap w hb hl (sl_hid hr)

end Go.Proofs.Ytlbccddhcbcpoaa
