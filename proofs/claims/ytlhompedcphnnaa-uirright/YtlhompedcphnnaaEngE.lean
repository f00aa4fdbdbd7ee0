/- Equality of structs whose fields are numbers and truths; fields of values; results of several parts. -/
import Derived.Test.YtlhompedcphnnaaEngD
import Derived.Laws.StructEq
namespace Go.Proofs.Ytlhompedcphnnaa
open Go.RowKit

def shp : Bool → Option Value → Option Value → Option Bool
  | false, some (.int k a), some (.int k' b) => if k = k' then some (a == b) else none
  | true, some (.bool a), some (.bool b) => some (a == b)
  | _, _, _ => none
/-- the fields of a struct of numbers and truths: where each lies, whether it is a truth -/
def flatL (P : Program) : List Field → Option (List (Nat × Bool))
  | [] => some []
  | f :: fs => if f.name = "_" then none else match P.underlying f.type with
    | some .bool => (flatL P fs).map ((f.offset, true) :: ·)
    | some (.int _) => (flatL P fs).map ((f.offset, false) :: ·)
    | _ => none
def shps (xs ys : Array Value) : List (Nat × Bool) → Option (List Bool)
  | [] => some []
  | x :: l => match shp x.2 xs[x.1]? ys[x.1]?, shps xs ys l with
    | some b, some bs => some (b :: bs)
    | _, _ => none
section
variable {P : Program}
theorem part_one {t : TypeId} {cs : Array Value} {o : Nat} {v : Value} (w : World) (h : (isAgg t).run P w = .ok false w) (hv : cs[o]? = some v) : (part t cs o).run P w = .ok v w := by
  simp [part, h, hv]
theorem eqFields_flat (d : Nat) (w : World) (xs ys : Array Value) : ∀ (fs : List Field) (offs : List (Nat × Bool)) (bs : List Bool), flatL P fs = some offs → shps xs ys offs = some bs →
    (Op.eqFields (d + 1) xs ys fs).run P w = .ok (bs.all id) w
  | [], offs, bs, hf, hb => by simp [flatL] at hf; subst hf; simp [shps] at hb; subst hb; simp [Op.eqFields]
  | f :: fs, offs, bs, hf, hb => by
    unfold flatL at hf
    split at hf
    · cases hf
    rename_i hname
    cases hu : P.underlying f.type with
    | none => simp [hu] at hf
    | some dd =>
      have key : ∀ (isb : Bool) (l : List (Nat × Bool)), flatL P fs = some l → offs = (f.offset, isb) :: l → (isAgg f.type).run P w = .ok false w →
          (∀ a b r, shp isb (some a) (some b) = some r → (Op.equalIn (d + 1) f.type a b).run P w = .ok r w) → (Op.eqFields (d + 1) xs ys (f :: fs)).run P w = .ok (bs.all id) w := by
        intro isb l hl ho hagg heq
        subst ho
        unfold shps at hb
        simp only at hb
        cases hs : shp isb xs[f.offset]? ys[f.offset]? with
        | none => simp [hs] at hb
        | some r =>
          cases hs2 : shps xs ys l with
          | none => simp [hs, hs2] at hb
          | some rs =>
            simp [hs, hs2] at hb
            subst hb
            have ih := eqFields_flat d w xs ys fs l rs hl hs2
            cases hx : xs[f.offset]? with
            | none => simp [hx, shp] at hs
            | some a =>
              cases hy : ys[f.offset]? with
              | none => rw [hx, hy] at hs; cases a <;> cases isb <;> simp [shp] at hs
              | some b =>
                rw [hx, hy] at hs
                unfold Op.eqFields
                simp only [ne_eq, hname, not_false_eq_true, if_true, Sem.run_bind, part_one w hagg hx, part_one w hagg hy, Result.andThen_ok, heq a b r hs]
                cases r
                · simp
                · simp [ih]
      cases dd with
      | bool =>
        simp only [hu] at hf
        cases hl : flatL P fs with
        | none => simp [hl] at hf
        | some l =>
          simp [hl] at hf
          refine key true l hl hf.symm (by simp [isAgg, run_underlying hu]) fun a b r hr => ?_
          cases a <;> cases b <;> simp [shp] at hr
          subst hr
          exact run_equalIn_bool w d f.type _ _ hu
      | int k =>
        simp only [hu] at hf
        cases hl : flatL P fs with
        | none => simp [hl] at hf
        | some l =>
          simp [hl] at hf
          refine key false l hl hf.symm (by simp [isAgg, run_underlying hu]) fun a b r hr => ?_
          cases a <;> cases b <;> simp [shp] at hr
          obtain ⟨rfl, rfl⟩ := hr
          exact run_equalIn_int w d f.type _ _ _ _ hu
      | _ => simp [hu] at hf
/-- a struct type whose parts are numbers and truths -/
def flatT (P : Program) (t : TypeId) : Option (List (Nat × Bool)) :=
  match P.underlying t with
  | some (.struct fs) => if P.stoodInHeld t || P.eqGuardType P.depth t then none else flatL P fs.toList
  | _ => none
theorem eq_flat {t : TypeId} {offs : List (Nat × Bool)} {xs ys : Array Value} {bs : List Bool} (w : World) (x y : Operand) (h : flatT P t = some offs) (hb : shps xs ys offs = some bs) :
    ((eqGuard .eql t x y (.agg xs) (.agg ys)).run P w = .ok () w ∧ (binOp .eql t (.agg xs) (.agg ys)).run P w = .ok (.bool (bs.all id)) w) ∧
    ((eqGuard .neq t x y (.agg xs) (.agg ys)).run P w = .ok () w ∧ (binOp .neq t (.agg xs) (.agg ys)).run P w = .ok (.bool (!bs.all id)) w) := by
  unfold flatT at h
  split at h
  · rename_i fs hu
    split at h
    · cases h
    · rename_i hs
      simp only [Bool.or_eq_true, not_or, Bool.not_eq_true] at hs
      have hf : P.fieldsOf t = fs := by unfold Program.fieldsOf; rw [hu]
      have he : (Op.equalIn 10000 t (.agg xs) (.agg ys)).run P w = .ok (bs.all id) w := by
        rw [run_equalIn_struct w 9999 t xs ys (by rw [hf]; exact hu) hs.1, hf]
        exact eqFields_flat 9998 w xs ys _ offs bs h hb
      refine ⟨⟨run_eqGuard_agg w _ t x y xs ys hs.2, ?_⟩, run_eqGuard_agg w _ t x y xs ys hs.2, ?_⟩
      · rw [run_eql_struct, he]; rfl
      · rw [run_neq_struct, he]; rfl
  · cases h
def fieldInfo (P : Program) (s f : Nat) : Option (TypeId × Nat) :=
  match P.underlying s with
  | some (.struct fs) => (fs[f]?).map fun fd => (fd.type, fd.offset)
  | _ => none
variable {ops : Array Oper} {a : Act} {w : World} {K : Value → World → Prop} {d : Option Tmp} {ty : TypeId} {pos : String} {af : Array Edge} {gd : Option (Nat × Bool)} {v : Value}
theorem d_field {s f ft off : Nat} {x : Operand} {cs : Array Value} (hw : Region.wanted { dst := d, op := .field s x f, type := ty, pos := pos, after := af, guard := gd } (yielded ops a.tmps) = true) (hx : a.eval x = .agg cs)
    (hf : fieldInfo P s f = some (ft, off)) (h1 : oneB P ft = true) (hv : cs[off]? = some v) (h : K v w) : Does P ops { dst := d, op := .field s x f, type := ty, pos := pos, after := af, guard := gd } a w K :=
  does_val hw (by
    unfold fieldInfo at hf
    split at hf
    · rename_i fs hu
      cases hq : fs[f]? with
      | none => simp [hq] at hf
      | some fd =>
        simp [hq] at hf
        obtain ⟨rfl, rfl⟩ := hf
        unfold execOp
        simp only [hx, Sem.run_bind, Instr.field, run_underlying hu, Result.andThen_ok, hq, asAgg, Sem.run_pure, part_one w (agg_no h1 w) hv]
    · cases hf) h
variable {n : Nat} {T : List (Nat × Value)}
theorem retCT {fn : Func} {R : Ending → World → Prop} {p q : Tmp} {t t' : TypeId} {g : Nat} {cs : Array Value} (hr : fn.results = #[.cell p t, .tmp q]) (hA : St n T a) (hv : ev T (.tmp p) = some (.pointer (some ⟨g, 0, none⟩))) (hq : ev T (.tmp q) = some v) (hb : Blk w g cs t') (h1 : rowB P t cs.size = true)
    (h : R (.returned (.tuple #[.agg cs, v])) w) : bodyPost P fn R .ret a w := by
  obtain ⟨⟨dd, h2, _, h3⟩, h4⟩ := row_facts h1
  have e1 := hA.ev hv
  have e2 := hA.ev hq
  simp only [Act.eval] at e1 e2
  refine ⟨hA.defers, _, ?_, h⟩
  have e3 : a.tmps[p]?.getD undef = .pointer (some ⟨g, 0, none⟩) := by simpa using e1
  have e4 : a.tmps[q]?.getD undef = v := by simpa using e2
  simp [results, hr, e3, e4, asAddr, run_loadVar_row w g t' t cs (0, 0) dd hb h2 (by cases dd <;> simp_all) h4]
theorem ret3 {fn : Func} {R : Ending → World → Prop} {p q r : Tmp} {x y z : Value} (hr : fn.results = #[.tmp p, .tmp q, .tmp r]) (hA : St n T a) (hx : ev T (.tmp p) = some x) (hy : ev T (.tmp q) = some y) (hz : ev T (.tmp r) = some z)
    (h : R (.returned (.tuple #[x, y, z])) w) : bodyPost P fn R .ret a w := by
  have e1 := hA.ev hx
  have e2 := hA.ev hy
  have e3 := hA.ev hz
  simp only [Act.eval] at e1 e2 e3
  refine ⟨hA.defers, _, ?_, h⟩
  have f1 : a.tmps[p]?.getD undef = x := by simpa using e1
  have f2 : a.tmps[q]?.getD undef = y := by simpa using e2
  have f3 : a.tmps[r]?.getD undef = z := by simpa using e3
  simp [results, hr, f1, f2, f3]
end
theorem ret_agg {x y : Array Value} (h : x = y) : Ending.returned (.agg x) = .returned (.agg y) := by rw [h]
theorem notof {b c : Bool} (h : b = c) : (!b) = !c := by rw [h]

theorem join_wp {P : Program} {c : Code} {K : Act → World → Prop} {Q : Exit → Act → World → Prop} {a : Act} {w : World} (h : c.wp P (Exit.then K fun _ _ _ => False) a w) (hk : ∀ a w, K a w → Q .normal a w) : c.wp P Q a w :=
  Code.wp_mono (fun e a w h => by cases e <;> first | exact hk _ _ h | exact h.elim) h
section
variable {P : Program} {ops : Array Oper} {a : Act} {w : World} {K : Value → World → Prop} {d : Option Tmp} {ty : TypeId} {pos : String} {af : Array Edge} {gd : Option (Nat × Bool)} {v : Value}
theorem d_pickT {c x y : Operand} (hw : Region.wanted { dst := d, op := .pick c x y, type := ty, pos := pos, after := af, guard := gd } (yielded ops a.tmps) = true) (hc : a.eval c = .bool true) (hx : a.eval x = v) (h : K v w) :
    Does P ops { dst := d, op := .pick c x y, type := ty, pos := pos, after := af, guard := gd } a w K := d_pick hw hc (by simpa using hx) h
theorem d_pickF {c x y : Operand} (hw : Region.wanted { dst := d, op := .pick c x y, type := ty, pos := pos, after := af, guard := gd } (yielded ops a.tmps) = true) (hc : a.eval c = .bool false) (hx : a.eval y = v) (h : K v w) :
    Does P ops { dst := d, op := .pick c x y, type := ty, pos := pos, after := af, guard := gd } a w K := d_pick hw hc (by simpa using hx) h
end
/-! ### Loops -/
theorem least {p : Nat → Prop} (h : ∃ m, p m) : ∃ m, p m ∧ ∀ k, k < m → ¬ p k := by
  obtain ⟨m, hm⟩ := h
  induction m using Nat.strongRecOn with
  | _ m ih =>
    by_cases hk : ∃ k, k < m ∧ p k
    · obtain ⟨k, hkm, hpk⟩ := hk; exact ih k hkm hpk
    · exact ⟨m, hm, fun k hkm hpk => hk ⟨k, hkm, hpk⟩⟩
theorem loop_by {P : Program} {c : Code} {Q : Exit → Act → World → Prop} {a : Act} {w : World} (I : Nat → Act → World → Prop) (m : Nat) (h0 : I m a w)
    (round : ∀ m a w, I m a w → c.wp P (Exit.then (fun a' w' => ∃ m', m' < m ∧ I m' a' w') Q) a w) : (Code.loop c).wp P Q a w := by
  refine wp_loop (fun a w => ∃ m, I m a w) (fun a w => @dite Nat (∃ m, I m a w) (Classical.propDecidable _) (fun h => Classical.choose (least h)) fun _ => 0) ⟨m, h0⟩ fun a w hI => ?_
  have hc := Classical.choose_spec (least hI)
  have hr := round _ a w hc.1
  refine Code.wp_mono (fun e a' w' hq => ?_) hr
  cases e with
  | normal =>
    obtain ⟨m', hlt, hI'⟩ := hq
    refine ⟨⟨m', hI'⟩, ?_⟩
    have h' : ∃ m, I m a' w' := ⟨m', hI'⟩
    simp only [dif_pos hI, dif_pos h']
    have h2 := (Classical.choose_spec (least h')).2
    refine Nat.lt_of_le_of_lt ?_ hlt
    exact Nat.le_of_not_lt fun hgt => h2 m' hgt hI'
  | _ => exact hq
end Go.Proofs.Ytlhompedcphnnaa
