/- A byte as a text; a number's digits, last first: the library's Itoa. -/
import Derived.Test.YtbghlhhoafkmgaaDoorCondJudgesP5
import Derived.Lib.SlBytesRow
import Derived.Lib.ItoaNum
import Derived.Lib.ItoaLen
namespace Go.Proofs.YtbghlhhoafkmgaaDoor
open Go.RowKit
set_option linter.unusedVariables false
set_option linter.unusedSimpArgs false
set_option linter.unusedSectionVars false

section
variable {P : Program} {n : Nat} {ks : List Nat} {G0 : Gr} {w0 : World} {T : List (Nat × SV)} {H : Hp} {ops : Array Oper} {o : Oper}
theorem conv1E {x : Operand} {s t e i c : Nat} {d : Int} (b : UInt8) (hg : guardS ops T o.guard = some .run) (hop : o.op = .convert s t x) (hx : evS T x = some (.sl i 1 c)) (hH : lg H i = some (some (.blk [.int .u8 d]))) (hs : P.underlying s = some (.slice e)) (he : P.underlying e = some (.int .u8)) (ht : P.underlying t = some .string) (hd : d = ((b.toNat : Nat) : Int)) : EffOK P n ops ks G0 w0 T H o (.str [b]) H := fun G a w A => by
  have hw := gd_run (gd := none) A hg
  obtain ⟨ds, op, ty, ps, af, gd⟩ := o
  simp only at hop
  subst hop
  have h1 := A.ev hx
  rw [lg_is] at hH
  obtain ⟨L, vs, h2, h3, h4⟩ := A.mem.ent i _ hH
  have hGi : G[i]? = some (some L) := by
    cases hq : G[i]? with
    | none => rw [hq] at h2; cases h2
    | some p => rw [hq] at h2; simp at h2; rw [h2]
  have hv : vs = [.int .u8 d] := by have : denL G [.int .u8 d] = some [.int .u8 d] := rfl; rw [this] at h3; exact (Option.some.inj h3).symm
  subst hv
  unfold den at h1
  rw [hGi] at h1
  have h1 := (Option.some.inj h1).symm
  refine does_val (w' := w) hw ?_ ⟨[], rfl, by rw [List.append_nil]; exact A.ms⟩
  have hr := Lib.run_convert_whole (P := P) w s e t hs he ht L.b L.pre.length (S [b]) (fun k hk => by
    have h0 : k = 0 := by have : (S [b]).size = 1 := rfl; omega
    subst h0
    refine h4.cell ?_
    rw [List.getElem?_toArray, List.append_assoc, List.getElem?_append_right (by omega), show L.pre.length + 0 - L.pre.length = 0 by omega, hd]
    rfl) (c + rm (some L))
  have hsz : (S [b]).size = 1 := rfl
  rw [hsz] at hr
  unfold execOp
  simp only [Option.map_some] at h1
  simp only [h1, Sem.run_bind, hr, Result.andThen_ok, Sem.run_pure]
end
/-- what is left of a number, and the digits that are made -/
def dinv (n m : Int) (l : List UInt8) : Prop := (l = [] ∧ m = n) ∨ (l ≠ [] ∧ Lib.decDigits n.natAbs = if m = 0 then l else Lib.decDigits m.natAbs ++ l)
def dgB (m : Int) : UInt8 := UInt8.ofNat (48 + m.natAbs % 10)
theorem abs_quo (m : Int) : (m.tdiv 10).natAbs = m.natAbs / 10 := Int.natAbs_tdiv m 10
theorem dg_cons (m : Int) : Lib.decDigits m.natAbs = (if m.tdiv 10 = 0 then [] else Lib.decDigits (m.tdiv 10).natAbs) ++ [dgB m] := by
  have hq := abs_quo m
  rw [Lib.decDigits]
  by_cases h : m.natAbs < 10
  · have h0 : m.tdiv 10 = 0 := Int.natAbs_eq_zero.1 (by rw [hq]; omega)
    rw [dif_pos h, if_pos h0]
    unfold dgB
    rw [Nat.mod_eq_of_lt h]; rfl
  · have h0 : ¬ m.tdiv 10 = 0 := fun e => by rw [e] at hq; simp at hq; omega
    rw [dif_neg h, if_neg h0, hq]; rfl
theorem dinv_go {n m : Int} {l : List UInt8} (h : dinv n m l) (hc : l = [] ∨ m ≠ 0) : dinv n (m.tdiv 10) (dgB m :: l) := by
  refine .inr ⟨by simp, ?_⟩
  have hd := dg_cons m
  rcases h with ⟨rfl, rfl⟩ | ⟨hl, he⟩
  · rw [hd]; split <;> simp
  · have hm : m ≠ 0 := hc.resolve_left hl
    rw [he, if_neg hm, hd]
    split <;> simp
theorem dinv_end {n : Int} {l : List UInt8} (h : dinv n 0 l) (hl : l ≠ []) : l = Lib.decDigits n.natAbs := by
  rcases h with ⟨h1, _⟩ | ⟨_, h⟩
  · exact absurd h1 hl
  · rw [h]; simp
theorem itoa_neg {n : Int} (h : n < 0) : Lib.itoa n = 45 :: Lib.decDigits n.natAbs := by unfold Lib.itoa; rw [if_pos h]
theorem itoa_pos {n : Int} (h : ¬ n < 0) : Lib.itoa n = Lib.decDigits n.natAbs := by unfold Lib.itoa; rw [if_neg h]; congr 1; omega
theorem tmod_abs (m : Int) : (m.tmod 10).natAbs = m.natAbs % 10 := Int.natAbs_tmod m 10
theorem dg_p {m : Int} (h : ¬ m.tmod 10 < 0) : m.tmod 10 = ((m.natAbs % 10 : Nat) : Int) := by have := tmod_abs m; omega
theorem dg_n {m : Int} (h : m.tmod 10 < 0) : IntKind.wrap .i64 (0 - m.tmod 10) = ((m.natAbs % 10 : Nat) : Int) := by
  have h1 := tmod_abs m
  have h2 : 0 - m.tmod 10 = ((m.natAbs % 10 : Nat) : Int) := by omega
  rw [h2]
  have h3 : m.natAbs % 10 < 10 := Nat.mod_lt _ (by decide)
  simp only [IntKind.wrap, IntKind.signed, IntKind.bits]; simp; omega
theorem by_of (m : Int) : IntKind.wrap .u8 (48 + ((m.natAbs % 10 : Nat) : Int)) = (((dgB m).toNat : Nat) : Int) := by
  have h3 : m.natAbs % 10 < 10 := Nat.mod_lt _ (by decide)
  unfold dgB
  rw [UInt8.toNat_ofNat']
  simp only [IntKind.wrap, IntKind.signed, IntKind.bits]; simp <;> omega
theorem quo_w {m : Int} (h1 : -9223372036854775808 ≤ m) (h2 : m ≤ 9223372036854775807) : IntKind.wrap .i64 (Int.tdiv m 10) = m.tdiv 10 := by
  have := abs_quo m
  simp only [IntKind.wrap, IntKind.signed, IntKind.bits]; simp; omega
structure DI (n m : Int) (l : List UInt8) : Prop where
  d : dinv n m l
  a : -9223372036854775808 ≤ m
  b : m ≤ 9223372036854775807
  s : l.length ≤ 25
theorem DI.i0 {n : Int} (h1 : -9223372036854775808 ≤ n) (h2 : n ≤ 9223372036854775807) : DI n n [] := ⟨.inl ⟨rfl, rfl⟩, h1, h2, by simp⟩
theorem DI.nx {n m : Int} {l : List UInt8} (h : DI n m l) (h1 : -9223372036854775808 ≤ n) (h2 : n ≤ 9223372036854775807) (hc : (l == [] || !(m == 0)) = true) : DI n (IntKind.wrap .i64 (Int.tdiv m 10)) ([dgB m] ++ l) := by
  have hc' : l = [] ∨ m ≠ 0 := by
    rcases Bool.or_eq_true_iff.1 hc with h | h
    · exact .inl (by simpa using h)
    · exact .inr (by simpa using h)
  rw [quo_w h.a h.b]
  have hq := abs_quo m
  have ha := h.a; have hb := h.b
  have hd := dinv_go h.d hc'
  refine ⟨hd, by omega, by omega, ?_⟩
  have hl : ([dgB m] ++ l).length ≤ (Lib.decDigits n.natAbs).length := by
    rcases hd with ⟨h, _⟩ | ⟨_, h⟩
    · cases h
    · rw [h]; split
      · exact Nat.le_refl _
      · simp only [List.length_append, List.length_cons, List.length_nil]; omega
  have hi := Lib.itoa_length_le n h1 h2
  have : (Lib.decDigits n.natAbs).length ≤ (Lib.itoa n).length := by
    by_cases h : n < 0
    · rw [itoa_neg h]; simp
    · rw [itoa_pos h]; exact Nat.le_refl _
  omega
theorem DI.ms {n m : Int} {l : List UInt8} (h : DI n m l) (hc : (l == [] || !(m == 0)) = true) : (IntKind.wrap .i64 (Int.tdiv m 10)).natAbs + (if [dgB m] ++ l = [] then 1 else 0) < m.natAbs + (if l = [] then 1 else 0) := by
  rw [quo_w h.a h.b, if_neg (by simp), abs_quo]
  rcases Bool.or_eq_true_iff.1 hc with h | h
  · rw [if_pos (by simpa using h)]; omega
  · have : m ≠ 0 := by simpa using h
    have : 0 < m.natAbs := Int.natAbs_pos.2 this
    omega
theorem DI.fi {n m : Int} {l : List UInt8} (h : DI n m l) (hc : (l == [] || !(m == 0)) = false) : l = Lib.decDigits n.natAbs := by
  obtain ⟨h1, h2⟩ := Bool.or_eq_false_iff.1 hc
  have hm : m = 0 := by simpa using h2
  subst hm
  exact dinv_end h.d (by simpa using h1)
end Go.Proofs.YtbghlhhoafkmgaaDoor
