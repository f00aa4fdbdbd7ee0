/- Functions that read what they are handed, and yield what lies in new memory, by its address. -/
import Derived.Test.YtbghlhhoafkmgaaDoorZMBase
namespace Go.Proofs.YtbghlhhoafkmgaaDoor
open Go.RowKit
set_option linter.unusedVariables false
set_option linter.unusedSimpArgs false
set_option linter.unusedSectionVars false

/-- of memory some blocks are kept: no others may be turned -/
theorem keys_pick {H H' l : Hp} {G : Gr} {m : List Nat} (hlen : H.length = G.length) (h1 : pickH H m = some l) (h2 : renH m H' = some l) : ∀ b, (keys H' (pickG m G)).contains b = true → (keys H G).contains b = true := fun b hb => by
  obtain ⟨p1, p2, p3⟩ := pickH_at h1
  obtain ⟨r1, r2⟩ := renH_at h2
  have hm : ∀ j ∈ m, j < G.length := fun j hj => by rw [← hlen]; exact p2 j hj
  obtain ⟨i, e, L, k1, km, k2, k3⟩ := mem_keys.1 hb
  obtain ⟨f, q1, q2⟩ := r2 i _ k1
  obtain ⟨f', rfl⟩ := renE_some q2
  have hi : i < m.length := by rw [← p1]; exact (List.getElem?_eq_some_iff.1 q1).1
  have hj : m[i]? = some m[i] := by simp [hi]
  rw [pickG_at hm hj] at k2
  rw [p3 i _ hj] at q1
  exact mem_keys.2 ⟨m[i], f', L, q1, by rw [(renE_mut q2).1]; exact km, k2, k3⟩
/-- what a function yields lies in new memory -/
def FnR (P : Program) (f : Nat) (args : List SV) (H : Hp) (J : SV → World → World → Prop) : Prop :=
  Ent_ P f = some (false, false) ∧ ∀ G w vs, Mem H G w → denL G args = some vs → Calls P f vs.toArray w fun e w' => ∃ x v, den [] x = some v ∧ e = .returned v ∧ Grow w w' ∧ J x w w'
section
variable {P : Program} {n : Nat} {ks : List Nat} {G0 : Gr} {w0 : World} {T : List (Nat × SV)} {H : Hp} {G : Gr} {a : Act} {w : World} {Q : Exit → Act → World → Prop} {K : List Fr} {pos : Pos} {ops : Array Oper} {o : Oper} {rest : List Oper}
/-- a block that is done with, named by a slot of another block: by its address -/
theorem Sy.close2 (A : Sy n T H ks G0 w0 G a w) (i q : Nat) {cs : List SV} {vs : List Value} {H' : Nat → Nat → Hp} (hi : lg H i = some (some (.blk cs))) (hq : lg H q = some (some (.blk [.ptr i 0]))) (hc : denL [] cs = some vs) (hH : ∀ b p, stH (stH H i none) q (some (.blk [adr b p])) = H' b p) :
    ∃ b p, Sy n T (H' b p) ks G0 w0 G a w ∧ Lies b p vs w (keys (H' b p) G) ∧ (ks.contains b = true ∨ w0.heap.size ≤ b) := by
  rw [lg_is] at hi hq
  obtain ⟨L, us, h1, h2, h3⟩ := A.mem.ent i _ hi
  have h4 : denL G cs = some vs := by simpa using denL_mono G cs hc
  rw [h4] at h2
  cases h2
  have hGi : G[i]? = some (some L) := by
    cases hz : G[i]? with
    | none => rw [hz] at h1; cases h1
    | some p => rw [hz] at h1; simp at h1; rw [h1]
  have hiq : q ≠ i := by
    intro e
    subst e
    rw [hi] at hq
    cases hq
    cases hc
  refine ⟨L.b, L.pre.length, ?_⟩
  rw [← hH]
  have hil : i < H.length := (List.getElem?_eq_some_iff.1 hi).1
  have hql : q < H.length := (List.getElem?_eq_some_iff.1 hq).1
  have hold : ∀ (j : Nat) (e : Ent), (stH (stH H i none) q (some (.blk [adr L.b L.pre.length])))[j]? = some (some e) → j ≠ i ∧ ((j = q ∧ e = .blk [adr L.b L.pre.length]) ∨ (j ≠ q ∧ H[j]? = some (some e))) := by
    intro j e h
    rw [stH_is, stH_is] at h
    by_cases hj : j = q
    · subst hj
      rw [List.getElem?_set_self (by simpa using hql)] at h
      cases h
      exact ⟨hiq, .inl ⟨rfl, rfl⟩⟩
    · rw [List.getElem?_set_ne (Ne.symm hj)] at h
      by_cases hk : j = i
      · subst hk; rw [List.getElem?_set_self hil] at h; cases h
      · rw [List.getElem?_set_ne (Ne.symm hk)] at h; exact ⟨hk, .inr ⟨hj, h⟩⟩
  have old : ∀ (j : Nat) (e : Ent), (stH (stH H i none) q (some (.blk [adr L.b L.pre.length])))[j]? = some (some e) → ∃ e', H[j]? = some (some e') ∧ e'.mut = e.mut ∧ (e'.empty ↔ e.empty) ∧ j ≠ i := by
    intro j e h
    obtain ⟨k1, k2⟩ := hold j e h
    rcases k2 with ⟨rfl, rfl⟩ | ⟨k2, k3⟩
    · exact ⟨_, hq, rfl, Iff.rfl, k1⟩
    · exact ⟨e, k3, rfl, Iff.rfl, k1⟩
  refine ⟨⟨A.size, A.defers, A.get, ⟨by rw [stH_is, stH_is]; simpa using A.mem.len, fun j e he => ?_, fun j k e f L' M hjk g1 g2 g3 g4 g5 g6 => ?_⟩, A.pre, fun j e L' g1 g2 g3 => ?_, A.mix⟩, ⟨h3.lt, ?_, ?_⟩, A.own i _ L hi rfl hGi⟩
  · obtain ⟨k1, k2⟩ := hold j e he
    rcases k2 with ⟨rfl, rfl⟩ | ⟨k2, k3⟩
    · obtain ⟨M, us, g1, g2, g3⟩ := A.mem.ent j _ hq
      refine ⟨M, us, g1, ?_, g3⟩
      rw [← g2]
      unfold denL den
      rw [hGi]
      rfl
    · exact A.mem.ent j e k3
  · obtain ⟨e', k1, k2, _, _⟩ := old j e g1
    obtain ⟨f', l1, _, l2, _⟩ := old k f g2
    exact A.mem.sep j k e' f' L' M hjk k1 l1 (by rw [k2]; exact g3) g4 g5 (fun h => g6 (l2.1 h))
  · obtain ⟨e', k1, k2, _, _⟩ := old j e g1
    exact A.own j e' L' k1 (by rw [k2]; exact g2) g3
  · cases hz : (keys (stH (stH H i none) q (some (.blk [adr L.b L.pre.length]))) G).contains L.b with
    | false => rfl
    | true =>
      obtain ⟨j, e, L', g1, g2, g3, g4⟩ := mem_keys.1 hz
      obtain ⟨e', k1, k2, _, k4⟩ := old j e g1
      exact absurd g4 (A.mem.sep j i e' _ L' L k4 k1 hi (by rw [k2]; exact g2) g3 hGi (fun h => h))
  · intro j x hx
    refine h3.cell ?_
    rw [List.getElem?_toArray, List.append_assoc, List.getElem?_append_right (by omega), show L.pre.length + j - L.pre.length = j by omega, List.getElem?_append_left (List.getElem?_eq_some_iff.1 hx).1]
    exact hx
theorem enterR {f : Nat} {fn : Func} {c : Code} {args : List SV} {J : SV → World → World → Prop} (hent : Ent_ P f = some (false, false)) (hf : P.funcs[f]? = some fn) (hb : fn.body = some c) (hn : fn.ntmps = n) (hl : Nat.ble args.length n = true)
    (h : ∀ G w a, H.length = G.length → Sy n (argS args 0) H (keys H G) G w G a w → Goal P (bodyPost P fn fun e w' => ∃ x v, den [] x = some v ∧ e = .returned v ∧ Grow w w' ∧ J x w w') [] (.code c) a w) : FnR P f args H J := by
  refine ⟨hent, fun G w vs hM hv => ?_⟩
  refine calls_of_wp hf hb (h G w _ hM.len ⟨?_, rfl, fun t x hx => ?_, hM, ⟨[], by simp⟩, fun i e L h1 h2 h3 => .inl (mem_keys.2 ⟨i, e, L, h1, h2, h3, rfl⟩), Mix.refl _ _⟩)
  · have := denL_len hv
    have := Nat.le_of_ble_eq_true hl
    simp [hn]; omega
  · obtain ⟨_, h2⟩ := argS_look hx
    simp only [Nat.sub_zero] at h2
    obtain ⟨v, h3, h4⟩ := denL_get hv h2
    have hlt : t < vs.length := (List.getElem?_eq_some_iff.1 h3).1
    rw [h4]
    simp [Array.getD_eq_getD_getElem?, Array.getElem?_append, hlt] at h3 ⊢
    exact h3.symm
theorem RETR {Y : Tb} {fn : Func} {J : SV → World → World → Prop} {H0 : Hp} (hX : Y.ok P = true) {y : SV} {r : List SV} {rv : List ResultVar} {v' : Value} (A : Sy n T H (keys H0 G0) G0 w0 G a w) (hro : ∀ (i : Nat) (e : Ent), H0[i]? = some (some e) → e.mut = false) (hr : fn.results.toList = rv) (hv : resS ⟨Y, false⟩ T H rv = some r) (hy : oneS r = y) (hc : den [] y = some v') (hJ : J y w0 w) : bodyPost P fn (fun e w' => ∃ x v, den [] x = some v ∧ e = .returned v ∧ Grow w0 w' ∧ J x w0 w') .ret a w := by
  obtain ⟨v, h1, h2⟩ := res_run (X := ⟨Y, false⟩) (fn := fn) hX A hr hv hy
  have h3 : den G y = some v' := by simpa using den_mono G y hc
  rw [h3] at h1
  cases h1
  have hk : ∀ k, (keys H0 G0).contains k = false := fun k => by
    cases hz : (keys H0 G0).contains k with
    | false => rfl
    | true =>
      obtain ⟨i, e', L, q1, q2, _⟩ := mem_keys.1 hz
      rw [hro i e' q1] at q2; cases q2
  have hm := A.mix
  exact ⟨A.defers, v', h2, y, v', hc, rfl, ⟨hm.os, hm.tape, hm.output, hm.size, fun k hk' => hm.block k hk' (hk k)⟩, hJ⟩
theorem CALLR {f : Nat} {args az : List SV} {H' l : Hp} {J : SV → World → World → Prop} (m : List Nat) (hf : FnR P f args H' J) (A : Sy n T H ks G0 w0 G a w) (h1 : callS n ops T o = some (f, az)) (h2 : renL m args = some az) (h3 : renH m H' = some l) (h4 : pickH H m = some l) (h5 : ndB m = true)
    (hk : ∀ x a' w', J x w w' → (∀ k, (keys H G).contains k = true → k < w.heap.size) → Sy n (extS T o.dst x) H ks G0 w0 G a' w' → Goal P Q K (.ops ops rest) a' w') : Goal P Q K (.ops ops (o :: rest)) a w := by
  obtain ⟨hd, us, hu, hdo⟩ := callS_do (P := P) (ops := ops) A h1 hf.1
  obtain ⟨p1, p2, p3⟩ := pickH_at h4
  have hm : ∀ j ∈ m, j < G.length := fun j hj => by rw [← A.mem.len]; exact p2 j hj
  have hM := A.mem.sub h4 h3 h5
  have hv' : denL (pickG m G) args = some us := by rw [denL_ren hm args h2]; exact hu
  refine q_does (Q := wpK P Q K) (hdo (hf.2 _ w us hM hv') fun e w' he => ?_)
  obtain ⟨x, v, e1, rfl, hg, hJ⟩ := he
  refine ⟨v, rfl, hk x _ _ hJ (fun k hz => ?_) (Sy.put ⟨A.size, A.defers, A.get, ⟨A.mem.len, fun i e hi => (A.mem.ent i e hi).mix hg.mix (fun _ _ _ => rfl), A.mem.sep⟩, A.pre, A.own, A.mix.grow hg⟩ hd (by simpa using den_mono G x e1))⟩
  obtain ⟨i, e, L, q1, q2, q3, q4⟩ := mem_keys.1 hz
  have := A.mem.ent i e q1
  rw [q3] at this
  rw [← q4]; exact EntOK.lt this (mut_full q2)
theorem cl2 {R : Prop} (A : Sy n T H ks G0 w0 G a w) (i q : Nat) {cs : List SV} {vs : List Value} {H' : Nat → Nat → Hp} (hi : lg H i = some (some (.blk cs))) (hq : lg H q = some (some (.blk [.ptr i 0]))) (hc : denL [] cs = some vs) (hH : ∀ b p, stH (stH H i none) q (some (.blk [adr b p])) = H' b p)
    (k : ∀ b p, Sy n T (H' b p) ks G0 w0 G a w → Lies b p vs w (keys (H' b p) G) → (ks.contains b = true ∨ w0.heap.size ≤ b) → R) : R := by
  obtain ⟨b, p, h1, h2, h3⟩ := A.close2 i q hi hq hc hH
  exact k b p h1 h2 h3
theorem lo_of {H0 : Hp} (B : Sy n T H (keys H0 G0) G0 w0 G a w) (hro : ∀ (i : Nat) (e : Ent), H0[i]? = some (some e) → e.mut = false) {b : Nat} (h : (keys H G).contains b = true ∨ w.heap.size ≤ b) : w0.heap.size ≤ b := by
  rcases h with h | h
  · rcases B.keys_own b h with h | h
    · obtain ⟨i, e', L, q1, q2, _⟩ := mem_keys.1 h
      rw [hro i e' q1] at q2; cases q2
    · exact h
  · exact Nat.le_trans B.mix.size h
end
end Go.Proofs.YtbghlhhoafkmgaaDoor
