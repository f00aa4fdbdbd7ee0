/- A walk begun anew where it stands; blocks that are done with, known by their addresses; loops that carry what holds of such blocks. -/
import Derived.Test.YtbghlhhoafkmgaaDoorZMAdo
namespace Go.Proofs.YtbghlhhoafkmgaaDoor
open Go.RowKit
set_option linter.unusedVariables false
set_option linter.unusedSimpArgs false
set_option linter.unusedSectionVars false

/-- cells that lie at an address, outside of what may be turned -/
def Lies (b o : Nat) (vs : List Value) (w : World) (ks : List Nat) : Prop := b < w.heap.size ∧ ks.contains b = false ∧ w.rangeAt b o vs
theorem Lies.go {b o : Nat} {vs : List Value} {w w' : World} {ks ks' : List Nat} (h : Lies b o vs w ks) (m : Mix ks w w') (hk : ∀ b, ks'.contains b = true → ks.contains b = true ∨ w.heap.size ≤ b) : Lies b o vs w' ks' := by
  obtain ⟨h1, h2, h3⟩ := h
  refine ⟨Nat.lt_of_lt_of_le h1 m.size, ?_, range_mix h3 m h1 h2⟩
  cases hc : ks'.contains b with
  | false => rfl
  | true =>
    rcases hk b hc with h5 | h5
    · rw [h5] at h2; cases h2
    · omega
abbrev adr (b o : Nat) : SV := .v (.pointer (some ⟨b, o, none⟩))
section
variable {P : Program} {n : Nat} {ks : List Nat} {G0 : Gr} {w0 : World} {T : List (Nat × SV)} {H : Hp} {G : Gr} {a : Act} {w : World} {Q : Exit → Act → World → Prop} {K : List Fr} {pos : Pos} {ops : Array Oper} {o : Oper} {rest : List Oper}
/-- begun anew -/
theorem Sy.base (A : Sy n T H ks G0 w0 G a w) : Sy n T H (keys H G) G w G a w :=
  ⟨A.size, A.defers, A.get, A.mem, ⟨[], by simp⟩, fun i e L h1 h2 h3 => .inl (mem_keys.2 ⟨i, e, L, h1, h2, h3, rfl⟩), Mix.refl _ _⟩
/-- what was handed in, or is new: so is what was turned since -/
theorem Sy.keys_own (A : Sy n T H ks G0 w0 G a w) : ∀ b, (keys H G).contains b = true → ks.contains b = true ∨ w0.heap.size ≤ b := fun b hb => by
  obtain ⟨i, e, L, h1, h2, h3, h4⟩ := mem_keys.1 hb
  rw [← h4]; exact A.own i e L h1 h2 h3
theorem Sy.trans {n' : Nat} {T1 : List (Nat × SV)} {H1 : Hp} {G1 : Gr} {a1 : Act} {w1 : World} (B : Sy n' T1 H1 ks G0 w0 G1 a1 w1) (A : Sy n T H (keys H1 G1) G1 w1 G a w) : Sy n T H ks G0 w0 G a w := by
  obtain ⟨F1, h1⟩ := B.pre
  obtain ⟨F2, h2⟩ := A.pre
  refine ⟨A.size, A.defers, A.get, A.mem, ⟨F1 ++ F2, by rw [h2, h1, List.append_assoc]⟩, fun i e L k1 k2 k3 => ?_, B.mix.mix A.mix fun k hk hc => ?_⟩
  · rcases A.own i e L k1 k2 k3 with h | h
    · exact B.keys_own _ h
    · exact .inr (Nat.le_trans B.mix.size h)
  · cases hq : (keys H1 G1).contains k with
    | false => rfl
    | true =>
      rcases B.keys_own k hq with h | h
      · rw [h] at hc; cases hc
      · omega
/-- what holds where a walk is begun anew holds where it stands -/
theorem Amb.OK.now {I : Amb} (hI : I.OK) (A : Sy n T H ks G0 w0 G a w) (h0 : I w0 ks) : I w (keys H G) := hI _ _ _ _ h0 A.mix A.keys_own
theorem Lies.now {b o : Nat} {vs : List Value} (h : Lies b o vs w0 ks) (A : Sy n T H ks G0 w0 G a w) : Lies b o vs w (keys H G) := h.go A.mix A.keys_own
/-- a block that is done with: by its address -/
theorem Sy.close (A : Sy n T H ks G0 w0 G a w) (i t : Nat) {cs : List SV} {vs : List Value} {H' : Hp} (hi : lg H i = some (some (.blk cs))) (ht : look T t = some (.ptr i 0)) (hc : denL [] cs = some vs) (hH : stH H i none = H') :
    ∃ b o, Sy n ((t, adr b o) :: T) H' ks G0 w0 G a w ∧ Lies b o vs w (keys H' G) := by
  subst hH
  rw [lg_is] at hi
  obtain ⟨L, us, h1, h2, h3⟩ := A.mem.ent i _ hi
  have h4 : denL G cs = some vs := by simpa using denL_mono G cs hc
  rw [h4] at h2
  cases h2
  have hGi : G[i]? = some (some L) := by
    cases hq : G[i]? with
    | none => rw [hq] at h1; cases h1
    | some p => rw [hq] at h1; simp at h1; rw [h1]
  have hold : ∀ (j : Nat) (e : Ent), (stH H i none)[j]? = some (some e) → j ≠ i ∧ H[j]? = some (some e) := by
    intro j e h
    rw [stH_is] at h
    by_cases hj : j = i
    · subst hj; rw [List.getElem?_set_self (List.getElem?_eq_some_iff.1 hi).1] at h; cases h
    · rw [List.getElem?_set_ne (Ne.symm hj)] at h; exact ⟨hj, h⟩
  refine ⟨L.b, L.pre.length, ⟨A.size, A.defers, fun s x hx => ?_, ⟨by rw [stH_is]; simpa using A.mem.len, fun j e he => A.mem.ent j e (hold j e he).2, fun j k e f L' M hjk g1 g2 g3 g4 g5 g6 => A.mem.sep j k e f L' M hjk (hold j e g1).2 (hold k f g2).2 g3 g4 g5 g6⟩, A.pre, fun j e L' g1 g2 g3 => A.own j e L' (hold j e g1).2 g2 g3, A.mix⟩, ?_, ?_, ?_⟩
  · unfold look at hx
    cases hb : Nat.beq t s with
    | true =>
      rw [hb] at hx; cases hx
      have := Nat.eq_of_beq_eq_true hb
      subst this
      have := A.get t _ ht
      unfold den at this
      rw [hGi] at this
      exact this
    | false => rw [hb] at hx; exact A.get s x hx
  · exact h3.lt
  · cases hq : (keys (stH H i none) G).contains L.b with
    | false => rfl
    | true =>
      obtain ⟨j, e, L', g1, g2, g3, g4⟩ := mem_keys.1 hq
      obtain ⟨k1, k2⟩ := hold j e g1
      exact absurd g4 (A.mem.sep j i e _ L' L k1 k2 hi g2 g3 hGi (fun h => h))
  · intro j x hx
    refine h3.cell ?_
    rw [List.getElem?_toArray, List.append_assoc, List.getElem?_append_right (by omega), show L.pre.length + j - L.pre.length = j by omega, List.getElem?_append_left (List.getElem?_eq_some_iff.1 hx).1]
    exact hx
/-- a block that is only read gets a place -/
theorem Sy.adoptP (A : Sy n T H ks G0 w0 G a w) {b o : Nat} {vs : List Value} (h0 : Lies b o vs w0 ks) (t s : Nat) {cs : List SV} (hx : look T t = some (adr b o)) (hc : denL [] cs = some vs) : Sy n ((t, .el H.length s 0 0) :: T) (H ++ [some (.lst s 1 fun _ => cs)]) ks G0 w0 (G ++ [some ⟨b, List.replicate o undef, [], 0⟩]) a w := by
  have hl := h0.go A.mix (ks' := ks) fun b hb => .inl hb
  have hlen := A.mem.len
  have hG : (G ++ [some (⟨b, List.replicate o undef, [], 0⟩ : Loc)])[H.length]? = some (some ⟨b, List.replicate o undef, [], 0⟩) := by rw [List.getElem?_append_right (by omega), hlen]; simp
  have hold : ∀ (i : Nat) (e : Ent), (H ++ [some (.lst s 1 fun _ => cs)])[i]? = some (some e) → (H[i]? = some (some e) ∧ i < H.length) ∨ (i = H.length ∧ e = .lst s 1 fun _ => cs) := by
    intro i e h
    by_cases hi : i < H.length
    · rw [List.getElem?_append_left hi] at h; exact .inl ⟨h, hi⟩
    · rw [List.getElem?_append_right (by omega)] at h
      have : i - H.length = 0 := by
        cases hq : i - H.length with
        | zero => rfl
        | succ k => rw [hq] at h; simp at h
      rw [this] at h
      simp at h
      exact .inr ⟨by omega, h.symm⟩
  have hGl : ∀ i, i < H.length → (G ++ [some (⟨b, List.replicate o undef, [], 0⟩ : Loc)])[i]? = G[i]? := fun i hi => List.getElem?_append_left (by omega)
  refine ⟨A.size, A.defers, fun q z hz => ?_, ⟨by simp [hlen], ?_, ?_⟩, ?_, ?_, A.mix⟩
  · unfold look at hz
    cases hb : Nat.beq t q with
    | true =>
      rw [hb] at hz; cases hz
      have := Nat.eq_of_beq_eq_true hb
      subst this
      have h1 := A.get t _ hx
      unfold den at h1 ⊢
      rw [hG, ← h1]
      simp
    | false => rw [hb] at hz; exact den_mono _ z (A.get q z hz)
  · intro i e h
    rcases hold i e h with ⟨h1, h2⟩ | ⟨rfl, rfl⟩
    · rw [hGl i h2]; exact (A.mem.ent i e h1).more _
    · rw [hG]
      refine ⟨fun k => ⟨_, hc⟩, .inr ⟨_, rfl, hl.1, fun k hk => ⟨_, hc, ?_⟩⟩⟩
      have : k = 0 := by omega
      subst this
      simpa using hl.2.2
  · intro i j e f L M hij h1 h2 h3 h4 h5 h6
    rcases hold i e h1 with ⟨k1, k2⟩ | ⟨rfl, rfl⟩
    · rw [hGl i k2] at h4
      rcases hold j f h2 with ⟨k3, k4⟩ | ⟨rfl, rfl⟩
      · rw [hGl j k4] at h5; exact A.mem.sep i j e f L M hij k1 k3 h3 h4 h5 h6
      · rw [hG] at h5
        cases h5
        intro hLM
        rcases A.own i e L k1 h3 h4 with h7 | h7
        · rw [hLM] at h7; simp only at h7; rw [h0.2.1] at h7; cases h7
        · rw [hLM] at h7; simp only at h7; have := h0.1; omega
    · cases h3
  · obtain ⟨F, hF⟩ := A.pre; exact ⟨F ++ [some ⟨b, List.replicate o undef, [], 0⟩], by rw [hF, List.append_assoc]⟩
  · intro i e L h1 h2 h3
    rcases hold i e h1 with ⟨k1, k2⟩ | ⟨rfl, rfl⟩
    · rw [hGl i k2] at h3; exact A.own i e L k1 h2 h3
    · cases h2
theorem ADOPTP {b q : Nat} {vs : List Value} (t s : Nat) {cs : List SV} (h0 : Lies b q vs w0 ks) (hc : denL [] cs = some vs) (A : Sy n T H ks G0 w0 G a w) {H' : Hp} {i : Nat} (hx : look T t = some (adr b q)) (hi : H.length = i) (hH : H ++ [some (.lst s 1 fun _ => cs)] = H') (hk : ∀ {G}, Sy n ((t, .el i s 0 0) :: T) H' ks G0 w0 G a w → Goal P Q K pos a w) : Goal P Q K pos a w := by
  subst hi; subst hH
  exact hk (A.adoptP h0 t s hx hc)
/-- it is asked whether such a pointer is nil -/
theorem nilE {x : Operand} {i s q m : Nat} {j : Int} {f : Nat → List SV} (hg : guardS ops T o.guard = some .run) (hop : o.op = .nilCheck x) (hx : evS T x = some (.el i s j q)) (hH : lg H i = some (some (.lst s (m + 1) f))) : EffOK P n ops ks G0 w0 T H o (.el i s j q) H := fun G a w A => by
  have hw := gd_run (gd := none) A hg
  obtain ⟨d, op, ty, ps, af, gd⟩ := o
  simp only at hop
  subst hop
  have h1 := A.ev hx
  rw [lg_is] at hH
  obtain ⟨_, h2⟩ := A.mem.ent i _ hH
  rcases h2 with h2 | ⟨L, h2, _⟩
  · cases h2
  · have hGi : G[i]? = some (some L) := by
      cases hq : G[i]? with
      | none => rw [hq] at h2; cases h2
      | some p => rw [hq] at h2; simp at h2; rw [h2]
    unfold den at h1
    rw [hGi] at h1
    have h1 := Option.some.inj h1
    refine d_nilCheck hw h1.symm ⟨[], ?_, ?_⟩
    · rw [List.append_nil]; unfold den; rw [hGi]; rfl
    · rw [List.append_nil]; exact A.ms
/-- a loop that carries what holds of memory -/
theorem LOOPJ {β : Type} {c : Code} (T' : β → List (Nat × SV)) (H' : β → Hp) (J : β → World → List Nat → Prop) (μ : β → Nat) (z : β) (A : Sy n (T' z) (H' z) ks G0 w0 G a w) (hJ : J z w (keys (H' z) G))
    (round : ∀ z G a w, J z w (keys (H' z) G) → G0.length ≤ G.length → Sy n (T' z) (H' z) (keys (H' z) G) G w G a w → Sy n (T' z) (H' z) ks G0 w0 G a w → Goal P Q (.lp (fun a' w' => ∃ z' G', μ z' < μ z ∧ J z' w' (keys (H' z') G') ∧ Sy n (T' z') (H' z') ks G0 w0 G' a' w') :: K) (.code c) a w) : Goal P Q K (.code (.loop c)) a w := by
  refine loop_by (fun m a w => ∃ z G, μ z = m ∧ J z w (keys (H' z) G) ∧ Sy n (T' z) (H' z) ks G0 w0 G a w) (μ z) ⟨z, G, rfl, hJ, A⟩ ?_
  rintro m a w ⟨z, G, rfl, hz, A⟩
  obtain ⟨F, hF⟩ := A.pre
  refine Code.wp_mono (fun e a' w' h => ?_) (round z G a w hz (by rw [hF]; simp) A.base A)
  cases e with
  | normal => obtain ⟨z', G', h1, h2, h3⟩ := h; exact ⟨μ z', h1, z', G', rfl, h2, h3⟩
  | _ => exact h
end
end Go.Proofs.YtbghlhhoafkmgaaDoor
