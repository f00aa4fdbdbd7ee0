/- Rows of a table whose cells hold slices of their own: the slices by their addresses; where one is wanted, its block gets a place. -/
import Derived.Test.YtbghlhhoafkmgaaDoorZMAmb
namespace Go.Proofs.YtbghlhhoafkmgaaDoor
open Go.RowKit
set_option linter.unusedVariables false
set_option linter.unusedSimpArgs false
set_option linter.unusedSectionVars false

mutual
/-- slices by their addresses, in the order in which they stand -/
def slaS : SV → List (Option Addr)
  | .sla ao _ _ => [ao]
  | .agg l => slaL l
  | _ => []
def slaL : List SV → List (Option Addr)
  | [] => []
  | x :: l => slaS x ++ slaL l
end
mutual
/-- all these slices are the block's at this place -/
def adS (i : Nat) : SV → SV
  | .sla _ m c => .sl i m c
  | .agg l => .agg (adL i l)
  | x => x
def adL (i : Nat) : List SV → List SV
  | [] => []
  | x :: l => adS i x :: adL i l
end
def locA : Option Addr → Option Loc
  | some a => some ⟨a.block, [], [], 0⟩
  | none => none
mutual
theorem ad_den {G : Gr} {i : Nat} {ao : Option Addr} (ha : ∀ a, ao = some a → a = ⟨a.block, 0, none⟩) (hG : G[i]? = some (locA ao)) : ∀ (x : SV), (∀ z ∈ slaS x, z = ao) → den G (adS i x) = den G x
  | .sla a m c, h => by
    have h1 : a = ao := h a (by unfold slaS; exact List.mem_singleton.2 rfl)
    subst h1
    unfold adS den
    rw [hG]
    cases a with
    | none => rfl
    | some a => have := ha a rfl; simp only [locA, Option.map_some, rm, List.length_nil, Nat.add_zero]; rw [this]
  | .agg l, h => by unfold adS den; rw [adL_den ha hG l (by unfold slaS at h; exact h)]
  | .int _ _, _ => rfl
  | .bool _, _ => rfl
  | .tt, _ => rfl
  | .ff, _ => rfl
  | .str _, _ => rfl
  | .ptr _ _, _ => rfl
  | .el _ _ _ _, _ => rfl
  | .ix _ _ _ _ _, _ => rfl
  | .sl _ _ _, _ => rfl
  | .sp _ _ _, _ => rfl
  | .st _ _ _ _ _, _ => rfl
  | .tup _, _ => rfl
  | .fn _ _, _ => rfl
  | .opt _ _, _ => rfl
  | .v _, _ => rfl
theorem adL_den {G : Gr} {i : Nat} {ao : Option Addr} (ha : ∀ a, ao = some a → a = ⟨a.block, 0, none⟩) (hG : G[i]? = some (locA ao)) : ∀ (l : List SV), (∀ z ∈ slaL l, z = ao) → denL G (adL i l) = denL G l
  | [], _ => rfl
  | x :: l, h => by
    unfold slaL at h
    unfold adL denL
    rw [ad_den ha hG x (fun z hz => h z (List.mem_append_left _ hz)), adL_den ha hG l (fun z hz => h z (List.mem_append_right _ hz))]
end
/-- numbers that lie at an address, outside of what may be turned -/
def LiesAt (ao : Option Addr) (ps : List Int) (w : World) (ks : List Nat) : Prop :=
  (ao = none ∧ ps = []) ∨ ∃ b, ao = some ⟨b, 0, none⟩ ∧ b < w.heap.size ∧ ks.contains b = false ∧ w.rangeAt b 0 (ps.map (Value.int .i64))
theorem LiesAt.go {ao : Option Addr} {ps : List Int} {w w' : World} {ks ks' : List Nat} (h : LiesAt ao ps w ks) (m : Mix ks w w') (hk : ∀ b, ks'.contains b = true → ks.contains b = true ∨ w.heap.size ≤ b) : LiesAt ao ps w' ks' := by
  rcases h with h | ⟨b, h1, h2, h3, h4⟩
  · exact .inl h
  · refine .inr ⟨b, h1, Nat.lt_of_lt_of_le h2 m.size, ?_, range_mix h4 m h2 h3⟩
    cases hc : ks'.contains b with
    | false => rfl
    | true =>
      rcases hk b hc with h5 | h5
      · rw [h5] at h3; cases h3
      · omega
abbrev lsI (ps : List Int) : Ent := .lst 1 ps.length fun j => [.int .i64 (ps.getD j 0)]
section
variable {P : Program} {n : Nat} {ks : List Nat} {G0 : Gr} {w0 : World} {T : List (Nat × SV)} {H : Hp} {G : Gr} {a : Act} {w : World} {Q : Exit → Act → World → Prop} {K : List Fr} {pos : Pos}
theorem Sy.adopt (A : Sy n T H ks G0 w0 G a w) {ao : Option Addr} {ps : List Int} (h0 : LiesAt ao ps w0 ks) (t : Nat) {x : SV} (hx : look T t = some x) (hs : ∀ z ∈ slaS x, z = ao) : Sy n ((t, adS H.length x) :: T) (H ++ [some (lsI ps)]) ks G0 w0 (G ++ [locA ao]) a w := by
  have hl := h0.go A.mix (ks' := ks) fun b hb => .inl hb
  have hlen := A.mem.len
  have ha : ∀ q, ao = some q → q = ⟨q.block, 0, none⟩ := by
    intro q hq
    rcases h0 with ⟨h1, _⟩ | ⟨b, h1, _⟩
    · rw [h1] at hq; cases hq
    · rw [h1] at hq; cases hq; rfl
  have hG : (G ++ [locA ao])[H.length]? = some (locA ao) := by rw [List.getElem?_append_right (by omega), hlen]; simp
  have hold : ∀ (i : Nat) (e : Ent), (H ++ [some (lsI ps)])[i]? = some (some e) → (H[i]? = some (some e) ∧ i < H.length) ∨ (i = H.length ∧ e = lsI ps) := by
    intro i e h
    by_cases hi : i < H.length
    · rw [List.getElem?_append_left hi] at h; exact .inl ⟨h, hi⟩
    · rw [List.getElem?_append_right (by omega)] at h
      have : i - H.length = 0 := by
        cases hq : i - H.length with
        | zero => rfl
        | succ k => rw [hq] at h; simp at h
      rw [this] at h
      simp at h
      exact .inr ⟨by omega, h.symm⟩
  have hGl : ∀ i, i < H.length → (G ++ [locA ao])[i]? = G[i]? := fun i hi => List.getElem?_append_left (by omega)
  refine ⟨A.size, A.defers, fun s z hz => ?_, ⟨by simp [hlen], ?_, ?_⟩, ?_, ?_, A.mix⟩
  · unfold look at hz
    cases hc : Nat.beq t s with
    | true =>
      rw [hc] at hz; cases hz
      have := Nat.eq_of_beq_eq_true hc
      subst this
      rw [ad_den ha hG x hs]
      exact den_mono _ x (A.get t x hx)
    | false => rw [hc] at hz; exact den_mono _ z (A.get s z hz)
  · intro i e h
    rcases hold i e h with ⟨h1, h2⟩ | ⟨rfl, rfl⟩
    · rw [hGl i h2]; exact (A.mem.ent i e h1).more _
    · rw [hG]
      refine ⟨fun k => ⟨_, rfl⟩, ?_⟩
      rcases hl with ⟨_, h2⟩ | ⟨b, h1, h2, _, h4⟩
      · left; rw [h2]; rfl
      · right
        subst h1
        refine ⟨_, rfl, h2, fun k hk => ⟨_, rfl, fun j y hy => ?_⟩⟩
        have hj : j = 0 := by
          cases j with
          | zero => rfl
          | succ j => simp at hy
        subst hj
        simp at hy
        subst hy
        have := h4 k (.int .i64 (ps.getD k 0)) (by simp [List.getD, hk])
        simpa using this
  · intro i j e f L M hij h1 h2 h3 h4 h5 h6
    rcases hold i e h1 with ⟨k1, k2⟩ | ⟨rfl, rfl⟩
    · rw [hGl i k2] at h4
      rcases hold j f h2 with ⟨k3, k4⟩ | ⟨rfl, rfl⟩
      · rw [hGl j k4] at h5; exact A.mem.sep i j e f L M hij k1 k3 h3 h4 h5 h6
      · rw [hG] at h5
        rcases hl with ⟨q1, _⟩ | ⟨b, q1, q2, q3, _⟩
        · subst q1; cases h5
        · subst q1
          cases h5
          intro hLM
          rcases h0 with ⟨q, _⟩ | ⟨b', q, q4, q5, _⟩
          · cases q
          · cases q
            rcases A.own i e L k1 h3 h4 with h7 | h7
            · rw [hLM] at h7; simp only at h7; rw [q3] at h7; cases h7
            · rw [hLM] at h7; simp only at h7; omega
    · cases h3
  · obtain ⟨F, hF⟩ := A.pre; exact ⟨F ++ [locA ao], by rw [hF, List.append_assoc]⟩
  · intro i e L h1 h2 h3
    rcases hold i e h1 with ⟨k1, k2⟩ | ⟨rfl, rfl⟩
    · rw [hGl i k2] at h3; exact A.own i e L k1 h2 h3
    · cases h2
theorem ADOPT {ao : Option Addr} {ps : List Int} (t : Nat) (h0 : LiesAt ao ps w0 ks) (A : Sy n T H ks G0 w0 G a w) {x y : SV} {H' : Hp} (hx : look T t = some x) (hs : slaS x = [ao]) (hy : adS H.length x = y) (hH : H ++ [some (lsI ps)] = H') (hk : ∀ {G}, Sy n ((t, y) :: T) H' ks G0 w0 G a w → Goal P Q K pos a w) : Goal P Q K pos a w := by
  subst hy; subst hH
  exact hk (A.adopt h0 t hx fun z hz => by rw [hs] at hz; exact List.mem_singleton.1 hz)
end
end Go.Proofs.YtbghlhhoafkmgaaDoor
