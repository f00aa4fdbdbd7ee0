/- Regions that draw their order in which a block is made and filled: one claim on another operation's value; copies of slices by append. -/
import Derived.Test.YtlhompedcphnnaaUirStepsP5
import Derived.Deep.Upon
import Derived.WalkSmall
import Derived.ProofKit
import Derived.OpenShut
import Derived.ChangeOld
namespace Go.Proofs.Ytlhompedcphnnaa
open Go.RowKit

theorem does_mono {P : Program} {ops : Array Oper} {o : Oper} {a : Act} {w : World} {K K' : Value → World → Prop} (h : Does P ops o a w K) (hK : ∀ v w, K v w → K' v w) : Does P ops o a w K' := by
  rcases h with ⟨h1, h2⟩ | ⟨h1, h2⟩
  · refine .inl ⟨h1, fun Q => Oper.wp_mono (fun a' w' hh => ?_) (h2 Q)⟩
    obtain ⟨v, e, k⟩ := hh
    exact ⟨v, e, hK v w' k⟩
  · exact .inr ⟨h1, hK _ _ h2⟩
/-- what is owed for operation i, where pi's doing makes a claim on pj's value -/
def OblP (P : Program) (ops : Array Oper) (S : World → World → Prop) (n : Nat) (T : List (Nat × Value)) (tab : Nat → Cl S) (pi pj : Nat) (pc : Cl S) (w : World) (i : Nat) (o : Oper) : Prop :=
  ∀ a' w', S w w' → St n T a' → (∀ j, waits o j = true → (tab j).P (valOf ops a' j) w') → Does P ops o a' w' fun v w'' => S w' w'' ∧ (tab i).P (seenV o v) w'' ∧ (i = pi → pc.P (valOf ops a' pj) w'')
section
variable {P : Program} {l : List Oper} {Q : Exit → Act → World → Prop} {S : World → World → Prop} {n : Nat} {T : List (Nat × Value)} {w : World}
theorem drawn_anyP (tab : Nat → Cl S) (pi pj : Nat) (pc : Cl S) (hpi : pi < l.length) (hpw : ∀ o, l[pi]? = some o → waits o pj = true) (htrans : ∀ a b c, S a b → S b c → S a c) (hfit : fitB l.toArray n T = true)
    (hop : ∀ i o, l[i]? = some o → OblP P l.toArray S n T tab pi pj pc w i o)
    (hend : ∀ f a' w', S w w' → (∀ i, i < l.length → (tab i).P (f i) w') → pc.P (f pj) w' → St n (puts l f 0 ++ T) a' → Q .normal a' w') :
    ∀ (fuel : Nat) (listed : Array Bool) (a' : Act) (w' : World), listed.size = l.length → ((List.range l.length).filter fun i => !listed.getD i true).length ≤ fuel → S w w' → St n T a' →
      (∀ i, i < l.length → listed.getD i false = true → (tab i).P (valOf l.toArray a' i) w') → (listed.getD pi false = true → listed.getD pj false = true ∧ pc.P (valOf l.toArray a' pj) w') → wpAny P .any l.toArray Q fuel listed a' w' := by
  have last : ∀ (listed : Array Bool) (a' : Act) (w' : World), listed.size = l.length → Region.ready .any l.toArray listed = [] → S w w' → St n T a' →
      (∀ i, i < l.length → listed.getD i false = true → (tab i).P (valOf l.toArray a' i) w') → (listed.getD pi false = true → listed.getD pj false = true ∧ pc.P (valOf l.toArray a' pj) w') → Q .normal a' w' := by
    intro listed a' w' hls hr hS hT hin hlk
    have all : ∀ i, i < l.length → listed.getD i false = true := by
      intro i
      induction i using Nat.strongRecOn with
      | _ i ih =>
        intro hi
        cases hl : listed.getD i false with
        | true => rfl
        | false =>
          exfalso
          have : i ∈ Region.ready .any l.toArray listed := by
            rw [mem_ready]
            have hli : i < listed.size := by omega
            have hoi : l.toArray[i]? = some l[i] := by simp [hi]
            refine ⟨by simpa [hli] using hl, l[i], hoi, fun e he hb => ?_⟩
            have hlt := (fit_spec hfit hoi).2 e he hb
            exact ih e.on hlt (by omega)
          rw [hr] at this; cases this
    refine hend (valOf l.toArray a') a' w' hS (fun i hi => hin i hi (all i hi)) (hlk (all pi hpi)).2 ⟨hT.size, hT.defers, fun t v hv => ?_⟩
    rcases puts_look (valOf l.toArray a') T l 0 hv with ⟨i, o, h1, h2, h3⟩ | h
    · have hd : dstOf l.toArray i = some t := by simp [dstOf, h1, h2]
      rw [h3, Nat.zero_add]; unfold valOf; rw [hd]
    · exact hT.get t v h
  intro fuel
  induction fuel with
  | zero =>
    intro listed a' w' hls hf hS hT hin hlk
    have hr : Region.ready .any l.toArray listed = [] := by
      unfold Region.ready
      rw [List.filter_eq_nil_iff]
      intro i hi
      have hnil : ((List.range l.length).filter fun i => !listed.getD i true) = [] := List.eq_nil_of_length_eq_zero (by omega)
      rw [List.filter_eq_nil_iff] at hnil
      have := hnil i (by simpa using hi)
      simp only [Bool.not_eq_true, Bool.not_eq_false'] at this
      simp [this]
    exact ⟨hr, last listed a' w' hls hr hS hT hin hlk⟩
  | succ fuel ih =>
    intro listed a' w' hls hf hS hT hin hlk
    refine ⟨fun hr => last listed a' w' hls hr hS hT hin hlk, fun i hi => ?_⟩
    obtain ⟨hun, o, hoi, hall⟩ := mem_ready.1 hi
    have hil : i < l.length := by have := (Array.getElem?_eq_some_iff.1 hoi).1; simpa using this
    have hoi' : l[i]? = some o := by simpa using hoi
    obtain ⟨hfd, hfe⟩ := fit_spec hfit hoi
    have hk0 : ∀ j, waits o j = true → j < i ∧ listed.getD j false = true := fun j hj => by
      unfold waits at hj
      rw [List.any_eq_true] at hj
      obtain ⟨e, he', hb⟩ := hj
      have he : e ∈ o.after := by simpa using he'
      simp only [Bool.and_eq_true, beq_iff_eq] at hb
      have := hfe e he hb.1
      rw [← hb.2]
      exact ⟨by omega, hall e he hb.1⟩
    have hk : ∀ j, waits o j = true → (tab j).P (valOf l.toArray a' j) w' := fun j hj => hin j (by have := (hk0 j hj).1; omega) (hk0 j hj).2
    have hunf : listed.getD i false = false := by
      have hli : i < listed.size := by omega
      simpa [Array.getD_eq_getD_getElem?, hli] using hun
    have same : ∀ (v : Value) (j : Nat), j < l.length → j ≠ i → valOf l.toArray (a'.put o.dst v) j = valOf l.toArray a' j := fun v j hj hji => by
      unfold valOf
      cases hdj : dstOf l.toArray j with
      | none => rfl
      | some d' =>
        cases hd : o.dst with
        | none => rfl
        | some d =>
          have hne : d ≠ d' := fun e => by subst e; exact hji ((hfd d hd).2.1 j (by simpa using hj) hdj)
          simp [Act.put, Array.getD_eq_getD_getElem?, Array.getElem?_setIfInBounds_ne hne]
    have go : ∀ (v : Value) (w2 : World), S w' w2 → (tab i).P (seenV o v) w2 → (i = pi → pc.P (valOf l.toArray a' pj) w2) → wpAny P .any l.toArray Q fuel (listed.setIfInBounds i true) (a'.put o.dst v) w2 := by
      intro v w2 hS2 hv hpc
      have hT2 : St n T (a'.put o.dst v) := by
        cases hd : o.dst with
        | none => exact hT
        | some d =>
          obtain ⟨hdn, _, hTd⟩ := hfd d hd
          have hp := hT.put hdn v
          refine ⟨hp.size, hp.defers, fun t u hu => hp.get t u ?_⟩
          have hne : t ≠ d := hTd (t, u) (lookup_mem hu)
          rw [List.lookup_cons]
          have : (t == d) = false := by simpa using hne
          simp only [this]; exact hu
      refine ih _ _ _ (by simpa using hls) ?_ (htrans _ _ _ hS hS2) hT2 (fun j hj hlj => ?_) (fun hlp => ?_)
      · have hlt : i < listed.size := by omega
        have : ((List.range l.length).filter fun k => !(listed.setIfInBounds i true).getD k true).length < ((List.range l.length).filter fun k => !listed.getD k true).length := by
          have hsub : ((List.range l.length).filter fun k => !(listed.setIfInBounds i true).getD k true) = ((List.range l.length).filter fun k => !listed.getD k true).filter (fun k => k != i) := by
            rw [List.filter_filter]
            apply List.filter_congr
            intro k _
            by_cases hk : k = i
            · subst hk; simp [hlt]
            · rw [set_ne true (Ne.symm hk)]; simp [hk]
          rw [hsub]
          refine List.length_filter_lt_length_iff_exists.2 ⟨i, ?_, by simp⟩
          simp only [List.mem_filter, List.mem_range]
          exact ⟨hil, by rw [hun]; rfl⟩
        omega
      · by_cases hji : j = i
        · subst hji
          have : valOf l.toArray (a'.put o.dst v) j = seenV o v := by
            cases hd : o.dst with
            | none =>
              have hdi : dstOf l.toArray j = none := by simp [dstOf, hoi', hd]
              unfold valOf seenV; rw [hdi, hd]
            | some d =>
              have hdi : dstOf l.toArray j = some d := by simp [dstOf, hoi', hd]
              have hdl : d < a'.tmps.size := by rw [hT.size]; exact (hfd d hd).1
              unfold valOf seenV; rw [hdi, hd]; simp [Act.put, hdl]
          rw [this]; exact hv
        · have h1 := hin j hj (by rwa [set_ne false (Ne.symm hji)] at hlj)
          rw [same v j hj hji]; exact (tab j).st _ _ _ hS2 h1
      · by_cases hpe : i = pi
        · have hw := hk0 pj (hpw o (hpe ▸ hoi'))
          have hne : pj ≠ i := by omega
          refine ⟨by rw [set_ne false (Ne.symm hne)]; exact hw.2, ?_⟩
          rw [same v pj (by omega) hne]
          exact hpc hpe
        · rw [set_ne false hpe] at hlp
          obtain ⟨h1, h2⟩ := hlk hlp
          have hne : pj ≠ i := fun e => by rw [e, hunf] at h1; cases h1
          have hpl : pj < l.length := by
            have : pj < listed.size := by
              by_cases hc : pj < listed.size
              · exact hc
              · simp [Array.getD_eq_getD_getElem?, hc] at h1
            omega
          refine ⟨by rw [set_ne false (Ne.symm hne)]; exact h1, ?_⟩
          rw [same v pj hpl hne]
          exact pc.st _ _ _ hS2 h2
    unfold wpOp
    rcases hop i o hoi' a' w' hS hT hk with ⟨hw, h⟩ | ⟨hw, h⟩
    · simp only [hoi, hw, if_true]
      refine .inl (Oper.wp_mono (fun a2 w2 h => ?_) (h Q))
      obtain ⟨v, rfl, hS2, hv, hp⟩ := h
      exact go v w2 hS2 hv hp
    · simp only [hoi, hw, Bool.false_eq_true, if_false]
      exact go undef w' h.1 h.2.1 h.2.2
def EachsP (P : Program) (ops : Array Oper) (S : World → World → Prop) (n : Nat) (T : List (Nat × Value)) (tab : Nat → Cl S) (pi pj : Nat) (pc : Cl S) (w : World) (k : Nat) (l : List Oper) : Prop := ∀ i o, l[i]? = some o → OblP P ops S n T tab pi pj pc w (k + i) o
theorem eachP_nil {ops : Array Oper} {tab : Nat → Cl S} {k pi pj : Nat} {pc : Cl S} : EachsP P ops S n T tab pi pj pc w k [] := fun i o h => by simp at h
theorem eachP_pair {ops : Array Oper} {tab : Nat → Cl S} {k pi pj : Nat} {pc : Cl S} {o : Oper} {os : List Oper} (h : OblP P ops S n T tab pi pj pc w k o) (ht : EachsP P ops S n T tab pi pj pc w (k + 1) os) : EachsP P ops S n T tab pi pj pc w k (o :: os) := fun i p hp => by
  cases i with
  | zero => simp at hp; subst hp; exact h
  | succ i => have := ht i p (by simpa using hp); rwa [show k + 1 + i = k + (i + 1) by omega] at this
theorem eachP_cons {ops : Array Oper} {tab : Nat → Cl S} {k pi pj : Nat} {pc : Cl S} {o : Oper} {os : List Oper} (hne : k ≠ pi) (h : Obl P ops S n T tab w k o) (ht : EachsP P ops S n T tab pi pj pc w (k + 1) os) : EachsP P ops S n T tab pi pj pc w k (o :: os) :=
  eachP_pair (fun a' w' h1 h2 h3 => does_mono (h a' w' h1 h2 h3) fun _ _ hh => ⟨hh.1, hh.2, fun e => absurd e hne⟩) ht
theorem drawnP {id : Nat} {a : Act} (tab : Nat → Cl S) (pi pj : Nat) (pc : Cl S) (hpi : pi < l.length) (hpw : ((l[pi]?).map fun o => waits o pj) = some true) (hm : P.follows .mixedOrders = true) (hrefl : ∀ w, S w w) (htrans : ∀ a b c, S a b → S b c → S a c) (hdrew : ∀ w : World, S w w.drew) (hA : St n T a) (hfit : fitB l.toArray n T = true)
    (hop : EachsP P l.toArray S n T tab pi pj pc w.drew 0 l)
    (hend : ∀ f a' w', S w w' → (∀ i, i < l.length → (tab i).P (f i) w') → pc.P (f pj) w' → St n (puts l f 0 ++ T) a' → Q .normal a' w') : (Code.region id l.toArray true).wp P Q a w := by
  refine wp_region_any hm ?_
  refine drawn_anyP (w := w.drew) tab pi pj pc hpi (fun o ho => by rw [ho] at hpw; simpa using hpw) htrans hfit (fun i o h => by have := hop i o h; rwa [Nat.zero_add] at this) (fun f a' w' hS => hend f a' w' (htrans _ _ _ (hdrew w) hS)) _ _ _ _ (by simp) ?_ (hrefl _) hA (fun i _ hi => ?_) (fun hi => ?_)
  · refine Nat.le_trans (List.length_filter_le _ _) (by simp)
  · exfalso
    simp [Array.getD_eq_getD_getElem?, Array.getElem?_replicate] at hi; split at hi <;> simp at hi
  · exfalso
    simp [Array.getD_eq_getD_getElem?, Array.getElem?_replicate] at hi; split at hi <;> simp at hi
end

/-! ### Worlds that grow, blocks of one kind in new memory turning from what they were made with to what they will hold -/
structure SZ (B0 : Nat) (Z R : Array Value) (t : TypeId) (w w' : World) : Prop where
  os : w'.os = w.os
  tape : w'.tape = w.tape
  output : w'.output = w.output
  size : w.heap.size ≤ w'.heap.size
  block : ∀ k, k < w.heap.size → w'.heap[k]? = w.heap[k]? ∨ (B0 ≤ k ∧ Blk w k Z t ∧ Blk w' k R t)
section
variable {B0 : Nat} {Z R : Array Value} {t : TypeId} {w w' : World}
theorem SZ.refl (w : World) : SZ B0 Z R t w w := ⟨rfl, rfl, rfl, Nat.le_refl _, fun _ _ => .inl rfl⟩
theorem SZ.trans (a b c : World) (h : SZ B0 Z R t a b) (k : SZ B0 Z R t b c) : SZ B0 Z R t a c :=
  ⟨k.os.trans h.os, k.tape.trans h.tape, k.output.trans h.output, Nat.le_trans h.size k.size, fun i hi => by
    rcases h.block i hi with h1 | ⟨h1, h2, h3⟩ <;> rcases k.block i (Nat.lt_of_lt_of_le hi h.size) with k1 | ⟨k1, k2, k3⟩
    · exact .inl (k1.trans h1)
    · refine .inr ⟨k1, ?_, k3⟩; unfold Blk at k2 ⊢; rw [← h1]; exact k2
    · refine .inr ⟨h1, h2, ?_⟩; unfold Blk at h3 ⊢; rw [k1]; exact h3
    · exact .inr ⟨h1, h2, k3⟩⟩
theorem SZ.grow (h : Grow w w') : SZ B0 Z R t w w' := ⟨h.os, h.tape, h.output, h.size, fun k hk => .inl (h.block k hk)⟩
theorem SZ.drew (w : World) : SZ B0 Z R t w w.drew := SZ.grow (Grow.refl w).drew
theorem SZ.below {B : Nat} {a : World} (h : SZ B0 Z R t w w') (hb : Below B a w) (hB : B ≤ B0) (hw : B ≤ w.heap.size) : Below B a w' :=
  hb.trans ⟨h.os, h.tape, h.output, h.size, fun k hk => by
    rcases h.block k (by omega) with h1 | ⟨h1, _⟩
    · exact h1
    · omega⟩
theorem SZ.far (h : SZ B0 Z R t w w') (hB : B0 ≤ w.heap.size) : Below B0 w w' := h.below (Below.refl _ _) (Nat.le_refl _) hB
theorem SZ.keep {g : Nat} {cs : Array Value} {e : TypeId} (h : SZ B0 Z R t w w') (hb : w.heap[g]? = some (.cells cs e (0, 0))) (he : e ≠ t) : w'.heap[g]? = some (.cells cs e (0, 0)) := by
  rcases h.block g (Array.getElem?_eq_some_iff.1 hb).1 with h1 | ⟨_, h2, _⟩
  · rw [h1]; exact hb
  · unfold Blk at h2; rw [hb] at h2; injection h2 with h2; injection h2 with _ h4; exact absurd h4 he
theorem own_sz {b : Nat} {e : TypeId} {s n : Nat} {v : Value} {xs : List Value} (h : w.ownsRow b e s v n xs) (hS : SZ B0 Z R t w w') (he : e ≠ t) : w'.ownsRow b e s v n xs := by
  obtain ⟨h1, h2⟩ := h
  refine ⟨h1, ?_⟩
  rcases h2 with h2 | ⟨g, cap, cur, hv, hb, hgg, h3⟩
  · exact .inl h2
  · exact .inr ⟨g, cap, cur, hv, hb, hS.keep hgg he, h3⟩
def cRow (e s n : Nat) (xs : List Value) (he : e ≠ t) : Cl (SZ B0 Z R t) := ⟨fun v w => ∃ b, w.ownsRow b e s v n xs, fun _ _ _ hS ⟨b, h⟩ => ⟨b, own_sz h hS he⟩⟩
def cMade : Cl (SZ B0 Z R t) := ⟨fun v w => ∃ g, v = .pointer (some ⟨g, 0, none⟩) ∧ B0 ≤ g ∧ (Blk w g Z t ∨ Blk w g R t), fun _ w w' hS ⟨g, h1, h2, h3⟩ => ⟨g, h1, h2, by
  have hlt : g < w.heap.size := h3.elim (fun h => h.lt) (fun h => h.lt)
  rcases hS.block g hlt with k | ⟨_, _, k⟩
  · unfold Blk at h3 ⊢; rw [k]; exact h3
  · exact .inr k⟩⟩
def cFilled : Cl (SZ B0 Z R t) := ⟨fun v w => ∃ g, v = .pointer (some ⟨g, 0, none⟩) ∧ B0 ≤ g ∧ Blk w g R t, fun _ w w' hS ⟨g, h1, h2, h3⟩ => ⟨g, h1, h2, by
  rcases hS.block g h3.lt with k | ⟨_, _, k⟩
  · unfold Blk at h3 ⊢; rw [k]; exact h3
  · exact k⟩⟩
end
section
variable {P : Program} {ops : Array Oper} {a : Act} {w : World} {K : Value → World → Prop} {d : Option Tmp} {ty : TypeId} {pos : String} {af : Array Edge} {gd : Option (Nat × Bool)} {v : Value}
theorem d_storeZ {B0 : Nat} {Z R : Array Value} {t t' : TypeId} {x y : Operand} {u : Value} (hw : Region.wanted { dst := none, op := .store t' x y, type := ty, pos := pos, after := af, guard := gd } (yielded ops a.tmps) = true) (hx : a.eval x = u) (hu : ∃ g, u = .pointer (some ⟨g, 0, none⟩) ∧ B0 ≤ g ∧ (Blk w g Z t ∨ Blk w g R t)) (hy : a.eval y = .agg R)
    (h1 : rowB P t' R.size = true) (hs : Z.size = R.size) (ho : R.toList.all (·.oneCell') = true) (h : ∀ w', SZ B0 Z R t w w' → (∃ g, u = .pointer (some ⟨g, 0, none⟩) ∧ B0 ≤ g ∧ Blk w' g R t) → K undef w') :
    Does P ops { dst := none, op := .store t' x y, type := ty, pos := pos, after := af, guard := gd } a w K := by
  obtain ⟨g, rfl, hg, hb⟩ := hu
  have main : ∀ cs : Array Value, Blk w g cs t → cs.size = R.size → (∀ w', Upd g w w' → Blk w' g R t → SZ B0 Z R t w w') → Does P ops { dst := none, op := .store t' x y, type := ty, pos := pos, after := af, guard := gd } a w K := fun cs hcs hsz hz =>
    d_storeRow hw hx hy h1 hcs hsz ho fun w' hU hb' => h w' (hz w' hU hb') ⟨g, rfl, hg, hb'⟩
  rcases hb with hb | hb
  · exact main Z hb hs fun w' hU hb' => ⟨hU.os, hU.tape, hU.output, Nat.le_of_eq hU.size.symm, fun k _ => by
      by_cases hk : k = g
      · subst hk; exact .inr ⟨hg, hb, hb'⟩
      · exact .inl (hU.block k hk)⟩
  · exact main R hb rfl fun w' hU hb' => ⟨hU.os, hU.tape, hU.output, Nat.le_of_eq hU.size.symm, fun k _ => by
      by_cases hk : k = g
      · subst hk; left; unfold Blk at hb hb'; rw [hb, hb']
      · exact .inl (hU.block k hk)⟩
/-- a slice literal without parts -/
theorem d_none {t e s by_ : Nat} (hw : Region.wanted { dst := d, op := .buildSlice t 0 #[], type := ty, pos := pos, after := af, guard := gd } (yielded ops a.tmps) = true) (ht : elemB P t e s by_ = true)
    (h : ∀ g w', g = w.heap.size → Grow w w' → Blk w' g #[] e → K (.slice (some ⟨g, 0, none⟩) 0 0) w') : Does P ops { dst := d, op := .buildSlice t 0 #[], type := ty, pos := pos, after := af, guard := gd } a w K := by
  obtain ⟨i, z, hu, hi, hz, hsz, _, hzs, h0⟩ := elem_facts ht
  refine does_val (w' := w.alloc (.cells #[] e)) hw ?_ (h _ _ rfl ((Grow.refl _).alloc _) (heap_alloc_last w _))
  have : (Instr.buildSlice t 0 #[]).run P w = .ok (.slice (some ⟨w.heap.size, 0, none⟩) 0 0) (w.alloc (.cells #[] e)) := by
    simp [Instr.buildSlice, run_underlying hu, sizeOf, typeInfo, hi, Instr.fill, newRow]
    congr 1
    congr 1
    apply Array.ext'
    simp
  unfold execOp
  simp only [Sem.run_bind, List.map_toArray, List.map_nil, this, Result.andThen_ok, Sem.run_pure]
/-- append([]T{}, l...) -/
theorem d_copy {α : Type} {enc : α → List Value} {t e s by_ B g : Nat} {x y : Operand} {l : List α} (hw : Region.wanted { dst := d, op := .call { callee := .builtin .append, args := #[x, y], argTypes := #[t, t] }, type := ty, pos := pos, after := af, guard := gd } (yielded ops a.tmps) = true) (hx : a.eval x = .slice (some ⟨g, 0, none⟩) 0 0) (hb : Blk w g #[] e) (hy : a.eval y = v)
    (ht : elemB P t e s by_ = true) (hs : Sl enc s B w v l) (hel : ∀ x, (enc x).length = s) (he1 : ∀ x, ∀ u ∈ enc x, u.oneCell' = true) (hn : l.length ≤ 1000000) (hby : by_ ≤ 10000)
    (h : ∀ v' w', Grow w w' → w'.ownsRow g e s v' l.length (l.flatMap enc) → K v' w') :
    Does P ops { dst := d, op := .call { callee := .builtin .append, args := #[x, y], argTypes := #[t, t] }, type := ty, pos := pos, after := af, guard := gd } a w K := by
  obtain ⟨i, z, hu, hi, hz, hsz, hbz, hzs, h0⟩ := elem_facts ht
  obtain ⟨ao, cap, rfl, hlc, hel'⟩ := hs
  have hfl : ∀ l : List α, (l.flatMap enc).length = l.length * s := fun l => by
    induction l with
    | nil => simp
    | cons c l ih => rw [List.flatMap_cons, List.length_append, ih, hel, List.length_cons, Nat.add_mul, Nat.one_mul, Nat.add_comm]
  have hone : ∀ u ∈ l.flatMap enc, u.oneCell' = true := fun u hu => by
    obtain ⟨c, _, hc⟩ := List.mem_flatMap.1 hu
    exact he1 c u hc
  have hat : ∀ (l : List α) (j : Nat) u, (l.flatMap enc)[j]? = some u → ∃ k c q, l[k]? = some c ∧ (enc c)[q]? = some u ∧ j = k * s + q := fun l => by
    induction l with
    | nil => intro j u hj; simp at hj
    | cons c l ih =>
      intro j u hj
      rw [List.flatMap_cons] at hj
      by_cases hlt : j < (enc c).length
      · rw [List.getElem?_append_left hlt] at hj; exact ⟨0, c, j, by simp, hj, by omega⟩
      · rw [List.getElem?_append_right (by omega)] at hj
        obtain ⟨k, c', q, h1, h2, h3⟩ := ih _ _ hj
        rw [hel] at h3 hlt
        exact ⟨k + 1, c', q, by simpa using h1, h2, by rw [Nat.add_mul, Nat.one_mul]; omega⟩
  cases l with
  | nil =>
    have hsrc : Src P i.size t (.slice ao 0 cap) 0 [] w := by
      cases ao with
      | none => exact Src.ofNil w hu cap
      | some x0 => exact Src.ofSlice w hu x0 0 cap [] (by simp) (fun j u hj => by simp at hj) (fun u hu => by cases hu)
    have hr := run_append_nothing (P := P) w t t ty e i hu hi (some ⟨g, 0, none⟩) 0 0 (Nat.le_refl _) _ hsrc
    refine does_val hw ?_ (h (.slice (some ⟨g, 0, none⟩) 0 0) w (Grow.refl _) ⟨by simp, .inr ⟨g, 0, #[], rfl, Nat.le_refl _, hb, Nat.le_refl _, by simp [maxLen], by simp, by simp⟩⟩)
    unfold execOp
    simp only [resolve, invoke, builtin, Sem.run_bind, Sem.run_pure, Result.andThen_ok, List.map_toArray, List.map_cons, List.map_nil, List.length_nil, hx, hy, hr]
  | cons c l =>
    obtain ⟨b, o, rfl, _, _⟩ := hel' 0 c (by simp)
    have hsrc : Src P i.size t (.slice (some ⟨b, o, none⟩) (c :: l).length cap) (c :: l).length ((c :: l).flatMap enc) w := by
      refine Src.ofSlice w hu _ _ cap _ (by rw [hfl, hsz]) (fun j u hj => ?_) hone
      obtain ⟨k, c', q, h1, h2, rfl⟩ := hat _ j u hj
      obtain ⟨b', o', h3, _, h5⟩ := hel' k c' h1
      simp at h3
      obtain ⟨rfl, rfl⟩ := h3
      rw [Addr.add_mid, show o + (k * s + q) = o + k * s + q by omega]
      exact h5 q u h2
    have hpos : 0 < (c :: l).length := by simp
    have hcap : Builtin.nextslicecap (0 + (c :: l).length) 0 = (c :: l).length := by unfold Builtin.nextslicecap; rw [if_pos (by omega)]; omega
    have hmul : (c :: l).length * i.bytes ≤ 1000000 * 10000 := Nat.mul_le_mul hn (by omega)
    have hr := run_append_grow_src (P := P) w t t ty e i z hu hi hz (some ⟨g, 0, none⟩) 0 0 [] (by simp [Builtin.firstCells, loadCells, loadCellsFrom]) _ _ _ hsrc (by omega) (by omega) (by rw [hcap]; omega)
    have hge := grownCap_ge w (0 + (c :: l).length) 0 e
    have hcm : grownCap w (0 + (c :: l).length) 0 e ≤ maxLen := grownCap_le_maxLen w (0 + (c :: l).length) 0 e (by simp only [maxLen]; omega)
    have hown : (w.drew.alloc (.cells (([] ++ (c :: l).flatMap enc).toArray ++ Builtin.zeroCells z.cells (grownCap w (0 + (c :: l).length) 0 e - (0 + (c :: l).length))) e)).ownsRow g e s (.slice (some ⟨w.heap.size, 0, none⟩) (c :: l).length (grownCap w (0 + (c :: l).length) 0 e)) (c :: l).length ((c :: l).flatMap enc) := by
      refine ⟨hfl _, .inr ⟨w.heap.size, _, _, rfl, Nat.le_of_lt hb.lt, heap_alloc_new w.drew _, (by rw [Nat.zero_add] at hge ⊢; exact hge), hcm, ?_, ?_⟩⟩
      · simp only [Array.size_append, List.size_toArray, size_zeroCells, hzs, List.nil_append, hfl, ← Nat.add_mul]
        congr 1
        omega
      · simp only [Array.toList_append, List.nil_append]
        rw [← hfl]
        exact List.take_left
    refine does_val hw ?_ (h _ _ (((Grow.refl w).drew).alloc _) hown)
    unfold execOp
    simp only [resolve, invoke, builtin, Sem.run_bind, Sem.run_pure, Result.andThen_ok, List.map_toArray, List.map_cons, List.map_nil, hx, hy, hr]
    rw [Nat.zero_add]
end
theorem own_gen {α : Type} {enc : α → List Value} {w : World} {b e s : Nat} {v : Value} {l : List α} (hel : ∀ x, (enc x).length = s) (h : w.ownsRow b e s v l.length (l.flatMap enc)) : Sl enc s w.heap.size w v l := by
  obtain ⟨h1, h2⟩ := h
  rcases h2 with ⟨rfl, h2⟩ | ⟨g, cap, cur, hv, hb, hg, hc, _, hs, ht⟩
  · have : l = [] := List.eq_nil_of_length_eq_zero h2
    subst this; exact Sl.nil
  · refine ⟨some ⟨g, 0, none⟩, cap, hv, hc, fun j x hx => ⟨g, 0, rfl, (Array.getElem?_eq_some_iff.1 hg).1, fun k u hu => ?_⟩⟩
    rw [cell_of_row w g _ cur _ _ hg]
    have hk : k < s := by have := get_lt hu; rwa [hel] at this
    have hj := get_lt hx
    have key : ∀ (l : List α) (j : Nat) (x : α), l[j]? = some x → (enc x)[k]? = some u → (l.flatMap enc)[j * s + k]? = some u := by
      intro l
      induction l with
      | nil => intro j x hx; simp at hx
      | cons c l ih =>
        intro j x hx hu
        rw [List.flatMap_cons]
        cases j with
        | zero =>
          simp at hx; subst hx
          rw [Nat.zero_mul, Nat.zero_add, List.getElem?_append_left (by rw [hel]; exact hk)]; exact hu
        | succ j =>
          rw [List.getElem?_append_right (by rw [hel, Nat.add_mul]; omega), hel, show (j + 1) * s + k - s = j * s + k by rw [Nat.add_mul]; omega]
          exact ih j x (by simpa using hx) hu
    have hlt : j * s + k < l.length * s := by
      have := Nat.mul_le_mul_right s (show j + 1 ≤ l.length by omega)
      rw [Nat.add_mul] at this; omega
    have h3 : (cur.toList.take (l.length * s))[j * s + k]? = some u := by rw [ht]; exact key l j x hx hu
    rw [List.getElem?_take_of_lt hlt] at h3
    rw [Nat.zero_add, ← Array.getElem?_toList]; exact h3
end Go.Proofs.Ytlhompedcphnnaa
/- What Local comes to, as functions of what it is handed; the region that calls it on copies. -/
namespace Go.Proofs.Ytlhompedcphnnaa
open Go.RowKit

def lE (code : List Ins) (r0 : Nat → Int) (rds : List Int) : Int := if (checkR [code]).2.2 = 0 then (match runW code code.length ⟨((0 : Nat) : Int), r0, rds, [], []⟩ with | none => 24 | some _ => 0) else 1
def lRun (code : List Ins) (r0 : Nat → Int) (rds : List Int) : Option Wk := if (checkR [code]).2.2 = 0 then runW code code.length ⟨((0 : Nat) : Int), r0, rds, [], []⟩ else none
def lR (code : List Ins) (r0 : Nat → Int) (rds : List Int) : Nat → Int := match lRun code r0 rds with | none => fun _ => 0 | some s => s.r
def lEv (code : List Ins) (r0 : Nat → Int) (rds : List Int) : List Ev := match lRun code r0 rds with | none => [] | some s => s.evs
def lPa (code : List Ins) (r0 : Nat → Int) (rds : List Int) : List Int := match lRun code r0 rds with | none => [] | some s => s.path
theorem insE_len (i : Ins) : (insE i).length = 17 := rfl
theorem evS_len (i : Ev) : (evS i).length = 15 := rfl
theorem intE_len (i : Int) : (intE i).length = 1 := rfl
theorem insE_one (i : Ins) : ∀ u ∈ insE i, u.oneCell' = true := List.all_eq_true.1 rfl
theorem intE_one (i : Int) : ∀ u ∈ intE i, u.oneCell' = true := List.all_eq_true.1 rfl
theorem paE_flat (l : List Int) : paE l = l.flatMap intE := by
  induction l with
  | nil => rfl
  | cons x l ih => simp [paE, intE] at ih ⊢; exact ih
theorem row_nil (w : World) (e s : Nat) : ∃ b, w.ownsRow b e s (.slice none 0 0) 0 [] := ⟨0, by simp, .inl ⟨rfl, rfl⟩⟩
theorem local_v (code : List Ins) (rds : List Int) (r0 : Nat → Int) (v1 v2 : Value) (w : World) (hs : Sl insE 17 w.heap.size w v1 code) (hrd : Sl intE 1 w.heap.size w v2 rds) (hcl : code.length ≤ 1000000) (hwr : ∀ k, wfI (r0 k)) (hwi : ∀ i ∈ code, wfI i.imm ∧ wfI i.off) (hwd : ∀ z ∈ rds, wfI z) :
    Calls Try.prog 26 #[v1, .agg (regsC r0), v2] w fun e w' => Grow w w' ∧ ∃ ev pa, e = .returned (.tuple #[.agg (regsC (lR code r0 rds)), ev, pa, .int .i64 (lE code r0 rds)]) ∧ (∃ b, w'.ownsRow b 52 15 ev (lEv code r0 rds).length ((lEv code r0 rds).flatMap evS)) ∧ ∃ b, w'.ownsRow b 3 1 pa (lPa code r0 rds).length ((lPa code r0 rds).flatMap intE) := by
  obtain ⟨ao, cap, rfl⟩ := hs.form
  obtain ⟨ao2, cap2, rfl⟩ := hrd.form
  refine (local_any code rds ao ao2 cap cap2 r0 w hs hrd hcl hwr hwi hwd).mono fun e w' ⟨hG, h⟩ => ⟨hG, ?_⟩
  unfold lR lEv lPa lE lRun
  by_cases hc : (checkR [code]).2.2 = 0
  · rw [if_pos hc] at h
    simp only [hc, if_true]
    cases hr : runW code code.length ⟨((0 : Nat) : Int), r0, rds, [], []⟩ with
    | none => rw [hr] at h; exact ⟨_, _, h, row_nil w' _ _, row_nil w' _ _⟩
    | some s =>
      rw [hr] at h
      obtain ⟨ev, pa, he, h1, h2⟩ := h
      exact ⟨ev, pa, he, ⟨_, h1⟩, _, by rw [← paE_flat]; exact h2⟩
  · rw [if_neg hc] at h
    simp only [hc, if_false]
    exact ⟨_, _, h, row_nil w' _ _, row_nil w' _ _⟩
theorem l_no {code : List Ins} {r0 : Nat → Int} {rds : List Int} (h : (lE code r0 rds == 0) = false) : lEv code r0 rds = [] ∧ lPa code r0 rds = [] := by
  unfold lE at h
  unfold lEv lPa lRun
  split at h
  · rename_i hc
    simp only [hc, if_true]
    cases hr : runW code code.length ⟨((0 : Nat) : Int), r0, rds, [], []⟩ with
    | none => exact ⟨rfl, rfl⟩
    | some s => rw [hr] at h; simp at h
  · rename_i hc
    simp [hc]
theorem l_yes {code : List Ins} {r0 : Nat → Int} {rds : List Int} (hr0 : ∀ k, wfI (r0 k)) (hw : ∀ i ∈ code, wfI i.imm ∧ wfI i.off) (h : (lE code r0 rds == 0) = true) : ∃ s : Wk, s.evs = lEv code r0 rds ∧ s.path = lPa code r0 rds ∧ s.r = lR code r0 rds ∧ Good code rds.length s ∧ (checkR [code]).2.2 = 0 ∧ runW code code.length ⟨((0 : Nat) : Int), r0, rds, [], []⟩ = some s := by
  unfold lE at h
  unfold lEv lPa lR lRun
  split at h
  · rename_i hc
    simp only [hc, if_true]
    cases hr : runW code code.length ⟨((0 : Nat) : Int), r0, rds, [], []⟩ with
    | none => rw [hr] at h; simp at h
    | some s => exact ⟨s, rfl, rfl, rfl, local_good hc hr0 hw hr, trivial, rfl⟩
  · simp at h
section
variable {B0 : Nat} {Z R : Array Value} {t : TypeId}
def cNone (e : Nat) (he : e ≠ t) : Cl (SZ B0 Z R t) := ⟨fun v w => ∃ g, v = .slice (some ⟨g, 0, none⟩) 0 0 ∧ Blk w g #[] e, fun _ _ _ hS ⟨g, h1, h2⟩ => ⟨g, h1, hS.keep h2 he⟩⟩
def cLoc (code : List Ins) (r0 : Nat → Int) (rds : List Int) (h1 : 52 ≠ t) (h2 : 3 ≠ t) : Cl (SZ B0 Z R t) :=
  ⟨fun v w => ∃ ev pa, v = .tuple #[.agg (regsC (lR code r0 rds)), ev, pa, .int .i64 (lE code r0 rds)] ∧ (∃ b, w.ownsRow b 52 15 ev (lEv code r0 rds).length ((lEv code r0 rds).flatMap evS)) ∧ ∃ b, w.ownsRow b 3 1 pa (lPa code r0 rds).length ((lPa code r0 rds).flatMap intE),
   fun _ _ _ hS ⟨ev, pa, h, ⟨b, k1⟩, c, k2⟩ => ⟨ev, pa, h, ⟨b, own_sz k1 hS h1⟩, c, own_sz k2 hS h2⟩⟩
end
theorem own_apart {w : World} {b g e t s n : Nat} {v : Value} {xs : List Value} {cs : Array Value} (h : w.ownsRow b e s v n xs) (hb : Blk w g cs t) (he : e ≠ t) : v.ownBlock ≠ some g := fun hk => by
  rcases h.2 with ⟨rfl, _⟩ | ⟨g', cap, cur, rfl, _, hg, _⟩
  · simp [Value.ownBlock] at hk
  · simp [Value.ownBlock] at hk
    subst hk
    unfold Blk at hb; rw [hb] at hg; injection hg with hg; injection hg with _ h4; exact he h4.symm
theorem regs_set {r : Nat → Int} {x : Int} : ∀ {j : Nat}, j < 8 → (regsC r).setIfInBounds j (.int .i64 x) = regsC (updR r j x)
  | 0, _ | 1, _ | 2, _ | 3, _ | 4, _ | 5, _ | 6, _ | 7, _ => by simp [regsC, updR]
theorem regs_get {r : Nat → Int} : ∀ {j : Nat}, j < 8 → (regsC r)[j]? = some (.int .i64 (r j))
  | 0, _ | 1, _ | 2, _ | 3, _ | 4, _ | 5, _ | 6, _ | 7, _ => rfl
theorem b_neb {P : Program} {t : TypeId} (x y : Operand) (a b r : Bool) (w : World) (ht : P.underlying t = some .bool) (h : (!(a == b)) = r) : (eqGuard .neq t x y (.bool a) (.bool b)).run P w = .ok () w ∧ (binOp .neq t (.bool a) (.bool b)).run P w = .ok (.bool r) w := by
  subst h
  exact ⟨by simp [eqGuard], run_neq_bool w t a b ht⟩
theorem b_subn (x y : Operand) (j : Nat) (t : TypeId) (w : World) {P : Program} (h : 0 < j) (hj : j ≤ 1000000) : (eqGuard .sub t x y (.int .i64 (j : Int)) (.int .i64 1)).run P w = .ok () w ∧ (binOp .sub t (.int .i64 (j : Int)) (.int .i64 1)).run P w = .ok (.int .i64 ((j - 1 : Nat) : Int)) w := by
  have e : (((j - 1 : Nat)) : Int) = (j : Int) - 1 := by omega
  rw [e]
  refine ⟨by simp [eqGuard], ?_⟩
  have : IntKind.wrap .i64 ((j : Int) - 1) = (j : Int) - 1 := by simp only [IntKind.wrap, IntKind.signed, IntKind.bits]; simp; omega
  simp [binOp, this, go_sem]
/-- the event at a place of a run: its fields as its instruction has them -/
theorem ev_form {code : List Ins} {n0 : Nat} {s : Wk} (G : Good code n0 s) {j : Nat} {e : Ev} (h : s.evs[j]? = some e) : ∃ (k a : Nat) (c : Ins) (th loc mask old nw prd suc : Int) (aq wk rl : Bool), e = ⟨th, (k : Int), (a : Int), c.op, loc, mask, rdB c, wrB c, old, nw, aq, wk, rl, prd, suc⟩ ∧ s.path[k]? = some (a : Int) ∧ code[a]? = some c := by
  obtain ⟨k, h1, h2, c, h3, h4, h5, h6⟩ := G.ev j e h
  obtain ⟨a, ha⟩ := Int.eq_ofNat_of_zero_le (G.pa k _ h2).1
  obtain ⟨th, ps, at_, op, loc, mask, rd, wr, old, nw, aq, wk, rl, prd, suc⟩ := e
  simp only at h1 h2 h3 h4 h5 h6 ha
  subst h1; subst h4; subst h5; subst h6; subst ha
  exact ⟨k, a, c, th, loc, mask, old, nw, prd, suc, aq, wk, rl, rfl, h2, by simpa using h3⟩
def usedN (l : List Ev) (j : Nat) : Nat := (l.take j).countP fun e => e.reads
theorem used_at {l : List Ev} {j : Nat} {e : Ev} (h : l[j]? = some e) : usedN l (j + 1) = usedN l j + if e.reads = true then 1 else 0 := by
  unfold usedN; rw [List.take_add_one, h, List.countP_append]; simp
theorem used_le {code : List Ins} {n0 : Nat} {s : Wk} (G : Good code n0 s) (j : Nat) : usedN s.evs j ≤ n0 := by
  have h1 := G.rd
  have h2 : usedN s.evs j ≤ s.evs.countP fun e => e.reads := List.Sublist.countP_le (List.take_sublist j s.evs)
  omega
end Go.Proofs.Ytlhompedcphnnaa
/- A run's events are few. -/
namespace Go.Proofs.Ytlhompedcphnnaa
open Go.RowKit

theorem rises {l : List Ev} (h : ∀ (i : Nat) e f, l[i]? = some e → l[i + 1]? = some f → e.pos < f.pos) (h0 : ∀ (i : Nat) e, l[i]? = some e → 0 ≤ e.pos) : ∀ (i : Nat) e, l[i]? = some e → (i : Int) ≤ e.pos
  | 0, e, he => by have := h0 0 e he; omega
  | i + 1, e, he => by
    have hlt := get_lt he
    have hi : l[i]? = some l[i] := List.getElem?_eq_getElem (by omega)
    have h1 := rises h h0 i _ hi
    have h2 := h i _ e hi he
    omega
theorem ev_small {code : List Ins} {n0 : Nat} {s : Wk} (G : Good code n0 s) (hc : code.length ≤ 8) : s.evs.length ≤ 1000000 := by
  by_cases h : s.evs.length = 0
  · omega
  · have hi : s.evs[s.evs.length - 1]? = some (s.evs[s.evs.length - 1]'(by omega)) := List.getElem?_eq_getElem (by omega)
    have h1 := rises G.er (fun i e he => by obtain ⟨k, hk, _⟩ := G.ev i e he; omega) _ _ hi
    obtain ⟨k, hk, hp, _⟩ := G.ev _ _ hi
    have h2 := get_lt hp
    have h3 := G.len
    have h4 := G.p1
    omega
end Go.Proofs.Ytlhompedcphnnaa
/- UirSteps returns true. -/
namespace Go.Proofs.Ytlhompedcphnnaa
open Go.RowKit
set_option linter.unusedSimpArgs false
set_option linter.unusedVariables false
theorem ent8 : ((Try.prog.funcs[8]?).map fun fn => (fn.name == "runtime.NumGoroutine", fn.body.isNone)) = some (false, false) := by kernel_rfl
theorem fo52_1 : fieldOff Try.prog 52 1 = some 1 := by kernel_rfl
theorem fo52_2 : fieldOff Try.prog 52 2 = some 2 := by kernel_rfl
theorem fo52_3 : fieldOff Try.prog 52 3 = some 3 := by kernel_rfl
set_option maxHeartbeats 4000000 in
set_option maxRecDepth 4000 in
theorem steps_law (code : List Ins) (rds : List Int) (ao ao2 : Option Addr) (cap cap2 : Nat) (r0 : Nat → Int) (w : World) (hs : Sl insE 17 w.heap.size w (.slice ao code.length cap) code) (hrd : Sl intE 1 w.heap.size w (.slice ao2 rds.length cap2) rds) (hwr : ∀ k, wfI (r0 k)) (hwi : ∀ i ∈ code, wfI i.imm ∧ wfI i.off) (hwd : ∀ z ∈ rds, wfI z) : Calls Try.prog 6 #[.slice ao code.length cap, .agg (regsC r0), .slice ao2 rds.length cap2] w fun e w' => e = .returned (.bool true) ∧ Grow w w' := by
 have b0 : Below w.heap.size w w := Below.refl _ _
 refine enter (n := 175) Try.func6 rfl rfl (Nat.le_of_ble_eq_true rfl) ?_
 intro a1 hA2
 refine wp_seq ?_
 refine wp_region_lit ?_
 refine q_step hA2 rfl (d_box (wn rfl) (hA2.ev rfl) ?_)
 intro g3 w4 eg5 hG6 (m7 : Blk w4 g3 (regsC r0) 43)
 have ge8 : w.heap.size ≤ g3 := eg5 ▸ b0.size
 have b9 := below_grow b0 hG6 b0.size
 intro a10 hA11
 refine q_step hA11 rfl (d_assign (wn rfl) (hA11.ev rfl) ?_)
 intro a12 hA13
 refine q_end ?_
 have hA14 : St 175 [(0, (.slice ao code.length cap)), (2, (.slice ao2 rds.length cap2)), (4, (.pointer (some ⟨g3, 0, none⟩))), (6, (.bool false))] a12 := hA13.cut _ (fm_cons (hA13.get 0 _ rfl) (fm_cons (hA13.get 2 _ rfl) (fm_cons (hA13.get 4 _ rfl) (fm_cons (hA13.get 6 _ rfl) fm_nil))))
 refine t_norm ?_
 refine wp_seq ?_
 refine wp_seq ?_
 refine wp_region_lit ?_
 refine q_step hA14 rfl (d_call (wn rfl) ent8 (map0) (able_any w4) ?_)
 rintro e18 w15 ⟨he17, hG16⟩
 have m19 := m7.grow hG16
 have b20 := below_grow b9 hG16 b9.size
 refine ⟨(.bool true), he17, ?_⟩
 intro a21 hA22
 refine q_step hA22 rfl (d_not (wn rfl) (hA22.ev rfl) ?_)
 intro a23 hA24
 refine q_end ?_
 have hA25 : St 175 [(0, (.slice ao code.length cap)), (2, (.slice ao2 rds.length cap2)), (4, (.pointer (some ⟨g3, 0, none⟩))), (6, (.bool false)), (16, (.bool false))] a23 := hA24.cut _ (fm_cons (hA24.get 0 _ rfl) (fm_cons (hA24.get 2 _ rfl) (fm_cons (hA24.get 4 _ rfl) (fm_cons (hA24.get 6 _ rfl) (fm_cons (hA24.get 16 _ rfl) fm_nil)))))
 refine t_norm ?_
 refine c_false hA25 rfl ?_
 refine wp_skip ?_
 refine t_norm ?_
 refine wp_seq ?_
 refine wp_seq ?_
 refine wp_region_lit ?_
 refine q_step hA25 rfl (d_move (wn rfl) (hA25.ev rfl) ?_)
 intro a26 hA27
 refine q_step hA27 rfl (d_len (n := code.length) (wn rfl) (hA27.ev rfl) slc35 hs.form ?_)
 intro a28 hA29
 rcases Bool.eq_false_or_eq_true (decide (((code.length : Nat) : Int) > 2000)) with hb30 | hb30
 ·skip
  have hq31 := of_decide_eq_true hb30
  refine q_step hA29 rfl (d_bin (wn rfl) (hA29.ev rfl) (hA29.ev rfl) (b_gt _ _ ((code.length : Nat) : Int) 2000 true _ hb30) ?_)
  intro a32 hA33
  refine q_step hA33 rfl (d_move (wn rfl) (hA33.ev rfl) ?_)
  intro a34 hA35
  refine q_step hA35 rfl (does_not (wno rfl rfl (.inl (hA35.get 20 _ rfl))) ?_)
  intro a36 hA37
  refine q_step hA37 rfl (does_not (wno rfl rfl (.inl (hA37.get 20 _ rfl))) ?_)
  intro a38 hA39
  refine q_step hA39 rfl (does_not (wno rfl rfl (.inl (hA39.get 20 _ rfl))) ?_)
  intro a40 hA41
  refine q_step hA41 rfl (d_pickT (wn rfl) (hA41.ev rfl) (hA41.ev rfl) ?_)
  intro a42 hA43
  refine q_end ?_
  have hA44 : St 175 [(0, (.slice ao code.length cap)), (2, (.slice ao2 rds.length cap2)), (4, (.pointer (some ⟨g3, 0, none⟩))), (6, (.bool false)), (24, (.bool true))] a42 := hA43.cut _ (fm_cons (hA43.get 0 _ rfl) (fm_cons (hA43.get 2 _ rfl) (fm_cons (hA43.get 4 _ rfl) (fm_cons (hA43.get 6 _ rfl) (fm_cons (hA43.get 24 _ rfl) fm_nil)))))
  refine t_norm ?_
  refine c_true hA44 rfl ?_
  refine wp_seq ?_
  refine wp_region_lit ?_
  refine q_step hA44 rfl (d_assign (wn rfl) (hA44.ev rfl) ?_)
  intro a45 hA46
  refine q_end ?_
  have hA47 : St 175 [(0, (.slice ao code.length cap)), (2, (.slice ao2 rds.length cap2)), (4, (.pointer (some ⟨g3, 0, none⟩))), (6, (.bool true))] a45 := hA46.cut _ (fm_cons (hA46.get 0 _ rfl) (fm_cons (hA46.get 2 _ rfl) (fm_cons (hA46.get 4 _ rfl) (fm_cons (hA46.get 6 _ rfl) fm_nil))))
  refine t_norm ?_
  refine wp_ret ?_
  refine t_ret ?_
  refine ret1 rfl hA47 (v := (.bool true)) rfl ?_
  exact ⟨rfl, b20⟩
 ·skip
  have hq48 := of_decide_eq_false hb30
  refine q_step hA29 rfl (d_bin (wn rfl) (hA29.ev rfl) (hA29.ev rfl) (b_gt _ _ ((code.length : Nat) : Int) 2000 false _ hb30) ?_)
  intro a49 hA50
  refine q_step hA50 rfl (d_move (wn rfl) (hA50.ev rfl) ?_)
  intro a51 hA52
  refine q_step hA52 rfl (d_move (wy rfl rfl (hA52.get 20 _ rfl)) (hA52.ev rfl) ?_)
  intro a53 hA54
  refine q_step hA54 rfl (d_len (n := rds.length) (wy rfl rfl (hA54.get 20 _ rfl)) (hA54.ev rfl) slc30 hrd.form ?_)
  intro a55 hA56
  rcases Bool.eq_false_or_eq_true (decide (((rds.length : Nat) : Int) > 2000)) with hb57 | hb57
  ·skip
   have hq58 := of_decide_eq_true hb57
   refine q_step hA56 rfl (d_bin (wy rfl rfl (hA56.get 20 _ rfl)) (hA56.ev rfl) (hA56.ev rfl) (b_gt _ _ ((rds.length : Nat) : Int) 2000 true _ hb57) ?_)
   intro a59 hA60
   refine q_step hA60 rfl (d_pickF (wn rfl) (hA60.ev rfl) (hA60.ev rfl) ?_)
   intro a61 hA62
   refine q_end ?_
   have hA63 : St 175 [(0, (.slice ao code.length cap)), (2, (.slice ao2 rds.length cap2)), (4, (.pointer (some ⟨g3, 0, none⟩))), (6, (.bool false)), (24, (.bool true))] a61 := hA62.cut _ (fm_cons (hA62.get 0 _ rfl) (fm_cons (hA62.get 2 _ rfl) (fm_cons (hA62.get 4 _ rfl) (fm_cons (hA62.get 6 _ rfl) (fm_cons (hA62.get 24 _ rfl) fm_nil)))))
   refine t_norm ?_
   refine c_true hA63 rfl ?_
   refine wp_seq ?_
   refine wp_region_lit ?_
   refine q_step hA63 rfl (d_assign (wn rfl) (hA63.ev rfl) ?_)
   intro a64 hA65
   refine q_end ?_
   have hA66 : St 175 [(0, (.slice ao code.length cap)), (2, (.slice ao2 rds.length cap2)), (4, (.pointer (some ⟨g3, 0, none⟩))), (6, (.bool true))] a64 := hA65.cut _ (fm_cons (hA65.get 0 _ rfl) (fm_cons (hA65.get 2 _ rfl) (fm_cons (hA65.get 4 _ rfl) (fm_cons (hA65.get 6 _ rfl) fm_nil))))
   refine t_norm ?_
   refine wp_ret ?_
   refine t_ret ?_
   refine ret1 rfl hA66 (v := (.bool true)) rfl ?_
   exact ⟨rfl, b20⟩
  ·skip
   have hq67 := of_decide_eq_false hb57
   refine q_step hA56 rfl (d_bin (wy rfl rfl (hA56.get 20 _ rfl)) (hA56.ev rfl) (hA56.ev rfl) (b_gt _ _ ((rds.length : Nat) : Int) 2000 false _ hb57) ?_)
   intro a68 hA69
   refine q_step hA69 rfl (d_pickF (wn rfl) (hA69.ev rfl) (hA69.ev rfl) ?_)
   intro a70 hA71
   refine q_end ?_
   have hA72 : St 175 [(0, (.slice ao code.length cap)), (2, (.slice ao2 rds.length cap2)), (4, (.pointer (some ⟨g3, 0, none⟩))), (6, (.bool false)), (24, (.bool false))] a70 := hA71.cut _ (fm_cons (hA71.get 0 _ rfl) (fm_cons (hA71.get 2 _ rfl) (fm_cons (hA71.get 4 _ rfl) (fm_cons (hA71.get 6 _ rfl) (fm_cons (hA71.get 24 _ rfl) fm_nil)))))
   refine t_norm ?_
   refine c_false hA72 rfl ?_
   refine wp_skip ?_
   refine t_norm ?_
   refine wp_seq ?_
   have hA73 : St 175 [(0, (.slice ao code.length cap)), (2, (.slice ao2 rds.length cap2)), (4, (.pointer (some ⟨g3, 0, none⟩))), (6, (.bool false))] a70 := hA72.cut _ (fm_cons (hA72.get 0 _ rfl) (fm_cons (hA72.get 2 _ rfl) (fm_cons (hA72.get 4 _ rfl) (fm_cons (hA72.get 6 _ rfl) fm_nil))))
   have bD74 := below_grow b20 ((Grow.refl w15).drew) b20.size
   refine drawnP (S := SZ w15.heap.size #[.int .i64 0, .int .i64 0, .int .i64 0, .int .i64 0, .int .i64 0, .int .i64 0, .int .i64 0, .int .i64 0] (regsC (lR code r0 rds)) 43) (tabL [cNone 23 (by decide), cv (.slice ao code.length cap), cRow 23 17 code.length (code.flatMap insE) (by decide), cv (.agg (regsC r0)), cNone 3 (by decide), cv (.slice ao2 rds.length cap2), cRow 3 1 rds.length (rds.flatMap intE) (by decide), cLoc code r0 rds (by decide) (by decide), cLoc code r0 rds (by decide) (by decide), cv (.agg (regsC (lR code r0 rds))), cRow 52 15 (lEv code r0 rds).length ((lEv code r0 rds).flatMap evS) (by decide), cRow 3 1 (lPa code r0 rds).length ((lPa code r0 rds).flatMap intE) (by decide), cv (.int .i64 (lE code r0 rds)), cMade, cfree, cRow 52 15 (lEv code r0 rds).length ((lEv code r0 rds).flatMap evS) (by decide), cRow 3 1 (lPa code r0 rds).length ((lPa code r0 rds).flatMap intE) (by decide), cv (.int .i64 (lE code r0 rds))]) 14 13 cFilled (by decide) (by kernel_rfl) mixedY SZ.refl SZ.trans SZ.drew hA73 (by kernel_rfl) ?_ ?_
   ·skip
    refine eachP_cons (by decide) (fun x y hS hT hk => d_none (wn rfl) elm35 (fun g w' _ hG hb => ⟨SZ.grow hG, g, rfl, hb⟩)) ?_
    refine eachP_cons (by decide) (fun x y hS hT hk => d_move (wn rfl) (hT.ev rfl) ⟨SZ.refl _, rfl⟩) ?_
    refine eachP_cons (by decide) (fun x y hS hT hk => (hk 0 rfl).elim fun g hg => d_copy (wn rfl) hg.1 hg.2 (hk 1 rfl) elm35 (hs.below (hS.below bD74 b20.size b20.size)) insE_len insE_one (by omega) (by decide) (fun v' w' hG ho => ⟨SZ.grow hG, _, ho⟩)) ?_
    refine eachP_cons (by decide) (fun x y hS hT hk => d_loadRow (cs := (regsC r0)) (wn rfl) (hT.ev rfl) row43 (Blk.below m19 (hS.below ((Grow.refl w15).drew) (Nat.le_refl _) (Nat.le_refl _)) m19.lt) ⟨SZ.refl _, rfl⟩) ?_
    refine eachP_cons (by decide) (fun x y hS hT hk => d_none (wn rfl) elm30 (fun g w' _ hG hb => ⟨SZ.grow hG, g, rfl, hb⟩)) ?_
    refine eachP_cons (by decide) (fun x y hS hT hk => d_move (wn rfl) (hT.ev rfl) ⟨SZ.refl _, rfl⟩) ?_
    refine eachP_cons (by decide) (fun x y hS hT hk => (hk 4 rfl).elim fun g hg => d_copy (wn rfl) hg.1 hg.2 (hk 5 rfl) elm30 (hrd.below (hS.below bD74 b20.size b20.size)) intE_len intE_one (by omega) (by decide) (fun v' w' hG ho => ⟨SZ.grow hG, _, ho⟩)) ?_
    refine eachP_cons (by decide) (fun x y hS hT hk => (hk 2 rfl).elim fun b2 h2 => (hk 6 rfl).elim fun b6 h6 => d_call (wn rfl) ent26 (map3 (show x.eval _ = x.tmps.getD 28 undef from rfl) (show x.eval _ = .agg (regsC r0) from hk 3 rfl) (show x.eval _ = x.tmps.getD 32 undef from rfl)) (local_v code rds r0 _ _ y (own_gen insE_len h2) (own_gen intE_len h6) (by omega) hwr hwi hwd) (fun _ _ ⟨hG, ev, pa, he, k1, k2⟩ => ⟨_, he, SZ.grow hG, ev, pa, rfl, k1, k2⟩)) ?_
    refine eachP_cons (by decide) (fun x y hS hT hk => d_move (wn rfl) (show x.eval _ = x.tmps.getD 33 undef from rfl) ⟨SZ.refl _, hk 7 rfl⟩) ?_
    refine eachP_cons (by decide) (fun x y hS hT hk => (hk 8 rfl).elim fun ev hh => hh.elim fun pa hq => d_extract (v := .agg (regsC (lR code r0 rds))) (wn rfl) hq.1 rfl ⟨SZ.refl _, rfl⟩) ?_
    refine eachP_cons (by decide) (fun x y hS hT hk => (hk 8 rfl).elim fun ev hh => hh.elim fun pa hq => d_extract (v := ev) (wn rfl) hq.1 rfl ⟨SZ.refl _, hq.2.1⟩) ?_
    refine eachP_cons (by decide) (fun x y hS hT hk => (hk 8 rfl).elim fun ev hh => hh.elim fun pa hq => d_extract (v := pa) (wn rfl) hq.1 rfl ⟨SZ.refl _, hq.2.2⟩) ?_
    refine eachP_cons (by decide) (fun x y hS hT hk => (hk 8 rfl).elim fun ev hh => hh.elim fun pa hq => d_extract (v := .int .i64 (lE code r0 rds)) (wn rfl) hq.1 rfl ⟨SZ.refl _, rfl⟩) ?_
    refine eachP_cons (by decide) (fun x y hS hT hk => d_alloc (wn rfl) zero43 (fun g w' eg hG hb => ⟨SZ.grow hG, g, rfl, eg ▸ hS.size, .inl hb⟩)) ?_
    refine eachP_pair (fun x y hS hT hk => d_storeZ (wn rfl) (show x.eval _ = x.tmps.getD 7 undef from rfl) (hk 13 rfl) (hk 9 rfl) row43 rfl rfl (fun w' hz hf => ⟨hz, trivial, fun _ => hf⟩)) ?_
    refine eachP_cons (by decide) (fun x y hS hT hk => d_assign (wn rfl) (show x.eval _ = x.tmps.getD 35 undef from rfl) ⟨SZ.refl _, hk 10 rfl⟩) ?_
    refine eachP_cons (by decide) (fun x y hS hT hk => d_assign (wn rfl) (show x.eval _ = x.tmps.getD 36 undef from rfl) ⟨SZ.refl _, hk 11 rfl⟩) ?_
    refine eachP_cons (by decide) (fun x y hS hT hk => d_assign (wn rfl) (show x.eval _ = x.tmps.getD 37 undef from rfl) ⟨SZ.refl _, hk 12 rfl⟩) ?_
    exact eachP_nil
   intro f75 a76 w77 hS78 hC79 hP80 hA81
   obtain ⟨g82, hg83, hge84, m85⟩ := hP80
   obtain ⟨be86, hev87⟩ := hC79 15 (Nat.le_of_ble_eq_true rfl)
   obtain ⟨bp88, hpa89⟩ := hC79 16 (Nat.le_of_ble_eq_true rfl)
   obtain ⟨ev90, hve92⟩ : ∃ z, f75 15 = z := ⟨_, rfl⟩
   obtain ⟨pa91, hvp93⟩ : ∃ z, f75 16 = z := ⟨_, rfl⟩
   obtain ⟨E94, hE95⟩ : ∃ z, lEv code r0 rds = z := ⟨_, rfl⟩
   obtain ⟨Pa96, hPa97⟩ : ∃ z, lPa code r0 rds = z := ⟨_, rfl⟩
   rw [hve92, hE95] at hev87
   rw [hvp93, hPa97] at hpa89
   have hA98 : St 175 [(0, (.slice ao code.length cap)), (2, (.slice ao2 rds.length cap2)), (6, (.bool false)), (8, ev90), (9, pa91), (10, (.int .i64 (lE code r0 rds)))] a76 := hA81.cut _ (fm_cons (hA81.get 0 _ rfl) (fm_cons (hA81.get 2 _ rfl) (fm_cons (hA81.get 6 _ rfl) (fm_cons ((hA81.get 8 _ rfl).trans hve92) (fm_cons ((hA81.get 9 _ rfl).trans hvp93) (fm_cons ((hA81.get 10 _ rfl).trans (hC79 17 (Nat.le_of_ble_eq_true rfl))) fm_nil))))))
   have n99 : g3 ≠ g82 := Nat.ne_of_lt (Nat.lt_of_lt_of_le m19.lt hge84)
   have m100 := Blk.below m19 (hS78.below (Grow.refl _) (Nat.le_refl _) (Nat.le_refl _)) m19.lt
   have ge101 := Nat.le_trans b20.size hge84
   have b102 := hS78.below b20 b20.size b20.size
   have hs103 := (hs.below b102).mono b102.size
   have hr104 := (hrd.below b102).mono b102.size
   have hsE105 := own_gen evS_len hev87
   have hsP106 := own_gen intE_len hpa89
   have b107 : Below w77.heap.size w77 w77 := Below.refl _ _
   refine t_norm ?_
   refine wp_seq ?_
   refine wp_seq ?_
   refine wp_region_lit ?_
   refine q_step hA98 rfl (d_move (wn rfl) (hA98.ev rfl) ?_)
   intro a108 hA109
   rcases Bool.eq_false_or_eq_true (lE code r0 rds == 0) with hb110 | hb110
   ·skip
    have hq111 := eq_of_beq hb110
    refine q_step hA109 rfl (d_bin (wn rfl) (hA109.ev rfl) (hA109.ev rfl) (b_ne _ _ (lE code r0 rds) 0 false _ (notof hb110)) ?_)
    intro a112 hA113
    refine q_end ?_
    have hA114 : St 175 [(0, (.slice ao code.length cap)), (2, (.slice ao2 rds.length cap2)), (6, (.bool false)), (8, ev90), (9, pa91), (39, (.bool false))] a112 := hA113.cut _ (fm_cons (hA113.get 0 _ rfl) (fm_cons (hA113.get 2 _ rfl) (fm_cons (hA113.get 6 _ rfl) (fm_cons (hA113.get 8 _ rfl) (fm_cons (hA113.get 9 _ rfl) (fm_cons (hA113.get 39 _ rfl) fm_nil))))))
    refine t_norm ?_
    refine c_false hA114 rfl ?_
    refine wp_skip ?_
    refine t_norm ?_
    refine wp_seq ?_
    refine wp_seq ?_
    refine wp_region_lit ?_
    refine q_step hA114 rfl (d_assign (wn rfl) (hA114.ev rfl) ?_)
    intro a115 hA116
    refine q_end ?_
    have hA117 : St 175 [(0, (.slice ao code.length cap)), (2, (.slice ao2 rds.length cap2)), (6, (.bool false)), (8, ev90), (9, pa91), (11, (.int .i64 0))] a115 := hA116.cut _ (fm_cons (hA116.get 0 _ rfl) (fm_cons (hA116.get 2 _ rfl) (fm_cons (hA116.get 6 _ rfl) (fm_cons (hA116.get 8 _ rfl) (fm_cons (hA116.get 9 _ rfl) (fm_cons (hA116.get 11 _ rfl) fm_nil))))))
    refine t_norm ?_
    refine wp_block ?_
    obtain ⟨s0, hs1, hs2, hs3, G, hck, hrn⟩ := l_yes hwr hwi hb110
    rw [hE95] at hs1
    rw [hPa97] at hs2
    have gpz : ∀ x, Pa96[0]? = some x → x = 0 := by rw [← hs2]; exact G.pz
    have gpa : ∀ (i : Nat) x, Pa96[i]? = some x → 0 ≤ x ∧ x < (code.length : Int) := by rw [← hs2]; intro i x h; have h1 := G.pa i x h; have h2 := G.p1; omega
    have gpr : ∀ (i : Nat) x y, Pa96[i]? = some x → Pa96[i + 1]? = some y → x < y := by rw [← hs2]; exact G.pr
    have gef : ∀ (j : Nat) e, E94[j]? = some e → ∃ (k a : Nat) (c : Ins) (th loc mask old nw prd suc : Int) (aq wk rl : Bool), e = ⟨th, (k : Int), (a : Int), c.op, loc, mask, rdB c, wrB c, old, nw, aq, wk, rl, prd, suc⟩ ∧ Pa96[k]? = some (a : Int) ∧ code[a]? = some c := by rw [← hs1, ← hs2]; intro j e h; exact ev_form G h
    have ger : ∀ (i : Nat) e f, E94[i]? = some e → E94[i + 1]? = some f → e.pos < f.pos := by rw [← hs1]; exact G.er
    have gus : ∀ j, usedN E94 j ≤ rds.length := by rw [← hs1]; exact used_le G
    have glen : Pa96.length ≤ code.length := by rw [← hs2]; have h1 := G.len; have h2 := G.p1; omega
    have gel : E94.length ≤ 1000000 := by rw [← hs1]; exact ev_small G (check_one hck).1
    have hcl8 := (check_one hck).1
    refine loop_by (fun m119 a120 w121 => ∃ j118 : Nat, m119 = Pa96.length - j118 ∧ (j118 ≤ Pa96.length) ∧ St 175 [(0, (.slice ao code.length cap)), (2, (.slice ao2 rds.length cap2)), (8, ev90), (9, pa91), (11, (.int .i64 ((j118 : Nat) : Int)))] a120 ∧ Below w77.heap.size w77 w121) (Pa96.length - 0) ⟨0, rfl, (by omega), hA117.cut _ (fm_cons (hA117.get 0 _ rfl) (fm_cons (hA117.get 2 _ rfl) (fm_cons (hA117.get 8 _ rfl) (fm_cons (hA117.get 9 _ rfl) (fm_cons ((hA117.get 11 _ rfl).trans (congrArg (Value.int .i64) (by omega))) fm_nil))))), b107⟩ ?_
    rintro m119 a120 w121 ⟨j118, hm124, hc125, hA122, b123⟩
    refine wp_seq ?_
    refine wp_seq ?_
    refine wp_region_lit ?_
    refine q_step hA122 rfl (d_move (wn rfl) (hA122.ev rfl) ?_)
    intro a126 hA127
    refine q_step hA127 rfl (d_move (wn rfl) (hA127.ev rfl) ?_)
    intro a128 hA129
    refine q_step hA129 rfl (d_len (n := Pa96.length) (wn rfl) (hA129.ev rfl) slc30 hsP106.form ?_)
    intro a130 hA131
    rcases Bool.eq_false_or_eq_true (decide (((j118 : Nat) : Int) < ((Pa96.length : Nat) : Int))) with hb132 | hb132
    ·skip
     have hq133 := of_decide_eq_true hb132
     refine q_step hA131 rfl (d_bin (wn rfl) (hA131.ev rfl) (hA131.ev rfl) (b_lt _ _ ((j118 : Nat) : Int) ((Pa96.length : Nat) : Int) true _ hb132) ?_)
     intro a134 hA135
     refine q_end ?_
     have hA136 : St 175 [(0, (.slice ao code.length cap)), (2, (.slice ao2 rds.length cap2)), (8, ev90), (9, pa91), (11, (.int .i64 ((j118 : Nat) : Int))), (51, (.bool true))] a134 := hA135.cut _ (fm_cons (hA135.get 0 _ rfl) (fm_cons (hA135.get 2 _ rfl) (fm_cons (hA135.get 8 _ rfl) (fm_cons (hA135.get 9 _ rfl) (fm_cons (hA135.get 11 _ rfl) (fm_cons (hA135.get 51 _ rfl) fm_nil))))))
     refine t_norm ?_
     refine c_true hA136 rfl ?_
     refine wp_skip ?_
     refine t_norm ?_
     refine wp_seq ?_
     refine wp_block ?_
     refine wp_seq ?_
     rcases Bool.eq_false_or_eq_true (((j118 : Nat) : Int) == 0) with hb137 | hb137
     ·skip
      have hq138 := eq_of_beq hb137
      obtain ⟨y139, hy140⟩ : ∃ y139, Pa96[0]? = some y139 := ⟨_, List.getElem?_eq_getElem (show 0 < Pa96.length by omega)⟩
      obtain ⟨b141, o142, lt143, hr144, hix145⟩ := (hsP106.below b123).at hy140
      obtain ⟨y146, hy147⟩ : ∃ y146, Pa96[j118]? = some y146 := ⟨_, List.getElem?_eq_getElem (show j118 < Pa96.length by omega)⟩
      obtain ⟨b148, o149, lt150, hr151, hix152⟩ := (hsP106.below b123).at hy147
      have hA153 : St 175 [(0, (.slice ao code.length cap)), (2, (.slice ao2 rds.length cap2)), (8, ev90), (9, pa91), (11, (.int .i64 ((j118 : Nat) : Int)))] a134 := hA136.cut _ (fm_cons (hA136.get 0 _ rfl) (fm_cons (hA136.get 2 _ rfl) (fm_cons (hA136.get 8 _ rfl) (fm_cons (hA136.get 9 _ rfl) (fm_cons (hA136.get 11 _ rfl) fm_nil)))))
      let M154 : Nat → Option (Array Value) := fun _ => none
      have hM154 : M154 = fun _ => none := rfl
      clear_value M154
      have hM154B : ∀ k, k < w77.heap.size → M154 k = none := (fun k hk => (congrFun hM154 k))
      refine drawn (S := SM M154) (tabL [cv (.int .i64 ((j118 : Nat) : Int)), cv (.bool true), cv (.bool true), cv pa91, cv (.pointer (some ⟨b141, o142, none⟩)), cv (.int .i64 y139), cv (.bool false), cv (.bool false), cv (.bool false), cv (.int .i64 ((j118 : Nat) : Int)), cv (.bool false), cv (.bool false), cv undef, cv undef, cv undef, cv undef, cv undef, cv undef, cv undef, cv undef, cv undef, cv undef, cv (.bool false), cv (.bool false), cv (.bool false), cv pa91, cv (.int .i64 ((j118 : Nat) : Int)), cv (.pointer (some ⟨b148, o149, none⟩)), cv (.int .i64 y146), cv (.slice ao code.length cap), cv (.int .i64 ((code.length : Nat) : Int)), cv (.bool false), cv (.bool false)]) mixedY SM.refl SM.trans SM.drew hA153 (by kernel_rfl) ?_ ?_
      ·skip
       refine each_cons (fun x y hS hT hk => d_move (wn rfl) (hT.ev rfl) ⟨SM.refl _, rfl⟩) ?_
       refine each_cons (fun x y hS hT hk => d_bin (wn rfl) (hk 0 rfl) (hT.ev rfl) (b_eq _ _ ((j118 : Nat) : Int) 0 true _ hb137) ⟨SM.refl _, rfl⟩) ?_
       refine each_cons (fun x y hS hT hk => d_move (wn rfl) (hk 1 rfl) ⟨SM.refl _, rfl⟩) ?_
       refine each_cons (fun x y hS hT hk => d_move (wy rfl rfl (hk 2 rfl)) (hT.ev rfl) ⟨SM.refl _, rfl⟩) ?_
       refine each_cons (fun x y hS hT hk => d_indexAt (j := 0) (wy rfl rfl (hk 2 rfl)) (hk 3 rfl) (hT.ev rfl) slc30 hix145 (get_lt hy140) ⟨SM.refl _, rfl⟩) ?_
       refine each_cons (fun x y hS hT hk => d_load (v := (.int .i64 y139)) (wy rfl rfl (hk 2 rfl)) (hk 4 rfl) one3 ((range_sm (w := w121.drew) hr144 hS (Nat.lt_of_lt_of_le lt143 b123.size) (hM154B _ lt143)) 0 _ rfl) ⟨SM.refl _, rfl⟩) ?_
       refine each_cons (fun x y hS hT hk => d_bin (wy rfl rfl (hk 2 rfl)) (hk 5 rfl) (hT.ev rfl) (b_ne _ _ y139 0 false _ (notof (beq_iff_eq.2 (gpz _ hy140)))) ⟨SM.refl _, rfl⟩) ?_
       refine each_cons (fun x y hS hT hk => d_pickT (wn rfl) (hk 2 rfl) (hk 6 rfl) ⟨SM.refl _, rfl⟩) ?_
       refine each_cons (fun x y hS hT hk => d_move (wn rfl) (hk 7 rfl) ⟨SM.refl _, rfl⟩) ?_
       refine each_cons (fun x y hS hT hk => d_move (wy rfl rfl (hk 8 rfl)) (hT.ev rfl) ⟨SM.refl _, rfl⟩) ?_
       refine each_cons (fun x y hS hT hk => d_bin (wy rfl rfl (hk 8 rfl)) (hk 9 rfl) (hT.ev rfl) (b_gt _ _ ((j118 : Nat) : Int) 0 false _ (decide_eq_false (by omega))) ⟨SM.refl _, rfl⟩) ?_
       refine each_cons (fun x y hS hT hk => d_move (wy rfl rfl (hk 8 rfl)) (hk 10 rfl) ⟨SM.refl _, rfl⟩) ?_
       refine each_cons (fun x y hS hT hk => does_not (wno rfl rfl (.inl (hk 11 rfl))) ⟨SM.refl _, rfl⟩) ?_
       refine each_cons (fun x y hS hT hk => does_not (wno rfl rfl (.inl (hk 11 rfl))) ⟨SM.refl _, rfl⟩) ?_
       refine each_cons (fun x y hS hT hk => does_not (wno rfl rfl (.inl (hk 11 rfl))) ⟨SM.refl _, rfl⟩) ?_
       refine each_cons (fun x y hS hT hk => does_not (wno rfl rfl (.inl (hk 11 rfl))) ⟨SM.refl _, rfl⟩) ?_
       refine each_cons (fun x y hS hT hk => does_not (wno rfl rfl (.inl (hk 11 rfl))) ⟨SM.refl _, rfl⟩) ?_
       refine each_cons (fun x y hS hT hk => does_not (wno rfl rfl (.inl (hk 11 rfl))) ⟨SM.refl _, rfl⟩) ?_
       refine each_cons (fun x y hS hT hk => does_not (wno rfl rfl (.inl (hk 11 rfl))) ⟨SM.refl _, rfl⟩) ?_
       refine each_cons (fun x y hS hT hk => does_not (wno rfl rfl (.inl (hk 11 rfl))) ⟨SM.refl _, rfl⟩) ?_
       refine each_cons (fun x y hS hT hk => does_not (wno rfl rfl (.inl (hk 11 rfl))) ⟨SM.refl _, rfl⟩) ?_
       refine each_cons (fun x y hS hT hk => does_not (wno rfl rfl (.inl (hk 11 rfl))) ⟨SM.refl _, rfl⟩) ?_
       refine each_cons (fun x y hS hT hk => d_pickF (wy rfl rfl (hk 8 rfl)) (hk 11 rfl) (hT.ev rfl) ⟨SM.refl _, rfl⟩) ?_
       refine each_cons (fun x y hS hT hk => d_pickF (wn rfl) (hk 8 rfl) (hk 22 rfl) ⟨SM.refl _, rfl⟩) ?_
       refine each_cons (fun x y hS hT hk => d_move (wn rfl) (hk 23 rfl) ⟨SM.refl _, rfl⟩) ?_
       refine each_cons (fun x y hS hT hk => d_move (wy rfl rfl (hk 24 rfl)) (hT.ev rfl) ⟨SM.refl _, rfl⟩) ?_
       refine each_cons (fun x y hS hT hk => d_move (wy rfl rfl (hk 24 rfl)) (hT.ev rfl) ⟨SM.refl _, rfl⟩) ?_
       refine each_cons (fun x y hS hT hk => d_indexAt (j := j118) (wy rfl rfl (hk 24 rfl)) (hk 25 rfl) (hk 26 rfl) slc30 hix152 (get_lt hy147) ⟨SM.refl _, rfl⟩) ?_
       refine each_cons (fun x y hS hT hk => d_load (v := (.int .i64 y146)) (wy rfl rfl (hk 24 rfl)) (hk 27 rfl) one3 ((range_sm (w := w121.drew) hr151 hS (Nat.lt_of_lt_of_le lt150 b123.size) (hM154B _ lt150)) 0 _ rfl) ⟨SM.refl _, rfl⟩) ?_
       refine each_cons (fun x y hS hT hk => d_move (wy rfl rfl (hk 24 rfl)) (hT.ev rfl) ⟨SM.refl _, rfl⟩) ?_
       refine each_cons (fun x y hS hT hk => d_len (n := code.length) (wy rfl rfl (hk 24 rfl)) (hk 29 rfl) slc35 hs103.form ⟨SM.refl _, rfl⟩) ?_
       refine each_cons (fun x y hS hT hk => d_bin (wy rfl rfl (hk 24 rfl)) (hk 28 rfl) (hk 30 rfl) (b_ge _ _ y146 ((code.length : Nat) : Int) false _ (decide_eq_false (by have := gpa _ _ hy147; omega))) ⟨SM.refl _, rfl⟩) ?_
       refine each_cons (fun x y hS hT hk => d_pickF (wn rfl) (hk 24 rfl) (hk 31 rfl) ⟨SM.refl _, rfl⟩) ?_
       exact each_nil
      intro f155 a156 w157 hS158 hC159 hA160
      have hA161 : St 175 [(0, (.slice ao code.length cap)), (2, (.slice ao2 rds.length cap2)), (8, ev90), (9, pa91), (11, (.int .i64 ((j118 : Nat) : Int))), (86, (.bool false))] a156 := hA160.cut _ (fm_cons (hA160.get 0 _ rfl) (fm_cons (hA160.get 2 _ rfl) (fm_cons (hA160.get 8 _ rfl) (fm_cons (hA160.get 9 _ rfl) (fm_cons (hA160.get 11 _ rfl) (fm_cons ((hA160.get 86 _ rfl).trans (hC159 32 (Nat.le_of_ble_eq_true rfl))) fm_nil))))))
      have b162 := hS158.below b123 b123.size hM154B
      have hr163 := range_sm hr144 hS158 (Nat.lt_of_lt_of_le lt143 b123.size) (hM154B _ lt143)
      have hr164 := range_sm hr151 hS158 (Nat.lt_of_lt_of_le lt150 b123.size) (hM154B _ lt150)
      refine t_norm ?_
      refine c_false hA161 rfl ?_
      refine wp_skip ?_
      refine i_norm ?_
      refine t_norm ?_
      refine wp_region_lit ?_
      refine q_step hA161 rfl (d_move (wn rfl) (hA161.ev rfl) ?_)
      intro a165 hA166
      refine q_step hA166 rfl (d_bin (wn rfl) (hA166.ev rfl) (hA166.ev rfl) (b_add _ _ ((j118 : Nat) : Int) 1 _ (by omega) (by omega)) ?_)
      intro a167 hA168
      refine q_step hA168 rfl (d_assign (wn rfl) (hA168.ev rfl) ?_)
      intro a169 hA170
      refine q_end ?_
      have hA171 : St 175 [(0, (.slice ao code.length cap)), (2, (.slice ao2 rds.length cap2)), (8, ev90), (9, pa91), (11, (.int .i64 (((j118 : Nat) : Int) + 1)))] a169 := hA170.cut _ (fm_cons (hA170.get 0 _ rfl) (fm_cons (hA170.get 2 _ rfl) (fm_cons (hA170.get 8 _ rfl) (fm_cons (hA170.get 9 _ rfl) (fm_cons (hA170.get 11 _ rfl) fm_nil)))))
      refine t_norm ?_
      exact ⟨Pa96.length - (j118 + 1), (by rw [hm124]; omega), j118 + 1, rfl, (by omega), hA171.cut _ (fm_cons (hA171.get 0 _ rfl) (fm_cons (hA171.get 2 _ rfl) (fm_cons (hA171.get 8 _ rfl) (fm_cons (hA171.get 9 _ rfl) (fm_cons ((hA171.get 11 _ rfl).trans (congrArg (Value.int .i64) (by omega))) fm_nil))))), b162⟩
     ·skip
      have hq172 := ne_of_beq hb137
      obtain ⟨y173, hy174⟩ : ∃ y173, Pa96[j118]? = some y173 := ⟨_, List.getElem?_eq_getElem (show j118 < Pa96.length by omega)⟩
      obtain ⟨b175, o176, lt177, hr178, hix179⟩ := (hsP106.below b123).at hy174
      obtain ⟨y180, hy181⟩ : ∃ y180, Pa96[j118 - 1]? = some y180 := ⟨_, List.getElem?_eq_getElem (show j118 - 1 < Pa96.length by omega)⟩
      obtain ⟨b182, o183, lt184, hr185, hix186⟩ := (hsP106.below b123).at hy181
      have hA187 : St 175 [(0, (.slice ao code.length cap)), (2, (.slice ao2 rds.length cap2)), (8, ev90), (9, pa91), (11, (.int .i64 ((j118 : Nat) : Int)))] a134 := hA136.cut _ (fm_cons (hA136.get 0 _ rfl) (fm_cons (hA136.get 2 _ rfl) (fm_cons (hA136.get 8 _ rfl) (fm_cons (hA136.get 9 _ rfl) (fm_cons (hA136.get 11 _ rfl) fm_nil)))))
      let M188 : Nat → Option (Array Value) := fun _ => none
      have hM188 : M188 = fun _ => none := rfl
      clear_value M188
      have hM188B : ∀ k, k < w77.heap.size → M188 k = none := (fun k hk => (congrFun hM188 k))
      refine drawn (S := SM M188) (tabL [cv (.int .i64 ((j118 : Nat) : Int)), cv (.bool false), cv (.bool false), cv undef, cv undef, cv undef, cv undef, cv (.bool false), cv (.bool false), cv (.int .i64 ((j118 : Nat) : Int)), cv (.bool true), cv (.bool true), cv pa91, cv (.int .i64 ((j118 : Nat) : Int)), cv (.pointer (some ⟨b175, o176, none⟩)), cv (.int .i64 y173), cv pa91, cv (.int .i64 ((j118 : Nat) : Int)), cv (.int .i64 ((j118 - 1 : Nat) : Int)), cv (.pointer (some ⟨b182, o183, none⟩)), cv (.int .i64 y180), cv (.bool false), cv (.bool false), cv (.bool false), cv (.bool false), cv pa91, cv (.int .i64 ((j118 : Nat) : Int)), cv (.pointer (some ⟨b175, o176, none⟩)), cv (.int .i64 y173), cv (.slice ao code.length cap), cv (.int .i64 ((code.length : Nat) : Int)), cv (.bool false), cv (.bool false)]) mixedY SM.refl SM.trans SM.drew hA187 (by kernel_rfl) ?_ ?_
      ·skip
       refine each_cons (fun x y hS hT hk => d_move (wn rfl) (hT.ev rfl) ⟨SM.refl _, rfl⟩) ?_
       refine each_cons (fun x y hS hT hk => d_bin (wn rfl) (hk 0 rfl) (hT.ev rfl) (b_eq _ _ ((j118 : Nat) : Int) 0 false _ hb137) ⟨SM.refl _, rfl⟩) ?_
       refine each_cons (fun x y hS hT hk => d_move (wn rfl) (hk 1 rfl) ⟨SM.refl _, rfl⟩) ?_
       refine each_cons (fun x y hS hT hk => does_not (wno rfl rfl (.inl (hk 2 rfl))) ⟨SM.refl _, rfl⟩) ?_
       refine each_cons (fun x y hS hT hk => does_not (wno rfl rfl (.inl (hk 2 rfl))) ⟨SM.refl _, rfl⟩) ?_
       refine each_cons (fun x y hS hT hk => does_not (wno rfl rfl (.inl (hk 2 rfl))) ⟨SM.refl _, rfl⟩) ?_
       refine each_cons (fun x y hS hT hk => does_not (wno rfl rfl (.inl (hk 2 rfl))) ⟨SM.refl _, rfl⟩) ?_
       refine each_cons (fun x y hS hT hk => d_pickF (wn rfl) (hk 2 rfl) (hT.ev rfl) ⟨SM.refl _, rfl⟩) ?_
       refine each_cons (fun x y hS hT hk => d_move (wn rfl) (hk 7 rfl) ⟨SM.refl _, rfl⟩) ?_
       refine each_cons (fun x y hS hT hk => d_move (wy rfl rfl (hk 8 rfl)) (hT.ev rfl) ⟨SM.refl _, rfl⟩) ?_
       refine each_cons (fun x y hS hT hk => d_bin (wy rfl rfl (hk 8 rfl)) (hk 9 rfl) (hT.ev rfl) (b_gt _ _ ((j118 : Nat) : Int) 0 true _ (decide_eq_true (by omega))) ⟨SM.refl _, rfl⟩) ?_
       refine each_cons (fun x y hS hT hk => d_move (wy rfl rfl (hk 8 rfl)) (hk 10 rfl) ⟨SM.refl _, rfl⟩) ?_
       refine each_cons (fun x y hS hT hk => d_move (wy rfl rfl (hk 11 rfl)) (hT.ev rfl) ⟨SM.refl _, rfl⟩) ?_
       refine each_cons (fun x y hS hT hk => d_move (wy rfl rfl (hk 11 rfl)) (hT.ev rfl) ⟨SM.refl _, rfl⟩) ?_
       refine each_cons (fun x y hS hT hk => d_indexAt (j := j118) (wy rfl rfl (hk 11 rfl)) (hk 12 rfl) (hk 13 rfl) slc30 hix179 (get_lt hy174) ⟨SM.refl _, rfl⟩) ?_
       refine each_cons (fun x y hS hT hk => d_load (v := (.int .i64 y173)) (wy rfl rfl (hk 11 rfl)) (hk 14 rfl) one3 ((range_sm (w := w121.drew) hr178 hS (Nat.lt_of_lt_of_le lt177 b123.size) (hM188B _ lt177)) 0 _ rfl) ⟨SM.refl _, rfl⟩) ?_
       refine each_cons (fun x y hS hT hk => d_move (wy rfl rfl (hk 11 rfl)) (hT.ev rfl) ⟨SM.refl _, rfl⟩) ?_
       refine each_cons (fun x y hS hT hk => d_move (wy rfl rfl (hk 11 rfl)) (hT.ev rfl) ⟨SM.refl _, rfl⟩) ?_
       refine each_cons (fun x y hS hT hk => d_bin (wy rfl rfl (hk 11 rfl)) (hk 17 rfl) (hT.ev rfl) (b_subn _ _ j118 _ _ (by omega) (by omega)) ⟨SM.refl _, rfl⟩) ?_
       refine each_cons (fun x y hS hT hk => d_indexAt (j := j118 - 1) (wy rfl rfl (hk 11 rfl)) (hk 16 rfl) (hk 18 rfl) slc30 hix186 (get_lt hy181) ⟨SM.refl _, rfl⟩) ?_
       refine each_cons (fun x y hS hT hk => d_load (v := (.int .i64 y180)) (wy rfl rfl (hk 11 rfl)) (hk 19 rfl) one3 ((range_sm (w := w121.drew) hr185 hS (Nat.lt_of_lt_of_le lt184 b123.size) (hM188B _ lt184)) 0 _ rfl) ⟨SM.refl _, rfl⟩) ?_
       refine each_cons (fun x y hS hT hk => d_bin (wy rfl rfl (hk 11 rfl)) (hk 15 rfl) (hk 20 rfl) (b_le _ _ y173 y180 false _ (decide_eq_false (by have := gpr (j118 - 1) _ _ hy181 (by rw [show j118 - 1 + 1 = j118 by omega]; exact hy174); omega))) ⟨SM.refl _, rfl⟩) ?_
       refine each_cons (fun x y hS hT hk => d_pickT (wy rfl rfl (hk 8 rfl)) (hk 11 rfl) (hk 21 rfl) ⟨SM.refl _, rfl⟩) ?_
       refine each_cons (fun x y hS hT hk => d_pickF (wn rfl) (hk 8 rfl) (hk 22 rfl) ⟨SM.refl _, rfl⟩) ?_
       refine each_cons (fun x y hS hT hk => d_move (wn rfl) (hk 23 rfl) ⟨SM.refl _, rfl⟩) ?_
       refine each_cons (fun x y hS hT hk => d_move (wy rfl rfl (hk 24 rfl)) (hT.ev rfl) ⟨SM.refl _, rfl⟩) ?_
       refine each_cons (fun x y hS hT hk => d_move (wy rfl rfl (hk 24 rfl)) (hT.ev rfl) ⟨SM.refl _, rfl⟩) ?_
       refine each_cons (fun x y hS hT hk => d_indexAt (j := j118) (wy rfl rfl (hk 24 rfl)) (hk 25 rfl) (hk 26 rfl) slc30 hix179 (get_lt hy174) ⟨SM.refl _, rfl⟩) ?_
       refine each_cons (fun x y hS hT hk => d_load (v := (.int .i64 y173)) (wy rfl rfl (hk 24 rfl)) (hk 27 rfl) one3 ((range_sm (w := w121.drew) hr178 hS (Nat.lt_of_lt_of_le lt177 b123.size) (hM188B _ lt177)) 0 _ rfl) ⟨SM.refl _, rfl⟩) ?_
       refine each_cons (fun x y hS hT hk => d_move (wy rfl rfl (hk 24 rfl)) (hT.ev rfl) ⟨SM.refl _, rfl⟩) ?_
       refine each_cons (fun x y hS hT hk => d_len (n := code.length) (wy rfl rfl (hk 24 rfl)) (hk 29 rfl) slc35 hs103.form ⟨SM.refl _, rfl⟩) ?_
       refine each_cons (fun x y hS hT hk => d_bin (wy rfl rfl (hk 24 rfl)) (hk 28 rfl) (hk 30 rfl) (b_ge _ _ y173 ((code.length : Nat) : Int) false _ (decide_eq_false (by have := gpa _ _ hy174; omega))) ⟨SM.refl _, rfl⟩) ?_
       refine each_cons (fun x y hS hT hk => d_pickF (wn rfl) (hk 24 rfl) (hk 31 rfl) ⟨SM.refl _, rfl⟩) ?_
       exact each_nil
      intro f189 a190 w191 hS192 hC193 hA194
      have hA195 : St 175 [(0, (.slice ao code.length cap)), (2, (.slice ao2 rds.length cap2)), (8, ev90), (9, pa91), (11, (.int .i64 ((j118 : Nat) : Int))), (86, (.bool false))] a190 := hA194.cut _ (fm_cons (hA194.get 0 _ rfl) (fm_cons (hA194.get 2 _ rfl) (fm_cons (hA194.get 8 _ rfl) (fm_cons (hA194.get 9 _ rfl) (fm_cons (hA194.get 11 _ rfl) (fm_cons ((hA194.get 86 _ rfl).trans (hC193 32 (Nat.le_of_ble_eq_true rfl))) fm_nil))))))
      have b196 := hS192.below b123 b123.size hM188B
      have hr197 := range_sm hr178 hS192 (Nat.lt_of_lt_of_le lt177 b123.size) (hM188B _ lt177)
      have hr198 := range_sm hr185 hS192 (Nat.lt_of_lt_of_le lt184 b123.size) (hM188B _ lt184)
      refine t_norm ?_
      refine c_false hA195 rfl ?_
      refine wp_skip ?_
      refine i_norm ?_
      refine t_norm ?_
      refine wp_region_lit ?_
      refine q_step hA195 rfl (d_move (wn rfl) (hA195.ev rfl) ?_)
      intro a199 hA200
      refine q_step hA200 rfl (d_bin (wn rfl) (hA200.ev rfl) (hA200.ev rfl) (b_add _ _ ((j118 : Nat) : Int) 1 _ (by omega) (by omega)) ?_)
      intro a201 hA202
      refine q_step hA202 rfl (d_assign (wn rfl) (hA202.ev rfl) ?_)
      intro a203 hA204
      refine q_end ?_
      have hA205 : St 175 [(0, (.slice ao code.length cap)), (2, (.slice ao2 rds.length cap2)), (8, ev90), (9, pa91), (11, (.int .i64 (((j118 : Nat) : Int) + 1)))] a203 := hA204.cut _ (fm_cons (hA204.get 0 _ rfl) (fm_cons (hA204.get 2 _ rfl) (fm_cons (hA204.get 8 _ rfl) (fm_cons (hA204.get 9 _ rfl) (fm_cons (hA204.get 11 _ rfl) fm_nil)))))
      refine t_norm ?_
      exact ⟨Pa96.length - (j118 + 1), (by rw [hm124]; omega), j118 + 1, rfl, (by omega), hA205.cut _ (fm_cons (hA205.get 0 _ rfl) (fm_cons (hA205.get 2 _ rfl) (fm_cons (hA205.get 8 _ rfl) (fm_cons (hA205.get 9 _ rfl) (fm_cons ((hA205.get 11 _ rfl).trans (congrArg (Value.int .i64) (by omega))) fm_nil))))), b196⟩
    ·skip
     have hq206 := of_decide_eq_false hb132
     refine q_step hA131 rfl (d_bin (wn rfl) (hA131.ev rfl) (hA131.ev rfl) (b_lt _ _ ((j118 : Nat) : Int) ((Pa96.length : Nat) : Int) false _ hb132) ?_)
     intro a207 hA208
     refine q_end ?_
     have hA209 : St 175 [(0, (.slice ao code.length cap)), (2, (.slice ao2 rds.length cap2)), (8, ev90), (9, pa91), (11, (.int .i64 ((j118 : Nat) : Int))), (51, (.bool false))] a207 := hA208.cut _ (fm_cons (hA208.get 0 _ rfl) (fm_cons (hA208.get 2 _ rfl) (fm_cons (hA208.get 8 _ rfl) (fm_cons (hA208.get 9 _ rfl) (fm_cons (hA208.get 11 _ rfl) (fm_cons (hA208.get 51 _ rfl) fm_nil))))))
     refine t_norm ?_
     refine c_false hA209 rfl ?_
     refine wp_exit ?_
     refine t_exit ?_
     refine t_exit ?_
     refine i_here ?_
     refine t_norm ?_
     refine wp_seq ?_
     refine wp_region_lit ?_
     refine q_step hA209 rfl (d_assign (wn rfl) (hA209.ev rfl) ?_)
     intro a210 hA211
     refine q_end ?_
     have hA212 : St 175 [(0, (.slice ao code.length cap)), (2, (.slice ao2 rds.length cap2)), (8, ev90), (9, pa91), (12, (.int .i64 0))] a210 := hA211.cut _ (fm_cons (hA211.get 0 _ rfl) (fm_cons (hA211.get 2 _ rfl) (fm_cons (hA211.get 8 _ rfl) (fm_cons (hA211.get 9 _ rfl) (fm_cons (hA211.get 12 _ rfl) fm_nil)))))
     refine t_norm ?_
     refine wp_seq ?_
     refine wp_seq ?_
     refine wp_region_lit ?_
     refine q_step hA212 rfl (d_assign (wn rfl) (hA212.ev rfl) ?_)
     intro a213 hA214
     refine q_end ?_
     have hA215 : St 175 [(0, (.slice ao code.length cap)), (2, (.slice ao2 rds.length cap2)), (8, ev90), (9, pa91), (12, (.int .i64 0)), (13, (.int .i64 0))] a213 := hA214.cut _ (fm_cons (hA214.get 0 _ rfl) (fm_cons (hA214.get 2 _ rfl) (fm_cons (hA214.get 8 _ rfl) (fm_cons (hA214.get 9 _ rfl) (fm_cons (hA214.get 12 _ rfl) (fm_cons (hA214.get 13 _ rfl) fm_nil))))))
     refine t_norm ?_
     refine wp_block ?_
     refine loop_by (fun m217 a218 w219 => ∃ j216 : Nat, m217 = E94.length - j216 ∧ (j216 ≤ E94.length) ∧ St 175 [(0, (.slice ao code.length cap)), (2, (.slice ao2 rds.length cap2)), (8, ev90), (9, pa91), (12, (.int .i64 ((usedN E94 j216 : Nat) : Int))), (13, (.int .i64 ((j216 : Nat) : Int)))] a218 ∧ Below w77.heap.size w77 w219) (E94.length - 0) ⟨0, rfl, (by omega), hA215.cut _ (fm_cons (hA215.get 0 _ rfl) (fm_cons (hA215.get 2 _ rfl) (fm_cons (hA215.get 8 _ rfl) (fm_cons (hA215.get 9 _ rfl) (fm_cons ((hA215.get 12 _ rfl).trans (congrArg (Value.int .i64) (by simp [usedN]))) (fm_cons ((hA215.get 13 _ rfl).trans (congrArg (Value.int .i64) (by simp [usedN]))) fm_nil)))))), b123⟩ ?_
     rintro m217 a218 w219 ⟨j216, hm222, hc223, hA220, b221⟩
     have hus := gus j216
     refine wp_seq ?_
     refine wp_seq ?_
     refine wp_region_lit ?_
     refine q_step hA220 rfl (d_move (wn rfl) (hA220.ev rfl) ?_)
     intro a224 hA225
     refine q_step hA225 rfl (d_move (wn rfl) (hA225.ev rfl) ?_)
     intro a226 hA227
     refine q_step hA227 rfl (d_len (n := E94.length) (wn rfl) (hA227.ev rfl) slc44 hsE105.form ?_)
     intro a228 hA229
     rcases Bool.eq_false_or_eq_true (decide (((j216 : Nat) : Int) < ((E94.length : Nat) : Int))) with hb230 | hb230
     ·skip
      have hq231 := of_decide_eq_true hb230
      refine q_step hA229 rfl (d_bin (wn rfl) (hA229.ev rfl) (hA229.ev rfl) (b_lt _ _ ((j216 : Nat) : Int) ((E94.length : Nat) : Int) true _ hb230) ?_)
      intro a232 hA233
      refine q_end ?_
      have hA234 : St 175 [(0, (.slice ao code.length cap)), (2, (.slice ao2 rds.length cap2)), (8, ev90), (9, pa91), (12, (.int .i64 ((usedN E94 j216 : Nat) : Int))), (13, (.int .i64 ((j216 : Nat) : Int))), (90, (.bool true))] a232 := hA233.cut _ (fm_cons (hA233.get 0 _ rfl) (fm_cons (hA233.get 2 _ rfl) (fm_cons (hA233.get 8 _ rfl) (fm_cons (hA233.get 9 _ rfl) (fm_cons (hA233.get 12 _ rfl) (fm_cons (hA233.get 13 _ rfl) (fm_cons (hA233.get 90 _ rfl) fm_nil)))))))
      refine t_norm ?_
      refine c_true hA234 rfl ?_
      refine wp_skip ?_
      refine t_norm ?_
      refine wp_seq ?_
      refine wp_block ?_
      refine wp_seq ?_
      refine wp_region_lit ?_
      refine q_step hA234 rfl (d_move (wn rfl) (hA234.ev rfl) ?_)
      intro a235 hA236
      refine q_step hA236 rfl (d_move (wn rfl) (hA236.ev rfl) ?_)
      intro a237 hA238
      obtain ⟨y239, hy240⟩ : ∃ y239, E94[j216]? = some y239 := ⟨_, List.getElem?_eq_getElem (show j216 < E94.length by omega)⟩
      obtain ⟨b241, o242, lt243, hr244, hix245⟩ := (hsE105.below b221).at hy240
      obtain ⟨k246, a247, c248, th249, loc250, mask251, old252, nw253, prd254, suc255, aq256, wk257, rl258, he259, hpk260, hca261⟩ := gef _ _ hy240
      subst he259
      have hlk246 := get_lt hpk260
      have hla247 := get_lt hca261
      refine q_step hA238 rfl (d_indexAt (j := j216) (wn rfl) (hA238.ev rfl) (hA238.ev rfl) slc44 hix245 (get_lt hy240) ?_)
      intro a262 hA263
      refine q_step hA263 rfl (d_loadMid (cs := (evC ⟨th249, ((k246 : Nat) : Int), ((a247 : Nat) : Int), c248.op, loc250, mask251, rdB c248, wrB c248, old252, nw253, aq256, wk257, rl258, prd254, suc255⟩)) (wn rfl) (hA263.ev rfl) row52 hr244 ?_)
      intro a264 hA265
      refine q_step hA265 rfl (d_alloc (wn rfl) zero52 ?_)
      intro g266 w267 eg268 hG269 (m270 : Blk w267 g266 #[.int .i64 0, .int .i64 0, .int .i64 0, .int .i64 0, .int .i64 0, .int .i64 0, .bool false, .bool false, .int .i64 0, .int .i64 0, .bool false, .bool false, .bool false, .int .i64 0, .int .i64 0] 52)
      have ge271 : w77.heap.size ≤ g266 := eg268 ▸ b221.size
      have hr272 := range_below hr244 hG269 (Nat.lt_of_lt_of_le lt243 b221.size)
      have b273 := below_grow b221 hG269 b221.size
      intro a274 hA275
      refine q_step hA275 rfl (d_storeRow (wn rfl) (hA275.ev rfl) (hA275.ev rfl) row52 m270 rfl rfl ?_)
      intro w276 hU277 (m278 : Blk w276 g266 (evC ⟨th249, ((k246 : Nat) : Int), ((a247 : Nat) : Int), c248.op, loc250, mask251, rdB c248, wrB c248, old252, nw253, aq256, wk257, rl258, prd254, suc255⟩) 52)
      have hr279 := range_upd hr272 hU277 (Nat.ne_of_lt (Nat.lt_of_lt_of_le lt243 ge271))
      have b280 := hU277.below b273 ge271
      intro a281 hA282
      refine q_end ?_
      have hA283 : St 175 [(0, (.slice ao code.length cap)), (2, (.slice ao2 rds.length cap2)), (8, ev90), (9, pa91), (12, (.int .i64 ((usedN E94 j216 : Nat) : Int))), (13, (.int .i64 ((j216 : Nat) : Int))), (14, (.pointer (some ⟨g266, 0, none⟩)))] a281 := hA282.cut _ (fm_cons (hA282.get 0 _ rfl) (fm_cons (hA282.get 2 _ rfl) (fm_cons (hA282.get 8 _ rfl) (fm_cons (hA282.get 9 _ rfl) (fm_cons (hA282.get 12 _ rfl) (fm_cons (hA282.get 13 _ rfl) (fm_cons (hA282.get 14 _ rfl) fm_nil)))))))
      refine t_norm ?_
      refine wp_seq ?_
      refine wp_seq ?_
      rcases Bool.eq_false_or_eq_true (decide (((j216 : Nat) : Int) > 0)) with hb284 | hb284
      ·skip
       have hq285 := of_decide_eq_true hb284
       obtain ⟨y286, hy287⟩ : ∃ y286, E94[j216 - 1]? = some y286 := ⟨_, List.getElem?_eq_getElem (show j216 - 1 < E94.length by omega)⟩
       obtain ⟨b288, o289, lt290, hr291, hix292⟩ := (hsE105.below b280).at hy287
       obtain ⟨k293, a294, c295, th296, loc297, mask298, old299, nw300, prd301, suc302, aq303, wk304, rl305, he306, hpk307, hca308⟩ := gef _ _ hy287
       subst he306
       have hlk293 := get_lt hpk307
       have hla294 := get_lt hca308
       obtain ⟨b309, o310, lt311, hr312, hix313⟩ := (hsP106.below b280).at hpk260
       obtain ⟨b314, o315, lt316, hr317, hix318⟩ := (hs103.below b280).at hca261
       rcases Bool.eq_false_or_eq_true (rdB c248) with hb319 | hb319
       ·skip
        rcases Bool.eq_false_or_eq_true (wrB c248) with hb321 | hb321
        ·skip
         have hA323 : St 175 [(0, (.slice ao code.length cap)), (2, (.slice ao2 rds.length cap2)), (8, ev90), (9, pa91), (12, (.int .i64 ((usedN E94 j216 : Nat) : Int))), (13, (.int .i64 ((j216 : Nat) : Int))), (14, (.pointer (some ⟨g266, 0, none⟩)))] a281 := hA283.cut _ (fm_cons (hA283.get 0 _ rfl) (fm_cons (hA283.get 2 _ rfl) (fm_cons (hA283.get 8 _ rfl) (fm_cons (hA283.get 9 _ rfl) (fm_cons (hA283.get 12 _ rfl) (fm_cons (hA283.get 13 _ rfl) (fm_cons (hA283.get 14 _ rfl) fm_nil)))))))
         let M324 : Nat → Option (Array Value) := fun _ => none
         have hM324 : M324 = fun _ => none := rfl
         clear_value M324
         have hM325 : M324 g266 = none := (congrFun hM324 g266)
         have hM324B : ∀ k, k < w77.heap.size → M324 k = none := (fun k hk => (congrFun hM324 k))
         refine drawn (S := SM M324) (tabL [cv (.int .i64 ((j216 : Nat) : Int)), cv (.bool true), cv (.bool true), cv (.pointer (some ⟨g266, 1, none⟩)), cv (.int .i64 ((k246 : Nat) : Int)), cv ev90, cv (.int .i64 ((j216 : Nat) : Int)), cv (.int .i64 ((j216 - 1 : Nat) : Int)), cv (.pointer (some ⟨b288, o289, none⟩)), cv (.pointer (some ⟨b288, o289 + 1, none⟩)), cv (.int .i64 ((k293 : Nat) : Int)), cv (.bool false), cv (.bool false), cv (.bool false), cv (.pointer (some ⟨g266, 1, none⟩)), cv (.int .i64 ((k246 : Nat) : Int)), cv pa91, cv (.int .i64 ((Pa96.length : Nat) : Int)), cv (.bool false), cv (.bool false), cv (.bool false), cv pa91, cv (.pointer (some ⟨g266, 1, none⟩)), cv (.int .i64 ((k246 : Nat) : Int)), cv (.pointer (some ⟨b309, o310, none⟩)), cv (.int .i64 ((a247 : Nat) : Int)), cv (.pointer (some ⟨g266, 2, none⟩)), cv (.int .i64 ((a247 : Nat) : Int)), cv (.bool false), cv (.bool false), cv (.bool false), cv (.slice ao code.length cap), cv (.pointer (some ⟨g266, 2, none⟩)), cv (.int .i64 ((a247 : Nat) : Int)), cv (.pointer (some ⟨b314, o315, none⟩)), cv (.pointer (some ⟨b314, o315, none⟩)), cv (.int .i64 c248.op), cv (.pointer (some ⟨g266, 3, none⟩)), cv (.int .i64 c248.op), cv (.bool false), cv (.bool false), cv (.bool false), cv (.pointer (some ⟨g266, 6, none⟩)), cv (.bool true), cv (.slice ao code.length cap), cv (.pointer (some ⟨g266, 2, none⟩)), cv (.int .i64 ((a247 : Nat) : Int)), cv (.pointer (some ⟨b314, o315, none⟩)), cv (.agg (insC c248)), cv (.bool true), cv (.bool false), cv (.bool false), cv (.bool false), cv (.pointer (some ⟨g266, 7, none⟩)), cv (.bool true), cv (.slice ao code.length cap), cv (.pointer (some ⟨g266, 2, none⟩)), cv (.int .i64 ((a247 : Nat) : Int)), cv (.pointer (some ⟨b314, o315, none⟩)), cv (.agg (insC c248)), cv (.bool true), cv (.bool false), cv (.bool false)]) mixedY SM.refl SM.trans SM.drew hA323 (by kernel_rfl) ?_ ?_
         ·skip
          refine each_cons (fun x y hS hT hk => d_move (wn rfl) (hT.ev rfl) ⟨SM.refl _, rfl⟩) ?_
          refine each_cons (fun x y hS hT hk => d_bin (wn rfl) (hk 0 rfl) (hT.ev rfl) (b_gt _ _ ((j216 : Nat) : Int) 0 true _ hb284) ⟨SM.refl _, rfl⟩) ?_
          refine each_cons (fun x y hS hT hk => d_move (wn rfl) (hk 1 rfl) ⟨SM.refl _, rfl⟩) ?_
          refine each_cons (fun x y hS hT hk => d_fieldAddr (wy rfl rfl (hk 2 rfl)) (hT.ev rfl) fo52_1 ⟨SM.refl _, rfl⟩) ?_
          refine each_cons (fun x y hS hT hk => d_load (v := (.int .i64 ((k246 : Nat) : Int))) (wy rfl rfl (hk 2 rfl)) (hk 3 rfl) one3 ((Blk.sm (w := w276.drew) m278 hS hM325).cell rfl) ⟨SM.refl _, rfl⟩) ?_
          refine each_cons (fun x y hS hT hk => d_move (wy rfl rfl (hk 2 rfl)) (hT.ev rfl) ⟨SM.refl _, rfl⟩) ?_
          refine each_cons (fun x y hS hT hk => d_move (wy rfl rfl (hk 2 rfl)) (hT.ev rfl) ⟨SM.refl _, rfl⟩) ?_
          refine each_cons (fun x y hS hT hk => d_bin (wy rfl rfl (hk 2 rfl)) (hk 6 rfl) (hT.ev rfl) (b_subn _ _ j216 _ _ (by omega) (by omega)) ⟨SM.refl _, rfl⟩) ?_
          refine each_cons (fun x y hS hT hk => d_indexAt (j := j216 - 1) (wy rfl rfl (hk 2 rfl)) (hk 5 rfl) (hk 7 rfl) slc44 hix292 (get_lt hy287) ⟨SM.refl _, rfl⟩) ?_
          refine each_cons (fun x y hS hT hk => d_fieldAddr (wy rfl rfl (hk 2 rfl)) (hk 8 rfl) fo52_1 ⟨SM.refl _, rfl⟩) ?_
          refine each_cons (fun x y hS hT hk => d_load (v := (.int .i64 ((k293 : Nat) : Int))) (wy rfl rfl (hk 2 rfl)) (hk 9 rfl) one3 ((range_sm (w := w276.drew) hr291 hS (Nat.lt_of_lt_of_le lt290 b280.size) (hM324B _ lt290)) 1 _ rfl) ⟨SM.refl _, rfl⟩) ?_
          refine each_cons (fun x y hS hT hk => d_bin (wy rfl rfl (hk 2 rfl)) (hk 4 rfl) (hk 10 rfl) (b_le _ _ ((k246 : Nat) : Int) ((k293 : Nat) : Int) false _ (decide_eq_false (by have := ger (j216 - 1) _ _ hy287 (by rw [show j216 - 1 + 1 = j216 by omega]; exact hy240); simp only at this; omega))) ⟨SM.refl _, rfl⟩) ?_
          refine each_cons (fun x y hS hT hk => d_pickT (wn rfl) (hk 2 rfl) (hk 11 rfl) ⟨SM.refl _, rfl⟩) ?_
          refine each_cons (fun x y hS hT hk => d_move (wn rfl) (hk 12 rfl) ⟨SM.refl _, rfl⟩) ?_
          refine each_cons (fun x y hS hT hk => d_fieldAddr (wy rfl rfl (hk 13 rfl)) (hT.ev rfl) fo52_1 ⟨SM.refl _, rfl⟩) ?_
          refine each_cons (fun x y hS hT hk => d_load (v := (.int .i64 ((k246 : Nat) : Int))) (wy rfl rfl (hk 13 rfl)) (hk 14 rfl) one3 ((Blk.sm (w := w276.drew) m278 hS hM325).cell rfl) ⟨SM.refl _, rfl⟩) ?_
          refine each_cons (fun x y hS hT hk => d_move (wy rfl rfl (hk 13 rfl)) (hT.ev rfl) ⟨SM.refl _, rfl⟩) ?_
          refine each_cons (fun x y hS hT hk => d_len (n := Pa96.length) (wy rfl rfl (hk 13 rfl)) (hk 16 rfl) slc30 hsP106.form ⟨SM.refl _, rfl⟩) ?_
          refine each_cons (fun x y hS hT hk => d_bin (wy rfl rfl (hk 13 rfl)) (hk 15 rfl) (hk 17 rfl) (b_ge _ _ ((k246 : Nat) : Int) ((Pa96.length : Nat) : Int) false _ (decide_eq_false (by omega))) ⟨SM.refl _, rfl⟩) ?_
          refine each_cons (fun x y hS hT hk => d_pickF (wn rfl) (hk 13 rfl) (hk 18 rfl) ⟨SM.refl _, rfl⟩) ?_
          refine each_cons (fun x y hS hT hk => d_move (wn rfl) (hk 19 rfl) ⟨SM.refl _, rfl⟩) ?_
          refine each_cons (fun x y hS hT hk => d_move (wy rfl rfl (hk 20 rfl)) (hT.ev rfl) ⟨SM.refl _, rfl⟩) ?_
          refine each_cons (fun x y hS hT hk => d_fieldAddr (wy rfl rfl (hk 20 rfl)) (hT.ev rfl) fo52_1 ⟨SM.refl _, rfl⟩) ?_
          refine each_cons (fun x y hS hT hk => d_load (v := (.int .i64 ((k246 : Nat) : Int))) (wy rfl rfl (hk 20 rfl)) (hk 22 rfl) one3 ((Blk.sm (w := w276.drew) m278 hS hM325).cell rfl) ⟨SM.refl _, rfl⟩) ?_
          refine each_cons (fun x y hS hT hk => d_indexAt (j := k246) (wy rfl rfl (hk 20 rfl)) (hk 21 rfl) (hk 23 rfl) slc30 hix313 (get_lt hpk260) ⟨SM.refl _, rfl⟩) ?_
          refine each_cons (fun x y hS hT hk => d_load (v := (.int .i64 ((a247 : Nat) : Int))) (wy rfl rfl (hk 20 rfl)) (hk 24 rfl) one3 ((range_sm (w := w276.drew) hr312 hS (Nat.lt_of_lt_of_le lt311 b280.size) (hM324B _ lt311)) 0 _ rfl) ⟨SM.refl _, rfl⟩) ?_
          refine each_cons (fun x y hS hT hk => d_fieldAddr (wy rfl rfl (hk 20 rfl)) (hT.ev rfl) fo52_2 ⟨SM.refl _, rfl⟩) ?_
          refine each_cons (fun x y hS hT hk => d_load (v := (.int .i64 ((a247 : Nat) : Int))) (wy rfl rfl (hk 20 rfl)) (hk 26 rfl) one3 ((Blk.sm (w := w276.drew) m278 hS hM325).cell rfl) ⟨SM.refl _, rfl⟩) ?_
          refine each_cons (fun x y hS hT hk => d_bin (wy rfl rfl (hk 20 rfl)) (hk 25 rfl) (hk 27 rfl) (b_ne _ _ ((a247 : Nat) : Int) ((a247 : Nat) : Int) false _ (notof (beq_self_eq_true _))) ⟨SM.refl _, rfl⟩) ?_
          refine each_cons (fun x y hS hT hk => d_pickF (wn rfl) (hk 20 rfl) (hk 28 rfl) ⟨SM.refl _, rfl⟩) ?_
          refine each_cons (fun x y hS hT hk => d_move (wn rfl) (hk 29 rfl) ⟨SM.refl _, rfl⟩) ?_
          refine each_cons (fun x y hS hT hk => d_move (wy rfl rfl (hk 30 rfl)) (hT.ev rfl) ⟨SM.refl _, rfl⟩) ?_
          refine each_cons (fun x y hS hT hk => d_fieldAddr (wy rfl rfl (hk 30 rfl)) (hT.ev rfl) fo52_2 ⟨SM.refl _, rfl⟩) ?_
          refine each_cons (fun x y hS hT hk => d_load (v := (.int .i64 ((a247 : Nat) : Int))) (wy rfl rfl (hk 30 rfl)) (hk 32 rfl) one3 ((Blk.sm (w := w276.drew) m278 hS hM325).cell rfl) ⟨SM.refl _, rfl⟩) ?_
          refine each_cons (fun x y hS hT hk => d_indexAt (j := a247) (wy rfl rfl (hk 30 rfl)) (hk 31 rfl) (hk 33 rfl) slc35 hix318 (get_lt hca261) ⟨SM.refl _, rfl⟩) ?_
          refine each_cons (fun x y hS hT hk => d_fieldAddr (wy rfl rfl (hk 30 rfl)) (hk 34 rfl) fo23_0 ⟨SM.refl _, rfl⟩) ?_
          refine each_cons (fun x y hS hT hk => d_load (v := (.int .i64 c248.op)) (wy rfl rfl (hk 30 rfl)) (hk 35 rfl) one3 ((range_sm (w := w276.drew) hr317 hS (Nat.lt_of_lt_of_le lt316 b280.size) (hM324B _ lt316)) 0 _ rfl) ⟨SM.refl _, rfl⟩) ?_
          refine each_cons (fun x y hS hT hk => d_fieldAddr (wy rfl rfl (hk 30 rfl)) (hT.ev rfl) fo52_3 ⟨SM.refl _, rfl⟩) ?_
          refine each_cons (fun x y hS hT hk => d_load (v := (.int .i64 c248.op)) (wy rfl rfl (hk 30 rfl)) (hk 37 rfl) one3 ((Blk.sm (w := w276.drew) m278 hS hM325).cell rfl) ⟨SM.refl _, rfl⟩) ?_
          refine each_cons (fun x y hS hT hk => d_bin (wy rfl rfl (hk 30 rfl)) (hk 36 rfl) (hk 38 rfl) (b_ne _ _ c248.op c248.op false _ (notof (beq_self_eq_true _))) ⟨SM.refl _, rfl⟩) ?_
          refine each_cons (fun x y hS hT hk => d_pickF (wn rfl) (hk 30 rfl) (hk 39 rfl) ⟨SM.refl _, rfl⟩) ?_
          refine each_cons (fun x y hS hT hk => d_move (wn rfl) (hk 40 rfl) ⟨SM.refl _, rfl⟩) ?_
          refine each_cons (fun x y hS hT hk => d_fieldAddr (wy rfl rfl (hk 41 rfl)) (hT.ev rfl) fo52_5 ⟨SM.refl _, rfl⟩) ?_
          refine each_cons (fun x y hS hT hk => d_load (v := (.bool true)) (wy rfl rfl (hk 41 rfl)) (hk 42 rfl) one4 ((Blk.sm (w := w276.drew) m278 hS hM325).cell (congrArg (fun b => some (Value.bool b)) hb319)) ⟨SM.refl _, rfl⟩) ?_
          refine each_cons (fun x y hS hT hk => d_move (wy rfl rfl (hk 41 rfl)) (hT.ev rfl) ⟨SM.refl _, rfl⟩) ?_
          refine each_cons (fun x y hS hT hk => d_fieldAddr (wy rfl rfl (hk 41 rfl)) (hT.ev rfl) fo52_2 ⟨SM.refl _, rfl⟩) ?_
          refine each_cons (fun x y hS hT hk => d_load (v := (.int .i64 ((a247 : Nat) : Int))) (wy rfl rfl (hk 41 rfl)) (hk 45 rfl) one3 ((Blk.sm (w := w276.drew) m278 hS hM325).cell rfl) ⟨SM.refl _, rfl⟩) ?_
          refine each_cons (fun x y hS hT hk => d_indexAt (j := a247) (wy rfl rfl (hk 41 rfl)) (hk 44 rfl) (hk 46 rfl) slc35 hix318 (get_lt hca261) ⟨SM.refl _, rfl⟩) ?_
          refine each_cons (fun x y hS hT hk => d_loadMid (cs := (insC c248)) (wy rfl rfl (hk 41 rfl)) (hk 47 rfl) row23 (range_sm (w := w276.drew) hr317 hS (Nat.lt_of_lt_of_le lt316 b280.size) (hM324B _ lt316)) ⟨SM.refl _, rfl⟩) ?_
          refine each_cons (fun x y hS hT hk => d_call (wy rfl rfl (hk 41 rfl)) ent11 (map1 (show x.eval _ = (.agg (insC c248)) from (hk 48 rfl))) (reads_any c248 y) (fun _ _ ⟨he, hG⟩ => ⟨(.bool true), (he.trans (ret_bool hb319)), SM.grow hG, rfl⟩)) ?_
          refine each_cons (fun x y hS hT hk => d_bin (wy rfl rfl (hk 41 rfl)) (hk 43 rfl) (hk 49 rfl) (b_neb _ _ true true false _ Try.underlying4 rfl) ⟨SM.refl _, rfl⟩) ?_
          refine each_cons (fun x y hS hT hk => d_pickF (wn rfl) (hk 41 rfl) (hk 50 rfl) ⟨SM.refl _, rfl⟩) ?_
          refine each_cons (fun x y hS hT hk => d_move (wn rfl) (hk 51 rfl) ⟨SM.refl _, rfl⟩) ?_
          refine each_cons (fun x y hS hT hk => d_fieldAddr (wy rfl rfl (hk 52 rfl)) (hT.ev rfl) fo52_6 ⟨SM.refl _, rfl⟩) ?_
          refine each_cons (fun x y hS hT hk => d_load (v := (.bool true)) (wy rfl rfl (hk 52 rfl)) (hk 53 rfl) one4 ((Blk.sm (w := w276.drew) m278 hS hM325).cell (congrArg (fun b => some (Value.bool b)) hb321)) ⟨SM.refl _, rfl⟩) ?_
          refine each_cons (fun x y hS hT hk => d_move (wy rfl rfl (hk 52 rfl)) (hT.ev rfl) ⟨SM.refl _, rfl⟩) ?_
          refine each_cons (fun x y hS hT hk => d_fieldAddr (wy rfl rfl (hk 52 rfl)) (hT.ev rfl) fo52_2 ⟨SM.refl _, rfl⟩) ?_
          refine each_cons (fun x y hS hT hk => d_load (v := (.int .i64 ((a247 : Nat) : Int))) (wy rfl rfl (hk 52 rfl)) (hk 56 rfl) one3 ((Blk.sm (w := w276.drew) m278 hS hM325).cell rfl) ⟨SM.refl _, rfl⟩) ?_
          refine each_cons (fun x y hS hT hk => d_indexAt (j := a247) (wy rfl rfl (hk 52 rfl)) (hk 55 rfl) (hk 57 rfl) slc35 hix318 (get_lt hca261) ⟨SM.refl _, rfl⟩) ?_
          refine each_cons (fun x y hS hT hk => d_loadMid (cs := (insC c248)) (wy rfl rfl (hk 52 rfl)) (hk 58 rfl) row23 (range_sm (w := w276.drew) hr317 hS (Nat.lt_of_lt_of_le lt316 b280.size) (hM324B _ lt316)) ⟨SM.refl _, rfl⟩) ?_
          refine each_cons (fun x y hS hT hk => d_call (wy rfl rfl (hk 52 rfl)) ent13 (map1 (show x.eval _ = (.agg (insC c248)) from (hk 59 rfl))) (writes_any c248 y) (fun _ _ ⟨he, hG⟩ => ⟨(.bool true), (he.trans (ret_bool hb321)), SM.grow hG, rfl⟩)) ?_
          refine each_cons (fun x y hS hT hk => d_bin (wy rfl rfl (hk 52 rfl)) (hk 54 rfl) (hk 60 rfl) (b_neb _ _ true true false _ Try.underlying4 rfl) ⟨SM.refl _, rfl⟩) ?_
          refine each_cons (fun x y hS hT hk => d_pickF (wn rfl) (hk 52 rfl) (hk 61 rfl) ⟨SM.refl _, rfl⟩) ?_
          exact each_nil
         intro f326 a327 w328 hS329 hC330 hA331
         have hA332 : St 175 [(0, (.slice ao code.length cap)), (2, (.slice ao2 rds.length cap2)), (8, ev90), (9, pa91), (12, (.int .i64 ((usedN E94 j216 : Nat) : Int))), (13, (.int .i64 ((j216 : Nat) : Int))), (14, (.pointer (some ⟨g266, 0, none⟩))), (159, (.bool false))] a327 := hA331.cut _ (fm_cons (hA331.get 0 _ rfl) (fm_cons (hA331.get 2 _ rfl) (fm_cons (hA331.get 8 _ rfl) (fm_cons (hA331.get 9 _ rfl) (fm_cons (hA331.get 12 _ rfl) (fm_cons (hA331.get 13 _ rfl) (fm_cons (hA331.get 14 _ rfl) (fm_cons ((hA331.get 159 _ rfl).trans (hC330 62 (Nat.le_of_ble_eq_true rfl))) fm_nil))))))))
         have m333 := m278.sm hS329 hM325
         have b334 := hS329.below b280 b280.size hM324B
         have hr335 := range_sm hr291 hS329 (Nat.lt_of_lt_of_le lt290 b280.size) (hM324B _ lt290)
         have hr336 := range_sm hr312 hS329 (Nat.lt_of_lt_of_le lt311 b280.size) (hM324B _ lt311)
         have hr337 := range_sm hr317 hS329 (Nat.lt_of_lt_of_le lt316 b280.size) (hM324B _ lt316)
         refine t_norm ?_
         refine c_false hA332 rfl ?_
         refine wp_skip ?_
         refine t_norm ?_
         refine wp_seq ?_
         refine wp_region_lit ?_
         refine q_step hA332 rfl (d_fieldAddr (wn rfl) (hA332.ev rfl) fo52_5 ?_)
         intro a338 hA339
         refine q_step hA339 rfl (d_load (v := (.bool (rdB c248))) (wn rfl) (hA339.ev rfl) one4 (m333.cell rfl) ?_)
         intro a340 hA341
         refine q_end ?_
         have hA342 : St 175 [(0, (.slice ao code.length cap)), (2, (.slice ao2 rds.length cap2)), (8, ev90), (9, pa91), (12, (.int .i64 ((usedN E94 j216 : Nat) : Int))), (13, (.int .i64 ((j216 : Nat) : Int))), (161, (.bool (rdB c248)))] a340 := hA341.cut _ (fm_cons (hA341.get 0 _ rfl) (fm_cons (hA341.get 2 _ rfl) (fm_cons (hA341.get 8 _ rfl) (fm_cons (hA341.get 9 _ rfl) (fm_cons (hA341.get 12 _ rfl) (fm_cons (hA341.get 13 _ rfl) (fm_cons (hA341.get 161 _ rfl) fm_nil)))))))
         refine t_norm ?_
         have hA343 : St 175 [(0, (.slice ao code.length cap)), (2, (.slice ao2 rds.length cap2)), (8, ev90), (9, pa91), (12, (.int .i64 ((usedN E94 j216 : Nat) : Int))), (13, (.int .i64 ((j216 : Nat) : Int))), (161, (.bool true))] a340 := hA342.cut _ (fm_cons (hA342.get 0 _ rfl) (fm_cons (hA342.get 2 _ rfl) (fm_cons (hA342.get 8 _ rfl) (fm_cons (hA342.get 9 _ rfl) (fm_cons (hA342.get 12 _ rfl) (fm_cons (hA342.get 13 _ rfl) (fm_cons ((hA342.get 161 _ rfl).trans (congrArg Value.bool hb319)) fm_nil)))))))
         refine c_true hA343 rfl ?_
         refine wp_region_lit ?_
         refine q_step hA343 rfl (d_move (wn rfl) (hA343.ev rfl) ?_)
         intro a344 hA345
         refine q_step hA345 rfl (d_bin (wn rfl) (hA345.ev rfl) (hA345.ev rfl) (b_add _ _ ((usedN E94 j216 : Nat) : Int) 1 _ (by omega) (by omega)) ?_)
         intro a346 hA347
         refine q_step hA347 rfl (d_assign (wn rfl) (hA347.ev rfl) ?_)
         intro a348 hA349
         refine q_end ?_
         have hA350 : St 175 [(0, (.slice ao code.length cap)), (2, (.slice ao2 rds.length cap2)), (8, ev90), (9, pa91), (12, (.int .i64 (((usedN E94 j216 : Nat) : Int) + 1))), (13, (.int .i64 ((j216 : Nat) : Int)))] a348 := hA349.cut _ (fm_cons (hA349.get 0 _ rfl) (fm_cons (hA349.get 2 _ rfl) (fm_cons (hA349.get 8 _ rfl) (fm_cons (hA349.get 9 _ rfl) (fm_cons (hA349.get 12 _ rfl) (fm_cons (hA349.get 13 _ rfl) fm_nil))))))
         refine i_norm ?_
         refine t_norm ?_
         refine wp_region_lit ?_
         refine q_step hA350 rfl (d_move (wn rfl) (hA350.ev rfl) ?_)
         intro a351 hA352
         refine q_step hA352 rfl (d_bin (wn rfl) (hA352.ev rfl) (hA352.ev rfl) (b_add _ _ ((j216 : Nat) : Int) 1 _ (by omega) (by omega)) ?_)
         intro a353 hA354
         refine q_step hA354 rfl (d_assign (wn rfl) (hA354.ev rfl) ?_)
         intro a355 hA356
         refine q_end ?_
         have hA357 : St 175 [(0, (.slice ao code.length cap)), (2, (.slice ao2 rds.length cap2)), (8, ev90), (9, pa91), (12, (.int .i64 (((usedN E94 j216 : Nat) : Int) + 1))), (13, (.int .i64 (((j216 : Nat) : Int) + 1)))] a355 := hA356.cut _ (fm_cons (hA356.get 0 _ rfl) (fm_cons (hA356.get 2 _ rfl) (fm_cons (hA356.get 8 _ rfl) (fm_cons (hA356.get 9 _ rfl) (fm_cons (hA356.get 12 _ rfl) (fm_cons (hA356.get 13 _ rfl) fm_nil))))))
         refine t_norm ?_
         exact ⟨E94.length - (j216 + 1), (by rw [hm222]; omega), j216 + 1, rfl, (by omega), hA357.cut _ (fm_cons (hA357.get 0 _ rfl) (fm_cons (hA357.get 2 _ rfl) (fm_cons (hA357.get 8 _ rfl) (fm_cons (hA357.get 9 _ rfl) (fm_cons ((hA357.get 12 _ rfl).trans (congrArg (Value.int .i64) (by have h := used_at hy240; simp [hb319] at h; omega))) (fm_cons ((hA357.get 13 _ rfl).trans (congrArg (Value.int .i64) (by omega))) fm_nil)))))), b334⟩
        ·skip
         have hA359 : St 175 [(0, (.slice ao code.length cap)), (2, (.slice ao2 rds.length cap2)), (8, ev90), (9, pa91), (12, (.int .i64 ((usedN E94 j216 : Nat) : Int))), (13, (.int .i64 ((j216 : Nat) : Int))), (14, (.pointer (some ⟨g266, 0, none⟩)))] a281 := hA283.cut _ (fm_cons (hA283.get 0 _ rfl) (fm_cons (hA283.get 2 _ rfl) (fm_cons (hA283.get 8 _ rfl) (fm_cons (hA283.get 9 _ rfl) (fm_cons (hA283.get 12 _ rfl) (fm_cons (hA283.get 13 _ rfl) (fm_cons (hA283.get 14 _ rfl) fm_nil)))))))
         let M360 : Nat → Option (Array Value) := fun _ => none
         have hM360 : M360 = fun _ => none := rfl
         clear_value M360
         have hM361 : M360 g266 = none := (congrFun hM360 g266)
         have hM360B : ∀ k, k < w77.heap.size → M360 k = none := (fun k hk => (congrFun hM360 k))
         refine drawn (S := SM M360) (tabL [cv (.int .i64 ((j216 : Nat) : Int)), cv (.bool true), cv (.bool true), cv (.pointer (some ⟨g266, 1, none⟩)), cv (.int .i64 ((k246 : Nat) : Int)), cv ev90, cv (.int .i64 ((j216 : Nat) : Int)), cv (.int .i64 ((j216 - 1 : Nat) : Int)), cv (.pointer (some ⟨b288, o289, none⟩)), cv (.pointer (some ⟨b288, o289 + 1, none⟩)), cv (.int .i64 ((k293 : Nat) : Int)), cv (.bool false), cv (.bool false), cv (.bool false), cv (.pointer (some ⟨g266, 1, none⟩)), cv (.int .i64 ((k246 : Nat) : Int)), cv pa91, cv (.int .i64 ((Pa96.length : Nat) : Int)), cv (.bool false), cv (.bool false), cv (.bool false), cv pa91, cv (.pointer (some ⟨g266, 1, none⟩)), cv (.int .i64 ((k246 : Nat) : Int)), cv (.pointer (some ⟨b309, o310, none⟩)), cv (.int .i64 ((a247 : Nat) : Int)), cv (.pointer (some ⟨g266, 2, none⟩)), cv (.int .i64 ((a247 : Nat) : Int)), cv (.bool false), cv (.bool false), cv (.bool false), cv (.slice ao code.length cap), cv (.pointer (some ⟨g266, 2, none⟩)), cv (.int .i64 ((a247 : Nat) : Int)), cv (.pointer (some ⟨b314, o315, none⟩)), cv (.pointer (some ⟨b314, o315, none⟩)), cv (.int .i64 c248.op), cv (.pointer (some ⟨g266, 3, none⟩)), cv (.int .i64 c248.op), cv (.bool false), cv (.bool false), cv (.bool false), cv (.pointer (some ⟨g266, 6, none⟩)), cv (.bool true), cv (.slice ao code.length cap), cv (.pointer (some ⟨g266, 2, none⟩)), cv (.int .i64 ((a247 : Nat) : Int)), cv (.pointer (some ⟨b314, o315, none⟩)), cv (.agg (insC c248)), cv (.bool true), cv (.bool false), cv (.bool false), cv (.bool false), cv (.pointer (some ⟨g266, 7, none⟩)), cv (.bool false), cv (.slice ao code.length cap), cv (.pointer (some ⟨g266, 2, none⟩)), cv (.int .i64 ((a247 : Nat) : Int)), cv (.pointer (some ⟨b314, o315, none⟩)), cv (.agg (insC c248)), cv (.bool false), cv (.bool false), cv (.bool false)]) mixedY SM.refl SM.trans SM.drew hA359 (by kernel_rfl) ?_ ?_
         ·skip
          refine each_cons (fun x y hS hT hk => d_move (wn rfl) (hT.ev rfl) ⟨SM.refl _, rfl⟩) ?_
          refine each_cons (fun x y hS hT hk => d_bin (wn rfl) (hk 0 rfl) (hT.ev rfl) (b_gt _ _ ((j216 : Nat) : Int) 0 true _ hb284) ⟨SM.refl _, rfl⟩) ?_
          refine each_cons (fun x y hS hT hk => d_move (wn rfl) (hk 1 rfl) ⟨SM.refl _, rfl⟩) ?_
          refine each_cons (fun x y hS hT hk => d_fieldAddr (wy rfl rfl (hk 2 rfl)) (hT.ev rfl) fo52_1 ⟨SM.refl _, rfl⟩) ?_
          refine each_cons (fun x y hS hT hk => d_load (v := (.int .i64 ((k246 : Nat) : Int))) (wy rfl rfl (hk 2 rfl)) (hk 3 rfl) one3 ((Blk.sm (w := w276.drew) m278 hS hM361).cell rfl) ⟨SM.refl _, rfl⟩) ?_
          refine each_cons (fun x y hS hT hk => d_move (wy rfl rfl (hk 2 rfl)) (hT.ev rfl) ⟨SM.refl _, rfl⟩) ?_
          refine each_cons (fun x y hS hT hk => d_move (wy rfl rfl (hk 2 rfl)) (hT.ev rfl) ⟨SM.refl _, rfl⟩) ?_
          refine each_cons (fun x y hS hT hk => d_bin (wy rfl rfl (hk 2 rfl)) (hk 6 rfl) (hT.ev rfl) (b_subn _ _ j216 _ _ (by omega) (by omega)) ⟨SM.refl _, rfl⟩) ?_
          refine each_cons (fun x y hS hT hk => d_indexAt (j := j216 - 1) (wy rfl rfl (hk 2 rfl)) (hk 5 rfl) (hk 7 rfl) slc44 hix292 (get_lt hy287) ⟨SM.refl _, rfl⟩) ?_
          refine each_cons (fun x y hS hT hk => d_fieldAddr (wy rfl rfl (hk 2 rfl)) (hk 8 rfl) fo52_1 ⟨SM.refl _, rfl⟩) ?_
          refine each_cons (fun x y hS hT hk => d_load (v := (.int .i64 ((k293 : Nat) : Int))) (wy rfl rfl (hk 2 rfl)) (hk 9 rfl) one3 ((range_sm (w := w276.drew) hr291 hS (Nat.lt_of_lt_of_le lt290 b280.size) (hM360B _ lt290)) 1 _ rfl) ⟨SM.refl _, rfl⟩) ?_
          refine each_cons (fun x y hS hT hk => d_bin (wy rfl rfl (hk 2 rfl)) (hk 4 rfl) (hk 10 rfl) (b_le _ _ ((k246 : Nat) : Int) ((k293 : Nat) : Int) false _ (decide_eq_false (by have := ger (j216 - 1) _ _ hy287 (by rw [show j216 - 1 + 1 = j216 by omega]; exact hy240); simp only at this; omega))) ⟨SM.refl _, rfl⟩) ?_
          refine each_cons (fun x y hS hT hk => d_pickT (wn rfl) (hk 2 rfl) (hk 11 rfl) ⟨SM.refl _, rfl⟩) ?_
          refine each_cons (fun x y hS hT hk => d_move (wn rfl) (hk 12 rfl) ⟨SM.refl _, rfl⟩) ?_
          refine each_cons (fun x y hS hT hk => d_fieldAddr (wy rfl rfl (hk 13 rfl)) (hT.ev rfl) fo52_1 ⟨SM.refl _, rfl⟩) ?_
          refine each_cons (fun x y hS hT hk => d_load (v := (.int .i64 ((k246 : Nat) : Int))) (wy rfl rfl (hk 13 rfl)) (hk 14 rfl) one3 ((Blk.sm (w := w276.drew) m278 hS hM361).cell rfl) ⟨SM.refl _, rfl⟩) ?_
          refine each_cons (fun x y hS hT hk => d_move (wy rfl rfl (hk 13 rfl)) (hT.ev rfl) ⟨SM.refl _, rfl⟩) ?_
          refine each_cons (fun x y hS hT hk => d_len (n := Pa96.length) (wy rfl rfl (hk 13 rfl)) (hk 16 rfl) slc30 hsP106.form ⟨SM.refl _, rfl⟩) ?_
          refine each_cons (fun x y hS hT hk => d_bin (wy rfl rfl (hk 13 rfl)) (hk 15 rfl) (hk 17 rfl) (b_ge _ _ ((k246 : Nat) : Int) ((Pa96.length : Nat) : Int) false _ (decide_eq_false (by omega))) ⟨SM.refl _, rfl⟩) ?_
          refine each_cons (fun x y hS hT hk => d_pickF (wn rfl) (hk 13 rfl) (hk 18 rfl) ⟨SM.refl _, rfl⟩) ?_
          refine each_cons (fun x y hS hT hk => d_move (wn rfl) (hk 19 rfl) ⟨SM.refl _, rfl⟩) ?_
          refine each_cons (fun x y hS hT hk => d_move (wy rfl rfl (hk 20 rfl)) (hT.ev rfl) ⟨SM.refl _, rfl⟩) ?_
          refine each_cons (fun x y hS hT hk => d_fieldAddr (wy rfl rfl (hk 20 rfl)) (hT.ev rfl) fo52_1 ⟨SM.refl _, rfl⟩) ?_
          refine each_cons (fun x y hS hT hk => d_load (v := (.int .i64 ((k246 : Nat) : Int))) (wy rfl rfl (hk 20 rfl)) (hk 22 rfl) one3 ((Blk.sm (w := w276.drew) m278 hS hM361).cell rfl) ⟨SM.refl _, rfl⟩) ?_
          refine each_cons (fun x y hS hT hk => d_indexAt (j := k246) (wy rfl rfl (hk 20 rfl)) (hk 21 rfl) (hk 23 rfl) slc30 hix313 (get_lt hpk260) ⟨SM.refl _, rfl⟩) ?_
          refine each_cons (fun x y hS hT hk => d_load (v := (.int .i64 ((a247 : Nat) : Int))) (wy rfl rfl (hk 20 rfl)) (hk 24 rfl) one3 ((range_sm (w := w276.drew) hr312 hS (Nat.lt_of_lt_of_le lt311 b280.size) (hM360B _ lt311)) 0 _ rfl) ⟨SM.refl _, rfl⟩) ?_
          refine each_cons (fun x y hS hT hk => d_fieldAddr (wy rfl rfl (hk 20 rfl)) (hT.ev rfl) fo52_2 ⟨SM.refl _, rfl⟩) ?_
          refine each_cons (fun x y hS hT hk => d_load (v := (.int .i64 ((a247 : Nat) : Int))) (wy rfl rfl (hk 20 rfl)) (hk 26 rfl) one3 ((Blk.sm (w := w276.drew) m278 hS hM361).cell rfl) ⟨SM.refl _, rfl⟩) ?_
          refine each_cons (fun x y hS hT hk => d_bin (wy rfl rfl (hk 20 rfl)) (hk 25 rfl) (hk 27 rfl) (b_ne _ _ ((a247 : Nat) : Int) ((a247 : Nat) : Int) false _ (notof (beq_self_eq_true _))) ⟨SM.refl _, rfl⟩) ?_
          refine each_cons (fun x y hS hT hk => d_pickF (wn rfl) (hk 20 rfl) (hk 28 rfl) ⟨SM.refl _, rfl⟩) ?_
          refine each_cons (fun x y hS hT hk => d_move (wn rfl) (hk 29 rfl) ⟨SM.refl _, rfl⟩) ?_
          refine each_cons (fun x y hS hT hk => d_move (wy rfl rfl (hk 30 rfl)) (hT.ev rfl) ⟨SM.refl _, rfl⟩) ?_
          refine each_cons (fun x y hS hT hk => d_fieldAddr (wy rfl rfl (hk 30 rfl)) (hT.ev rfl) fo52_2 ⟨SM.refl _, rfl⟩) ?_
          refine each_cons (fun x y hS hT hk => d_load (v := (.int .i64 ((a247 : Nat) : Int))) (wy rfl rfl (hk 30 rfl)) (hk 32 rfl) one3 ((Blk.sm (w := w276.drew) m278 hS hM361).cell rfl) ⟨SM.refl _, rfl⟩) ?_
          refine each_cons (fun x y hS hT hk => d_indexAt (j := a247) (wy rfl rfl (hk 30 rfl)) (hk 31 rfl) (hk 33 rfl) slc35 hix318 (get_lt hca261) ⟨SM.refl _, rfl⟩) ?_
          refine each_cons (fun x y hS hT hk => d_fieldAddr (wy rfl rfl (hk 30 rfl)) (hk 34 rfl) fo23_0 ⟨SM.refl _, rfl⟩) ?_
          refine each_cons (fun x y hS hT hk => d_load (v := (.int .i64 c248.op)) (wy rfl rfl (hk 30 rfl)) (hk 35 rfl) one3 ((range_sm (w := w276.drew) hr317 hS (Nat.lt_of_lt_of_le lt316 b280.size) (hM360B _ lt316)) 0 _ rfl) ⟨SM.refl _, rfl⟩) ?_
          refine each_cons (fun x y hS hT hk => d_fieldAddr (wy rfl rfl (hk 30 rfl)) (hT.ev rfl) fo52_3 ⟨SM.refl _, rfl⟩) ?_
          refine each_cons (fun x y hS hT hk => d_load (v := (.int .i64 c248.op)) (wy rfl rfl (hk 30 rfl)) (hk 37 rfl) one3 ((Blk.sm (w := w276.drew) m278 hS hM361).cell rfl) ⟨SM.refl _, rfl⟩) ?_
          refine each_cons (fun x y hS hT hk => d_bin (wy rfl rfl (hk 30 rfl)) (hk 36 rfl) (hk 38 rfl) (b_ne _ _ c248.op c248.op false _ (notof (beq_self_eq_true _))) ⟨SM.refl _, rfl⟩) ?_
          refine each_cons (fun x y hS hT hk => d_pickF (wn rfl) (hk 30 rfl) (hk 39 rfl) ⟨SM.refl _, rfl⟩) ?_
          refine each_cons (fun x y hS hT hk => d_move (wn rfl) (hk 40 rfl) ⟨SM.refl _, rfl⟩) ?_
          refine each_cons (fun x y hS hT hk => d_fieldAddr (wy rfl rfl (hk 41 rfl)) (hT.ev rfl) fo52_5 ⟨SM.refl _, rfl⟩) ?_
          refine each_cons (fun x y hS hT hk => d_load (v := (.bool true)) (wy rfl rfl (hk 41 rfl)) (hk 42 rfl) one4 ((Blk.sm (w := w276.drew) m278 hS hM361).cell (congrArg (fun b => some (Value.bool b)) hb319)) ⟨SM.refl _, rfl⟩) ?_
          refine each_cons (fun x y hS hT hk => d_move (wy rfl rfl (hk 41 rfl)) (hT.ev rfl) ⟨SM.refl _, rfl⟩) ?_
          refine each_cons (fun x y hS hT hk => d_fieldAddr (wy rfl rfl (hk 41 rfl)) (hT.ev rfl) fo52_2 ⟨SM.refl _, rfl⟩) ?_
          refine each_cons (fun x y hS hT hk => d_load (v := (.int .i64 ((a247 : Nat) : Int))) (wy rfl rfl (hk 41 rfl)) (hk 45 rfl) one3 ((Blk.sm (w := w276.drew) m278 hS hM361).cell rfl) ⟨SM.refl _, rfl⟩) ?_
          refine each_cons (fun x y hS hT hk => d_indexAt (j := a247) (wy rfl rfl (hk 41 rfl)) (hk 44 rfl) (hk 46 rfl) slc35 hix318 (get_lt hca261) ⟨SM.refl _, rfl⟩) ?_
          refine each_cons (fun x y hS hT hk => d_loadMid (cs := (insC c248)) (wy rfl rfl (hk 41 rfl)) (hk 47 rfl) row23 (range_sm (w := w276.drew) hr317 hS (Nat.lt_of_lt_of_le lt316 b280.size) (hM360B _ lt316)) ⟨SM.refl _, rfl⟩) ?_
          refine each_cons (fun x y hS hT hk => d_call (wy rfl rfl (hk 41 rfl)) ent11 (map1 (show x.eval _ = (.agg (insC c248)) from (hk 48 rfl))) (reads_any c248 y) (fun _ _ ⟨he, hG⟩ => ⟨(.bool true), (he.trans (ret_bool hb319)), SM.grow hG, rfl⟩)) ?_
          refine each_cons (fun x y hS hT hk => d_bin (wy rfl rfl (hk 41 rfl)) (hk 43 rfl) (hk 49 rfl) (b_neb _ _ true true false _ Try.underlying4 rfl) ⟨SM.refl _, rfl⟩) ?_
          refine each_cons (fun x y hS hT hk => d_pickF (wn rfl) (hk 41 rfl) (hk 50 rfl) ⟨SM.refl _, rfl⟩) ?_
          refine each_cons (fun x y hS hT hk => d_move (wn rfl) (hk 51 rfl) ⟨SM.refl _, rfl⟩) ?_
          refine each_cons (fun x y hS hT hk => d_fieldAddr (wy rfl rfl (hk 52 rfl)) (hT.ev rfl) fo52_6 ⟨SM.refl _, rfl⟩) ?_
          refine each_cons (fun x y hS hT hk => d_load (v := (.bool false)) (wy rfl rfl (hk 52 rfl)) (hk 53 rfl) one4 ((Blk.sm (w := w276.drew) m278 hS hM361).cell (congrArg (fun b => some (Value.bool b)) hb321)) ⟨SM.refl _, rfl⟩) ?_
          refine each_cons (fun x y hS hT hk => d_move (wy rfl rfl (hk 52 rfl)) (hT.ev rfl) ⟨SM.refl _, rfl⟩) ?_
          refine each_cons (fun x y hS hT hk => d_fieldAddr (wy rfl rfl (hk 52 rfl)) (hT.ev rfl) fo52_2 ⟨SM.refl _, rfl⟩) ?_
          refine each_cons (fun x y hS hT hk => d_load (v := (.int .i64 ((a247 : Nat) : Int))) (wy rfl rfl (hk 52 rfl)) (hk 56 rfl) one3 ((Blk.sm (w := w276.drew) m278 hS hM361).cell rfl) ⟨SM.refl _, rfl⟩) ?_
          refine each_cons (fun x y hS hT hk => d_indexAt (j := a247) (wy rfl rfl (hk 52 rfl)) (hk 55 rfl) (hk 57 rfl) slc35 hix318 (get_lt hca261) ⟨SM.refl _, rfl⟩) ?_
          refine each_cons (fun x y hS hT hk => d_loadMid (cs := (insC c248)) (wy rfl rfl (hk 52 rfl)) (hk 58 rfl) row23 (range_sm (w := w276.drew) hr317 hS (Nat.lt_of_lt_of_le lt316 b280.size) (hM360B _ lt316)) ⟨SM.refl _, rfl⟩) ?_
          refine each_cons (fun x y hS hT hk => d_call (wy rfl rfl (hk 52 rfl)) ent13 (map1 (show x.eval _ = (.agg (insC c248)) from (hk 59 rfl))) (writes_any c248 y) (fun _ _ ⟨he, hG⟩ => ⟨(.bool false), (he.trans (ret_bool hb321)), SM.grow hG, rfl⟩)) ?_
          refine each_cons (fun x y hS hT hk => d_bin (wy rfl rfl (hk 52 rfl)) (hk 54 rfl) (hk 60 rfl) (b_neb _ _ false false false _ Try.underlying4 rfl) ⟨SM.refl _, rfl⟩) ?_
          refine each_cons (fun x y hS hT hk => d_pickF (wn rfl) (hk 52 rfl) (hk 61 rfl) ⟨SM.refl _, rfl⟩) ?_
          exact each_nil
         intro f362 a363 w364 hS365 hC366 hA367
         have hA368 : St 175 [(0, (.slice ao code.length cap)), (2, (.slice ao2 rds.length cap2)), (8, ev90), (9, pa91), (12, (.int .i64 ((usedN E94 j216 : Nat) : Int))), (13, (.int .i64 ((j216 : Nat) : Int))), (14, (.pointer (some ⟨g266, 0, none⟩))), (159, (.bool false))] a363 := hA367.cut _ (fm_cons (hA367.get 0 _ rfl) (fm_cons (hA367.get 2 _ rfl) (fm_cons (hA367.get 8 _ rfl) (fm_cons (hA367.get 9 _ rfl) (fm_cons (hA367.get 12 _ rfl) (fm_cons (hA367.get 13 _ rfl) (fm_cons (hA367.get 14 _ rfl) (fm_cons ((hA367.get 159 _ rfl).trans (hC366 62 (Nat.le_of_ble_eq_true rfl))) fm_nil))))))))
         have m369 := m278.sm hS365 hM361
         have b370 := hS365.below b280 b280.size hM360B
         have hr371 := range_sm hr291 hS365 (Nat.lt_of_lt_of_le lt290 b280.size) (hM360B _ lt290)
         have hr372 := range_sm hr312 hS365 (Nat.lt_of_lt_of_le lt311 b280.size) (hM360B _ lt311)
         have hr373 := range_sm hr317 hS365 (Nat.lt_of_lt_of_le lt316 b280.size) (hM360B _ lt316)
         refine t_norm ?_
         refine c_false hA368 rfl ?_
         refine wp_skip ?_
         refine t_norm ?_
         refine wp_seq ?_
         refine wp_region_lit ?_
         refine q_step hA368 rfl (d_fieldAddr (wn rfl) (hA368.ev rfl) fo52_5 ?_)
         intro a374 hA375
         refine q_step hA375 rfl (d_load (v := (.bool (rdB c248))) (wn rfl) (hA375.ev rfl) one4 (m369.cell rfl) ?_)
         intro a376 hA377
         refine q_end ?_
         have hA378 : St 175 [(0, (.slice ao code.length cap)), (2, (.slice ao2 rds.length cap2)), (8, ev90), (9, pa91), (12, (.int .i64 ((usedN E94 j216 : Nat) : Int))), (13, (.int .i64 ((j216 : Nat) : Int))), (161, (.bool (rdB c248)))] a376 := hA377.cut _ (fm_cons (hA377.get 0 _ rfl) (fm_cons (hA377.get 2 _ rfl) (fm_cons (hA377.get 8 _ rfl) (fm_cons (hA377.get 9 _ rfl) (fm_cons (hA377.get 12 _ rfl) (fm_cons (hA377.get 13 _ rfl) (fm_cons (hA377.get 161 _ rfl) fm_nil)))))))
         refine t_norm ?_
         have hA379 : St 175 [(0, (.slice ao code.length cap)), (2, (.slice ao2 rds.length cap2)), (8, ev90), (9, pa91), (12, (.int .i64 ((usedN E94 j216 : Nat) : Int))), (13, (.int .i64 ((j216 : Nat) : Int))), (161, (.bool true))] a376 := hA378.cut _ (fm_cons (hA378.get 0 _ rfl) (fm_cons (hA378.get 2 _ rfl) (fm_cons (hA378.get 8 _ rfl) (fm_cons (hA378.get 9 _ rfl) (fm_cons (hA378.get 12 _ rfl) (fm_cons (hA378.get 13 _ rfl) (fm_cons ((hA378.get 161 _ rfl).trans (congrArg Value.bool hb319)) fm_nil)))))))
         refine c_true hA379 rfl ?_
         refine wp_region_lit ?_
         refine q_step hA379 rfl (d_move (wn rfl) (hA379.ev rfl) ?_)
         intro a380 hA381
         refine q_step hA381 rfl (d_bin (wn rfl) (hA381.ev rfl) (hA381.ev rfl) (b_add _ _ ((usedN E94 j216 : Nat) : Int) 1 _ (by omega) (by omega)) ?_)
         intro a382 hA383
         refine q_step hA383 rfl (d_assign (wn rfl) (hA383.ev rfl) ?_)
         intro a384 hA385
         refine q_end ?_
         have hA386 : St 175 [(0, (.slice ao code.length cap)), (2, (.slice ao2 rds.length cap2)), (8, ev90), (9, pa91), (12, (.int .i64 (((usedN E94 j216 : Nat) : Int) + 1))), (13, (.int .i64 ((j216 : Nat) : Int)))] a384 := hA385.cut _ (fm_cons (hA385.get 0 _ rfl) (fm_cons (hA385.get 2 _ rfl) (fm_cons (hA385.get 8 _ rfl) (fm_cons (hA385.get 9 _ rfl) (fm_cons (hA385.get 12 _ rfl) (fm_cons (hA385.get 13 _ rfl) fm_nil))))))
         refine i_norm ?_
         refine t_norm ?_
         refine wp_region_lit ?_
         refine q_step hA386 rfl (d_move (wn rfl) (hA386.ev rfl) ?_)
         intro a387 hA388
         refine q_step hA388 rfl (d_bin (wn rfl) (hA388.ev rfl) (hA388.ev rfl) (b_add _ _ ((j216 : Nat) : Int) 1 _ (by omega) (by omega)) ?_)
         intro a389 hA390
         refine q_step hA390 rfl (d_assign (wn rfl) (hA390.ev rfl) ?_)
         intro a391 hA392
         refine q_end ?_
         have hA393 : St 175 [(0, (.slice ao code.length cap)), (2, (.slice ao2 rds.length cap2)), (8, ev90), (9, pa91), (12, (.int .i64 (((usedN E94 j216 : Nat) : Int) + 1))), (13, (.int .i64 (((j216 : Nat) : Int) + 1)))] a391 := hA392.cut _ (fm_cons (hA392.get 0 _ rfl) (fm_cons (hA392.get 2 _ rfl) (fm_cons (hA392.get 8 _ rfl) (fm_cons (hA392.get 9 _ rfl) (fm_cons (hA392.get 12 _ rfl) (fm_cons (hA392.get 13 _ rfl) fm_nil))))))
         refine t_norm ?_
         exact ⟨E94.length - (j216 + 1), (by rw [hm222]; omega), j216 + 1, rfl, (by omega), hA393.cut _ (fm_cons (hA393.get 0 _ rfl) (fm_cons (hA393.get 2 _ rfl) (fm_cons (hA393.get 8 _ rfl) (fm_cons (hA393.get 9 _ rfl) (fm_cons ((hA393.get 12 _ rfl).trans (congrArg (Value.int .i64) (by have h := used_at hy240; simp [hb319] at h; omega))) (fm_cons ((hA393.get 13 _ rfl).trans (congrArg (Value.int .i64) (by omega))) fm_nil)))))), b370⟩
       ·skip
        rcases Bool.eq_false_or_eq_true (wrB c248) with hb395 | hb395
        ·skip
         have hA397 : St 175 [(0, (.slice ao code.length cap)), (2, (.slice ao2 rds.length cap2)), (8, ev90), (9, pa91), (12, (.int .i64 ((usedN E94 j216 : Nat) : Int))), (13, (.int .i64 ((j216 : Nat) : Int))), (14, (.pointer (some ⟨g266, 0, none⟩)))] a281 := hA283.cut _ (fm_cons (hA283.get 0 _ rfl) (fm_cons (hA283.get 2 _ rfl) (fm_cons (hA283.get 8 _ rfl) (fm_cons (hA283.get 9 _ rfl) (fm_cons (hA283.get 12 _ rfl) (fm_cons (hA283.get 13 _ rfl) (fm_cons (hA283.get 14 _ rfl) fm_nil)))))))
         let M398 : Nat → Option (Array Value) := fun _ => none
         have hM398 : M398 = fun _ => none := rfl
         clear_value M398
         have hM399 : M398 g266 = none := (congrFun hM398 g266)
         have hM398B : ∀ k, k < w77.heap.size → M398 k = none := (fun k hk => (congrFun hM398 k))
         refine drawn (S := SM M398) (tabL [cv (.int .i64 ((j216 : Nat) : Int)), cv (.bool true), cv (.bool true), cv (.pointer (some ⟨g266, 1, none⟩)), cv (.int .i64 ((k246 : Nat) : Int)), cv ev90, cv (.int .i64 ((j216 : Nat) : Int)), cv (.int .i64 ((j216 - 1 : Nat) : Int)), cv (.pointer (some ⟨b288, o289, none⟩)), cv (.pointer (some ⟨b288, o289 + 1, none⟩)), cv (.int .i64 ((k293 : Nat) : Int)), cv (.bool false), cv (.bool false), cv (.bool false), cv (.pointer (some ⟨g266, 1, none⟩)), cv (.int .i64 ((k246 : Nat) : Int)), cv pa91, cv (.int .i64 ((Pa96.length : Nat) : Int)), cv (.bool false), cv (.bool false), cv (.bool false), cv pa91, cv (.pointer (some ⟨g266, 1, none⟩)), cv (.int .i64 ((k246 : Nat) : Int)), cv (.pointer (some ⟨b309, o310, none⟩)), cv (.int .i64 ((a247 : Nat) : Int)), cv (.pointer (some ⟨g266, 2, none⟩)), cv (.int .i64 ((a247 : Nat) : Int)), cv (.bool false), cv (.bool false), cv (.bool false), cv (.slice ao code.length cap), cv (.pointer (some ⟨g266, 2, none⟩)), cv (.int .i64 ((a247 : Nat) : Int)), cv (.pointer (some ⟨b314, o315, none⟩)), cv (.pointer (some ⟨b314, o315, none⟩)), cv (.int .i64 c248.op), cv (.pointer (some ⟨g266, 3, none⟩)), cv (.int .i64 c248.op), cv (.bool false), cv (.bool false), cv (.bool false), cv (.pointer (some ⟨g266, 6, none⟩)), cv (.bool false), cv (.slice ao code.length cap), cv (.pointer (some ⟨g266, 2, none⟩)), cv (.int .i64 ((a247 : Nat) : Int)), cv (.pointer (some ⟨b314, o315, none⟩)), cv (.agg (insC c248)), cv (.bool false), cv (.bool false), cv (.bool false), cv (.bool false), cv (.pointer (some ⟨g266, 7, none⟩)), cv (.bool true), cv (.slice ao code.length cap), cv (.pointer (some ⟨g266, 2, none⟩)), cv (.int .i64 ((a247 : Nat) : Int)), cv (.pointer (some ⟨b314, o315, none⟩)), cv (.agg (insC c248)), cv (.bool true), cv (.bool false), cv (.bool false)]) mixedY SM.refl SM.trans SM.drew hA397 (by kernel_rfl) ?_ ?_
         ·skip
          refine each_cons (fun x y hS hT hk => d_move (wn rfl) (hT.ev rfl) ⟨SM.refl _, rfl⟩) ?_
          refine each_cons (fun x y hS hT hk => d_bin (wn rfl) (hk 0 rfl) (hT.ev rfl) (b_gt _ _ ((j216 : Nat) : Int) 0 true _ hb284) ⟨SM.refl _, rfl⟩) ?_
          refine each_cons (fun x y hS hT hk => d_move (wn rfl) (hk 1 rfl) ⟨SM.refl _, rfl⟩) ?_
          refine each_cons (fun x y hS hT hk => d_fieldAddr (wy rfl rfl (hk 2 rfl)) (hT.ev rfl) fo52_1 ⟨SM.refl _, rfl⟩) ?_
          refine each_cons (fun x y hS hT hk => d_load (v := (.int .i64 ((k246 : Nat) : Int))) (wy rfl rfl (hk 2 rfl)) (hk 3 rfl) one3 ((Blk.sm (w := w276.drew) m278 hS hM399).cell rfl) ⟨SM.refl _, rfl⟩) ?_
          refine each_cons (fun x y hS hT hk => d_move (wy rfl rfl (hk 2 rfl)) (hT.ev rfl) ⟨SM.refl _, rfl⟩) ?_
          refine each_cons (fun x y hS hT hk => d_move (wy rfl rfl (hk 2 rfl)) (hT.ev rfl) ⟨SM.refl _, rfl⟩) ?_
          refine each_cons (fun x y hS hT hk => d_bin (wy rfl rfl (hk 2 rfl)) (hk 6 rfl) (hT.ev rfl) (b_subn _ _ j216 _ _ (by omega) (by omega)) ⟨SM.refl _, rfl⟩) ?_
          refine each_cons (fun x y hS hT hk => d_indexAt (j := j216 - 1) (wy rfl rfl (hk 2 rfl)) (hk 5 rfl) (hk 7 rfl) slc44 hix292 (get_lt hy287) ⟨SM.refl _, rfl⟩) ?_
          refine each_cons (fun x y hS hT hk => d_fieldAddr (wy rfl rfl (hk 2 rfl)) (hk 8 rfl) fo52_1 ⟨SM.refl _, rfl⟩) ?_
          refine each_cons (fun x y hS hT hk => d_load (v := (.int .i64 ((k293 : Nat) : Int))) (wy rfl rfl (hk 2 rfl)) (hk 9 rfl) one3 ((range_sm (w := w276.drew) hr291 hS (Nat.lt_of_lt_of_le lt290 b280.size) (hM398B _ lt290)) 1 _ rfl) ⟨SM.refl _, rfl⟩) ?_
          refine each_cons (fun x y hS hT hk => d_bin (wy rfl rfl (hk 2 rfl)) (hk 4 rfl) (hk 10 rfl) (b_le _ _ ((k246 : Nat) : Int) ((k293 : Nat) : Int) false _ (decide_eq_false (by have := ger (j216 - 1) _ _ hy287 (by rw [show j216 - 1 + 1 = j216 by omega]; exact hy240); simp only at this; omega))) ⟨SM.refl _, rfl⟩) ?_
          refine each_cons (fun x y hS hT hk => d_pickT (wn rfl) (hk 2 rfl) (hk 11 rfl) ⟨SM.refl _, rfl⟩) ?_
          refine each_cons (fun x y hS hT hk => d_move (wn rfl) (hk 12 rfl) ⟨SM.refl _, rfl⟩) ?_
          refine each_cons (fun x y hS hT hk => d_fieldAddr (wy rfl rfl (hk 13 rfl)) (hT.ev rfl) fo52_1 ⟨SM.refl _, rfl⟩) ?_
          refine each_cons (fun x y hS hT hk => d_load (v := (.int .i64 ((k246 : Nat) : Int))) (wy rfl rfl (hk 13 rfl)) (hk 14 rfl) one3 ((Blk.sm (w := w276.drew) m278 hS hM399).cell rfl) ⟨SM.refl _, rfl⟩) ?_
          refine each_cons (fun x y hS hT hk => d_move (wy rfl rfl (hk 13 rfl)) (hT.ev rfl) ⟨SM.refl _, rfl⟩) ?_
          refine each_cons (fun x y hS hT hk => d_len (n := Pa96.length) (wy rfl rfl (hk 13 rfl)) (hk 16 rfl) slc30 hsP106.form ⟨SM.refl _, rfl⟩) ?_
          refine each_cons (fun x y hS hT hk => d_bin (wy rfl rfl (hk 13 rfl)) (hk 15 rfl) (hk 17 rfl) (b_ge _ _ ((k246 : Nat) : Int) ((Pa96.length : Nat) : Int) false _ (decide_eq_false (by omega))) ⟨SM.refl _, rfl⟩) ?_
          refine each_cons (fun x y hS hT hk => d_pickF (wn rfl) (hk 13 rfl) (hk 18 rfl) ⟨SM.refl _, rfl⟩) ?_
          refine each_cons (fun x y hS hT hk => d_move (wn rfl) (hk 19 rfl) ⟨SM.refl _, rfl⟩) ?_
          refine each_cons (fun x y hS hT hk => d_move (wy rfl rfl (hk 20 rfl)) (hT.ev rfl) ⟨SM.refl _, rfl⟩) ?_
          refine each_cons (fun x y hS hT hk => d_fieldAddr (wy rfl rfl (hk 20 rfl)) (hT.ev rfl) fo52_1 ⟨SM.refl _, rfl⟩) ?_
          refine each_cons (fun x y hS hT hk => d_load (v := (.int .i64 ((k246 : Nat) : Int))) (wy rfl rfl (hk 20 rfl)) (hk 22 rfl) one3 ((Blk.sm (w := w276.drew) m278 hS hM399).cell rfl) ⟨SM.refl _, rfl⟩) ?_
          refine each_cons (fun x y hS hT hk => d_indexAt (j := k246) (wy rfl rfl (hk 20 rfl)) (hk 21 rfl) (hk 23 rfl) slc30 hix313 (get_lt hpk260) ⟨SM.refl _, rfl⟩) ?_
          refine each_cons (fun x y hS hT hk => d_load (v := (.int .i64 ((a247 : Nat) : Int))) (wy rfl rfl (hk 20 rfl)) (hk 24 rfl) one3 ((range_sm (w := w276.drew) hr312 hS (Nat.lt_of_lt_of_le lt311 b280.size) (hM398B _ lt311)) 0 _ rfl) ⟨SM.refl _, rfl⟩) ?_
          refine each_cons (fun x y hS hT hk => d_fieldAddr (wy rfl rfl (hk 20 rfl)) (hT.ev rfl) fo52_2 ⟨SM.refl _, rfl⟩) ?_
          refine each_cons (fun x y hS hT hk => d_load (v := (.int .i64 ((a247 : Nat) : Int))) (wy rfl rfl (hk 20 rfl)) (hk 26 rfl) one3 ((Blk.sm (w := w276.drew) m278 hS hM399).cell rfl) ⟨SM.refl _, rfl⟩) ?_
          refine each_cons (fun x y hS hT hk => d_bin (wy rfl rfl (hk 20 rfl)) (hk 25 rfl) (hk 27 rfl) (b_ne _ _ ((a247 : Nat) : Int) ((a247 : Nat) : Int) false _ (notof (beq_self_eq_true _))) ⟨SM.refl _, rfl⟩) ?_
          refine each_cons (fun x y hS hT hk => d_pickF (wn rfl) (hk 20 rfl) (hk 28 rfl) ⟨SM.refl _, rfl⟩) ?_
          refine each_cons (fun x y hS hT hk => d_move (wn rfl) (hk 29 rfl) ⟨SM.refl _, rfl⟩) ?_
          refine each_cons (fun x y hS hT hk => d_move (wy rfl rfl (hk 30 rfl)) (hT.ev rfl) ⟨SM.refl _, rfl⟩) ?_
          refine each_cons (fun x y hS hT hk => d_fieldAddr (wy rfl rfl (hk 30 rfl)) (hT.ev rfl) fo52_2 ⟨SM.refl _, rfl⟩) ?_
          refine each_cons (fun x y hS hT hk => d_load (v := (.int .i64 ((a247 : Nat) : Int))) (wy rfl rfl (hk 30 rfl)) (hk 32 rfl) one3 ((Blk.sm (w := w276.drew) m278 hS hM399).cell rfl) ⟨SM.refl _, rfl⟩) ?_
          refine each_cons (fun x y hS hT hk => d_indexAt (j := a247) (wy rfl rfl (hk 30 rfl)) (hk 31 rfl) (hk 33 rfl) slc35 hix318 (get_lt hca261) ⟨SM.refl _, rfl⟩) ?_
          refine each_cons (fun x y hS hT hk => d_fieldAddr (wy rfl rfl (hk 30 rfl)) (hk 34 rfl) fo23_0 ⟨SM.refl _, rfl⟩) ?_
          refine each_cons (fun x y hS hT hk => d_load (v := (.int .i64 c248.op)) (wy rfl rfl (hk 30 rfl)) (hk 35 rfl) one3 ((range_sm (w := w276.drew) hr317 hS (Nat.lt_of_lt_of_le lt316 b280.size) (hM398B _ lt316)) 0 _ rfl) ⟨SM.refl _, rfl⟩) ?_
          refine each_cons (fun x y hS hT hk => d_fieldAddr (wy rfl rfl (hk 30 rfl)) (hT.ev rfl) fo52_3 ⟨SM.refl _, rfl⟩) ?_
          refine each_cons (fun x y hS hT hk => d_load (v := (.int .i64 c248.op)) (wy rfl rfl (hk 30 rfl)) (hk 37 rfl) one3 ((Blk.sm (w := w276.drew) m278 hS hM399).cell rfl) ⟨SM.refl _, rfl⟩) ?_
          refine each_cons (fun x y hS hT hk => d_bin (wy rfl rfl (hk 30 rfl)) (hk 36 rfl) (hk 38 rfl) (b_ne _ _ c248.op c248.op false _ (notof (beq_self_eq_true _))) ⟨SM.refl _, rfl⟩) ?_
          refine each_cons (fun x y hS hT hk => d_pickF (wn rfl) (hk 30 rfl) (hk 39 rfl) ⟨SM.refl _, rfl⟩) ?_
          refine each_cons (fun x y hS hT hk => d_move (wn rfl) (hk 40 rfl) ⟨SM.refl _, rfl⟩) ?_
          refine each_cons (fun x y hS hT hk => d_fieldAddr (wy rfl rfl (hk 41 rfl)) (hT.ev rfl) fo52_5 ⟨SM.refl _, rfl⟩) ?_
          refine each_cons (fun x y hS hT hk => d_load (v := (.bool false)) (wy rfl rfl (hk 41 rfl)) (hk 42 rfl) one4 ((Blk.sm (w := w276.drew) m278 hS hM399).cell (congrArg (fun b => some (Value.bool b)) hb319)) ⟨SM.refl _, rfl⟩) ?_
          refine each_cons (fun x y hS hT hk => d_move (wy rfl rfl (hk 41 rfl)) (hT.ev rfl) ⟨SM.refl _, rfl⟩) ?_
          refine each_cons (fun x y hS hT hk => d_fieldAddr (wy rfl rfl (hk 41 rfl)) (hT.ev rfl) fo52_2 ⟨SM.refl _, rfl⟩) ?_
          refine each_cons (fun x y hS hT hk => d_load (v := (.int .i64 ((a247 : Nat) : Int))) (wy rfl rfl (hk 41 rfl)) (hk 45 rfl) one3 ((Blk.sm (w := w276.drew) m278 hS hM399).cell rfl) ⟨SM.refl _, rfl⟩) ?_
          refine each_cons (fun x y hS hT hk => d_indexAt (j := a247) (wy rfl rfl (hk 41 rfl)) (hk 44 rfl) (hk 46 rfl) slc35 hix318 (get_lt hca261) ⟨SM.refl _, rfl⟩) ?_
          refine each_cons (fun x y hS hT hk => d_loadMid (cs := (insC c248)) (wy rfl rfl (hk 41 rfl)) (hk 47 rfl) row23 (range_sm (w := w276.drew) hr317 hS (Nat.lt_of_lt_of_le lt316 b280.size) (hM398B _ lt316)) ⟨SM.refl _, rfl⟩) ?_
          refine each_cons (fun x y hS hT hk => d_call (wy rfl rfl (hk 41 rfl)) ent11 (map1 (show x.eval _ = (.agg (insC c248)) from (hk 48 rfl))) (reads_any c248 y) (fun _ _ ⟨he, hG⟩ => ⟨(.bool false), (he.trans (ret_bool hb319)), SM.grow hG, rfl⟩)) ?_
          refine each_cons (fun x y hS hT hk => d_bin (wy rfl rfl (hk 41 rfl)) (hk 43 rfl) (hk 49 rfl) (b_neb _ _ false false false _ Try.underlying4 rfl) ⟨SM.refl _, rfl⟩) ?_
          refine each_cons (fun x y hS hT hk => d_pickF (wn rfl) (hk 41 rfl) (hk 50 rfl) ⟨SM.refl _, rfl⟩) ?_
          refine each_cons (fun x y hS hT hk => d_move (wn rfl) (hk 51 rfl) ⟨SM.refl _, rfl⟩) ?_
          refine each_cons (fun x y hS hT hk => d_fieldAddr (wy rfl rfl (hk 52 rfl)) (hT.ev rfl) fo52_6 ⟨SM.refl _, rfl⟩) ?_
          refine each_cons (fun x y hS hT hk => d_load (v := (.bool true)) (wy rfl rfl (hk 52 rfl)) (hk 53 rfl) one4 ((Blk.sm (w := w276.drew) m278 hS hM399).cell (congrArg (fun b => some (Value.bool b)) hb395)) ⟨SM.refl _, rfl⟩) ?_
          refine each_cons (fun x y hS hT hk => d_move (wy rfl rfl (hk 52 rfl)) (hT.ev rfl) ⟨SM.refl _, rfl⟩) ?_
          refine each_cons (fun x y hS hT hk => d_fieldAddr (wy rfl rfl (hk 52 rfl)) (hT.ev rfl) fo52_2 ⟨SM.refl _, rfl⟩) ?_
          refine each_cons (fun x y hS hT hk => d_load (v := (.int .i64 ((a247 : Nat) : Int))) (wy rfl rfl (hk 52 rfl)) (hk 56 rfl) one3 ((Blk.sm (w := w276.drew) m278 hS hM399).cell rfl) ⟨SM.refl _, rfl⟩) ?_
          refine each_cons (fun x y hS hT hk => d_indexAt (j := a247) (wy rfl rfl (hk 52 rfl)) (hk 55 rfl) (hk 57 rfl) slc35 hix318 (get_lt hca261) ⟨SM.refl _, rfl⟩) ?_
          refine each_cons (fun x y hS hT hk => d_loadMid (cs := (insC c248)) (wy rfl rfl (hk 52 rfl)) (hk 58 rfl) row23 (range_sm (w := w276.drew) hr317 hS (Nat.lt_of_lt_of_le lt316 b280.size) (hM398B _ lt316)) ⟨SM.refl _, rfl⟩) ?_
          refine each_cons (fun x y hS hT hk => d_call (wy rfl rfl (hk 52 rfl)) ent13 (map1 (show x.eval _ = (.agg (insC c248)) from (hk 59 rfl))) (writes_any c248 y) (fun _ _ ⟨he, hG⟩ => ⟨(.bool true), (he.trans (ret_bool hb395)), SM.grow hG, rfl⟩)) ?_
          refine each_cons (fun x y hS hT hk => d_bin (wy rfl rfl (hk 52 rfl)) (hk 54 rfl) (hk 60 rfl) (b_neb _ _ true true false _ Try.underlying4 rfl) ⟨SM.refl _, rfl⟩) ?_
          refine each_cons (fun x y hS hT hk => d_pickF (wn rfl) (hk 52 rfl) (hk 61 rfl) ⟨SM.refl _, rfl⟩) ?_
          exact each_nil
         intro f400 a401 w402 hS403 hC404 hA405
         have hA406 : St 175 [(0, (.slice ao code.length cap)), (2, (.slice ao2 rds.length cap2)), (8, ev90), (9, pa91), (12, (.int .i64 ((usedN E94 j216 : Nat) : Int))), (13, (.int .i64 ((j216 : Nat) : Int))), (14, (.pointer (some ⟨g266, 0, none⟩))), (159, (.bool false))] a401 := hA405.cut _ (fm_cons (hA405.get 0 _ rfl) (fm_cons (hA405.get 2 _ rfl) (fm_cons (hA405.get 8 _ rfl) (fm_cons (hA405.get 9 _ rfl) (fm_cons (hA405.get 12 _ rfl) (fm_cons (hA405.get 13 _ rfl) (fm_cons (hA405.get 14 _ rfl) (fm_cons ((hA405.get 159 _ rfl).trans (hC404 62 (Nat.le_of_ble_eq_true rfl))) fm_nil))))))))
         have m407 := m278.sm hS403 hM399
         have b408 := hS403.below b280 b280.size hM398B
         have hr409 := range_sm hr291 hS403 (Nat.lt_of_lt_of_le lt290 b280.size) (hM398B _ lt290)
         have hr410 := range_sm hr312 hS403 (Nat.lt_of_lt_of_le lt311 b280.size) (hM398B _ lt311)
         have hr411 := range_sm hr317 hS403 (Nat.lt_of_lt_of_le lt316 b280.size) (hM398B _ lt316)
         refine t_norm ?_
         refine c_false hA406 rfl ?_
         refine wp_skip ?_
         refine t_norm ?_
         refine wp_seq ?_
         refine wp_region_lit ?_
         refine q_step hA406 rfl (d_fieldAddr (wn rfl) (hA406.ev rfl) fo52_5 ?_)
         intro a412 hA413
         refine q_step hA413 rfl (d_load (v := (.bool (rdB c248))) (wn rfl) (hA413.ev rfl) one4 (m407.cell rfl) ?_)
         intro a414 hA415
         refine q_end ?_
         have hA416 : St 175 [(0, (.slice ao code.length cap)), (2, (.slice ao2 rds.length cap2)), (8, ev90), (9, pa91), (12, (.int .i64 ((usedN E94 j216 : Nat) : Int))), (13, (.int .i64 ((j216 : Nat) : Int))), (161, (.bool (rdB c248)))] a414 := hA415.cut _ (fm_cons (hA415.get 0 _ rfl) (fm_cons (hA415.get 2 _ rfl) (fm_cons (hA415.get 8 _ rfl) (fm_cons (hA415.get 9 _ rfl) (fm_cons (hA415.get 12 _ rfl) (fm_cons (hA415.get 13 _ rfl) (fm_cons (hA415.get 161 _ rfl) fm_nil)))))))
         refine t_norm ?_
         have hA417 : St 175 [(0, (.slice ao code.length cap)), (2, (.slice ao2 rds.length cap2)), (8, ev90), (9, pa91), (12, (.int .i64 ((usedN E94 j216 : Nat) : Int))), (13, (.int .i64 ((j216 : Nat) : Int))), (161, (.bool false))] a414 := hA416.cut _ (fm_cons (hA416.get 0 _ rfl) (fm_cons (hA416.get 2 _ rfl) (fm_cons (hA416.get 8 _ rfl) (fm_cons (hA416.get 9 _ rfl) (fm_cons (hA416.get 12 _ rfl) (fm_cons (hA416.get 13 _ rfl) (fm_cons ((hA416.get 161 _ rfl).trans (congrArg Value.bool hb319)) fm_nil)))))))
         refine c_false hA417 rfl ?_
         refine wp_skip ?_
         refine i_norm ?_
         refine t_norm ?_
         refine wp_region_lit ?_
         refine q_step hA417 rfl (d_move (wn rfl) (hA417.ev rfl) ?_)
         intro a418 hA419
         refine q_step hA419 rfl (d_bin (wn rfl) (hA419.ev rfl) (hA419.ev rfl) (b_add _ _ ((j216 : Nat) : Int) 1 _ (by omega) (by omega)) ?_)
         intro a420 hA421
         refine q_step hA421 rfl (d_assign (wn rfl) (hA421.ev rfl) ?_)
         intro a422 hA423
         refine q_end ?_
         have hA424 : St 175 [(0, (.slice ao code.length cap)), (2, (.slice ao2 rds.length cap2)), (8, ev90), (9, pa91), (12, (.int .i64 ((usedN E94 j216 : Nat) : Int))), (13, (.int .i64 (((j216 : Nat) : Int) + 1)))] a422 := hA423.cut _ (fm_cons (hA423.get 0 _ rfl) (fm_cons (hA423.get 2 _ rfl) (fm_cons (hA423.get 8 _ rfl) (fm_cons (hA423.get 9 _ rfl) (fm_cons (hA423.get 12 _ rfl) (fm_cons (hA423.get 13 _ rfl) fm_nil))))))
         refine t_norm ?_
         exact ⟨E94.length - (j216 + 1), (by rw [hm222]; omega), j216 + 1, rfl, (by omega), hA424.cut _ (fm_cons (hA424.get 0 _ rfl) (fm_cons (hA424.get 2 _ rfl) (fm_cons (hA424.get 8 _ rfl) (fm_cons (hA424.get 9 _ rfl) (fm_cons ((hA424.get 12 _ rfl).trans (congrArg (Value.int .i64) (by have h := used_at hy240; simp [hb319] at h; omega))) (fm_cons ((hA424.get 13 _ rfl).trans (congrArg (Value.int .i64) (by omega))) fm_nil)))))), b408⟩
        ·skip
         have hA426 : St 175 [(0, (.slice ao code.length cap)), (2, (.slice ao2 rds.length cap2)), (8, ev90), (9, pa91), (12, (.int .i64 ((usedN E94 j216 : Nat) : Int))), (13, (.int .i64 ((j216 : Nat) : Int))), (14, (.pointer (some ⟨g266, 0, none⟩)))] a281 := hA283.cut _ (fm_cons (hA283.get 0 _ rfl) (fm_cons (hA283.get 2 _ rfl) (fm_cons (hA283.get 8 _ rfl) (fm_cons (hA283.get 9 _ rfl) (fm_cons (hA283.get 12 _ rfl) (fm_cons (hA283.get 13 _ rfl) (fm_cons (hA283.get 14 _ rfl) fm_nil)))))))
         let M427 : Nat → Option (Array Value) := fun _ => none
         have hM427 : M427 = fun _ => none := rfl
         clear_value M427
         have hM428 : M427 g266 = none := (congrFun hM427 g266)
         have hM427B : ∀ k, k < w77.heap.size → M427 k = none := (fun k hk => (congrFun hM427 k))
         refine drawn (S := SM M427) (tabL [cv (.int .i64 ((j216 : Nat) : Int)), cv (.bool true), cv (.bool true), cv (.pointer (some ⟨g266, 1, none⟩)), cv (.int .i64 ((k246 : Nat) : Int)), cv ev90, cv (.int .i64 ((j216 : Nat) : Int)), cv (.int .i64 ((j216 - 1 : Nat) : Int)), cv (.pointer (some ⟨b288, o289, none⟩)), cv (.pointer (some ⟨b288, o289 + 1, none⟩)), cv (.int .i64 ((k293 : Nat) : Int)), cv (.bool false), cv (.bool false), cv (.bool false), cv (.pointer (some ⟨g266, 1, none⟩)), cv (.int .i64 ((k246 : Nat) : Int)), cv pa91, cv (.int .i64 ((Pa96.length : Nat) : Int)), cv (.bool false), cv (.bool false), cv (.bool false), cv pa91, cv (.pointer (some ⟨g266, 1, none⟩)), cv (.int .i64 ((k246 : Nat) : Int)), cv (.pointer (some ⟨b309, o310, none⟩)), cv (.int .i64 ((a247 : Nat) : Int)), cv (.pointer (some ⟨g266, 2, none⟩)), cv (.int .i64 ((a247 : Nat) : Int)), cv (.bool false), cv (.bool false), cv (.bool false), cv (.slice ao code.length cap), cv (.pointer (some ⟨g266, 2, none⟩)), cv (.int .i64 ((a247 : Nat) : Int)), cv (.pointer (some ⟨b314, o315, none⟩)), cv (.pointer (some ⟨b314, o315, none⟩)), cv (.int .i64 c248.op), cv (.pointer (some ⟨g266, 3, none⟩)), cv (.int .i64 c248.op), cv (.bool false), cv (.bool false), cv (.bool false), cv (.pointer (some ⟨g266, 6, none⟩)), cv (.bool false), cv (.slice ao code.length cap), cv (.pointer (some ⟨g266, 2, none⟩)), cv (.int .i64 ((a247 : Nat) : Int)), cv (.pointer (some ⟨b314, o315, none⟩)), cv (.agg (insC c248)), cv (.bool false), cv (.bool false), cv (.bool false), cv (.bool false), cv (.pointer (some ⟨g266, 7, none⟩)), cv (.bool false), cv (.slice ao code.length cap), cv (.pointer (some ⟨g266, 2, none⟩)), cv (.int .i64 ((a247 : Nat) : Int)), cv (.pointer (some ⟨b314, o315, none⟩)), cv (.agg (insC c248)), cv (.bool false), cv (.bool false), cv (.bool false)]) mixedY SM.refl SM.trans SM.drew hA426 (by kernel_rfl) ?_ ?_
         ·skip
          refine each_cons (fun x y hS hT hk => d_move (wn rfl) (hT.ev rfl) ⟨SM.refl _, rfl⟩) ?_
          refine each_cons (fun x y hS hT hk => d_bin (wn rfl) (hk 0 rfl) (hT.ev rfl) (b_gt _ _ ((j216 : Nat) : Int) 0 true _ hb284) ⟨SM.refl _, rfl⟩) ?_
          refine each_cons (fun x y hS hT hk => d_move (wn rfl) (hk 1 rfl) ⟨SM.refl _, rfl⟩) ?_
          refine each_cons (fun x y hS hT hk => d_fieldAddr (wy rfl rfl (hk 2 rfl)) (hT.ev rfl) fo52_1 ⟨SM.refl _, rfl⟩) ?_
          refine each_cons (fun x y hS hT hk => d_load (v := (.int .i64 ((k246 : Nat) : Int))) (wy rfl rfl (hk 2 rfl)) (hk 3 rfl) one3 ((Blk.sm (w := w276.drew) m278 hS hM428).cell rfl) ⟨SM.refl _, rfl⟩) ?_
          refine each_cons (fun x y hS hT hk => d_move (wy rfl rfl (hk 2 rfl)) (hT.ev rfl) ⟨SM.refl _, rfl⟩) ?_
          refine each_cons (fun x y hS hT hk => d_move (wy rfl rfl (hk 2 rfl)) (hT.ev rfl) ⟨SM.refl _, rfl⟩) ?_
          refine each_cons (fun x y hS hT hk => d_bin (wy rfl rfl (hk 2 rfl)) (hk 6 rfl) (hT.ev rfl) (b_subn _ _ j216 _ _ (by omega) (by omega)) ⟨SM.refl _, rfl⟩) ?_
          refine each_cons (fun x y hS hT hk => d_indexAt (j := j216 - 1) (wy rfl rfl (hk 2 rfl)) (hk 5 rfl) (hk 7 rfl) slc44 hix292 (get_lt hy287) ⟨SM.refl _, rfl⟩) ?_
          refine each_cons (fun x y hS hT hk => d_fieldAddr (wy rfl rfl (hk 2 rfl)) (hk 8 rfl) fo52_1 ⟨SM.refl _, rfl⟩) ?_
          refine each_cons (fun x y hS hT hk => d_load (v := (.int .i64 ((k293 : Nat) : Int))) (wy rfl rfl (hk 2 rfl)) (hk 9 rfl) one3 ((range_sm (w := w276.drew) hr291 hS (Nat.lt_of_lt_of_le lt290 b280.size) (hM427B _ lt290)) 1 _ rfl) ⟨SM.refl _, rfl⟩) ?_
          refine each_cons (fun x y hS hT hk => d_bin (wy rfl rfl (hk 2 rfl)) (hk 4 rfl) (hk 10 rfl) (b_le _ _ ((k246 : Nat) : Int) ((k293 : Nat) : Int) false _ (decide_eq_false (by have := ger (j216 - 1) _ _ hy287 (by rw [show j216 - 1 + 1 = j216 by omega]; exact hy240); simp only at this; omega))) ⟨SM.refl _, rfl⟩) ?_
          refine each_cons (fun x y hS hT hk => d_pickT (wn rfl) (hk 2 rfl) (hk 11 rfl) ⟨SM.refl _, rfl⟩) ?_
          refine each_cons (fun x y hS hT hk => d_move (wn rfl) (hk 12 rfl) ⟨SM.refl _, rfl⟩) ?_
          refine each_cons (fun x y hS hT hk => d_fieldAddr (wy rfl rfl (hk 13 rfl)) (hT.ev rfl) fo52_1 ⟨SM.refl _, rfl⟩) ?_
          refine each_cons (fun x y hS hT hk => d_load (v := (.int .i64 ((k246 : Nat) : Int))) (wy rfl rfl (hk 13 rfl)) (hk 14 rfl) one3 ((Blk.sm (w := w276.drew) m278 hS hM428).cell rfl) ⟨SM.refl _, rfl⟩) ?_
          refine each_cons (fun x y hS hT hk => d_move (wy rfl rfl (hk 13 rfl)) (hT.ev rfl) ⟨SM.refl _, rfl⟩) ?_
          refine each_cons (fun x y hS hT hk => d_len (n := Pa96.length) (wy rfl rfl (hk 13 rfl)) (hk 16 rfl) slc30 hsP106.form ⟨SM.refl _, rfl⟩) ?_
          refine each_cons (fun x y hS hT hk => d_bin (wy rfl rfl (hk 13 rfl)) (hk 15 rfl) (hk 17 rfl) (b_ge _ _ ((k246 : Nat) : Int) ((Pa96.length : Nat) : Int) false _ (decide_eq_false (by omega))) ⟨SM.refl _, rfl⟩) ?_
          refine each_cons (fun x y hS hT hk => d_pickF (wn rfl) (hk 13 rfl) (hk 18 rfl) ⟨SM.refl _, rfl⟩) ?_
          refine each_cons (fun x y hS hT hk => d_move (wn rfl) (hk 19 rfl) ⟨SM.refl _, rfl⟩) ?_
          refine each_cons (fun x y hS hT hk => d_move (wy rfl rfl (hk 20 rfl)) (hT.ev rfl) ⟨SM.refl _, rfl⟩) ?_
          refine each_cons (fun x y hS hT hk => d_fieldAddr (wy rfl rfl (hk 20 rfl)) (hT.ev rfl) fo52_1 ⟨SM.refl _, rfl⟩) ?_
          refine each_cons (fun x y hS hT hk => d_load (v := (.int .i64 ((k246 : Nat) : Int))) (wy rfl rfl (hk 20 rfl)) (hk 22 rfl) one3 ((Blk.sm (w := w276.drew) m278 hS hM428).cell rfl) ⟨SM.refl _, rfl⟩) ?_
          refine each_cons (fun x y hS hT hk => d_indexAt (j := k246) (wy rfl rfl (hk 20 rfl)) (hk 21 rfl) (hk 23 rfl) slc30 hix313 (get_lt hpk260) ⟨SM.refl _, rfl⟩) ?_
          refine each_cons (fun x y hS hT hk => d_load (v := (.int .i64 ((a247 : Nat) : Int))) (wy rfl rfl (hk 20 rfl)) (hk 24 rfl) one3 ((range_sm (w := w276.drew) hr312 hS (Nat.lt_of_lt_of_le lt311 b280.size) (hM427B _ lt311)) 0 _ rfl) ⟨SM.refl _, rfl⟩) ?_
          refine each_cons (fun x y hS hT hk => d_fieldAddr (wy rfl rfl (hk 20 rfl)) (hT.ev rfl) fo52_2 ⟨SM.refl _, rfl⟩) ?_
          refine each_cons (fun x y hS hT hk => d_load (v := (.int .i64 ((a247 : Nat) : Int))) (wy rfl rfl (hk 20 rfl)) (hk 26 rfl) one3 ((Blk.sm (w := w276.drew) m278 hS hM428).cell rfl) ⟨SM.refl _, rfl⟩) ?_
          refine each_cons (fun x y hS hT hk => d_bin (wy rfl rfl (hk 20 rfl)) (hk 25 rfl) (hk 27 rfl) (b_ne _ _ ((a247 : Nat) : Int) ((a247 : Nat) : Int) false _ (notof (beq_self_eq_true _))) ⟨SM.refl _, rfl⟩) ?_
          refine each_cons (fun x y hS hT hk => d_pickF (wn rfl) (hk 20 rfl) (hk 28 rfl) ⟨SM.refl _, rfl⟩) ?_
          refine each_cons (fun x y hS hT hk => d_move (wn rfl) (hk 29 rfl) ⟨SM.refl _, rfl⟩) ?_
          refine each_cons (fun x y hS hT hk => d_move (wy rfl rfl (hk 30 rfl)) (hT.ev rfl) ⟨SM.refl _, rfl⟩) ?_
          refine each_cons (fun x y hS hT hk => d_fieldAddr (wy rfl rfl (hk 30 rfl)) (hT.ev rfl) fo52_2 ⟨SM.refl _, rfl⟩) ?_
          refine each_cons (fun x y hS hT hk => d_load (v := (.int .i64 ((a247 : Nat) : Int))) (wy rfl rfl (hk 30 rfl)) (hk 32 rfl) one3 ((Blk.sm (w := w276.drew) m278 hS hM428).cell rfl) ⟨SM.refl _, rfl⟩) ?_
          refine each_cons (fun x y hS hT hk => d_indexAt (j := a247) (wy rfl rfl (hk 30 rfl)) (hk 31 rfl) (hk 33 rfl) slc35 hix318 (get_lt hca261) ⟨SM.refl _, rfl⟩) ?_
          refine each_cons (fun x y hS hT hk => d_fieldAddr (wy rfl rfl (hk 30 rfl)) (hk 34 rfl) fo23_0 ⟨SM.refl _, rfl⟩) ?_
          refine each_cons (fun x y hS hT hk => d_load (v := (.int .i64 c248.op)) (wy rfl rfl (hk 30 rfl)) (hk 35 rfl) one3 ((range_sm (w := w276.drew) hr317 hS (Nat.lt_of_lt_of_le lt316 b280.size) (hM427B _ lt316)) 0 _ rfl) ⟨SM.refl _, rfl⟩) ?_
          refine each_cons (fun x y hS hT hk => d_fieldAddr (wy rfl rfl (hk 30 rfl)) (hT.ev rfl) fo52_3 ⟨SM.refl _, rfl⟩) ?_
          refine each_cons (fun x y hS hT hk => d_load (v := (.int .i64 c248.op)) (wy rfl rfl (hk 30 rfl)) (hk 37 rfl) one3 ((Blk.sm (w := w276.drew) m278 hS hM428).cell rfl) ⟨SM.refl _, rfl⟩) ?_
          refine each_cons (fun x y hS hT hk => d_bin (wy rfl rfl (hk 30 rfl)) (hk 36 rfl) (hk 38 rfl) (b_ne _ _ c248.op c248.op false _ (notof (beq_self_eq_true _))) ⟨SM.refl _, rfl⟩) ?_
          refine each_cons (fun x y hS hT hk => d_pickF (wn rfl) (hk 30 rfl) (hk 39 rfl) ⟨SM.refl _, rfl⟩) ?_
          refine each_cons (fun x y hS hT hk => d_move (wn rfl) (hk 40 rfl) ⟨SM.refl _, rfl⟩) ?_
          refine each_cons (fun x y hS hT hk => d_fieldAddr (wy rfl rfl (hk 41 rfl)) (hT.ev rfl) fo52_5 ⟨SM.refl _, rfl⟩) ?_
          refine each_cons (fun x y hS hT hk => d_load (v := (.bool false)) (wy rfl rfl (hk 41 rfl)) (hk 42 rfl) one4 ((Blk.sm (w := w276.drew) m278 hS hM428).cell (congrArg (fun b => some (Value.bool b)) hb319)) ⟨SM.refl _, rfl⟩) ?_
          refine each_cons (fun x y hS hT hk => d_move (wy rfl rfl (hk 41 rfl)) (hT.ev rfl) ⟨SM.refl _, rfl⟩) ?_
          refine each_cons (fun x y hS hT hk => d_fieldAddr (wy rfl rfl (hk 41 rfl)) (hT.ev rfl) fo52_2 ⟨SM.refl _, rfl⟩) ?_
          refine each_cons (fun x y hS hT hk => d_load (v := (.int .i64 ((a247 : Nat) : Int))) (wy rfl rfl (hk 41 rfl)) (hk 45 rfl) one3 ((Blk.sm (w := w276.drew) m278 hS hM428).cell rfl) ⟨SM.refl _, rfl⟩) ?_
          refine each_cons (fun x y hS hT hk => d_indexAt (j := a247) (wy rfl rfl (hk 41 rfl)) (hk 44 rfl) (hk 46 rfl) slc35 hix318 (get_lt hca261) ⟨SM.refl _, rfl⟩) ?_
          refine each_cons (fun x y hS hT hk => d_loadMid (cs := (insC c248)) (wy rfl rfl (hk 41 rfl)) (hk 47 rfl) row23 (range_sm (w := w276.drew) hr317 hS (Nat.lt_of_lt_of_le lt316 b280.size) (hM427B _ lt316)) ⟨SM.refl _, rfl⟩) ?_
          refine each_cons (fun x y hS hT hk => d_call (wy rfl rfl (hk 41 rfl)) ent11 (map1 (show x.eval _ = (.agg (insC c248)) from (hk 48 rfl))) (reads_any c248 y) (fun _ _ ⟨he, hG⟩ => ⟨(.bool false), (he.trans (ret_bool hb319)), SM.grow hG, rfl⟩)) ?_
          refine each_cons (fun x y hS hT hk => d_bin (wy rfl rfl (hk 41 rfl)) (hk 43 rfl) (hk 49 rfl) (b_neb _ _ false false false _ Try.underlying4 rfl) ⟨SM.refl _, rfl⟩) ?_
          refine each_cons (fun x y hS hT hk => d_pickF (wn rfl) (hk 41 rfl) (hk 50 rfl) ⟨SM.refl _, rfl⟩) ?_
          refine each_cons (fun x y hS hT hk => d_move (wn rfl) (hk 51 rfl) ⟨SM.refl _, rfl⟩) ?_
          refine each_cons (fun x y hS hT hk => d_fieldAddr (wy rfl rfl (hk 52 rfl)) (hT.ev rfl) fo52_6 ⟨SM.refl _, rfl⟩) ?_
          refine each_cons (fun x y hS hT hk => d_load (v := (.bool false)) (wy rfl rfl (hk 52 rfl)) (hk 53 rfl) one4 ((Blk.sm (w := w276.drew) m278 hS hM428).cell (congrArg (fun b => some (Value.bool b)) hb395)) ⟨SM.refl _, rfl⟩) ?_
          refine each_cons (fun x y hS hT hk => d_move (wy rfl rfl (hk 52 rfl)) (hT.ev rfl) ⟨SM.refl _, rfl⟩) ?_
          refine each_cons (fun x y hS hT hk => d_fieldAddr (wy rfl rfl (hk 52 rfl)) (hT.ev rfl) fo52_2 ⟨SM.refl _, rfl⟩) ?_
          refine each_cons (fun x y hS hT hk => d_load (v := (.int .i64 ((a247 : Nat) : Int))) (wy rfl rfl (hk 52 rfl)) (hk 56 rfl) one3 ((Blk.sm (w := w276.drew) m278 hS hM428).cell rfl) ⟨SM.refl _, rfl⟩) ?_
          refine each_cons (fun x y hS hT hk => d_indexAt (j := a247) (wy rfl rfl (hk 52 rfl)) (hk 55 rfl) (hk 57 rfl) slc35 hix318 (get_lt hca261) ⟨SM.refl _, rfl⟩) ?_
          refine each_cons (fun x y hS hT hk => d_loadMid (cs := (insC c248)) (wy rfl rfl (hk 52 rfl)) (hk 58 rfl) row23 (range_sm (w := w276.drew) hr317 hS (Nat.lt_of_lt_of_le lt316 b280.size) (hM427B _ lt316)) ⟨SM.refl _, rfl⟩) ?_
          refine each_cons (fun x y hS hT hk => d_call (wy rfl rfl (hk 52 rfl)) ent13 (map1 (show x.eval _ = (.agg (insC c248)) from (hk 59 rfl))) (writes_any c248 y) (fun _ _ ⟨he, hG⟩ => ⟨(.bool false), (he.trans (ret_bool hb395)), SM.grow hG, rfl⟩)) ?_
          refine each_cons (fun x y hS hT hk => d_bin (wy rfl rfl (hk 52 rfl)) (hk 54 rfl) (hk 60 rfl) (b_neb _ _ false false false _ Try.underlying4 rfl) ⟨SM.refl _, rfl⟩) ?_
          refine each_cons (fun x y hS hT hk => d_pickF (wn rfl) (hk 52 rfl) (hk 61 rfl) ⟨SM.refl _, rfl⟩) ?_
          exact each_nil
         intro f429 a430 w431 hS432 hC433 hA434
         have hA435 : St 175 [(0, (.slice ao code.length cap)), (2, (.slice ao2 rds.length cap2)), (8, ev90), (9, pa91), (12, (.int .i64 ((usedN E94 j216 : Nat) : Int))), (13, (.int .i64 ((j216 : Nat) : Int))), (14, (.pointer (some ⟨g266, 0, none⟩))), (159, (.bool false))] a430 := hA434.cut _ (fm_cons (hA434.get 0 _ rfl) (fm_cons (hA434.get 2 _ rfl) (fm_cons (hA434.get 8 _ rfl) (fm_cons (hA434.get 9 _ rfl) (fm_cons (hA434.get 12 _ rfl) (fm_cons (hA434.get 13 _ rfl) (fm_cons (hA434.get 14 _ rfl) (fm_cons ((hA434.get 159 _ rfl).trans (hC433 62 (Nat.le_of_ble_eq_true rfl))) fm_nil))))))))
         have m436 := m278.sm hS432 hM428
         have b437 := hS432.below b280 b280.size hM427B
         have hr438 := range_sm hr291 hS432 (Nat.lt_of_lt_of_le lt290 b280.size) (hM427B _ lt290)
         have hr439 := range_sm hr312 hS432 (Nat.lt_of_lt_of_le lt311 b280.size) (hM427B _ lt311)
         have hr440 := range_sm hr317 hS432 (Nat.lt_of_lt_of_le lt316 b280.size) (hM427B _ lt316)
         refine t_norm ?_
         refine c_false hA435 rfl ?_
         refine wp_skip ?_
         refine t_norm ?_
         refine wp_seq ?_
         refine wp_region_lit ?_
         refine q_step hA435 rfl (d_fieldAddr (wn rfl) (hA435.ev rfl) fo52_5 ?_)
         intro a441 hA442
         refine q_step hA442 rfl (d_load (v := (.bool (rdB c248))) (wn rfl) (hA442.ev rfl) one4 (m436.cell rfl) ?_)
         intro a443 hA444
         refine q_end ?_
         have hA445 : St 175 [(0, (.slice ao code.length cap)), (2, (.slice ao2 rds.length cap2)), (8, ev90), (9, pa91), (12, (.int .i64 ((usedN E94 j216 : Nat) : Int))), (13, (.int .i64 ((j216 : Nat) : Int))), (161, (.bool (rdB c248)))] a443 := hA444.cut _ (fm_cons (hA444.get 0 _ rfl) (fm_cons (hA444.get 2 _ rfl) (fm_cons (hA444.get 8 _ rfl) (fm_cons (hA444.get 9 _ rfl) (fm_cons (hA444.get 12 _ rfl) (fm_cons (hA444.get 13 _ rfl) (fm_cons (hA444.get 161 _ rfl) fm_nil)))))))
         refine t_norm ?_
         have hA446 : St 175 [(0, (.slice ao code.length cap)), (2, (.slice ao2 rds.length cap2)), (8, ev90), (9, pa91), (12, (.int .i64 ((usedN E94 j216 : Nat) : Int))), (13, (.int .i64 ((j216 : Nat) : Int))), (161, (.bool false))] a443 := hA445.cut _ (fm_cons (hA445.get 0 _ rfl) (fm_cons (hA445.get 2 _ rfl) (fm_cons (hA445.get 8 _ rfl) (fm_cons (hA445.get 9 _ rfl) (fm_cons (hA445.get 12 _ rfl) (fm_cons (hA445.get 13 _ rfl) (fm_cons ((hA445.get 161 _ rfl).trans (congrArg Value.bool hb319)) fm_nil)))))))
         refine c_false hA446 rfl ?_
         refine wp_skip ?_
         refine i_norm ?_
         refine t_norm ?_
         refine wp_region_lit ?_
         refine q_step hA446 rfl (d_move (wn rfl) (hA446.ev rfl) ?_)
         intro a447 hA448
         refine q_step hA448 rfl (d_bin (wn rfl) (hA448.ev rfl) (hA448.ev rfl) (b_add _ _ ((j216 : Nat) : Int) 1 _ (by omega) (by omega)) ?_)
         intro a449 hA450
         refine q_step hA450 rfl (d_assign (wn rfl) (hA450.ev rfl) ?_)
         intro a451 hA452
         refine q_end ?_
         have hA453 : St 175 [(0, (.slice ao code.length cap)), (2, (.slice ao2 rds.length cap2)), (8, ev90), (9, pa91), (12, (.int .i64 ((usedN E94 j216 : Nat) : Int))), (13, (.int .i64 (((j216 : Nat) : Int) + 1)))] a451 := hA452.cut _ (fm_cons (hA452.get 0 _ rfl) (fm_cons (hA452.get 2 _ rfl) (fm_cons (hA452.get 8 _ rfl) (fm_cons (hA452.get 9 _ rfl) (fm_cons (hA452.get 12 _ rfl) (fm_cons (hA452.get 13 _ rfl) fm_nil))))))
         refine t_norm ?_
         exact ⟨E94.length - (j216 + 1), (by rw [hm222]; omega), j216 + 1, rfl, (by omega), hA453.cut _ (fm_cons (hA453.get 0 _ rfl) (fm_cons (hA453.get 2 _ rfl) (fm_cons (hA453.get 8 _ rfl) (fm_cons (hA453.get 9 _ rfl) (fm_cons ((hA453.get 12 _ rfl).trans (congrArg (Value.int .i64) (by have h := used_at hy240; simp [hb319] at h; omega))) (fm_cons ((hA453.get 13 _ rfl).trans (congrArg (Value.int .i64) (by omega))) fm_nil)))))), b437⟩
      ·skip
       have hq454 := of_decide_eq_false hb284
       obtain ⟨b455, o456, lt457, hr458, hix459⟩ := (hsP106.below b280).at hpk260
       obtain ⟨b460, o461, lt462, hr463, hix464⟩ := (hs103.below b280).at hca261
       rcases Bool.eq_false_or_eq_true (rdB c248) with hb465 | hb465
       ·skip
        rcases Bool.eq_false_or_eq_true (wrB c248) with hb467 | hb467
        ·skip
         have hA469 : St 175 [(0, (.slice ao code.length cap)), (2, (.slice ao2 rds.length cap2)), (8, ev90), (9, pa91), (12, (.int .i64 ((usedN E94 j216 : Nat) : Int))), (13, (.int .i64 ((j216 : Nat) : Int))), (14, (.pointer (some ⟨g266, 0, none⟩)))] a281 := hA283.cut _ (fm_cons (hA283.get 0 _ rfl) (fm_cons (hA283.get 2 _ rfl) (fm_cons (hA283.get 8 _ rfl) (fm_cons (hA283.get 9 _ rfl) (fm_cons (hA283.get 12 _ rfl) (fm_cons (hA283.get 13 _ rfl) (fm_cons (hA283.get 14 _ rfl) fm_nil)))))))
         let M470 : Nat → Option (Array Value) := fun _ => none
         have hM470 : M470 = fun _ => none := rfl
         clear_value M470
         have hM471 : M470 g266 = none := (congrFun hM470 g266)
         have hM470B : ∀ k, k < w77.heap.size → M470 k = none := (fun k hk => (congrFun hM470 k))
         refine drawn (S := SM M470) (tabL [cv (.int .i64 ((j216 : Nat) : Int)), cv (.bool false), cv (.bool false), cv undef, cv undef, cv undef, cv undef, cv undef, cv undef, cv undef, cv undef, cv undef, cv (.bool false), cv (.bool false), cv (.pointer (some ⟨g266, 1, none⟩)), cv (.int .i64 ((k246 : Nat) : Int)), cv pa91, cv (.int .i64 ((Pa96.length : Nat) : Int)), cv (.bool false), cv (.bool false), cv (.bool false), cv pa91, cv (.pointer (some ⟨g266, 1, none⟩)), cv (.int .i64 ((k246 : Nat) : Int)), cv (.pointer (some ⟨b455, o456, none⟩)), cv (.int .i64 ((a247 : Nat) : Int)), cv (.pointer (some ⟨g266, 2, none⟩)), cv (.int .i64 ((a247 : Nat) : Int)), cv (.bool false), cv (.bool false), cv (.bool false), cv (.slice ao code.length cap), cv (.pointer (some ⟨g266, 2, none⟩)), cv (.int .i64 ((a247 : Nat) : Int)), cv (.pointer (some ⟨b460, o461, none⟩)), cv (.pointer (some ⟨b460, o461, none⟩)), cv (.int .i64 c248.op), cv (.pointer (some ⟨g266, 3, none⟩)), cv (.int .i64 c248.op), cv (.bool false), cv (.bool false), cv (.bool false), cv (.pointer (some ⟨g266, 6, none⟩)), cv (.bool true), cv (.slice ao code.length cap), cv (.pointer (some ⟨g266, 2, none⟩)), cv (.int .i64 ((a247 : Nat) : Int)), cv (.pointer (some ⟨b460, o461, none⟩)), cv (.agg (insC c248)), cv (.bool true), cv (.bool false), cv (.bool false), cv (.bool false), cv (.pointer (some ⟨g266, 7, none⟩)), cv (.bool true), cv (.slice ao code.length cap), cv (.pointer (some ⟨g266, 2, none⟩)), cv (.int .i64 ((a247 : Nat) : Int)), cv (.pointer (some ⟨b460, o461, none⟩)), cv (.agg (insC c248)), cv (.bool true), cv (.bool false), cv (.bool false)]) mixedY SM.refl SM.trans SM.drew hA469 (by kernel_rfl) ?_ ?_
         ·skip
          refine each_cons (fun x y hS hT hk => d_move (wn rfl) (hT.ev rfl) ⟨SM.refl _, rfl⟩) ?_
          refine each_cons (fun x y hS hT hk => d_bin (wn rfl) (hk 0 rfl) (hT.ev rfl) (b_gt _ _ ((j216 : Nat) : Int) 0 false _ hb284) ⟨SM.refl _, rfl⟩) ?_
          refine each_cons (fun x y hS hT hk => d_move (wn rfl) (hk 1 rfl) ⟨SM.refl _, rfl⟩) ?_
          refine each_cons (fun x y hS hT hk => does_not (wno rfl rfl (.inl (hk 2 rfl))) ⟨SM.refl _, rfl⟩) ?_
          refine each_cons (fun x y hS hT hk => does_not (wno rfl rfl (.inl (hk 2 rfl))) ⟨SM.refl _, rfl⟩) ?_
          refine each_cons (fun x y hS hT hk => does_not (wno rfl rfl (.inl (hk 2 rfl))) ⟨SM.refl _, rfl⟩) ?_
          refine each_cons (fun x y hS hT hk => does_not (wno rfl rfl (.inl (hk 2 rfl))) ⟨SM.refl _, rfl⟩) ?_
          refine each_cons (fun x y hS hT hk => does_not (wno rfl rfl (.inl (hk 2 rfl))) ⟨SM.refl _, rfl⟩) ?_
          refine each_cons (fun x y hS hT hk => does_not (wno rfl rfl (.inl (hk 2 rfl))) ⟨SM.refl _, rfl⟩) ?_
          refine each_cons (fun x y hS hT hk => does_not (wno rfl rfl (.inl (hk 2 rfl))) ⟨SM.refl _, rfl⟩) ?_
          refine each_cons (fun x y hS hT hk => does_not (wno rfl rfl (.inl (hk 2 rfl))) ⟨SM.refl _, rfl⟩) ?_
          refine each_cons (fun x y hS hT hk => does_not (wno rfl rfl (.inl (hk 2 rfl))) ⟨SM.refl _, rfl⟩) ?_
          refine each_cons (fun x y hS hT hk => d_pickF (wn rfl) (hk 2 rfl) (hT.ev rfl) ⟨SM.refl _, rfl⟩) ?_
          refine each_cons (fun x y hS hT hk => d_move (wn rfl) (hk 12 rfl) ⟨SM.refl _, rfl⟩) ?_
          refine each_cons (fun x y hS hT hk => d_fieldAddr (wy rfl rfl (hk 13 rfl)) (hT.ev rfl) fo52_1 ⟨SM.refl _, rfl⟩) ?_
          refine each_cons (fun x y hS hT hk => d_load (v := (.int .i64 ((k246 : Nat) : Int))) (wy rfl rfl (hk 13 rfl)) (hk 14 rfl) one3 ((Blk.sm (w := w276.drew) m278 hS hM471).cell rfl) ⟨SM.refl _, rfl⟩) ?_
          refine each_cons (fun x y hS hT hk => d_move (wy rfl rfl (hk 13 rfl)) (hT.ev rfl) ⟨SM.refl _, rfl⟩) ?_
          refine each_cons (fun x y hS hT hk => d_len (n := Pa96.length) (wy rfl rfl (hk 13 rfl)) (hk 16 rfl) slc30 hsP106.form ⟨SM.refl _, rfl⟩) ?_
          refine each_cons (fun x y hS hT hk => d_bin (wy rfl rfl (hk 13 rfl)) (hk 15 rfl) (hk 17 rfl) (b_ge _ _ ((k246 : Nat) : Int) ((Pa96.length : Nat) : Int) false _ (decide_eq_false (by omega))) ⟨SM.refl _, rfl⟩) ?_
          refine each_cons (fun x y hS hT hk => d_pickF (wn rfl) (hk 13 rfl) (hk 18 rfl) ⟨SM.refl _, rfl⟩) ?_
          refine each_cons (fun x y hS hT hk => d_move (wn rfl) (hk 19 rfl) ⟨SM.refl _, rfl⟩) ?_
          refine each_cons (fun x y hS hT hk => d_move (wy rfl rfl (hk 20 rfl)) (hT.ev rfl) ⟨SM.refl _, rfl⟩) ?_
          refine each_cons (fun x y hS hT hk => d_fieldAddr (wy rfl rfl (hk 20 rfl)) (hT.ev rfl) fo52_1 ⟨SM.refl _, rfl⟩) ?_
          refine each_cons (fun x y hS hT hk => d_load (v := (.int .i64 ((k246 : Nat) : Int))) (wy rfl rfl (hk 20 rfl)) (hk 22 rfl) one3 ((Blk.sm (w := w276.drew) m278 hS hM471).cell rfl) ⟨SM.refl _, rfl⟩) ?_
          refine each_cons (fun x y hS hT hk => d_indexAt (j := k246) (wy rfl rfl (hk 20 rfl)) (hk 21 rfl) (hk 23 rfl) slc30 hix459 (get_lt hpk260) ⟨SM.refl _, rfl⟩) ?_
          refine each_cons (fun x y hS hT hk => d_load (v := (.int .i64 ((a247 : Nat) : Int))) (wy rfl rfl (hk 20 rfl)) (hk 24 rfl) one3 ((range_sm (w := w276.drew) hr458 hS (Nat.lt_of_lt_of_le lt457 b280.size) (hM470B _ lt457)) 0 _ rfl) ⟨SM.refl _, rfl⟩) ?_
          refine each_cons (fun x y hS hT hk => d_fieldAddr (wy rfl rfl (hk 20 rfl)) (hT.ev rfl) fo52_2 ⟨SM.refl _, rfl⟩) ?_
          refine each_cons (fun x y hS hT hk => d_load (v := (.int .i64 ((a247 : Nat) : Int))) (wy rfl rfl (hk 20 rfl)) (hk 26 rfl) one3 ((Blk.sm (w := w276.drew) m278 hS hM471).cell rfl) ⟨SM.refl _, rfl⟩) ?_
          refine each_cons (fun x y hS hT hk => d_bin (wy rfl rfl (hk 20 rfl)) (hk 25 rfl) (hk 27 rfl) (b_ne _ _ ((a247 : Nat) : Int) ((a247 : Nat) : Int) false _ (notof (beq_self_eq_true _))) ⟨SM.refl _, rfl⟩) ?_
          refine each_cons (fun x y hS hT hk => d_pickF (wn rfl) (hk 20 rfl) (hk 28 rfl) ⟨SM.refl _, rfl⟩) ?_
          refine each_cons (fun x y hS hT hk => d_move (wn rfl) (hk 29 rfl) ⟨SM.refl _, rfl⟩) ?_
          refine each_cons (fun x y hS hT hk => d_move (wy rfl rfl (hk 30 rfl)) (hT.ev rfl) ⟨SM.refl _, rfl⟩) ?_
          refine each_cons (fun x y hS hT hk => d_fieldAddr (wy rfl rfl (hk 30 rfl)) (hT.ev rfl) fo52_2 ⟨SM.refl _, rfl⟩) ?_
          refine each_cons (fun x y hS hT hk => d_load (v := (.int .i64 ((a247 : Nat) : Int))) (wy rfl rfl (hk 30 rfl)) (hk 32 rfl) one3 ((Blk.sm (w := w276.drew) m278 hS hM471).cell rfl) ⟨SM.refl _, rfl⟩) ?_
          refine each_cons (fun x y hS hT hk => d_indexAt (j := a247) (wy rfl rfl (hk 30 rfl)) (hk 31 rfl) (hk 33 rfl) slc35 hix464 (get_lt hca261) ⟨SM.refl _, rfl⟩) ?_
          refine each_cons (fun x y hS hT hk => d_fieldAddr (wy rfl rfl (hk 30 rfl)) (hk 34 rfl) fo23_0 ⟨SM.refl _, rfl⟩) ?_
          refine each_cons (fun x y hS hT hk => d_load (v := (.int .i64 c248.op)) (wy rfl rfl (hk 30 rfl)) (hk 35 rfl) one3 ((range_sm (w := w276.drew) hr463 hS (Nat.lt_of_lt_of_le lt462 b280.size) (hM470B _ lt462)) 0 _ rfl) ⟨SM.refl _, rfl⟩) ?_
          refine each_cons (fun x y hS hT hk => d_fieldAddr (wy rfl rfl (hk 30 rfl)) (hT.ev rfl) fo52_3 ⟨SM.refl _, rfl⟩) ?_
          refine each_cons (fun x y hS hT hk => d_load (v := (.int .i64 c248.op)) (wy rfl rfl (hk 30 rfl)) (hk 37 rfl) one3 ((Blk.sm (w := w276.drew) m278 hS hM471).cell rfl) ⟨SM.refl _, rfl⟩) ?_
          refine each_cons (fun x y hS hT hk => d_bin (wy rfl rfl (hk 30 rfl)) (hk 36 rfl) (hk 38 rfl) (b_ne _ _ c248.op c248.op false _ (notof (beq_self_eq_true _))) ⟨SM.refl _, rfl⟩) ?_
          refine each_cons (fun x y hS hT hk => d_pickF (wn rfl) (hk 30 rfl) (hk 39 rfl) ⟨SM.refl _, rfl⟩) ?_
          refine each_cons (fun x y hS hT hk => d_move (wn rfl) (hk 40 rfl) ⟨SM.refl _, rfl⟩) ?_
          refine each_cons (fun x y hS hT hk => d_fieldAddr (wy rfl rfl (hk 41 rfl)) (hT.ev rfl) fo52_5 ⟨SM.refl _, rfl⟩) ?_
          refine each_cons (fun x y hS hT hk => d_load (v := (.bool true)) (wy rfl rfl (hk 41 rfl)) (hk 42 rfl) one4 ((Blk.sm (w := w276.drew) m278 hS hM471).cell (congrArg (fun b => some (Value.bool b)) hb465)) ⟨SM.refl _, rfl⟩) ?_
          refine each_cons (fun x y hS hT hk => d_move (wy rfl rfl (hk 41 rfl)) (hT.ev rfl) ⟨SM.refl _, rfl⟩) ?_
          refine each_cons (fun x y hS hT hk => d_fieldAddr (wy rfl rfl (hk 41 rfl)) (hT.ev rfl) fo52_2 ⟨SM.refl _, rfl⟩) ?_
          refine each_cons (fun x y hS hT hk => d_load (v := (.int .i64 ((a247 : Nat) : Int))) (wy rfl rfl (hk 41 rfl)) (hk 45 rfl) one3 ((Blk.sm (w := w276.drew) m278 hS hM471).cell rfl) ⟨SM.refl _, rfl⟩) ?_
          refine each_cons (fun x y hS hT hk => d_indexAt (j := a247) (wy rfl rfl (hk 41 rfl)) (hk 44 rfl) (hk 46 rfl) slc35 hix464 (get_lt hca261) ⟨SM.refl _, rfl⟩) ?_
          refine each_cons (fun x y hS hT hk => d_loadMid (cs := (insC c248)) (wy rfl rfl (hk 41 rfl)) (hk 47 rfl) row23 (range_sm (w := w276.drew) hr463 hS (Nat.lt_of_lt_of_le lt462 b280.size) (hM470B _ lt462)) ⟨SM.refl _, rfl⟩) ?_
          refine each_cons (fun x y hS hT hk => d_call (wy rfl rfl (hk 41 rfl)) ent11 (map1 (show x.eval _ = (.agg (insC c248)) from (hk 48 rfl))) (reads_any c248 y) (fun _ _ ⟨he, hG⟩ => ⟨(.bool true), (he.trans (ret_bool hb465)), SM.grow hG, rfl⟩)) ?_
          refine each_cons (fun x y hS hT hk => d_bin (wy rfl rfl (hk 41 rfl)) (hk 43 rfl) (hk 49 rfl) (b_neb _ _ true true false _ Try.underlying4 rfl) ⟨SM.refl _, rfl⟩) ?_
          refine each_cons (fun x y hS hT hk => d_pickF (wn rfl) (hk 41 rfl) (hk 50 rfl) ⟨SM.refl _, rfl⟩) ?_
          refine each_cons (fun x y hS hT hk => d_move (wn rfl) (hk 51 rfl) ⟨SM.refl _, rfl⟩) ?_
          refine each_cons (fun x y hS hT hk => d_fieldAddr (wy rfl rfl (hk 52 rfl)) (hT.ev rfl) fo52_6 ⟨SM.refl _, rfl⟩) ?_
          refine each_cons (fun x y hS hT hk => d_load (v := (.bool true)) (wy rfl rfl (hk 52 rfl)) (hk 53 rfl) one4 ((Blk.sm (w := w276.drew) m278 hS hM471).cell (congrArg (fun b => some (Value.bool b)) hb467)) ⟨SM.refl _, rfl⟩) ?_
          refine each_cons (fun x y hS hT hk => d_move (wy rfl rfl (hk 52 rfl)) (hT.ev rfl) ⟨SM.refl _, rfl⟩) ?_
          refine each_cons (fun x y hS hT hk => d_fieldAddr (wy rfl rfl (hk 52 rfl)) (hT.ev rfl) fo52_2 ⟨SM.refl _, rfl⟩) ?_
          refine each_cons (fun x y hS hT hk => d_load (v := (.int .i64 ((a247 : Nat) : Int))) (wy rfl rfl (hk 52 rfl)) (hk 56 rfl) one3 ((Blk.sm (w := w276.drew) m278 hS hM471).cell rfl) ⟨SM.refl _, rfl⟩) ?_
          refine each_cons (fun x y hS hT hk => d_indexAt (j := a247) (wy rfl rfl (hk 52 rfl)) (hk 55 rfl) (hk 57 rfl) slc35 hix464 (get_lt hca261) ⟨SM.refl _, rfl⟩) ?_
          refine each_cons (fun x y hS hT hk => d_loadMid (cs := (insC c248)) (wy rfl rfl (hk 52 rfl)) (hk 58 rfl) row23 (range_sm (w := w276.drew) hr463 hS (Nat.lt_of_lt_of_le lt462 b280.size) (hM470B _ lt462)) ⟨SM.refl _, rfl⟩) ?_
          refine each_cons (fun x y hS hT hk => d_call (wy rfl rfl (hk 52 rfl)) ent13 (map1 (show x.eval _ = (.agg (insC c248)) from (hk 59 rfl))) (writes_any c248 y) (fun _ _ ⟨he, hG⟩ => ⟨(.bool true), (he.trans (ret_bool hb467)), SM.grow hG, rfl⟩)) ?_
          refine each_cons (fun x y hS hT hk => d_bin (wy rfl rfl (hk 52 rfl)) (hk 54 rfl) (hk 60 rfl) (b_neb _ _ true true false _ Try.underlying4 rfl) ⟨SM.refl _, rfl⟩) ?_
          refine each_cons (fun x y hS hT hk => d_pickF (wn rfl) (hk 52 rfl) (hk 61 rfl) ⟨SM.refl _, rfl⟩) ?_
          exact each_nil
         intro f472 a473 w474 hS475 hC476 hA477
         have hA478 : St 175 [(0, (.slice ao code.length cap)), (2, (.slice ao2 rds.length cap2)), (8, ev90), (9, pa91), (12, (.int .i64 ((usedN E94 j216 : Nat) : Int))), (13, (.int .i64 ((j216 : Nat) : Int))), (14, (.pointer (some ⟨g266, 0, none⟩))), (159, (.bool false))] a473 := hA477.cut _ (fm_cons (hA477.get 0 _ rfl) (fm_cons (hA477.get 2 _ rfl) (fm_cons (hA477.get 8 _ rfl) (fm_cons (hA477.get 9 _ rfl) (fm_cons (hA477.get 12 _ rfl) (fm_cons (hA477.get 13 _ rfl) (fm_cons (hA477.get 14 _ rfl) (fm_cons ((hA477.get 159 _ rfl).trans (hC476 62 (Nat.le_of_ble_eq_true rfl))) fm_nil))))))))
         have m479 := m278.sm hS475 hM471
         have b480 := hS475.below b280 b280.size hM470B
         have hr481 := range_sm hr458 hS475 (Nat.lt_of_lt_of_le lt457 b280.size) (hM470B _ lt457)
         have hr482 := range_sm hr463 hS475 (Nat.lt_of_lt_of_le lt462 b280.size) (hM470B _ lt462)
         refine t_norm ?_
         refine c_false hA478 rfl ?_
         refine wp_skip ?_
         refine t_norm ?_
         refine wp_seq ?_
         refine wp_region_lit ?_
         refine q_step hA478 rfl (d_fieldAddr (wn rfl) (hA478.ev rfl) fo52_5 ?_)
         intro a483 hA484
         refine q_step hA484 rfl (d_load (v := (.bool (rdB c248))) (wn rfl) (hA484.ev rfl) one4 (m479.cell rfl) ?_)
         intro a485 hA486
         refine q_end ?_
         have hA487 : St 175 [(0, (.slice ao code.length cap)), (2, (.slice ao2 rds.length cap2)), (8, ev90), (9, pa91), (12, (.int .i64 ((usedN E94 j216 : Nat) : Int))), (13, (.int .i64 ((j216 : Nat) : Int))), (161, (.bool (rdB c248)))] a485 := hA486.cut _ (fm_cons (hA486.get 0 _ rfl) (fm_cons (hA486.get 2 _ rfl) (fm_cons (hA486.get 8 _ rfl) (fm_cons (hA486.get 9 _ rfl) (fm_cons (hA486.get 12 _ rfl) (fm_cons (hA486.get 13 _ rfl) (fm_cons (hA486.get 161 _ rfl) fm_nil)))))))
         refine t_norm ?_
         have hA488 : St 175 [(0, (.slice ao code.length cap)), (2, (.slice ao2 rds.length cap2)), (8, ev90), (9, pa91), (12, (.int .i64 ((usedN E94 j216 : Nat) : Int))), (13, (.int .i64 ((j216 : Nat) : Int))), (161, (.bool true))] a485 := hA487.cut _ (fm_cons (hA487.get 0 _ rfl) (fm_cons (hA487.get 2 _ rfl) (fm_cons (hA487.get 8 _ rfl) (fm_cons (hA487.get 9 _ rfl) (fm_cons (hA487.get 12 _ rfl) (fm_cons (hA487.get 13 _ rfl) (fm_cons ((hA487.get 161 _ rfl).trans (congrArg Value.bool hb465)) fm_nil)))))))
         refine c_true hA488 rfl ?_
         refine wp_region_lit ?_
         refine q_step hA488 rfl (d_move (wn rfl) (hA488.ev rfl) ?_)
         intro a489 hA490
         refine q_step hA490 rfl (d_bin (wn rfl) (hA490.ev rfl) (hA490.ev rfl) (b_add _ _ ((usedN E94 j216 : Nat) : Int) 1 _ (by omega) (by omega)) ?_)
         intro a491 hA492
         refine q_step hA492 rfl (d_assign (wn rfl) (hA492.ev rfl) ?_)
         intro a493 hA494
         refine q_end ?_
         have hA495 : St 175 [(0, (.slice ao code.length cap)), (2, (.slice ao2 rds.length cap2)), (8, ev90), (9, pa91), (12, (.int .i64 (((usedN E94 j216 : Nat) : Int) + 1))), (13, (.int .i64 ((j216 : Nat) : Int)))] a493 := hA494.cut _ (fm_cons (hA494.get 0 _ rfl) (fm_cons (hA494.get 2 _ rfl) (fm_cons (hA494.get 8 _ rfl) (fm_cons (hA494.get 9 _ rfl) (fm_cons (hA494.get 12 _ rfl) (fm_cons (hA494.get 13 _ rfl) fm_nil))))))
         refine i_norm ?_
         refine t_norm ?_
         refine wp_region_lit ?_
         refine q_step hA495 rfl (d_move (wn rfl) (hA495.ev rfl) ?_)
         intro a496 hA497
         refine q_step hA497 rfl (d_bin (wn rfl) (hA497.ev rfl) (hA497.ev rfl) (b_add _ _ ((j216 : Nat) : Int) 1 _ (by omega) (by omega)) ?_)
         intro a498 hA499
         refine q_step hA499 rfl (d_assign (wn rfl) (hA499.ev rfl) ?_)
         intro a500 hA501
         refine q_end ?_
         have hA502 : St 175 [(0, (.slice ao code.length cap)), (2, (.slice ao2 rds.length cap2)), (8, ev90), (9, pa91), (12, (.int .i64 (((usedN E94 j216 : Nat) : Int) + 1))), (13, (.int .i64 (((j216 : Nat) : Int) + 1)))] a500 := hA501.cut _ (fm_cons (hA501.get 0 _ rfl) (fm_cons (hA501.get 2 _ rfl) (fm_cons (hA501.get 8 _ rfl) (fm_cons (hA501.get 9 _ rfl) (fm_cons (hA501.get 12 _ rfl) (fm_cons (hA501.get 13 _ rfl) fm_nil))))))
         refine t_norm ?_
         exact ⟨E94.length - (j216 + 1), (by rw [hm222]; omega), j216 + 1, rfl, (by omega), hA502.cut _ (fm_cons (hA502.get 0 _ rfl) (fm_cons (hA502.get 2 _ rfl) (fm_cons (hA502.get 8 _ rfl) (fm_cons (hA502.get 9 _ rfl) (fm_cons ((hA502.get 12 _ rfl).trans (congrArg (Value.int .i64) (by have h := used_at hy240; simp [hb465] at h; omega))) (fm_cons ((hA502.get 13 _ rfl).trans (congrArg (Value.int .i64) (by omega))) fm_nil)))))), b480⟩
        ·skip
         have hA504 : St 175 [(0, (.slice ao code.length cap)), (2, (.slice ao2 rds.length cap2)), (8, ev90), (9, pa91), (12, (.int .i64 ((usedN E94 j216 : Nat) : Int))), (13, (.int .i64 ((j216 : Nat) : Int))), (14, (.pointer (some ⟨g266, 0, none⟩)))] a281 := hA283.cut _ (fm_cons (hA283.get 0 _ rfl) (fm_cons (hA283.get 2 _ rfl) (fm_cons (hA283.get 8 _ rfl) (fm_cons (hA283.get 9 _ rfl) (fm_cons (hA283.get 12 _ rfl) (fm_cons (hA283.get 13 _ rfl) (fm_cons (hA283.get 14 _ rfl) fm_nil)))))))
         let M505 : Nat → Option (Array Value) := fun _ => none
         have hM505 : M505 = fun _ => none := rfl
         clear_value M505
         have hM506 : M505 g266 = none := (congrFun hM505 g266)
         have hM505B : ∀ k, k < w77.heap.size → M505 k = none := (fun k hk => (congrFun hM505 k))
         refine drawn (S := SM M505) (tabL [cv (.int .i64 ((j216 : Nat) : Int)), cv (.bool false), cv (.bool false), cv undef, cv undef, cv undef, cv undef, cv undef, cv undef, cv undef, cv undef, cv undef, cv (.bool false), cv (.bool false), cv (.pointer (some ⟨g266, 1, none⟩)), cv (.int .i64 ((k246 : Nat) : Int)), cv pa91, cv (.int .i64 ((Pa96.length : Nat) : Int)), cv (.bool false), cv (.bool false), cv (.bool false), cv pa91, cv (.pointer (some ⟨g266, 1, none⟩)), cv (.int .i64 ((k246 : Nat) : Int)), cv (.pointer (some ⟨b455, o456, none⟩)), cv (.int .i64 ((a247 : Nat) : Int)), cv (.pointer (some ⟨g266, 2, none⟩)), cv (.int .i64 ((a247 : Nat) : Int)), cv (.bool false), cv (.bool false), cv (.bool false), cv (.slice ao code.length cap), cv (.pointer (some ⟨g266, 2, none⟩)), cv (.int .i64 ((a247 : Nat) : Int)), cv (.pointer (some ⟨b460, o461, none⟩)), cv (.pointer (some ⟨b460, o461, none⟩)), cv (.int .i64 c248.op), cv (.pointer (some ⟨g266, 3, none⟩)), cv (.int .i64 c248.op), cv (.bool false), cv (.bool false), cv (.bool false), cv (.pointer (some ⟨g266, 6, none⟩)), cv (.bool true), cv (.slice ao code.length cap), cv (.pointer (some ⟨g266, 2, none⟩)), cv (.int .i64 ((a247 : Nat) : Int)), cv (.pointer (some ⟨b460, o461, none⟩)), cv (.agg (insC c248)), cv (.bool true), cv (.bool false), cv (.bool false), cv (.bool false), cv (.pointer (some ⟨g266, 7, none⟩)), cv (.bool false), cv (.slice ao code.length cap), cv (.pointer (some ⟨g266, 2, none⟩)), cv (.int .i64 ((a247 : Nat) : Int)), cv (.pointer (some ⟨b460, o461, none⟩)), cv (.agg (insC c248)), cv (.bool false), cv (.bool false), cv (.bool false)]) mixedY SM.refl SM.trans SM.drew hA504 (by kernel_rfl) ?_ ?_
         ·skip
          refine each_cons (fun x y hS hT hk => d_move (wn rfl) (hT.ev rfl) ⟨SM.refl _, rfl⟩) ?_
          refine each_cons (fun x y hS hT hk => d_bin (wn rfl) (hk 0 rfl) (hT.ev rfl) (b_gt _ _ ((j216 : Nat) : Int) 0 false _ hb284) ⟨SM.refl _, rfl⟩) ?_
          refine each_cons (fun x y hS hT hk => d_move (wn rfl) (hk 1 rfl) ⟨SM.refl _, rfl⟩) ?_
          refine each_cons (fun x y hS hT hk => does_not (wno rfl rfl (.inl (hk 2 rfl))) ⟨SM.refl _, rfl⟩) ?_
          refine each_cons (fun x y hS hT hk => does_not (wno rfl rfl (.inl (hk 2 rfl))) ⟨SM.refl _, rfl⟩) ?_
          refine each_cons (fun x y hS hT hk => does_not (wno rfl rfl (.inl (hk 2 rfl))) ⟨SM.refl _, rfl⟩) ?_
          refine each_cons (fun x y hS hT hk => does_not (wno rfl rfl (.inl (hk 2 rfl))) ⟨SM.refl _, rfl⟩) ?_
          refine each_cons (fun x y hS hT hk => does_not (wno rfl rfl (.inl (hk 2 rfl))) ⟨SM.refl _, rfl⟩) ?_
          refine each_cons (fun x y hS hT hk => does_not (wno rfl rfl (.inl (hk 2 rfl))) ⟨SM.refl _, rfl⟩) ?_
          refine each_cons (fun x y hS hT hk => does_not (wno rfl rfl (.inl (hk 2 rfl))) ⟨SM.refl _, rfl⟩) ?_
          refine each_cons (fun x y hS hT hk => does_not (wno rfl rfl (.inl (hk 2 rfl))) ⟨SM.refl _, rfl⟩) ?_
          refine each_cons (fun x y hS hT hk => does_not (wno rfl rfl (.inl (hk 2 rfl))) ⟨SM.refl _, rfl⟩) ?_
          refine each_cons (fun x y hS hT hk => d_pickF (wn rfl) (hk 2 rfl) (hT.ev rfl) ⟨SM.refl _, rfl⟩) ?_
          refine each_cons (fun x y hS hT hk => d_move (wn rfl) (hk 12 rfl) ⟨SM.refl _, rfl⟩) ?_
          refine each_cons (fun x y hS hT hk => d_fieldAddr (wy rfl rfl (hk 13 rfl)) (hT.ev rfl) fo52_1 ⟨SM.refl _, rfl⟩) ?_
          refine each_cons (fun x y hS hT hk => d_load (v := (.int .i64 ((k246 : Nat) : Int))) (wy rfl rfl (hk 13 rfl)) (hk 14 rfl) one3 ((Blk.sm (w := w276.drew) m278 hS hM506).cell rfl) ⟨SM.refl _, rfl⟩) ?_
          refine each_cons (fun x y hS hT hk => d_move (wy rfl rfl (hk 13 rfl)) (hT.ev rfl) ⟨SM.refl _, rfl⟩) ?_
          refine each_cons (fun x y hS hT hk => d_len (n := Pa96.length) (wy rfl rfl (hk 13 rfl)) (hk 16 rfl) slc30 hsP106.form ⟨SM.refl _, rfl⟩) ?_
          refine each_cons (fun x y hS hT hk => d_bin (wy rfl rfl (hk 13 rfl)) (hk 15 rfl) (hk 17 rfl) (b_ge _ _ ((k246 : Nat) : Int) ((Pa96.length : Nat) : Int) false _ (decide_eq_false (by omega))) ⟨SM.refl _, rfl⟩) ?_
          refine each_cons (fun x y hS hT hk => d_pickF (wn rfl) (hk 13 rfl) (hk 18 rfl) ⟨SM.refl _, rfl⟩) ?_
          refine each_cons (fun x y hS hT hk => d_move (wn rfl) (hk 19 rfl) ⟨SM.refl _, rfl⟩) ?_
          refine each_cons (fun x y hS hT hk => d_move (wy rfl rfl (hk 20 rfl)) (hT.ev rfl) ⟨SM.refl _, rfl⟩) ?_
          refine each_cons (fun x y hS hT hk => d_fieldAddr (wy rfl rfl (hk 20 rfl)) (hT.ev rfl) fo52_1 ⟨SM.refl _, rfl⟩) ?_
          refine each_cons (fun x y hS hT hk => d_load (v := (.int .i64 ((k246 : Nat) : Int))) (wy rfl rfl (hk 20 rfl)) (hk 22 rfl) one3 ((Blk.sm (w := w276.drew) m278 hS hM506).cell rfl) ⟨SM.refl _, rfl⟩) ?_
          refine each_cons (fun x y hS hT hk => d_indexAt (j := k246) (wy rfl rfl (hk 20 rfl)) (hk 21 rfl) (hk 23 rfl) slc30 hix459 (get_lt hpk260) ⟨SM.refl _, rfl⟩) ?_
          refine each_cons (fun x y hS hT hk => d_load (v := (.int .i64 ((a247 : Nat) : Int))) (wy rfl rfl (hk 20 rfl)) (hk 24 rfl) one3 ((range_sm (w := w276.drew) hr458 hS (Nat.lt_of_lt_of_le lt457 b280.size) (hM505B _ lt457)) 0 _ rfl) ⟨SM.refl _, rfl⟩) ?_
          refine each_cons (fun x y hS hT hk => d_fieldAddr (wy rfl rfl (hk 20 rfl)) (hT.ev rfl) fo52_2 ⟨SM.refl _, rfl⟩) ?_
          refine each_cons (fun x y hS hT hk => d_load (v := (.int .i64 ((a247 : Nat) : Int))) (wy rfl rfl (hk 20 rfl)) (hk 26 rfl) one3 ((Blk.sm (w := w276.drew) m278 hS hM506).cell rfl) ⟨SM.refl _, rfl⟩) ?_
          refine each_cons (fun x y hS hT hk => d_bin (wy rfl rfl (hk 20 rfl)) (hk 25 rfl) (hk 27 rfl) (b_ne _ _ ((a247 : Nat) : Int) ((a247 : Nat) : Int) false _ (notof (beq_self_eq_true _))) ⟨SM.refl _, rfl⟩) ?_
          refine each_cons (fun x y hS hT hk => d_pickF (wn rfl) (hk 20 rfl) (hk 28 rfl) ⟨SM.refl _, rfl⟩) ?_
          refine each_cons (fun x y hS hT hk => d_move (wn rfl) (hk 29 rfl) ⟨SM.refl _, rfl⟩) ?_
          refine each_cons (fun x y hS hT hk => d_move (wy rfl rfl (hk 30 rfl)) (hT.ev rfl) ⟨SM.refl _, rfl⟩) ?_
          refine each_cons (fun x y hS hT hk => d_fieldAddr (wy rfl rfl (hk 30 rfl)) (hT.ev rfl) fo52_2 ⟨SM.refl _, rfl⟩) ?_
          refine each_cons (fun x y hS hT hk => d_load (v := (.int .i64 ((a247 : Nat) : Int))) (wy rfl rfl (hk 30 rfl)) (hk 32 rfl) one3 ((Blk.sm (w := w276.drew) m278 hS hM506).cell rfl) ⟨SM.refl _, rfl⟩) ?_
          refine each_cons (fun x y hS hT hk => d_indexAt (j := a247) (wy rfl rfl (hk 30 rfl)) (hk 31 rfl) (hk 33 rfl) slc35 hix464 (get_lt hca261) ⟨SM.refl _, rfl⟩) ?_
          refine each_cons (fun x y hS hT hk => d_fieldAddr (wy rfl rfl (hk 30 rfl)) (hk 34 rfl) fo23_0 ⟨SM.refl _, rfl⟩) ?_
          refine each_cons (fun x y hS hT hk => d_load (v := (.int .i64 c248.op)) (wy rfl rfl (hk 30 rfl)) (hk 35 rfl) one3 ((range_sm (w := w276.drew) hr463 hS (Nat.lt_of_lt_of_le lt462 b280.size) (hM505B _ lt462)) 0 _ rfl) ⟨SM.refl _, rfl⟩) ?_
          refine each_cons (fun x y hS hT hk => d_fieldAddr (wy rfl rfl (hk 30 rfl)) (hT.ev rfl) fo52_3 ⟨SM.refl _, rfl⟩) ?_
          refine each_cons (fun x y hS hT hk => d_load (v := (.int .i64 c248.op)) (wy rfl rfl (hk 30 rfl)) (hk 37 rfl) one3 ((Blk.sm (w := w276.drew) m278 hS hM506).cell rfl) ⟨SM.refl _, rfl⟩) ?_
          refine each_cons (fun x y hS hT hk => d_bin (wy rfl rfl (hk 30 rfl)) (hk 36 rfl) (hk 38 rfl) (b_ne _ _ c248.op c248.op false _ (notof (beq_self_eq_true _))) ⟨SM.refl _, rfl⟩) ?_
          refine each_cons (fun x y hS hT hk => d_pickF (wn rfl) (hk 30 rfl) (hk 39 rfl) ⟨SM.refl _, rfl⟩) ?_
          refine each_cons (fun x y hS hT hk => d_move (wn rfl) (hk 40 rfl) ⟨SM.refl _, rfl⟩) ?_
          refine each_cons (fun x y hS hT hk => d_fieldAddr (wy rfl rfl (hk 41 rfl)) (hT.ev rfl) fo52_5 ⟨SM.refl _, rfl⟩) ?_
          refine each_cons (fun x y hS hT hk => d_load (v := (.bool true)) (wy rfl rfl (hk 41 rfl)) (hk 42 rfl) one4 ((Blk.sm (w := w276.drew) m278 hS hM506).cell (congrArg (fun b => some (Value.bool b)) hb465)) ⟨SM.refl _, rfl⟩) ?_
          refine each_cons (fun x y hS hT hk => d_move (wy rfl rfl (hk 41 rfl)) (hT.ev rfl) ⟨SM.refl _, rfl⟩) ?_
          refine each_cons (fun x y hS hT hk => d_fieldAddr (wy rfl rfl (hk 41 rfl)) (hT.ev rfl) fo52_2 ⟨SM.refl _, rfl⟩) ?_
          refine each_cons (fun x y hS hT hk => d_load (v := (.int .i64 ((a247 : Nat) : Int))) (wy rfl rfl (hk 41 rfl)) (hk 45 rfl) one3 ((Blk.sm (w := w276.drew) m278 hS hM506).cell rfl) ⟨SM.refl _, rfl⟩) ?_
          refine each_cons (fun x y hS hT hk => d_indexAt (j := a247) (wy rfl rfl (hk 41 rfl)) (hk 44 rfl) (hk 46 rfl) slc35 hix464 (get_lt hca261) ⟨SM.refl _, rfl⟩) ?_
          refine each_cons (fun x y hS hT hk => d_loadMid (cs := (insC c248)) (wy rfl rfl (hk 41 rfl)) (hk 47 rfl) row23 (range_sm (w := w276.drew) hr463 hS (Nat.lt_of_lt_of_le lt462 b280.size) (hM505B _ lt462)) ⟨SM.refl _, rfl⟩) ?_
          refine each_cons (fun x y hS hT hk => d_call (wy rfl rfl (hk 41 rfl)) ent11 (map1 (show x.eval _ = (.agg (insC c248)) from (hk 48 rfl))) (reads_any c248 y) (fun _ _ ⟨he, hG⟩ => ⟨(.bool true), (he.trans (ret_bool hb465)), SM.grow hG, rfl⟩)) ?_
          refine each_cons (fun x y hS hT hk => d_bin (wy rfl rfl (hk 41 rfl)) (hk 43 rfl) (hk 49 rfl) (b_neb _ _ true true false _ Try.underlying4 rfl) ⟨SM.refl _, rfl⟩) ?_
          refine each_cons (fun x y hS hT hk => d_pickF (wn rfl) (hk 41 rfl) (hk 50 rfl) ⟨SM.refl _, rfl⟩) ?_
          refine each_cons (fun x y hS hT hk => d_move (wn rfl) (hk 51 rfl) ⟨SM.refl _, rfl⟩) ?_
          refine each_cons (fun x y hS hT hk => d_fieldAddr (wy rfl rfl (hk 52 rfl)) (hT.ev rfl) fo52_6 ⟨SM.refl _, rfl⟩) ?_
          refine each_cons (fun x y hS hT hk => d_load (v := (.bool false)) (wy rfl rfl (hk 52 rfl)) (hk 53 rfl) one4 ((Blk.sm (w := w276.drew) m278 hS hM506).cell (congrArg (fun b => some (Value.bool b)) hb467)) ⟨SM.refl _, rfl⟩) ?_
          refine each_cons (fun x y hS hT hk => d_move (wy rfl rfl (hk 52 rfl)) (hT.ev rfl) ⟨SM.refl _, rfl⟩) ?_
          refine each_cons (fun x y hS hT hk => d_fieldAddr (wy rfl rfl (hk 52 rfl)) (hT.ev rfl) fo52_2 ⟨SM.refl _, rfl⟩) ?_
          refine each_cons (fun x y hS hT hk => d_load (v := (.int .i64 ((a247 : Nat) : Int))) (wy rfl rfl (hk 52 rfl)) (hk 56 rfl) one3 ((Blk.sm (w := w276.drew) m278 hS hM506).cell rfl) ⟨SM.refl _, rfl⟩) ?_
          refine each_cons (fun x y hS hT hk => d_indexAt (j := a247) (wy rfl rfl (hk 52 rfl)) (hk 55 rfl) (hk 57 rfl) slc35 hix464 (get_lt hca261) ⟨SM.refl _, rfl⟩) ?_
          refine each_cons (fun x y hS hT hk => d_loadMid (cs := (insC c248)) (wy rfl rfl (hk 52 rfl)) (hk 58 rfl) row23 (range_sm (w := w276.drew) hr463 hS (Nat.lt_of_lt_of_le lt462 b280.size) (hM505B _ lt462)) ⟨SM.refl _, rfl⟩) ?_
          refine each_cons (fun x y hS hT hk => d_call (wy rfl rfl (hk 52 rfl)) ent13 (map1 (show x.eval _ = (.agg (insC c248)) from (hk 59 rfl))) (writes_any c248 y) (fun _ _ ⟨he, hG⟩ => ⟨(.bool false), (he.trans (ret_bool hb467)), SM.grow hG, rfl⟩)) ?_
          refine each_cons (fun x y hS hT hk => d_bin (wy rfl rfl (hk 52 rfl)) (hk 54 rfl) (hk 60 rfl) (b_neb _ _ false false false _ Try.underlying4 rfl) ⟨SM.refl _, rfl⟩) ?_
          refine each_cons (fun x y hS hT hk => d_pickF (wn rfl) (hk 52 rfl) (hk 61 rfl) ⟨SM.refl _, rfl⟩) ?_
          exact each_nil
         intro f507 a508 w509 hS510 hC511 hA512
         have hA513 : St 175 [(0, (.slice ao code.length cap)), (2, (.slice ao2 rds.length cap2)), (8, ev90), (9, pa91), (12, (.int .i64 ((usedN E94 j216 : Nat) : Int))), (13, (.int .i64 ((j216 : Nat) : Int))), (14, (.pointer (some ⟨g266, 0, none⟩))), (159, (.bool false))] a508 := hA512.cut _ (fm_cons (hA512.get 0 _ rfl) (fm_cons (hA512.get 2 _ rfl) (fm_cons (hA512.get 8 _ rfl) (fm_cons (hA512.get 9 _ rfl) (fm_cons (hA512.get 12 _ rfl) (fm_cons (hA512.get 13 _ rfl) (fm_cons (hA512.get 14 _ rfl) (fm_cons ((hA512.get 159 _ rfl).trans (hC511 62 (Nat.le_of_ble_eq_true rfl))) fm_nil))))))))
         have m514 := m278.sm hS510 hM506
         have b515 := hS510.below b280 b280.size hM505B
         have hr516 := range_sm hr458 hS510 (Nat.lt_of_lt_of_le lt457 b280.size) (hM505B _ lt457)
         have hr517 := range_sm hr463 hS510 (Nat.lt_of_lt_of_le lt462 b280.size) (hM505B _ lt462)
         refine t_norm ?_
         refine c_false hA513 rfl ?_
         refine wp_skip ?_
         refine t_norm ?_
         refine wp_seq ?_
         refine wp_region_lit ?_
         refine q_step hA513 rfl (d_fieldAddr (wn rfl) (hA513.ev rfl) fo52_5 ?_)
         intro a518 hA519
         refine q_step hA519 rfl (d_load (v := (.bool (rdB c248))) (wn rfl) (hA519.ev rfl) one4 (m514.cell rfl) ?_)
         intro a520 hA521
         refine q_end ?_
         have hA522 : St 175 [(0, (.slice ao code.length cap)), (2, (.slice ao2 rds.length cap2)), (8, ev90), (9, pa91), (12, (.int .i64 ((usedN E94 j216 : Nat) : Int))), (13, (.int .i64 ((j216 : Nat) : Int))), (161, (.bool (rdB c248)))] a520 := hA521.cut _ (fm_cons (hA521.get 0 _ rfl) (fm_cons (hA521.get 2 _ rfl) (fm_cons (hA521.get 8 _ rfl) (fm_cons (hA521.get 9 _ rfl) (fm_cons (hA521.get 12 _ rfl) (fm_cons (hA521.get 13 _ rfl) (fm_cons (hA521.get 161 _ rfl) fm_nil)))))))
         refine t_norm ?_
         have hA523 : St 175 [(0, (.slice ao code.length cap)), (2, (.slice ao2 rds.length cap2)), (8, ev90), (9, pa91), (12, (.int .i64 ((usedN E94 j216 : Nat) : Int))), (13, (.int .i64 ((j216 : Nat) : Int))), (161, (.bool true))] a520 := hA522.cut _ (fm_cons (hA522.get 0 _ rfl) (fm_cons (hA522.get 2 _ rfl) (fm_cons (hA522.get 8 _ rfl) (fm_cons (hA522.get 9 _ rfl) (fm_cons (hA522.get 12 _ rfl) (fm_cons (hA522.get 13 _ rfl) (fm_cons ((hA522.get 161 _ rfl).trans (congrArg Value.bool hb465)) fm_nil)))))))
         refine c_true hA523 rfl ?_
         refine wp_region_lit ?_
         refine q_step hA523 rfl (d_move (wn rfl) (hA523.ev rfl) ?_)
         intro a524 hA525
         refine q_step hA525 rfl (d_bin (wn rfl) (hA525.ev rfl) (hA525.ev rfl) (b_add _ _ ((usedN E94 j216 : Nat) : Int) 1 _ (by omega) (by omega)) ?_)
         intro a526 hA527
         refine q_step hA527 rfl (d_assign (wn rfl) (hA527.ev rfl) ?_)
         intro a528 hA529
         refine q_end ?_
         have hA530 : St 175 [(0, (.slice ao code.length cap)), (2, (.slice ao2 rds.length cap2)), (8, ev90), (9, pa91), (12, (.int .i64 (((usedN E94 j216 : Nat) : Int) + 1))), (13, (.int .i64 ((j216 : Nat) : Int)))] a528 := hA529.cut _ (fm_cons (hA529.get 0 _ rfl) (fm_cons (hA529.get 2 _ rfl) (fm_cons (hA529.get 8 _ rfl) (fm_cons (hA529.get 9 _ rfl) (fm_cons (hA529.get 12 _ rfl) (fm_cons (hA529.get 13 _ rfl) fm_nil))))))
         refine i_norm ?_
         refine t_norm ?_
         refine wp_region_lit ?_
         refine q_step hA530 rfl (d_move (wn rfl) (hA530.ev rfl) ?_)
         intro a531 hA532
         refine q_step hA532 rfl (d_bin (wn rfl) (hA532.ev rfl) (hA532.ev rfl) (b_add _ _ ((j216 : Nat) : Int) 1 _ (by omega) (by omega)) ?_)
         intro a533 hA534
         refine q_step hA534 rfl (d_assign (wn rfl) (hA534.ev rfl) ?_)
         intro a535 hA536
         refine q_end ?_
         have hA537 : St 175 [(0, (.slice ao code.length cap)), (2, (.slice ao2 rds.length cap2)), (8, ev90), (9, pa91), (12, (.int .i64 (((usedN E94 j216 : Nat) : Int) + 1))), (13, (.int .i64 (((j216 : Nat) : Int) + 1)))] a535 := hA536.cut _ (fm_cons (hA536.get 0 _ rfl) (fm_cons (hA536.get 2 _ rfl) (fm_cons (hA536.get 8 _ rfl) (fm_cons (hA536.get 9 _ rfl) (fm_cons (hA536.get 12 _ rfl) (fm_cons (hA536.get 13 _ rfl) fm_nil))))))
         refine t_norm ?_
         exact ⟨E94.length - (j216 + 1), (by rw [hm222]; omega), j216 + 1, rfl, (by omega), hA537.cut _ (fm_cons (hA537.get 0 _ rfl) (fm_cons (hA537.get 2 _ rfl) (fm_cons (hA537.get 8 _ rfl) (fm_cons (hA537.get 9 _ rfl) (fm_cons ((hA537.get 12 _ rfl).trans (congrArg (Value.int .i64) (by have h := used_at hy240; simp [hb465] at h; omega))) (fm_cons ((hA537.get 13 _ rfl).trans (congrArg (Value.int .i64) (by omega))) fm_nil)))))), b515⟩
       ·skip
        rcases Bool.eq_false_or_eq_true (wrB c248) with hb539 | hb539
        ·skip
         have hA541 : St 175 [(0, (.slice ao code.length cap)), (2, (.slice ao2 rds.length cap2)), (8, ev90), (9, pa91), (12, (.int .i64 ((usedN E94 j216 : Nat) : Int))), (13, (.int .i64 ((j216 : Nat) : Int))), (14, (.pointer (some ⟨g266, 0, none⟩)))] a281 := hA283.cut _ (fm_cons (hA283.get 0 _ rfl) (fm_cons (hA283.get 2 _ rfl) (fm_cons (hA283.get 8 _ rfl) (fm_cons (hA283.get 9 _ rfl) (fm_cons (hA283.get 12 _ rfl) (fm_cons (hA283.get 13 _ rfl) (fm_cons (hA283.get 14 _ rfl) fm_nil)))))))
         let M542 : Nat → Option (Array Value) := fun _ => none
         have hM542 : M542 = fun _ => none := rfl
         clear_value M542
         have hM543 : M542 g266 = none := (congrFun hM542 g266)
         have hM542B : ∀ k, k < w77.heap.size → M542 k = none := (fun k hk => (congrFun hM542 k))
         refine drawn (S := SM M542) (tabL [cv (.int .i64 ((j216 : Nat) : Int)), cv (.bool false), cv (.bool false), cv undef, cv undef, cv undef, cv undef, cv undef, cv undef, cv undef, cv undef, cv undef, cv (.bool false), cv (.bool false), cv (.pointer (some ⟨g266, 1, none⟩)), cv (.int .i64 ((k246 : Nat) : Int)), cv pa91, cv (.int .i64 ((Pa96.length : Nat) : Int)), cv (.bool false), cv (.bool false), cv (.bool false), cv pa91, cv (.pointer (some ⟨g266, 1, none⟩)), cv (.int .i64 ((k246 : Nat) : Int)), cv (.pointer (some ⟨b455, o456, none⟩)), cv (.int .i64 ((a247 : Nat) : Int)), cv (.pointer (some ⟨g266, 2, none⟩)), cv (.int .i64 ((a247 : Nat) : Int)), cv (.bool false), cv (.bool false), cv (.bool false), cv (.slice ao code.length cap), cv (.pointer (some ⟨g266, 2, none⟩)), cv (.int .i64 ((a247 : Nat) : Int)), cv (.pointer (some ⟨b460, o461, none⟩)), cv (.pointer (some ⟨b460, o461, none⟩)), cv (.int .i64 c248.op), cv (.pointer (some ⟨g266, 3, none⟩)), cv (.int .i64 c248.op), cv (.bool false), cv (.bool false), cv (.bool false), cv (.pointer (some ⟨g266, 6, none⟩)), cv (.bool false), cv (.slice ao code.length cap), cv (.pointer (some ⟨g266, 2, none⟩)), cv (.int .i64 ((a247 : Nat) : Int)), cv (.pointer (some ⟨b460, o461, none⟩)), cv (.agg (insC c248)), cv (.bool false), cv (.bool false), cv (.bool false), cv (.bool false), cv (.pointer (some ⟨g266, 7, none⟩)), cv (.bool true), cv (.slice ao code.length cap), cv (.pointer (some ⟨g266, 2, none⟩)), cv (.int .i64 ((a247 : Nat) : Int)), cv (.pointer (some ⟨b460, o461, none⟩)), cv (.agg (insC c248)), cv (.bool true), cv (.bool false), cv (.bool false)]) mixedY SM.refl SM.trans SM.drew hA541 (by kernel_rfl) ?_ ?_
         ·skip
          refine each_cons (fun x y hS hT hk => d_move (wn rfl) (hT.ev rfl) ⟨SM.refl _, rfl⟩) ?_
          refine each_cons (fun x y hS hT hk => d_bin (wn rfl) (hk 0 rfl) (hT.ev rfl) (b_gt _ _ ((j216 : Nat) : Int) 0 false _ hb284) ⟨SM.refl _, rfl⟩) ?_
          refine each_cons (fun x y hS hT hk => d_move (wn rfl) (hk 1 rfl) ⟨SM.refl _, rfl⟩) ?_
          refine each_cons (fun x y hS hT hk => does_not (wno rfl rfl (.inl (hk 2 rfl))) ⟨SM.refl _, rfl⟩) ?_
          refine each_cons (fun x y hS hT hk => does_not (wno rfl rfl (.inl (hk 2 rfl))) ⟨SM.refl _, rfl⟩) ?_
          refine each_cons (fun x y hS hT hk => does_not (wno rfl rfl (.inl (hk 2 rfl))) ⟨SM.refl _, rfl⟩) ?_
          refine each_cons (fun x y hS hT hk => does_not (wno rfl rfl (.inl (hk 2 rfl))) ⟨SM.refl _, rfl⟩) ?_
          refine each_cons (fun x y hS hT hk => does_not (wno rfl rfl (.inl (hk 2 rfl))) ⟨SM.refl _, rfl⟩) ?_
          refine each_cons (fun x y hS hT hk => does_not (wno rfl rfl (.inl (hk 2 rfl))) ⟨SM.refl _, rfl⟩) ?_
          refine each_cons (fun x y hS hT hk => does_not (wno rfl rfl (.inl (hk 2 rfl))) ⟨SM.refl _, rfl⟩) ?_
          refine each_cons (fun x y hS hT hk => does_not (wno rfl rfl (.inl (hk 2 rfl))) ⟨SM.refl _, rfl⟩) ?_
          refine each_cons (fun x y hS hT hk => does_not (wno rfl rfl (.inl (hk 2 rfl))) ⟨SM.refl _, rfl⟩) ?_
          refine each_cons (fun x y hS hT hk => d_pickF (wn rfl) (hk 2 rfl) (hT.ev rfl) ⟨SM.refl _, rfl⟩) ?_
          refine each_cons (fun x y hS hT hk => d_move (wn rfl) (hk 12 rfl) ⟨SM.refl _, rfl⟩) ?_
          refine each_cons (fun x y hS hT hk => d_fieldAddr (wy rfl rfl (hk 13 rfl)) (hT.ev rfl) fo52_1 ⟨SM.refl _, rfl⟩) ?_
          refine each_cons (fun x y hS hT hk => d_load (v := (.int .i64 ((k246 : Nat) : Int))) (wy rfl rfl (hk 13 rfl)) (hk 14 rfl) one3 ((Blk.sm (w := w276.drew) m278 hS hM543).cell rfl) ⟨SM.refl _, rfl⟩) ?_
          refine each_cons (fun x y hS hT hk => d_move (wy rfl rfl (hk 13 rfl)) (hT.ev rfl) ⟨SM.refl _, rfl⟩) ?_
          refine each_cons (fun x y hS hT hk => d_len (n := Pa96.length) (wy rfl rfl (hk 13 rfl)) (hk 16 rfl) slc30 hsP106.form ⟨SM.refl _, rfl⟩) ?_
          refine each_cons (fun x y hS hT hk => d_bin (wy rfl rfl (hk 13 rfl)) (hk 15 rfl) (hk 17 rfl) (b_ge _ _ ((k246 : Nat) : Int) ((Pa96.length : Nat) : Int) false _ (decide_eq_false (by omega))) ⟨SM.refl _, rfl⟩) ?_
          refine each_cons (fun x y hS hT hk => d_pickF (wn rfl) (hk 13 rfl) (hk 18 rfl) ⟨SM.refl _, rfl⟩) ?_
          refine each_cons (fun x y hS hT hk => d_move (wn rfl) (hk 19 rfl) ⟨SM.refl _, rfl⟩) ?_
          refine each_cons (fun x y hS hT hk => d_move (wy rfl rfl (hk 20 rfl)) (hT.ev rfl) ⟨SM.refl _, rfl⟩) ?_
          refine each_cons (fun x y hS hT hk => d_fieldAddr (wy rfl rfl (hk 20 rfl)) (hT.ev rfl) fo52_1 ⟨SM.refl _, rfl⟩) ?_
          refine each_cons (fun x y hS hT hk => d_load (v := (.int .i64 ((k246 : Nat) : Int))) (wy rfl rfl (hk 20 rfl)) (hk 22 rfl) one3 ((Blk.sm (w := w276.drew) m278 hS hM543).cell rfl) ⟨SM.refl _, rfl⟩) ?_
          refine each_cons (fun x y hS hT hk => d_indexAt (j := k246) (wy rfl rfl (hk 20 rfl)) (hk 21 rfl) (hk 23 rfl) slc30 hix459 (get_lt hpk260) ⟨SM.refl _, rfl⟩) ?_
          refine each_cons (fun x y hS hT hk => d_load (v := (.int .i64 ((a247 : Nat) : Int))) (wy rfl rfl (hk 20 rfl)) (hk 24 rfl) one3 ((range_sm (w := w276.drew) hr458 hS (Nat.lt_of_lt_of_le lt457 b280.size) (hM542B _ lt457)) 0 _ rfl) ⟨SM.refl _, rfl⟩) ?_
          refine each_cons (fun x y hS hT hk => d_fieldAddr (wy rfl rfl (hk 20 rfl)) (hT.ev rfl) fo52_2 ⟨SM.refl _, rfl⟩) ?_
          refine each_cons (fun x y hS hT hk => d_load (v := (.int .i64 ((a247 : Nat) : Int))) (wy rfl rfl (hk 20 rfl)) (hk 26 rfl) one3 ((Blk.sm (w := w276.drew) m278 hS hM543).cell rfl) ⟨SM.refl _, rfl⟩) ?_
          refine each_cons (fun x y hS hT hk => d_bin (wy rfl rfl (hk 20 rfl)) (hk 25 rfl) (hk 27 rfl) (b_ne _ _ ((a247 : Nat) : Int) ((a247 : Nat) : Int) false _ (notof (beq_self_eq_true _))) ⟨SM.refl _, rfl⟩) ?_
          refine each_cons (fun x y hS hT hk => d_pickF (wn rfl) (hk 20 rfl) (hk 28 rfl) ⟨SM.refl _, rfl⟩) ?_
          refine each_cons (fun x y hS hT hk => d_move (wn rfl) (hk 29 rfl) ⟨SM.refl _, rfl⟩) ?_
          refine each_cons (fun x y hS hT hk => d_move (wy rfl rfl (hk 30 rfl)) (hT.ev rfl) ⟨SM.refl _, rfl⟩) ?_
          refine each_cons (fun x y hS hT hk => d_fieldAddr (wy rfl rfl (hk 30 rfl)) (hT.ev rfl) fo52_2 ⟨SM.refl _, rfl⟩) ?_
          refine each_cons (fun x y hS hT hk => d_load (v := (.int .i64 ((a247 : Nat) : Int))) (wy rfl rfl (hk 30 rfl)) (hk 32 rfl) one3 ((Blk.sm (w := w276.drew) m278 hS hM543).cell rfl) ⟨SM.refl _, rfl⟩) ?_
          refine each_cons (fun x y hS hT hk => d_indexAt (j := a247) (wy rfl rfl (hk 30 rfl)) (hk 31 rfl) (hk 33 rfl) slc35 hix464 (get_lt hca261) ⟨SM.refl _, rfl⟩) ?_
          refine each_cons (fun x y hS hT hk => d_fieldAddr (wy rfl rfl (hk 30 rfl)) (hk 34 rfl) fo23_0 ⟨SM.refl _, rfl⟩) ?_
          refine each_cons (fun x y hS hT hk => d_load (v := (.int .i64 c248.op)) (wy rfl rfl (hk 30 rfl)) (hk 35 rfl) one3 ((range_sm (w := w276.drew) hr463 hS (Nat.lt_of_lt_of_le lt462 b280.size) (hM542B _ lt462)) 0 _ rfl) ⟨SM.refl _, rfl⟩) ?_
          refine each_cons (fun x y hS hT hk => d_fieldAddr (wy rfl rfl (hk 30 rfl)) (hT.ev rfl) fo52_3 ⟨SM.refl _, rfl⟩) ?_
          refine each_cons (fun x y hS hT hk => d_load (v := (.int .i64 c248.op)) (wy rfl rfl (hk 30 rfl)) (hk 37 rfl) one3 ((Blk.sm (w := w276.drew) m278 hS hM543).cell rfl) ⟨SM.refl _, rfl⟩) ?_
          refine each_cons (fun x y hS hT hk => d_bin (wy rfl rfl (hk 30 rfl)) (hk 36 rfl) (hk 38 rfl) (b_ne _ _ c248.op c248.op false _ (notof (beq_self_eq_true _))) ⟨SM.refl _, rfl⟩) ?_
          refine each_cons (fun x y hS hT hk => d_pickF (wn rfl) (hk 30 rfl) (hk 39 rfl) ⟨SM.refl _, rfl⟩) ?_
          refine each_cons (fun x y hS hT hk => d_move (wn rfl) (hk 40 rfl) ⟨SM.refl _, rfl⟩) ?_
          refine each_cons (fun x y hS hT hk => d_fieldAddr (wy rfl rfl (hk 41 rfl)) (hT.ev rfl) fo52_5 ⟨SM.refl _, rfl⟩) ?_
          refine each_cons (fun x y hS hT hk => d_load (v := (.bool false)) (wy rfl rfl (hk 41 rfl)) (hk 42 rfl) one4 ((Blk.sm (w := w276.drew) m278 hS hM543).cell (congrArg (fun b => some (Value.bool b)) hb465)) ⟨SM.refl _, rfl⟩) ?_
          refine each_cons (fun x y hS hT hk => d_move (wy rfl rfl (hk 41 rfl)) (hT.ev rfl) ⟨SM.refl _, rfl⟩) ?_
          refine each_cons (fun x y hS hT hk => d_fieldAddr (wy rfl rfl (hk 41 rfl)) (hT.ev rfl) fo52_2 ⟨SM.refl _, rfl⟩) ?_
          refine each_cons (fun x y hS hT hk => d_load (v := (.int .i64 ((a247 : Nat) : Int))) (wy rfl rfl (hk 41 rfl)) (hk 45 rfl) one3 ((Blk.sm (w := w276.drew) m278 hS hM543).cell rfl) ⟨SM.refl _, rfl⟩) ?_
          refine each_cons (fun x y hS hT hk => d_indexAt (j := a247) (wy rfl rfl (hk 41 rfl)) (hk 44 rfl) (hk 46 rfl) slc35 hix464 (get_lt hca261) ⟨SM.refl _, rfl⟩) ?_
          refine each_cons (fun x y hS hT hk => d_loadMid (cs := (insC c248)) (wy rfl rfl (hk 41 rfl)) (hk 47 rfl) row23 (range_sm (w := w276.drew) hr463 hS (Nat.lt_of_lt_of_le lt462 b280.size) (hM542B _ lt462)) ⟨SM.refl _, rfl⟩) ?_
          refine each_cons (fun x y hS hT hk => d_call (wy rfl rfl (hk 41 rfl)) ent11 (map1 (show x.eval _ = (.agg (insC c248)) from (hk 48 rfl))) (reads_any c248 y) (fun _ _ ⟨he, hG⟩ => ⟨(.bool false), (he.trans (ret_bool hb465)), SM.grow hG, rfl⟩)) ?_
          refine each_cons (fun x y hS hT hk => d_bin (wy rfl rfl (hk 41 rfl)) (hk 43 rfl) (hk 49 rfl) (b_neb _ _ false false false _ Try.underlying4 rfl) ⟨SM.refl _, rfl⟩) ?_
          refine each_cons (fun x y hS hT hk => d_pickF (wn rfl) (hk 41 rfl) (hk 50 rfl) ⟨SM.refl _, rfl⟩) ?_
          refine each_cons (fun x y hS hT hk => d_move (wn rfl) (hk 51 rfl) ⟨SM.refl _, rfl⟩) ?_
          refine each_cons (fun x y hS hT hk => d_fieldAddr (wy rfl rfl (hk 52 rfl)) (hT.ev rfl) fo52_6 ⟨SM.refl _, rfl⟩) ?_
          refine each_cons (fun x y hS hT hk => d_load (v := (.bool true)) (wy rfl rfl (hk 52 rfl)) (hk 53 rfl) one4 ((Blk.sm (w := w276.drew) m278 hS hM543).cell (congrArg (fun b => some (Value.bool b)) hb539)) ⟨SM.refl _, rfl⟩) ?_
          refine each_cons (fun x y hS hT hk => d_move (wy rfl rfl (hk 52 rfl)) (hT.ev rfl) ⟨SM.refl _, rfl⟩) ?_
          refine each_cons (fun x y hS hT hk => d_fieldAddr (wy rfl rfl (hk 52 rfl)) (hT.ev rfl) fo52_2 ⟨SM.refl _, rfl⟩) ?_
          refine each_cons (fun x y hS hT hk => d_load (v := (.int .i64 ((a247 : Nat) : Int))) (wy rfl rfl (hk 52 rfl)) (hk 56 rfl) one3 ((Blk.sm (w := w276.drew) m278 hS hM543).cell rfl) ⟨SM.refl _, rfl⟩) ?_
          refine each_cons (fun x y hS hT hk => d_indexAt (j := a247) (wy rfl rfl (hk 52 rfl)) (hk 55 rfl) (hk 57 rfl) slc35 hix464 (get_lt hca261) ⟨SM.refl _, rfl⟩) ?_
          refine each_cons (fun x y hS hT hk => d_loadMid (cs := (insC c248)) (wy rfl rfl (hk 52 rfl)) (hk 58 rfl) row23 (range_sm (w := w276.drew) hr463 hS (Nat.lt_of_lt_of_le lt462 b280.size) (hM542B _ lt462)) ⟨SM.refl _, rfl⟩) ?_
          refine each_cons (fun x y hS hT hk => d_call (wy rfl rfl (hk 52 rfl)) ent13 (map1 (show x.eval _ = (.agg (insC c248)) from (hk 59 rfl))) (writes_any c248 y) (fun _ _ ⟨he, hG⟩ => ⟨(.bool true), (he.trans (ret_bool hb539)), SM.grow hG, rfl⟩)) ?_
          refine each_cons (fun x y hS hT hk => d_bin (wy rfl rfl (hk 52 rfl)) (hk 54 rfl) (hk 60 rfl) (b_neb _ _ true true false _ Try.underlying4 rfl) ⟨SM.refl _, rfl⟩) ?_
          refine each_cons (fun x y hS hT hk => d_pickF (wn rfl) (hk 52 rfl) (hk 61 rfl) ⟨SM.refl _, rfl⟩) ?_
          exact each_nil
         intro f544 a545 w546 hS547 hC548 hA549
         have hA550 : St 175 [(0, (.slice ao code.length cap)), (2, (.slice ao2 rds.length cap2)), (8, ev90), (9, pa91), (12, (.int .i64 ((usedN E94 j216 : Nat) : Int))), (13, (.int .i64 ((j216 : Nat) : Int))), (14, (.pointer (some ⟨g266, 0, none⟩))), (159, (.bool false))] a545 := hA549.cut _ (fm_cons (hA549.get 0 _ rfl) (fm_cons (hA549.get 2 _ rfl) (fm_cons (hA549.get 8 _ rfl) (fm_cons (hA549.get 9 _ rfl) (fm_cons (hA549.get 12 _ rfl) (fm_cons (hA549.get 13 _ rfl) (fm_cons (hA549.get 14 _ rfl) (fm_cons ((hA549.get 159 _ rfl).trans (hC548 62 (Nat.le_of_ble_eq_true rfl))) fm_nil))))))))
         have m551 := m278.sm hS547 hM543
         have b552 := hS547.below b280 b280.size hM542B
         have hr553 := range_sm hr458 hS547 (Nat.lt_of_lt_of_le lt457 b280.size) (hM542B _ lt457)
         have hr554 := range_sm hr463 hS547 (Nat.lt_of_lt_of_le lt462 b280.size) (hM542B _ lt462)
         refine t_norm ?_
         refine c_false hA550 rfl ?_
         refine wp_skip ?_
         refine t_norm ?_
         refine wp_seq ?_
         refine wp_region_lit ?_
         refine q_step hA550 rfl (d_fieldAddr (wn rfl) (hA550.ev rfl) fo52_5 ?_)
         intro a555 hA556
         refine q_step hA556 rfl (d_load (v := (.bool (rdB c248))) (wn rfl) (hA556.ev rfl) one4 (m551.cell rfl) ?_)
         intro a557 hA558
         refine q_end ?_
         have hA559 : St 175 [(0, (.slice ao code.length cap)), (2, (.slice ao2 rds.length cap2)), (8, ev90), (9, pa91), (12, (.int .i64 ((usedN E94 j216 : Nat) : Int))), (13, (.int .i64 ((j216 : Nat) : Int))), (161, (.bool (rdB c248)))] a557 := hA558.cut _ (fm_cons (hA558.get 0 _ rfl) (fm_cons (hA558.get 2 _ rfl) (fm_cons (hA558.get 8 _ rfl) (fm_cons (hA558.get 9 _ rfl) (fm_cons (hA558.get 12 _ rfl) (fm_cons (hA558.get 13 _ rfl) (fm_cons (hA558.get 161 _ rfl) fm_nil)))))))
         refine t_norm ?_
         have hA560 : St 175 [(0, (.slice ao code.length cap)), (2, (.slice ao2 rds.length cap2)), (8, ev90), (9, pa91), (12, (.int .i64 ((usedN E94 j216 : Nat) : Int))), (13, (.int .i64 ((j216 : Nat) : Int))), (161, (.bool false))] a557 := hA559.cut _ (fm_cons (hA559.get 0 _ rfl) (fm_cons (hA559.get 2 _ rfl) (fm_cons (hA559.get 8 _ rfl) (fm_cons (hA559.get 9 _ rfl) (fm_cons (hA559.get 12 _ rfl) (fm_cons (hA559.get 13 _ rfl) (fm_cons ((hA559.get 161 _ rfl).trans (congrArg Value.bool hb465)) fm_nil)))))))
         refine c_false hA560 rfl ?_
         refine wp_skip ?_
         refine i_norm ?_
         refine t_norm ?_
         refine wp_region_lit ?_
         refine q_step hA560 rfl (d_move (wn rfl) (hA560.ev rfl) ?_)
         intro a561 hA562
         refine q_step hA562 rfl (d_bin (wn rfl) (hA562.ev rfl) (hA562.ev rfl) (b_add _ _ ((j216 : Nat) : Int) 1 _ (by omega) (by omega)) ?_)
         intro a563 hA564
         refine q_step hA564 rfl (d_assign (wn rfl) (hA564.ev rfl) ?_)
         intro a565 hA566
         refine q_end ?_
         have hA567 : St 175 [(0, (.slice ao code.length cap)), (2, (.slice ao2 rds.length cap2)), (8, ev90), (9, pa91), (12, (.int .i64 ((usedN E94 j216 : Nat) : Int))), (13, (.int .i64 (((j216 : Nat) : Int) + 1)))] a565 := hA566.cut _ (fm_cons (hA566.get 0 _ rfl) (fm_cons (hA566.get 2 _ rfl) (fm_cons (hA566.get 8 _ rfl) (fm_cons (hA566.get 9 _ rfl) (fm_cons (hA566.get 12 _ rfl) (fm_cons (hA566.get 13 _ rfl) fm_nil))))))
         refine t_norm ?_
         exact ⟨E94.length - (j216 + 1), (by rw [hm222]; omega), j216 + 1, rfl, (by omega), hA567.cut _ (fm_cons (hA567.get 0 _ rfl) (fm_cons (hA567.get 2 _ rfl) (fm_cons (hA567.get 8 _ rfl) (fm_cons (hA567.get 9 _ rfl) (fm_cons ((hA567.get 12 _ rfl).trans (congrArg (Value.int .i64) (by have h := used_at hy240; simp [hb465] at h; omega))) (fm_cons ((hA567.get 13 _ rfl).trans (congrArg (Value.int .i64) (by omega))) fm_nil)))))), b552⟩
        ·skip
         have hA569 : St 175 [(0, (.slice ao code.length cap)), (2, (.slice ao2 rds.length cap2)), (8, ev90), (9, pa91), (12, (.int .i64 ((usedN E94 j216 : Nat) : Int))), (13, (.int .i64 ((j216 : Nat) : Int))), (14, (.pointer (some ⟨g266, 0, none⟩)))] a281 := hA283.cut _ (fm_cons (hA283.get 0 _ rfl) (fm_cons (hA283.get 2 _ rfl) (fm_cons (hA283.get 8 _ rfl) (fm_cons (hA283.get 9 _ rfl) (fm_cons (hA283.get 12 _ rfl) (fm_cons (hA283.get 13 _ rfl) (fm_cons (hA283.get 14 _ rfl) fm_nil)))))))
         let M570 : Nat → Option (Array Value) := fun _ => none
         have hM570 : M570 = fun _ => none := rfl
         clear_value M570
         have hM571 : M570 g266 = none := (congrFun hM570 g266)
         have hM570B : ∀ k, k < w77.heap.size → M570 k = none := (fun k hk => (congrFun hM570 k))
         refine drawn (S := SM M570) (tabL [cv (.int .i64 ((j216 : Nat) : Int)), cv (.bool false), cv (.bool false), cv undef, cv undef, cv undef, cv undef, cv undef, cv undef, cv undef, cv undef, cv undef, cv (.bool false), cv (.bool false), cv (.pointer (some ⟨g266, 1, none⟩)), cv (.int .i64 ((k246 : Nat) : Int)), cv pa91, cv (.int .i64 ((Pa96.length : Nat) : Int)), cv (.bool false), cv (.bool false), cv (.bool false), cv pa91, cv (.pointer (some ⟨g266, 1, none⟩)), cv (.int .i64 ((k246 : Nat) : Int)), cv (.pointer (some ⟨b455, o456, none⟩)), cv (.int .i64 ((a247 : Nat) : Int)), cv (.pointer (some ⟨g266, 2, none⟩)), cv (.int .i64 ((a247 : Nat) : Int)), cv (.bool false), cv (.bool false), cv (.bool false), cv (.slice ao code.length cap), cv (.pointer (some ⟨g266, 2, none⟩)), cv (.int .i64 ((a247 : Nat) : Int)), cv (.pointer (some ⟨b460, o461, none⟩)), cv (.pointer (some ⟨b460, o461, none⟩)), cv (.int .i64 c248.op), cv (.pointer (some ⟨g266, 3, none⟩)), cv (.int .i64 c248.op), cv (.bool false), cv (.bool false), cv (.bool false), cv (.pointer (some ⟨g266, 6, none⟩)), cv (.bool false), cv (.slice ao code.length cap), cv (.pointer (some ⟨g266, 2, none⟩)), cv (.int .i64 ((a247 : Nat) : Int)), cv (.pointer (some ⟨b460, o461, none⟩)), cv (.agg (insC c248)), cv (.bool false), cv (.bool false), cv (.bool false), cv (.bool false), cv (.pointer (some ⟨g266, 7, none⟩)), cv (.bool false), cv (.slice ao code.length cap), cv (.pointer (some ⟨g266, 2, none⟩)), cv (.int .i64 ((a247 : Nat) : Int)), cv (.pointer (some ⟨b460, o461, none⟩)), cv (.agg (insC c248)), cv (.bool false), cv (.bool false), cv (.bool false)]) mixedY SM.refl SM.trans SM.drew hA569 (by kernel_rfl) ?_ ?_
         ·skip
          refine each_cons (fun x y hS hT hk => d_move (wn rfl) (hT.ev rfl) ⟨SM.refl _, rfl⟩) ?_
          refine each_cons (fun x y hS hT hk => d_bin (wn rfl) (hk 0 rfl) (hT.ev rfl) (b_gt _ _ ((j216 : Nat) : Int) 0 false _ hb284) ⟨SM.refl _, rfl⟩) ?_
          refine each_cons (fun x y hS hT hk => d_move (wn rfl) (hk 1 rfl) ⟨SM.refl _, rfl⟩) ?_
          refine each_cons (fun x y hS hT hk => does_not (wno rfl rfl (.inl (hk 2 rfl))) ⟨SM.refl _, rfl⟩) ?_
          refine each_cons (fun x y hS hT hk => does_not (wno rfl rfl (.inl (hk 2 rfl))) ⟨SM.refl _, rfl⟩) ?_
          refine each_cons (fun x y hS hT hk => does_not (wno rfl rfl (.inl (hk 2 rfl))) ⟨SM.refl _, rfl⟩) ?_
          refine each_cons (fun x y hS hT hk => does_not (wno rfl rfl (.inl (hk 2 rfl))) ⟨SM.refl _, rfl⟩) ?_
          refine each_cons (fun x y hS hT hk => does_not (wno rfl rfl (.inl (hk 2 rfl))) ⟨SM.refl _, rfl⟩) ?_
          refine each_cons (fun x y hS hT hk => does_not (wno rfl rfl (.inl (hk 2 rfl))) ⟨SM.refl _, rfl⟩) ?_
          refine each_cons (fun x y hS hT hk => does_not (wno rfl rfl (.inl (hk 2 rfl))) ⟨SM.refl _, rfl⟩) ?_
          refine each_cons (fun x y hS hT hk => does_not (wno rfl rfl (.inl (hk 2 rfl))) ⟨SM.refl _, rfl⟩) ?_
          refine each_cons (fun x y hS hT hk => does_not (wno rfl rfl (.inl (hk 2 rfl))) ⟨SM.refl _, rfl⟩) ?_
          refine each_cons (fun x y hS hT hk => d_pickF (wn rfl) (hk 2 rfl) (hT.ev rfl) ⟨SM.refl _, rfl⟩) ?_
          refine each_cons (fun x y hS hT hk => d_move (wn rfl) (hk 12 rfl) ⟨SM.refl _, rfl⟩) ?_
          refine each_cons (fun x y hS hT hk => d_fieldAddr (wy rfl rfl (hk 13 rfl)) (hT.ev rfl) fo52_1 ⟨SM.refl _, rfl⟩) ?_
          refine each_cons (fun x y hS hT hk => d_load (v := (.int .i64 ((k246 : Nat) : Int))) (wy rfl rfl (hk 13 rfl)) (hk 14 rfl) one3 ((Blk.sm (w := w276.drew) m278 hS hM571).cell rfl) ⟨SM.refl _, rfl⟩) ?_
          refine each_cons (fun x y hS hT hk => d_move (wy rfl rfl (hk 13 rfl)) (hT.ev rfl) ⟨SM.refl _, rfl⟩) ?_
          refine each_cons (fun x y hS hT hk => d_len (n := Pa96.length) (wy rfl rfl (hk 13 rfl)) (hk 16 rfl) slc30 hsP106.form ⟨SM.refl _, rfl⟩) ?_
          refine each_cons (fun x y hS hT hk => d_bin (wy rfl rfl (hk 13 rfl)) (hk 15 rfl) (hk 17 rfl) (b_ge _ _ ((k246 : Nat) : Int) ((Pa96.length : Nat) : Int) false _ (decide_eq_false (by omega))) ⟨SM.refl _, rfl⟩) ?_
          refine each_cons (fun x y hS hT hk => d_pickF (wn rfl) (hk 13 rfl) (hk 18 rfl) ⟨SM.refl _, rfl⟩) ?_
          refine each_cons (fun x y hS hT hk => d_move (wn rfl) (hk 19 rfl) ⟨SM.refl _, rfl⟩) ?_
          refine each_cons (fun x y hS hT hk => d_move (wy rfl rfl (hk 20 rfl)) (hT.ev rfl) ⟨SM.refl _, rfl⟩) ?_
          refine each_cons (fun x y hS hT hk => d_fieldAddr (wy rfl rfl (hk 20 rfl)) (hT.ev rfl) fo52_1 ⟨SM.refl _, rfl⟩) ?_
          refine each_cons (fun x y hS hT hk => d_load (v := (.int .i64 ((k246 : Nat) : Int))) (wy rfl rfl (hk 20 rfl)) (hk 22 rfl) one3 ((Blk.sm (w := w276.drew) m278 hS hM571).cell rfl) ⟨SM.refl _, rfl⟩) ?_
          refine each_cons (fun x y hS hT hk => d_indexAt (j := k246) (wy rfl rfl (hk 20 rfl)) (hk 21 rfl) (hk 23 rfl) slc30 hix459 (get_lt hpk260) ⟨SM.refl _, rfl⟩) ?_
          refine each_cons (fun x y hS hT hk => d_load (v := (.int .i64 ((a247 : Nat) : Int))) (wy rfl rfl (hk 20 rfl)) (hk 24 rfl) one3 ((range_sm (w := w276.drew) hr458 hS (Nat.lt_of_lt_of_le lt457 b280.size) (hM570B _ lt457)) 0 _ rfl) ⟨SM.refl _, rfl⟩) ?_
          refine each_cons (fun x y hS hT hk => d_fieldAddr (wy rfl rfl (hk 20 rfl)) (hT.ev rfl) fo52_2 ⟨SM.refl _, rfl⟩) ?_
          refine each_cons (fun x y hS hT hk => d_load (v := (.int .i64 ((a247 : Nat) : Int))) (wy rfl rfl (hk 20 rfl)) (hk 26 rfl) one3 ((Blk.sm (w := w276.drew) m278 hS hM571).cell rfl) ⟨SM.refl _, rfl⟩) ?_
          refine each_cons (fun x y hS hT hk => d_bin (wy rfl rfl (hk 20 rfl)) (hk 25 rfl) (hk 27 rfl) (b_ne _ _ ((a247 : Nat) : Int) ((a247 : Nat) : Int) false _ (notof (beq_self_eq_true _))) ⟨SM.refl _, rfl⟩) ?_
          refine each_cons (fun x y hS hT hk => d_pickF (wn rfl) (hk 20 rfl) (hk 28 rfl) ⟨SM.refl _, rfl⟩) ?_
          refine each_cons (fun x y hS hT hk => d_move (wn rfl) (hk 29 rfl) ⟨SM.refl _, rfl⟩) ?_
          refine each_cons (fun x y hS hT hk => d_move (wy rfl rfl (hk 30 rfl)) (hT.ev rfl) ⟨SM.refl _, rfl⟩) ?_
          refine each_cons (fun x y hS hT hk => d_fieldAddr (wy rfl rfl (hk 30 rfl)) (hT.ev rfl) fo52_2 ⟨SM.refl _, rfl⟩) ?_
          refine each_cons (fun x y hS hT hk => d_load (v := (.int .i64 ((a247 : Nat) : Int))) (wy rfl rfl (hk 30 rfl)) (hk 32 rfl) one3 ((Blk.sm (w := w276.drew) m278 hS hM571).cell rfl) ⟨SM.refl _, rfl⟩) ?_
          refine each_cons (fun x y hS hT hk => d_indexAt (j := a247) (wy rfl rfl (hk 30 rfl)) (hk 31 rfl) (hk 33 rfl) slc35 hix464 (get_lt hca261) ⟨SM.refl _, rfl⟩) ?_
          refine each_cons (fun x y hS hT hk => d_fieldAddr (wy rfl rfl (hk 30 rfl)) (hk 34 rfl) fo23_0 ⟨SM.refl _, rfl⟩) ?_
          refine each_cons (fun x y hS hT hk => d_load (v := (.int .i64 c248.op)) (wy rfl rfl (hk 30 rfl)) (hk 35 rfl) one3 ((range_sm (w := w276.drew) hr463 hS (Nat.lt_of_lt_of_le lt462 b280.size) (hM570B _ lt462)) 0 _ rfl) ⟨SM.refl _, rfl⟩) ?_
          refine each_cons (fun x y hS hT hk => d_fieldAddr (wy rfl rfl (hk 30 rfl)) (hT.ev rfl) fo52_3 ⟨SM.refl _, rfl⟩) ?_
          refine each_cons (fun x y hS hT hk => d_load (v := (.int .i64 c248.op)) (wy rfl rfl (hk 30 rfl)) (hk 37 rfl) one3 ((Blk.sm (w := w276.drew) m278 hS hM571).cell rfl) ⟨SM.refl _, rfl⟩) ?_
          refine each_cons (fun x y hS hT hk => d_bin (wy rfl rfl (hk 30 rfl)) (hk 36 rfl) (hk 38 rfl) (b_ne _ _ c248.op c248.op false _ (notof (beq_self_eq_true _))) ⟨SM.refl _, rfl⟩) ?_
          refine each_cons (fun x y hS hT hk => d_pickF (wn rfl) (hk 30 rfl) (hk 39 rfl) ⟨SM.refl _, rfl⟩) ?_
          refine each_cons (fun x y hS hT hk => d_move (wn rfl) (hk 40 rfl) ⟨SM.refl _, rfl⟩) ?_
          refine each_cons (fun x y hS hT hk => d_fieldAddr (wy rfl rfl (hk 41 rfl)) (hT.ev rfl) fo52_5 ⟨SM.refl _, rfl⟩) ?_
          refine each_cons (fun x y hS hT hk => d_load (v := (.bool false)) (wy rfl rfl (hk 41 rfl)) (hk 42 rfl) one4 ((Blk.sm (w := w276.drew) m278 hS hM571).cell (congrArg (fun b => some (Value.bool b)) hb465)) ⟨SM.refl _, rfl⟩) ?_
          refine each_cons (fun x y hS hT hk => d_move (wy rfl rfl (hk 41 rfl)) (hT.ev rfl) ⟨SM.refl _, rfl⟩) ?_
          refine each_cons (fun x y hS hT hk => d_fieldAddr (wy rfl rfl (hk 41 rfl)) (hT.ev rfl) fo52_2 ⟨SM.refl _, rfl⟩) ?_
          refine each_cons (fun x y hS hT hk => d_load (v := (.int .i64 ((a247 : Nat) : Int))) (wy rfl rfl (hk 41 rfl)) (hk 45 rfl) one3 ((Blk.sm (w := w276.drew) m278 hS hM571).cell rfl) ⟨SM.refl _, rfl⟩) ?_
          refine each_cons (fun x y hS hT hk => d_indexAt (j := a247) (wy rfl rfl (hk 41 rfl)) (hk 44 rfl) (hk 46 rfl) slc35 hix464 (get_lt hca261) ⟨SM.refl _, rfl⟩) ?_
          refine each_cons (fun x y hS hT hk => d_loadMid (cs := (insC c248)) (wy rfl rfl (hk 41 rfl)) (hk 47 rfl) row23 (range_sm (w := w276.drew) hr463 hS (Nat.lt_of_lt_of_le lt462 b280.size) (hM570B _ lt462)) ⟨SM.refl _, rfl⟩) ?_
          refine each_cons (fun x y hS hT hk => d_call (wy rfl rfl (hk 41 rfl)) ent11 (map1 (show x.eval _ = (.agg (insC c248)) from (hk 48 rfl))) (reads_any c248 y) (fun _ _ ⟨he, hG⟩ => ⟨(.bool false), (he.trans (ret_bool hb465)), SM.grow hG, rfl⟩)) ?_
          refine each_cons (fun x y hS hT hk => d_bin (wy rfl rfl (hk 41 rfl)) (hk 43 rfl) (hk 49 rfl) (b_neb _ _ false false false _ Try.underlying4 rfl) ⟨SM.refl _, rfl⟩) ?_
          refine each_cons (fun x y hS hT hk => d_pickF (wn rfl) (hk 41 rfl) (hk 50 rfl) ⟨SM.refl _, rfl⟩) ?_
          refine each_cons (fun x y hS hT hk => d_move (wn rfl) (hk 51 rfl) ⟨SM.refl _, rfl⟩) ?_
          refine each_cons (fun x y hS hT hk => d_fieldAddr (wy rfl rfl (hk 52 rfl)) (hT.ev rfl) fo52_6 ⟨SM.refl _, rfl⟩) ?_
          refine each_cons (fun x y hS hT hk => d_load (v := (.bool false)) (wy rfl rfl (hk 52 rfl)) (hk 53 rfl) one4 ((Blk.sm (w := w276.drew) m278 hS hM571).cell (congrArg (fun b => some (Value.bool b)) hb539)) ⟨SM.refl _, rfl⟩) ?_
          refine each_cons (fun x y hS hT hk => d_move (wy rfl rfl (hk 52 rfl)) (hT.ev rfl) ⟨SM.refl _, rfl⟩) ?_
          refine each_cons (fun x y hS hT hk => d_fieldAddr (wy rfl rfl (hk 52 rfl)) (hT.ev rfl) fo52_2 ⟨SM.refl _, rfl⟩) ?_
          refine each_cons (fun x y hS hT hk => d_load (v := (.int .i64 ((a247 : Nat) : Int))) (wy rfl rfl (hk 52 rfl)) (hk 56 rfl) one3 ((Blk.sm (w := w276.drew) m278 hS hM571).cell rfl) ⟨SM.refl _, rfl⟩) ?_
          refine each_cons (fun x y hS hT hk => d_indexAt (j := a247) (wy rfl rfl (hk 52 rfl)) (hk 55 rfl) (hk 57 rfl) slc35 hix464 (get_lt hca261) ⟨SM.refl _, rfl⟩) ?_
          refine each_cons (fun x y hS hT hk => d_loadMid (cs := (insC c248)) (wy rfl rfl (hk 52 rfl)) (hk 58 rfl) row23 (range_sm (w := w276.drew) hr463 hS (Nat.lt_of_lt_of_le lt462 b280.size) (hM570B _ lt462)) ⟨SM.refl _, rfl⟩) ?_
          refine each_cons (fun x y hS hT hk => d_call (wy rfl rfl (hk 52 rfl)) ent13 (map1 (show x.eval _ = (.agg (insC c248)) from (hk 59 rfl))) (writes_any c248 y) (fun _ _ ⟨he, hG⟩ => ⟨(.bool false), (he.trans (ret_bool hb539)), SM.grow hG, rfl⟩)) ?_
          refine each_cons (fun x y hS hT hk => d_bin (wy rfl rfl (hk 52 rfl)) (hk 54 rfl) (hk 60 rfl) (b_neb _ _ false false false _ Try.underlying4 rfl) ⟨SM.refl _, rfl⟩) ?_
          refine each_cons (fun x y hS hT hk => d_pickF (wn rfl) (hk 52 rfl) (hk 61 rfl) ⟨SM.refl _, rfl⟩) ?_
          exact each_nil
         intro f572 a573 w574 hS575 hC576 hA577
         have hA578 : St 175 [(0, (.slice ao code.length cap)), (2, (.slice ao2 rds.length cap2)), (8, ev90), (9, pa91), (12, (.int .i64 ((usedN E94 j216 : Nat) : Int))), (13, (.int .i64 ((j216 : Nat) : Int))), (14, (.pointer (some ⟨g266, 0, none⟩))), (159, (.bool false))] a573 := hA577.cut _ (fm_cons (hA577.get 0 _ rfl) (fm_cons (hA577.get 2 _ rfl) (fm_cons (hA577.get 8 _ rfl) (fm_cons (hA577.get 9 _ rfl) (fm_cons (hA577.get 12 _ rfl) (fm_cons (hA577.get 13 _ rfl) (fm_cons (hA577.get 14 _ rfl) (fm_cons ((hA577.get 159 _ rfl).trans (hC576 62 (Nat.le_of_ble_eq_true rfl))) fm_nil))))))))
         have m579 := m278.sm hS575 hM571
         have b580 := hS575.below b280 b280.size hM570B
         have hr581 := range_sm hr458 hS575 (Nat.lt_of_lt_of_le lt457 b280.size) (hM570B _ lt457)
         have hr582 := range_sm hr463 hS575 (Nat.lt_of_lt_of_le lt462 b280.size) (hM570B _ lt462)
         refine t_norm ?_
         refine c_false hA578 rfl ?_
         refine wp_skip ?_
         refine t_norm ?_
         refine wp_seq ?_
         refine wp_region_lit ?_
         refine q_step hA578 rfl (d_fieldAddr (wn rfl) (hA578.ev rfl) fo52_5 ?_)
         intro a583 hA584
         refine q_step hA584 rfl (d_load (v := (.bool (rdB c248))) (wn rfl) (hA584.ev rfl) one4 (m579.cell rfl) ?_)
         intro a585 hA586
         refine q_end ?_
         have hA587 : St 175 [(0, (.slice ao code.length cap)), (2, (.slice ao2 rds.length cap2)), (8, ev90), (9, pa91), (12, (.int .i64 ((usedN E94 j216 : Nat) : Int))), (13, (.int .i64 ((j216 : Nat) : Int))), (161, (.bool (rdB c248)))] a585 := hA586.cut _ (fm_cons (hA586.get 0 _ rfl) (fm_cons (hA586.get 2 _ rfl) (fm_cons (hA586.get 8 _ rfl) (fm_cons (hA586.get 9 _ rfl) (fm_cons (hA586.get 12 _ rfl) (fm_cons (hA586.get 13 _ rfl) (fm_cons (hA586.get 161 _ rfl) fm_nil)))))))
         refine t_norm ?_
         have hA588 : St 175 [(0, (.slice ao code.length cap)), (2, (.slice ao2 rds.length cap2)), (8, ev90), (9, pa91), (12, (.int .i64 ((usedN E94 j216 : Nat) : Int))), (13, (.int .i64 ((j216 : Nat) : Int))), (161, (.bool false))] a585 := hA587.cut _ (fm_cons (hA587.get 0 _ rfl) (fm_cons (hA587.get 2 _ rfl) (fm_cons (hA587.get 8 _ rfl) (fm_cons (hA587.get 9 _ rfl) (fm_cons (hA587.get 12 _ rfl) (fm_cons (hA587.get 13 _ rfl) (fm_cons ((hA587.get 161 _ rfl).trans (congrArg Value.bool hb465)) fm_nil)))))))
         refine c_false hA588 rfl ?_
         refine wp_skip ?_
         refine i_norm ?_
         refine t_norm ?_
         refine wp_region_lit ?_
         refine q_step hA588 rfl (d_move (wn rfl) (hA588.ev rfl) ?_)
         intro a589 hA590
         refine q_step hA590 rfl (d_bin (wn rfl) (hA590.ev rfl) (hA590.ev rfl) (b_add _ _ ((j216 : Nat) : Int) 1 _ (by omega) (by omega)) ?_)
         intro a591 hA592
         refine q_step hA592 rfl (d_assign (wn rfl) (hA592.ev rfl) ?_)
         intro a593 hA594
         refine q_end ?_
         have hA595 : St 175 [(0, (.slice ao code.length cap)), (2, (.slice ao2 rds.length cap2)), (8, ev90), (9, pa91), (12, (.int .i64 ((usedN E94 j216 : Nat) : Int))), (13, (.int .i64 (((j216 : Nat) : Int) + 1)))] a593 := hA594.cut _ (fm_cons (hA594.get 0 _ rfl) (fm_cons (hA594.get 2 _ rfl) (fm_cons (hA594.get 8 _ rfl) (fm_cons (hA594.get 9 _ rfl) (fm_cons (hA594.get 12 _ rfl) (fm_cons (hA594.get 13 _ rfl) fm_nil))))))
         refine t_norm ?_
         exact ⟨E94.length - (j216 + 1), (by rw [hm222]; omega), j216 + 1, rfl, (by omega), hA595.cut _ (fm_cons (hA595.get 0 _ rfl) (fm_cons (hA595.get 2 _ rfl) (fm_cons (hA595.get 8 _ rfl) (fm_cons (hA595.get 9 _ rfl) (fm_cons ((hA595.get 12 _ rfl).trans (congrArg (Value.int .i64) (by have h := used_at hy240; simp [hb465] at h; omega))) (fm_cons ((hA595.get 13 _ rfl).trans (congrArg (Value.int .i64) (by omega))) fm_nil)))))), b580⟩
     ·skip
      have hq596 := of_decide_eq_false hb230
      refine q_step hA229 rfl (d_bin (wn rfl) (hA229.ev rfl) (hA229.ev rfl) (b_lt _ _ ((j216 : Nat) : Int) ((E94.length : Nat) : Int) false _ hb230) ?_)
      intro a597 hA598
      refine q_end ?_
      have hA599 : St 175 [(0, (.slice ao code.length cap)), (2, (.slice ao2 rds.length cap2)), (8, ev90), (9, pa91), (12, (.int .i64 ((usedN E94 j216 : Nat) : Int))), (13, (.int .i64 ((j216 : Nat) : Int))), (90, (.bool false))] a597 := hA598.cut _ (fm_cons (hA598.get 0 _ rfl) (fm_cons (hA598.get 2 _ rfl) (fm_cons (hA598.get 8 _ rfl) (fm_cons (hA598.get 9 _ rfl) (fm_cons (hA598.get 12 _ rfl) (fm_cons (hA598.get 13 _ rfl) (fm_cons (hA598.get 90 _ rfl) fm_nil)))))))
      refine t_norm ?_
      refine c_false hA599 rfl ?_
      refine wp_exit ?_
      refine t_exit ?_
      refine t_exit ?_
      refine i_here ?_
      refine t_norm ?_
      refine wp_seq ?_
      refine wp_region_lit ?_
      refine q_step hA599 rfl (d_move (wn rfl) (hA599.ev rfl) ?_)
      intro a600 hA601
      refine q_step hA601 rfl (d_move (wn rfl) (hA601.ev rfl) ?_)
      intro a602 hA603
      refine q_step hA603 rfl (d_len (n := rds.length) (wn rfl) (hA603.ev rfl) slc30 hr104.form ?_)
      intro a604 hA605
      refine q_step hA605 rfl (d_bin (wn rfl) (hA605.ev rfl) (hA605.ev rfl) (b_le _ _ ((usedN E94 j216 : Nat) : Int) ((rds.length : Nat) : Int) true _ (decide_eq_true (by have := gus j216; omega))) ?_)
      intro a606 hA607
      refine q_step hA607 rfl (d_move (wn rfl) (hA607.ev rfl) ?_)
      intro a608 hA609
      refine q_step hA609 rfl (d_move (wy rfl rfl (hA609.get 168 _ rfl)) (hA609.ev rfl) ?_)
      intro a610 hA611
      refine q_step hA611 rfl (d_len (n := Pa96.length) (wy rfl rfl (hA611.get 168 _ rfl)) (hA611.ev rfl) slc30 hsP106.form ?_)
      intro a612 hA613
      refine q_step hA613 rfl (d_move (wy rfl rfl (hA613.get 168 _ rfl)) (hA613.ev rfl) ?_)
      intro a614 hA615
      refine q_step hA615 rfl (d_len (n := code.length) (wy rfl rfl (hA615.get 168 _ rfl)) (hA615.ev rfl) slc35 hs103.form ?_)
      intro a616 hA617
      refine q_step hA617 rfl (d_bin (wy rfl rfl (hA617.get 168 _ rfl)) (hA617.ev rfl) (hA617.ev rfl) (b_le _ _ ((Pa96.length : Nat) : Int) ((code.length : Nat) : Int) true _ (decide_eq_true (by omega))) ?_)
      intro a618 hA619
      refine q_step hA619 rfl (d_pickT (wn rfl) (hA619.ev rfl) (hA619.ev rfl) ?_)
      intro a620 hA621
      refine q_step hA621 rfl (d_assign (wn rfl) (hA621.ev rfl) ?_)
      intro a622 hA623
      refine q_end ?_
      have hA624 : St 175 [(6, (.bool true))] a622 := hA623.cut _ (fm_cons (hA623.get 6 _ rfl) fm_nil)
      refine t_norm ?_
      refine wp_ret ?_
      refine ret1 rfl hA624 (v := (.bool true)) rfl ?_
      exact ⟨rfl, Grow.trans b102 b221⟩
   ·skip
    have hq625 := ne_of_beq hb110
    refine q_step hA109 rfl (d_bin (wn rfl) (hA109.ev rfl) (hA109.ev rfl) (b_ne _ _ (lE code r0 rds) 0 true _ (notof hb110)) ?_)
    intro a626 hA627
    refine q_end ?_
    have hA628 : St 175 [(0, (.slice ao code.length cap)), (2, (.slice ao2 rds.length cap2)), (6, (.bool false)), (8, ev90), (9, pa91), (39, (.bool true))] a626 := hA627.cut _ (fm_cons (hA627.get 0 _ rfl) (fm_cons (hA627.get 2 _ rfl) (fm_cons (hA627.get 6 _ rfl) (fm_cons (hA627.get 8 _ rfl) (fm_cons (hA627.get 9 _ rfl) (fm_cons (hA627.get 39 _ rfl) fm_nil))))))
    refine t_norm ?_
    refine c_true hA628 rfl ?_
    refine wp_seq ?_
    refine wp_region_lit ?_
    refine q_step hA628 rfl (d_move (wn rfl) (hA628.ev rfl) ?_)
    intro a629 hA630
    refine q_step hA630 rfl (d_len (n := E94.length) (wn rfl) (hA630.ev rfl) slc44 hsE105.form ?_)
    intro a631 hA632
    refine q_step hA632 rfl (d_bin (wn rfl) (hA632.ev rfl) (hA632.ev rfl) (b_eq _ _ ((E94.length : Nat) : Int) 0 true _ (by rw [← hE95, (l_no hb110).1]; rfl)) ?_)
    intro a633 hA634
    refine q_step hA634 rfl (d_move (wn rfl) (hA634.ev rfl) ?_)
    intro a635 hA636
    refine q_step hA636 rfl (d_move (wy rfl rfl (hA636.get 43 _ rfl)) (hA636.ev rfl) ?_)
    intro a637 hA638
    refine q_step hA638 rfl (d_len (n := Pa96.length) (wy rfl rfl (hA638.get 43 _ rfl)) (hA638.ev rfl) slc30 hsP106.form ?_)
    intro a639 hA640
    refine q_step hA640 rfl (d_bin (wy rfl rfl (hA640.get 43 _ rfl)) (hA640.ev rfl) (hA640.ev rfl) (b_eq _ _ ((Pa96.length : Nat) : Int) 0 true _ (by rw [← hPa97, (l_no hb110).2]; rfl)) ?_)
    intro a641 hA642
    refine q_step hA642 rfl (d_pickT (wn rfl) (hA642.ev rfl) (hA642.ev rfl) ?_)
    intro a643 hA644
    refine q_step hA644 rfl (d_assign (wn rfl) (hA644.ev rfl) ?_)
    intro a645 hA646
    refine q_end ?_
    have hA647 : St 175 [(0, (.slice ao code.length cap)), (2, (.slice ao2 rds.length cap2)), (6, (.bool true)), (8, ev90), (9, pa91)] a645 := hA646.cut _ (fm_cons (hA646.get 0 _ rfl) (fm_cons (hA646.get 2 _ rfl) (fm_cons (hA646.get 6 _ rfl) (fm_cons (hA646.get 8 _ rfl) (fm_cons (hA646.get 9 _ rfl) fm_nil)))))
    refine t_norm ?_
    refine wp_ret ?_
    refine t_ret ?_
    refine ret1 rfl hA647 (v := (.bool true)) rfl ?_
    exact ⟨rfl, Grow.trans b102 b107⟩
end Go.Proofs.Ytlhompedcphnnaa
/- How an instruction that is handed in by value is read. -/
namespace Go.Proofs.Ytlhompedcphnnaa
open Go.ChangeShapes Go.WideShapes Go.ChangeAt Go.RowKit

def insT (k : Nat) : Nat := if k == 10 || k == 11 || k == 12 || k == 16 then 4 else 3
def insFs (P : Program) : Option (Array Field) := match P.underlying 23 with | some (.struct fs) => some fs | _ => none
def insFB (P : Program) : Bool := match insFs P with | some fs => (List.range 17).all (fun k => match fs[k]? with | some f => f.offset == k && f.type == insT k | none => false) | none => false
theorem insFB_true : insFB Try.prog = true := by kernel_rfl
theorem ins_fields : ∃ fs : Array Field, Try.prog.underlying 23 = some (.struct fs) ∧ ∀ k, k < 17 → ∃ f, fs[k]? = some f ∧ f.offset = k ∧ f.type = insT k := by
  have h := insFB_true
  unfold insFB at h
  cases hq : insFs Try.prog with
  | none => simp [hq] at h
  | some fs =>
    rw [hq] at h
    refine ⟨fs, ?_, fun k hk => ?_⟩
    · unfold insFs at hq
      split at hq
      · rename_i fs' he; rw [he]; cases hq; rfl
      · cases hq
    · have h1 := List.all_eq_true.1 h k (List.mem_range.2 hk)
      cases hf : fs[k]? with
      | none => simp [hf] at h1
      | some f => rw [hf] at h1; simp only [Bool.and_eq_true, beq_iff_eq] at h1; exact ⟨f, rfl, h1.1, h1.2⟩
theorem ins_cells : Try.prog.cellsOf 23 = 17 := by kernel_rfl
theorem int_cells : Try.prog.cellsOf 3 = 1 := by kernel_rfl
theorem bool_cells : Try.prog.cellsOf 4 = 1 := by kernel_rfl
theorem take_one {l : List Value} {k : Nat} {v : Value} (h : (l.drop k).take 1 = [v]) : l[k]? = some v := by
  have := congrArg (fun l => l[0]?) h
  simpa using this
theorem open_ins {H : Type} {enc : TypeId × Value → H} {W : World} {base : Nat} {spare : Nat → Bool} {held : Bool} {base' : Nat} {v : Value} {d : DataW H} {ps : List MemPlace}
    (hv : Value.okWide Try.prog W .any base 23 v) (h : DataW.Trod enc Try.prog W base' spare held 23 v d ps) : ∃ i : Ins, v = .agg (insC i) := by
  obtain ⟨fs, hu, hfs⟩ := ins_fields
  obtain ⟨cs, rfl, hsz⟩ := okWide_struct hu hv
  rw [ins_cells] at hsz
  obtain ⟨fuel, hf⟩ := h
  obtain ⟨xs, n, _, _, _, hlen, hx⟩ := DataW.trod_struct hu hf
  have int : ∀ k, k < 17 → insT k = 3 → ∃ m : Int, cs.toList[k]? = some (.int .i64 m) := fun k hk ht => by
    obtain ⟨f, hf1, ho, hty⟩ := hfs k hk
    have h1 := hx k f hf1
    have hl := (Array.getElem?_eq_some_iff.1 hf1).1
    rw [ho, hty, ht, int_cells, List.getElem?_eq_getElem (by omega)] at h1
    obtain ⟨m, h2, _, _⟩ := DataW.trod_int Try.underlying3 h1
    exact ⟨m, take_one h2⟩
  have bool : ∀ k, k < 17 → insT k = 4 → ∃ b : Bool, cs.toList[k]? = some (.bool b) := fun k hk ht => by
    obtain ⟨f, hf1, ho, hty⟩ := hfs k hk
    have h1 := hx k f hf1
    have hl := (Array.getElem?_eq_some_iff.1 hf1).1
    rw [ho, hty, ht, bool_cells, List.getElem?_eq_getElem (by omega)] at h1
    obtain ⟨m, h2, _⟩ := DataW.trod_bool Try.underlying4 h1
    exact ⟨m, take_one h2⟩
  obtain ⟨c0, h0⟩ := int 0 (by decide) rfl
  obtain ⟨c1, h1⟩ := int 1 (by decide) rfl
  obtain ⟨c2, h2⟩ := int 2 (by decide) rfl
  obtain ⟨c3, h3⟩ := int 3 (by decide) rfl
  obtain ⟨c4, h4⟩ := int 4 (by decide) rfl
  obtain ⟨c5, h5⟩ := int 5 (by decide) rfl
  obtain ⟨c6, h6⟩ := int 6 (by decide) rfl
  obtain ⟨c7, h7⟩ := int 7 (by decide) rfl
  obtain ⟨c8, h8⟩ := int 8 (by decide) rfl
  obtain ⟨c9, h9⟩ := int 9 (by decide) rfl
  obtain ⟨c10, h10⟩ := bool 10 (by decide) rfl
  obtain ⟨c11, h11⟩ := bool 11 (by decide) rfl
  obtain ⟨c12, h12⟩ := bool 12 (by decide) rfl
  obtain ⟨c13, h13⟩ := int 13 (by decide) rfl
  obtain ⟨c14, h14⟩ := int 14 (by decide) rfl
  obtain ⟨c15, h15⟩ := int 15 (by decide) rfl
  obtain ⟨c16, h16⟩ := bool 16 (by decide) rfl
  refine ⟨⟨c0, c1, c2, c3, c4, c5, c6, c7, c8, c9, c10, c11, c12, c13, c14, c15, c16⟩, congrArg Value.agg ?_⟩
  apply Array.ext'
  apply List.ext_getElem?
  intro k
  by_cases hk : k < 17
  · have : k = 0 ∨ k = 1 ∨ k = 2 ∨ k = 3 ∨ k = 4 ∨ k = 5 ∨ k = 6 ∨ k = 7 ∨ k = 8 ∨ k = 9 ∨ k = 10 ∨ k = 11 ∨ k = 12 ∨ k = 13 ∨ k = 14 ∨ k = 15 ∨ k = 16 := by omega
    rcases this with rfl | rfl | rfl | rfl | rfl | rfl | rfl | rfl | rfl | rfl | rfl | rfl | rfl | rfl | rfl | rfl | rfl
    · exact h0
    · exact h1
    · exact h2
    · exact h3
    · exact h4
    · exact h5
    · exact h6
    · exact h7
    · exact h8
    · exact h9
    · exact h10
    · exact h11
    · exact h12
    · exact h13
    · exact h14
    · exact h15
    · exact h16
  · rw [List.getElem?_eq_none (by simp; omega), List.getElem?_eq_none (by simp [insC]; omega)]
end Go.Proofs.Ytlhompedcphnnaa
