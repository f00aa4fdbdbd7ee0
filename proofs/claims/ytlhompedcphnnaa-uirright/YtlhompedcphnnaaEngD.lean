/- The law on regions that draw their order, for the engine: each operation keeps what is claimed of those done, whatever the order. -/
import Derived.Test.YtlhompedcphnnaaEng
namespace Go.Proofs.Ytlhompedcphnnaa
open Go.RowKit

/-- what is claimed of an operation's value, and of memory, behind it: no step of the region turns it -/
structure Cl (S : World → World → Prop) where
  P : Value → World → Prop
  st : ∀ v w w', S w w' → P v w → P v w'
def cv {S : World → World → Prop} (v : Value) : Cl S := ⟨fun x _ => x = v, fun _ _ _ _ h => h⟩
def cfree {S : World → World → Prop} : Cl S := ⟨fun _ _ => True, fun _ _ _ _ h => h⟩
def valOf (ops : Array Oper) (a : Act) (j : Nat) : Value := match dstOf ops j with | some d => a.tmps.getD d undef | none => undef
def waits (o : Oper) (j : Nat) : Bool := o.after.toList.any fun e => Region.binds .any e && e.on == j
def puts : List Oper → (Nat → Value) → Nat → List (Nat × Value)
  | [], _, _ => []
  | o :: os, f, k => ext (puts os f (k + 1)) o.dst (f k)
/-- each slot is filled once; what an operation must wait for stands ahead of it; what is known is not filled -/
def fitB (ops : Array Oper) (n : Nat) (T : List (Nat × Value)) : Bool :=
  ((List.range ops.size).all fun i => match ops[i]? with
    | some o => (match o.dst with
      | some d => decide (d < n) && ((List.range ops.size).all fun j => i == j || dstOf ops j != some d) && T.all fun x => x.1 != d
      | none => true) && o.after.all fun e => !Region.binds .any e || decide (e.on < i)
    | none => false)
theorem fit_spec {ops : Array Oper} {n i : Nat} {T : List (Nat × Value)} {o : Oper} (h : fitB ops n T = true) (hi : ops[i]? = some o) :
    (∀ d, o.dst = some d → d < n ∧ (∀ j, j < ops.size → dstOf ops j = some d → j = i) ∧ ∀ x ∈ T, x.1 ≠ d) ∧ ∀ e ∈ o.after, Region.binds .any e = true → e.on < i := by
  have hlt : i < ops.size := (Array.getElem?_eq_some_iff.1 hi).1
  unfold fitB at h
  rw [List.all_eq_true] at h
  have h1 := h i (by simpa using hlt)
  simp only [hi] at h1
  rw [Bool.and_eq_true] at h1
  obtain ⟨h2, h3⟩ := h1
  refine ⟨fun d hd => ?_, fun e he hb => ?_⟩
  · simp only [hd, Bool.and_eq_true, decide_eq_true_eq, List.all_eq_true] at h2
    refine ⟨h2.1.1, fun j hj hjd => ?_, fun x hx => by simpa using h2.2 x hx⟩
    have := h2.1.2 j (by simpa using hj)
    simp only [hjd, Bool.or_eq_true, beq_iff_eq, bne_self_eq_false, Bool.false_eq_true, or_false] at this
    exact this.symm
  · have := (Array.all_eq_true_iff_forall_mem.1 h3) e he
    simpa [hb] using this
theorem lookup_mem {T : List (Nat × Value)} {t : Nat} {v : Value} (h : T.lookup t = some v) : (t, v) ∈ T := by
  induction T with
  | nil => simp at h
  | cons x l ih =>
    rw [List.lookup_cons] at h
    by_cases hx : t = x.1
    · subst hx; simp at h; subst h; simp
    · have : (t == x.1) = false := by simpa using hx
      simp only [this] at h
      exact List.mem_cons_of_mem _ (ih h)
def seenV (o : Oper) (v : Value) : Value := match o.dst with | some _ => v | none => undef
/-- what is owed for operation i -/
def Obl (P : Program) (ops : Array Oper) (S : World → World → Prop) (n : Nat) (T : List (Nat × Value)) (tab : Nat → Cl S) (w : World) (i : Nat) (o : Oper) : Prop :=
  ∀ a' w', S w w' → St n T a' → (∀ j, waits o j = true → (tab j).P (valOf ops a' j) w') → Does P ops o a' w' fun v w'' => S w' w'' ∧ (tab i).P (seenV o v) w''
theorem puts_look {t : Nat} {v : Value} (f : Nat → Value) (T : List (Nat × Value)) : ∀ (l : List Oper) (k : Nat), (puts l f k ++ T).lookup t = some v →
    (∃ i o, l[i]? = some o ∧ o.dst = some t ∧ v = f (k + i)) ∨ T.lookup t = some v
  | [], _, h => .inr (by simpa [puts] using h)
  | o :: os, k, h => by
    unfold puts at h
    cases hd : o.dst with
    | none =>
      rw [hd] at h
      rcases puts_look f T os (k + 1) h with ⟨i, o', h1, h2, h3⟩ | h'
      · exact .inl ⟨i + 1, o', by simpa using h1, h2, by rw [h3]; congr 1; omega⟩
      · exact .inr h'
    | some d =>
      rw [hd] at h
      simp only [ext, List.cons_append] at h
      rw [List.lookup_cons] at h
      by_cases ht : t = d
      · subst ht
        simp at h
        exact .inl ⟨0, o, by simp, hd, by simp [h]⟩
      · have : (t == d) = false := by simpa using ht
        simp only [this] at h
        rcases puts_look f T os (k + 1) h with ⟨i, o', h1, h2, h3⟩ | h'
        · exact .inl ⟨i + 1, o', by simpa using h1, h2, by rw [h3]; congr 1; omega⟩
        · exact .inr h'
theorem set_ne {l : Array Bool} {i k : Nat} (b : Bool) (h : i ≠ k) : (l.setIfInBounds i true).getD k b = l.getD k b := by
  simp [Array.getD_eq_getD_getElem?, Array.getElem?_setIfInBounds_ne h]
section
variable {P : Program} {l : List Oper} {Q : Exit → Act → World → Prop} {S : World → World → Prop} {n : Nat} {T : List (Nat × Value)} {w : World}
theorem drawn_any (tab : Nat → Cl S) (htrans : ∀ a b c, S a b → S b c → S a c) (hfit : fitB l.toArray n T = true)
    (hop : ∀ i o, l[i]? = some o → Obl P l.toArray S n T tab w i o)
    (hend : ∀ f a' w', S w w' → (∀ i, i < l.length → (tab i).P (f i) w') → St n (puts l f 0 ++ T) a' → Q .normal a' w') :
    ∀ (fuel : Nat) (listed : Array Bool) (a' : Act) (w' : World), listed.size = l.length → ((List.range l.length).filter fun i => !listed.getD i true).length ≤ fuel → S w w' → St n T a' →
      (∀ i, i < l.length → listed.getD i false = true → (tab i).P (valOf l.toArray a' i) w') → wpAny P .any l.toArray Q fuel listed a' w' := by
  have last : ∀ (listed : Array Bool) (a' : Act) (w' : World), listed.size = l.length → Region.ready .any l.toArray listed = [] → S w w' → St n T a' →
      (∀ i, i < l.length → listed.getD i false = true → (tab i).P (valOf l.toArray a' i) w') → Q .normal a' w' := by
    intro listed a' w' hls hr hS hT hin
    have all : ∀ i, i < l.length → listed.getD i false = true := by
      intro i
      induction i using Nat.strongRecOn with
      | _ i ih =>
        intro hi
        cases hl : listed.getD i false with
        | true => rfl
        | false =>
          exfalso
          have : i ∈ Region.ready .any l.toArray listed := by
            rw [mem_ready]
            have hli : i < listed.size := by omega
            have hoi : l.toArray[i]? = some l[i] := by simp [hi]
            refine ⟨by simpa [hli] using hl, l[i], hoi, fun e he hb => ?_⟩
            have hlt := (fit_spec hfit hoi).2 e he hb
            exact ih e.on hlt (by omega)
          rw [hr] at this; cases this
    refine hend (valOf l.toArray a') a' w' hS (fun i hi => hin i hi (all i hi)) ⟨hT.size, hT.defers, fun t v hv => ?_⟩
    rcases puts_look (valOf l.toArray a') T l 0 hv with ⟨i, o, h1, h2, h3⟩ | h
    · have hd : dstOf l.toArray i = some t := by simp [dstOf, h1, h2]
      rw [h3, Nat.zero_add]; unfold valOf; rw [hd]
    · exact hT.get t v h
  intro fuel
  induction fuel with
  | zero =>
    intro listed a' w' hls hf hS hT hin
    have hr : Region.ready .any l.toArray listed = [] := by
      unfold Region.ready
      rw [List.filter_eq_nil_iff]
      intro i hi
      have hnil : ((List.range l.length).filter fun i => !listed.getD i true) = [] := List.eq_nil_of_length_eq_zero (by omega)
      rw [List.filter_eq_nil_iff] at hnil
      have := hnil i (by simpa using hi)
      simp only [Bool.not_eq_true, Bool.not_eq_false'] at this
      simp [this]
    exact ⟨hr, last listed a' w' hls hr hS hT hin⟩
  | succ fuel ih =>
    intro listed a' w' hls hf hS hT hin
    refine ⟨fun hr => last listed a' w' hls hr hS hT hin, fun i hi => ?_⟩
    obtain ⟨hun, o, hoi, hall⟩ := mem_ready.1 hi
    have hil : i < l.length := by have := (Array.getElem?_eq_some_iff.1 hoi).1; simpa using this
    have hoi' : l[i]? = some o := by simpa using hoi
    obtain ⟨hfd, hfe⟩ := fit_spec hfit hoi
    have hk : ∀ j, waits o j = true → (tab j).P (valOf l.toArray a' j) w' := fun j hj => by
      unfold waits at hj
      rw [List.any_eq_true] at hj
      obtain ⟨e, he', hb⟩ := hj
      have he : e ∈ o.after := by simpa using he'
      simp only [Bool.and_eq_true, beq_iff_eq] at hb
      have := hfe e he hb.1
      rw [← hb.2]
      exact hin e.on (by omega) (hall e he hb.1)
    have go : ∀ (v : Value) (w2 : World), S w' w2 → (tab i).P (seenV o v) w2 → wpAny P .any l.toArray Q fuel (listed.setIfInBounds i true) (a'.put o.dst v) w2 := by
      intro v w2 hS2 hv
      have hT2 : St n T (a'.put o.dst v) := by
        cases hd : o.dst with
        | none => exact hT
        | some d =>
          obtain ⟨hdn, _, hTd⟩ := hfd d hd
          have hp := hT.put hdn v
          refine ⟨hp.size, hp.defers, fun t u hu => hp.get t u ?_⟩
          have hne : t ≠ d := hTd (t, u) (lookup_mem hu)
          rw [List.lookup_cons]
          have : (t == d) = false := by simpa using hne
          simp only [this]; exact hu
      refine ih _ _ _ (by simpa using hls) ?_ (htrans _ _ _ hS hS2) hT2 (fun j hj hlj => ?_)
      · have hlt : i < listed.size := by omega
        have : ((List.range l.length).filter fun k => !(listed.setIfInBounds i true).getD k true).length < ((List.range l.length).filter fun k => !listed.getD k true).length := by
          have hsub : ((List.range l.length).filter fun k => !(listed.setIfInBounds i true).getD k true) = ((List.range l.length).filter fun k => !listed.getD k true).filter (fun k => k != i) := by
            rw [List.filter_filter]
            apply List.filter_congr
            intro k _
            by_cases hk : k = i
            · subst hk; simp [hlt]
            · rw [set_ne true (Ne.symm hk)]; simp [hk]
          rw [hsub]
          refine List.length_filter_lt_length_iff_exists.2 ⟨i, ?_, by simp⟩
          simp only [List.mem_filter, List.mem_range]
          exact ⟨hil, by rw [hun]; rfl⟩
        omega
      · by_cases hji : j = i
        · subst hji
          have : valOf l.toArray (a'.put o.dst v) j = seenV o v := by
            cases hd : o.dst with
            | none =>
              have hdi : dstOf l.toArray j = none := by simp [dstOf, hoi', hd]
              unfold valOf seenV; rw [hdi, hd]
            | some d =>
              have hdi : dstOf l.toArray j = some d := by simp [dstOf, hoi', hd]
              have hdl : d < a'.tmps.size := by rw [hT.size]; exact (hfd d hd).1
              unfold valOf seenV; rw [hdi, hd]; simp [Act.put, hdl]
          rw [this]; exact hv
        · have h1 := hin j hj (by rwa [set_ne false (Ne.symm hji)] at hlj)
          have h2 : valOf l.toArray (a'.put o.dst v) j = valOf l.toArray a' j := by
            unfold valOf
            cases hdj : dstOf l.toArray j with
            | none => rfl
            | some d' =>
              cases hd : o.dst with
              | none => rfl
              | some d =>
                have hne : d ≠ d' := fun e => by subst e; exact hji ((hfd d hd).2.1 j (by simpa using hj) hdj)
                simp [Act.put, Array.getD_eq_getD_getElem?, Array.getElem?_setIfInBounds_ne hne]
          rw [h2]; exact (tab j).st _ _ _ hS2 h1
    unfold wpOp
    rcases hop i o hoi' a' w' hS hT hk with ⟨hw, h⟩ | ⟨hw, h⟩
    · simp only [hoi, hw, if_true]
      refine .inl (Oper.wp_mono (fun a2 w2 h => ?_) (h Q))
      obtain ⟨v, rfl, hS2, hv⟩ := h
      exact go v w2 hS2 hv
    · simp only [hoi, hw, Bool.false_eq_true, if_false]
      exact go undef w' h.1 h.2
def Eachs (P : Program) (ops : Array Oper) (S : World → World → Prop) (n : Nat) (T : List (Nat × Value)) (tab : Nat → Cl S) (w : World) (k : Nat) (l : List Oper) : Prop := ∀ i o, l[i]? = some o → Obl P ops S n T tab w (k + i) o
theorem each_nil {ops : Array Oper} {tab : Nat → Cl S} {k : Nat} : Eachs P ops S n T tab w k [] := fun i o h => by simp at h
theorem each_cons {ops : Array Oper} {tab : Nat → Cl S} {k : Nat} {o : Oper} {os : List Oper} (h : Obl P ops S n T tab w k o) (ht : Eachs P ops S n T tab w (k + 1) os) : Eachs P ops S n T tab w k (o :: os) := fun i p hp => by
  cases i with
  | zero => simp at hp; subst hp; exact h
  | succ i => have := ht i p (by simpa using hp); rwa [show k + 1 + i = k + (i + 1) by omega] at this
/-- THE LAW. -/
theorem drawn {id : Nat} {a : Act} (tab : Nat → Cl S) (hm : P.follows .mixedOrders = true) (hrefl : ∀ w, S w w) (htrans : ∀ a b c, S a b → S b c → S a c) (hdrew : ∀ w : World, S w w.drew) (hA : St n T a) (hfit : fitB l.toArray n T = true)
    (hop : Eachs P l.toArray S n T tab w.drew 0 l)
    (hend : ∀ f a' w', S w w' → (∀ i, i < l.length → (tab i).P (f i) w') → St n (puts l f 0 ++ T) a' → Q .normal a' w') : (Code.region id l.toArray true).wp P Q a w := by
  refine wp_region_any hm ?_
  refine drawn_any (w := w.drew) tab htrans hfit (fun i o h => by have := hop i o h; rwa [Nat.zero_add] at this) (fun f a' w' hS => hend f a' w' (htrans _ _ _ (hdrew w) hS)) _ _ _ _ (by simp) ?_ (hrefl _) hA (fun i _ hi => ?_)
  · refine Nat.le_trans (List.length_filter_le _ _) (by simp)
  · exfalso
    simp [Array.getD_eq_getD_getElem?, Array.getElem?_replicate] at hi; split at hi <;> simp at hi
end

/-! ### Worlds that grow, some blocks of the call's own going forward to what they will hold -/
structure SM (M : Nat → Option (Array Value)) (w w' : World) : Prop where
  os : w'.os = w.os
  tape : w'.tape = w.tape
  output : w'.output = w.output
  size : w.heap.size ≤ w'.heap.size
  block : ∀ k, k < w.heap.size → M k = none → w'.heap[k]? = w.heap[k]?
  turns : ∀ k fin cs t, M k = some fin → Blk w k cs t → ∃ cs', Blk w' k cs' t ∧ cs'.size = cs.size ∧ ∀ j : Nat, cs'[j]? = cs[j]? ∨ cs'[j]? = fin[j]?
theorem SM.refl {M : Nat → Option (Array Value)} (w : World) : SM M w w := ⟨rfl, rfl, rfl, Nat.le_refl _, fun _ _ _ => rfl, fun _ _ cs _ _ h => ⟨cs, h, rfl, fun _ => .inl rfl⟩⟩
theorem SM.trans {M : Nat → Option (Array Value)} (a b c : World) (h : SM M a b) (k : SM M b c) : SM M a c :=
  ⟨k.os.trans h.os, k.tape.trans h.tape, k.output.trans h.output, Nat.le_trans h.size k.size, fun i hi hm => (k.block i (Nat.lt_of_lt_of_le hi h.size) hm).trans (h.block i hi hm), fun i fin cs t hm hb => by
    obtain ⟨cs1, h1, h2, h3⟩ := h.turns i fin cs t hm hb
    obtain ⟨cs2, k1, k2, k3⟩ := k.turns i fin cs1 t hm h1
    refine ⟨cs2, k1, k2.trans h2, fun j => ?_⟩
    rcases k3 j with e | e
    · rcases h3 j with e' | e'
      · exact .inl (e.trans e')
      · exact .inr (e.trans e')
    · exact .inr e⟩
theorem SM.grow {M : Nat → Option (Array Value)} {w w' : World} (h : Grow w w') : SM M w w' :=
  ⟨h.os, h.tape, h.output, h.size, fun k hk _ => h.block k hk, fun _ _ cs _ _ hb => ⟨cs, hb.grow h, rfl, fun _ => .inl rfl⟩⟩
theorem SM.drew {M : Nat → Option (Array Value)} (w : World) : SM M w w.drew := SM.grow (Grow.refl w).drew
theorem SM.grown {w w' : World} (h : SM (fun _ => none) w w') : Grow w w' := ⟨h.os, h.tape, h.output, h.size, fun k hk => h.block k hk rfl⟩
theorem SM.below {M : Nat → Option (Array Value)} {B : Nat} {a w w' : World} (h : SM M w w') (hb : Below B a w) (hB : B ≤ w.heap.size) (hM : ∀ k, k < B → M k = none) : Below B a w' :=
  hb.trans ⟨h.os, h.tape, h.output, h.size, fun k hk => h.block k (by omega) (hM k hk)⟩
theorem Blk.sm {M : Nat → Option (Array Value)} {w w' : World} {g : Nat} {cs : Array Value} {t : TypeId} (hb : Blk w g cs t) (h : SM M w w') (hM : M g = none) : Blk w' g cs t := by
  unfold Blk; rw [h.block g hb.lt hM]; exact hb
theorem SM.store {M : Nat → Option (Array Value)} {w w' : World} {g k : Nat} {fin cs : Array Value} {t : TypeId} {v : Value} (hM : M g = some fin) (hu : Upd g w w') (hb : Blk w g cs t) (hb' : Blk w' g (cs.setIfInBounds k v) t) (hf : fin[k]? = some v) (hk : k < cs.size) : SM M w w' :=
  ⟨hu.os, hu.tape, hu.output, Nat.le_of_eq hu.size.symm, fun i _ hm => hu.block i (fun e => by subst e; rw [hM] at hm; cases hm), fun i fin' cs' t' hm hbi => by
    by_cases hi : i = g
    · subst hi
      rw [hM] at hm; cases hm
      unfold Blk at hb hbi
      rw [hb] at hbi
      injection hbi with hbi; injection hbi with h1 h2
      subst h1; subst h2
      refine ⟨_, hb', by simp, fun j => ?_⟩
      by_cases hj : k = j
      · subst hj; right; simp [hk, hf]
      · left; rw [Array.getElem?_setIfInBounds_ne hj]
    · exact ⟨cs', hbi.upd hu hi, rfl, fun _ => .inl rfl⟩⟩
/-- a cell that holds what it will hold -/
def cm (M : Nat → Option (Array Value)) (g k : Nat) (v : Value) (h : ∃ fin, M g = some fin ∧ fin[k]? = some v) : Cl (SM M) :=
  ⟨fun _ w => ∃ cs t, Blk w g cs t ∧ cs[k]? = some v, fun _ w w' hS ⟨cs, t, hb, hc⟩ => by
    obtain ⟨fin, hM, hf⟩ := h
    obtain ⟨cs', h1, _, h3⟩ := hS.turns g fin cs t hM hb
    refine ⟨cs', t, h1, ?_⟩
    rcases h3 k with e | e
    · rw [e]; exact hc
    · rw [e]; exact hf⟩
def setAll (cs : Array Value) : List (Nat × Value) → Array Value
  | [] => cs
  | x :: xs => setAll (cs.setIfInBounds x.1 x.2) xs
theorem setAll_size : ∀ (xs : List (Nat × Value)) (cs : Array Value), (setAll cs xs).size = cs.size
  | [], _ => rfl
  | x :: xs, cs => by rw [setAll, setAll_size xs]; simp
theorem setAll_out (j : Nat) : ∀ (xs : List (Nat × Value)) (cs : Array Value), (∀ x ∈ xs, x.1 ≠ j) → (setAll cs xs)[j]? = cs[j]?
  | [], _, _ => rfl
  | x :: xs, cs, h => by rw [setAll, setAll_out j xs _ (fun y hy => h y (by simp [hy])), Array.getElem?_setIfInBounds_ne (h x (by simp))]
/-- the block holds what it was to hold, once all stores are done -/
theorem SM.fin {M : Nat → Option (Array Value)} {w w' : World} {g : Nat} {cs : Array Value} {t : TypeId} (h : SM M w w') (xs : List (Nat × Value)) (hM : M g = some (setAll cs xs)) (hb : Blk w g cs t)
    (hx : ∀ x ∈ xs, ∃ cs' t', Blk w' g cs' t' ∧ cs'[x.1]? = (setAll cs xs)[x.1]?) : Blk w' g (setAll cs xs) t := by
  obtain ⟨cs', h1, h2, h3⟩ := h.turns g _ cs t hM hb
  have : cs' = setAll cs xs := by
    apply Array.ext_getElem?
    intro j
    by_cases hj : ∃ x ∈ xs, x.1 = j
    · obtain ⟨x, hxm, rfl⟩ := hj
      obtain ⟨cs'', t'', k1, k2⟩ := hx x hxm
      unfold Blk at h1 k1
      rw [h1] at k1
      injection k1 with k1; injection k1 with e1 e2
      subst e1; exact k2
    · rcases h3 j with e | e
      · rw [e, setAll_out j xs cs (fun x hx e => hj ⟨x, hx, e⟩)]
      · exact e
  subst this; exact h1
theorem SM.finL {M : Nat → Option (Array Value)} {w w' : World} {g : Nat} {cs fin : Array Value} {t : TypeId} (h : SM M w w') (xs : List (Nat × Value)) (hM : M g = some fin) (hfin : setAll cs xs = fin) (hb : Blk w g cs t)
    (hx : ∀ x ∈ xs, ∃ cs' t', Blk w' g cs' t' ∧ cs'[x.1]? = fin[x.1]?) : Blk w' g fin t := by
  subst hfin; exact h.fin xs hM hb hx
def tabL {S : World → World → Prop} (L : List (Cl S)) (i : Nat) : Cl S := (L[i]?).getD cfree
theorem fm_nil {R : Nat × Value → Prop} : ∀ x ∈ ([] : List (Nat × Value)), R x := fun _ h => by cases h
theorem fm_cons {R : Nat × Value → Prop} {y : Nat × Value} {l : List (Nat × Value)} (h : R y) (ht : ∀ x ∈ l, R x) : ∀ x ∈ y :: l, R x := List.forall_mem_cons.2 ⟨h, ht⟩
section
variable {P : Program} {ops : Array Oper} {a : Act} {w w0 : World} {K : Value → World → Prop} {d : Option Tmp} {ty : TypeId} {pos : String} {af : Array Edge} {gd : Option (Nat × Bool)} {v : Value} {M : Nat → Option (Array Value)}
theorem d_storeM {t t' : TypeId} {x y : Operand} {g k : Nat} {fin cs : Array Value} (hw : Region.wanted { dst := d, op := .store t x y, type := ty, pos := pos, after := af, guard := gd } (yielded ops a.tmps) = true) (hx : a.eval x = .pointer (some ⟨g, k, none⟩)) (hy : a.eval y = v)
    (h1 : oneB P t = true) (ho : v.oneCell' = true) (hS : SM M w0 w) (hM : M g = some fin) (hb : Blk w0 g cs t') (hk : k < cs.size) (hf : fin[k]? = some v) (hK : ∀ w', SM M w w' ∧ (∃ cs t, Blk w' g cs t ∧ cs[k]? = some v) → K undef w') :
    Does P ops { dst := d, op := .store t x y, type := ty, pos := pos, after := af, guard := gd } a w K := by
  obtain ⟨cs', hb', hs', _⟩ := hS.turns g fin cs t' hM hb
  have hk' : k < cs'.size := by omega
  exact d_store hw hx hy h1 ho hb' hk' fun w' hu hb2 => hK w' ⟨SM.store hM hu hb' hb2 hf hk', _, _, hb2, by simp [hk']⟩
/-- the places of a struct's fields, off closed facts -/
def placesOf (P : Program) (t : TypeId) : Option (List (Nat × Nat)) :=
  match P.underlying t with
  | some (.struct fs) => fs.toList.mapM fun f => (P.info? f.type).map fun i => (f.offset, i.size)
  | _ => none
theorem run_places {P : Program} (w : World) : ∀ (fs : List Field) (ps : List (Nat × Nat)), fs.mapM (fun f => (P.info? f.type).map fun i => (f.offset, i.size)) = some ps → (fs.mapM (fun f => do pure (f.offset, ← sizeOf f.type) : Field → Sem (Nat × Nat))).run P w = .ok ps w
  | [], ps, h => by simp at h; subst h; simp
  | f :: fs, ps, h => by
    rw [List.mapM_cons] at h
    cases hi : P.info? f.type with
    | none => simp [hi] at h
    | some i =>
      cases hr : fs.mapM (fun f => (P.info? f.type).map fun i => (f.offset, i.size)) with
      | none => simp [hi, hr] at h
      | some qs =>
        simp [hi, hr] at h
        subst h
        have ih := run_places w fs qs hr
        have hz : (sizeOf f.type).run P w = .ok i.size w := by simp [sizeOf, typeInfo, hi]
        rw [List.mapM_cons]
        simp only [Sem.run_bind, hz, Result.andThen_ok, Sem.run_pure, ih]
theorem d_build {t : TypeId} {parts : Array (Nat × Operand)} {vs : List (Nat × Value)} {z : Value} {m : Nat} {ps : List (Nat × Nat)} {cs : Array Value} (hw : Region.wanted { dst := d, op := .build t parts, type := ty, pos := pos, after := af, guard := gd } (yielded ops a.tmps) = true)
    (hx : (parts.map fun x => (x.1, a.eval x.2)).toList = vs) (hi : (P.info? t).map (fun i => (i.zero, i.size)) = some (some z, m)) (hp : placesOf P t = some ps) (hf : Instr.fill (fun i => ps[i]?) z.cells vs = some cs) (h : K (.agg cs) w) :
    Does P ops { dst := d, op := .build t parts, type := ty, pos := pos, after := af, guard := gd } a w K :=
  does_val hw (by
    have hz := (zero_of_info hi).1 w
    unfold placesOf at hp
    split at hp
    · rename_i fs hu
      have hpl := run_places (P := P) w fs.toList ps hp
      have hpl' : (fs.mapM (fun f => do pure (f.offset, ← sizeOf f.type) : Field → Sem (Nat × Nat))).run P w = .ok ps.toArray w := by
        rw [← Array.toArray_toList (xs := fs), List.mapM_toArray]
        simp only [Sem.run_map, hpl, Result.andThen_ok]
      have hf' : Instr.fill (fun i => ps.toArray[i]?) z.cells (parts.map fun x => (x.1, a.eval x.2)).toList = some cs := by rw [hx]; simpa using hf
      unfold execOp
      simp only [Sem.run_bind, Instr.build, hz, Result.andThen_ok, run_underlying hu, hpl', hf', Sem.run_pure]
    · cases hp) h
theorem map0 {ρ : Operand → Value} : (#[] : Array Operand).map ρ = #[] := by simp
theorem map1 {ρ : Operand → Value} {x0 : Operand} {v0 : Value} (h0 : ρ x0 = v0) : #[x0].map ρ = #[v0] := by simp [h0]
theorem map2 {ρ : Operand → Value} {x0 x1 : Operand} {v0 v1 : Value} (h0 : ρ x0 = v0) (h1 : ρ x1 = v1) : #[x0, x1].map ρ = #[v0, v1] := by simp [h0, h1]
theorem map3 {ρ : Operand → Value} {x0 x1 x2 : Operand} {v0 v1 v2 : Value} (h0 : ρ x0 = v0) (h1 : ρ x1 = v1) (h2 : ρ x2 = v2) : #[x0, x1, x2].map ρ = #[v0, v1, v2] := by simp [h0, h1, h2]
theorem map4 {ρ : Operand → Value} {x0 x1 x2 x3 : Operand} {v0 v1 v2 v3 : Value} (h0 : ρ x0 = v0) (h1 : ρ x1 = v1) (h2 : ρ x2 = v2) (h3 : ρ x3 = v3) : #[x0, x1, x2, x3].map ρ = #[v0, v1, v2, v3] := by simp [h0, h1, h2, h3]
theorem bp_nil {ρ : Operand → Value} : ((#[] : Array (Nat × Operand)).map fun x => (x.1, ρ x.2)).toList = [] := by simp
theorem bp_of {ρ : Operand → Value} {l : List (Nat × Operand)} {vs : List (Nat × Value)} (h : l.map (fun x => (x.1, ρ x.2)) = vs) : (l.toArray.map fun x => (x.1, ρ x.2)).toList = vs := by simp [h]
theorem bq_nil {ρ : Operand → Value} : ([] : List (Nat × Operand)).map (fun x => (x.1, ρ x.2)) = [] := rfl
theorem bq_cons {ρ : Operand → Value} {i : Nat} {x : Operand} {v : Value} {l : List (Nat × Operand)} {vs : List (Nat × Value)} (h : ρ x = v) (ht : l.map (fun x => (x.1, ρ x.2)) = vs) : ((i, x) :: l).map (fun x => (x.1, ρ x.2)) = (i, v) :: vs := by simp [h, ht]
end
end Go.Proofs.Ytlhompedcphnnaa
