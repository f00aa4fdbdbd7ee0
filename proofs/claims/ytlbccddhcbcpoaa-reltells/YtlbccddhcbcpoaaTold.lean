/- A region that draws its order, walked once: each operation is shown to yield what is claimed of its slot whenever it comes up, the claims being such as no growth of memory turns. -/
import Derived.Test.YtlbccddhcbcpoaaLists
namespace Go.Proofs.Ytlbccddhcbcpoaa
open Go.RowKit

/-- what is claimed of a slot -/
inductive Cl where
  | val (v : Value)
  | ptr (r : Rl)
  | sl (rs : List Rl)
  | any (P : Value → World → Prop) (h : ∀ v w w', Grow w w' → P v w → P v w')
def Cl.ok : Cl → Value → World → Prop
  | .val u, v, _ => v = u
  | .ptr r, v, w => ∃ g, v = .pointer (some ⟨g, 0, none⟩) ∧ At w g r
  | .sl rs, v, w => Sn w v rs
  | .any P _, v, w => P v w
theorem Cl.grow (c : Cl) {v : Value} {w w' : World} (hg : Grow w w') (h : c.ok v w) : c.ok v w' := by
  cases c with
  | val u => exact h
  | ptr r => obtain ⟨g, hv, ha⟩ := h; exact ⟨g, hv, ha.grow hg⟩
  | sl rs => exact Sn.grow hg h
  | any P hP => exact hP v w w' hg h

/-- the slot that operation j fills -/
def dstOf (ops : Array Oper) (j : Nat) : Option Tmp := (ops[j]?).bind (·.dst)
/-- of this slot something is known when the operation comes up -/
def knownB (ops : Array Oper) (o : Oper) (t : Nat) : Bool :=
  (ops.all fun p => p.dst != some t) || o.after.any fun e => Region.binds .any e && dstOf ops e.on == some t
/-- each operation fills a slot of its own, and waits for earlier ones alone -/
def fitB (ops : Array Oper) (n : Nat) : Bool :=
  (List.range ops.size).all fun i => match ops[i]? with
    | some o => (match o.dst with
      | some d => decide (d < n) && (List.range ops.size).all fun j => i == j || dstOf ops j != some d
      | none => false) && o.after.all fun e => decide (e.on < i)
    | none => false
theorem fit_spec {ops : Array Oper} {n i : Nat} {o : Oper} (h : fitB ops n = true) (hi : ops[i]? = some o) :
    ∃ d, o.dst = some d ∧ d < n ∧ (∀ j, j < ops.size → dstOf ops j = some d → j = i) ∧ ∀ e ∈ o.after, e.on < i := by
  have hlt : i < ops.size := (Array.getElem?_eq_some_iff.1 hi).1
  unfold fitB at h
  rw [List.all_eq_true] at h
  have h1 := h i (by simpa using hlt)
  simp only [hi] at h1
  rw [Bool.and_eq_true] at h1
  obtain ⟨h2, h3⟩ := h1
  cases hd : o.dst with
  | none => simp [hd] at h2
  | some d =>
    simp only [hd, Bool.and_eq_true, decide_eq_true_eq, List.all_eq_true] at h2
    refine ⟨d, rfl, h2.1, fun j hj hjd => ?_, fun e he => ?_⟩
    · have := h2.2 j (by simpa using hj)
      simp only [hjd, Bool.or_eq_true, beq_iff_eq, bne_self_eq_false, Bool.false_eq_true, or_false] at this
      exact this.symm
    · have := (Array.all_eq_true_iff_forall_mem.1 h3) e he
      simpa using this

/-- the slots filled, one after the other -/
def putF (a : Act) : List Oper → Nat → (Nat → Value) → Act
  | [], _, _ => a
  | o :: os, k, f => putF (a.put o.dst (f k)) os (k + 1) f
theorem putF_defers (f : Nat → Value) : ∀ (os : List Oper) (a : Act) (k : Nat), (putF a os k f).defers = a.defers
  | [], _, _ => rfl
  | o :: os, a, k => by rw [putF, putF_defers f os]; unfold Act.put; split <;> rfl
theorem putF_size (f : Nat → Value) : ∀ (os : List Oper) (a : Act) (k : Nat), (putF a os k f).tmps.size = a.tmps.size
  | [], _, _ => rfl
  | o :: os, a, k => by rw [putF, putF_size f os]; unfold Act.put; split <;> simp
theorem putF_out (f : Nat → Value) (t : Nat) : ∀ (os : List Oper) (a : Act) (k : Nat), (∀ o ∈ os, o.dst ≠ some t) → (putF a os k f).tmps[t]? = a.tmps[t]?
  | [], _, _, _ => rfl
  | o :: os, a, k, h => by
    rw [putF, putF_out f t os _ _ (fun p hp => h p (by simp [hp]))]
    have := h o (by simp)
    unfold Act.put
    split
    · rename_i d hd
      have : d ≠ t := fun e => this (by rw [hd, e])
      simp [Array.getElem?_setIfInBounds_ne this]
    · rfl
theorem putF_in (f : Nat → Value) (t : Nat) : ∀ (os : List Oper) (a : Act) (k i : Nat), t < a.tmps.size → (os[i]?).bind (·.dst) = some t → (∀ j, (os[j]?).bind (·.dst) = some t → j = i) →
    (putF a os k f).tmps[t]? = some (f (k + i))
  | [], _, _, _, _, h, _ => by simp at h
  | o :: os, a, k, 0, hl, h, hu => by
    have ho : o.dst = some t := by simpa using h
    rw [putF, putF_out f t os _ _ (fun p hp hpd => by
      obtain ⟨j, hj⟩ := List.getElem?_of_mem hp
      have := hu (j + 1) (by simp [hj, hpd])
      omega)]
    simp [Act.put, ho, hl]
  | o :: os, a, k, i + 1, hl, h, hu => by
    rw [putF, putF_in f t os _ (k + 1) i (by unfold Act.put; split <;> simpa using hl) (by simpa using h) (fun j hj => by have := hu (j + 1) (by simpa using hj); omega)]
    congr 2; omega

theorem act_ext {a b : Act} (h : a.tmps = b.tmps) (h2 : a.defers = b.defers) : a = b := by
  cases a; cases b; simp only at h h2; rw [h, h2]

section
variable {ops : Array Oper} {Q : Exit → Act → World → Prop} {a : Act} {w : World}
/-- what is owed for one operation -/
def Obl (ops : Array Oper) (Q : Exit → Act → World → Prop) (w : World) (tab : Nat → Cl) (o : Oper) : Prop :=
  ∀ a' w', Grow w w' → (∀ t, knownB ops o t = true → (tab t).ok (a'.tmps.getD t undef) w') →
    Region.wanted o (yielded ops a'.tmps) = true ∧ o.wp Try.prog a' w' (fun a'' w'' => ∃ v, a'' = a'.put o.dst v ∧ Grow w' w'' ∧ ∀ d, o.dst = some d → (tab d).ok v w'') Q

/-- an operation whose guard is not met -/
def Skp (ops : Array Oper) (w : World) (tab : Nat → Cl) (o : Oper) : Prop :=
  ∀ (a' : Act) (w' : World), Grow w w' → (∀ t, knownB ops o t = true → (tab t).ok (a'.tmps.getD t undef) w') → Region.wanted o (yielded ops a'.tmps) = false ∧ ∀ d, o.dst = some d → (tab d).ok undef w'
theorem told_any (tab : Nat → Cl) (hfit : fitB ops a.tmps.size = true) (hout : ∀ t, (∀ o ∈ ops.toList, o.dst ≠ some t) → (tab t).ok (a.tmps.getD t undef) w)
    (hop : ∀ o ∈ ops.toList, Obl ops Q w tab o ∨ Skp ops w tab o)
    (hend : ∀ f w', Grow w w' → (∀ i d, dstOf ops i = some d → (tab d).ok (f i) w') → Q .normal (putF a ops.toList 0 f) w') :
    ∀ (fuel : Nat) (listed : Array Bool) (a' : Act) (w' : World), listed.size = ops.size → ((List.range ops.size).filter fun i => !listed.getD i true).length ≤ fuel → Grow w w' → a'.defers = a.defers → a'.tmps.size = a.tmps.size →
      (∀ t, (∀ o ∈ ops.toList, o.dst ≠ some t) → a'.tmps[t]? = a.tmps[t]?) →
      (∀ i d, listed.getD i false = true → dstOf ops i = some d → (tab d).ok (a'.tmps.getD d undef) w') →
      wpAny Try.prog .any ops Q fuel listed a' w' := by
  have last : ∀ (listed : Array Bool) (a' : Act) (w' : World), listed.size = ops.size → Region.ready .any ops listed = [] → Grow w w' → a'.defers = a.defers → a'.tmps.size = a.tmps.size →
      (∀ t, (∀ o ∈ ops.toList, o.dst ≠ some t) → a'.tmps[t]? = a.tmps[t]?) →
      (∀ i d, listed.getD i false = true → dstOf ops i = some d → (tab d).ok (a'.tmps.getD d undef) w') → Q .normal a' w' := by
    intro listed a' w' hls hr hg hdf hsz ho hin
    have all : ∀ i, i < ops.size → listed.getD i false = true := by
      intro i
      induction i using Nat.strongRecOn with
      | _ i ih =>
        intro hi
        cases hl : listed.getD i false with
        | true => rfl
        | false =>
          exfalso
          have : i ∈ Region.ready .any ops listed := by
            rw [mem_ready]
            have hli : i < listed.size := by omega
            refine ⟨by simpa [hli] using hl, ops[i], Array.getElem?_eq_getElem hi, fun e he hb => ?_⟩
            obtain ⟨d, _, _, _, hlt⟩ := fit_spec hfit (Array.getElem?_eq_getElem hi)
            have := hlt e he
            exact ih e.on this (by omega)
          rw [hr] at this; cases this
    have key : a' = putF a ops.toList 0 (fun i => a'.tmps.getD ((dstOf ops i).getD 0) undef) := by
      have e1 : a'.tmps = (putF a ops.toList 0 (fun i => a'.tmps.getD ((dstOf ops i).getD 0) undef)).tmps := by
        apply Array.ext_getElem?
        intro t
        by_cases hex : ∃ i, dstOf ops i = some t
        · obtain ⟨i, hi⟩ := hex
          have hio : ∃ o, ops[i]? = some o ∧ o.dst = some t := by
            unfold dstOf at hi
            cases ho : ops[i]? with
            | none => simp [ho] at hi
            | some o => exact ⟨o, rfl, by simpa [ho] using hi⟩
          obtain ⟨o, hoi, hot⟩ := hio
          obtain ⟨d, hd, hdn, huniq, _⟩ := fit_spec hfit hoi
          rw [hot] at hd; cases hd
          rw [putF_in _ t ops.toList a 0 i hdn (by simpa [dstOf] using hi) (fun j hj => by
            have hjd : dstOf ops j = some t := by simpa [dstOf] using hj
            refine huniq j ?_ hjd
            unfold dstOf at hjd
            cases hoj : ops[j]? with
            | none => simp [hoj] at hjd
            | some _ => exact (Array.getElem?_eq_some_iff.1 hoj).1)]
          have htl : t < a'.tmps.size := by rw [hsz]; exact hdn
          simp [hi, htl]
        · have hno : ∀ o ∈ ops.toList, o.dst ≠ some t := fun o ho hd => by
            obtain ⟨i, hi⟩ := List.getElem?_of_mem ho
            exact hex ⟨i, by simp [dstOf, ← Array.getElem?_toList, hi, hd]⟩
          rw [ho t hno, putF_out _ t _ _ _ hno]
      have e2 : a'.defers = (putF a ops.toList 0 (fun i => a'.tmps.getD ((dstOf ops i).getD 0) undef)).defers := by rw [putF_defers, hdf]
      exact act_ext e1 e2
    rw [key]
    refine hend _ w' hg (fun i d hd => ?_)
    have hil : i < ops.size := by
      unfold dstOf at hd
      cases ho : ops[i]? with
      | none => simp [ho] at hd
      | some o => exact (Array.getElem?_eq_some_iff.1 ho).1
    have := hin i d (all i hil) hd
    simpa [hd] using this
  intro fuel
  induction fuel with
  | zero =>
    intro listed a' w' hls hf hg hdf hsz ho hin
    have hr : Region.ready .any ops listed = [] := by
      unfold Region.ready
      rw [List.filter_eq_nil_iff]
      intro i hi
      have hnil : ((List.range ops.size).filter fun i => !listed.getD i true) = [] := List.eq_nil_of_length_eq_zero (by omega)
      rw [List.filter_eq_nil_iff] at hnil
      have := hnil i hi
      simp only [Bool.not_eq_true, Bool.not_eq_false'] at this
      simp [this]
    exact ⟨hr, last listed a' w' hls hr hg hdf hsz ho hin⟩
  | succ fuel ih =>
    intro listed a' w' hls hf hg hdf hsz ho hin
    refine ⟨fun hr => last listed a' w' hls hr hg hdf hsz ho hin, fun i hi => ?_⟩
    obtain ⟨hun, o, hoi, hall⟩ := mem_ready.1 hi
    have hil : i < ops.size := (Array.getElem?_eq_some_iff.1 hoi).1
    have hmem : o ∈ ops.toList := by rw [Array.mem_toList_iff]; exact Array.mem_of_getElem? hoi
    obtain ⟨d, hd, hdn, huniq, _⟩ := fit_spec hfit hoi
    have hdi : dstOf ops i = some d := by simp [dstOf, hoi, hd]
    have hkn : ∀ t, knownB ops o t = true → (tab t).ok (a'.tmps.getD t undef) w' := fun t ht => by
      unfold knownB at ht
      rw [Bool.or_eq_true] at ht
      rcases ht with ht | ht
      · have hno : ∀ p ∈ ops.toList, p.dst ≠ some t := fun p hp => by
          have := (Array.all_eq_true_iff_forall_mem.1 ht) p (by simpa using hp)
          simpa using this
        have h1 := (tab t).grow hg (hout t hno)
        have h2 : a'.tmps.getD t undef = a.tmps.getD t undef := by simp [Array.getD_eq_getD_getElem?, ho t hno]
        rw [h2]; exact h1
      · rw [← Array.any_toList, List.any_eq_true] at ht
        obtain ⟨e, he', hb⟩ := ht
        have he : e ∈ o.after := by simpa using he'
        simp only [Bool.and_eq_true, beq_iff_eq] at hb
        exact hin e.on t (hall e he hb.1) hb.2
    have go : ∀ (v : Value) (w2 : World), Grow w' w2 → (∀ d, o.dst = some d → (tab d).ok v w2) → wpAny Try.prog .any ops Q fuel (listed.setIfInBounds i true) (a'.put o.dst v) w2 := by
      intro v w2 hg2 hv
      have hput : (a'.put o.dst v).tmps = a'.tmps.setIfInBounds d v := by simp [Act.put, hd]
      refine ih _ _ _ (by simpa using hls) ?_ (Grow.trans hg hg2) (by simp [Act.put, hd, hdf]) (by rw [hput]; simpa using hsz) (fun t hno => ?_) (fun j d' hj hdj => ?_)
      · have hlt : i < listed.size := by omega
        have h0 : listed.getD i true = false := hun
        have : ((List.range ops.size).filter fun k => !(listed.setIfInBounds i true).getD k true).length < ((List.range ops.size).filter fun k => !listed.getD k true).length := by
          have hsub : ((List.range ops.size).filter fun k => !(listed.setIfInBounds i true).getD k true) = ((List.range ops.size).filter fun k => !listed.getD k true).filter (fun k => k != i) := by
            rw [List.filter_filter]
            apply List.filter_congr
            intro k _
            by_cases hk : k = i
            · subst hk; simp [hlt]
            · rw [getD_set_ne true (Ne.symm hk)]; simp [hk]
          rw [hsub]
          refine List.length_filter_lt_length_iff_exists.2 ⟨i, ?_, by simp⟩
          simp only [List.mem_filter, List.mem_range]
          exact ⟨hil, by rw [h0]; rfl⟩
        omega
      · rw [hput]
        have : d ≠ t := fun e => hno o hmem (by rw [hd, e])
        rw [Array.getElem?_setIfInBounds_ne this]; exact ho t hno
      · rw [hput]
        by_cases hji : j = i
        · subst hji
          rw [hdi] at hdj; cases hdj
          have hdl : d < a'.tmps.size := by rw [hsz]; exact hdn
          simpa [hdl] using hv d hd
        · have hdd : d ≠ d' := fun e => by
            subst e
            have hjl : j < ops.size := by
              unfold dstOf at hdj
              cases hoj : ops[j]? with
              | none => simp [hoj] at hdj
              | some _ => exact (Array.getElem?_eq_some_iff.1 hoj).1
            exact hji (huniq j hjl hdj)
          have h1 := hin j d' (by rwa [getD_set_ne false (Ne.symm hji)] at hj) hdj
          have h2 : (a'.tmps.setIfInBounds d v).getD d' undef = a'.tmps.getD d' undef := by simp [Array.getD_eq_getD_getElem?, Array.getElem?_setIfInBounds_ne hdd]
          rw [h2]; exact (tab d').grow hg2 h1

    unfold wpOp
    rcases hop o hmem with h | h
    · obtain ⟨hw, hwp⟩ := h a' w' hg hkn
      simp only [hoi, hw, if_true]
      refine .inl (Oper.wp_mono (fun a2 w2 h => ?_) hwp)
      obtain ⟨v, rfl, hg2, hv⟩ := h
      exact go v w2 hg2 hv
    · obtain ⟨hw, hv⟩ := h a' w' hg hkn
      simp only [hoi, hw, Bool.false_eq_true, if_false]
      exact go undef w' (Grow.refl _) hv

/-- THE LAW: a region that draws its order, each of whose operations yields what is claimed of its slot. -/
theorem told {id : Nat} {l : List Oper} (tab : Nat → Cl) (hm : Try.prog.follows .mixedOrders = true) (hfit : fitB l.toArray a.tmps.size = true)
    (hout : ∀ t, (∀ o ∈ l, o.dst ≠ some t) → (tab t).ok (a.tmps.getD t undef) w.drew)
    (hop : ∀ o ∈ l, Obl l.toArray Q w.drew tab o)
    (hend : ∀ f w', Grow w w' → (∀ i d, dstOf l.toArray i = some d → (tab d).ok (f i) w') → Q .normal (putF a l 0 f) w') :
    (Code.region id l.toArray true).wp Try.prog Q a w := by
  refine wp_region_any hm ?_
  refine told_any (a := a) (w := w.drew) tab hfit (by simpa using hout) (fun o ho => .inl (hop o (by simpa using ho))) (fun f w' hg hf => hend f w' (Grow.trans ((Grow.refl w).drew) hg) hf) _ _ _ _ (by simp) ?_ (Grow.refl _) rfl rfl (fun _ _ => rfl) (fun i d hi _ => ?_)
  · refine Nat.le_trans (List.length_filter_le _ _) (by simp)
  · exfalso
    have h : (Array.replicate l.toArray.size false).getD i false = true := hi
    rcases Nat.lt_or_ge i l.toArray.size with h1 | h1
    · simp [Array.getD_eq_getD_getElem?, Array.getElem?_replicate] at h; split at h <;> simp at h
    · simp [Array.getD_eq_getD_getElem?, Array.getElem?_replicate] at h; split at h <;> simp at h
/-- THE SAME FOR A PLAIN REGION, some of whose operations may not be wanted. -/
theorem toldp {id : Nat} {l : List Oper} (tab : Nat → Cl) (hlin : Region.linearise .any l.toArray 0 = List.range l.toArray.size) (hfit : fitB l.toArray a.tmps.size = true)
    (hout : ∀ t, (∀ o ∈ l, o.dst ≠ some t) → (tab t).ok (a.tmps.getD t undef) w)
    (hop : ∀ o ∈ l, Obl l.toArray Q w tab o ∨ Skp l.toArray w tab o)
    (hend : ∀ f w', Grow w w' → (∀ i d, dstOf l.toArray i = some d → (tab d).ok (f i) w') → Q .normal (putF a l 0 f) w') :
    (Code.region id l.toArray false).wp Try.prog Q a w := by
  refine wp_region ?_
  rw [← hlin]
  refine wpAny_sound _ _ _ _ _ ?_
  refine told_any (a := a) (w := w) tab hfit (by simpa using hout) (by simpa using hop) (fun f w' hg hf => hend f w' hg hf) _ _ _ _ (by simp) ?_ (Grow.refl _) rfl rfl (fun _ _ => rfl) (fun i d hi _ => ?_)
  · refine Nat.le_trans (List.length_filter_le _ _) (by simp)
  · exfalso
    have h : (Array.replicate l.toArray.size false).getD i false = true := hi
    simp [Array.getD_eq_getD_getElem?, Array.getElem?_replicate] at h; split at h <;> simp at h
end

end Go.Proofs.Ytlbccddhcbcpoaa
