/- The law on drawn regions for a region whose last operation stores, and waits for all others. -/
import Derived.Test.YtlbccddhcbcpoaaArgs
namespace Go.Proofs.Ytlbccddhcbcpoaa
open Go.RowKit

/-- a new variable that lies behind all that was there -/
def freshP (B : Nat) : Value → World → Prop := fun v wx => ∃ g, B ≤ g ∧ v = .pointer (some ⟨g, 0, none⟩) ∧ At wx g nil
theorem freshP_grow (B : Nat) : ∀ v w w', Grow w w' → freshP B v w → freshP B v w' := fun _ _ _ hg ⟨g, h1, h2, h3⟩ => ⟨g, h1, h2, h3.grow hg⟩
section
variable {l : List Oper} {s : Oper} {Q : Exit → Act → World → Prop} {a : Act} {w : World}
theorem final_form (tab : Nat → Cl) (hfit : fitB l.toArray a.tmps.size = true) {a' : Act} {w' : World} (hdf : a'.defers = a.defers) (hsz : a'.tmps.size = a.tmps.size)
    (ho : ∀ t, (∀ o ∈ l, o.dst ≠ some t) → a'.tmps[t]? = a.tmps[t]?) (hin : ∀ i d, dstOf l.toArray i = some d → (tab d).ok (a'.tmps.getD d undef) w') :
    ∃ f, a' = putF a l 0 f ∧ ∀ i d, dstOf l.toArray i = some d → (tab d).ok (f i) w' := by
  refine ⟨fun i => a'.tmps.getD ((dstOf l.toArray i).getD 0) undef, ?_, fun i d hd => by simpa [hd] using hin i d hd⟩
  have e1 : a'.tmps = (putF a l 0 (fun i => a'.tmps.getD ((dstOf l.toArray i).getD 0) undef)).tmps := by
    apply Array.ext_getElem?
    intro t
    by_cases hex : ∃ i, dstOf l.toArray i = some t
    · obtain ⟨i, hi⟩ := hex
      have hio : ∃ o, l.toArray[i]? = some o ∧ o.dst = some t := by
        unfold dstOf at hi
        cases ho : l.toArray[i]? with
        | none => rw [ho] at hi; simp at hi
        | some o => exact ⟨o, rfl, by rw [ho] at hi; simpa using hi⟩
      obtain ⟨o, hoi, hot⟩ := hio
      obtain ⟨d, hd, hdn, huniq, _⟩ := fit_spec hfit hoi
      rw [hot] at hd; cases hd
      rw [putF_in _ t l a 0 i hdn (by simpa [dstOf] using hi) (fun j hj => by
        have hjd : dstOf l.toArray j = some t := by simpa [dstOf] using hj
        refine huniq j ?_ hjd
        unfold dstOf at hjd
        cases hoj : l.toArray[j]? with
        | none => rw [hoj] at hjd; simp at hjd
        | some _ => exact (Array.getElem?_eq_some_iff.1 hoj).1)]
      have htl : t < a'.tmps.size := by rw [hsz]; exact hdn
      simp [hi, htl]
    · have hno : ∀ o ∈ l, o.dst ≠ some t := fun o ho hd => by
        obtain ⟨i, hi⟩ := List.getElem?_of_mem ho
        exact hex ⟨i, by simp [dstOf, hi, hd]⟩
      rw [ho t hno, putF_out _ t _ _ _ hno]
  exact act_ext e1 (by rw [putF_defers, hdf])
theorem fd_cons {P : Oper → Prop} {x y : Oper} {l : List Oper} (h : P x) (ht : ∀ o ∈ (y :: l).dropLast, P o) : ∀ o ∈ (x :: y :: l).dropLast, P o := by
  rw [List.dropLast_cons_cons]; exact List.forall_mem_cons.2 ⟨h, ht⟩
theorem fd_one {P : Oper → Prop} {x : Oper} : ∀ o ∈ [x].dropLast, P o := by simp
theorem putF_two (a : Act) (x y : Oper) (l : List Oper) (k : Nat) (f : Nat → Value) : putF a (x :: y :: l).dropLast k f = putF (a.put x.dst (f k)) (y :: l).dropLast (k + 1) f := by rw [List.dropLast_cons_cons]; rfl
theorem putF_one (a : Act) (x : Oper) (k : Nat) (f : Nat → Value) : putF a [x].dropLast k f = a := rfl
theorem any_ok {tab : Nat → Cl} {d : Nat} {P : Value → World → Prop} {h : ∀ v w w', Grow w w' → P v w → P v w'} {v : Value} {w : World} (e : tab d = .any P h) (hk : (tab d).ok v w) : P v w := by rw [e] at hk; exact hk
theorem fresh_out {B : Nat} {v : Value} {w : World} (h : freshP B v w) : ∃ g, B ≤ g ∧ v = .pointer (some ⟨g, 0, none⟩) ∧ At w g nil := h
/-- the last operation waits for all others -/
def waitB (l : List Oper) (s : Oper) : Bool := ((List.range l.length).all fun j => s.after.any fun e => Region.binds .any e && e.on == j) && (s.after.all fun e => decide (e.on < l.length)) && s.dst.isNone && s.guard.isNone
theorem told_last_any (tab : Nat → Cl) (hfit : fitB l.toArray a.tmps.size = true) (hwait : waitB l s = true) (hout : ∀ t, (∀ o ∈ l, o.dst ≠ some t) → (tab t).ok (a.tmps.getD t undef) w)
    (hop : ∀ o ∈ l, Obl (l ++ [s]).toArray Q w tab o)
    (hend : ∀ f w', Grow w w' → (∀ i d, dstOf l.toArray i = some d → (tab d).ok (f i) w') → s.wp Try.prog (putF a l 0 f) w' (fun a'' w'' => Q .normal a'' w'') Q) :
    ∀ (fuel : Nat) (listed : Array Bool) (a' : Act) (w' : World), listed.size = l.length + 1 → listed.getD l.length true = false → ((List.range (l.length + 1)).filter fun i => !listed.getD i true).length ≤ fuel → Grow w w' → a'.defers = a.defers → a'.tmps.size = a.tmps.size →
      (∀ t, (∀ o ∈ l, o.dst ≠ some t) → a'.tmps[t]? = a.tmps[t]?) →
      (∀ i d, listed.getD i false = true → dstOf l.toArray i = some d → (tab d).ok (a'.tmps.getD d undef) w') →
      wpAny Try.prog .any (l ++ [s]).toArray Q fuel listed a' w' := by
  unfold waitB at hwait
  simp only [Bool.and_eq_true] at hwait
  obtain ⟨⟨⟨hw1, hw2⟩, hw3⟩, hw4⟩ := hwait
  have hsd : s.dst = none := by simpa using hw3
  have hsg : s.guard = none := by simpa using hw4
  have hse : ∀ e ∈ s.after, e.on < l.length := fun e he => by
    have := (Array.all_eq_true_iff_forall_mem.1 hw2) e he
    simpa using this
  have hsw : ∀ j, j < l.length → ∃ e ∈ s.after, Region.binds .any e = true ∧ e.on = j := fun j hj => by
    have := (List.all_eq_true.1 hw1) j (by simpa using hj)
    rw [← Array.any_toList, List.any_eq_true] at this
    obtain ⟨e, he, hb⟩ := this
    simp only [Bool.and_eq_true, beq_iff_eq] at hb
    exact ⟨e, by simpa using he, hb.1, hb.2⟩
  have hat : ∀ i, i < l.length → (l ++ [s]).toArray[i]? = l.toArray[i]? := fun i hi => by simp [List.getElem?_append_left hi]
  have hlast : (l ++ [s]).toArray[l.length]? = some s := by simp
  have hdst : ∀ i d, dstOf (l ++ [s]).toArray i = some d → i < l.length ∧ dstOf l.toArray i = some d := fun i d h => by
    unfold dstOf at h ⊢
    rcases Nat.lt_or_ge i l.length with hi | hi
    · rw [hat i hi] at h; exact ⟨hi, h⟩
    · rcases Nat.lt_or_ge l.length i with h2 | h2
      · have : (l ++ [s]).toArray[i]? = none := Array.getElem?_eq_none (by simp; omega)
        rw [this] at h; simp at h
      · have : i = l.length := by omega
        rw [this, hlast] at h; simp [hsd] at h
  intro fuel
  induction fuel with
  | zero =>
    intro listed a' w' hls hlun hf
    exfalso
    have hnil : ((List.range (l.length + 1)).filter fun i => !listed.getD i true) = [] := List.eq_nil_of_length_eq_zero (by omega)
    rw [List.filter_eq_nil_iff] at hnil
    have := hnil l.length (by simp)
    rw [hlun] at this; simp at this
  | succ fuel ih =>
    intro listed a' w' hls hlun hf hg hdf hsz ho hin
    refine ⟨fun hr => ?_, fun i hi => ?_⟩
    · exfalso
      have all : ∀ i, i < l.length + 1 → listed.getD i false = true := by
        intro i
        induction i using Nat.strongRecOn with
        | _ i ihi =>
          intro hi
          cases hl : listed.getD i false with
          | true => rfl
          | false =>
            exfalso
            have hli : i < listed.size := by omega
            have hmem : i ∈ Region.ready .any (l ++ [s]).toArray listed := by
              rw [mem_ready]
              refine ⟨by simpa [hli] using hl, ?_⟩
              rcases Nat.lt_or_ge i l.length with h1 | h1
              · refine ⟨l[i], by rw [hat i h1]; simp [h1], fun e he _ => ?_⟩
                obtain ⟨d, _, _, _, hlt⟩ := fit_spec hfit (show l.toArray[i]? = some l[i] by simp [h1])
                have := hlt e he
                exact ihi e.on this (by omega)
              · have hie : i = l.length := by omega
                subst hie
                exact ⟨s, hlast, fun e he _ => by have := hse e he; exact ihi e.on this (by omega)⟩
            rw [hr] at hmem; cases hmem
      have h1 := all l.length (by omega)
      have hll : l.length < listed.size := by omega
      simp [hll] at h1 hlun
      rw [h1] at hlun; cases hlun
    · obtain ⟨hun, o, hoi, hall⟩ := mem_ready.1 hi
      have hil : i < l.length + 1 := by have := (Array.getElem?_eq_some_iff.1 hoi).1; simpa using this
      rcases Nat.lt_or_ge i l.length with hin' | hin'
      · have hoi' : l.toArray[i]? = some o := by rw [← hat i hin']; exact hoi
        have hmem : o ∈ l := by have := List.mem_of_getElem? (show l[i]? = some o by simpa using hoi'); exact this
        obtain ⟨d, hd, hdn, huniq, _⟩ := fit_spec hfit hoi'
        have hdi : dstOf l.toArray i = some d := by simp only [dstOf, hoi']; simpa using hd
        have hkn : ∀ t, knownB (l ++ [s]).toArray o t = true → (tab t).ok (a'.tmps.getD t undef) w' := fun t ht => by
          unfold knownB at ht
          rw [Bool.or_eq_true] at ht
          rcases ht with ht | ht
          · have hno : ∀ p ∈ l, p.dst ≠ some t := fun p hp => by
              have := (Array.all_eq_true_iff_forall_mem.1 ht) p (by simp [hp])
              simpa using this
            have h1 := (tab t).grow hg (hout t hno)
            have h2 : a'.tmps.getD t undef = a.tmps.getD t undef := by simp [Array.getD_eq_getD_getElem?, ho t hno]
            rw [h2]; exact h1
          · rw [← Array.any_toList, List.any_eq_true] at ht
            obtain ⟨e, he', hb⟩ := ht
            have he : e ∈ o.after := by simpa using he'
            simp only [Bool.and_eq_true, beq_iff_eq] at hb
            exact hin e.on t (hall e he hb.1) (hdst e.on t hb.2).2
        obtain ⟨hw, hwp⟩ := hop o hmem a' w' hg hkn
        unfold wpOp
        simp only [hoi, hw, if_true]
        refine .inl (Oper.wp_mono (fun a2 w2 h => ?_) hwp)
        obtain ⟨v, rfl, hg2, hv⟩ := h
        have hput : (a'.put o.dst v).tmps = a'.tmps.setIfInBounds d v := by simp [Act.put, hd]
        refine ih _ _ _ (by simpa using hls) (by rw [getD_set_ne true (by omega)]; exact hlun) ?_ (Grow.trans hg hg2) (by simp [Act.put, hd, hdf]) (by rw [hput]; simpa using hsz) (fun t hno => ?_) (fun j d' hj hdj => ?_)
        · have hlt : i < listed.size := by omega
          have : ((List.range (l.length + 1)).filter fun k => !(listed.setIfInBounds i true).getD k true).length < ((List.range (l.length + 1)).filter fun k => !listed.getD k true).length := by
            have hsub : ((List.range (l.length + 1)).filter fun k => !(listed.setIfInBounds i true).getD k true) = ((List.range (l.length + 1)).filter fun k => !listed.getD k true).filter (fun k => k != i) := by
              rw [List.filter_filter]
              apply List.filter_congr
              intro k _
              by_cases hk : k = i
              · subst hk; simp [hlt]
              · rw [getD_set_ne true (Ne.symm hk)]; simp [hk]
            rw [hsub]
            refine List.length_filter_lt_length_iff_exists.2 ⟨i, ?_, by simp⟩
            simp only [List.mem_filter, List.mem_range]
            exact ⟨hil, by rw [hun]; rfl⟩
          omega
        · rw [hput]
          have : d ≠ t := fun e => hno o hmem (by rw [hd, e])
          rw [Array.getElem?_setIfInBounds_ne this]; exact ho t hno
        · rw [hput]
          by_cases hji : j = i
          · subst hji
            rw [hdi] at hdj; cases hdj
            have hdl : d < a'.tmps.size := by rw [hsz]; exact hdn
            simpa [hdl] using hv d hd
          · have hdd : d ≠ d' := fun e => by
              subst e
              have hjl : j < l.toArray.size := by
                unfold dstOf at hdj
                cases hoj : l.toArray[j]? with
                | none => rw [hoj] at hdj; simp at hdj
                | some _ => exact (Array.getElem?_eq_some_iff.1 hoj).1
              exact hji (huniq j hjl hdj)
            have h1 := hin j d' (by rwa [getD_set_ne false (Ne.symm hji)] at hj) hdj
            have h2 : (a'.tmps.setIfInBounds d v).getD d' undef = a'.tmps.getD d' undef := by simp [Array.getD_eq_getD_getElem?, Array.getElem?_setIfInBounds_ne hdd]
            rw [h2]; exact (tab d').grow hg2 h1
      · have hie : i = l.length := by omega
        subst hie
        rw [hlast] at hoi
        cases hoi
        have hall' : ∀ j, j < l.length → listed.getD j false = true := fun j hj => by
          obtain ⟨e, he, hb, rfl⟩ := hsw j hj
          exact hall e he hb
        obtain ⟨f, rfl, hf2⟩ := final_form tab hfit hdf hsz ho (fun j d hd => hin j d (hall' j (by
          unfold dstOf at hd
          cases hoj : l.toArray[j]? with
          | none => rw [hoj] at hd; simp at hd
          | some _ => have := (Array.getElem?_eq_some_iff.1 hoj).1; simpa using this)) hd)
        have h := hend f w' hg hf2
        have hwn : Region.wanted s (yielded (l ++ [s]).toArray (putF a l 0 f).tmps) = true := by unfold Region.wanted; rw [hsg]
        unfold wpOp
        simp only [hlast, hwn, if_true]
        refine .inl (Oper.wp_mono (fun a2 w2 hq => ?_) h)
        have hready : Region.ready .any (l ++ [s]).toArray (listed.setIfInBounds l.length true) = [] := by
          unfold Region.ready
          rw [List.filter_eq_nil_iff]
          intro j hj
          have hj' : j < l.length + 1 := by simpa using hj
          have hlj : (listed.setIfInBounds l.length true).getD j true = true := by
            by_cases h1 : j = l.length
            · subst h1
              have : l.length < listed.size := by omega
              simp [this]
            · rw [getD_set_ne true (Ne.symm h1)]
              have h2 := hall' j (by omega)
              have : j < listed.size := by omega
              simpa [this] using h2
          rw [hlj]; simp
        cases fuel with
        | zero => exact ⟨hready, hq⟩
        | succ fuel => exact ⟨fun _ => hq, fun j hj => by rw [hready] at hj; cases hj⟩

/-- THE LAW for a region that draws its order and ends with a store that waits for all else. -/
theorem told_last {id : Nat} (l : List Oper) (s : Oper) {ops : Array Oper} (hops : ops = (l ++ [s]).toArray) (tab : Nat → Cl) (hm : Try.prog.follows .mixedOrders = true) (hfit : fitB l.toArray a.tmps.size = true) (hwait : waitB l s = true)
    (hout : ∀ t, (∀ o ∈ l, o.dst ≠ some t) → (tab t).ok (a.tmps.getD t undef) w.drew)
    (hop : ∀ o ∈ l, Obl (l ++ [s]).toArray Q w.drew tab o)
    (hend : ∀ f w', Grow w w' → (∀ i d, dstOf l.toArray i = some d → (tab d).ok (f i) w') → s.wp Try.prog (putF a l 0 f) w' (fun a'' w'' => Q .normal a'' w'') Q) :
    (Code.region id ops true).wp Try.prog Q a w := by
  subst hops
  refine wp_region_any hm ?_
  refine told_last_any (a := a) (w := w.drew) tab hfit hwait hout hop (fun f w' hg hf => hend f w' (Grow.trans ((Grow.refl w).drew) hg) hf) _ _ _ _ (by simp) ?_ ?_ (Grow.refl _) rfl rfl (fun _ _ => rfl) (fun i d hi _ => ?_)
  · simp
  · exact Nat.le_trans (List.length_filter_le _ _) (by simp)
  · exfalso
    simp [Array.getD_eq_getD_getElem?, Array.getElem?_replicate] at hi
    split at hi <;> simp at hi
theorem told_end {id : Nat} {L : List Oper} (hL : L ≠ []) (tab : Nat → Cl) (hm : Try.prog.follows .mixedOrders = true) (hfit : fitB L.dropLast.toArray a.tmps.size = true) (hwait : waitB L.dropLast (L.getLast hL) = true)
    (hout : ∀ t, (∀ o ∈ L.dropLast, o.dst ≠ some t) → (tab t).ok (a.tmps.getD t undef) w.drew)
    (hop : ∀ o ∈ L.dropLast, Obl (L.dropLast ++ [L.getLast hL]).toArray Q w.drew tab o)
    (hend : ∀ f w', Grow w w' → (∀ i d, dstOf L.dropLast.toArray i = some d → (tab d).ok (f i) w') → (L.getLast hL).wp Try.prog (putF a L.dropLast 0 f) w' (fun a'' w'' => Q .normal a'' w'') Q) :
    (Code.region id L.toArray true).wp Try.prog Q a w :=
  told_last L.dropLast (L.getLast hL) (by rw [List.dropLast_concat_getLast hL]) tab hm hfit hwait hout hop hend
variable {ops : Array Oper} {tab : Nat → Cl} {d : Tmp} {ty : TypeId} {pos : String} {af : Array Edge} {gd : Option (Nat × Bool)}
theorem k_al (B : Nat) (hB : B ≤ w.heap.size) (hd : tab d = .any (freshP B) (freshP_grow B))
    (hg : Gd ops tab { dst := some d, op := .alloc 28, type := ty, pos := pos, after := af, guard := gd }) :
    Obl ops Q w tab { dst := some d, op := .alloc 28, type := ty, pos := pos, after := af, guard := gd } := fun a' w' hgr hc => by
  refine ⟨wanted_of hg hc, ?_⟩
  have hi : (Try.prog.info? 28).map (fun i => (i.zero, i.size)) = some (some (.agg (Array.replicate 32 (Value.int .u32 0))), 32) := by kernel_rfl
  have hr : (execOp a'.eval { dst := some d, op := .alloc 28, type := ty, pos := pos, after := af, guard := gd }).run Try.prog w' = .ok (.value (.pointer (some ⟨w'.heap.size, 0, none⟩))) (w'.alloc (.cells (cells nil) 28)) := by
    have hz := (zero_of_info hi).1 w'
    unfold execOp
    rw [← cells_nil]
    simp only [Instr.alloc, newVar, newRow, Sem.run_bind, hz, Result.andThen_ok, Value.cells]
    rfl
  unfold Oper.wp
  rw [hr, Oper.upon_value]
  exact ⟨_, rfl, (Grow.refl _).alloc _, fun _ h => by cases h; rw [hd]; exact ⟨w'.heap.size, Nat.le_trans hB hgr.size, rfl, At.new w' nil⟩⟩
theorem st_wp {K : Act → World → Prop} {d : Option Tmp} {p q : Operand} (g : Nat) (r0 r : Rl) (hp : a.eval p = .pointer (some ⟨g, 0, none⟩)) (hq : a.eval q = .agg (cells r)) (hg : At w g r0)
    (h : K (a.put d undef) (w.setRow g (cells r))) : Oper.wp Try.prog { dst := d, op := .store 28 p q, type := ty, pos := pos, after := af, guard := gd } a w K Q :=
  wp_store_row 28 p q rfl g (cells r) hp hq 28 (cells r0) hg (by rw [cells_size]; exact info_rel) (by rw [cells_size, cells_size]) (cells_one r) h
/-- the address of a cell that holds a number -/
def cellP (x : Nat) : Value → World → Prop := fun v wx => ∃ g i, v = .pointer (some ⟨g, i, none⟩) ∧ g < wx.heap.size ∧ wx.cell? ⟨g, i, none⟩ = some (.int .i64 x)
theorem cellP_grow (x : Nat) : ∀ v w w', Grow w w' → cellP x v w → cellP x v w' := fun _ _ _ hg ⟨g, i, h1, h2, h3⟩ => ⟨g, i, h1, Nat.lt_of_lt_of_le h2 hg.size, by rw [hg.cell (p := ⟨g, i, none⟩) h2]; exact h3⟩
def rowP (l : List Nat) : Value → World → Prop := fun v wx => Il wx v l
theorem rowP_grow (l : List Nat) : ∀ v w w', Grow w w' → rowP l v w → rowP l v w' := fun _ _ _ hg h => Il.grow hg h
theorem size_int (w : World) : (sizeOf 3).run Try.prog w = .ok 1 w := by
  obtain ⟨i, hi, _, hs, _⟩ := info_int'
  have := run_sizeOf w hi
  have hc : Try.prog.cellsOf 3 = 1 := by kernel_rfl
  rw [hc] at this; exact this
theorem k_ia {p q : Tmp} (l : List Nat) (i x : Nat) (hk : knownB ops { dst := some d, op := .indexAddr 22 (.tmp p) (.tmp q), type := ty, pos := pos, after := af, guard := gd } p = true) (hk2 : knownB ops { dst := some d, op := .indexAddr 22 (.tmp p) (.tmp q), type := ty, pos := pos, after := af, guard := gd } q = true)
    (hp : tab p = .any (rowP l) (rowP_grow l)) (hq : tab q = .val (.int .i64 (i : Int))) (hx : l[i]? = some x) (hd : tab d = .any (cellP x) (cellP_grow x))
    (hg : Gd ops tab { dst := some d, op := .indexAddr 22 (.tmp p) (.tmp q), type := ty, pos := pos, after := af, guard := gd }) :
    Obl ops Q w tab { dst := some d, op := .indexAddr 22 (.tmp p) (.tmp q), type := ty, pos := pos, after := af, guard := gd } := fun a' w' hgr hc => by
  refine ⟨wanted_of hg hc, ?_⟩
  have h1 := hc p hk
  have h2 := hc q hk2
  rw [hp] at h1; rw [hq] at h2
  have hil : i < l.length := (List.getElem?_eq_some_iff.1 hx).1
  obtain ⟨g, cap, hv, hgl, hcx⟩ := Il.cell h1 hx
  have e1 : a'.eval (.tmp p) = .slice (some ⟨g, 0, none⟩) l.length cap := hv
  have e2 : a'.eval (.tmp q) = .int .i64 (i : Int) := h2
  have hb : (0 : Int) ≤ (i : Int) ∧ (i : Int) < (l.length : Int) := ⟨by omega, by omega⟩
  have hr : (Instr.indexAt 22 (.slice (some ⟨g, 0, none⟩) l.length cap) (.int .i64 (i : Int))).run Try.prog w' = .ok (.pointer (some ⟨g, i, none⟩)) w' := by
    unfold Instr.indexAt
    simp only [asIntOf, Sem.run_bind, Sem.run_pure, Result.andThen_ok, run_underlying Try.underlying22, if_pos hb, size_int, Int.toNat_natCast, Addr.add_mid, Nat.mul_one, Nat.zero_add]
  unfold Oper.wp execOp
  simp only [e1, e2, Sem.run_bind, hr, Sem.run_pure, Result.andThen_ok, Oper.upon_value]
  exact ⟨_, rfl, Grow.refl _, fun _ h => by cases h; rw [hd]; exact ⟨g, i, rfl, hgl, hcx⟩⟩
theorem k_li {p : Tmp} (x : Nat) (hk : knownB ops { dst := some d, op := .load 3 (.tmp p), type := ty, pos := pos, after := af, guard := gd } p = true) (hp : tab p = .any (cellP x) (cellP_grow x)) (hd : tab d = .val (.int .i64 (x : Int)))
    (hg : Gd ops tab { dst := some d, op := .load 3 (.tmp p), type := ty, pos := pos, after := af, guard := gd }) :
    Obl ops Q w tab { dst := some d, op := .load 3 (.tmp p), type := ty, pos := pos, after := af, guard := gd } := fun a' w' hgr hc => by
  refine ⟨wanted_of hg hc, ?_⟩
  have h1 := hc p hk
  rw [hp] at h1
  obtain ⟨g, i, hv, hgl, hcx⟩ := h1
  have e1 : a'.eval (.tmp p) = .pointer (some ⟨g, i, none⟩) := hv
  have hr : (Instr.loadAt 3 (.pointer (some ⟨g, i, none⟩))).run Try.prog w' = .ok (.int .i64 (x : Int)) w' := by
    simp [Instr.loadAt, Instr.sureAddr, loadVar, isAgg, run_underlying Try.underlying3, hcx, go_sem]
  unfold Oper.wp execOp
  simp only [e1, Sem.run_bind, hr, Sem.run_pure, Result.andThen_ok, Oper.upon_value]
  exact ⟨_, rfl, Grow.refl _, fun _ h => by cases h; rw [hd]; rfl⟩
end

end Go.Proofs.Ytlbccddhcbcpoaa
