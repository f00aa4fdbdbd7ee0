/- The law on regions that draw their order and end with one store that waits for all else; one operation that turns memory for good (an append) may come late, with nothing but plain operations behind it. -/
import Derived.Test.YtlhompedcphnnaaEngS
namespace Go.Proofs.Ytlhompedcphnnaa
open Go.RowKit

/-- what is known behind operation y's wait -/
def Ahead (ops : Array Oper) (S : World → World → Prop) (tab : Nat → Cl S) (pure : Nat → Option Value) (W : Value → World → Prop) (w : World) (len : Nat) (a' : Act) (w' : World) : Option Nat → Prop
  | none => S w w' ∧ ∀ j, j < len → (tab j).P (valOf ops a' j) w'
  | some x => (∀ j v, j < len → j ≠ x → pure j = some v → valOf ops a' j = v) ∧ W (valOf ops a' x) w'
section
variable {P : Program} {l : List Oper} {y : Oper} {Q : Exit → Act → World → Prop} {S : World → World → Prop} {n : Nat} {T : List (Nat × Value)} {w : World}
/-- each of a list is waited for, by the operation or by one that stands ahead in the list -/
def covB (l : List Oper) (o : Oper) : List Nat → List Nat → Bool
  | [], _ => true
  | j :: c, acc => (waits o j || acc.any fun m => match l[m]? with | some p => waits p j | none => false) && covB l o c (j :: acc)
theorem cov {o : Oper} {L : Nat → Prop} (ho : ∀ j, waits o j = true → L j) (hcl : ∀ m p, l[m]? = some p → L m → ∀ j, waits p j = true → L j) : ∀ (c acc : List Nat), (∀ m ∈ acc, L m) → covB l o c acc = true → ∀ j ∈ c, L j
  | [], _, _, _ => fun j hj => by cases hj
  | j :: c, acc, ha, h => by
    unfold covB at h
    rw [Bool.and_eq_true, Bool.or_eq_true] at h
    have hj : L j := by
      rcases h.1 with h1 | h1
      · exact ho j h1
      · rw [List.any_eq_true] at h1
        obtain ⟨m, hm, h2⟩ := h1
        cases hp : l[m]? with
        | none => simp [hp] at h2
        | some p => simp only [hp] at h2; exact hcl m p hp (ha m hm) j h2
    exact List.forall_mem_cons.2 ⟨hj, cov ho hcl c (j :: acc) (List.forall_mem_cons.2 ⟨hj, ha⟩) h.2⟩
/-- the last operation waits for all others; the late one for all that are not plain -/
def lateB (l : List Oper) (y : Oper) (xi : Option Nat) (pb : Nat → Bool) (cy cx : List Nat) : Bool :=
  y.dst.isNone && (y.after.toList.all fun e => !Region.binds .any e || decide (e.on < l.length)) && (covB l y cy [] && (List.range l.length).all fun j => cy.contains j) &&
  match xi with
  | none => true
  | some x => decide (x < l.length) && !pb x && (match l[x]? with | some o => covB l o cx [] | none => false) && ((List.range l.length).all fun i => i == x || pb i || cx.contains i)
theorem late_spec {xi : Option Nat} {pb : Nat → Bool} {cy cx : List Nat} (h : lateB l y xi pb cy cx = true) : y.dst = none ∧ (∀ e ∈ y.after, Region.binds .any e = true → e.on < l.length) ∧ (covB l y cy [] = true ∧ ∀ j, j < l.length → j ∈ cy) ∧
    ∀ x, xi = some x → x < l.length ∧ pb x = false ∧ (∀ o, l[x]? = some o → covB l o cx [] = true) ∧ ∀ i, i < l.length → i ≠ x → pb i = false → i ∈ cx := by
  unfold lateB at h
  rw [Bool.and_eq_true, Bool.and_eq_true, Bool.and_eq_true, Bool.and_eq_true] at h
  obtain ⟨⟨⟨h1, h2⟩, h3, h3'⟩, h4⟩ := h
  refine ⟨by simpa using h1, fun e he hb => by have := (List.all_eq_true.1 h2) e (by simpa using he); simpa [hb] using this, ⟨h3, fun j hj => by simpa using (List.all_eq_true.1 h3') j (by simpa using hj)⟩, fun x hx => ?_⟩
  subst hx
  simp only [Bool.and_eq_true, decide_eq_true_eq, Bool.not_eq_true'] at h4
  obtain ⟨⟨⟨h5, h5'⟩, h6⟩, h7⟩ := h4
  refine ⟨h5, h5', fun o ho => by simpa [ho] using h6, fun i hi hne hp => ?_⟩
  have := (List.all_eq_true.1 h7) i (by simpa using hi)
  simp only [hp, Bool.or_false, Bool.or_eq_true, beq_iff_eq] at this
  simpa using this.resolve_left hne
theorem late_any {cy cx : List Nat} (tab : Nat → Cl S) (xi : Option Nat) (pure : Nat → Option Value) (W : Value → World → Prop) (hrefl : ∀ w, S w w) (htrans : ∀ a b c, S a b → S b c → S a c) (hfit : fitB l.toArray n T = true) (hlate : lateB l y xi (fun i => (pure i).isSome) cy cx = true)
    (hcv : ∀ i v u w', pure i = some v → ((tab i).P u w' ↔ u = v))
    (hop : ∀ i o, l[i]? = some o → xi ≠ some i → pure i = none → Obl P (l ++ [y]).toArray S n T tab w i o)
    (hpu : ∀ i o v, l[i]? = some o → xi ≠ some i → pure i = some v → ∀ a' w', St n T a' → (∀ j u, waits o j = true → pure j = some u → valOf (l ++ [y]).toArray a' j = u) → (xi = none → ∀ j, waits o j = true → (tab j).P (valOf (l ++ [y]).toArray a' j) w') → Does P (l ++ [y]).toArray o a' w' fun v' w'' => w'' = w' ∧ seenV o v' = v)
    (hxo : ∀ x o, xi = some x → l[x]? = some o → ∀ a' w', S w w' → St n T a' → (∀ j, waits o j = true → (tab j).P (valOf (l ++ [y]).toArray a' j) w') → Does P (l ++ [y]).toArray o a' w' fun v w'' => W (seenV o v) w'')
    (hyo : ∀ a' w', St n T a' → Ahead (l ++ [y]).toArray S tab pure W w l.length a' w' xi → Does P (l ++ [y]).toArray y a' w' fun _ w'' => Q .normal a' w'') :
    ∀ (fuel : Nat) (listed : Array Bool) (a' : Act) (w' : World), listed.size = l.length + 1 → listed.getD l.length true = false → ((List.range (l.length + 1)).filter fun i => !listed.getD i true).length ≤ fuel → St n T a' → (∀ m p, l[m]? = some p → listed.getD m false = true → ∀ j, waits p j = true → listed.getD j false = true) →
      ((∀ x, xi = some x → listed.getD x false = false) → S w w' ∧ ∀ i, i < l.length → listed.getD i false = true → (tab i).P (valOf (l ++ [y]).toArray a' i) w') →
      (∀ x, xi = some x → listed.getD x false = true → W (valOf (l ++ [y]).toArray a' x) w' ∧ ∀ i, i < l.length → i ≠ x → (pure i = none → listed.getD i false = true) ∧ ∀ v, pure i = some v → listed.getD i false = true → valOf (l ++ [y]).toArray a' i = v) →
      wpAny P .any (l ++ [y]).toArray Q fuel listed a' w' := by
  obtain ⟨hyd, hyg, hyw, hxs⟩ := late_spec hlate
  have hat : ∀ i, i < l.length → (l ++ [y]).toArray[i]? = l[i]? := fun i hi => by simp [List.getElem?_append_left hi]
  have hlast : (l ++ [y]).toArray[l.length]? = some y := by simp
  have hdl : ∀ i, i < l.length → dstOf (l ++ [y]).toArray i = dstOf l.toArray i := fun i hi => by unfold dstOf; rw [hat i hi]; simp
  have hwl : ∀ i o, l[i]? = some o → ∀ j, waits o j = true → j < i := fun i o ho j hj => by
    obtain ⟨_, hfe⟩ := fit_spec hfit (show l.toArray[i]? = some o by simpa using ho)
    unfold waits at hj
    rw [List.any_eq_true] at hj
    obtain ⟨e, he, hb⟩ := hj
    simp only [Bool.and_eq_true, beq_iff_eq] at hb
    have := hfe e (by simpa using he) hb.1
    omega
  intro fuel
  induction fuel with
  | zero =>
    intro listed a' w' hls hlun hf
    exfalso
    have hnil : ((List.range (l.length + 1)).filter fun i => !listed.getD i true) = [] := List.eq_nil_of_length_eq_zero (by omega)
    rw [List.filter_eq_nil_iff] at hnil
    have := hnil l.length (by simp)
    rw [hlun] at this; simp at this
  | succ fuel ih =>
    intro listed a' w' hls hlun hf hT hclo hpre hpost
    refine ⟨fun hr => ?_, fun i hi => ?_⟩
    · exfalso
      have all : ∀ i, i < l.length + 1 → listed.getD i false = true := by
        intro i
        induction i using Nat.strongRecOn with
        | _ i ihi =>
          intro hi
          cases hl : listed.getD i false with
          | true => rfl
          | false =>
            exfalso
            have hli : i < listed.size := by omega
            have hmem : i ∈ Region.ready .any (l ++ [y]).toArray listed := by
              rw [mem_ready]
              refine ⟨by simpa [hli] using hl, ?_⟩
              rcases Nat.lt_or_ge i l.length with h1 | h1
              · refine ⟨l[i], by rw [hat i h1]; simp [h1], fun e he hb => ?_⟩
                have hlt := (fit_spec hfit (show l.toArray[i]? = some l[i] by simp [h1])).2 e he hb
                exact ihi e.on hlt (by omega)
              · have hie : i = l.length := by omega
                subst hie
                refine ⟨y, hlast, fun e he hb => ?_⟩
                have hlt := hyg e he hb
                exact ihi e.on hlt (by omega)
            rw [hr] at hmem; cases hmem
      have h1 := all l.length (by omega)
      have hll : l.length < listed.size := by omega
      simp [hll] at h1 hlun
      rw [h1] at hlun; cases hlun
    · obtain ⟨hun, o, hoi, hall⟩ := mem_ready.1 hi
      have hil : i < l.length + 1 := by have := (Array.getElem?_eq_some_iff.1 hoi).1; simpa using this
      have hlw : ∀ j, waits o j = true → listed.getD j false = true := fun j hj => by
        unfold waits at hj
        rw [List.any_eq_true] at hj
        obtain ⟨e, he, hb⟩ := hj
        simp only [Bool.and_eq_true, beq_iff_eq] at hb
        rw [← hb.2]; exact hall e (by simpa using he) hb.1
      have hunf : listed.getD i false = false := by
        have : i < listed.size := by omega
        simpa [this] using hun
      rcases Nat.lt_or_ge i l.length with hlt | hge
      · have hoi' : l[i]? = some o := by rw [← hat i hlt]; exact hoi
        obtain ⟨hfd, hfe⟩ := fit_spec hfit (show l.toArray[i]? = some o by simpa using hoi')
        have hdi : dstOf (l ++ [y]).toArray i = o.dst := by unfold dstOf; rw [hoi]; rfl
        have vi : ∀ v, valOf (l ++ [y]).toArray (a'.put o.dst v) i = seenV o v := fun v => by
          unfold valOf seenV
          rw [hdi]
          cases hd : o.dst with
          | none => rfl
          | some d =>
            have hdl' : d < a'.tmps.size := by rw [hT.size]; exact (hfd d hd).1
            simp [Act.put, hdl']
        have vj : ∀ v j, j < l.length → j ≠ i → valOf (l ++ [y]).toArray (a'.put o.dst v) j = valOf (l ++ [y]).toArray a' j := fun v j hj hne => by
          unfold valOf
          rw [hdl j hj]
          cases hdj : dstOf l.toArray j with
          | none => rfl
          | some d' =>
            cases hd : o.dst with
            | none => rfl
            | some d =>
              have hnd : d ≠ d' := fun e => by subst e; exact hne ((hfd d hd).2.1 j (by simpa using hj) hdj)
              simp [Act.put, Array.getD_eq_getD_getElem?, Array.getElem?_setIfInBounds_ne hnd]
        have hTp : ∀ v, St n T (a'.put o.dst v) := fun v => by
          cases hd : o.dst with
          | none => exact hT
          | some d =>
            obtain ⟨hdn, _, hTd⟩ := hfd d hd
            have hp := hT.put hdn v
            refine ⟨hp.size, hp.defers, fun t u hu => hp.get t u ?_⟩
            have hne : t ≠ d := hTd (t, u) (lookup_mem hu)
            rw [List.lookup_cons]
            have : (t == d) = false := by simpa using hne
            simp only [this]; exact hu
        have go : ∀ v w2, ((∀ x, xi = some x → (listed.setIfInBounds i true).getD x false = false) → S w w2 ∧ ∀ k, k < l.length → (listed.setIfInBounds i true).getD k false = true → (tab k).P (valOf (l ++ [y]).toArray (a'.put o.dst v) k) w2) →
            (∀ x, xi = some x → (listed.setIfInBounds i true).getD x false = true → W (valOf (l ++ [y]).toArray (a'.put o.dst v) x) w2 ∧ ∀ k, k < l.length → k ≠ x → (pure k = none → (listed.setIfInBounds i true).getD k false = true) ∧ ∀ u, pure k = some u → (listed.setIfInBounds i true).getD k false = true → valOf (l ++ [y]).toArray (a'.put o.dst v) k = u) →
            wpAny P .any (l ++ [y]).toArray Q fuel (listed.setIfInBounds i true) (a'.put o.dst v) w2 := fun v w2 h1 h2 => by
          have hcl2 : ∀ m p, l[m]? = some p → (listed.setIfInBounds i true).getD m false = true → ∀ j, waits p j = true → (listed.setIfInBounds i true).getD j false = true := fun m p hp hm j hj => by
            have hj' : listed.getD j false = true := by
              by_cases hmi : m = i
              · subst hmi; rw [hoi'] at hp; cases hp; exact hlw j hj
              · exact hclo m p hp (by rwa [set_ne false (Ne.symm hmi)] at hm) j hj
            by_cases hji : j = i
            · subst hji; rw [hunf] at hj'; cases hj'
            · rw [set_ne false (Ne.symm hji)]; exact hj'
          refine ih _ _ _ (by simpa using hls) (by rw [set_ne true (by omega)]; exact hlun) ?_ (hTp v) hcl2 h1 h2
          have hlt' : i < listed.size := by omega
          have : ((List.range (l.length + 1)).filter fun k => !(listed.setIfInBounds i true).getD k true).length < ((List.range (l.length + 1)).filter fun k => !listed.getD k true).length := by
            have hsub : ((List.range (l.length + 1)).filter fun k => !(listed.setIfInBounds i true).getD k true) = ((List.range (l.length + 1)).filter fun k => !listed.getD k true).filter (fun k => k != i) := by
              rw [List.filter_filter]
              apply List.filter_congr
              intro k _
              by_cases hk : k = i
              · subst hk; simp [hlt']
              · rw [set_ne true (Ne.symm hk)]; simp [hk]
            rw [hsub]
            refine List.length_filter_lt_length_iff_exists.2 ⟨i, ?_, by simp⟩
            simp only [List.mem_filter, List.mem_range]
            exact ⟨hil, by rw [hun]; rfl⟩
          omega
        have hseti : (listed.setIfInBounds i true).getD i false = true := by
          have : i < listed.size := by omega
          simp [this]
        have hset : ∀ k, k ≠ i → (listed.setIfInBounds i true).getD k false = listed.getD k false := fun k hk => set_ne false (Ne.symm hk)
        have run : ∀ (K : Value → World → Prop), Does P (l ++ [y]).toArray o a' w' K → (∀ v w2, K v w2 → wpAny P .any (l ++ [y]).toArray Q fuel (listed.setIfInBounds i true) (a'.put o.dst v) w2) → wpOp P (l ++ [y]).toArray Q i (wpAny P .any (l ++ [y]).toArray Q fuel (listed.setIfInBounds i true)) a' w' := fun K hD hk => by
          unfold wpOp
          rcases hD with ⟨hw, h⟩ | ⟨hw, h⟩
          · simp only [hoi, hw, if_true]
            refine .inl (Oper.wp_mono (fun a2 w2 h => ?_) (h Q))
            obtain ⟨v, rfl, hv⟩ := h
            exact hk v w2 hv
          · simp only [hoi, hw, Bool.false_eq_true, if_false]
            exact hk undef w' h
        by_cases hxi : xi = some i
        · have hnot : ∀ x, xi = some x → listed.getD x false = false := fun x hx => by rw [hxi] at hx; cases hx; exact hunf
          obtain ⟨hS, hcl⟩ := hpre hnot
          obtain ⟨_, _, hx1, hx2⟩ := hxs i hxi
          have hxc := cov (L := fun j => listed.getD j false = true) hlw hclo cx [] (fun _ h => by cases h) (hx1 o hoi')
          refine run _ (hxo i o hxi hoi' a' w' hS hT fun j hj => hcl j (by have := hwl i o hoi' j hj; omega) (hlw j hj)) fun v w2 hv => go v w2 (fun h => ?_) fun x hx hlx => ?_
          · have := h i hxi; rw [hseti] at this; cases this
          · rw [hxi] at hx; cases hx
            refine ⟨by rw [vi]; exact hv, fun k hk hne => ⟨fun hp => ?_, fun u hu hlk => ?_⟩⟩
            · rw [hset k hne]; exact hxc k (hx2 k hk hne (by simp [hp]))
            · rw [hset k hne] at hlk
              rw [vj v k hk hne]
              exact (hcv k u _ w' hu).1 (hcl k hk hlk)
        · by_cases hL : ∃ x, xi = some x ∧ listed.getD x false = true
          · obtain ⟨x, hx, hlx⟩ := hL
            obtain ⟨hW, hall2⟩ := hpost x hx hlx
            have hix : i ≠ x := fun e => hxi (by rw [hx, e])
            obtain ⟨hxl, hxp, _, _⟩ := hxs x hx
            cases hp : pure i with
            | none => have := (hall2 i hlt hix).1 hp; rw [hunf] at this; cases this
            | some v0 =>
              refine run _ (hpu i o v0 hoi' hxi hp a' w' hT (fun j u hj hu => ?_) (fun h => by rw [hx] at h; cases h)) fun v w2 hv => ?_
              · have hjl : j < l.length := by have := hwl i o hoi' j hj; omega
                have hjx : j ≠ x := fun e => by subst e; simp [hu] at hxp
                exact (hall2 j hjl hjx).2 u hu (hlw j hj)
              · obtain ⟨rfl, hv⟩ := hv
                refine go v w2 (fun h => ?_) fun x' hx' hlx' => ?_
                · have := h x hx; rw [hset x (Ne.symm hix), hlx] at this; cases this
                · rw [hx] at hx'; cases hx'
                  refine ⟨by rw [vj v x hxl (Ne.symm hix)]; exact hW, fun k hk hne => ⟨fun hpk => ?_, fun u hu hlk => ?_⟩⟩
                  · by_cases hki : k = i
                    · subst hki; exact hseti
                    · rw [hset k hki]; exact (hall2 k hk hne).1 hpk
                  · by_cases hki : k = i
                    · subst hki; rw [hp] at hu; cases hu; rw [vi]; exact hv
                    · rw [hset k hki] at hlk; rw [vj v k hk hki]; exact (hall2 k hk hne).2 u hu hlk
          · have hnot : ∀ x, xi = some x → listed.getD x false = false := fun x hx => by
              cases h : listed.getD x false with
              | false => rfl
              | true => exact absurd ⟨x, hx, h⟩ hL
            obtain ⟨hS, hcl⟩ := hpre hnot
            have hclw : ∀ j, waits o j = true → (tab j).P (valOf (l ++ [y]).toArray a' j) w' := fun j hj => hcl j (by have := hwl i o hoi' j hj; omega) (hlw j hj)
            have fin : ∀ v w2, S w' w2 → (tab i).P (seenV o v) w2 → wpAny P .any (l ++ [y]).toArray Q fuel (listed.setIfInBounds i true) (a'.put o.dst v) w2 := fun v w2 hS2 hv => by
              refine go v w2 (fun _ => ⟨htrans _ _ _ hS hS2, fun k hk hlk => ?_⟩) fun x hx hlx => ?_
              · by_cases hki : k = i
                · subst hki; rw [vi]; exact hv
                · rw [hset k hki] at hlk; rw [vj v k hk hki]; exact (tab k).st _ _ _ hS2 (hcl k hk hlk)
              · have hne : x ≠ i := fun e => hxi (by rw [hx, e])
                rw [hset x hne, hnot x hx] at hlx; cases hlx
            cases hp : pure i with
            | none => exact run _ (hop i o hoi' hxi hp a' w' hS hT hclw) fun v w2 hv => fin v w2 hv.1 hv.2
            | some v0 =>
              refine run _ (hpu i o v0 hoi' hxi hp a' w' hT (fun j u hj hu => (hcv j u _ w' hu).1 (hclw j hj)) (fun _ => hclw)) fun v w2 hv => ?_
              obtain ⟨rfl, hv⟩ := hv
              exact fin v w2 (hrefl _) ((hcv i v0 _ w2 hp).2 hv)
      · have hie : i = l.length := by omega
        subst hie
        rw [hlast] at hoi
        cases hoi
        have hallj : ∀ j, j < l.length → listed.getD j false = true := fun j hj => cov (L := fun j => listed.getD j false = true) hlw hclo cy [] (fun _ h => by cases h) hyw.1 j (hyw.2 j hj)
        have hah : Ahead (l ++ [y]).toArray S tab pure W w l.length a' w' xi := by
          cases hx : xi with
          | none =>
            obtain ⟨hS, hcl⟩ := hpre (fun x h => by rw [hx] at h; cases h)
            exact ⟨hS, fun j hj => hcl j hj (hallj j hj)⟩
          | some x =>
            obtain ⟨hxl, _, _, _⟩ := hxs x hx
            obtain ⟨hW, hall2⟩ := hpost x hx (hallj x hxl)
            exact ⟨fun j v hj hne hp => (hall2 j hj hne).2 v hp (hallj j hj), hW⟩
        have hready : Region.ready .any (l ++ [y]).toArray (listed.setIfInBounds l.length true) = [] := by
          unfold Region.ready
          rw [List.filter_eq_nil_iff]
          intro j hj
          have hj' : j < l.length + 1 := by simpa using hj
          have hlj : (listed.setIfInBounds l.length true).getD j true = true := by
            by_cases h1 : j = l.length
            · subst h1
              have : l.length < listed.size := by omega
              simp [this]
            · rw [set_ne true (Ne.symm h1)]
              have h2 := hallj j (by omega)
              have : j < listed.size := by omega
              simpa [this] using h2
          rw [hlj]; simp
        have done : ∀ w2, Q .normal a' w2 → wpAny P .any (l ++ [y]).toArray Q fuel (listed.setIfInBounds l.length true) a' w2 := fun w2 hq => by
          cases fuel with
          | zero => exact ⟨hready, hq⟩
          | succ fuel => exact ⟨fun _ => hq, fun j hj => by rw [hready] at hj; cases hj⟩
        unfold wpOp
        rcases hyo a' w' hT hah with ⟨hw, h⟩ | ⟨hw, h⟩
        · simp only [hlast, hw, if_true]
          refine .inl (Oper.wp_mono (fun a2 w2 h => ?_) (h Q))
          obtain ⟨v, rfl, hv⟩ := h
          rw [hyd]; exact done w2 hv
        · simp only [hlast, hw, Bool.false_eq_true, if_false]
          rw [hyd]; exact done w' h
/-- THE LAW. -/
def lastO : List Oper → Option Oper
  | [] => none
  | [x] => some x
  | _ :: x :: xs => lastO (x :: xs)
theorem lastO_spec : ∀ (L : List Oper) (y : Oper), lastO L = some y → L = L.dropLast ++ [y]
  | [], y, h => by simp [lastO] at h
  | [x], y, h => by simp [lastO] at h; subst h; rfl
  | x :: z :: xs, y, h => by
    have := lastO_spec (z :: xs) y (by simpa [lastO] using h)
    rw [List.dropLast_cons_cons, List.cons_append, ← this]
/-- what is owed for operation i: of three kinds -/
def OblL (P : Program) (ops : Array Oper) (S : World → World → Prop) (n : Nat) (T : List (Nat × Value)) (tab : Nat → Cl S) (xi : Option Nat) (pure : Nat → Option Value) (W : Value → World → Prop) (w : World) (i : Nat) (o : Oper) : Prop :=
  (xi ≠ some i ∧ pure i = none ∧ Obl P ops S n T tab w i o) ∨
  (xi ≠ some i ∧ ∃ v, pure i = some v ∧ ∀ a' w', St n T a' → (∀ j u, waits o j = true → pure j = some u → valOf ops a' j = u) → (xi = none → ∀ j, waits o j = true → (tab j).P (valOf ops a' j) w') → Does P ops o a' w' fun v' w'' => w'' = w' ∧ seenV o v' = v) ∨
  (xi = some i ∧ ∀ a' w', S w w' → St n T a' → (∀ j, waits o j = true → (tab j).P (valOf ops a' j) w') → Does P ops o a' w' fun v w'' => W (seenV o v) w'')
def EachD (P : Program) (ops : Array Oper) (S : World → World → Prop) (n : Nat) (T : List (Nat × Value)) (tab : Nat → Cl S) (xi : Option Nat) (pure : Nat → Option Value) (W : Value → World → Prop) (w : World) (k : Nat) (L : List Oper) : Prop :=
  ∀ i o, L.dropLast[i]? = some o → OblL P ops S n T tab xi pure W w (k + i) o
theorem eachD_one {ops : Array Oper} {tab : Nat → Cl S} {xi : Option Nat} {pure : Nat → Option Value} {W : Value → World → Prop} {k : Nat} {o : Oper} : EachD P ops S n T tab xi pure W w k [o] := fun i p h => by simp at h
theorem eachD_cons {ops : Array Oper} {tab : Nat → Cl S} {xi : Option Nat} {pure : Nat → Option Value} {W : Value → World → Prop} {k : Nat} {o p : Oper} {L : List Oper} (h : OblL P ops S n T tab xi pure W w k o) (ht : EachD P ops S n T tab xi pure W w (k + 1) (p :: L)) : EachD P ops S n T tab xi pure W w k (o :: p :: L) := fun i q hq => by
  rw [List.dropLast_cons_cons] at hq
  cases i with
  | zero => simp at hq; subst hq; exact h
  | succ i => have := ht i q (by simpa using hq); rwa [show k + 1 + i = k + (i + 1) by omega] at this
theorem drawnL {id : Nat} {L : List Oper} {a : Act} (hy : lastO L = some y) (tab : Nat → Cl S) (xi : Option Nat) (pure : Nat → Option Value) (W : Value → World → Prop) (cy cx : List Nat) (hm : P.follows .mixedOrders = true) (hrefl : ∀ w, S w w) (htrans : ∀ a b c, S a b → S b c → S a c) (hA : St n T a)
    (hfit : fitB L.dropLast.toArray n T = true) (hlate : lateB L.dropLast y xi (fun i => (pure i).isSome) cy cx = true) (hcv : ∀ i v u w', pure i = some v → ((tab i).P u w' ↔ u = v))
    (hop : EachD P L.toArray S n T tab xi pure W w.drew 0 L)
    (hyo : ∀ a' w', St n T a' → Ahead L.toArray S tab pure W w.drew (L.length - 1) a' w' xi → Does P L.toArray y a' w' fun _ w'' => Q .normal a' w'') : (Code.region id L.toArray true).wp P Q a w := by
  have hL := lastO_spec L y hy
  have hl : L.dropLast.length = L.length - 1 := by simp
  generalize hD : L.dropLast = D at *
  have hops : L.toArray = (D ++ [y]).toArray := by rw [hL]
  rw [hops] at hop hyo ⊢
  rw [← hl] at hyo
  have hop' : ∀ i o, D[i]? = some o → OblL P (D ++ [y]).toArray S n T tab xi pure W w.drew i o := fun i o h => by
    have := hop i o (by rw [hD]; exact h)
    rwa [Nat.zero_add] at this
  refine wp_region_any hm ?_
  refine late_any (w := w.drew) tab xi pure W hrefl htrans hfit hlate hcv (fun i o h h1 h2 => ?_) (fun i o v h h1 h2 => ?_) (fun x o h h1 => ?_) hyo _ _ _ _ (by simp) (by simp) ?_ hA (fun m p _ h => ?_) (fun _ => ⟨hrefl _, fun i _ hi => ?_⟩) (fun x _ hx => ?_)
  · rcases hop' i o h with ⟨_, _, h3⟩ | ⟨_, v, h3, _⟩ | ⟨h3, _⟩
    · exact h3
    · rw [h2] at h3; cases h3
    · exact absurd h3 h1
  · rcases hop' i o h with ⟨_, h3, _⟩ | ⟨_, v', h3, h4⟩ | ⟨h3, _⟩
    · rw [h2] at h3; cases h3
    · rw [h2] at h3; cases h3; exact h4
    · exact absurd h3 h1
  · rcases hop' x o h1 with ⟨h3, _⟩ | ⟨h3, _⟩ | ⟨_, h4⟩
    · exact absurd h h3
    · exact absurd h h3
    · exact h4
  · exact Nat.le_trans (List.length_filter_le _ _) (by simp)
  · exfalso
    simp [Array.getD_eq_getD_getElem?, Array.getElem?_replicate] at h; split at h <;> simp at h
  · exfalso
    simp [Array.getD_eq_getD_getElem?, Array.getElem?_replicate] at hi; split at hi <;> simp at hi
  · exfalso
    simp [Array.getD_eq_getD_getElem?, Array.getElem?_replicate] at hx; split at hx <;> simp at hx
end
end Go.Proofs.Ytlhompedcphnnaa
