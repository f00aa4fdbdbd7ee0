/- The law on regions that draw their order and end with one store that waits for all else; one operation that turns memory for good (an append) may come late, with nothing but plain operations behind it. -/
import Derived.Test.YtlhompedcphnnaaUirLocalP2
namespace Go.Proofs.Ytlhompedcphnnaa
open Go.RowKit

/-- what is known behind operation y's wait -/
def Ahead (ops : Array Oper) (S : World → World → Prop) (tab : Nat → Cl S) (pure : Nat → Option Value) (W : Value → World → Prop) (w : World) (len : Nat) (a' : Act) (w' : World) : Option Nat → Prop
  | none => S w w' ∧ ∀ j, j < len → (tab j).P (valOf ops a' j) w'
  | some x => (∀ j v, j < len → j ≠ x → pure j = some v → valOf ops a' j = v) ∧ W (valOf ops a' x) w'
section
variable {P : Program} {l : List Oper} {y : Oper} {Q : Exit → Act → World → Prop} {S : World → World → Prop} {n : Nat} {T : List (Nat × Value)} {w : World}
/-- each of a list is waited for, by the operation or by one that stands ahead in the list -/
def covB (l : List Oper) (o : Oper) : List Nat → List Nat → Bool
  | [], _ => true
  | j :: c, acc => (waits o j || acc.any fun m => match l[m]? with | some p => waits p j | none => false) && covB l o c (j :: acc)
theorem cov {o : Oper} {L : Nat → Prop} (ho : ∀ j, waits o j = true → L j) (hcl : ∀ m p, l[m]? = some p → L m → ∀ j, waits p j = true → L j) : ∀ (c acc : List Nat), (∀ m ∈ acc, L m) → covB l o c acc = true → ∀ j ∈ c, L j
  | [], _, _, _ => fun j hj => by cases hj
  | j :: c, acc, ha, h => by
    unfold covB at h
    rw [Bool.and_eq_true, Bool.or_eq_true] at h
    have hj : L j := by
      rcases h.1 with h1 | h1
      · exact ho j h1
      · rw [List.any_eq_true] at h1
        obtain ⟨m, hm, h2⟩ := h1
        cases hp : l[m]? with
        | none => simp [hp] at h2
        | some p => simp only [hp] at h2; exact hcl m p hp (ha m hm) j h2
    exact List.forall_mem_cons.2 ⟨hj, cov ho hcl c (j :: acc) (List.forall_mem_cons.2 ⟨hj, ha⟩) h.2⟩
/-- the last operation waits for all others; the late one for all that are not plain -/
def lateB (l : List Oper) (y : Oper) (xi : Option Nat) (pb : Nat → Bool) (cy cx : List Nat) : Bool :=
  y.dst.isNone && (y.after.toList.all fun e => !Region.binds .any e || decide (e.on < l.length)) && (covB l y cy [] && (List.range l.length).all fun j => cy.contains j) &&
  match xi with
  | none => true
  | some x => decide (x < l.length) && !pb x && (match l[x]? with | some o => covB l o cx [] | none => false) && ((List.range l.length).all fun i => i == x || pb i || cx.contains i)
theorem late_spec {xi : Option Nat} {pb : Nat → Bool} {cy cx : List Nat} (h : lateB l y xi pb cy cx = true) : y.dst = none ∧ (∀ e ∈ y.after, Region.binds .any e = true → e.on < l.length) ∧ (covB l y cy [] = true ∧ ∀ j, j < l.length → j ∈ cy) ∧
    ∀ x, xi = some x → x < l.length ∧ pb x = false ∧ (∀ o, l[x]? = some o → covB l o cx [] = true) ∧ ∀ i, i < l.length → i ≠ x → pb i = false → i ∈ cx := by
  unfold lateB at h
  rw [Bool.and_eq_true, Bool.and_eq_true, Bool.and_eq_true, Bool.and_eq_true] at h
  obtain ⟨⟨⟨h1, h2⟩, h3, h3'⟩, h4⟩ := h
  refine ⟨by simpa using h1, fun e he hb => by have := (List.all_eq_true.1 h2) e (by simpa using he); simpa [hb] using this, ⟨h3, fun j hj => by simpa using (List.all_eq_true.1 h3') j (by simpa using hj)⟩, fun x hx => ?_⟩
  subst hx
  simp only [Bool.and_eq_true, decide_eq_true_eq, Bool.not_eq_true'] at h4
  obtain ⟨⟨⟨h5, h5'⟩, h6⟩, h7⟩ := h4
  refine ⟨h5, h5', fun o ho => by simpa [ho] using h6, fun i hi hne hp => ?_⟩
  have := (List.all_eq_true.1 h7) i (by simpa using hi)
  simp only [hp, Bool.or_false, Bool.or_eq_true, beq_iff_eq] at this
  simpa using this.resolve_left hne
theorem late_any {cy cx : List Nat} (tab : Nat → Cl S) (xi : Option Nat) (pure : Nat → Option Value) (W : Value → World → Prop) (hrefl : ∀ w, S w w) (htrans : ∀ a b c, S a b → S b c → S a c) (hfit : fitB l.toArray n T = true) (hlate : lateB l y xi (fun i => (pure i).isSome) cy cx = true)
    (hcv : ∀ i v u w', pure i = some v → ((tab i).P u w' ↔ u = v))
    (hop : ∀ i o, l[i]? = some o → xi ≠ some i → pure i = none → Obl P (l ++ [y]).toArray S n T tab w i o)
    (hpu : ∀ i o v, l[i]? = some o → xi ≠ some i → pure i = some v → ∀ a' w', St n T a' → (∀ j u, waits o j = true → pure j = some u → valOf (l ++ [y]).toArray a' j = u) → (xi = none → ∀ j, waits o j = true → (tab j).P (valOf (l ++ [y]).toArray a' j) w') → Does P (l ++ [y]).toArray o a' w' fun v' w'' => w'' = w' ∧ seenV o v' = v)
    (hxo : ∀ x o, xi = some x → l[x]? = some o → ∀ a' w', S w w' → St n T a' → (∀ j, waits o j = true → (tab j).P (valOf (l ++ [y]).toArray a' j) w') → Does P (l ++ [y]).toArray o a' w' fun v w'' => W (seenV o v) w'')
    (hyo : ∀ a' w', St n T a' → Ahead (l ++ [y]).toArray S tab pure W w l.length a' w' xi → Does P (l ++ [y]).toArray y a' w' fun _ w'' => Q .normal a' w'') :
    ∀ (fuel : Nat) (listed : Array Bool) (a' : Act) (w' : World), listed.size = l.length + 1 → listed.getD l.length true = false → ((List.range (l.length + 1)).filter fun i => !listed.getD i true).length ≤ fuel → St n T a' → (∀ m p, l[m]? = some p → listed.getD m false = true → ∀ j, waits p j = true → listed.getD j false = true) →
      ((∀ x, xi = some x → listed.getD x false = false) → S w w' ∧ ∀ i, i < l.length → listed.getD i false = true → (tab i).P (valOf (l ++ [y]).toArray a' i) w') →
      (∀ x, xi = some x → listed.getD x false = true → W (valOf (l ++ [y]).toArray a' x) w' ∧ ∀ i, i < l.length → i ≠ x → (pure i = none → listed.getD i false = true) ∧ ∀ v, pure i = some v → listed.getD i false = true → valOf (l ++ [y]).toArray a' i = v) →
      wpAny P .any (l ++ [y]).toArray Q fuel listed a' w' := by
  obtain ⟨hyd, hyg, hyw, hxs⟩ := late_spec hlate
  have hat : ∀ i, i < l.length → (l ++ [y]).toArray[i]? = l[i]? := fun i hi => by simp [List.getElem?_append_left hi]
  have hlast : (l ++ [y]).toArray[l.length]? = some y := by simp
  have hdl : ∀ i, i < l.length → dstOf (l ++ [y]).toArray i = dstOf l.toArray i := fun i hi => by unfold dstOf; rw [hat i hi]; simp
  have hwl : ∀ i o, l[i]? = some o → ∀ j, waits o j = true → j < i := fun i o ho j hj => by
    obtain ⟨_, hfe⟩ := fit_spec hfit (show l.toArray[i]? = some o by simpa using ho)
    unfold waits at hj
    rw [List.any_eq_true] at hj
    obtain ⟨e, he, hb⟩ := hj
    simp only [Bool.and_eq_true, beq_iff_eq] at hb
    have := hfe e (by simpa using he) hb.1
    omega
  intro fuel
  induction fuel with
  | zero =>
    intro listed a' w' hls hlun hf
    exfalso
    have hnil : ((List.range (l.length + 1)).filter fun i => !listed.getD i true) = [] := List.eq_nil_of_length_eq_zero (by omega)
    rw [List.filter_eq_nil_iff] at hnil
    have := hnil l.length (by simp)
    rw [hlun] at this; simp at this
  | succ fuel ih =>
    intro listed a' w' hls hlun hf hT hclo hpre hpost
    refine ⟨fun hr => ?_, fun i hi => ?_⟩
    · exfalso
      have all : ∀ i, i < l.length + 1 → listed.getD i false = true := by
        intro i
        induction i using Nat.strongRecOn with
        | _ i ihi =>
          intro hi
          cases hl : listed.getD i false with
          | true => rfl
          | false =>
            exfalso
            have hli : i < listed.size := by omega
            have hmem : i ∈ Region.ready .any (l ++ [y]).toArray listed := by
              rw [mem_ready]
              refine ⟨by simpa [hli] using hl, ?_⟩
              rcases Nat.lt_or_ge i l.length with h1 | h1
              · refine ⟨l[i], by rw [hat i h1]; simp [h1], fun e he hb => ?_⟩
                have hlt := (fit_spec hfit (show l.toArray[i]? = some l[i] by simp [h1])).2 e he hb
                exact ihi e.on hlt (by omega)
              · have hie : i = l.length := by omega
                subst hie
                refine ⟨y, hlast, fun e he hb => ?_⟩
                have hlt := hyg e he hb
                exact ihi e.on hlt (by omega)
            rw [hr] at hmem; cases hmem
      have h1 := all l.length (by omega)
      have hll : l.length < listed.size := by omega
      simp [hll] at h1 hlun
      rw [h1] at hlun; cases hlun
    · obtain ⟨hun, o, hoi, hall⟩ := mem_ready.1 hi
      have hil : i < l.length + 1 := by have := (Array.getElem?_eq_some_iff.1 hoi).1; simpa using this
      have hlw : ∀ j, waits o j = true → listed.getD j false = true := fun j hj => by
        unfold waits at hj
        rw [List.any_eq_true] at hj
        obtain ⟨e, he, hb⟩ := hj
        simp only [Bool.and_eq_true, beq_iff_eq] at hb
        rw [← hb.2]; exact hall e (by simpa using he) hb.1
      have hunf : listed.getD i false = false := by
        have : i < listed.size := by omega
        simpa [this] using hun
      rcases Nat.lt_or_ge i l.length with hlt | hge
      · have hoi' : l[i]? = some o := by rw [← hat i hlt]; exact hoi
        obtain ⟨hfd, hfe⟩ := fit_spec hfit (show l.toArray[i]? = some o by simpa using hoi')
        have hdi : dstOf (l ++ [y]).toArray i = o.dst := by unfold dstOf; rw [hoi]; rfl
        have vi : ∀ v, valOf (l ++ [y]).toArray (a'.put o.dst v) i = seenV o v := fun v => by
          unfold valOf seenV
          rw [hdi]
          cases hd : o.dst with
          | none => rfl
          | some d =>
            have hdl' : d < a'.tmps.size := by rw [hT.size]; exact (hfd d hd).1
            simp [Act.put, hdl']
        have vj : ∀ v j, j < l.length → j ≠ i → valOf (l ++ [y]).toArray (a'.put o.dst v) j = valOf (l ++ [y]).toArray a' j := fun v j hj hne => by
          unfold valOf
          rw [hdl j hj]
          cases hdj : dstOf l.toArray j with
          | none => rfl
          | some d' =>
            cases hd : o.dst with
            | none => rfl
            | some d =>
              have hnd : d ≠ d' := fun e => by subst e; exact hne ((hfd d hd).2.1 j (by simpa using hj) hdj)
              simp [Act.put, Array.getD_eq_getD_getElem?, Array.getElem?_setIfInBounds_ne hnd]
        have hTp : ∀ v, St n T (a'.put o.dst v) := fun v => by
          cases hd : o.dst with
          | none => exact hT
          | some d =>
            obtain ⟨hdn, _, hTd⟩ := hfd d hd
            have hp := hT.put hdn v
            refine ⟨hp.size, hp.defers, fun t u hu => hp.get t u ?_⟩
            have hne : t ≠ d := hTd (t, u) (lookup_mem hu)
            rw [List.lookup_cons]
            have : (t == d) = false := by simpa using hne
            simp only [this]; exact hu
        have go : ∀ v w2, ((∀ x, xi = some x → (listed.setIfInBounds i true).getD x false = false) → S w w2 ∧ ∀ k, k < l.length → (listed.setIfInBounds i true).getD k false = true → (tab k).P (valOf (l ++ [y]).toArray (a'.put o.dst v) k) w2) →
            (∀ x, xi = some x → (listed.setIfInBounds i true).getD x false = true → W (valOf (l ++ [y]).toArray (a'.put o.dst v) x) w2 ∧ ∀ k, k < l.length → k ≠ x → (pure k = none → (listed.setIfInBounds i true).getD k false = true) ∧ ∀ u, pure k = some u → (listed.setIfInBounds i true).getD k false = true → valOf (l ++ [y]).toArray (a'.put o.dst v) k = u) →
            wpAny P .any (l ++ [y]).toArray Q fuel (listed.setIfInBounds i true) (a'.put o.dst v) w2 := fun v w2 h1 h2 => by
          have hcl2 : ∀ m p, l[m]? = some p → (listed.setIfInBounds i true).getD m false = true → ∀ j, waits p j = true → (listed.setIfInBounds i true).getD j false = true := fun m p hp hm j hj => by
            have hj' : listed.getD j false = true := by
              by_cases hmi : m = i
              · subst hmi; rw [hoi'] at hp; cases hp; exact hlw j hj
              · exact hclo m p hp (by rwa [set_ne false (Ne.symm hmi)] at hm) j hj
            by_cases hji : j = i
            · subst hji; rw [hunf] at hj'; cases hj'
            · rw [set_ne false (Ne.symm hji)]; exact hj'
          refine ih _ _ _ (by simpa using hls) (by rw [set_ne true (by omega)]; exact hlun) ?_ (hTp v) hcl2 h1 h2
          have hlt' : i < listed.size := by omega
          have : ((List.range (l.length + 1)).filter fun k => !(listed.setIfInBounds i true).getD k true).length < ((List.range (l.length + 1)).filter fun k => !listed.getD k true).length := by
            have hsub : ((List.range (l.length + 1)).filter fun k => !(listed.setIfInBounds i true).getD k true) = ((List.range (l.length + 1)).filter fun k => !listed.getD k true).filter (fun k => k != i) := by
              rw [List.filter_filter]
              apply List.filter_congr
              intro k _
              by_cases hk : k = i
              · subst hk; simp [hlt']
              · rw [set_ne true (Ne.symm hk)]; simp [hk]
            rw [hsub]
            refine List.length_filter_lt_length_iff_exists.2 ⟨i, ?_, by simp⟩
            simp only [List.mem_filter, List.mem_range]
            exact ⟨hil, by rw [hun]; rfl⟩
          omega
        have hseti : (listed.setIfInBounds i true).getD i false = true := by
          have : i < listed.size := by omega
          simp [this]
        have hset : ∀ k, k ≠ i → (listed.setIfInBounds i true).getD k false = listed.getD k false := fun k hk => set_ne false (Ne.symm hk)
        have run : ∀ (K : Value → World → Prop), Does P (l ++ [y]).toArray o a' w' K → (∀ v w2, K v w2 → wpAny P .any (l ++ [y]).toArray Q fuel (listed.setIfInBounds i true) (a'.put o.dst v) w2) → wpOp P (l ++ [y]).toArray Q i (wpAny P .any (l ++ [y]).toArray Q fuel (listed.setIfInBounds i true)) a' w' := fun K hD hk => by
          unfold wpOp
          rcases hD with ⟨hw, h⟩ | ⟨hw, h⟩
          · simp only [hoi, hw, if_true]
            refine .inl (Oper.wp_mono (fun a2 w2 h => ?_) (h Q))
            obtain ⟨v, rfl, hv⟩ := h
            exact hk v w2 hv
          · simp only [hoi, hw, Bool.false_eq_true, if_false]
            exact hk undef w' h
        by_cases hxi : xi = some i
        · have hnot : ∀ x, xi = some x → listed.getD x false = false := fun x hx => by rw [hxi] at hx; cases hx; exact hunf
          obtain ⟨hS, hcl⟩ := hpre hnot
          obtain ⟨_, _, hx1, hx2⟩ := hxs i hxi
          have hxc := cov (L := fun j => listed.getD j false = true) hlw hclo cx [] (fun _ h => by cases h) (hx1 o hoi')
          refine run _ (hxo i o hxi hoi' a' w' hS hT fun j hj => hcl j (by have := hwl i o hoi' j hj; omega) (hlw j hj)) fun v w2 hv => go v w2 (fun h => ?_) fun x hx hlx => ?_
          · have := h i hxi; rw [hseti] at this; cases this
          · rw [hxi] at hx; cases hx
            refine ⟨by rw [vi]; exact hv, fun k hk hne => ⟨fun hp => ?_, fun u hu hlk => ?_⟩⟩
            · rw [hset k hne]; exact hxc k (hx2 k hk hne (by simp [hp]))
            · rw [hset k hne] at hlk
              rw [vj v k hk hne]
              exact (hcv k u _ w' hu).1 (hcl k hk hlk)
        · by_cases hL : ∃ x, xi = some x ∧ listed.getD x false = true
          · obtain ⟨x, hx, hlx⟩ := hL
            obtain ⟨hW, hall2⟩ := hpost x hx hlx
            have hix : i ≠ x := fun e => hxi (by rw [hx, e])
            obtain ⟨hxl, hxp, _, _⟩ := hxs x hx
            cases hp : pure i with
            | none => have := (hall2 i hlt hix).1 hp; rw [hunf] at this; cases this
            | some v0 =>
              refine run _ (hpu i o v0 hoi' hxi hp a' w' hT (fun j u hj hu => ?_) (fun h => by rw [hx] at h; cases h)) fun v w2 hv => ?_
              · have hjl : j < l.length := by have := hwl i o hoi' j hj; omega
                have hjx : j ≠ x := fun e => by subst e; simp [hu] at hxp
                exact (hall2 j hjl hjx).2 u hu (hlw j hj)
              · obtain ⟨rfl, hv⟩ := hv
                refine go v w2 (fun h => ?_) fun x' hx' hlx' => ?_
                · have := h x hx; rw [hset x (Ne.symm hix), hlx] at this; cases this
                · rw [hx] at hx'; cases hx'
                  refine ⟨by rw [vj v x hxl (Ne.symm hix)]; exact hW, fun k hk hne => ⟨fun hpk => ?_, fun u hu hlk => ?_⟩⟩
                  · by_cases hki : k = i
                    · subst hki; exact hseti
                    · rw [hset k hki]; exact (hall2 k hk hne).1 hpk
                  · by_cases hki : k = i
                    · subst hki; rw [hp] at hu; cases hu; rw [vi]; exact hv
                    · rw [hset k hki] at hlk; rw [vj v k hk hki]; exact (hall2 k hk hne).2 u hu hlk
          · have hnot : ∀ x, xi = some x → listed.getD x false = false := fun x hx => by
              cases h : listed.getD x false with
              | false => rfl
              | true => exact absurd ⟨x, hx, h⟩ hL
            obtain ⟨hS, hcl⟩ := hpre hnot
            have hclw : ∀ j, waits o j = true → (tab j).P (valOf (l ++ [y]).toArray a' j) w' := fun j hj => hcl j (by have := hwl i o hoi' j hj; omega) (hlw j hj)
            have fin : ∀ v w2, S w' w2 → (tab i).P (seenV o v) w2 → wpAny P .any (l ++ [y]).toArray Q fuel (listed.setIfInBounds i true) (a'.put o.dst v) w2 := fun v w2 hS2 hv => by
              refine go v w2 (fun _ => ⟨htrans _ _ _ hS hS2, fun k hk hlk => ?_⟩) fun x hx hlx => ?_
              · by_cases hki : k = i
                · subst hki; rw [vi]; exact hv
                · rw [hset k hki] at hlk; rw [vj v k hk hki]; exact (tab k).st _ _ _ hS2 (hcl k hk hlk)
              · have hne : x ≠ i := fun e => hxi (by rw [hx, e])
                rw [hset x hne, hnot x hx] at hlx; cases hlx
            cases hp : pure i with
            | none => exact run _ (hop i o hoi' hxi hp a' w' hS hT hclw) fun v w2 hv => fin v w2 hv.1 hv.2
            | some v0 =>
              refine run _ (hpu i o v0 hoi' hxi hp a' w' hT (fun j u hj hu => (hcv j u _ w' hu).1 (hclw j hj)) (fun _ => hclw)) fun v w2 hv => ?_
              obtain ⟨rfl, hv⟩ := hv
              exact fin v w2 (hrefl _) ((hcv i v0 _ w2 hp).2 hv)
      · have hie : i = l.length := by omega
        subst hie
        rw [hlast] at hoi
        cases hoi
        have hallj : ∀ j, j < l.length → listed.getD j false = true := fun j hj => cov (L := fun j => listed.getD j false = true) hlw hclo cy [] (fun _ h => by cases h) hyw.1 j (hyw.2 j hj)
        have hah : Ahead (l ++ [y]).toArray S tab pure W w l.length a' w' xi := by
          cases hx : xi with
          | none =>
            obtain ⟨hS, hcl⟩ := hpre (fun x h => by rw [hx] at h; cases h)
            exact ⟨hS, fun j hj => hcl j hj (hallj j hj)⟩
          | some x =>
            obtain ⟨hxl, _, _, _⟩ := hxs x hx
            obtain ⟨hW, hall2⟩ := hpost x hx (hallj x hxl)
            exact ⟨fun j v hj hne hp => (hall2 j hj hne).2 v hp (hallj j hj), hW⟩
        have hready : Region.ready .any (l ++ [y]).toArray (listed.setIfInBounds l.length true) = [] := by
          unfold Region.ready
          rw [List.filter_eq_nil_iff]
          intro j hj
          have hj' : j < l.length + 1 := by simpa using hj
          have hlj : (listed.setIfInBounds l.length true).getD j true = true := by
            by_cases h1 : j = l.length
            · subst h1
              have : l.length < listed.size := by omega
              simp [this]
            · rw [set_ne true (Ne.symm h1)]
              have h2 := hallj j (by omega)
              have : j < listed.size := by omega
              simpa [this] using h2
          rw [hlj]; simp
        have done : ∀ w2, Q .normal a' w2 → wpAny P .any (l ++ [y]).toArray Q fuel (listed.setIfInBounds l.length true) a' w2 := fun w2 hq => by
          cases fuel with
          | zero => exact ⟨hready, hq⟩
          | succ fuel => exact ⟨fun _ => hq, fun j hj => by rw [hready] at hj; cases hj⟩
        unfold wpOp
        rcases hyo a' w' hT hah with ⟨hw, h⟩ | ⟨hw, h⟩
        · simp only [hlast, hw, if_true]
          refine .inl (Oper.wp_mono (fun a2 w2 h => ?_) (h Q))
          obtain ⟨v, rfl, hv⟩ := h
          rw [hyd]; exact done w2 hv
        · simp only [hlast, hw, Bool.false_eq_true, if_false]
          rw [hyd]; exact done w' h
/-- THE LAW. -/
def lastO : List Oper → Option Oper
  | [] => none
  | [x] => some x
  | _ :: x :: xs => lastO (x :: xs)
theorem lastO_spec : ∀ (L : List Oper) (y : Oper), lastO L = some y → L = L.dropLast ++ [y]
  | [], y, h => by simp [lastO] at h
  | [x], y, h => by simp [lastO] at h; subst h; rfl
  | x :: z :: xs, y, h => by
    have := lastO_spec (z :: xs) y (by simpa [lastO] using h)
    rw [List.dropLast_cons_cons, List.cons_append, ← this]
/-- what is owed for operation i: of three kinds -/
def OblL (P : Program) (ops : Array Oper) (S : World → World → Prop) (n : Nat) (T : List (Nat × Value)) (tab : Nat → Cl S) (xi : Option Nat) (pure : Nat → Option Value) (W : Value → World → Prop) (w : World) (i : Nat) (o : Oper) : Prop :=
  (xi ≠ some i ∧ pure i = none ∧ Obl P ops S n T tab w i o) ∨
  (xi ≠ some i ∧ ∃ v, pure i = some v ∧ ∀ a' w', St n T a' → (∀ j u, waits o j = true → pure j = some u → valOf ops a' j = u) → (xi = none → ∀ j, waits o j = true → (tab j).P (valOf ops a' j) w') → Does P ops o a' w' fun v' w'' => w'' = w' ∧ seenV o v' = v) ∨
  (xi = some i ∧ ∀ a' w', S w w' → St n T a' → (∀ j, waits o j = true → (tab j).P (valOf ops a' j) w') → Does P ops o a' w' fun v w'' => W (seenV o v) w'')
def EachD (P : Program) (ops : Array Oper) (S : World → World → Prop) (n : Nat) (T : List (Nat × Value)) (tab : Nat → Cl S) (xi : Option Nat) (pure : Nat → Option Value) (W : Value → World → Prop) (w : World) (k : Nat) (L : List Oper) : Prop :=
  ∀ i o, L.dropLast[i]? = some o → OblL P ops S n T tab xi pure W w (k + i) o
theorem eachD_one {ops : Array Oper} {tab : Nat → Cl S} {xi : Option Nat} {pure : Nat → Option Value} {W : Value → World → Prop} {k : Nat} {o : Oper} : EachD P ops S n T tab xi pure W w k [o] := fun i p h => by simp at h
theorem ed_ {ops : Array Oper} {tab : Nat → Cl S} {xi : Option Nat} {pure : Nat → Option Value} {W : Value → World → Prop} {k : Nat} {o p : Oper} {L : List Oper} (h : OblL P ops S n T tab xi pure W w k o) (ht : EachD P ops S n T tab xi pure W w (k + 1) (p :: L)) : EachD P ops S n T tab xi pure W w k (o :: p :: L) := fun i q hq => by
  rw [List.dropLast_cons_cons] at hq
  cases i with
  | zero => simp at hq; subst hq; exact h
  | succ i => have := ht i q (by simpa using hq); rwa [show k + 1 + i = k + (i + 1) by omega] at this
theorem drawnL {id : Nat} {L : List Oper} {a : Act} (hy : lastO L = some y) (tab : Nat → Cl S) (xi : Option Nat) (pure : Nat → Option Value) (W : Value → World → Prop) (cy cx : List Nat) (hm : P.follows .mixedOrders = true) (hrefl : ∀ w, S w w) (htrans : ∀ a b c, S a b → S b c → S a c) (hA : St n T a)
    (hfit : fitB L.dropLast.toArray n T = true) (hlate : lateB L.dropLast y xi (fun i => (pure i).isSome) cy cx = true) (hcv : ∀ i v u w', pure i = some v → ((tab i).P u w' ↔ u = v))
    (hop : EachD P L.toArray S n T tab xi pure W w.drew 0 L)
    (hyo : ∀ a' w', St n T a' → Ahead L.toArray S tab pure W w.drew (L.length - 1) a' w' xi → Does P L.toArray y a' w' fun _ w'' => Q .normal a' w'') : (Code.region id L.toArray true).wp P Q a w := by
  have hL := lastO_spec L y hy
  have hl : L.dropLast.length = L.length - 1 := by simp
  generalize hD : L.dropLast = D at *
  have hops : L.toArray = (D ++ [y]).toArray := by rw [hL]
  rw [hops] at hop hyo ⊢
  rw [← hl] at hyo
  have hop' : ∀ i o, D[i]? = some o → OblL P (D ++ [y]).toArray S n T tab xi pure W w.drew i o := fun i o h => by
    have := hop i o (by rw [hD]; exact h)
    rwa [Nat.zero_add] at this
  refine wp_region_any hm ?_
  refine late_any (w := w.drew) tab xi pure W hrefl htrans hfit hlate hcv (fun i o h h1 h2 => ?_) (fun i o v h h1 h2 => ?_) (fun x o h h1 => ?_) hyo _ _ _ _ (by simp) (by simp) ?_ hA (fun m p _ h => ?_) (fun _ => ⟨hrefl _, fun i _ hi => ?_⟩) (fun x _ hx => ?_)
  · rcases hop' i o h with ⟨_, _, h3⟩ | ⟨_, v, h3, _⟩ | ⟨h3, _⟩
    · exact h3
    · rw [h2] at h3; cases h3
    · exact absurd h3 h1
  · rcases hop' i o h with ⟨_, h3, _⟩ | ⟨_, v', h3, h4⟩ | ⟨h3, _⟩
    · rw [h2] at h3; cases h3
    · rw [h2] at h3; cases h3; exact h4
    · exact absurd h3 h1
  · rcases hop' x o h1 with ⟨h3, _⟩ | ⟨h3, _⟩ | ⟨_, h4⟩
    · exact absurd h h3
    · exact absurd h h3
    · exact h4
  · exact Nat.le_trans (List.length_filter_le _ _) (by simp)
  · exfalso
    simp [Array.getD_eq_getD_getElem?, Array.getElem?_replicate] at h; split at h <;> simp at h
  · exfalso
    simp [Array.getD_eq_getD_getElem?, Array.getElem?_replicate] at hi; split at hi <;> simp at hi
  · exfalso
    simp [Array.getD_eq_getD_getElem?, Array.getElem?_replicate] at hx; split at hx <;> simp at hx
end
end Go.Proofs.Ytlhompedcphnnaa
/- Slices that are made and appended to, for the engine. -/
namespace Go.Proofs.Ytlhompedcphnnaa
open Go.RowKit

section
variable {P : Program} {ops : Array Oper} {a : Act} {w : World} {K : Value → World → Prop} {d : Option Tmp} {ty : TypeId} {pos : String} {af : Array Edge} {gd : Option (Nat × Bool)} {v : Value}
theorem dix {t n e s g o j p : Nat} {x ix : Operand} (hw : Region.wanted { dst := d, op := .indexAddr t x ix, type := ty, pos := pos, after := af, guard := gd } (yielded ops a.tmps) = true) (hx : a.eval x = .pointer (some ⟨g, o, none⟩)) (hi : a.eval ix = .int .i64 (j : Int))
    (ht : arrB P t n e s = true) (hj : j < n) (hp : o + j * s = p) (h : K (.pointer (some ⟨g, p, none⟩)) w) : Does P ops { dst := d, op := .indexAddr t x ix, type := ty, pos := pos, after := af, guard := gd } a w K := by
  subst hp; exact d_indexArr hw hx hi ht hj h
/-- of a type: its zero, its cells, its bytes -/
def elemB (P : Program) (t e s by_ : Nat) : Bool := sliceB P t e s && (match P.info? e with | some i => (match i.zero with | some z => z.cells.size == s | none => false) && i.bytes == by_ | none => false) && decide (0 < s)
theorem elem_facts {t e s by_ : Nat} (h : elemB P t e s by_ = true) : ∃ i z, P.underlying t = some (.slice e) ∧ P.info? e = some i ∧ i.zero = some z ∧ i.size = s ∧ i.bytes = by_ ∧ z.cells.size = s ∧ 0 < s := by
  unfold elemB at h
  rw [Bool.and_eq_true, Bool.and_eq_true, decide_eq_true_eq] at h
  obtain ⟨⟨h1, h2⟩, h3⟩ := h
  obtain ⟨h4, h5⟩ := slice_facts h1
  cases hq : P.info? e with
  | none => simp [hq] at h2
  | some i =>
    cases hz : i.zero with
    | none => simp [hq, hz] at h2
    | some z => simp [hq, hz] at h2 h5; exact ⟨i, z, h4, rfl, hz, h5, h2.2, h2.1, h3⟩
/-- one element laid into a new slice -/
theorem d_slice1 {t e s by_ : Nat} {x : Operand} (hw : Region.wanted { dst := d, op := .buildSlice t 1 #[(0, x)], type := ty, pos := pos, after := af, guard := gd } (yielded ops a.tmps) = true) (hx : a.eval x = v) (ht : elemB P t e s by_ = true) (hs : v.cells.size = s) (hsm : s ≤ 1000)
    (h : ∀ g w', g = w.heap.size → Grow w w' → Blk w' g v.cells e → K (.slice (some ⟨g, 0, none⟩) 1 1) w') : Does P ops { dst := d, op := .buildSlice t 1 #[(0, x)], type := ty, pos := pos, after := af, guard := gd } a w K := by
  obtain ⟨i, z, hu, hi, hz, hsz, _, hzs, h0⟩ := elem_facts ht
  refine does_val (w' := w.alloc (.cells v.cells e)) hw ?_ (h _ _ rfl ((Grow.refl _).alloc _) (heap_alloc_last w _))
  have hfill : Instr.fill (fun j => some (j * i.size, i.size)) ((Array.range (1 * i.size)).map (z.cells[· % z.cells.size]!)) [(0, v)] = some v.cells := by
    simp only [Instr.fill, hsz, Nat.zero_mul, Nat.one_mul, Array.size_map, Array.size_range]
    rw [if_neg (by simp [hs])]
    congr 1
    have key : ∀ (c : List Value) (k : Nat) (Z : Array Value), k + c.length = Z.size → ((c.zipIdx k).foldl (fun cs (x : Value × Nat) => cs.setIfInBounds (0 + x.2) x.1) Z).toList = Z.toList.take k ++ c := by
      intro c
      induction c with
      | nil => intro k Z hk; simp at hk ⊢; rw [List.take_of_length_le (by simp; omega)]
      | cons u c ih =>
        intro k Z hk
        simp only [List.length_cons] at hk
        rw [List.zipIdx_cons, List.foldl_cons, ih (k + 1) _ (by simp; omega)]
        simp only [Nat.zero_add, Array.toList_setIfInBounds]
        have hk' : k < Z.toList.length := by simp; omega
        rw [List.take_add_one, List.getElem?_set_self hk']
        simp [List.take_set_of_le]
    have hz2 := key v.cells.toList 0 ((Array.range s).map (z.cells[· % z.cells.size]!)) (by simp [hs])
    apply Array.ext'
    rw [← Array.foldl_toList, Array.toList_zipIdx]
    simpa using hz2
  have := run_buildSlice (P := P) w t e 1 #[(0, v)] v.cells i z hu hi hz (by rw [hsz]; omega) (by rw [hsz]; omega) (by simpa using hfill)
  unfold execOp
  simp only [Sem.run_bind, List.map_toArray, List.map_cons, List.map_nil, hx, this, Result.andThen_ok, Sem.run_pure]
theorem d_append {t e s by_ B n gb : Nat} {x y : Operand} {xs : List Value} {cs : Array Value} (hw : Region.wanted { dst := d, op := .call { callee := .builtin .append, args := #[x, y], argTypes := #[t, t] }, type := ty, pos := pos, after := af, guard := gd } (yielded ops a.tmps) = true) (hx : a.eval x = v) (hy : a.eval y = .slice (some ⟨gb, 0, none⟩) 1 1)
    (ht : elemB P t e s by_ = true) (hown : w.ownsRow B e s v n xs) (hb : Blk w gb cs e) (hcs : cs.size = s) (h1 : cs.toList.all (·.oneCell') = true) (hn : n ≤ 1000000) (hby : by_ ≤ 10000) (hB : B ≤ w.heap.size)
    (h : ∀ v' w', w'.ownsRow B e s v' (n + 1) (xs ++ cs.toList) → w.grownBy w' v.ownBlock → (v'.ownBlock = v.ownBlock ∨ v'.ownBlock = some w.heap.size) → K v' w') :
    Does P ops { dst := d, op := .call { callee := .builtin .append, args := #[x, y], argTypes := #[t, t] }, type := ty, pos := pos, after := af, guard := gd } a w K := by
  obtain ⟨i, z, hu, hi, hz, hsz, hbz, hzs, h0⟩ := elem_facts ht
  have hmul : (n + 1) * by_ ≤ 1000001 * 10000 := Nat.mul_le_mul (by omega) hby
  obtain ⟨v', w', hr, h2, h3, _, h5⟩ := run_append_own_at (P := P) w B t ty e i z s by_ hu hi hz hsz hbz hzs h0 v n xs hown ⟨gb, 0, none⟩ 1 1 cs.toList (by simp [hcs])
    (fun j u hj => by rw [Addr.add_mid, Nat.zero_add]; exact hb.cell (by simpa using hj)) (fun u hu => (List.all_eq_true.1 h1) u hu) (by simp only [maxLen]; omega) (by omega) hB
  refine does_val hw ?_ (h v' w' h2 h3 h5)
  unfold execOp
  simp only [resolve, invoke, builtin, Sem.run_bind, Sem.run_pure, Result.andThen_ok, List.map_toArray, List.map_cons, List.map_nil, hx, hy, hr]
end
theorem own_lt {w : World} {b : Nat} {e : TypeId} {s n : Nat} {v : Value} {xs : List Value} (h : w.ownsRow b e s v n xs) : ∀ k, v.ownBlock = some k → b ≤ k ∧ k < w.heap.size := by
  intro k hk
  rcases h.2 with ⟨rfl, _⟩ | ⟨g, cap, cur, rfl, hb, hg, _⟩
  · simp [Value.ownBlock] at hk
  · simp [Value.ownBlock] at hk; subst hk; exact ⟨hb, (Array.getElem?_eq_some_iff.1 hg).1⟩
/-- plain operations' values, and claims of the others -/
def tabQ {S : World → World → Prop} (pl : List (Option Value)) (L : List (Cl S)) (i : Nat) : Cl S := match (pl[i]?).getD none with | some v => cv v | none => (L[i]?).getD cfree
theorem tabQ_cv {S : World → World → Prop} (pl : List (Option Value)) (L : List (Cl S)) : ∀ i v u w', (pl[i]?).getD none = some v → ((tabQ pl L i).P u w' ↔ u = v) := fun i v u w' h => by
  unfold tabQ; rw [h]; exact Iff.rfl
/-- a slice of one element in new memory -/
def cs1 (M : Nat → Option (Array Value)) (hM : ∀ k, M k = none) (cs : Array Value) (e : TypeId) : Cl (SM M) :=
  ⟨fun v w => ∃ g, v = .slice (some ⟨g, 0, none⟩) 1 1 ∧ Blk w g cs e, fun _ _ _ hS ⟨g, h1, h2⟩ => ⟨g, h1, h2.sm hS (hM g)⟩⟩
theorem own_form {w : World} {b : Nat} {e : TypeId} {s n : Nat} {v : Value} {xs : List Value} (h : w.ownsRow b e s v n xs) : ∃ ao cap, v = .slice ao n cap := by
  rcases h.2 with ⟨rfl, rfl⟩ | ⟨g, cap, cur, rfl, _⟩
  · exact ⟨none, 0, rfl⟩
  · exact ⟨_, cap, rfl⟩
theorem own_new {w : World} {b g : Nat} {e : TypeId} {s n : Nat} {v : Value} {xs : List Value} (h : w.ownsRow b e s v n xs) (hg : g = w.heap.size) : v.ownBlock ≠ some g := fun hk => by
  have := (own_lt h _ hk).2; omega
theorem owg {w w' : World} {b : Nat} {e : TypeId} {s n : Nat} {v : Value} {xs : List Value} (hg : Grow w w') (h : w.ownsRow b e s v n xs) : w'.ownsRow b e s v n xs := by
  obtain ⟨h1, h2⟩ := h
  refine ⟨h1, ?_⟩
  rcases h2 with h2 | ⟨g, cap, cur, hv, hb, hgg, h3⟩
  · exact .inl h2
  · exact .inr ⟨g, cap, cur, hv, hb, by rw [hg.block g (Array.getElem?_eq_some_iff.1 hgg).1]; exact hgg, h3⟩
theorem own_sm {M : Nat → Option (Array Value)} {w w' : World} {b : Nat} {e : TypeId} {s n : Nat} {v : Value} {xs : List Value} (h : w.ownsRow b e s v n xs) (hS : SM M w w') (hM : ∀ k, M k = none) : w'.ownsRow b e s v n xs := by
  obtain ⟨h1, h2⟩ := h
  refine ⟨h1, ?_⟩
  rcases h2 with h2 | ⟨g, cap, cur, hv, hb, hgg, h3⟩
  · exact .inl h2
  · exact .inr ⟨g, cap, cur, hv, hb, by rw [hS.block g (Array.getElem?_eq_some_iff.1 hgg).1 (hM g)]; exact hgg, h3⟩
theorem own_keep {w w' : World} {b : Nat} {e : TypeId} {s n : Nat} {v : Value} {xs : List Value} (h : w.ownsRow b e s v n xs) (hk : ∀ k, v.ownBlock = some k → w'.heap[k]? = w.heap[k]?) : w'.ownsRow b e s v n xs := by
  obtain ⟨h1, h2⟩ := h
  refine ⟨h1, ?_⟩
  rcases h2 with h2 | ⟨g, cap, cur, hv, hb, hgg, h3⟩
  · exact .inl h2
  · exact .inr ⟨g, cap, cur, hv, hb, by rw [hk g (by rw [hv]; rfl)]; exact hgg, h3⟩
theorem own_upd {w w' : World} {b g : Nat} {e : TypeId} {s n : Nat} {v : Value} {xs : List Value} (h : w.ownsRow b e s v n xs) (hu : Upd g w w') (hne : v.ownBlock ≠ some g) : w'.ownsRow b e s v n xs :=
  own_keep h fun k hk => hu.block k (fun e => hne (by rw [← e]; exact hk))
theorem own_by {w w' : World} {b : Nat} {e : TypeId} {s n : Nat} {v u : Value} {xs : List Value} (h : w.ownsRow b e s v n xs) (hg : w.grownBy w' u.ownBlock) (hap : ∀ k, v.ownBlock = some k → u.ownBlock ≠ some k) : w'.ownsRow b e s v n xs :=
  own_keep h fun k hk => hg.block k (own_lt h k hk).2 (fun e => hap k hk e.symm)
theorem Blk.by {w w' : World} {g : Nat} {cs : Array Value} {t : TypeId} {u : Value} (h : Blk w g cs t) (hg : w.grownBy w' u.ownBlock) (hne : u.ownBlock ≠ some g) : Blk w' g cs t := by
  unfold Blk; rw [hg.block g h.lt (fun e => hne e.symm)]; exact h
theorem below_by {B : Nat} {a w w' : World} {u : Value} (h : Below B a w) (hg : w.grownBy w' u.ownBlock) (hB : B ≤ w.heap.size) (hr : ∀ k, u.ownBlock = some k → B ≤ k) : Below B a w' := h.grown hg hB hr
theorem lies_ne {w : World} {v v' : Value} {g : Nat} (hl : v'.ownBlock = v.ownBlock ∨ v'.ownBlock = some w.heap.size) (h : v.ownBlock ≠ some g) (hg : g < w.heap.size) : v'.ownBlock ≠ some g := by
  rcases hl with hl | hl
  · rw [hl]; exact h
  · rw [hl]; intro e; cases e; omega
theorem lies_ap {w : World} {b : Nat} {e : TypeId} {s n : Nat} {v v' u : Value} {xs : List Value} (hl : v'.ownBlock = v.ownBlock ∨ v'.ownBlock = some w.heap.size) (h : ∀ k, u.ownBlock = some k → v.ownBlock ≠ some k) (hu : w.ownsRow b e s u n xs) : ∀ k, u.ownBlock = some k → v'.ownBlock ≠ some k := fun k hk => by
  rcases hl with hl | hl
  · rw [hl]; exact h k hk
  · rw [hl]; intro e; cases e; have := (own_lt hu _ hk).2; omega
end Go.Proofs.Ytlhompedcphnnaa
/- A code's run by itself: the walk in memory, its events. -/
namespace Go.Proofs.Ytlhompedcphnnaa
open Go.RowKit

structure Ev where
  thread : Int
  pos : Int
  at_ : Int
  op : Int
  loc : Int
  mask : Int
  reads : Bool
  writes : Bool
  old : Int
  new_ : Int
  acq : Bool
  weak : Bool
  rel : Bool
  pred : Int
  succ : Int
  deriving DecidableEq
def evC (e : Ev) : Array Value := #[.int .i64 e.thread, .int .i64 e.pos, .int .i64 e.at_, .int .i64 e.op, .int .i64 e.loc, .int .i64 e.mask, .bool e.reads, .bool e.writes, .int .i64 e.old, .int .i64 e.new_, .bool e.acq, .bool e.weak, .bool e.rel, .int .i64 e.pred, .int .i64 e.succ]
def walkC (p : Int) (r : Nat → Int) (rd ev pa : Value) : Array Value := #[.int .i64 p, .int .i64 (r 0), .int .i64 (r 1), .int .i64 (r 2), .int .i64 (r 3), .int .i64 (r 4), .int .i64 (r 5), .int .i64 (r 6), .int .i64 (r 7), rd, ev, pa]
def regsC (r : Nat → Int) : Array Value := #[.int .i64 (r 0), .int .i64 (r 1), .int .i64 (r 2), .int .i64 (r 3), .int .i64 (r 4), .int .i64 (r 5), .int .i64 (r 6), .int .i64 (r 7)]
def updR (r : Nat → Int) (j : Nat) (x : Int) : Nat → Int := fun k => if k = j then x else r k
theorem walk_get {p : Int} {r : Nat → Int} {rd ev pa : Value} : ∀ {j : Nat}, j < 8 → (walkC p r rd ev pa)[1 + j]? = some (.int .i64 (r j))
  | 0, _ | 1, _ | 2, _ | 3, _ | 4, _ | 5, _ | 6, _ | 7, _ => rfl
theorem walk_set {p : Int} {r : Nat → Int} {rd ev pa : Value} {x : Int} : ∀ {j : Nat}, j < 8 → (walkC p r rd ev pa).setIfInBounds (1 + j) (.int .i64 x) = walkC p (updR r j x) rd ev pa
  | 0, _ | 1, _ | 2, _ | 3, _ | 4, _ | 5, _ | 6, _ | 7, _ => by simp [walkC, updR]
theorem walk_size {p : Int} {r : Nat → Int} {rd ev pa : Value} : (walkC p r rd ev pa).size = 12 := rfl
def orR (r : Nat → Int) (q : Int) (x : Int) : Int := if q == -1 then x else r q.toNat
def ev0 (i : Ins) (n p : Int) : Ev := ⟨0, n, p, i.op, 0, 0, rdB i, wrB i, 0, 0, i.acq, i.weak, i.rel, i.pred, i.succ⟩
end Go.Proofs.Ytlhompedcphnnaa
/- Closed facts on the types and functions of the program. -/
namespace Go.Proofs.Ytlhompedcphnnaa
open Go.RowKit
set_option linter.unusedSimpArgs false
set_option linter.unusedVariables false
theorem arr43 : arrB Try.prog 43 8 3 1 = true := by kernel_rfl
theorem elm30 : elemB Try.prog 30 3 1 8 = true := by kernel_rfl
theorem elm44 : elemB Try.prog 44 52 15 96 = true := by kernel_rfl
theorem ent46 : ((Try.prog.funcs[46]?).map fun fn => (fn.name == "runtime.NumGoroutine", fn.body.isNone)) = some (false, false) := by kernel_rfl
theorem ent47 : ((Try.prog.funcs[47]?).map fun fn => (fn.name == "runtime.NumGoroutine", fn.body.isNone)) = some (false, false) := by kernel_rfl
theorem ent48 : ((Try.prog.funcs[48]?).map fun fn => (fn.name == "runtime.NumGoroutine", fn.body.isNone)) = some (false, false) := by kernel_rfl
theorem ent49 : ((Try.prog.funcs[49]?).map fun fn => (fn.name == "runtime.NumGoroutine", fn.body.isNone)) = some (false, false) := by kernel_rfl
theorem ent57 : ((Try.prog.funcs[57]?).map fun fn => (fn.name == "runtime.NumGoroutine", fn.body.isNone)) = some (false, false) := by kernel_rfl
theorem ent58 : ((Try.prog.funcs[58]?).map fun fn => (fn.name == "runtime.NumGoroutine", fn.body.isNone)) = some (false, false) := by kernel_rfl
theorem ent59 : ((Try.prog.funcs[59]?).map fun fn => (fn.name == "runtime.NumGoroutine", fn.body.isNone)) = some (false, false) := by kernel_rfl
theorem ent67 : ((Try.prog.funcs[67]?).map fun fn => (fn.name == "runtime.NumGoroutine", fn.body.isNone)) = some (false, false) := by kernel_rfl
theorem fo52_4 : fieldOff Try.prog 52 4 = some 4 := by kernel_rfl
theorem fo52_5 : fieldOff Try.prog 52 5 = some 6 := by kernel_rfl
theorem fo52_6 : fieldOff Try.prog 52 6 = some 7 := by kernel_rfl
theorem fo52_7 : fieldOff Try.prog 52 7 = some 8 := by kernel_rfl
theorem fo52_8 : fieldOff Try.prog 52 8 = some 9 := by kernel_rfl
theorem fo62_0 : fieldOff Try.prog 62 0 = some 0 := by kernel_rfl
theorem fo62_1 : fieldOff Try.prog 62 1 = some 1 := by kernel_rfl
theorem fo62_2 : fieldOff Try.prog 62 2 = some 9 := by kernel_rfl
theorem fo62_3 : fieldOff Try.prog 62 3 = some 10 := by kernel_rfl
theorem fo62_4 : fieldOff Try.prog 62 4 = some 11 := by kernel_rfl
theorem one30 : oneB Try.prog 30 = true := by kernel_rfl
theorem one44 : oneB Try.prog 44 = true := by kernel_rfl
theorem places50 : placesOf Try.prog 50 = some [(0, 1), (1, 1)] := by kernel_rfl
theorem places52 : placesOf Try.prog 52 = some [(0, 1), (1, 1), (2, 1), (3, 1), (4, 2), (6, 1), (7, 1), (8, 1), (9, 1), (10, 1), (11, 1), (12, 1), (13, 1), (14, 1)] := by kernel_rfl
theorem row50 : rowB Try.prog 50 2 = true := by kernel_rfl
theorem row52 : rowB Try.prog 52 15 = true := by kernel_rfl
theorem slc30 : sliceB Try.prog 30 3 1 = true := by kernel_rfl
theorem zero50 : (Try.prog.info? 50).map (fun i => (i.zero, i.size)) = some (some (.agg #[.int .i64 0, .int .i64 0]), 2) := by kernel_rfl
theorem zero52 : (Try.prog.info? 52).map (fun i => (i.zero, i.size)) = some (some (.agg #[.int .i64 0, .int .i64 0, .int .i64 0, .int .i64 0, .int .i64 0, .int .i64 0, .bool false, .bool false, .int .i64 0, .int .i64 0, .bool false, .bool false, .bool false, .int .i64 0, .int .i64 0]), 15) := by kernel_rfl
end Go.Proofs.Ytlhompedcphnnaa
/- What a register holds. -/
namespace Go.Proofs.Ytlhompedcphnnaa
open Go.RowKit
set_option linter.unusedSimpArgs false
set_option linter.unusedVariables false
set_option maxHeartbeats 4000000 in
set_option maxRecDepth 4000 in
theorem regOr_none (g : Nat) (p : Int) (r : Nat → Int) (rd ev pa : Value) (x : Int) (w : World) (hb : Blk w g (walkC p r rd ev pa) 62) : Calls Try.prog 47 #[.pointer (some ⟨g, 0, none⟩), .int .i64 (-1), .int .i64 x] w fun e w' => e = .returned (.int .i64 x) ∧ Grow w w' := by
 have b0 : Below w.heap.size w w := Below.refl _ _
 refine enter (n := 16) Try.func47 rfl rfl (Nat.le_of_ble_eq_true rfl) ?_
 intro a1 hA2
 refine wp_seq ?_
 refine wp_region_lit ?_
 refine qs hA2 rfl (das (wn rfl) (hA2.ev rfl) ?_)
 intro a3 hA4
 refine qe_ ?_
 refine tn_ ?_
 refine wp_seq ?_
 refine wp_seq ?_
 refine wp_region_lit ?_
 refine qs hA4 rfl (dmv (wn rfl) (hA4.ev rfl) ?_)
 intro a5 hA6
 refine qs hA6 rfl (dbn (wn rfl) (hA6.ev rfl) (hA6.ev rfl) (b_eq _ _ (-1) (-1) true _ rfl) ?_)
 intro a7 hA8
 refine qe_ ?_
 refine tn_ ?_
 refine c_true hA8 rfl ?_
 refine wp_seq ?_
 refine wp_region_lit ?_
 refine qs hA8 rfl (dmv (wn rfl) (hA8.ev rfl) ?_)
 intro a9 hA10
 refine qs hA10 rfl (das (wn rfl) (hA10.ev rfl) ?_)
 intro a11 hA12
 refine qe_ ?_
 refine tn_ ?_
 refine wp_ret ?_
 refine t_ret ?_
 refine ret1 rfl hA12 (v := (.int .i64 x)) rfl ?_
 exact ⟨rfl, b0⟩
set_option maxHeartbeats 4000000 in
set_option maxRecDepth 4000 in
theorem regOr_reg (g : Nat) (p : Int) (r : Nat → Int) (rd ev pa : Value) (j : Nat) (x : Int) (w : World) (hb : Blk w g (walkC p r rd ev pa) 62) (hj : j < 8) : Calls Try.prog 47 #[.pointer (some ⟨g, 0, none⟩), .int .i64 ((j : Nat) : Int), .int .i64 x] w fun e w' => e = .returned (.int .i64 (r j)) ∧ Grow w w' := by
 have b0 : Below w.heap.size w w := Below.refl _ _
 refine enter (n := 16) Try.func47 rfl rfl (Nat.le_of_ble_eq_true rfl) ?_
 intro a1 hA2
 refine wp_seq ?_
 refine wp_region_lit ?_
 refine qs hA2 rfl (das (wn rfl) (hA2.ev rfl) ?_)
 intro a3 hA4
 refine qe_ ?_
 refine tn_ ?_
 refine wp_seq ?_
 refine wp_seq ?_
 refine wp_region_lit ?_
 refine qs hA4 rfl (dmv (wn rfl) (hA4.ev rfl) ?_)
 intro a5 hA6
 refine qs hA6 rfl (dbn (wn rfl) (hA6.ev rfl) (hA6.ev rfl) (b_eq _ _ ((j : Nat) : Int) (-1) false _ (by simp)) ?_)
 intro a7 hA8
 refine qe_ ?_
 refine tn_ ?_
 refine c_false hA8 rfl ?_
 refine wp_skip ?_
 refine tn_ ?_
 refine wp_seq ?_
 refine wp_region_lit ?_
 refine qs hA8 rfl (dmv (wn rfl) (hA8.ev rfl) ?_)
 intro a9 hA10
 refine qs hA10 rfl (dmv (wn rfl) (hA10.ev rfl) ?_)
 intro a11 hA12
 refine qs hA12 rfl (dnc (wn rfl) (hA12.ev rfl) ?_)
 intro a13 hA14
 refine qs hA14 rfl (dfa (wn rfl) (hA14.ev rfl) fo62_1 ?_)
 intro a15 hA16
 refine qs hA16 rfl (dix (j := j) (p := 1 + j) (wn rfl) (hA16.ev rfl) (hA16.ev rfl) arr43 (by omega) (by omega) ?_)
 intro a17 hA18
 refine qs hA18 rfl (dld (v := (.int .i64 (r j))) (wn rfl) (hA18.ev rfl) one3 (hb.cell (walk_get (by omega))) ?_)
 intro a19 hA20
 refine qs hA20 rfl (das (wn rfl) (hA20.ev rfl) ?_)
 intro a21 hA22
 refine qe_ ?_
 refine tn_ ?_
 refine wp_ret ?_
 refine ret1 rfl hA22 (v := (.int .i64 (r j))) rfl ?_
 exact ⟨rfl, b0⟩
end Go.Proofs.Ytlhompedcphnnaa
/- The event of an instruction. -/
namespace Go.Proofs.Ytlhompedcphnnaa
open Go.RowKit
set_option linter.unusedSimpArgs false
set_option linter.unusedVariables false
set_option maxHeartbeats 4000000 in
set_option maxRecDepth 4000 in
theorem event_any (g : Nat) (p : Int) (r : Nat → Int) (rd ev pa : Value) (i : Ins) (np Bd : Nat) (xp : List Value) (w : World) (hb : Blk w g (walkC p r rd ev pa) 62) (hpa : w.ownsRow Bd 3 1 pa np xp) : Calls Try.prog 49 #[.pointer (some ⟨g, 0, none⟩), .agg (insC i)] w fun e w' => e = .returned (.agg (evC (ev0 i np p))) ∧ Grow w w' := by
 have b0 : Below w.heap.size w w := Below.refl _ _
 refine enter (n := 31) Try.func49 rfl rfl (Nat.le_of_ble_eq_true rfl) ?_
 intro a1 hA2
 refine wp_seq ?_
 refine wp_region_lit ?_
 refine qs hA2 rfl (d_box (wn rfl) (hA2.ev rfl) ?_)
 intro g3 w4 eg5 hG6 (m7 : Blk w4 g3 (insC i) 23)
 have ge8 : w.heap.size ≤ g3 := eg5 ▸ b0.size
 have n9 : g ≠ g3 := fun h => Nat.lt_irrefl _ ((h.trans eg5) ▸ hb.lt)
 have off10 := own_new hpa eg5
 have m11 := hb.grow hG6
 have b12 := blg b0 hG6 b0.size
 have ho13 := owg hG6 hpa
 intro a14 hA15
 refine qs hA15 rfl (dal (wn rfl) zero52 ?_)
 intro g16 w17 eg18 hG19 (m20 : Blk w17 g16 #[.int .i64 0, .int .i64 0, .int .i64 0, .int .i64 0, .int .i64 0, .int .i64 0, .bool false, .bool false, .int .i64 0, .int .i64 0, .bool false, .bool false, .bool false, .int .i64 0, .int .i64 0] 52)
 have ge21 : w.heap.size ≤ g16 := eg18 ▸ b12.size
 have n22 : g ≠ g16 := fun h => Nat.lt_irrefl _ ((h.trans eg18) ▸ m11.lt)
 have n23 : g3 ≠ g16 := fun h => Nat.lt_irrefl _ ((h.trans eg18) ▸ m7.lt)
 have off24 := own_new ho13 eg18
 have m25 := m11.grow hG19
 have m26 := m7.grow hG19
 have b27 := blg b12 hG19 b12.size
 have ho28 := owg hG19 ho13
 intro a29 hA30
 refine qe_ ?_
 refine tn_ ?_
 refine wp_seq ?_
 have hA31 : St 31 [(0, (.pointer (some ⟨g, 0, none⟩))), (3, (.pointer (some ⟨g3, 0, none⟩))), (4, (.pointer (some ⟨g16, 0, none⟩)))] a29 := hA30.sub rfl
 let M32 : Nat → Option (Array Value) := fun _ => none
 have hM32 : M32 = fun _ => none := rfl
 clear_value M32
 have hM32A : ∀ k, M32 k = none := fun k => congrFun hM32 k
 have hM32B : ∀ k, k < w.heap.size → M32 k = none := fun k _ => hM32A k
 refine drawnL (S := SM M32) rfl (tabL [cv (.pointer (some ⟨g, 0, none⟩)), cv (.pointer (some ⟨g, 0, none⟩)), cv (.pointer (some ⟨g, 11, none⟩)), cv pa, cv (.int .i64 ((np : Nat) : Int)), cv (.pointer (some ⟨g, 0, none⟩)), cv (.pointer (some ⟨g, 0, none⟩)), cv (.pointer (some ⟨g, 0, none⟩)), cv (.int .i64 p), cv (.pointer (some ⟨g3, 0, none⟩)), cv (.int .i64 i.op), cv (.agg (insC i)), cv (.bool (rdB i)), cv (.agg (insC i)), cv (.bool (wrB i)), cv (.pointer (some ⟨g3, 10, none⟩)), cv (.bool i.acq), cv (.pointer (some ⟨g3, 11, none⟩)), cv (.bool i.weak), cv (.pointer (some ⟨g3, 12, none⟩)), cv (.bool i.rel), cv (.pointer (some ⟨g3, 13, none⟩)), cv (.int .i64 i.pred), cv (.pointer (some ⟨g3, 14, none⟩)), cv (.int .i64 i.succ), cv (.agg #[.int .i64 0, .int .i64 ((np : Nat) : Int), .int .i64 p, .int .i64 i.op, .int .i64 0, .int .i64 0, .bool (rdB i), .bool (wrB i), .int .i64 0, .int .i64 0, .bool i.acq, .bool i.weak, .bool i.rel, .int .i64 i.pred, .int .i64 i.succ])]) none (fun _ => none) (fun _ _ => True) [25, 14, 0, 1, 2, 3, 4, 5, 6, 7, 8, 9, 10, 11, 12, 13, 15, 16, 17, 18, 19, 20, 21, 22, 23, 24] [] mixedY SM.refl SM.trans hA31 (by kernel_rfl) (by kernel_rfl) (fun i v u w h => by cases h) ?_ ?_
 ·skip
  refine ed_ (.inl ⟨nofun, rfl, fun x y hS hT hk => dmv (wn rfl) (hT.ev rfl) ⟨SM.refl _, rfl⟩⟩) ?_
  refine ed_ (.inl ⟨nofun, rfl, fun x y hS hT hk => dnc (wn rfl) (hk 0 rfl) ⟨SM.refl _, rfl⟩⟩) ?_
  refine ed_ (.inl ⟨nofun, rfl, fun x y hS hT hk => dfa (wn rfl) (hk 1 rfl) fo62_4 ⟨SM.refl _, rfl⟩⟩) ?_
  refine ed_ (.inl ⟨nofun, rfl, fun x y hS hT hk => dld (v := pa) (wn rfl) (hk 2 rfl) one30 ((Blk.sm (w := w17.drew) m25 hS (hM32A _)).cell rfl) ⟨SM.refl _, rfl⟩⟩) ?_
  refine ed_ (.inl ⟨nofun, rfl, fun x y hS hT hk => dle (n := np) (wn rfl) (hk 3 rfl) slc30 (own_form ho28) ⟨SM.refl _, rfl⟩⟩) ?_
  refine ed_ (.inl ⟨nofun, rfl, fun x y hS hT hk => dmv (wn rfl) (hT.ev rfl) ⟨SM.refl _, rfl⟩⟩) ?_
  refine ed_ (.inl ⟨nofun, rfl, fun x y hS hT hk => dnc (wn rfl) (hk 5 rfl) ⟨SM.refl _, rfl⟩⟩) ?_
  refine ed_ (.inl ⟨nofun, rfl, fun x y hS hT hk => dfa (wn rfl) (hk 6 rfl) fo62_0 ⟨SM.refl _, rfl⟩⟩) ?_
  refine ed_ (.inl ⟨nofun, rfl, fun x y hS hT hk => dld (v := (.int .i64 p)) (wn rfl) (hk 7 rfl) one3 ((Blk.sm (w := w17.drew) m25 hS (hM32A _)).cell rfl) ⟨SM.refl _, rfl⟩⟩) ?_
  refine ed_ (.inl ⟨nofun, rfl, fun x y hS hT hk => dfa (wn rfl) (hT.ev rfl) fo23_0 ⟨SM.refl _, rfl⟩⟩) ?_
  refine ed_ (.inl ⟨nofun, rfl, fun x y hS hT hk => dld (v := (.int .i64 i.op)) (wn rfl) (hk 9 rfl) one3 ((Blk.sm (w := w17.drew) m26 hS (hM32A _)).cell rfl) ⟨SM.refl _, rfl⟩⟩) ?_
  refine ed_ (.inl ⟨nofun, rfl, fun x y hS hT hk => dlr (cs := (insC i)) (wn rfl) (hT.ev rfl) row23 (Blk.sm (w := w17.drew) m26 hS (hM32A _)) ⟨SM.refl _, rfl⟩⟩) ?_
  refine ed_ (.inl ⟨nofun, rfl, fun x y hS hT hk => dcl (wn rfl) ent11 (map1 (show x.eval _ = (.agg (insC i)) from (hk 11 rfl))) (reads_any i y) (fun _ _ ⟨he, hG⟩ => ⟨(.bool (rdB i)), he, SM.grow hG, rfl⟩)⟩) ?_
  refine ed_ (.inl ⟨nofun, rfl, fun x y hS hT hk => dlr (cs := (insC i)) (wn rfl) (hT.ev rfl) row23 (Blk.sm (w := w17.drew) m26 hS (hM32A _)) ⟨SM.refl _, rfl⟩⟩) ?_
  refine ed_ (.inl ⟨nofun, rfl, fun x y hS hT hk => dcl (wn rfl) ent13 (map1 (show x.eval _ = (.agg (insC i)) from (hk 13 rfl))) (writes_any i y) (fun _ _ ⟨he, hG⟩ => ⟨(.bool (wrB i)), he, SM.grow hG, rfl⟩)⟩) ?_
  refine ed_ (.inl ⟨nofun, rfl, fun x y hS hT hk => dfa (wn rfl) (hT.ev rfl) fo23_10 ⟨SM.refl _, rfl⟩⟩) ?_
  refine ed_ (.inl ⟨nofun, rfl, fun x y hS hT hk => dld (v := (.bool i.acq)) (wn rfl) (hk 15 rfl) one4 ((Blk.sm (w := w17.drew) m26 hS (hM32A _)).cell rfl) ⟨SM.refl _, rfl⟩⟩) ?_
  refine ed_ (.inl ⟨nofun, rfl, fun x y hS hT hk => dfa (wn rfl) (hT.ev rfl) fo23_11 ⟨SM.refl _, rfl⟩⟩) ?_
  refine ed_ (.inl ⟨nofun, rfl, fun x y hS hT hk => dld (v := (.bool i.weak)) (wn rfl) (hk 17 rfl) one4 ((Blk.sm (w := w17.drew) m26 hS (hM32A _)).cell rfl) ⟨SM.refl _, rfl⟩⟩) ?_
  refine ed_ (.inl ⟨nofun, rfl, fun x y hS hT hk => dfa (wn rfl) (hT.ev rfl) fo23_12 ⟨SM.refl _, rfl⟩⟩) ?_
  refine ed_ (.inl ⟨nofun, rfl, fun x y hS hT hk => dld (v := (.bool i.rel)) (wn rfl) (hk 19 rfl) one4 ((Blk.sm (w := w17.drew) m26 hS (hM32A _)).cell rfl) ⟨SM.refl _, rfl⟩⟩) ?_
  refine ed_ (.inl ⟨nofun, rfl, fun x y hS hT hk => dfa (wn rfl) (hT.ev rfl) fo23_13 ⟨SM.refl _, rfl⟩⟩) ?_
  refine ed_ (.inl ⟨nofun, rfl, fun x y hS hT hk => dld (v := (.int .i64 i.pred)) (wn rfl) (hk 21 rfl) one3 ((Blk.sm (w := w17.drew) m26 hS (hM32A _)).cell rfl) ⟨SM.refl _, rfl⟩⟩) ?_
  refine ed_ (.inl ⟨nofun, rfl, fun x y hS hT hk => dfa (wn rfl) (hT.ev rfl) fo23_14 ⟨SM.refl _, rfl⟩⟩) ?_
  refine ed_ (.inl ⟨nofun, rfl, fun x y hS hT hk => dld (v := (.int .i64 i.succ)) (wn rfl) (hk 23 rfl) one3 ((Blk.sm (w := w17.drew) m26 hS (hM32A _)).cell rfl) ⟨SM.refl _, rfl⟩⟩) ?_
  refine ed_ (.inl ⟨nofun, rfl, fun x y hS hT hk => dbd (cs := #[.int .i64 0, .int .i64 ((np : Nat) : Int), .int .i64 p, .int .i64 i.op, .int .i64 0, .int .i64 0, .bool (rdB i), .bool (wrB i), .int .i64 0, .int .i64 0, .bool i.acq, .bool i.weak, .bool i.rel, .int .i64 i.pred, .int .i64 i.succ]) (wn rfl) (bp_of (bq_cons (show x.eval _ = (.int .i64 ((np : Nat) : Int)) from (hk 4 rfl)) (bq_cons (show x.eval _ = (.int .i64 p) from (hk 8 rfl)) (bq_cons (show x.eval _ = (.int .i64 i.op) from (hk 10 rfl)) (bq_cons (show x.eval _ = (.bool (rdB i)) from (hk 12 rfl)) (bq_cons (show x.eval _ = (.bool (wrB i)) from (hk 14 rfl)) (bq_cons (show x.eval _ = (.bool i.acq) from (hk 16 rfl)) (bq_cons (show x.eval _ = (.bool i.weak) from (hk 18 rfl)) (bq_cons (show x.eval _ = (.bool i.rel) from (hk 20 rfl)) (bq_cons (show x.eval _ = (.int .i64 i.pred) from (hk 22 rfl)) (bq_cons (show x.eval _ = (.int .i64 i.succ) from (hk 24 rfl)) bq_nil))))))))))) zero52 places52 (by kernel_rfl) ⟨SM.refl _, rfl⟩⟩) ?_
  exact eachD_one
 rintro a33 w34 hA35 ⟨hS37, hC38⟩
 have hA39 : St 31 [(4, (.pointer (some ⟨g16, 0, none⟩))), (30, (.agg #[.int .i64 0, .int .i64 ((np : Nat) : Int), .int .i64 p, .int .i64 i.op, .int .i64 0, .int .i64 0, .bool (rdB i), .bool (wrB i), .int .i64 0, .int .i64 0, .bool i.acq, .bool i.weak, .bool i.rel, .int .i64 i.pred, .int .i64 i.succ]))] a33 := hA35.cut _ (fc (hA35.get 4 _ rfl) (fc (hC38 25 (Nat.le_of_ble_eq_true rfl)) fn_))
 have hG40 : Grow w17 w34 := Grow.trans ((Grow.refl _).drew) (SM.grown (by rw [hM32] at hS37; exact hS37))
 have m41 := m25.grow hG40
 have m42 := m26.grow hG40
 have m43 := m20.grow hG40
 have b44 := blg b27 hG40 b27.size
 have ho45 := owg hG40 ho28
 refine dsr (wn rfl) (hA39.ev rfl) (hA39.ev rfl) row52 m43 rfl rfl ?_
 intro w46 hU47 (m48 : Blk w46 g16 #[.int .i64 0, .int .i64 ((np : Nat) : Int), .int .i64 p, .int .i64 i.op, .int .i64 0, .int .i64 0, .bool (rdB i), .bool (wrB i), .int .i64 0, .int .i64 0, .bool i.acq, .bool i.weak, .bool i.rel, .int .i64 i.pred, .int .i64 i.succ] 52)
 have m49 := m41.upd hU47 n22
 have m50 := m42.upd hU47 n23
 have b51 := hU47.below b44 ge21
 have ho52 := own_upd ho45 hU47 off24
 refine tn_ ?_
 refine wp_ret ?_
 refine retRow (g := g16) (cs := #[.int .i64 0, .int .i64 ((np : Nat) : Int), .int .i64 p, .int .i64 i.op, .int .i64 0, .int .i64 0, .bool (rdB i), .bool (wrB i), .int .i64 0, .int .i64 0, .bool i.acq, .bool i.weak, .bool i.rel, .int .i64 i.pred, .int .i64 i.succ]) rfl hA39 rfl m48 row52 ?_
 exact ⟨rfl, b51⟩
end Go.Proofs.Ytlhompedcphnnaa
/- More on the walk in memory: numbers in range, a slice's tail, two cells stored at once. -/
namespace Go.Proofs.Ytlhompedcphnnaa
open Go.RowKit

def wfI (x : Int) : Prop := x = I (B x)
theorem wf_I (b : BitVec 64) : wfI (I b) := by unfold wfI; rw [B_I]
theorem wf_or {r : Nat → Int} {q x : Int} (hr : ∀ k, wfI (r k)) (hx : wfI x) : wfI (orR r q x) := by 
  unfold orR
  split
  · exact hx
  · exact hr _
theorem wf_0 : wfI 0 := by unfold wfI; rw [show (0 : Int) = I 0#64 from I_zero.symm, B_I]
theorem wf_upd {r : Nat → Int} {j : Nat} {x : Int} (hr : ∀ k, wfI (r k)) (hx : wfI x) : ∀ k, wfI (updR r j x k) := fun k => by 
  unfold updR
  split
  · exact hx
  · exact hr _
theorem place_w (off i n : Int) (w : World) (h1 : wfI off) (h2 : wfI i) : Calls Try.prog 57 #[.int .i64 off, .int .i64 i, .int .i64 n] w fun e w' => e = .returned (.int .i64 (placeR (B off) (B i) n)) ∧ w' = w := by
  have := place_all (B off) (B i) n w; rwa [← h1, ← h2] at this
theorem rplace_w (off i n : Int) (w : World) (h1 : wfI off) (h2 : wfI i) : Calls Try.prog 68 #[.int .i64 off, .int .i64 i, .int .i64 n] w fun e w' => e = .returned (.int .i64 (placeR (B off) (B i) n)) ∧ w' = w := by
  have := rplace_all (B off) (B i) n w; rwa [← h1, ← h2] at this
theorem get_w (x off n : Int) (w : World) (h : wfI x) : Calls Try.prog 58 #[.int .i64 x, .int .i64 off, .int .i64 n] w fun e w' => e = .returned (.int .i64 (I (getR (B x) off n))) ∧ ∃ q, w' = w.drewN q := get_int (B x) x off n h w
theorem rget_w (x off n : Int) (w : World) (h : wfI x) : Calls Try.prog 52 #[.int .i64 x, .int .i64 off, .int .i64 n] w fun e w' => e = .returned (.int .i64 (I (getR (B x) off n))) ∧ w' = w := rget_int (B x) x off n h w
theorem rmw_w (fn old a n : Int) (w : World) (h1 : wfI old) (h2 : wfI a) : Calls Try.prog 67 #[.int .i64 fn, .int .i64 old, .int .i64 a, .int .i64 n] w fun e w' => e = .returned (.int .i64 (I (rmwR fn (B old) (B a) n))) ∧ ∃ q, w' = w.drewN q := by
  have := rmw_any fn (B old) (B a) n w; rwa [← h1, ← h2] at this
theorem rrmw_w (fn old a n : Int) (w : World) (h1 : wfI old) (h2 : wfI a) : Calls Try.prog 54 #[.int .i64 fn, .int .i64 old, .int .i64 a, .int .i64 n] w fun e w' => e = .returned (.int .i64 (I (rmwR fn (B old) (B a) n))) ∧ w' = w := by
  have := rrmw_any fn (B old) (B a) n w; rwa [← h1, ← h2] at this
theorem regOr_any (g : Nat) (p : Int) (r : Nat → Int) (rd ev pa : Value) (q x : Int) (w : World) (hb : Blk w g (walkC p r rd ev pa) 62) (hq : ronB q = true) : Calls Try.prog 47 #[.pointer (some ⟨g, 0, none⟩), .int .i64 q, .int .i64 x] w fun e w' => e = .returned (.int .i64 (orR r q x)) ∧ Grow w w' := by
  by_cases h : q = -1
  · subst h; have := regOr_none g p r rd ev pa x w hb; simpa [orR] using this
  · have h2 : 0 ≤ q ∧ q < 8 := by unfold ronB regB at hq; simp [h] at hq; omega
    obtain ⟨j, rfl⟩ := Int.eq_ofNat_of_zero_le h2.1
    have := regOr_reg g p r rd ev pa j x w hb (by omega)
    have e : orR r (j : Int) x = r j := by unfold orR; simp
    rw [e]; exact this
def intE (x : Int) : List Value := [.int .i64 x]
section
variable {P : Program} {ops : Array Oper} {a : Act} {w : World} {K : Value → World → Prop} {d : Option Tmp} {ty : TypeId} {pos : String} {af : Array Edge} {gd : Option (Nat × Bool)} {v : Value}
theorem d_tail {α : Type} {enc : α → List Value} {t e s B' : Nat} {x : Operand} {y : α} {l : List α} (hw : Region.wanted { dst := d, op := .slice t x (some (.const (.int .i64 1))) none none, type := ty, pos := pos, after := af, guard := gd } (yielded ops a.tmps) = true) (hx : a.eval x = v) (ht : sliceB P t e s = true) (hs : Sl enc s B' w v (y :: l))
    (h : ∀ v', (∀ w', Sl enc s B' w' v (y :: l) → Sl enc s B' w' v' l) → K v' w) : Does P ops { dst := d, op := .slice t x (some (.const (.int .i64 1))) none none, type := ty, pos := pos, after := af, guard := gd } a w K := by
  obtain ⟨ao, cap, hv, hlc, _⟩ := hs
  obtain ⟨hu, hz⟩ := slice_facts ht
  simp only [List.length_cons] at hv hlc
  refine does_val (v := .slice (if cap = 1 then ao else ao.map (·.add (1 * s))) l.length (cap - 1)) hw ?_ (h _ fun w' hs' => ?_)
  · have hsb : (Instr.sliceBounds true (l.length + 1) cap (some (.int .i64 1)) none none).run P w = .ok (1, l.length + 1, cap) w := by
      simp [Instr.sliceBounds, run_sliceBound (P := P) w .i64 1 (l.length + 1) .sliceB (by omega) (by omega)]
    have hev : a.eval (.const (.int .i64 1)) = .int .i64 1 := rfl
    unfold execOp
    simp only [hx, hv, hev, Option.map_some, Option.map_none, Instr.sliceAt, Instr.slice, Sem.run_bind, run_underlying hu, hsb, Result.andThen_ok, run_size hz, Sem.run_pure]
    rfl
  · obtain ⟨ao', cap', hv', _, he'⟩ := hs'
    simp only [List.length_cons] at hv'
    rw [hv] at hv'
    injection hv' with e1 _ e3
    subst e1; subst e3
    refine ⟨_, cap - 1, rfl, by omega, fun j z hz' => ?_⟩
    obtain ⟨b, o, hao, hb, hr⟩ := he' (j + 1) z (by simpa using hz')
    have hj := get_lt hz'
    refine ⟨b, o + s, ?_, hb, by rw [show o + s + j * s = o + (j + 1) * s by rw [Nat.add_mul, Nat.one_mul]; omega]; exact hr⟩
    rw [if_neg (by omega), hao]
    simp [Addr.add_mid]
theorem Blk.set2 {g k : Nat} {cs : Array Value} {t : TypeId} (h : Blk w g cs t) (u v : Value) : Blk ((w.setCell ⟨g, k, none⟩ u).setCell ⟨g, k + 1, none⟩ v) g ((cs.setIfInBounds k u).setIfInBounds (k + 1) v) t := (h.set u).set v
theorem Upd.trans {g : Nat} {a b c : World} (h : Upd g a b) (k : Upd g b c) : Upd g a c := ⟨k.os.trans h.os, k.tape.trans h.tape, k.output.trans h.output, k.size.trans h.size, fun j hj => (k.block j hj).trans (h.block j hj)⟩
theorem d_store2 {t t' : TypeId} {x y : Operand} {g k : Nat} {cs : Array Value} {u0 u1 : Value} (hw : Region.wanted { dst := d, op := .store t x y, type := ty, pos := pos, after := af, guard := gd } (yielded ops a.tmps) = true) (hx : a.eval x = .pointer (some ⟨g, k, none⟩)) (hy : a.eval y = .agg #[u0, u1])
    (h1 : rowB P t 2 = true) (ho : u0.oneCell' = true) (ho1 : u1.oneCell' = true) (hb : Blk w g cs t') (hk : k + 1 < cs.size) (h : ∀ w', Upd g w w' → Blk w' g ((cs.setIfInBounds k u0).setIfInBounds (k + 1) u1) t' → K undef w') :
    Does P ops { dst := d, op := .store t x y, type := ty, pos := pos, after := af, guard := gd } a w K := by
  have hth : w.there g k 2 := fun j hj => ⟨by rw [hb.cell (v := cs[k + j]) (by simp)]; rfl, hb.frozen _⟩
  have hr := run_storeAt_mid (P := P) w g k t #[u0, u1] hth (row_facts h1).2 (by simp [ho, ho1])
  refine does_unit (w' := (w.setCell ⟨g, k, none⟩ u0).setCell ⟨g, k + 1, none⟩ u1) hw ?_ (h _ ((upd_setCell w g k u0).trans (upd_setCell _ g (k + 1) u1)) (hb.set2 u0 u1))
  unfold execOp
  simp only [hx, hy, Sem.run_bind, hr, Result.andThen_ok, Sem.run_pure]
  rfl
end
theorem Sl.via {α : Type} {enc : α → List Value} {s B' : Nat} {a b c : World} {v : Value} {l : List α} (h : Sl enc s B' b v l) (hb : Below B' a b) (hc : Below B' a c) : Sl enc s B' c v l := by
  obtain ⟨ao, cap, hv, hlc, he⟩ := h
  refine ⟨ao, cap, hv, hlc, fun j x hx => ?_⟩
  obtain ⟨b', o, h1, h2, h3⟩ := he j x hx
  exact ⟨b', o, h1, h2, fun k u hu => by rw [hc.cell (p := ⟨b', _, none⟩) h2, ← hb.cell (p := ⟨b', _, none⟩) h2]; exact h3 k u hu⟩
def evE (l : List Ev) : List Value := l.flatMap fun e => (evC e).toList
def paE (l : List Int) : List Value := l.map fun x => Value.int .i64 x
theorem evE_snoc (l : List Ev) (e : Ev) : evE l ++ (evC e).toList = evE (l ++ [e]) := by simp [evE]
theorem paE_snoc (l : List Int) (x : Int) : paE l ++ [Value.int .i64 x] = paE (l ++ [x]) := by simp [paE]
def spanM (i : Ins) (r : Nat → Int) : Int := maskR (placeR (B i.off) (B (orR r i.index 0)) i.size) i.size
def acc5 (i : Ins) (r : Nat → Int) (n p : Int) : Ev := ⟨0, n, p, 5, i.loc, spanM i r, false, true, 0, I (getR (B (orR r i.a i.imm)) 0 i.size), i.acq, i.weak, i.rel, i.pred, i.succ⟩
def acc4 (i : Ins) (r : Nat → Int) (n p x : Int) : Ev := ⟨0, n, p, 4, i.loc, spanM i r, true, false, I (getR (B x) 0 i.size), 0, i.acq, i.weak, i.rel, i.pred, i.succ⟩
def acc6 (i : Ins) (r : Nat → Int) (k : Nat) (n p x : Int) : Ev := ⟨0, n, p, 6, i.loc, spanM i r, true, true, I (getR (B x) 0 i.size), I (rmwR i.fn (B (I (getR (B x) 0 i.size))) (B (r k)) i.size), i.acq, i.weak, i.rel, i.pred, i.succ⟩
theorem one_slice {v : Value} {n : Nat} (h : ∃ ao cap, v = .slice ao n cap) : v.oneCell' = true := by obtain ⟨_, _, rfl⟩ := h; rfl
def brP (r : Nat → Int) (k : Nat) (i : Ins) (p : Int) : Int := if (r k == 0) = i.zero then i.to else p + 1
theorem b_eqb {P : Program} {t : TypeId} (x y : Operand) (a b r : Bool) (w : World) (ht : P.underlying t = some .bool) (h : (a == b) = r) : (eqGuard .eql t x y (.bool a) (.bool b)).run P w = .ok () w ∧ (binOp .eql t (.bool a) (.bool b)).run P w = .ok (.bool r) w := by
  subst h; exact ⟨by simp [eqGuard], run_eql_bool w t a b ht⟩
/-- a walk under way in memory: its struct in block g, its rows in memory from B on, what it reads below B -/
structure WS (B g : Nat) (w : World) (p : Int) (r : Nat → Int) (rds : List Int) (evs : List Ev) (path : List Int) (rd ev pa : Value) : Prop where
  hb : Blk w g (walkC p r rd ev pa) 62
  hge : B ≤ g
  hrd : Sl intE 1 B w rd rds
  hev : w.ownsRow B 52 15 ev evs.length (evE evs)
  hpa : w.ownsRow B 3 1 pa path.length (paE path)
  oe : ev.ownBlock ≠ some g
  op : pa.ownBlock ≠ some g
  ap : ∀ k, pa.ownBlock = some k → ev.ownBlock ≠ some k
end Go.Proofs.Ytlhompedcphnnaa
/- What a write writes. -/
namespace Go.Proofs.Ytlhompedcphnnaa
open Go.RowKit
set_option linter.unusedSimpArgs false
set_option linter.unusedVariables false
set_option maxHeartbeats 4000000 in
set_option maxRecDepth 4000 in
theorem written_5 (g : Nat) (p : Int) (r : Nat → Int) (rd ev pa : Value) (i : Ins) (o : Int) (w : World) (hb : Blk w g (walkC p r rd ev pa) 62) (hr : ∀ k, wfI (r k)) (ha : ronB i.a = true) (himm : wfI i.imm) : Calls Try.prog 59 #[.pointer (some ⟨g, 0, none⟩), .agg (insC ⟨5, i.dst, i.a, i.b, i.imm, i.loc, i.off, i.index, i.size, i.fn, i.acq, i.weak, i.rel, i.pred, i.succ, i.to, i.zero⟩), .int .i64 o] w fun e w' => e = .returned (.int .i64 (I (getR (B (orR r i.a i.imm)) 0 i.size))) ∧ Grow w w' := by
 have b0 : Below w.heap.size w w := Below.refl _ _
 refine enter (n := 32) Try.func59 rfl rfl (Nat.le_of_ble_eq_true rfl) ?_
 intro a1 hA2
 refine wp_seq ?_
 refine wp_region_lit ?_
 refine qs hA2 rfl (d_box (wn rfl) (hA2.ev rfl) ?_)
 intro g3 w4 eg5 hG6 (m7 : Blk w4 g3 (insC ⟨5, i.dst, i.a, i.b, i.imm, i.loc, i.off, i.index, i.size, i.fn, i.acq, i.weak, i.rel, i.pred, i.succ, i.to, i.zero⟩) 23)
 have ge8 : w.heap.size ≤ g3 := eg5 ▸ b0.size
 have n9 : g ≠ g3 := fun h => Nat.lt_irrefl _ ((h.trans eg5) ▸ hb.lt)
 have m10 := hb.grow hG6
 have b11 := blg b0 hG6 b0.size
 intro a12 hA13
 refine qs hA13 rfl (das (wn rfl) (hA13.ev rfl) ?_)
 intro a14 hA15
 refine qe_ ?_
 refine tn_ ?_
 refine wp_seq ?_
 refine wp_seq ?_
 refine wp_region_lit ?_
 refine qs hA15 rfl (dfa (wn rfl) (hA15.ev rfl) fo23_0 ?_)
 intro a16 hA17
 refine qs hA17 rfl (dld (v := (.int .i64 5)) (wn rfl) (hA17.ev rfl) one3 (m7.cell rfl) ?_)
 intro a18 hA19
 refine qs hA19 rfl (dbn (wn rfl) (hA19.ev rfl) (hA19.ev rfl) (b_eq _ _ 5 6 false _ rfl) ?_)
 intro a20 hA21
 refine qe_ ?_
 refine tn_ ?_
 refine c_false hA21 rfl ?_
 refine wp_skip ?_
 refine tn_ ?_
 refine wp_seq ?_
 have hA22 : St 32 [(0, (.pointer (some ⟨g, 0, none⟩))), (4, (.pointer (some ⟨g3, 0, none⟩)))] a20 := hA21.sub rfl
 let M23 : Nat → Option (Array Value) := fun _ => none
 have hM23 : M23 = fun _ => none := rfl
 clear_value M23
 have hM24 : M23 g = none := (congrFun hM23 g)
 have hM25 : M23 g3 = none := (congrFun hM23 g3)
 have hM23B : ∀ k, k < w.heap.size → M23 k = none := (fun k hk => (congrFun hM23 k))
 refine drawn (S := SM M23) (tabL [cv (.pointer (some ⟨g, 0, none⟩)), cv (.pointer (some ⟨g3, 2, none⟩)), cv (.int .i64 i.a), cv (.pointer (some ⟨g3, 4, none⟩)), cv (.int .i64 i.imm), cv (.int .i64 (orR r i.a i.imm)), cv (.pointer (some ⟨g3, 8, none⟩)), cv (.int .i64 i.size), cv (.int .i64 (I (getR (B (orR r i.a i.imm)) 0 i.size))), cv (.int .i64 (I (getR (B (orR r i.a i.imm)) 0 i.size)))]) mixedY SM.refl SM.trans SM.drew hA22 (by kernel_rfl) ?_ ?_
 ·skip
  refine ec_ (fun x y hS hT hk => dmv (wn rfl) (hT.ev rfl) ⟨SM.refl _, rfl⟩) ?_
  refine ec_ (fun x y hS hT hk => dfa (wn rfl) (hT.ev rfl) fo23_2 ⟨SM.refl _, rfl⟩) ?_
  refine ec_ (fun x y hS hT hk => dld (v := (.int .i64 i.a)) (wn rfl) (hk 1 rfl) one3 ((Blk.sm (w := w4.drew) m7 hS hM25).cell rfl) ⟨SM.refl _, rfl⟩) ?_
  refine ec_ (fun x y hS hT hk => dfa (wn rfl) (hT.ev rfl) fo23_4 ⟨SM.refl _, rfl⟩) ?_
  refine ec_ (fun x y hS hT hk => dld (v := (.int .i64 i.imm)) (wn rfl) (hk 3 rfl) one3 ((Blk.sm (w := w4.drew) m7 hS hM25).cell rfl) ⟨SM.refl _, rfl⟩) ?_
  refine ec_ (fun x y hS hT hk => dcl (wn rfl) ent47 (map3 (show x.eval _ = (.pointer (some ⟨g, 0, none⟩)) from (hk 0 rfl)) (show x.eval _ = (.int .i64 i.a) from (hk 2 rfl)) (show x.eval _ = (.int .i64 i.imm) from (hk 4 rfl))) (regOr_any g p r rd ev pa i.a i.imm y (Blk.sm (w := w4.drew) m10 hS hM24) ha) (fun _ _ ⟨he, hG⟩ => ⟨(.int .i64 (orR r i.a i.imm)), he, SM.grow hG, rfl⟩)) ?_
  refine ec_ (fun x y hS hT hk => dfa (wn rfl) (hT.ev rfl) fo23_8 ⟨SM.refl _, rfl⟩) ?_
  refine ec_ (fun x y hS hT hk => dld (v := (.int .i64 i.size)) (wn rfl) (hk 6 rfl) one3 ((Blk.sm (w := w4.drew) m7 hS hM25).cell rfl) ⟨SM.refl _, rfl⟩) ?_
  refine ec_ (fun x y hS hT hk => dcl (wn rfl) ent58 (map3 (show x.eval _ = (.int .i64 (orR r i.a i.imm)) from (hk 5 rfl)) (show x.eval _ = (.int .i64 0) from (hT.ev rfl)) (show x.eval _ = (.int .i64 i.size) from (hk 7 rfl))) (get_w (orR r i.a i.imm) 0 i.size y (wf_or hr himm)) (fun _ _ ⟨he, q, hw⟩ => ⟨(.int .i64 (I (getR (B (orR r i.a i.imm)) 0 i.size))), he, hw ▸ SM.grow ((Grow.refl _).drewN q), rfl⟩)) ?_
  refine ec_ (fun x y hS hT hk => das (wn rfl) (hk 8 rfl) ⟨SM.refl _, rfl⟩) ?_
  exact each_nil
 intro f26 a27 w28 hS29 hC30 hA31
 have hA32 : St 32 [(6, (.int .i64 (I (getR (B (orR r i.a i.imm)) 0 i.size))))] a27 := hA31.cut _ (fc ((hA31.get 6 _ rfl).trans (hC30 9 (Nat.le_of_ble_eq_true rfl))) fn_)
 have m33 := m10.sm hS29 hM24
 have m34 := m7.sm hS29 hM25
 have b35 := hS29.below b11 b11.size hM23B
 refine tn_ ?_
 refine wp_ret ?_
 refine ret1 rfl hA32 (v := (.int .i64 (I (getR (B (orR r i.a i.imm)) 0 i.size)))) rfl ?_
 exact ⟨rfl, b35⟩
set_option maxHeartbeats 4000000 in
set_option maxRecDepth 4000 in
theorem written_6 (g : Nat) (p : Int) (r : Nat → Int) (rd ev pa : Value) (i : Ins) (k : Nat) (o : Int) (w : World) (hb : Blk w g (walkC p r rd ev pa) 62) (hr : ∀ k, wfI (r k)) (ho : wfI o) (hk : k < 8) : Calls Try.prog 59 #[.pointer (some ⟨g, 0, none⟩), .agg (insC ⟨6, i.dst, ((k : Nat) : Int), i.b, i.imm, i.loc, i.off, i.index, i.size, i.fn, i.acq, i.weak, i.rel, i.pred, i.succ, i.to, i.zero⟩), .int .i64 o] w fun e w' => e = .returned (.int .i64 (I (rmwR i.fn (B o) (B (r k)) i.size))) ∧ Grow w w' := by
 have b0 : Below w.heap.size w w := Below.refl _ _
 refine enter (n := 32) Try.func59 rfl rfl (Nat.le_of_ble_eq_true rfl) ?_
 intro a1 hA2
 refine wp_seq ?_
 refine wp_region_lit ?_
 refine qs hA2 rfl (d_box (wn rfl) (hA2.ev rfl) ?_)
 intro g3 w4 eg5 hG6 (m7 : Blk w4 g3 (insC ⟨6, i.dst, ((k : Nat) : Int), i.b, i.imm, i.loc, i.off, i.index, i.size, i.fn, i.acq, i.weak, i.rel, i.pred, i.succ, i.to, i.zero⟩) 23)
 have ge8 : w.heap.size ≤ g3 := eg5 ▸ b0.size
 have n9 : g ≠ g3 := fun h => Nat.lt_irrefl _ ((h.trans eg5) ▸ hb.lt)
 have m10 := hb.grow hG6
 have b11 := blg b0 hG6 b0.size
 intro a12 hA13
 refine qs hA13 rfl (das (wn rfl) (hA13.ev rfl) ?_)
 intro a14 hA15
 refine qe_ ?_
 refine tn_ ?_
 refine wp_seq ?_
 refine wp_seq ?_
 refine wp_region_lit ?_
 refine qs hA15 rfl (dfa (wn rfl) (hA15.ev rfl) fo23_0 ?_)
 intro a16 hA17
 refine qs hA17 rfl (dld (v := (.int .i64 6)) (wn rfl) (hA17.ev rfl) one3 (m7.cell rfl) ?_)
 intro a18 hA19
 refine qs hA19 rfl (dbn (wn rfl) (hA19.ev rfl) (hA19.ev rfl) (b_eq _ _ 6 6 true _ rfl) ?_)
 intro a20 hA21
 refine qe_ ?_
 refine tn_ ?_
 refine c_true hA21 rfl ?_
 refine wp_seq ?_
 have hA22 : St 32 [(0, (.pointer (some ⟨g, 0, none⟩))), (2, (.int .i64 o)), (4, (.pointer (some ⟨g3, 0, none⟩)))] a20 := hA21.sub rfl
 let M23 : Nat → Option (Array Value) := fun _ => none
 have hM23 : M23 = fun _ => none := rfl
 clear_value M23
 have hM24 : M23 g = none := (congrFun hM23 g)
 have hM25 : M23 g3 = none := (congrFun hM23 g3)
 have hM23B : ∀ k, k < w.heap.size → M23 k = none := (fun k hk => (congrFun hM23 k))
 refine drawn (S := SM M23) (tabL [cv (.pointer (some ⟨g3, 9, none⟩)), cv (.int .i64 i.fn), cv (.int .i64 o), cv (.pointer (some ⟨g, 0, none⟩)), cv (.pointer (some ⟨g3, 2, none⟩)), cv (.int .i64 ((k : Nat) : Int)), cv (.pointer (some ⟨g, 0, none⟩)), cv (.pointer (some ⟨g, 1, none⟩)), cv (.pointer (some ⟨g, 1 + k, none⟩)), cv (.int .i64 (r k)), cv (.pointer (some ⟨g3, 8, none⟩)), cv (.int .i64 i.size), cv (.int .i64 (I (rmwR i.fn (B o) (B (r k)) i.size))), cv (.int .i64 (I (rmwR i.fn (B o) (B (r k)) i.size)))]) mixedY SM.refl SM.trans SM.drew hA22 (by kernel_rfl) ?_ ?_
 ·skip
  refine ec_ (fun x y hS hT hk => dfa (wn rfl) (hT.ev rfl) fo23_9 ⟨SM.refl _, rfl⟩) ?_
  refine ec_ (fun x y hS hT hk => dld (v := (.int .i64 i.fn)) (wn rfl) (hk 0 rfl) one3 ((Blk.sm (w := w4.drew) m7 hS hM25).cell rfl) ⟨SM.refl _, rfl⟩) ?_
  refine ec_ (fun x y hS hT hk => dmv (wn rfl) (hT.ev rfl) ⟨SM.refl _, rfl⟩) ?_
  refine ec_ (fun x y hS hT hk => dmv (wn rfl) (hT.ev rfl) ⟨SM.refl _, rfl⟩) ?_
  refine ec_ (fun x y hS hT hk => dfa (wn rfl) (hT.ev rfl) fo23_2 ⟨SM.refl _, rfl⟩) ?_
  refine ec_ (fun x y hS hT hk => dld (v := (.int .i64 ((k : Nat) : Int))) (wn rfl) (hk 4 rfl) one3 ((Blk.sm (w := w4.drew) m7 hS hM25).cell rfl) ⟨SM.refl _, rfl⟩) ?_
  refine ec_ (fun x y hS hT hk => dnc (wn rfl) (hk 3 rfl) ⟨SM.refl _, rfl⟩) ?_
  refine ec_ (fun x y hS hT hk => dfa (wn rfl) (hk 6 rfl) fo62_1 ⟨SM.refl _, rfl⟩) ?_
  refine ec_ (fun x y hS hT hk => dix (j := k) (p := 1 + k) (wn rfl) (hk 7 rfl) (hk 5 rfl) arr43 (by omega) (by omega) ⟨SM.refl _, rfl⟩) ?_
  refine ec_ (fun x y hS hT hk => dld (v := (.int .i64 (r k))) (wn rfl) (hk 8 rfl) one3 ((Blk.sm (w := w4.drew) m10 hS hM24).cell (walk_get (by omega))) ⟨SM.refl _, rfl⟩) ?_
  refine ec_ (fun x y hS hT hk => dfa (wn rfl) (hT.ev rfl) fo23_8 ⟨SM.refl _, rfl⟩) ?_
  refine ec_ (fun x y hS hT hk => dld (v := (.int .i64 i.size)) (wn rfl) (hk 10 rfl) one3 ((Blk.sm (w := w4.drew) m7 hS hM25).cell rfl) ⟨SM.refl _, rfl⟩) ?_
  refine ec_ (fun x y hS hT hk => dcl (wn rfl) ent67 (map4 (show x.eval _ = (.int .i64 i.fn) from (hk 1 rfl)) (show x.eval _ = (.int .i64 o) from (hk 2 rfl)) (show x.eval _ = (.int .i64 (r k)) from (hk 9 rfl)) (show x.eval _ = (.int .i64 i.size) from (hk 11 rfl))) (rmw_w i.fn o (r k) i.size y ho (hr k)) (fun _ _ ⟨he, q, hw⟩ => ⟨(.int .i64 (I (rmwR i.fn (B o) (B (r k)) i.size))), he, hw ▸ SM.grow ((Grow.refl _).drewN q), rfl⟩)) ?_
  refine ec_ (fun x y hS hT hk => das (wn rfl) (hk 12 rfl) ⟨SM.refl _, rfl⟩) ?_
  exact each_nil
 intro f26 a27 w28 hS29 hC30 hA31
 have hA32 : St 32 [(0, (.pointer (some ⟨g, 0, none⟩))), (4, (.pointer (some ⟨g3, 0, none⟩))), (6, (.int .i64 (I (rmwR i.fn (B o) (B (r k)) i.size))))] a27 := hA31.cut _ (fc (hA31.get 0 _ rfl) (fc (hA31.get 4 _ rfl) (fc ((hA31.get 6 _ rfl).trans (hC30 13 (Nat.le_of_ble_eq_true rfl))) fn_)))
 have m33 := m10.sm hS29 hM24
 have m34 := m7.sm hS29 hM25
 have b35 := hS29.below b11 b11.size hM23B
 refine tn_ ?_
 refine wp_ret ?_
 refine t_ret ?_
 refine ret1 rfl hA32 (v := (.int .i64 (I (rmwR i.fn (B o) (B (r k)) i.size)))) rfl ?_
 exact ⟨rfl, b35⟩
end Go.Proofs.Ytlhompedcphnnaa
/- A step of the walk. -/
namespace Go.Proofs.Ytlhompedcphnnaa
open Go.RowKit
set_option linter.unusedSimpArgs false
set_option linter.unusedVariables false
set_option maxHeartbeats 4000000 in
set_option maxRecDepth 4000 in
theorem step_1 (Bd g : Nat) (p : Int) (r : Nat → Int) (rd ev pa : Value) (i : Ins) (d : Nat) (rds : List Int) (evs : List Ev) (path : List Int) (w : World) (hB : Bd ≤ w.heap.size) (hW : WS Bd g w p r rds evs path rd ev pa) (hne : evs.length ≤ 1000) (hnp : path.length ≤ 1000) (hr : ∀ k, wfI (r k)) (hp : 0 ≤ p) (hp2 : p ≤ 1000) (hd : d < 8) : Calls Try.prog 36 #[.pointer (some ⟨g, 0, none⟩), .agg (insC ⟨1, ((d : Nat) : Int), i.a, i.b, i.imm, i.loc, i.off, i.index, i.size, i.fn, i.acq, i.weak, i.rel, i.pred, i.succ, i.to, i.zero⟩)] w fun e w' => e = .returned (.bool true) ∧ Below Bd w w' ∧ ∃ rd' ev' pa', WS Bd g w' (p + 1) (updR r d i.imm) rds evs (path ++ [p]) rd' ev' pa' := by
 obtain ⟨hb, hge, hrd, hev, hpa, oe, op_, ap⟩ := hW
 have ap2 : ∀ k, ev.ownBlock = some k → pa.ownBlock ≠ some k := fun k h1 h2 => ap k h2 h1
 have b0 : Below Bd w w := Below.refl _ _
 refine enter (n := 117) Try.func36 rfl rfl (Nat.le_of_ble_eq_true rfl) ?_
 intro a1 hA2
 refine wp_seq ?_
 refine wp_region_lit ?_
 refine qs hA2 rfl (d_box (wn rfl) (hA2.ev rfl) ?_)
 intro g3 w4 eg5 hG6 (m7 : Blk w4 g3 (insC ⟨1, ((d : Nat) : Int), i.a, i.b, i.imm, i.loc, i.off, i.index, i.size, i.fn, i.acq, i.weak, i.rel, i.pred, i.succ, i.to, i.zero⟩) 23)
 have ge8 : Bd ≤ g3 := eg5 ▸ (Nat.le_trans hB b0.size)
 have n9 : g ≠ g3 := fun h => Nat.lt_irrefl _ ((h.trans eg5) ▸ hb.lt)
 have off10 := own_new hev eg5
 have off11 := own_new hpa eg5
 have m12 := hb.grow hG6
 have b13 := blg b0 hG6 (Nat.le_trans hB b0.size)
 have ho14 := owg hG6 hev
 have ho15 := owg hG6 hpa
 intro a16 hA17
 refine qs hA17 rfl (das (wn rfl) (hA17.ev rfl) ?_)
 intro a18 hA19
 refine qe_ ?_
 refine tn_ ?_
 refine wp_seq ?_
 refine wp_region_lit ?_
 refine qs hA19 rfl (dmv (wn rfl) (hA19.ev rfl) ?_)
 intro a20 hA21
 refine qs hA21 rfl (dnc (wn rfl) (hA21.ev rfl) ?_)
 intro a22 hA23
 refine qs hA23 rfl (dfa (wn rfl) (hA23.ev rfl) fo62_0 ?_)
 intro a24 hA25
 refine qs hA25 rfl (dld (v := (.int .i64 p)) (wn rfl) (hA25.ev rfl) one3 (m12.cell rfl) ?_)
 intro a26 hA27
 refine qs hA27 rfl (dbn (wn rfl) (hA27.ev rfl) (hA27.ev rfl) (b_add _ _ p 1 _ (by omega) (by omega)) ?_)
 intro a28 hA29
 refine qs hA29 rfl (das (wn rfl) (hA29.ev rfl) ?_)
 intro a30 hA31
 refine qe_ ?_
 refine tn_ ?_
 refine wp_seq ?_
 refine wp_seq ?_
 refine wp_region_lit ?_
 refine qs hA31 rfl (dfa (wn rfl) (hA31.ev rfl) fo23_0 ?_)
 intro a32 hA33
 refine qs hA33 rfl (dld (v := (.int .i64 1)) (wn rfl) (hA33.ev rfl) one3 (m7.cell rfl) ?_)
 intro a34 hA35
 refine qe_ ?_
 refine tn_ ?_
 refine wp_block ?_
 refine wp_seq ?_
 refine wp_region_lit ?_
 refine qs hA35 rfl (dbn (wn rfl) (hA35.ev rfl) (hA35.ev rfl) (b_eq _ _ 1 1 true _ rfl) ?_)
 intro a36 hA37
 refine qs hA37 rfl (das (wn rfl) (hA37.ev rfl) ?_)
 intro a38 hA39
 refine qe_ ?_
 refine tn_ ?_
 refine c_true hA39 rfl ?_
 have hA40 : St 117 [(0, (.pointer (some ⟨g, 0, none⟩))), (3, (.pointer (some ⟨g3, 0, none⟩))), (4, (.bool false)), (5, (.int .i64 (p + 1)))] a38 := hA39.sub rfl
 let M41 : Nat → Option (Array Value) := fun _ => none
 have hM41 : M41 = fun _ => none := rfl
 clear_value M41
 have hM41A : ∀ k, M41 k = none := fun k => congrFun hM41 k
 have hM41B : ∀ k, k < Bd → M41 k = none := fun k _ => hM41A k
 refine drawnL (S := SM M41) rfl (tabL [cv (.pointer (some ⟨g, 0, none⟩)), cv (.pointer (some ⟨g3, 1, none⟩)), cv (.int .i64 ((d : Nat) : Int)), cv (.pointer (some ⟨g3, 4, none⟩)), cv (.int .i64 i.imm), cv (.pointer (some ⟨g, 0, none⟩)), cv (.pointer (some ⟨g, 1, none⟩)), cv (.pointer (some ⟨g, 1 + d, none⟩))]) none (fun _ => none) (fun _ _ => True) [7, 4, 0, 1, 2, 3, 6, 5] [] mixedY SM.refl SM.trans hA40 (by kernel_rfl) (by kernel_rfl) (fun i v u w h => by cases h) ?_ ?_
 ·skip
  refine ed_ (.inl ⟨nofun, rfl, fun x y hS hT hk => dmv (wn rfl) (hT.ev rfl) ⟨SM.refl _, rfl⟩⟩) ?_
  refine ed_ (.inl ⟨nofun, rfl, fun x y hS hT hk => dfa (wn rfl) (hT.ev rfl) fo23_1 ⟨SM.refl _, rfl⟩⟩) ?_
  refine ed_ (.inl ⟨nofun, rfl, fun x y hS hT hk => dld (v := (.int .i64 ((d : Nat) : Int))) (wn rfl) (hk 1 rfl) one3 ((Blk.sm (w := w4.drew) m7 hS (hM41A _)).cell rfl) ⟨SM.refl _, rfl⟩⟩) ?_
  refine ed_ (.inl ⟨nofun, rfl, fun x y hS hT hk => dfa (wn rfl) (hT.ev rfl) fo23_4 ⟨SM.refl _, rfl⟩⟩) ?_
  refine ed_ (.inl ⟨nofun, rfl, fun x y hS hT hk => dld (v := (.int .i64 i.imm)) (wn rfl) (hk 3 rfl) one3 ((Blk.sm (w := w4.drew) m7 hS (hM41A _)).cell rfl) ⟨SM.refl _, rfl⟩⟩) ?_
  refine ed_ (.inl ⟨nofun, rfl, fun x y hS hT hk => dnc (wn rfl) (hk 0 rfl) ⟨SM.refl _, rfl⟩⟩) ?_
  refine ed_ (.inl ⟨nofun, rfl, fun x y hS hT hk => dfa (wn rfl) (hk 5 rfl) fo62_1 ⟨SM.refl _, rfl⟩⟩) ?_
  refine ed_ (.inl ⟨nofun, rfl, fun x y hS hT hk => dix (j := d) (p := 1 + d) (wn rfl) (hk 6 rfl) (hk 2 rfl) arr43 (by omega) (by omega) ⟨SM.refl _, rfl⟩⟩) ?_
  exact eachD_one
 rintro a42 w43 hA44 ⟨hS46, hC47⟩
 have hA48 : St 117 [(0, (.pointer (some ⟨g, 0, none⟩))), (4, (.bool false)), (5, (.int .i64 (p + 1))), (19, (.int .i64 i.imm)), (22, (.pointer (some ⟨g, 1 + d, none⟩)))] a42 := hA44.cut _ (fc (hA44.get 0 _ rfl) (fc (hA44.get 4 _ rfl) (fc (hA44.get 5 _ rfl) (fc (hC47 4 (Nat.le_of_ble_eq_true rfl)) (fc (hC47 7 (Nat.le_of_ble_eq_true rfl)) fn_)))))
 have hG49 : Grow w4 w43 := Grow.trans ((Grow.refl _).drew) (SM.grown (by rw [hM41] at hS46; exact hS46))
 have m50 := m12.grow hG49
 have m51 := m7.grow hG49
 have b52 := blg b13 hG49 (Nat.le_trans hB b13.size)
 have ho53 := owg hG49 ho14
 have ho54 := owg hG49 ho15
 refine dst_ (v := (.int .i64 i.imm)) (wn rfl) (hA48.ev rfl) (hA48.ev rfl) one3 rfl m50 (by rw [walk_size]; omega) ?_
 intro w55 hU56 m57
 rw [walk_set (by omega)] at m57
 have m58 := m51.upd hU56 (Ne.symm n9)
 have b59 := hU56.below b52 hge
 have ho60 := own_upd ho53 hU56 oe
 have ho61 := own_upd ho54 hU56 op_
 refine i_norm ?_
 refine tn_ ?_
 refine wp_seq ?_
 have hA62 : St 117 [(0, (.pointer (some ⟨g, 0, none⟩))), (4, (.bool false)), (5, (.int .i64 (p + 1)))] a42 := hA48.sub rfl
 let M63 : Nat → Option (Array Value) := fun _ => none
 have hM63 : M63 = fun _ => none := rfl
 clear_value M63
 have hM63A : ∀ k, M63 k = none := fun k => congrFun hM63 k
 have hM63B : ∀ k, k < Bd → M63 k = none := fun k _ => hM63A k
 refine drawnL (S := SM M63) rfl (tabQ [some (.pointer (some ⟨g, 0, none⟩)), some (.pointer (some ⟨g, 0, none⟩)), some (.pointer (some ⟨g, 0, none⟩)), some (.pointer (some ⟨g, 11, none⟩)), none, some (.pointer (some ⟨g, 0, none⟩)), some (.pointer (some ⟨g, 0, none⟩)), some (.pointer (some ⟨g, 0, none⟩)), none, none, none, some (.pointer (some ⟨g, 0, none⟩)), some (.pointer (some ⟨g, 11, none⟩))] [cv (.pointer (some ⟨g, 0, none⟩)), cv (.pointer (some ⟨g, 0, none⟩)), cv (.pointer (some ⟨g, 0, none⟩)), cv (.pointer (some ⟨g, 11, none⟩)), cv pa, cv (.pointer (some ⟨g, 0, none⟩)), cv (.pointer (some ⟨g, 0, none⟩)), cv (.pointer (some ⟨g, 0, none⟩)), cv (.int .i64 p), cs1 M63 hM63A #[.int .i64 p] 3, cfree, cv (.pointer (some ⟨g, 0, none⟩)), cv (.pointer (some ⟨g, 11, none⟩))]) (some 10) (fun i => (([some (.pointer (some ⟨g, 0, none⟩)), some (.pointer (some ⟨g, 0, none⟩)), some (.pointer (some ⟨g, 0, none⟩)), some (.pointer (some ⟨g, 11, none⟩)), none, some (.pointer (some ⟨g, 0, none⟩)), some (.pointer (some ⟨g, 0, none⟩)), some (.pointer (some ⟨g, 0, none⟩)), none, none, none, some (.pointer (some ⟨g, 0, none⟩)), some (.pointer (some ⟨g, 11, none⟩))] : List (Option Value))[i]?).getD none) (fun v' w' => w'.ownsRow Bd 3 1 v' (path.length + 1) ((paE path) ++ (#[.int .i64 p] : Array Value).toList) ∧ Below Bd w w' ∧ Blk w' g (walkC p (updR r d i.imm) rd ev pa) 62 ∧ Blk w' g3 (insC ⟨1, ((d : Nat) : Int), i.a, i.b, i.imm, i.loc, i.off, i.index, i.size, i.fn, i.acq, i.weak, i.rel, i.pred, i.succ, i.to, i.zero⟩) 23 ∧ w'.ownsRow Bd 52 15 ev evs.length (evE evs) ∧ v'.ownBlock ≠ some g ∧ v'.ownBlock ≠ some g3 ∧ ∀ k, ev.ownBlock = some k → v'.ownBlock ≠ some k) [12, 10, 0, 1, 2, 3, 4, 5, 6, 7, 8, 9, 11] [4, 9, 3, 8, 2, 7, 1, 6, 5] mixedY SM.refl SM.trans hA62 (by kernel_rfl) (by kernel_rfl) (tabQ_cv _ _) ?_ ?_
 ·skip
  refine ed_ (.inr (.inl ⟨by decide, _, rfl, fun x y hT hk hk0 => dmv (wn rfl) (hT.ev rfl) ⟨rfl, rfl⟩⟩)) ?_
  refine ed_ (.inr (.inl ⟨by decide, _, rfl, fun x y hT hk hk0 => dmv (wn rfl) (hT.ev rfl) ⟨rfl, rfl⟩⟩)) ?_
  refine ed_ (.inr (.inl ⟨by decide, _, rfl, fun x y hT hk hk0 => dnc (wn rfl) (hk 1 _ rfl rfl) ⟨rfl, rfl⟩⟩)) ?_
  refine ed_ (.inr (.inl ⟨by decide, _, rfl, fun x y hT hk hk0 => dfa (wn rfl) (hk 2 _ rfl rfl) fo62_4 ⟨rfl, rfl⟩⟩)) ?_
  refine ed_ (.inl ⟨by decide, rfl, fun x y hS hT hk => dld (v := pa) (wn rfl) (hk 3 rfl) one30 ((Blk.sm (w := w55.drew) m57 hS (hM63A _)).cell rfl) ⟨SM.refl _, rfl⟩⟩) ?_
  refine ed_ (.inr (.inl ⟨by decide, _, rfl, fun x y hT hk hk0 => dmv (wn rfl) (hT.ev rfl) ⟨rfl, rfl⟩⟩)) ?_
  refine ed_ (.inr (.inl ⟨by decide, _, rfl, fun x y hT hk hk0 => dnc (wn rfl) (hk 5 _ rfl rfl) ⟨rfl, rfl⟩⟩)) ?_
  refine ed_ (.inr (.inl ⟨by decide, _, rfl, fun x y hT hk hk0 => dfa (wn rfl) (hk 6 _ rfl rfl) fo62_0 ⟨rfl, rfl⟩⟩)) ?_
  refine ed_ (.inl ⟨by decide, rfl, fun x y hS hT hk => dld (v := (.int .i64 p)) (wn rfl) (hk 7 rfl) one3 ((Blk.sm (w := w55.drew) m57 hS (hM63A _)).cell rfl) ⟨SM.refl _, rfl⟩⟩) ?_
  refine ed_ (.inl ⟨by decide, rfl, fun x y hS hT hk => d_slice1 (wn rfl) (show x.eval _ = (.int .i64 p) from (hk 8 rfl)) elm30 rfl (by decide) (fun g w' _ hG hb => ⟨SM.grow hG, g, rfl, hb⟩)⟩) ?_
  refine ed_ (.inr (.inr ⟨rfl, fun x y hS hT hk => ?_⟩)) ?_
  ·skip
   obtain ⟨gb, hvb, hbb⟩ := hk 9 rfl
   have hG : Grow w55 y := Grow.trans ((Grow.refl _).drew) (SM.grown (by rw [hM63] at hS; exact hS))
   have hR := owg hG ho61
   have hO := owg hG ho60
   have hBl := blg b59 hG (Nat.le_trans hB b59.size)
   refine d_append (wn rfl) (show x.eval _ = pa from (hk 4 rfl)) hvb elm30 hR hbb rfl rfl (by omega) (by decide) (Nat.le_trans hB hBl.size) ?_
   intro v' w' h1 h2 h3
   exact ⟨h1, below_by hBl h2 (Nat.le_trans hB hBl.size) (fun k hk => (own_lt hR k hk).1), (m57.grow hG).by h2 op_, (m58.grow hG).by h2 off11, own_by hO h2 ap2, lies_ne h3 op_ (m57.grow hG).lt, lies_ne h3 off11 (m58.grow hG).lt, lies_ap h3 ap2 hO⟩
  refine ed_ (.inr (.inl ⟨by decide, _, rfl, fun x y hT hk hk0 => dnc (wn rfl) (hk 0 _ rfl rfl) ⟨rfl, rfl⟩⟩)) ?_
  refine ed_ (.inr (.inl ⟨by decide, _, rfl, fun x y hT hk hk0 => dfa (wn rfl) (hk 11 _ rfl rfl) fo62_4 ⟨rfl, rfl⟩⟩)) ?_
  exact eachD_one
 rintro a64 w65 hA66 ⟨hP68, hW69⟩
 obtain ⟨v70, hv71⟩ : ∃ v', v' = (a64.tmps.getD 110 undef) := ⟨_, rfl⟩
 have hW72 : (fun v' w' => w'.ownsRow Bd 3 1 v' (path.length + 1) ((paE path) ++ (#[.int .i64 p] : Array Value).toList) ∧ Below Bd w w' ∧ Blk w' g (walkC p (updR r d i.imm) rd ev pa) 62 ∧ Blk w' g3 (insC ⟨1, ((d : Nat) : Int), i.a, i.b, i.imm, i.loc, i.off, i.index, i.size, i.fn, i.acq, i.weak, i.rel, i.pred, i.succ, i.to, i.zero⟩) 23 ∧ w'.ownsRow Bd 52 15 ev evs.length (evE evs) ∧ v'.ownBlock ≠ some g ∧ v'.ownBlock ≠ some g3 ∧ ∀ k, ev.ownBlock = some k → v'.ownBlock ≠ some k) v70 w65 := by rw [hv71]; exact hW69
 obtain ⟨ho73, b74, m75, m76, ho77, off78, off79, ap80⟩ := hW72
 have ap81 : ∀ k, v70.ownBlock = some k → ev.ownBlock ≠ some k := fun k h1 h2 => ap80 k h2 h1
 have hA82 : St 117 [(0, (.pointer (some ⟨g, 0, none⟩))), (4, (.bool false)), (5, (.int .i64 (p + 1))), (110, v70), (112, (.pointer (some ⟨g, 11, none⟩)))] a64 := hA66.cut _ (fc (hA66.get 0 _ rfl) (fc (hA66.get 4 _ rfl) (fc (hA66.get 5 _ rfl) (fc hv71.symm (fc (hP68 12 _ (Nat.le_of_ble_eq_true rfl) (by decide) rfl) fn_)))))
 refine dst_ (v := v70) (wn rfl) (hA82.ev rfl) (hA82.ev rfl) one30 (one_slice (own_form ho73)) m75 (Nat.le_of_ble_eq_true rfl) ?_
 intro w83 hU84 (m85 : Blk w83 g (walkC p (updR r d i.imm) rd ev v70) 62)
 have m86 := m76.upd hU84 (Ne.symm n9)
 have b87 := hU84.below b74 hge
 have ho88 := own_upd ho77 hU84 oe
 have ho89 := own_upd ho73 hU84 off78
 refine tn_ ?_
 refine wp_seq ?_
 refine wp_region_lit ?_
 refine qs hA82 rfl (dmv (wn rfl) (hA82.ev rfl) ?_)
 intro a90 hA91
 refine qs hA91 rfl (dmv (wn rfl) (hA91.ev rfl) ?_)
 intro a92 hA93
 refine qs hA93 rfl (dnc (wn rfl) (hA93.ev rfl) ?_)
 intro a94 hA95
 refine qs hA95 rfl (dfa (wn rfl) (hA95.ev rfl) fo62_0 ?_)
 intro a96 hA97
 refine qs hA97 rfl (dst_ (v := (.int .i64 (p + 1))) (wn rfl) (hA97.ev rfl) (hA97.ev rfl) one3 rfl m85 (Nat.le_of_ble_eq_true rfl) ?_)
 intro w98 hU99 (m100 : Blk w98 g (walkC (p + 1) (updR r d i.imm) rd ev v70) 62)
 have m101 := m86.upd hU99 (Ne.symm n9)
 have b102 := hU99.below b87 hge
 have ho103 := own_upd ho88 hU99 oe
 have ho104 := own_upd ho89 hU99 off78
 intro a105 hA106
 refine qe_ ?_
 refine tn_ ?_
 refine wp_seq ?_
 refine wp_region_lit ?_
 refine qs hA106 rfl (das (wn rfl) (hA106.ev rfl) ?_)
 intro a107 hA108
 refine qe_ ?_
 refine tn_ ?_
 refine wp_ret ?_
 refine ret1 rfl hA108 (v := (.bool true)) rfl ?_
 exact ⟨rfl, b102, rd, ev, v70, m100, hge, (hrd.below b102), ho103, (by rw [List.length_append, ← paE_snoc]; exact ho104), oe, off78, ap81⟩
set_option maxHeartbeats 4000000 in
set_option maxRecDepth 4000 in
theorem step_2 (Bd g : Nat) (p : Int) (r : Nat → Int) (rd ev pa : Value) (i : Ins) (d k : Nat) (rds : List Int) (evs : List Ev) (path : List Int) (w : World) (hB : Bd ≤ w.heap.size) (hW : WS Bd g w p r rds evs path rd ev pa) (hne : evs.length ≤ 1000) (hnp : path.length ≤ 1000) (hr : ∀ k, wfI (r k)) (hp : 0 ≤ p) (hp2 : p ≤ 1000) (hd : d < 8) (hk : k < 8) : Calls Try.prog 36 #[.pointer (some ⟨g, 0, none⟩), .agg (insC ⟨2, ((d : Nat) : Int), ((k : Nat) : Int), i.b, i.imm, i.loc, i.off, i.index, i.size, i.fn, i.acq, i.weak, i.rel, i.pred, i.succ, i.to, i.zero⟩)] w fun e w' => e = .returned (.bool true) ∧ Below Bd w w' ∧ ∃ rd' ev' pa', WS Bd g w' (p + 1) (updR r d (r k)) rds evs (path ++ [p]) rd' ev' pa' := by
 obtain ⟨hb, hge, hrd, hev, hpa, oe, op_, ap⟩ := hW
 have ap2 : ∀ k, ev.ownBlock = some k → pa.ownBlock ≠ some k := fun k h1 h2 => ap k h2 h1
 have b0 : Below Bd w w := Below.refl _ _
 refine enter (n := 117) Try.func36 rfl rfl (Nat.le_of_ble_eq_true rfl) ?_
 intro a1 hA2
 refine wp_seq ?_
 refine wp_region_lit ?_
 refine qs hA2 rfl (d_box (wn rfl) (hA2.ev rfl) ?_)
 intro g3 w4 eg5 hG6 (m7 : Blk w4 g3 (insC ⟨2, ((d : Nat) : Int), ((k : Nat) : Int), i.b, i.imm, i.loc, i.off, i.index, i.size, i.fn, i.acq, i.weak, i.rel, i.pred, i.succ, i.to, i.zero⟩) 23)
 have ge8 : Bd ≤ g3 := eg5 ▸ (Nat.le_trans hB b0.size)
 have n9 : g ≠ g3 := fun h => Nat.lt_irrefl _ ((h.trans eg5) ▸ hb.lt)
 have off10 := own_new hev eg5
 have off11 := own_new hpa eg5
 have m12 := hb.grow hG6
 have b13 := blg b0 hG6 (Nat.le_trans hB b0.size)
 have ho14 := owg hG6 hev
 have ho15 := owg hG6 hpa
 intro a16 hA17
 refine qs hA17 rfl (das (wn rfl) (hA17.ev rfl) ?_)
 intro a18 hA19
 refine qe_ ?_
 refine tn_ ?_
 refine wp_seq ?_
 refine wp_region_lit ?_
 refine qs hA19 rfl (dmv (wn rfl) (hA19.ev rfl) ?_)
 intro a20 hA21
 refine qs hA21 rfl (dnc (wn rfl) (hA21.ev rfl) ?_)
 intro a22 hA23
 refine qs hA23 rfl (dfa (wn rfl) (hA23.ev rfl) fo62_0 ?_)
 intro a24 hA25
 refine qs hA25 rfl (dld (v := (.int .i64 p)) (wn rfl) (hA25.ev rfl) one3 (m12.cell rfl) ?_)
 intro a26 hA27
 refine qs hA27 rfl (dbn (wn rfl) (hA27.ev rfl) (hA27.ev rfl) (b_add _ _ p 1 _ (by omega) (by omega)) ?_)
 intro a28 hA29
 refine qs hA29 rfl (das (wn rfl) (hA29.ev rfl) ?_)
 intro a30 hA31
 refine qe_ ?_
 refine tn_ ?_
 refine wp_seq ?_
 refine wp_seq ?_
 refine wp_region_lit ?_
 refine qs hA31 rfl (dfa (wn rfl) (hA31.ev rfl) fo23_0 ?_)
 intro a32 hA33
 refine qs hA33 rfl (dld (v := (.int .i64 2)) (wn rfl) (hA33.ev rfl) one3 (m7.cell rfl) ?_)
 intro a34 hA35
 refine qe_ ?_
 refine tn_ ?_
 refine wp_block ?_
 refine wp_seq ?_
 refine wp_region_lit ?_
 refine qs hA35 rfl (dbn (wn rfl) (hA35.ev rfl) (hA35.ev rfl) (b_eq _ _ 2 1 false _ rfl) ?_)
 intro a36 hA37
 refine qs hA37 rfl (das (wn rfl) (hA37.ev rfl) ?_)
 intro a38 hA39
 refine qe_ ?_
 refine tn_ ?_
 refine c_false hA39 rfl ?_
 refine wp_seq ?_
 refine wp_region_lit ?_
 refine qs hA39 rfl (dbn (wn rfl) (hA39.ev rfl) (hA39.ev rfl) (b_eq _ _ 2 2 true _ rfl) ?_)
 intro a40 hA41
 refine qs hA41 rfl (das (wn rfl) (hA41.ev rfl) ?_)
 intro a42 hA43
 refine qe_ ?_
 refine tn_ ?_
 refine c_true hA43 rfl ?_
 have hA44 : St 117 [(0, (.pointer (some ⟨g, 0, none⟩))), (3, (.pointer (some ⟨g3, 0, none⟩))), (4, (.bool false)), (5, (.int .i64 (p + 1)))] a42 := hA43.sub rfl
 let M45 : Nat → Option (Array Value) := fun _ => none
 have hM45 : M45 = fun _ => none := rfl
 clear_value M45
 have hM45A : ∀ k, M45 k = none := fun k => congrFun hM45 k
 have hM45B : ∀ k, k < Bd → M45 k = none := fun k _ => hM45A k
 refine drawnL (S := SM M45) rfl (tabL [cv (.pointer (some ⟨g, 0, none⟩)), cv (.pointer (some ⟨g3, 1, none⟩)), cv (.int .i64 ((d : Nat) : Int)), cv (.pointer (some ⟨g, 0, none⟩)), cv (.pointer (some ⟨g3, 2, none⟩)), cv (.int .i64 ((k : Nat) : Int)), cv (.pointer (some ⟨g, 0, none⟩)), cv (.pointer (some ⟨g, 1, none⟩)), cv (.pointer (some ⟨g, 1 + k, none⟩)), cv (.int .i64 (r k)), cv (.pointer (some ⟨g, 0, none⟩)), cv (.pointer (some ⟨g, 1, none⟩)), cv (.pointer (some ⟨g, 1 + d, none⟩))]) none (fun _ => none) (fun _ _ => True) [12, 9, 0, 1, 2, 3, 4, 5, 6, 7, 8, 11, 10] [] mixedY SM.refl SM.trans hA44 (by kernel_rfl) (by kernel_rfl) (fun i v u w h => by cases h) ?_ ?_
 ·skip
  refine ed_ (.inl ⟨nofun, rfl, fun x y hS hT hk => dmv (wn rfl) (hT.ev rfl) ⟨SM.refl _, rfl⟩⟩) ?_
  refine ed_ (.inl ⟨nofun, rfl, fun x y hS hT hk => dfa (wn rfl) (hT.ev rfl) fo23_1 ⟨SM.refl _, rfl⟩⟩) ?_
  refine ed_ (.inl ⟨nofun, rfl, fun x y hS hT hk => dld (v := (.int .i64 ((d : Nat) : Int))) (wn rfl) (hk 1 rfl) one3 ((Blk.sm (w := w4.drew) m7 hS (hM45A _)).cell rfl) ⟨SM.refl _, rfl⟩⟩) ?_
  refine ed_ (.inl ⟨nofun, rfl, fun x y hS hT hk => dmv (wn rfl) (hT.ev rfl) ⟨SM.refl _, rfl⟩⟩) ?_
  refine ed_ (.inl ⟨nofun, rfl, fun x y hS hT hk => dfa (wn rfl) (hT.ev rfl) fo23_2 ⟨SM.refl _, rfl⟩⟩) ?_
  refine ed_ (.inl ⟨nofun, rfl, fun x y hS hT hk => dld (v := (.int .i64 ((k : Nat) : Int))) (wn rfl) (hk 4 rfl) one3 ((Blk.sm (w := w4.drew) m7 hS (hM45A _)).cell rfl) ⟨SM.refl _, rfl⟩⟩) ?_
  refine ed_ (.inl ⟨nofun, rfl, fun x y hS hT hk => dnc (wn rfl) (hk 3 rfl) ⟨SM.refl _, rfl⟩⟩) ?_
  refine ed_ (.inl ⟨nofun, rfl, fun x y hS hT hk => dfa (wn rfl) (hk 6 rfl) fo62_1 ⟨SM.refl _, rfl⟩⟩) ?_
  refine ed_ (.inl ⟨nofun, rfl, fun x y hS hT hk => dix (j := k) (p := 1 + k) (wn rfl) (hk 7 rfl) (hk 5 rfl) arr43 (by omega) (by omega) ⟨SM.refl _, rfl⟩⟩) ?_
  refine ed_ (.inl ⟨nofun, rfl, fun x y hS hT hk => dld (v := (.int .i64 (r k))) (wn rfl) (hk 8 rfl) one3 ((Blk.sm (w := w4.drew) m12 hS (hM45A _)).cell (walk_get (by omega))) ⟨SM.refl _, rfl⟩⟩) ?_
  refine ed_ (.inl ⟨nofun, rfl, fun x y hS hT hk => dnc (wn rfl) (hk 0 rfl) ⟨SM.refl _, rfl⟩⟩) ?_
  refine ed_ (.inl ⟨nofun, rfl, fun x y hS hT hk => dfa (wn rfl) (hk 10 rfl) fo62_1 ⟨SM.refl _, rfl⟩⟩) ?_
  refine ed_ (.inl ⟨nofun, rfl, fun x y hS hT hk => dix (j := d) (p := 1 + d) (wn rfl) (hk 11 rfl) (hk 2 rfl) arr43 (by omega) (by omega) ⟨SM.refl _, rfl⟩⟩) ?_
  exact eachD_one
 rintro a46 w47 hA48 ⟨hS50, hC51⟩
 have hA52 : St 117 [(0, (.pointer (some ⟨g, 0, none⟩))), (4, (.bool false)), (5, (.int .i64 (p + 1))), (34, (.int .i64 (r k))), (37, (.pointer (some ⟨g, 1 + d, none⟩)))] a46 := hA48.cut _ (fc (hA48.get 0 _ rfl) (fc (hA48.get 4 _ rfl) (fc (hA48.get 5 _ rfl) (fc (hC51 9 (Nat.le_of_ble_eq_true rfl)) (fc (hC51 12 (Nat.le_of_ble_eq_true rfl)) fn_)))))
 have hG53 : Grow w4 w47 := Grow.trans ((Grow.refl _).drew) (SM.grown (by rw [hM45] at hS50; exact hS50))
 have m54 := m12.grow hG53
 have m55 := m7.grow hG53
 have b56 := blg b13 hG53 (Nat.le_trans hB b13.size)
 have ho57 := owg hG53 ho14
 have ho58 := owg hG53 ho15
 refine dst_ (v := (.int .i64 (r k))) (wn rfl) (hA52.ev rfl) (hA52.ev rfl) one3 rfl m54 (by rw [walk_size]; omega) ?_
 intro w59 hU60 m61
 rw [walk_set (by omega)] at m61
 have m62 := m55.upd hU60 (Ne.symm n9)
 have b63 := hU60.below b56 hge
 have ho64 := own_upd ho57 hU60 oe
 have ho65 := own_upd ho58 hU60 op_
 refine i_norm ?_
 refine tn_ ?_
 refine wp_seq ?_
 have hA66 : St 117 [(0, (.pointer (some ⟨g, 0, none⟩))), (4, (.bool false)), (5, (.int .i64 (p + 1)))] a46 := hA52.sub rfl
 let M67 : Nat → Option (Array Value) := fun _ => none
 have hM67 : M67 = fun _ => none := rfl
 clear_value M67
 have hM67A : ∀ k, M67 k = none := fun k => congrFun hM67 k
 have hM67B : ∀ k, k < Bd → M67 k = none := fun k _ => hM67A k
 refine drawnL (S := SM M67) rfl (tabQ [some (.pointer (some ⟨g, 0, none⟩)), some (.pointer (some ⟨g, 0, none⟩)), some (.pointer (some ⟨g, 0, none⟩)), some (.pointer (some ⟨g, 11, none⟩)), none, some (.pointer (some ⟨g, 0, none⟩)), some (.pointer (some ⟨g, 0, none⟩)), some (.pointer (some ⟨g, 0, none⟩)), none, none, none, some (.pointer (some ⟨g, 0, none⟩)), some (.pointer (some ⟨g, 11, none⟩))] [cv (.pointer (some ⟨g, 0, none⟩)), cv (.pointer (some ⟨g, 0, none⟩)), cv (.pointer (some ⟨g, 0, none⟩)), cv (.pointer (some ⟨g, 11, none⟩)), cv pa, cv (.pointer (some ⟨g, 0, none⟩)), cv (.pointer (some ⟨g, 0, none⟩)), cv (.pointer (some ⟨g, 0, none⟩)), cv (.int .i64 p), cs1 M67 hM67A #[.int .i64 p] 3, cfree, cv (.pointer (some ⟨g, 0, none⟩)), cv (.pointer (some ⟨g, 11, none⟩))]) (some 10) (fun i => (([some (.pointer (some ⟨g, 0, none⟩)), some (.pointer (some ⟨g, 0, none⟩)), some (.pointer (some ⟨g, 0, none⟩)), some (.pointer (some ⟨g, 11, none⟩)), none, some (.pointer (some ⟨g, 0, none⟩)), some (.pointer (some ⟨g, 0, none⟩)), some (.pointer (some ⟨g, 0, none⟩)), none, none, none, some (.pointer (some ⟨g, 0, none⟩)), some (.pointer (some ⟨g, 11, none⟩))] : List (Option Value))[i]?).getD none) (fun v' w' => w'.ownsRow Bd 3 1 v' (path.length + 1) ((paE path) ++ (#[.int .i64 p] : Array Value).toList) ∧ Below Bd w w' ∧ Blk w' g (walkC p (updR r d (r k)) rd ev pa) 62 ∧ Blk w' g3 (insC ⟨2, ((d : Nat) : Int), ((k : Nat) : Int), i.b, i.imm, i.loc, i.off, i.index, i.size, i.fn, i.acq, i.weak, i.rel, i.pred, i.succ, i.to, i.zero⟩) 23 ∧ w'.ownsRow Bd 52 15 ev evs.length (evE evs) ∧ v'.ownBlock ≠ some g ∧ v'.ownBlock ≠ some g3 ∧ ∀ k, ev.ownBlock = some k → v'.ownBlock ≠ some k) [12, 10, 0, 1, 2, 3, 4, 5, 6, 7, 8, 9, 11] [4, 9, 3, 8, 2, 7, 1, 6, 5] mixedY SM.refl SM.trans hA66 (by kernel_rfl) (by kernel_rfl) (tabQ_cv _ _) ?_ ?_
 ·skip
  refine ed_ (.inr (.inl ⟨by decide, _, rfl, fun x y hT hk hk0 => dmv (wn rfl) (hT.ev rfl) ⟨rfl, rfl⟩⟩)) ?_
  refine ed_ (.inr (.inl ⟨by decide, _, rfl, fun x y hT hk hk0 => dmv (wn rfl) (hT.ev rfl) ⟨rfl, rfl⟩⟩)) ?_
  refine ed_ (.inr (.inl ⟨by decide, _, rfl, fun x y hT hk hk0 => dnc (wn rfl) (hk 1 _ rfl rfl) ⟨rfl, rfl⟩⟩)) ?_
  refine ed_ (.inr (.inl ⟨by decide, _, rfl, fun x y hT hk hk0 => dfa (wn rfl) (hk 2 _ rfl rfl) fo62_4 ⟨rfl, rfl⟩⟩)) ?_
  refine ed_ (.inl ⟨by decide, rfl, fun x y hS hT hk => dld (v := pa) (wn rfl) (hk 3 rfl) one30 ((Blk.sm (w := w59.drew) m61 hS (hM67A _)).cell rfl) ⟨SM.refl _, rfl⟩⟩) ?_
  refine ed_ (.inr (.inl ⟨by decide, _, rfl, fun x y hT hk hk0 => dmv (wn rfl) (hT.ev rfl) ⟨rfl, rfl⟩⟩)) ?_
  refine ed_ (.inr (.inl ⟨by decide, _, rfl, fun x y hT hk hk0 => dnc (wn rfl) (hk 5 _ rfl rfl) ⟨rfl, rfl⟩⟩)) ?_
  refine ed_ (.inr (.inl ⟨by decide, _, rfl, fun x y hT hk hk0 => dfa (wn rfl) (hk 6 _ rfl rfl) fo62_0 ⟨rfl, rfl⟩⟩)) ?_
  refine ed_ (.inl ⟨by decide, rfl, fun x y hS hT hk => dld (v := (.int .i64 p)) (wn rfl) (hk 7 rfl) one3 ((Blk.sm (w := w59.drew) m61 hS (hM67A _)).cell rfl) ⟨SM.refl _, rfl⟩⟩) ?_
  refine ed_ (.inl ⟨by decide, rfl, fun x y hS hT hk => d_slice1 (wn rfl) (show x.eval _ = (.int .i64 p) from (hk 8 rfl)) elm30 rfl (by decide) (fun g w' _ hG hb => ⟨SM.grow hG, g, rfl, hb⟩)⟩) ?_
  refine ed_ (.inr (.inr ⟨rfl, fun x y hS hT hk => ?_⟩)) ?_
  ·skip
   obtain ⟨gb, hvb, hbb⟩ := hk 9 rfl
   have hG : Grow w59 y := Grow.trans ((Grow.refl _).drew) (SM.grown (by rw [hM67] at hS; exact hS))
   have hR := owg hG ho65
   have hO := owg hG ho64
   have hBl := blg b63 hG (Nat.le_trans hB b63.size)
   refine d_append (wn rfl) (show x.eval _ = pa from (hk 4 rfl)) hvb elm30 hR hbb rfl rfl (by omega) (by decide) (Nat.le_trans hB hBl.size) ?_
   intro v' w' h1 h2 h3
   exact ⟨h1, below_by hBl h2 (Nat.le_trans hB hBl.size) (fun k hk => (own_lt hR k hk).1), (m61.grow hG).by h2 op_, (m62.grow hG).by h2 off11, own_by hO h2 ap2, lies_ne h3 op_ (m61.grow hG).lt, lies_ne h3 off11 (m62.grow hG).lt, lies_ap h3 ap2 hO⟩
  refine ed_ (.inr (.inl ⟨by decide, _, rfl, fun x y hT hk hk0 => dnc (wn rfl) (hk 0 _ rfl rfl) ⟨rfl, rfl⟩⟩)) ?_
  refine ed_ (.inr (.inl ⟨by decide, _, rfl, fun x y hT hk hk0 => dfa (wn rfl) (hk 11 _ rfl rfl) fo62_4 ⟨rfl, rfl⟩⟩)) ?_
  exact eachD_one
 rintro a68 w69 hA70 ⟨hP72, hW73⟩
 obtain ⟨v74, hv75⟩ : ∃ v', v' = (a68.tmps.getD 110 undef) := ⟨_, rfl⟩
 have hW76 : (fun v' w' => w'.ownsRow Bd 3 1 v' (path.length + 1) ((paE path) ++ (#[.int .i64 p] : Array Value).toList) ∧ Below Bd w w' ∧ Blk w' g (walkC p (updR r d (r k)) rd ev pa) 62 ∧ Blk w' g3 (insC ⟨2, ((d : Nat) : Int), ((k : Nat) : Int), i.b, i.imm, i.loc, i.off, i.index, i.size, i.fn, i.acq, i.weak, i.rel, i.pred, i.succ, i.to, i.zero⟩) 23 ∧ w'.ownsRow Bd 52 15 ev evs.length (evE evs) ∧ v'.ownBlock ≠ some g ∧ v'.ownBlock ≠ some g3 ∧ ∀ k, ev.ownBlock = some k → v'.ownBlock ≠ some k) v74 w69 := by rw [hv75]; exact hW73
 obtain ⟨ho77, b78, m79, m80, ho81, off82, off83, ap84⟩ := hW76
 have ap85 : ∀ k, v74.ownBlock = some k → ev.ownBlock ≠ some k := fun k h1 h2 => ap84 k h2 h1
 have hA86 : St 117 [(0, (.pointer (some ⟨g, 0, none⟩))), (4, (.bool false)), (5, (.int .i64 (p + 1))), (110, v74), (112, (.pointer (some ⟨g, 11, none⟩)))] a68 := hA70.cut _ (fc (hA70.get 0 _ rfl) (fc (hA70.get 4 _ rfl) (fc (hA70.get 5 _ rfl) (fc hv75.symm (fc (hP72 12 _ (Nat.le_of_ble_eq_true rfl) (by decide) rfl) fn_)))))
 refine dst_ (v := v74) (wn rfl) (hA86.ev rfl) (hA86.ev rfl) one30 (one_slice (own_form ho77)) m79 (Nat.le_of_ble_eq_true rfl) ?_
 intro w87 hU88 (m89 : Blk w87 g (walkC p (updR r d (r k)) rd ev v74) 62)
 have m90 := m80.upd hU88 (Ne.symm n9)
 have b91 := hU88.below b78 hge
 have ho92 := own_upd ho81 hU88 oe
 have ho93 := own_upd ho77 hU88 off82
 refine tn_ ?_
 refine wp_seq ?_
 refine wp_region_lit ?_
 refine qs hA86 rfl (dmv (wn rfl) (hA86.ev rfl) ?_)
 intro a94 hA95
 refine qs hA95 rfl (dmv (wn rfl) (hA95.ev rfl) ?_)
 intro a96 hA97
 refine qs hA97 rfl (dnc (wn rfl) (hA97.ev rfl) ?_)
 intro a98 hA99
 refine qs hA99 rfl (dfa (wn rfl) (hA99.ev rfl) fo62_0 ?_)
 intro a100 hA101
 refine qs hA101 rfl (dst_ (v := (.int .i64 (p + 1))) (wn rfl) (hA101.ev rfl) (hA101.ev rfl) one3 rfl m89 (Nat.le_of_ble_eq_true rfl) ?_)
 intro w102 hU103 (m104 : Blk w102 g (walkC (p + 1) (updR r d (r k)) rd ev v74) 62)
 have m105 := m90.upd hU103 (Ne.symm n9)
 have b106 := hU103.below b91 hge
 have ho107 := own_upd ho92 hU103 oe
 have ho108 := own_upd ho93 hU103 off82
 intro a109 hA110
 refine qe_ ?_
 refine tn_ ?_
 refine wp_seq ?_
 refine wp_region_lit ?_
 refine qs hA110 rfl (das (wn rfl) (hA110.ev rfl) ?_)
 intro a111 hA112
 refine qe_ ?_
 refine tn_ ?_
 refine wp_ret ?_
 refine ret1 rfl hA112 (v := (.bool true)) rfl ?_
 exact ⟨rfl, b106, rd, ev, v74, m104, hge, (hrd.below b106), ho107, (by rw [List.length_append, ← paE_snoc]; exact ho108), oe, off82, ap85⟩
end Go.Proofs.Ytlhompedcphnnaa
/- A step of the walk. -/
namespace Go.Proofs.Ytlhompedcphnnaa
open Go.RowKit
set_option linter.unusedSimpArgs false
set_option linter.unusedVariables false
set_option maxHeartbeats 4000000 in
set_option maxRecDepth 4000 in
theorem step_3 (Bd g : Nat) (p : Int) (r : Nat → Int) (rd ev pa : Value) (i : Ins) (d k : Nat) (rds : List Int) (evs : List Ev) (path : List Int) (w : World) (hB : Bd ≤ w.heap.size) (hW : WS Bd g w p r rds evs path rd ev pa) (hne : evs.length ≤ 1000) (hnp : path.length ≤ 1000) (hr : ∀ k, wfI (r k)) (hp : 0 ≤ p) (hp2 : p ≤ 1000) (hd : d < 8) (hk : k < 8) (hbr : ronB i.b = true) : Calls Try.prog 36 #[.pointer (some ⟨g, 0, none⟩), .agg (insC ⟨3, ((d : Nat) : Int), ((k : Nat) : Int), i.b, i.imm, i.loc, i.off, i.index, i.size, i.fn, i.acq, i.weak, i.rel, i.pred, i.succ, i.to, i.zero⟩)] w fun e w' => e = .returned (.bool true) ∧ Below Bd w w' ∧ ∃ rd' ev' pa', WS Bd g w' (p + 1) (updR r d (aluR i.fn (r k) (orR r i.b i.imm))) rds evs (path ++ [p]) rd' ev' pa' := by
 obtain ⟨hb, hge, hrd, hev, hpa, oe, op_, ap⟩ := hW
 have ap2 : ∀ k, ev.ownBlock = some k → pa.ownBlock ≠ some k := fun k h1 h2 => ap k h2 h1
 have b0 : Below Bd w w := Below.refl _ _
 refine enter (n := 117) Try.func36 rfl rfl (Nat.le_of_ble_eq_true rfl) ?_
 intro a1 hA2
 refine wp_seq ?_
 refine wp_region_lit ?_
 refine qs hA2 rfl (d_box (wn rfl) (hA2.ev rfl) ?_)
 intro g3 w4 eg5 hG6 (m7 : Blk w4 g3 (insC ⟨3, ((d : Nat) : Int), ((k : Nat) : Int), i.b, i.imm, i.loc, i.off, i.index, i.size, i.fn, i.acq, i.weak, i.rel, i.pred, i.succ, i.to, i.zero⟩) 23)
 have ge8 : Bd ≤ g3 := eg5 ▸ (Nat.le_trans hB b0.size)
 have n9 : g ≠ g3 := fun h => Nat.lt_irrefl _ ((h.trans eg5) ▸ hb.lt)
 have off10 := own_new hev eg5
 have off11 := own_new hpa eg5
 have m12 := hb.grow hG6
 have b13 := blg b0 hG6 (Nat.le_trans hB b0.size)
 have ho14 := owg hG6 hev
 have ho15 := owg hG6 hpa
 intro a16 hA17
 refine qs hA17 rfl (das (wn rfl) (hA17.ev rfl) ?_)
 intro a18 hA19
 refine qe_ ?_
 refine tn_ ?_
 refine wp_seq ?_
 refine wp_region_lit ?_
 refine qs hA19 rfl (dmv (wn rfl) (hA19.ev rfl) ?_)
 intro a20 hA21
 refine qs hA21 rfl (dnc (wn rfl) (hA21.ev rfl) ?_)
 intro a22 hA23
 refine qs hA23 rfl (dfa (wn rfl) (hA23.ev rfl) fo62_0 ?_)
 intro a24 hA25
 refine qs hA25 rfl (dld (v := (.int .i64 p)) (wn rfl) (hA25.ev rfl) one3 (m12.cell rfl) ?_)
 intro a26 hA27
 refine qs hA27 rfl (dbn (wn rfl) (hA27.ev rfl) (hA27.ev rfl) (b_add _ _ p 1 _ (by omega) (by omega)) ?_)
 intro a28 hA29
 refine qs hA29 rfl (das (wn rfl) (hA29.ev rfl) ?_)
 intro a30 hA31
 refine qe_ ?_
 refine tn_ ?_
 refine wp_seq ?_
 refine wp_seq ?_
 refine wp_region_lit ?_
 refine qs hA31 rfl (dfa (wn rfl) (hA31.ev rfl) fo23_0 ?_)
 intro a32 hA33
 refine qs hA33 rfl (dld (v := (.int .i64 3)) (wn rfl) (hA33.ev rfl) one3 (m7.cell rfl) ?_)
 intro a34 hA35
 refine qe_ ?_
 refine tn_ ?_
 refine wp_block ?_
 refine wp_seq ?_
 refine wp_region_lit ?_
 refine qs hA35 rfl (dbn (wn rfl) (hA35.ev rfl) (hA35.ev rfl) (b_eq _ _ 3 1 false _ rfl) ?_)
 intro a36 hA37
 refine qs hA37 rfl (das (wn rfl) (hA37.ev rfl) ?_)
 intro a38 hA39
 refine qe_ ?_
 refine tn_ ?_
 refine c_false hA39 rfl ?_
 refine wp_seq ?_
 refine wp_region_lit ?_
 refine qs hA39 rfl (dbn (wn rfl) (hA39.ev rfl) (hA39.ev rfl) (b_eq _ _ 3 2 false _ rfl) ?_)
 intro a40 hA41
 refine qs hA41 rfl (das (wn rfl) (hA41.ev rfl) ?_)
 intro a42 hA43
 refine qe_ ?_
 refine tn_ ?_
 refine c_false hA43 rfl ?_
 refine wp_seq ?_
 refine wp_region_lit ?_
 refine qs hA43 rfl (dbn (wn rfl) (hA43.ev rfl) (hA43.ev rfl) (b_eq _ _ 3 3 true _ rfl) ?_)
 intro a44 hA45
 refine qs hA45 rfl (das (wn rfl) (hA45.ev rfl) ?_)
 intro a46 hA47
 refine qe_ ?_
 refine tn_ ?_
 refine c_true hA47 rfl ?_
 have hA48 : St 117 [(0, (.pointer (some ⟨g, 0, none⟩))), (3, (.pointer (some ⟨g3, 0, none⟩))), (4, (.bool false)), (5, (.int .i64 (p + 1)))] a46 := hA47.sub rfl
 let M49 : Nat → Option (Array Value) := fun _ => none
 have hM49 : M49 = fun _ => none := rfl
 clear_value M49
 have hM49A : ∀ k, M49 k = none := fun k => congrFun hM49 k
 have hM49B : ∀ k, k < Bd → M49 k = none := fun k _ => hM49A k
 refine drawnL (S := SM M49) rfl (tabL [cv (.pointer (some ⟨g, 0, none⟩)), cv (.pointer (some ⟨g3, 1, none⟩)), cv (.int .i64 ((d : Nat) : Int)), cv (.pointer (some ⟨g3, 9, none⟩)), cv (.int .i64 i.fn), cv (.pointer (some ⟨g, 0, none⟩)), cv (.pointer (some ⟨g3, 2, none⟩)), cv (.int .i64 ((k : Nat) : Int)), cv (.pointer (some ⟨g, 0, none⟩)), cv (.pointer (some ⟨g, 1, none⟩)), cv (.pointer (some ⟨g, 1 + k, none⟩)), cv (.int .i64 (r k)), cv (.pointer (some ⟨g, 0, none⟩)), cv (.pointer (some ⟨g3, 3, none⟩)), cv (.int .i64 i.b), cv (.pointer (some ⟨g3, 4, none⟩)), cv (.int .i64 i.imm), cv (.int .i64 (orR r i.b i.imm)), cv (.int .i64 (aluR i.fn (r k) (orR r i.b i.imm))), cv (.pointer (some ⟨g, 0, none⟩)), cv (.pointer (some ⟨g, 1, none⟩)), cv (.pointer (some ⟨g, 1 + d, none⟩))]) none (fun _ => none) (fun _ _ => True) [21, 18, 0, 1, 2, 3, 4, 5, 6, 7, 8, 9, 10, 11, 12, 13, 14, 15, 16, 17, 20, 19] [] mixedY SM.refl SM.trans hA48 (by kernel_rfl) (by kernel_rfl) (fun i v u w h => by cases h) ?_ ?_
 ·skip
  refine ed_ (.inl ⟨nofun, rfl, fun x y hS hT hk => dmv (wn rfl) (hT.ev rfl) ⟨SM.refl _, rfl⟩⟩) ?_
  refine ed_ (.inl ⟨nofun, rfl, fun x y hS hT hk => dfa (wn rfl) (hT.ev rfl) fo23_1 ⟨SM.refl _, rfl⟩⟩) ?_
  refine ed_ (.inl ⟨nofun, rfl, fun x y hS hT hk => dld (v := (.int .i64 ((d : Nat) : Int))) (wn rfl) (hk 1 rfl) one3 ((Blk.sm (w := w4.drew) m7 hS (hM49A _)).cell rfl) ⟨SM.refl _, rfl⟩⟩) ?_
  refine ed_ (.inl ⟨nofun, rfl, fun x y hS hT hk => dfa (wn rfl) (hT.ev rfl) fo23_9 ⟨SM.refl _, rfl⟩⟩) ?_
  refine ed_ (.inl ⟨nofun, rfl, fun x y hS hT hk => dld (v := (.int .i64 i.fn)) (wn rfl) (hk 3 rfl) one3 ((Blk.sm (w := w4.drew) m7 hS (hM49A _)).cell rfl) ⟨SM.refl _, rfl⟩⟩) ?_
  refine ed_ (.inl ⟨nofun, rfl, fun x y hS hT hk => dmv (wn rfl) (hT.ev rfl) ⟨SM.refl _, rfl⟩⟩) ?_
  refine ed_ (.inl ⟨nofun, rfl, fun x y hS hT hk => dfa (wn rfl) (hT.ev rfl) fo23_2 ⟨SM.refl _, rfl⟩⟩) ?_
  refine ed_ (.inl ⟨nofun, rfl, fun x y hS hT hk => dld (v := (.int .i64 ((k : Nat) : Int))) (wn rfl) (hk 6 rfl) one3 ((Blk.sm (w := w4.drew) m7 hS (hM49A _)).cell rfl) ⟨SM.refl _, rfl⟩⟩) ?_
  refine ed_ (.inl ⟨nofun, rfl, fun x y hS hT hk => dnc (wn rfl) (hk 5 rfl) ⟨SM.refl _, rfl⟩⟩) ?_
  refine ed_ (.inl ⟨nofun, rfl, fun x y hS hT hk => dfa (wn rfl) (hk 8 rfl) fo62_1 ⟨SM.refl _, rfl⟩⟩) ?_
  refine ed_ (.inl ⟨nofun, rfl, fun x y hS hT hk => dix (j := k) (p := 1 + k) (wn rfl) (hk 9 rfl) (hk 7 rfl) arr43 (by omega) (by omega) ⟨SM.refl _, rfl⟩⟩) ?_
  refine ed_ (.inl ⟨nofun, rfl, fun x y hS hT hk => dld (v := (.int .i64 (r k))) (wn rfl) (hk 10 rfl) one3 ((Blk.sm (w := w4.drew) m12 hS (hM49A _)).cell (walk_get (by omega))) ⟨SM.refl _, rfl⟩⟩) ?_
  refine ed_ (.inl ⟨nofun, rfl, fun x y hS hT hk => dmv (wn rfl) (hT.ev rfl) ⟨SM.refl _, rfl⟩⟩) ?_
  refine ed_ (.inl ⟨nofun, rfl, fun x y hS hT hk => dfa (wn rfl) (hT.ev rfl) fo23_3 ⟨SM.refl _, rfl⟩⟩) ?_
  refine ed_ (.inl ⟨nofun, rfl, fun x y hS hT hk => dld (v := (.int .i64 i.b)) (wn rfl) (hk 13 rfl) one3 ((Blk.sm (w := w4.drew) m7 hS (hM49A _)).cell rfl) ⟨SM.refl _, rfl⟩⟩) ?_
  refine ed_ (.inl ⟨nofun, rfl, fun x y hS hT hk => dfa (wn rfl) (hT.ev rfl) fo23_4 ⟨SM.refl _, rfl⟩⟩) ?_
  refine ed_ (.inl ⟨nofun, rfl, fun x y hS hT hk => dld (v := (.int .i64 i.imm)) (wn rfl) (hk 15 rfl) one3 ((Blk.sm (w := w4.drew) m7 hS (hM49A _)).cell rfl) ⟨SM.refl _, rfl⟩⟩) ?_
  refine ed_ (.inl ⟨nofun, rfl, fun x y hS hT hk => dcl (wn rfl) ent47 (map3 (show x.eval _ = (.pointer (some ⟨g, 0, none⟩)) from (hk 12 rfl)) (show x.eval _ = (.int .i64 i.b) from (hk 14 rfl)) (show x.eval _ = (.int .i64 i.imm) from (hk 16 rfl))) (regOr_any g p r rd ev pa i.b i.imm y (Blk.sm (w := w4.drew) m12 hS (hM49A _)) hbr) (fun _ _ ⟨he, hG⟩ => ⟨(.int .i64 (orR r i.b i.imm)), he, SM.grow hG, rfl⟩)⟩) ?_
  refine ed_ (.inl ⟨nofun, rfl, fun x y hS hT hk => dcl (wn rfl) ent46 (map3 (show x.eval _ = (.int .i64 i.fn) from (hk 4 rfl)) (show x.eval _ = (.int .i64 (r k)) from (hk 11 rfl)) (show x.eval _ = (.int .i64 (orR r i.b i.imm)) from (hk 17 rfl))) (alu_any i.fn (r k) (orR r i.b i.imm) y) (fun _ _ ⟨he, hw⟩ => ⟨(.int .i64 (aluR i.fn (r k) (orR r i.b i.imm))), he, hw ▸ SM.refl _, rfl⟩)⟩) ?_
  refine ed_ (.inl ⟨nofun, rfl, fun x y hS hT hk => dnc (wn rfl) (hk 0 rfl) ⟨SM.refl _, rfl⟩⟩) ?_
  refine ed_ (.inl ⟨nofun, rfl, fun x y hS hT hk => dfa (wn rfl) (hk 19 rfl) fo62_1 ⟨SM.refl _, rfl⟩⟩) ?_
  refine ed_ (.inl ⟨nofun, rfl, fun x y hS hT hk => dix (j := d) (p := 1 + d) (wn rfl) (hk 20 rfl) (hk 2 rfl) arr43 (by omega) (by omega) ⟨SM.refl _, rfl⟩⟩) ?_
  exact eachD_one
 rintro a50 w51 hA52 ⟨hS54, hC55⟩
 have hA56 : St 117 [(0, (.pointer (some ⟨g, 0, none⟩))), (4, (.bool false)), (5, (.int .i64 (p + 1))), (58, (.int .i64 (aluR i.fn (r k) (orR r i.b i.imm)))), (61, (.pointer (some ⟨g, 1 + d, none⟩)))] a50 := hA52.cut _ (fc (hA52.get 0 _ rfl) (fc (hA52.get 4 _ rfl) (fc (hA52.get 5 _ rfl) (fc (hC55 18 (Nat.le_of_ble_eq_true rfl)) (fc (hC55 21 (Nat.le_of_ble_eq_true rfl)) fn_)))))
 have hG57 : Grow w4 w51 := Grow.trans ((Grow.refl _).drew) (SM.grown (by rw [hM49] at hS54; exact hS54))
 have m58 := m12.grow hG57
 have m59 := m7.grow hG57
 have b60 := blg b13 hG57 (Nat.le_trans hB b13.size)
 have ho61 := owg hG57 ho14
 have ho62 := owg hG57 ho15
 refine dst_ (v := (.int .i64 (aluR i.fn (r k) (orR r i.b i.imm)))) (wn rfl) (hA56.ev rfl) (hA56.ev rfl) one3 rfl m58 (by rw [walk_size]; omega) ?_
 intro w63 hU64 m65
 rw [walk_set (by omega)] at m65
 have m66 := m59.upd hU64 (Ne.symm n9)
 have b67 := hU64.below b60 hge
 have ho68 := own_upd ho61 hU64 oe
 have ho69 := own_upd ho62 hU64 op_
 refine i_norm ?_
 refine tn_ ?_
 refine wp_seq ?_
 have hA70 : St 117 [(0, (.pointer (some ⟨g, 0, none⟩))), (4, (.bool false)), (5, (.int .i64 (p + 1)))] a50 := hA56.sub rfl
 let M71 : Nat → Option (Array Value) := fun _ => none
 have hM71 : M71 = fun _ => none := rfl
 clear_value M71
 have hM71A : ∀ k, M71 k = none := fun k => congrFun hM71 k
 have hM71B : ∀ k, k < Bd → M71 k = none := fun k _ => hM71A k
 refine drawnL (S := SM M71) rfl (tabQ [some (.pointer (some ⟨g, 0, none⟩)), some (.pointer (some ⟨g, 0, none⟩)), some (.pointer (some ⟨g, 0, none⟩)), some (.pointer (some ⟨g, 11, none⟩)), none, some (.pointer (some ⟨g, 0, none⟩)), some (.pointer (some ⟨g, 0, none⟩)), some (.pointer (some ⟨g, 0, none⟩)), none, none, none, some (.pointer (some ⟨g, 0, none⟩)), some (.pointer (some ⟨g, 11, none⟩))] [cv (.pointer (some ⟨g, 0, none⟩)), cv (.pointer (some ⟨g, 0, none⟩)), cv (.pointer (some ⟨g, 0, none⟩)), cv (.pointer (some ⟨g, 11, none⟩)), cv pa, cv (.pointer (some ⟨g, 0, none⟩)), cv (.pointer (some ⟨g, 0, none⟩)), cv (.pointer (some ⟨g, 0, none⟩)), cv (.int .i64 p), cs1 M71 hM71A #[.int .i64 p] 3, cfree, cv (.pointer (some ⟨g, 0, none⟩)), cv (.pointer (some ⟨g, 11, none⟩))]) (some 10) (fun i => (([some (.pointer (some ⟨g, 0, none⟩)), some (.pointer (some ⟨g, 0, none⟩)), some (.pointer (some ⟨g, 0, none⟩)), some (.pointer (some ⟨g, 11, none⟩)), none, some (.pointer (some ⟨g, 0, none⟩)), some (.pointer (some ⟨g, 0, none⟩)), some (.pointer (some ⟨g, 0, none⟩)), none, none, none, some (.pointer (some ⟨g, 0, none⟩)), some (.pointer (some ⟨g, 11, none⟩))] : List (Option Value))[i]?).getD none) (fun v' w' => w'.ownsRow Bd 3 1 v' (path.length + 1) ((paE path) ++ (#[.int .i64 p] : Array Value).toList) ∧ Below Bd w w' ∧ Blk w' g (walkC p (updR r d (aluR i.fn (r k) (orR r i.b i.imm))) rd ev pa) 62 ∧ Blk w' g3 (insC ⟨3, ((d : Nat) : Int), ((k : Nat) : Int), i.b, i.imm, i.loc, i.off, i.index, i.size, i.fn, i.acq, i.weak, i.rel, i.pred, i.succ, i.to, i.zero⟩) 23 ∧ w'.ownsRow Bd 52 15 ev evs.length (evE evs) ∧ v'.ownBlock ≠ some g ∧ v'.ownBlock ≠ some g3 ∧ ∀ k, ev.ownBlock = some k → v'.ownBlock ≠ some k) [12, 10, 0, 1, 2, 3, 4, 5, 6, 7, 8, 9, 11] [4, 9, 3, 8, 2, 7, 1, 6, 5] mixedY SM.refl SM.trans hA70 (by kernel_rfl) (by kernel_rfl) (tabQ_cv _ _) ?_ ?_
 ·skip
  refine ed_ (.inr (.inl ⟨by decide, _, rfl, fun x y hT hk hk0 => dmv (wn rfl) (hT.ev rfl) ⟨rfl, rfl⟩⟩)) ?_
  refine ed_ (.inr (.inl ⟨by decide, _, rfl, fun x y hT hk hk0 => dmv (wn rfl) (hT.ev rfl) ⟨rfl, rfl⟩⟩)) ?_
  refine ed_ (.inr (.inl ⟨by decide, _, rfl, fun x y hT hk hk0 => dnc (wn rfl) (hk 1 _ rfl rfl) ⟨rfl, rfl⟩⟩)) ?_
  refine ed_ (.inr (.inl ⟨by decide, _, rfl, fun x y hT hk hk0 => dfa (wn rfl) (hk 2 _ rfl rfl) fo62_4 ⟨rfl, rfl⟩⟩)) ?_
  refine ed_ (.inl ⟨by decide, rfl, fun x y hS hT hk => dld (v := pa) (wn rfl) (hk 3 rfl) one30 ((Blk.sm (w := w63.drew) m65 hS (hM71A _)).cell rfl) ⟨SM.refl _, rfl⟩⟩) ?_
  refine ed_ (.inr (.inl ⟨by decide, _, rfl, fun x y hT hk hk0 => dmv (wn rfl) (hT.ev rfl) ⟨rfl, rfl⟩⟩)) ?_
  refine ed_ (.inr (.inl ⟨by decide, _, rfl, fun x y hT hk hk0 => dnc (wn rfl) (hk 5 _ rfl rfl) ⟨rfl, rfl⟩⟩)) ?_
  refine ed_ (.inr (.inl ⟨by decide, _, rfl, fun x y hT hk hk0 => dfa (wn rfl) (hk 6 _ rfl rfl) fo62_0 ⟨rfl, rfl⟩⟩)) ?_
  refine ed_ (.inl ⟨by decide, rfl, fun x y hS hT hk => dld (v := (.int .i64 p)) (wn rfl) (hk 7 rfl) one3 ((Blk.sm (w := w63.drew) m65 hS (hM71A _)).cell rfl) ⟨SM.refl _, rfl⟩⟩) ?_
  refine ed_ (.inl ⟨by decide, rfl, fun x y hS hT hk => d_slice1 (wn rfl) (show x.eval _ = (.int .i64 p) from (hk 8 rfl)) elm30 rfl (by decide) (fun g w' _ hG hb => ⟨SM.grow hG, g, rfl, hb⟩)⟩) ?_
  refine ed_ (.inr (.inr ⟨rfl, fun x y hS hT hk => ?_⟩)) ?_
  ·skip
   obtain ⟨gb, hvb, hbb⟩ := hk 9 rfl
   have hG : Grow w63 y := Grow.trans ((Grow.refl _).drew) (SM.grown (by rw [hM71] at hS; exact hS))
   have hR := owg hG ho69
   have hO := owg hG ho68
   have hBl := blg b67 hG (Nat.le_trans hB b67.size)
   refine d_append (wn rfl) (show x.eval _ = pa from (hk 4 rfl)) hvb elm30 hR hbb rfl rfl (by omega) (by decide) (Nat.le_trans hB hBl.size) ?_
   intro v' w' h1 h2 h3
   exact ⟨h1, below_by hBl h2 (Nat.le_trans hB hBl.size) (fun k hk => (own_lt hR k hk).1), (m65.grow hG).by h2 op_, (m66.grow hG).by h2 off11, own_by hO h2 ap2, lies_ne h3 op_ (m65.grow hG).lt, lies_ne h3 off11 (m66.grow hG).lt, lies_ap h3 ap2 hO⟩
  refine ed_ (.inr (.inl ⟨by decide, _, rfl, fun x y hT hk hk0 => dnc (wn rfl) (hk 0 _ rfl rfl) ⟨rfl, rfl⟩⟩)) ?_
  refine ed_ (.inr (.inl ⟨by decide, _, rfl, fun x y hT hk hk0 => dfa (wn rfl) (hk 11 _ rfl rfl) fo62_4 ⟨rfl, rfl⟩⟩)) ?_
  exact eachD_one
 rintro a72 w73 hA74 ⟨hP76, hW77⟩
 obtain ⟨v78, hv79⟩ : ∃ v', v' = (a72.tmps.getD 110 undef) := ⟨_, rfl⟩
 have hW80 : (fun v' w' => w'.ownsRow Bd 3 1 v' (path.length + 1) ((paE path) ++ (#[.int .i64 p] : Array Value).toList) ∧ Below Bd w w' ∧ Blk w' g (walkC p (updR r d (aluR i.fn (r k) (orR r i.b i.imm))) rd ev pa) 62 ∧ Blk w' g3 (insC ⟨3, ((d : Nat) : Int), ((k : Nat) : Int), i.b, i.imm, i.loc, i.off, i.index, i.size, i.fn, i.acq, i.weak, i.rel, i.pred, i.succ, i.to, i.zero⟩) 23 ∧ w'.ownsRow Bd 52 15 ev evs.length (evE evs) ∧ v'.ownBlock ≠ some g ∧ v'.ownBlock ≠ some g3 ∧ ∀ k, ev.ownBlock = some k → v'.ownBlock ≠ some k) v78 w73 := by rw [hv79]; exact hW77
 obtain ⟨ho81, b82, m83, m84, ho85, off86, off87, ap88⟩ := hW80
 have ap89 : ∀ k, v78.ownBlock = some k → ev.ownBlock ≠ some k := fun k h1 h2 => ap88 k h2 h1
 have hA90 : St 117 [(0, (.pointer (some ⟨g, 0, none⟩))), (4, (.bool false)), (5, (.int .i64 (p + 1))), (110, v78), (112, (.pointer (some ⟨g, 11, none⟩)))] a72 := hA74.cut _ (fc (hA74.get 0 _ rfl) (fc (hA74.get 4 _ rfl) (fc (hA74.get 5 _ rfl) (fc hv79.symm (fc (hP76 12 _ (Nat.le_of_ble_eq_true rfl) (by decide) rfl) fn_)))))
 refine dst_ (v := v78) (wn rfl) (hA90.ev rfl) (hA90.ev rfl) one30 (one_slice (own_form ho81)) m83 (Nat.le_of_ble_eq_true rfl) ?_
 intro w91 hU92 (m93 : Blk w91 g (walkC p (updR r d (aluR i.fn (r k) (orR r i.b i.imm))) rd ev v78) 62)
 have m94 := m84.upd hU92 (Ne.symm n9)
 have b95 := hU92.below b82 hge
 have ho96 := own_upd ho85 hU92 oe
 have ho97 := own_upd ho81 hU92 off86
 refine tn_ ?_
 refine wp_seq ?_
 refine wp_region_lit ?_
 refine qs hA90 rfl (dmv (wn rfl) (hA90.ev rfl) ?_)
 intro a98 hA99
 refine qs hA99 rfl (dmv (wn rfl) (hA99.ev rfl) ?_)
 intro a100 hA101
 refine qs hA101 rfl (dnc (wn rfl) (hA101.ev rfl) ?_)
 intro a102 hA103
 refine qs hA103 rfl (dfa (wn rfl) (hA103.ev rfl) fo62_0 ?_)
 intro a104 hA105
 refine qs hA105 rfl (dst_ (v := (.int .i64 (p + 1))) (wn rfl) (hA105.ev rfl) (hA105.ev rfl) one3 rfl m93 (Nat.le_of_ble_eq_true rfl) ?_)
 intro w106 hU107 (m108 : Blk w106 g (walkC (p + 1) (updR r d (aluR i.fn (r k) (orR r i.b i.imm))) rd ev v78) 62)
 have m109 := m94.upd hU107 (Ne.symm n9)
 have b110 := hU107.below b95 hge
 have ho111 := own_upd ho96 hU107 oe
 have ho112 := own_upd ho97 hU107 off86
 intro a113 hA114
 refine qe_ ?_
 refine tn_ ?_
 refine wp_seq ?_
 refine wp_region_lit ?_
 refine qs hA114 rfl (das (wn rfl) (hA114.ev rfl) ?_)
 intro a115 hA116
 refine qe_ ?_
 refine tn_ ?_
 refine wp_ret ?_
 refine ret1 rfl hA116 (v := (.bool true)) rfl ?_
 exact ⟨rfl, b110, rd, ev, v78, m108, hge, (hrd.below b110), ho111, (by rw [List.length_append, ← paE_snoc]; exact ho112), oe, off86, ap89⟩
set_option maxHeartbeats 4000000 in
set_option maxRecDepth 4000 in
theorem step_7 (Bd g : Nat) (p : Int) (r : Nat → Int) (rd ev pa : Value) (i : Ins) (rds : List Int) (evs : List Ev) (path : List Int) (w : World) (hB : Bd ≤ w.heap.size) (hW : WS Bd g w p r rds evs path rd ev pa) (hne : evs.length ≤ 1000) (hnp : path.length ≤ 1000) (hr : ∀ k, wfI (r k)) (hp : 0 ≤ p) (hp2 : p ≤ 1000) : Calls Try.prog 36 #[.pointer (some ⟨g, 0, none⟩), .agg (insC ⟨7, i.dst, i.a, i.b, i.imm, i.loc, i.off, i.index, i.size, i.fn, i.acq, i.weak, i.rel, i.pred, i.succ, i.to, i.zero⟩)] w fun e w' => e = .returned (.bool true) ∧ Below Bd w w' ∧ ∃ rd' ev' pa', WS Bd g w' (p + 1) r rds (evs ++ [ev0 { i with op := 7 } path.length p]) (path ++ [p]) rd' ev' pa' := by
 obtain ⟨hb, hge, hrd, hev, hpa, oe, op_, ap⟩ := hW
 have ap2 : ∀ k, ev.ownBlock = some k → pa.ownBlock ≠ some k := fun k h1 h2 => ap k h2 h1
 have b0 : Below Bd w w := Below.refl _ _
 refine enter (n := 117) Try.func36 rfl rfl (Nat.le_of_ble_eq_true rfl) ?_
 intro a1 hA2
 refine wp_seq ?_
 refine wp_region_lit ?_
 refine qs hA2 rfl (d_box (wn rfl) (hA2.ev rfl) ?_)
 intro g3 w4 eg5 hG6 (m7 : Blk w4 g3 (insC ⟨7, i.dst, i.a, i.b, i.imm, i.loc, i.off, i.index, i.size, i.fn, i.acq, i.weak, i.rel, i.pred, i.succ, i.to, i.zero⟩) 23)
 have ge8 : Bd ≤ g3 := eg5 ▸ (Nat.le_trans hB b0.size)
 have n9 : g ≠ g3 := fun h => Nat.lt_irrefl _ ((h.trans eg5) ▸ hb.lt)
 have off10 := own_new hev eg5
 have off11 := own_new hpa eg5
 have m12 := hb.grow hG6
 have b13 := blg b0 hG6 (Nat.le_trans hB b0.size)
 have ho14 := owg hG6 hev
 have ho15 := owg hG6 hpa
 intro a16 hA17
 refine qs hA17 rfl (das (wn rfl) (hA17.ev rfl) ?_)
 intro a18 hA19
 refine qe_ ?_
 refine tn_ ?_
 refine wp_seq ?_
 refine wp_region_lit ?_
 refine qs hA19 rfl (dmv (wn rfl) (hA19.ev rfl) ?_)
 intro a20 hA21
 refine qs hA21 rfl (dnc (wn rfl) (hA21.ev rfl) ?_)
 intro a22 hA23
 refine qs hA23 rfl (dfa (wn rfl) (hA23.ev rfl) fo62_0 ?_)
 intro a24 hA25
 refine qs hA25 rfl (dld (v := (.int .i64 p)) (wn rfl) (hA25.ev rfl) one3 (m12.cell rfl) ?_)
 intro a26 hA27
 refine qs hA27 rfl (dbn (wn rfl) (hA27.ev rfl) (hA27.ev rfl) (b_add _ _ p 1 _ (by omega) (by omega)) ?_)
 intro a28 hA29
 refine qs hA29 rfl (das (wn rfl) (hA29.ev rfl) ?_)
 intro a30 hA31
 refine qe_ ?_
 refine tn_ ?_
 refine wp_seq ?_
 refine wp_seq ?_
 refine wp_region_lit ?_
 refine qs hA31 rfl (dfa (wn rfl) (hA31.ev rfl) fo23_0 ?_)
 intro a32 hA33
 refine qs hA33 rfl (dld (v := (.int .i64 7)) (wn rfl) (hA33.ev rfl) one3 (m7.cell rfl) ?_)
 intro a34 hA35
 refine qe_ ?_
 refine tn_ ?_
 refine wp_block ?_
 refine wp_seq ?_
 refine wp_region_lit ?_
 refine qs hA35 rfl (dbn (wn rfl) (hA35.ev rfl) (hA35.ev rfl) (b_eq _ _ 7 1 false _ rfl) ?_)
 intro a36 hA37
 refine qs hA37 rfl (das (wn rfl) (hA37.ev rfl) ?_)
 intro a38 hA39
 refine qe_ ?_
 refine tn_ ?_
 refine c_false hA39 rfl ?_
 refine wp_seq ?_
 refine wp_region_lit ?_
 refine qs hA39 rfl (dbn (wn rfl) (hA39.ev rfl) (hA39.ev rfl) (b_eq _ _ 7 2 false _ rfl) ?_)
 intro a40 hA41
 refine qs hA41 rfl (das (wn rfl) (hA41.ev rfl) ?_)
 intro a42 hA43
 refine qe_ ?_
 refine tn_ ?_
 refine c_false hA43 rfl ?_
 refine wp_seq ?_
 refine wp_region_lit ?_
 refine qs hA43 rfl (dbn (wn rfl) (hA43.ev rfl) (hA43.ev rfl) (b_eq _ _ 7 3 false _ rfl) ?_)
 intro a44 hA45
 refine qs hA45 rfl (das (wn rfl) (hA45.ev rfl) ?_)
 intro a46 hA47
 refine qe_ ?_
 refine tn_ ?_
 refine c_false hA47 rfl ?_
 refine wp_seq ?_
 refine wp_seq ?_
 refine wp_region_lit ?_
 refine qs hA47 rfl (dbn (wn rfl) (hA47.ev rfl) (hA47.ev rfl) (b_eq _ _ 7 4 false _ rfl) ?_)
 intro a48 hA49
 refine qs hA49 rfl (das (wn rfl) (hA49.ev rfl) ?_)
 intro a50 hA51
 refine qe_ ?_
 refine tn_ ?_
 refine c_false hA51 rfl ?_
 refine wp_seq ?_
 refine wp_region_lit ?_
 refine qs hA51 rfl (dbn (wn rfl) (hA51.ev rfl) (hA51.ev rfl) (b_eq _ _ 7 5 false _ rfl) ?_)
 intro a52 hA53
 refine qs hA53 rfl (das (wn rfl) (hA53.ev rfl) ?_)
 intro a54 hA55
 refine qe_ ?_
 refine tn_ ?_
 refine c_false hA55 rfl ?_
 refine wp_region_lit ?_
 refine qs hA55 rfl (dbn (wn rfl) (hA55.ev rfl) (hA55.ev rfl) (b_eq _ _ 7 6 false _ rfl) ?_)
 intro a56 hA57
 refine qs hA57 rfl (das (wn rfl) (hA57.ev rfl) ?_)
 intro a58 hA59
 refine qe_ ?_
 refine tn_ ?_
 refine c_false hA59 rfl ?_
 refine wp_seq ?_
 refine wp_seq ?_
 refine wp_region_lit ?_
 refine qs hA59 rfl (dbn (wn rfl) (hA59.ev rfl) (hA59.ev rfl) (b_eq _ _ 7 7 true _ rfl) ?_)
 intro a60 hA61
 refine qs hA61 rfl (das (wn rfl) (hA61.ev rfl) ?_)
 intro a62 hA63
 refine qe_ ?_
 refine tn_ ?_
 refine c_true hA63 rfl ?_
 refine wp_skip ?_
 refine tn_ ?_
 refine c_true hA63 rfl ?_
 have hA64 : St 117 [(0, (.pointer (some ⟨g, 0, none⟩))), (3, (.pointer (some ⟨g3, 0, none⟩))), (4, (.bool false)), (5, (.int .i64 (p + 1)))] a62 := hA63.sub rfl
 let M65 : Nat → Option (Array Value) := fun _ => none
 have hM65 : M65 = fun _ => none := rfl
 clear_value M65
 have hM65A : ∀ k, M65 k = none := fun k => congrFun hM65 k
 have hM65B : ∀ k, k < Bd → M65 k = none := fun k _ => hM65A k
 refine drawnL (S := SM M65) rfl (tabQ [some (.pointer (some ⟨g, 0, none⟩)), some (.pointer (some ⟨g, 0, none⟩)), some (.pointer (some ⟨g, 0, none⟩)), some (.pointer (some ⟨g, 10, none⟩)), none, some (.pointer (some ⟨g, 0, none⟩)), none, none, none, none, some (.pointer (some ⟨g, 0, none⟩)), some (.pointer (some ⟨g, 10, none⟩))] [cv (.pointer (some ⟨g, 0, none⟩)), cv (.pointer (some ⟨g, 0, none⟩)), cv (.pointer (some ⟨g, 0, none⟩)), cv (.pointer (some ⟨g, 10, none⟩)), cv ev, cv (.pointer (some ⟨g, 0, none⟩)), cv (.agg (insC ⟨7, i.dst, i.a, i.b, i.imm, i.loc, i.off, i.index, i.size, i.fn, i.acq, i.weak, i.rel, i.pred, i.succ, i.to, i.zero⟩)), cv (.agg #[.int .i64 0, .int .i64 ((path.length : Nat) : Int), .int .i64 p, .int .i64 7, .int .i64 0, .int .i64 0, .bool false, .bool false, .int .i64 0, .int .i64 0, .bool i.acq, .bool i.weak, .bool i.rel, .int .i64 i.pred, .int .i64 i.succ]), cs1 M65 hM65A #[.int .i64 0, .int .i64 ((path.length : Nat) : Int), .int .i64 p, .int .i64 7, .int .i64 0, .int .i64 0, .bool false, .bool false, .int .i64 0, .int .i64 0, .bool i.acq, .bool i.weak, .bool i.rel, .int .i64 i.pred, .int .i64 i.succ] 52, cfree, cv (.pointer (some ⟨g, 0, none⟩)), cv (.pointer (some ⟨g, 10, none⟩))]) (some 9) (fun i => (([some (.pointer (some ⟨g, 0, none⟩)), some (.pointer (some ⟨g, 0, none⟩)), some (.pointer (some ⟨g, 0, none⟩)), some (.pointer (some ⟨g, 10, none⟩)), none, some (.pointer (some ⟨g, 0, none⟩)), none, none, none, none, some (.pointer (some ⟨g, 0, none⟩)), some (.pointer (some ⟨g, 10, none⟩))] : List (Option Value))[i]?).getD none) (fun v' w' => w'.ownsRow Bd 52 15 v' (evs.length + 1) ((evE evs) ++ (#[.int .i64 0, .int .i64 ((path.length : Nat) : Int), .int .i64 p, .int .i64 7, .int .i64 0, .int .i64 0, .bool false, .bool false, .int .i64 0, .int .i64 0, .bool i.acq, .bool i.weak, .bool i.rel, .int .i64 i.pred, .int .i64 i.succ] : Array Value).toList) ∧ Below Bd w w' ∧ Blk w' g (walkC p r rd ev pa) 62 ∧ Blk w' g3 (insC ⟨7, i.dst, i.a, i.b, i.imm, i.loc, i.off, i.index, i.size, i.fn, i.acq, i.weak, i.rel, i.pred, i.succ, i.to, i.zero⟩) 23 ∧ w'.ownsRow Bd 3 1 pa path.length (paE path) ∧ v'.ownBlock ≠ some g ∧ v'.ownBlock ≠ some g3 ∧ ∀ k, pa.ownBlock = some k → v'.ownBlock ≠ some k) [11, 9, 0, 1, 2, 3, 4, 5, 6, 7, 8, 10] [4, 8, 7, 3, 5, 6, 2, 1] mixedY SM.refl SM.trans hA64 (by kernel_rfl) (by kernel_rfl) (tabQ_cv _ _) ?_ ?_
 ·skip
  refine ed_ (.inr (.inl ⟨by decide, _, rfl, fun x y hT hk hk0 => dmv (wn rfl) (hT.ev rfl) ⟨rfl, rfl⟩⟩)) ?_
  refine ed_ (.inr (.inl ⟨by decide, _, rfl, fun x y hT hk hk0 => dmv (wn rfl) (hT.ev rfl) ⟨rfl, rfl⟩⟩)) ?_
  refine ed_ (.inr (.inl ⟨by decide, _, rfl, fun x y hT hk hk0 => dnc (wn rfl) (hk 1 _ rfl rfl) ⟨rfl, rfl⟩⟩)) ?_
  refine ed_ (.inr (.inl ⟨by decide, _, rfl, fun x y hT hk hk0 => dfa (wn rfl) (hk 2 _ rfl rfl) fo62_3 ⟨rfl, rfl⟩⟩)) ?_
  refine ed_ (.inl ⟨by decide, rfl, fun x y hS hT hk => dld (v := ev) (wn rfl) (hk 3 rfl) one44 ((Blk.sm (w := w4.drew) m12 hS (hM65A _)).cell rfl) ⟨SM.refl _, rfl⟩⟩) ?_
  refine ed_ (.inr (.inl ⟨by decide, _, rfl, fun x y hT hk hk0 => dmv (wn rfl) (hT.ev rfl) ⟨rfl, rfl⟩⟩)) ?_
  refine ed_ (.inl ⟨by decide, rfl, fun x y hS hT hk => dlr (cs := (insC ⟨7, i.dst, i.a, i.b, i.imm, i.loc, i.off, i.index, i.size, i.fn, i.acq, i.weak, i.rel, i.pred, i.succ, i.to, i.zero⟩)) (wn rfl) (hT.ev rfl) row23 (Blk.sm (w := w4.drew) m7 hS (hM65A _)) ⟨SM.refl _, rfl⟩⟩) ?_
  refine ed_ (.inl ⟨by decide, rfl, fun x y hS hT hk => dcl (wn rfl) ent49 (map2 (show x.eval _ = (.pointer (some ⟨g, 0, none⟩)) from (hk 5 rfl)) (show x.eval _ = (.agg (insC ⟨7, i.dst, i.a, i.b, i.imm, i.loc, i.off, i.index, i.size, i.fn, i.acq, i.weak, i.rel, i.pred, i.succ, i.to, i.zero⟩)) from (hk 6 rfl))) (event_any g p r rd ev pa (⟨7, i.dst, i.a, i.b, i.imm, i.loc, i.off, i.index, i.size, i.fn, i.acq, i.weak, i.rel, i.pred, i.succ, i.to, i.zero⟩) path.length Bd (paE path) y (Blk.sm (w := w4.drew) m12 hS (hM65A _)) (own_sm (w := w4.drew) ho15 hS hM65A)) (fun _ _ ⟨he, hG⟩ => ⟨(.agg #[.int .i64 0, .int .i64 ((path.length : Nat) : Int), .int .i64 p, .int .i64 7, .int .i64 0, .int .i64 0, .bool false, .bool false, .int .i64 0, .int .i64 0, .bool i.acq, .bool i.weak, .bool i.rel, .int .i64 i.pred, .int .i64 i.succ]), he, SM.grow hG, rfl⟩)⟩) ?_
  refine ed_ (.inl ⟨by decide, rfl, fun x y hS hT hk => d_slice1 (wn rfl) (show x.eval _ = (.agg #[.int .i64 0, .int .i64 ((path.length : Nat) : Int), .int .i64 p, .int .i64 7, .int .i64 0, .int .i64 0, .bool false, .bool false, .int .i64 0, .int .i64 0, .bool i.acq, .bool i.weak, .bool i.rel, .int .i64 i.pred, .int .i64 i.succ]) from (hk 7 rfl)) elm44 rfl (by decide) (fun g w' _ hG hb => ⟨SM.grow hG, g, rfl, hb⟩)⟩) ?_
  refine ed_ (.inr (.inr ⟨rfl, fun x y hS hT hk => ?_⟩)) ?_
  ·skip
   obtain ⟨gb, hvb, hbb⟩ := hk 8 rfl
   have hG : Grow w4 y := Grow.trans ((Grow.refl _).drew) (SM.grown (by rw [hM65] at hS; exact hS))
   have hR := owg hG ho14
   have hO := owg hG ho15
   have hBl := blg b13 hG (Nat.le_trans hB b13.size)
   refine d_append (wn rfl) (show x.eval _ = ev from (hk 4 rfl)) hvb elm44 hR hbb rfl rfl (by omega) (by decide) (Nat.le_trans hB hBl.size) ?_
   intro v' w' h1 h2 h3
   exact ⟨h1, below_by hBl h2 (Nat.le_trans hB hBl.size) (fun k hk => (own_lt hR k hk).1), (m12.grow hG).by h2 oe, (m7.grow hG).by h2 off10, own_by hO h2 ap, lies_ne h3 oe (m12.grow hG).lt, lies_ne h3 off10 (m7.grow hG).lt, lies_ap h3 ap hO⟩
  refine ed_ (.inr (.inl ⟨by decide, _, rfl, fun x y hT hk hk0 => dnc (wn rfl) (hk 0 _ rfl rfl) ⟨rfl, rfl⟩⟩)) ?_
  refine ed_ (.inr (.inl ⟨by decide, _, rfl, fun x y hT hk hk0 => dfa (wn rfl) (hk 10 _ rfl rfl) fo62_3 ⟨rfl, rfl⟩⟩)) ?_
  exact eachD_one
 rintro a66 w67 hA68 ⟨hP70, hW71⟩
 obtain ⟨v72, hv73⟩ : ∃ v', v' = (a66.tmps.getD 82 undef) := ⟨_, rfl⟩
 have hW74 : (fun v' w' => w'.ownsRow Bd 52 15 v' (evs.length + 1) ((evE evs) ++ (#[.int .i64 0, .int .i64 ((path.length : Nat) : Int), .int .i64 p, .int .i64 7, .int .i64 0, .int .i64 0, .bool false, .bool false, .int .i64 0, .int .i64 0, .bool i.acq, .bool i.weak, .bool i.rel, .int .i64 i.pred, .int .i64 i.succ] : Array Value).toList) ∧ Below Bd w w' ∧ Blk w' g (walkC p r rd ev pa) 62 ∧ Blk w' g3 (insC ⟨7, i.dst, i.a, i.b, i.imm, i.loc, i.off, i.index, i.size, i.fn, i.acq, i.weak, i.rel, i.pred, i.succ, i.to, i.zero⟩) 23 ∧ w'.ownsRow Bd 3 1 pa path.length (paE path) ∧ v'.ownBlock ≠ some g ∧ v'.ownBlock ≠ some g3 ∧ ∀ k, pa.ownBlock = some k → v'.ownBlock ≠ some k) v72 w67 := by rw [hv73]; exact hW71
 obtain ⟨ho75, b76, m77, m78, ho79, off80, off81, ap82⟩ := hW74
 have ap83 : ∀ k, v72.ownBlock = some k → pa.ownBlock ≠ some k := fun k h1 h2 => ap82 k h2 h1
 have hA84 : St 117 [(0, (.pointer (some ⟨g, 0, none⟩))), (4, (.bool false)), (5, (.int .i64 (p + 1))), (82, v72), (84, (.pointer (some ⟨g, 10, none⟩)))] a66 := hA68.cut _ (fc (hA68.get 0 _ rfl) (fc (hA68.get 4 _ rfl) (fc (hA68.get 5 _ rfl) (fc hv73.symm (fc (hP70 11 _ (Nat.le_of_ble_eq_true rfl) (by decide) rfl) fn_)))))
 refine dst_ (v := v72) (wn rfl) (hA84.ev rfl) (hA84.ev rfl) one44 (one_slice (own_form ho75)) m77 (Nat.le_of_ble_eq_true rfl) ?_
 intro w85 hU86 (m87 : Blk w85 g (walkC p r rd v72 pa) 62)
 have m88 := m78.upd hU86 (Ne.symm n9)
 have b89 := hU86.below b76 hge
 have ho90 := own_upd ho75 hU86 off80
 have ho91 := own_upd ho79 hU86 op_
 refine i_norm ?_
 refine tn_ ?_
 refine wp_seq ?_
 have hA92 : St 117 [(0, (.pointer (some ⟨g, 0, none⟩))), (4, (.bool false)), (5, (.int .i64 (p + 1)))] a66 := hA84.sub rfl
 let M93 : Nat → Option (Array Value) := fun _ => none
 have hM93 : M93 = fun _ => none := rfl
 clear_value M93
 have hM93A : ∀ k, M93 k = none := fun k => congrFun hM93 k
 have hM93B : ∀ k, k < Bd → M93 k = none := fun k _ => hM93A k
 refine drawnL (S := SM M93) rfl (tabQ [some (.pointer (some ⟨g, 0, none⟩)), some (.pointer (some ⟨g, 0, none⟩)), some (.pointer (some ⟨g, 0, none⟩)), some (.pointer (some ⟨g, 11, none⟩)), none, some (.pointer (some ⟨g, 0, none⟩)), some (.pointer (some ⟨g, 0, none⟩)), some (.pointer (some ⟨g, 0, none⟩)), none, none, none, some (.pointer (some ⟨g, 0, none⟩)), some (.pointer (some ⟨g, 11, none⟩))] [cv (.pointer (some ⟨g, 0, none⟩)), cv (.pointer (some ⟨g, 0, none⟩)), cv (.pointer (some ⟨g, 0, none⟩)), cv (.pointer (some ⟨g, 11, none⟩)), cv pa, cv (.pointer (some ⟨g, 0, none⟩)), cv (.pointer (some ⟨g, 0, none⟩)), cv (.pointer (some ⟨g, 0, none⟩)), cv (.int .i64 p), cs1 M93 hM93A #[.int .i64 p] 3, cfree, cv (.pointer (some ⟨g, 0, none⟩)), cv (.pointer (some ⟨g, 11, none⟩))]) (some 10) (fun i => (([some (.pointer (some ⟨g, 0, none⟩)), some (.pointer (some ⟨g, 0, none⟩)), some (.pointer (some ⟨g, 0, none⟩)), some (.pointer (some ⟨g, 11, none⟩)), none, some (.pointer (some ⟨g, 0, none⟩)), some (.pointer (some ⟨g, 0, none⟩)), some (.pointer (some ⟨g, 0, none⟩)), none, none, none, some (.pointer (some ⟨g, 0, none⟩)), some (.pointer (some ⟨g, 11, none⟩))] : List (Option Value))[i]?).getD none) (fun v' w' => w'.ownsRow Bd 3 1 v' (path.length + 1) ((paE path) ++ (#[.int .i64 p] : Array Value).toList) ∧ Below Bd w w' ∧ Blk w' g (walkC p r rd v72 pa) 62 ∧ Blk w' g3 (insC ⟨7, i.dst, i.a, i.b, i.imm, i.loc, i.off, i.index, i.size, i.fn, i.acq, i.weak, i.rel, i.pred, i.succ, i.to, i.zero⟩) 23 ∧ w'.ownsRow Bd 52 15 v72 (evs.length + 1) ((evE evs) ++ (#[.int .i64 0, .int .i64 ((path.length : Nat) : Int), .int .i64 p, .int .i64 7, .int .i64 0, .int .i64 0, .bool false, .bool false, .int .i64 0, .int .i64 0, .bool i.acq, .bool i.weak, .bool i.rel, .int .i64 i.pred, .int .i64 i.succ] : Array Value).toList) ∧ v'.ownBlock ≠ some g ∧ v'.ownBlock ≠ some g3 ∧ ∀ k, v72.ownBlock = some k → v'.ownBlock ≠ some k) [12, 10, 0, 1, 2, 3, 4, 5, 6, 7, 8, 9, 11] [4, 9, 3, 8, 2, 7, 1, 6, 5] mixedY SM.refl SM.trans hA92 (by kernel_rfl) (by kernel_rfl) (tabQ_cv _ _) ?_ ?_
 ·skip
  refine ed_ (.inr (.inl ⟨by decide, _, rfl, fun x y hT hk hk0 => dmv (wn rfl) (hT.ev rfl) ⟨rfl, rfl⟩⟩)) ?_
  refine ed_ (.inr (.inl ⟨by decide, _, rfl, fun x y hT hk hk0 => dmv (wn rfl) (hT.ev rfl) ⟨rfl, rfl⟩⟩)) ?_
  refine ed_ (.inr (.inl ⟨by decide, _, rfl, fun x y hT hk hk0 => dnc (wn rfl) (hk 1 _ rfl rfl) ⟨rfl, rfl⟩⟩)) ?_
  refine ed_ (.inr (.inl ⟨by decide, _, rfl, fun x y hT hk hk0 => dfa (wn rfl) (hk 2 _ rfl rfl) fo62_4 ⟨rfl, rfl⟩⟩)) ?_
  refine ed_ (.inl ⟨by decide, rfl, fun x y hS hT hk => dld (v := pa) (wn rfl) (hk 3 rfl) one30 ((Blk.sm (w := w85.drew) m87 hS (hM93A _)).cell rfl) ⟨SM.refl _, rfl⟩⟩) ?_
  refine ed_ (.inr (.inl ⟨by decide, _, rfl, fun x y hT hk hk0 => dmv (wn rfl) (hT.ev rfl) ⟨rfl, rfl⟩⟩)) ?_
  refine ed_ (.inr (.inl ⟨by decide, _, rfl, fun x y hT hk hk0 => dnc (wn rfl) (hk 5 _ rfl rfl) ⟨rfl, rfl⟩⟩)) ?_
  refine ed_ (.inr (.inl ⟨by decide, _, rfl, fun x y hT hk hk0 => dfa (wn rfl) (hk 6 _ rfl rfl) fo62_0 ⟨rfl, rfl⟩⟩)) ?_
  refine ed_ (.inl ⟨by decide, rfl, fun x y hS hT hk => dld (v := (.int .i64 p)) (wn rfl) (hk 7 rfl) one3 ((Blk.sm (w := w85.drew) m87 hS (hM93A _)).cell rfl) ⟨SM.refl _, rfl⟩⟩) ?_
  refine ed_ (.inl ⟨by decide, rfl, fun x y hS hT hk => d_slice1 (wn rfl) (show x.eval _ = (.int .i64 p) from (hk 8 rfl)) elm30 rfl (by decide) (fun g w' _ hG hb => ⟨SM.grow hG, g, rfl, hb⟩)⟩) ?_
  refine ed_ (.inr (.inr ⟨rfl, fun x y hS hT hk => ?_⟩)) ?_
  ·skip
   obtain ⟨gb, hvb, hbb⟩ := hk 9 rfl
   have hG : Grow w85 y := Grow.trans ((Grow.refl _).drew) (SM.grown (by rw [hM93] at hS; exact hS))
   have hR := owg hG ho91
   have hO := owg hG ho90
   have hBl := blg b89 hG (Nat.le_trans hB b89.size)
   refine d_append (wn rfl) (show x.eval _ = pa from (hk 4 rfl)) hvb elm30 hR hbb rfl rfl (by omega) (by decide) (Nat.le_trans hB hBl.size) ?_
   intro v' w' h1 h2 h3
   exact ⟨h1, below_by hBl h2 (Nat.le_trans hB hBl.size) (fun k hk => (own_lt hR k hk).1), (m87.grow hG).by h2 op_, (m88.grow hG).by h2 off11, own_by hO h2 ap83, lies_ne h3 op_ (m87.grow hG).lt, lies_ne h3 off11 (m88.grow hG).lt, lies_ap h3 ap83 hO⟩
  refine ed_ (.inr (.inl ⟨by decide, _, rfl, fun x y hT hk hk0 => dnc (wn rfl) (hk 0 _ rfl rfl) ⟨rfl, rfl⟩⟩)) ?_
  refine ed_ (.inr (.inl ⟨by decide, _, rfl, fun x y hT hk hk0 => dfa (wn rfl) (hk 11 _ rfl rfl) fo62_4 ⟨rfl, rfl⟩⟩)) ?_
  exact eachD_one
 rintro a94 w95 hA96 ⟨hP98, hW99⟩
 obtain ⟨v100, hv101⟩ : ∃ v', v' = (a94.tmps.getD 110 undef) := ⟨_, rfl⟩
 have hW102 : (fun v' w' => w'.ownsRow Bd 3 1 v' (path.length + 1) ((paE path) ++ (#[.int .i64 p] : Array Value).toList) ∧ Below Bd w w' ∧ Blk w' g (walkC p r rd v72 pa) 62 ∧ Blk w' g3 (insC ⟨7, i.dst, i.a, i.b, i.imm, i.loc, i.off, i.index, i.size, i.fn, i.acq, i.weak, i.rel, i.pred, i.succ, i.to, i.zero⟩) 23 ∧ w'.ownsRow Bd 52 15 v72 (evs.length + 1) ((evE evs) ++ (#[.int .i64 0, .int .i64 ((path.length : Nat) : Int), .int .i64 p, .int .i64 7, .int .i64 0, .int .i64 0, .bool false, .bool false, .int .i64 0, .int .i64 0, .bool i.acq, .bool i.weak, .bool i.rel, .int .i64 i.pred, .int .i64 i.succ] : Array Value).toList) ∧ v'.ownBlock ≠ some g ∧ v'.ownBlock ≠ some g3 ∧ ∀ k, v72.ownBlock = some k → v'.ownBlock ≠ some k) v100 w95 := by rw [hv101]; exact hW99
 obtain ⟨ho103, b104, m105, m106, ho107, off108, off109, ap110⟩ := hW102
 have ap111 : ∀ k, v100.ownBlock = some k → v72.ownBlock ≠ some k := fun k h1 h2 => ap110 k h2 h1
 have hA112 : St 117 [(0, (.pointer (some ⟨g, 0, none⟩))), (4, (.bool false)), (5, (.int .i64 (p + 1))), (110, v100), (112, (.pointer (some ⟨g, 11, none⟩)))] a94 := hA96.cut _ (fc (hA96.get 0 _ rfl) (fc (hA96.get 4 _ rfl) (fc (hA96.get 5 _ rfl) (fc hv101.symm (fc (hP98 12 _ (Nat.le_of_ble_eq_true rfl) (by decide) rfl) fn_)))))
 refine dst_ (v := v100) (wn rfl) (hA112.ev rfl) (hA112.ev rfl) one30 (one_slice (own_form ho103)) m105 (Nat.le_of_ble_eq_true rfl) ?_
 intro w113 hU114 (m115 : Blk w113 g (walkC p r rd v72 v100) 62)
 have m116 := m106.upd hU114 (Ne.symm n9)
 have b117 := hU114.below b104 hge
 have ho118 := own_upd ho107 hU114 off80
 have ho119 := own_upd ho103 hU114 off108
 refine tn_ ?_
 refine wp_seq ?_
 refine wp_region_lit ?_
 refine qs hA112 rfl (dmv (wn rfl) (hA112.ev rfl) ?_)
 intro a120 hA121
 refine qs hA121 rfl (dmv (wn rfl) (hA121.ev rfl) ?_)
 intro a122 hA123
 refine qs hA123 rfl (dnc (wn rfl) (hA123.ev rfl) ?_)
 intro a124 hA125
 refine qs hA125 rfl (dfa (wn rfl) (hA125.ev rfl) fo62_0 ?_)
 intro a126 hA127
 refine qs hA127 rfl (dst_ (v := (.int .i64 (p + 1))) (wn rfl) (hA127.ev rfl) (hA127.ev rfl) one3 rfl m115 (Nat.le_of_ble_eq_true rfl) ?_)
 intro w128 hU129 (m130 : Blk w128 g (walkC (p + 1) r rd v72 v100) 62)
 have m131 := m116.upd hU129 (Ne.symm n9)
 have b132 := hU129.below b117 hge
 have ho133 := own_upd ho118 hU129 off80
 have ho134 := own_upd ho119 hU129 off108
 intro a135 hA136
 refine qe_ ?_
 refine tn_ ?_
 refine wp_seq ?_
 refine wp_region_lit ?_
 refine qs hA136 rfl (das (wn rfl) (hA136.ev rfl) ?_)
 intro a137 hA138
 refine qe_ ?_
 refine tn_ ?_
 refine wp_ret ?_
 refine ret1 rfl hA138 (v := (.bool true)) rfl ?_
 exact ⟨rfl, b132, rd, v72, v100, m130, hge, (hrd.below b132), (by rw [List.length_append, ← evE_snoc]; exact ho133), (by rw [List.length_append, ← paE_snoc]; exact ho134), off80, off108, ap111⟩
set_option maxHeartbeats 4000000 in
set_option maxRecDepth 4000 in
theorem step_8 (Bd g : Nat) (p : Int) (r : Nat → Int) (rd ev pa : Value) (i : Ins) (rds : List Int) (evs : List Ev) (path : List Int) (w : World) (hB : Bd ≤ w.heap.size) (hW : WS Bd g w p r rds evs path rd ev pa) (hne : evs.length ≤ 1000) (hnp : path.length ≤ 1000) (hr : ∀ k, wfI (r k)) (hp : 0 ≤ p) (hp2 : p ≤ 1000) : Calls Try.prog 36 #[.pointer (some ⟨g, 0, none⟩), .agg (insC ⟨8, i.dst, i.a, i.b, i.imm, i.loc, i.off, i.index, i.size, i.fn, i.acq, i.weak, i.rel, i.pred, i.succ, i.to, i.zero⟩)] w fun e w' => e = .returned (.bool true) ∧ Below Bd w w' ∧ ∃ rd' ev' pa', WS Bd g w' (p + 1) r rds (evs ++ [ev0 { i with op := 8 } path.length p]) (path ++ [p]) rd' ev' pa' := by
 obtain ⟨hb, hge, hrd, hev, hpa, oe, op_, ap⟩ := hW
 have ap2 : ∀ k, ev.ownBlock = some k → pa.ownBlock ≠ some k := fun k h1 h2 => ap k h2 h1
 have b0 : Below Bd w w := Below.refl _ _
 refine enter (n := 117) Try.func36 rfl rfl (Nat.le_of_ble_eq_true rfl) ?_
 intro a1 hA2
 refine wp_seq ?_
 refine wp_region_lit ?_
 refine qs hA2 rfl (d_box (wn rfl) (hA2.ev rfl) ?_)
 intro g3 w4 eg5 hG6 (m7 : Blk w4 g3 (insC ⟨8, i.dst, i.a, i.b, i.imm, i.loc, i.off, i.index, i.size, i.fn, i.acq, i.weak, i.rel, i.pred, i.succ, i.to, i.zero⟩) 23)
 have ge8 : Bd ≤ g3 := eg5 ▸ (Nat.le_trans hB b0.size)
 have n9 : g ≠ g3 := fun h => Nat.lt_irrefl _ ((h.trans eg5) ▸ hb.lt)
 have off10 := own_new hev eg5
 have off11 := own_new hpa eg5
 have m12 := hb.grow hG6
 have b13 := blg b0 hG6 (Nat.le_trans hB b0.size)
 have ho14 := owg hG6 hev
 have ho15 := owg hG6 hpa
 intro a16 hA17
 refine qs hA17 rfl (das (wn rfl) (hA17.ev rfl) ?_)
 intro a18 hA19
 refine qe_ ?_
 refine tn_ ?_
 refine wp_seq ?_
 refine wp_region_lit ?_
 refine qs hA19 rfl (dmv (wn rfl) (hA19.ev rfl) ?_)
 intro a20 hA21
 refine qs hA21 rfl (dnc (wn rfl) (hA21.ev rfl) ?_)
 intro a22 hA23
 refine qs hA23 rfl (dfa (wn rfl) (hA23.ev rfl) fo62_0 ?_)
 intro a24 hA25
 refine qs hA25 rfl (dld (v := (.int .i64 p)) (wn rfl) (hA25.ev rfl) one3 (m12.cell rfl) ?_)
 intro a26 hA27
 refine qs hA27 rfl (dbn (wn rfl) (hA27.ev rfl) (hA27.ev rfl) (b_add _ _ p 1 _ (by omega) (by omega)) ?_)
 intro a28 hA29
 refine qs hA29 rfl (das (wn rfl) (hA29.ev rfl) ?_)
 intro a30 hA31
 refine qe_ ?_
 refine tn_ ?_
 refine wp_seq ?_
 refine wp_seq ?_
 refine wp_region_lit ?_
 refine qs hA31 rfl (dfa (wn rfl) (hA31.ev rfl) fo23_0 ?_)
 intro a32 hA33
 refine qs hA33 rfl (dld (v := (.int .i64 8)) (wn rfl) (hA33.ev rfl) one3 (m7.cell rfl) ?_)
 intro a34 hA35
 refine qe_ ?_
 refine tn_ ?_
 refine wp_block ?_
 refine wp_seq ?_
 refine wp_region_lit ?_
 refine qs hA35 rfl (dbn (wn rfl) (hA35.ev rfl) (hA35.ev rfl) (b_eq _ _ 8 1 false _ rfl) ?_)
 intro a36 hA37
 refine qs hA37 rfl (das (wn rfl) (hA37.ev rfl) ?_)
 intro a38 hA39
 refine qe_ ?_
 refine tn_ ?_
 refine c_false hA39 rfl ?_
 refine wp_seq ?_
 refine wp_region_lit ?_
 refine qs hA39 rfl (dbn (wn rfl) (hA39.ev rfl) (hA39.ev rfl) (b_eq _ _ 8 2 false _ rfl) ?_)
 intro a40 hA41
 refine qs hA41 rfl (das (wn rfl) (hA41.ev rfl) ?_)
 intro a42 hA43
 refine qe_ ?_
 refine tn_ ?_
 refine c_false hA43 rfl ?_
 refine wp_seq ?_
 refine wp_region_lit ?_
 refine qs hA43 rfl (dbn (wn rfl) (hA43.ev rfl) (hA43.ev rfl) (b_eq _ _ 8 3 false _ rfl) ?_)
 intro a44 hA45
 refine qs hA45 rfl (das (wn rfl) (hA45.ev rfl) ?_)
 intro a46 hA47
 refine qe_ ?_
 refine tn_ ?_
 refine c_false hA47 rfl ?_
 refine wp_seq ?_
 refine wp_seq ?_
 refine wp_region_lit ?_
 refine qs hA47 rfl (dbn (wn rfl) (hA47.ev rfl) (hA47.ev rfl) (b_eq _ _ 8 4 false _ rfl) ?_)
 intro a48 hA49
 refine qs hA49 rfl (das (wn rfl) (hA49.ev rfl) ?_)
 intro a50 hA51
 refine qe_ ?_
 refine tn_ ?_
 refine c_false hA51 rfl ?_
 refine wp_seq ?_
 refine wp_region_lit ?_
 refine qs hA51 rfl (dbn (wn rfl) (hA51.ev rfl) (hA51.ev rfl) (b_eq _ _ 8 5 false _ rfl) ?_)
 intro a52 hA53
 refine qs hA53 rfl (das (wn rfl) (hA53.ev rfl) ?_)
 intro a54 hA55
 refine qe_ ?_
 refine tn_ ?_
 refine c_false hA55 rfl ?_
 refine wp_region_lit ?_
 refine qs hA55 rfl (dbn (wn rfl) (hA55.ev rfl) (hA55.ev rfl) (b_eq _ _ 8 6 false _ rfl) ?_)
 intro a56 hA57
 refine qs hA57 rfl (das (wn rfl) (hA57.ev rfl) ?_)
 intro a58 hA59
 refine qe_ ?_
 refine tn_ ?_
 refine c_false hA59 rfl ?_
 refine wp_seq ?_
 refine wp_seq ?_
 refine wp_region_lit ?_
 refine qs hA59 rfl (dbn (wn rfl) (hA59.ev rfl) (hA59.ev rfl) (b_eq _ _ 8 7 false _ rfl) ?_)
 intro a60 hA61
 refine qs hA61 rfl (das (wn rfl) (hA61.ev rfl) ?_)
 intro a62 hA63
 refine qe_ ?_
 refine tn_ ?_
 refine c_false hA63 rfl ?_
 refine wp_region_lit ?_
 refine qs hA63 rfl (dbn (wn rfl) (hA63.ev rfl) (hA63.ev rfl) (b_eq _ _ 8 8 true _ rfl) ?_)
 intro a64 hA65
 refine qs hA65 rfl (das (wn rfl) (hA65.ev rfl) ?_)
 intro a66 hA67
 refine qe_ ?_
 refine tn_ ?_
 refine c_true hA67 rfl ?_
 have hA68 : St 117 [(0, (.pointer (some ⟨g, 0, none⟩))), (3, (.pointer (some ⟨g3, 0, none⟩))), (4, (.bool false)), (5, (.int .i64 (p + 1)))] a66 := hA67.sub rfl
 let M69 : Nat → Option (Array Value) := fun _ => none
 have hM69 : M69 = fun _ => none := rfl
 clear_value M69
 have hM69A : ∀ k, M69 k = none := fun k => congrFun hM69 k
 have hM69B : ∀ k, k < Bd → M69 k = none := fun k _ => hM69A k
 refine drawnL (S := SM M69) rfl (tabQ [some (.pointer (some ⟨g, 0, none⟩)), some (.pointer (some ⟨g, 0, none⟩)), some (.pointer (some ⟨g, 0, none⟩)), some (.pointer (some ⟨g, 10, none⟩)), none, some (.pointer (some ⟨g, 0, none⟩)), none, none, none, none, some (.pointer (some ⟨g, 0, none⟩)), some (.pointer (some ⟨g, 10, none⟩))] [cv (.pointer (some ⟨g, 0, none⟩)), cv (.pointer (some ⟨g, 0, none⟩)), cv (.pointer (some ⟨g, 0, none⟩)), cv (.pointer (some ⟨g, 10, none⟩)), cv ev, cv (.pointer (some ⟨g, 0, none⟩)), cv (.agg (insC ⟨8, i.dst, i.a, i.b, i.imm, i.loc, i.off, i.index, i.size, i.fn, i.acq, i.weak, i.rel, i.pred, i.succ, i.to, i.zero⟩)), cv (.agg #[.int .i64 0, .int .i64 ((path.length : Nat) : Int), .int .i64 p, .int .i64 8, .int .i64 0, .int .i64 0, .bool false, .bool false, .int .i64 0, .int .i64 0, .bool i.acq, .bool i.weak, .bool i.rel, .int .i64 i.pred, .int .i64 i.succ]), cs1 M69 hM69A #[.int .i64 0, .int .i64 ((path.length : Nat) : Int), .int .i64 p, .int .i64 8, .int .i64 0, .int .i64 0, .bool false, .bool false, .int .i64 0, .int .i64 0, .bool i.acq, .bool i.weak, .bool i.rel, .int .i64 i.pred, .int .i64 i.succ] 52, cfree, cv (.pointer (some ⟨g, 0, none⟩)), cv (.pointer (some ⟨g, 10, none⟩))]) (some 9) (fun i => (([some (.pointer (some ⟨g, 0, none⟩)), some (.pointer (some ⟨g, 0, none⟩)), some (.pointer (some ⟨g, 0, none⟩)), some (.pointer (some ⟨g, 10, none⟩)), none, some (.pointer (some ⟨g, 0, none⟩)), none, none, none, none, some (.pointer (some ⟨g, 0, none⟩)), some (.pointer (some ⟨g, 10, none⟩))] : List (Option Value))[i]?).getD none) (fun v' w' => w'.ownsRow Bd 52 15 v' (evs.length + 1) ((evE evs) ++ (#[.int .i64 0, .int .i64 ((path.length : Nat) : Int), .int .i64 p, .int .i64 8, .int .i64 0, .int .i64 0, .bool false, .bool false, .int .i64 0, .int .i64 0, .bool i.acq, .bool i.weak, .bool i.rel, .int .i64 i.pred, .int .i64 i.succ] : Array Value).toList) ∧ Below Bd w w' ∧ Blk w' g (walkC p r rd ev pa) 62 ∧ Blk w' g3 (insC ⟨8, i.dst, i.a, i.b, i.imm, i.loc, i.off, i.index, i.size, i.fn, i.acq, i.weak, i.rel, i.pred, i.succ, i.to, i.zero⟩) 23 ∧ w'.ownsRow Bd 3 1 pa path.length (paE path) ∧ v'.ownBlock ≠ some g ∧ v'.ownBlock ≠ some g3 ∧ ∀ k, pa.ownBlock = some k → v'.ownBlock ≠ some k) [11, 9, 0, 1, 2, 3, 4, 5, 6, 7, 8, 10] [4, 8, 7, 3, 5, 6, 2, 1] mixedY SM.refl SM.trans hA68 (by kernel_rfl) (by kernel_rfl) (tabQ_cv _ _) ?_ ?_
 ·skip
  refine ed_ (.inr (.inl ⟨by decide, _, rfl, fun x y hT hk hk0 => dmv (wn rfl) (hT.ev rfl) ⟨rfl, rfl⟩⟩)) ?_
  refine ed_ (.inr (.inl ⟨by decide, _, rfl, fun x y hT hk hk0 => dmv (wn rfl) (hT.ev rfl) ⟨rfl, rfl⟩⟩)) ?_
  refine ed_ (.inr (.inl ⟨by decide, _, rfl, fun x y hT hk hk0 => dnc (wn rfl) (hk 1 _ rfl rfl) ⟨rfl, rfl⟩⟩)) ?_
  refine ed_ (.inr (.inl ⟨by decide, _, rfl, fun x y hT hk hk0 => dfa (wn rfl) (hk 2 _ rfl rfl) fo62_3 ⟨rfl, rfl⟩⟩)) ?_
  refine ed_ (.inl ⟨by decide, rfl, fun x y hS hT hk => dld (v := ev) (wn rfl) (hk 3 rfl) one44 ((Blk.sm (w := w4.drew) m12 hS (hM69A _)).cell rfl) ⟨SM.refl _, rfl⟩⟩) ?_
  refine ed_ (.inr (.inl ⟨by decide, _, rfl, fun x y hT hk hk0 => dmv (wn rfl) (hT.ev rfl) ⟨rfl, rfl⟩⟩)) ?_
  refine ed_ (.inl ⟨by decide, rfl, fun x y hS hT hk => dlr (cs := (insC ⟨8, i.dst, i.a, i.b, i.imm, i.loc, i.off, i.index, i.size, i.fn, i.acq, i.weak, i.rel, i.pred, i.succ, i.to, i.zero⟩)) (wn rfl) (hT.ev rfl) row23 (Blk.sm (w := w4.drew) m7 hS (hM69A _)) ⟨SM.refl _, rfl⟩⟩) ?_
  refine ed_ (.inl ⟨by decide, rfl, fun x y hS hT hk => dcl (wn rfl) ent49 (map2 (show x.eval _ = (.pointer (some ⟨g, 0, none⟩)) from (hk 5 rfl)) (show x.eval _ = (.agg (insC ⟨8, i.dst, i.a, i.b, i.imm, i.loc, i.off, i.index, i.size, i.fn, i.acq, i.weak, i.rel, i.pred, i.succ, i.to, i.zero⟩)) from (hk 6 rfl))) (event_any g p r rd ev pa (⟨8, i.dst, i.a, i.b, i.imm, i.loc, i.off, i.index, i.size, i.fn, i.acq, i.weak, i.rel, i.pred, i.succ, i.to, i.zero⟩) path.length Bd (paE path) y (Blk.sm (w := w4.drew) m12 hS (hM69A _)) (own_sm (w := w4.drew) ho15 hS hM69A)) (fun _ _ ⟨he, hG⟩ => ⟨(.agg #[.int .i64 0, .int .i64 ((path.length : Nat) : Int), .int .i64 p, .int .i64 8, .int .i64 0, .int .i64 0, .bool false, .bool false, .int .i64 0, .int .i64 0, .bool i.acq, .bool i.weak, .bool i.rel, .int .i64 i.pred, .int .i64 i.succ]), he, SM.grow hG, rfl⟩)⟩) ?_
  refine ed_ (.inl ⟨by decide, rfl, fun x y hS hT hk => d_slice1 (wn rfl) (show x.eval _ = (.agg #[.int .i64 0, .int .i64 ((path.length : Nat) : Int), .int .i64 p, .int .i64 8, .int .i64 0, .int .i64 0, .bool false, .bool false, .int .i64 0, .int .i64 0, .bool i.acq, .bool i.weak, .bool i.rel, .int .i64 i.pred, .int .i64 i.succ]) from (hk 7 rfl)) elm44 rfl (by decide) (fun g w' _ hG hb => ⟨SM.grow hG, g, rfl, hb⟩)⟩) ?_
  refine ed_ (.inr (.inr ⟨rfl, fun x y hS hT hk => ?_⟩)) ?_
  ·skip
   obtain ⟨gb, hvb, hbb⟩ := hk 8 rfl
   have hG : Grow w4 y := Grow.trans ((Grow.refl _).drew) (SM.grown (by rw [hM69] at hS; exact hS))
   have hR := owg hG ho14
   have hO := owg hG ho15
   have hBl := blg b13 hG (Nat.le_trans hB b13.size)
   refine d_append (wn rfl) (show x.eval _ = ev from (hk 4 rfl)) hvb elm44 hR hbb rfl rfl (by omega) (by decide) (Nat.le_trans hB hBl.size) ?_
   intro v' w' h1 h2 h3
   exact ⟨h1, below_by hBl h2 (Nat.le_trans hB hBl.size) (fun k hk => (own_lt hR k hk).1), (m12.grow hG).by h2 oe, (m7.grow hG).by h2 off10, own_by hO h2 ap, lies_ne h3 oe (m12.grow hG).lt, lies_ne h3 off10 (m7.grow hG).lt, lies_ap h3 ap hO⟩
  refine ed_ (.inr (.inl ⟨by decide, _, rfl, fun x y hT hk hk0 => dnc (wn rfl) (hk 0 _ rfl rfl) ⟨rfl, rfl⟩⟩)) ?_
  refine ed_ (.inr (.inl ⟨by decide, _, rfl, fun x y hT hk hk0 => dfa (wn rfl) (hk 10 _ rfl rfl) fo62_3 ⟨rfl, rfl⟩⟩)) ?_
  exact eachD_one
 rintro a70 w71 hA72 ⟨hP74, hW75⟩
 obtain ⟨v76, hv77⟩ : ∃ v', v' = (a70.tmps.getD 82 undef) := ⟨_, rfl⟩
 have hW78 : (fun v' w' => w'.ownsRow Bd 52 15 v' (evs.length + 1) ((evE evs) ++ (#[.int .i64 0, .int .i64 ((path.length : Nat) : Int), .int .i64 p, .int .i64 8, .int .i64 0, .int .i64 0, .bool false, .bool false, .int .i64 0, .int .i64 0, .bool i.acq, .bool i.weak, .bool i.rel, .int .i64 i.pred, .int .i64 i.succ] : Array Value).toList) ∧ Below Bd w w' ∧ Blk w' g (walkC p r rd ev pa) 62 ∧ Blk w' g3 (insC ⟨8, i.dst, i.a, i.b, i.imm, i.loc, i.off, i.index, i.size, i.fn, i.acq, i.weak, i.rel, i.pred, i.succ, i.to, i.zero⟩) 23 ∧ w'.ownsRow Bd 3 1 pa path.length (paE path) ∧ v'.ownBlock ≠ some g ∧ v'.ownBlock ≠ some g3 ∧ ∀ k, pa.ownBlock = some k → v'.ownBlock ≠ some k) v76 w71 := by rw [hv77]; exact hW75
 obtain ⟨ho79, b80, m81, m82, ho83, off84, off85, ap86⟩ := hW78
 have ap87 : ∀ k, v76.ownBlock = some k → pa.ownBlock ≠ some k := fun k h1 h2 => ap86 k h2 h1
 have hA88 : St 117 [(0, (.pointer (some ⟨g, 0, none⟩))), (4, (.bool false)), (5, (.int .i64 (p + 1))), (82, v76), (84, (.pointer (some ⟨g, 10, none⟩)))] a70 := hA72.cut _ (fc (hA72.get 0 _ rfl) (fc (hA72.get 4 _ rfl) (fc (hA72.get 5 _ rfl) (fc hv77.symm (fc (hP74 11 _ (Nat.le_of_ble_eq_true rfl) (by decide) rfl) fn_)))))
 refine dst_ (v := v76) (wn rfl) (hA88.ev rfl) (hA88.ev rfl) one44 (one_slice (own_form ho79)) m81 (Nat.le_of_ble_eq_true rfl) ?_
 intro w89 hU90 (m91 : Blk w89 g (walkC p r rd v76 pa) 62)
 have m92 := m82.upd hU90 (Ne.symm n9)
 have b93 := hU90.below b80 hge
 have ho94 := own_upd ho79 hU90 off84
 have ho95 := own_upd ho83 hU90 op_
 refine i_norm ?_
 refine tn_ ?_
 refine wp_seq ?_
 have hA96 : St 117 [(0, (.pointer (some ⟨g, 0, none⟩))), (4, (.bool false)), (5, (.int .i64 (p + 1)))] a70 := hA88.sub rfl
 let M97 : Nat → Option (Array Value) := fun _ => none
 have hM97 : M97 = fun _ => none := rfl
 clear_value M97
 have hM97A : ∀ k, M97 k = none := fun k => congrFun hM97 k
 have hM97B : ∀ k, k < Bd → M97 k = none := fun k _ => hM97A k
 refine drawnL (S := SM M97) rfl (tabQ [some (.pointer (some ⟨g, 0, none⟩)), some (.pointer (some ⟨g, 0, none⟩)), some (.pointer (some ⟨g, 0, none⟩)), some (.pointer (some ⟨g, 11, none⟩)), none, some (.pointer (some ⟨g, 0, none⟩)), some (.pointer (some ⟨g, 0, none⟩)), some (.pointer (some ⟨g, 0, none⟩)), none, none, none, some (.pointer (some ⟨g, 0, none⟩)), some (.pointer (some ⟨g, 11, none⟩))] [cv (.pointer (some ⟨g, 0, none⟩)), cv (.pointer (some ⟨g, 0, none⟩)), cv (.pointer (some ⟨g, 0, none⟩)), cv (.pointer (some ⟨g, 11, none⟩)), cv pa, cv (.pointer (some ⟨g, 0, none⟩)), cv (.pointer (some ⟨g, 0, none⟩)), cv (.pointer (some ⟨g, 0, none⟩)), cv (.int .i64 p), cs1 M97 hM97A #[.int .i64 p] 3, cfree, cv (.pointer (some ⟨g, 0, none⟩)), cv (.pointer (some ⟨g, 11, none⟩))]) (some 10) (fun i => (([some (.pointer (some ⟨g, 0, none⟩)), some (.pointer (some ⟨g, 0, none⟩)), some (.pointer (some ⟨g, 0, none⟩)), some (.pointer (some ⟨g, 11, none⟩)), none, some (.pointer (some ⟨g, 0, none⟩)), some (.pointer (some ⟨g, 0, none⟩)), some (.pointer (some ⟨g, 0, none⟩)), none, none, none, some (.pointer (some ⟨g, 0, none⟩)), some (.pointer (some ⟨g, 11, none⟩))] : List (Option Value))[i]?).getD none) (fun v' w' => w'.ownsRow Bd 3 1 v' (path.length + 1) ((paE path) ++ (#[.int .i64 p] : Array Value).toList) ∧ Below Bd w w' ∧ Blk w' g (walkC p r rd v76 pa) 62 ∧ Blk w' g3 (insC ⟨8, i.dst, i.a, i.b, i.imm, i.loc, i.off, i.index, i.size, i.fn, i.acq, i.weak, i.rel, i.pred, i.succ, i.to, i.zero⟩) 23 ∧ w'.ownsRow Bd 52 15 v76 (evs.length + 1) ((evE evs) ++ (#[.int .i64 0, .int .i64 ((path.length : Nat) : Int), .int .i64 p, .int .i64 8, .int .i64 0, .int .i64 0, .bool false, .bool false, .int .i64 0, .int .i64 0, .bool i.acq, .bool i.weak, .bool i.rel, .int .i64 i.pred, .int .i64 i.succ] : Array Value).toList) ∧ v'.ownBlock ≠ some g ∧ v'.ownBlock ≠ some g3 ∧ ∀ k, v76.ownBlock = some k → v'.ownBlock ≠ some k) [12, 10, 0, 1, 2, 3, 4, 5, 6, 7, 8, 9, 11] [4, 9, 3, 8, 2, 7, 1, 6, 5] mixedY SM.refl SM.trans hA96 (by kernel_rfl) (by kernel_rfl) (tabQ_cv _ _) ?_ ?_
 ·skip
  refine ed_ (.inr (.inl ⟨by decide, _, rfl, fun x y hT hk hk0 => dmv (wn rfl) (hT.ev rfl) ⟨rfl, rfl⟩⟩)) ?_
  refine ed_ (.inr (.inl ⟨by decide, _, rfl, fun x y hT hk hk0 => dmv (wn rfl) (hT.ev rfl) ⟨rfl, rfl⟩⟩)) ?_
  refine ed_ (.inr (.inl ⟨by decide, _, rfl, fun x y hT hk hk0 => dnc (wn rfl) (hk 1 _ rfl rfl) ⟨rfl, rfl⟩⟩)) ?_
  refine ed_ (.inr (.inl ⟨by decide, _, rfl, fun x y hT hk hk0 => dfa (wn rfl) (hk 2 _ rfl rfl) fo62_4 ⟨rfl, rfl⟩⟩)) ?_
  refine ed_ (.inl ⟨by decide, rfl, fun x y hS hT hk => dld (v := pa) (wn rfl) (hk 3 rfl) one30 ((Blk.sm (w := w89.drew) m91 hS (hM97A _)).cell rfl) ⟨SM.refl _, rfl⟩⟩) ?_
  refine ed_ (.inr (.inl ⟨by decide, _, rfl, fun x y hT hk hk0 => dmv (wn rfl) (hT.ev rfl) ⟨rfl, rfl⟩⟩)) ?_
  refine ed_ (.inr (.inl ⟨by decide, _, rfl, fun x y hT hk hk0 => dnc (wn rfl) (hk 5 _ rfl rfl) ⟨rfl, rfl⟩⟩)) ?_
  refine ed_ (.inr (.inl ⟨by decide, _, rfl, fun x y hT hk hk0 => dfa (wn rfl) (hk 6 _ rfl rfl) fo62_0 ⟨rfl, rfl⟩⟩)) ?_
  refine ed_ (.inl ⟨by decide, rfl, fun x y hS hT hk => dld (v := (.int .i64 p)) (wn rfl) (hk 7 rfl) one3 ((Blk.sm (w := w89.drew) m91 hS (hM97A _)).cell rfl) ⟨SM.refl _, rfl⟩⟩) ?_
  refine ed_ (.inl ⟨by decide, rfl, fun x y hS hT hk => d_slice1 (wn rfl) (show x.eval _ = (.int .i64 p) from (hk 8 rfl)) elm30 rfl (by decide) (fun g w' _ hG hb => ⟨SM.grow hG, g, rfl, hb⟩)⟩) ?_
  refine ed_ (.inr (.inr ⟨rfl, fun x y hS hT hk => ?_⟩)) ?_
  ·skip
   obtain ⟨gb, hvb, hbb⟩ := hk 9 rfl
   have hG : Grow w89 y := Grow.trans ((Grow.refl _).drew) (SM.grown (by rw [hM97] at hS; exact hS))
   have hR := owg hG ho95
   have hO := owg hG ho94
   have hBl := blg b93 hG (Nat.le_trans hB b93.size)
   refine d_append (wn rfl) (show x.eval _ = pa from (hk 4 rfl)) hvb elm30 hR hbb rfl rfl (by omega) (by decide) (Nat.le_trans hB hBl.size) ?_
   intro v' w' h1 h2 h3
   exact ⟨h1, below_by hBl h2 (Nat.le_trans hB hBl.size) (fun k hk => (own_lt hR k hk).1), (m91.grow hG).by h2 op_, (m92.grow hG).by h2 off11, own_by hO h2 ap87, lies_ne h3 op_ (m91.grow hG).lt, lies_ne h3 off11 (m92.grow hG).lt, lies_ap h3 ap87 hO⟩
  refine ed_ (.inr (.inl ⟨by decide, _, rfl, fun x y hT hk hk0 => dnc (wn rfl) (hk 0 _ rfl rfl) ⟨rfl, rfl⟩⟩)) ?_
  refine ed_ (.inr (.inl ⟨by decide, _, rfl, fun x y hT hk hk0 => dfa (wn rfl) (hk 11 _ rfl rfl) fo62_4 ⟨rfl, rfl⟩⟩)) ?_
  exact eachD_one
 rintro a98 w99 hA100 ⟨hP102, hW103⟩
 obtain ⟨v104, hv105⟩ : ∃ v', v' = (a98.tmps.getD 110 undef) := ⟨_, rfl⟩
 have hW106 : (fun v' w' => w'.ownsRow Bd 3 1 v' (path.length + 1) ((paE path) ++ (#[.int .i64 p] : Array Value).toList) ∧ Below Bd w w' ∧ Blk w' g (walkC p r rd v76 pa) 62 ∧ Blk w' g3 (insC ⟨8, i.dst, i.a, i.b, i.imm, i.loc, i.off, i.index, i.size, i.fn, i.acq, i.weak, i.rel, i.pred, i.succ, i.to, i.zero⟩) 23 ∧ w'.ownsRow Bd 52 15 v76 (evs.length + 1) ((evE evs) ++ (#[.int .i64 0, .int .i64 ((path.length : Nat) : Int), .int .i64 p, .int .i64 8, .int .i64 0, .int .i64 0, .bool false, .bool false, .int .i64 0, .int .i64 0, .bool i.acq, .bool i.weak, .bool i.rel, .int .i64 i.pred, .int .i64 i.succ] : Array Value).toList) ∧ v'.ownBlock ≠ some g ∧ v'.ownBlock ≠ some g3 ∧ ∀ k, v76.ownBlock = some k → v'.ownBlock ≠ some k) v104 w99 := by rw [hv105]; exact hW103
 obtain ⟨ho107, b108, m109, m110, ho111, off112, off113, ap114⟩ := hW106
 have ap115 : ∀ k, v104.ownBlock = some k → v76.ownBlock ≠ some k := fun k h1 h2 => ap114 k h2 h1
 have hA116 : St 117 [(0, (.pointer (some ⟨g, 0, none⟩))), (4, (.bool false)), (5, (.int .i64 (p + 1))), (110, v104), (112, (.pointer (some ⟨g, 11, none⟩)))] a98 := hA100.cut _ (fc (hA100.get 0 _ rfl) (fc (hA100.get 4 _ rfl) (fc (hA100.get 5 _ rfl) (fc hv105.symm (fc (hP102 12 _ (Nat.le_of_ble_eq_true rfl) (by decide) rfl) fn_)))))
 refine dst_ (v := v104) (wn rfl) (hA116.ev rfl) (hA116.ev rfl) one30 (one_slice (own_form ho107)) m109 (Nat.le_of_ble_eq_true rfl) ?_
 intro w117 hU118 (m119 : Blk w117 g (walkC p r rd v76 v104) 62)
 have m120 := m110.upd hU118 (Ne.symm n9)
 have b121 := hU118.below b108 hge
 have ho122 := own_upd ho111 hU118 off84
 have ho123 := own_upd ho107 hU118 off112
 refine tn_ ?_
 refine wp_seq ?_
 refine wp_region_lit ?_
 refine qs hA116 rfl (dmv (wn rfl) (hA116.ev rfl) ?_)
 intro a124 hA125
 refine qs hA125 rfl (dmv (wn rfl) (hA125.ev rfl) ?_)
 intro a126 hA127
 refine qs hA127 rfl (dnc (wn rfl) (hA127.ev rfl) ?_)
 intro a128 hA129
 refine qs hA129 rfl (dfa (wn rfl) (hA129.ev rfl) fo62_0 ?_)
 intro a130 hA131
 refine qs hA131 rfl (dst_ (v := (.int .i64 (p + 1))) (wn rfl) (hA131.ev rfl) (hA131.ev rfl) one3 rfl m119 (Nat.le_of_ble_eq_true rfl) ?_)
 intro w132 hU133 (m134 : Blk w132 g (walkC (p + 1) r rd v76 v104) 62)
 have m135 := m120.upd hU133 (Ne.symm n9)
 have b136 := hU133.below b121 hge
 have ho137 := own_upd ho122 hU133 off84
 have ho138 := own_upd ho123 hU133 off112
 intro a139 hA140
 refine qe_ ?_
 refine tn_ ?_
 refine wp_seq ?_
 refine wp_region_lit ?_
 refine qs hA140 rfl (das (wn rfl) (hA140.ev rfl) ?_)
 intro a141 hA142
 refine qe_ ?_
 refine tn_ ?_
 refine wp_ret ?_
 refine ret1 rfl hA142 (v := (.bool true)) rfl ?_
 exact ⟨rfl, b136, rd, v76, v104, m134, hge, (hrd.below b136), (by rw [List.length_append, ← evE_snoc]; exact ho137), (by rw [List.length_append, ← paE_snoc]; exact ho138), off84, off112, ap115⟩
end Go.Proofs.Ytlhompedcphnnaa
/- A step of the walk. -/
namespace Go.Proofs.Ytlhompedcphnnaa
open Go.RowKit
set_option linter.unusedSimpArgs false
set_option linter.unusedVariables false
set_option maxHeartbeats 4000000 in
set_option maxRecDepth 4000 in
theorem step_9 (Bd g : Nat) (p : Int) (r : Nat → Int) (rd ev pa : Value) (i : Ins) (k : Nat) (rds : List Int) (evs : List Ev) (path : List Int) (w : World) (hB : Bd ≤ w.heap.size) (hW : WS Bd g w p r rds evs path rd ev pa) (hne : evs.length ≤ 1000) (hnp : path.length ≤ 1000) (hr : ∀ k, wfI (r k)) (hp : 0 ≤ p) (hp2 : p ≤ 1000) (hk : k < 8) : Calls Try.prog 36 #[.pointer (some ⟨g, 0, none⟩), .agg (insC ⟨9, i.dst, ((k : Nat) : Int), i.b, i.imm, i.loc, i.off, i.index, i.size, i.fn, i.acq, i.weak, i.rel, i.pred, i.succ, i.to, i.zero⟩)] w fun e w' => e = .returned (.bool true) ∧ Below Bd w w' ∧ ∃ rd' ev' pa', WS Bd g w' (brP r k i p) r rds evs (path ++ [p]) rd' ev' pa' := by
 obtain ⟨hb, hge, hrd, hev, hpa, oe, op_, ap⟩ := hW
 have ap2 : ∀ k, ev.ownBlock = some k → pa.ownBlock ≠ some k := fun k h1 h2 => ap k h2 h1
 have b0 : Below Bd w w := Below.refl _ _
 refine enter (n := 117) Try.func36 rfl rfl (Nat.le_of_ble_eq_true rfl) ?_
 intro a1 hA2
 refine wp_seq ?_
 refine wp_region_lit ?_
 refine qs hA2 rfl (d_box (wn rfl) (hA2.ev rfl) ?_)
 intro g3 w4 eg5 hG6 (m7 : Blk w4 g3 (insC ⟨9, i.dst, ((k : Nat) : Int), i.b, i.imm, i.loc, i.off, i.index, i.size, i.fn, i.acq, i.weak, i.rel, i.pred, i.succ, i.to, i.zero⟩) 23)
 have ge8 : Bd ≤ g3 := eg5 ▸ (Nat.le_trans hB b0.size)
 have n9 : g ≠ g3 := fun h => Nat.lt_irrefl _ ((h.trans eg5) ▸ hb.lt)
 have off10 := own_new hev eg5
 have off11 := own_new hpa eg5
 have m12 := hb.grow hG6
 have b13 := blg b0 hG6 (Nat.le_trans hB b0.size)
 have ho14 := owg hG6 hev
 have ho15 := owg hG6 hpa
 intro a16 hA17
 refine qs hA17 rfl (das (wn rfl) (hA17.ev rfl) ?_)
 intro a18 hA19
 refine qe_ ?_
 refine tn_ ?_
 refine wp_seq ?_
 refine wp_region_lit ?_
 refine qs hA19 rfl (dmv (wn rfl) (hA19.ev rfl) ?_)
 intro a20 hA21
 refine qs hA21 rfl (dnc (wn rfl) (hA21.ev rfl) ?_)
 intro a22 hA23
 refine qs hA23 rfl (dfa (wn rfl) (hA23.ev rfl) fo62_0 ?_)
 intro a24 hA25
 refine qs hA25 rfl (dld (v := (.int .i64 p)) (wn rfl) (hA25.ev rfl) one3 (m12.cell rfl) ?_)
 intro a26 hA27
 refine qs hA27 rfl (dbn (wn rfl) (hA27.ev rfl) (hA27.ev rfl) (b_add _ _ p 1 _ (by omega) (by omega)) ?_)
 intro a28 hA29
 refine qs hA29 rfl (das (wn rfl) (hA29.ev rfl) ?_)
 intro a30 hA31
 refine qe_ ?_
 refine tn_ ?_
 refine wp_seq ?_
 refine wp_seq ?_
 refine wp_region_lit ?_
 refine qs hA31 rfl (dfa (wn rfl) (hA31.ev rfl) fo23_0 ?_)
 intro a32 hA33
 refine qs hA33 rfl (dld (v := (.int .i64 9)) (wn rfl) (hA33.ev rfl) one3 (m7.cell rfl) ?_)
 intro a34 hA35
 refine qe_ ?_
 refine tn_ ?_
 refine wp_block ?_
 refine wp_seq ?_
 refine wp_region_lit ?_
 refine qs hA35 rfl (dbn (wn rfl) (hA35.ev rfl) (hA35.ev rfl) (b_eq _ _ 9 1 false _ rfl) ?_)
 intro a36 hA37
 refine qs hA37 rfl (das (wn rfl) (hA37.ev rfl) ?_)
 intro a38 hA39
 refine qe_ ?_
 refine tn_ ?_
 refine c_false hA39 rfl ?_
 refine wp_seq ?_
 refine wp_region_lit ?_
 refine qs hA39 rfl (dbn (wn rfl) (hA39.ev rfl) (hA39.ev rfl) (b_eq _ _ 9 2 false _ rfl) ?_)
 intro a40 hA41
 refine qs hA41 rfl (das (wn rfl) (hA41.ev rfl) ?_)
 intro a42 hA43
 refine qe_ ?_
 refine tn_ ?_
 refine c_false hA43 rfl ?_
 refine wp_seq ?_
 refine wp_region_lit ?_
 refine qs hA43 rfl (dbn (wn rfl) (hA43.ev rfl) (hA43.ev rfl) (b_eq _ _ 9 3 false _ rfl) ?_)
 intro a44 hA45
 refine qs hA45 rfl (das (wn rfl) (hA45.ev rfl) ?_)
 intro a46 hA47
 refine qe_ ?_
 refine tn_ ?_
 refine c_false hA47 rfl ?_
 refine wp_seq ?_
 refine wp_seq ?_
 refine wp_region_lit ?_
 refine qs hA47 rfl (dbn (wn rfl) (hA47.ev rfl) (hA47.ev rfl) (b_eq _ _ 9 4 false _ rfl) ?_)
 intro a48 hA49
 refine qs hA49 rfl (das (wn rfl) (hA49.ev rfl) ?_)
 intro a50 hA51
 refine qe_ ?_
 refine tn_ ?_
 refine c_false hA51 rfl ?_
 refine wp_seq ?_
 refine wp_region_lit ?_
 refine qs hA51 rfl (dbn (wn rfl) (hA51.ev rfl) (hA51.ev rfl) (b_eq _ _ 9 5 false _ rfl) ?_)
 intro a52 hA53
 refine qs hA53 rfl (das (wn rfl) (hA53.ev rfl) ?_)
 intro a54 hA55
 refine qe_ ?_
 refine tn_ ?_
 refine c_false hA55 rfl ?_
 refine wp_region_lit ?_
 refine qs hA55 rfl (dbn (wn rfl) (hA55.ev rfl) (hA55.ev rfl) (b_eq _ _ 9 6 false _ rfl) ?_)
 intro a56 hA57
 refine qs hA57 rfl (das (wn rfl) (hA57.ev rfl) ?_)
 intro a58 hA59
 refine qe_ ?_
 refine tn_ ?_
 refine c_false hA59 rfl ?_
 refine wp_seq ?_
 refine wp_seq ?_
 refine wp_region_lit ?_
 refine qs hA59 rfl (dbn (wn rfl) (hA59.ev rfl) (hA59.ev rfl) (b_eq _ _ 9 7 false _ rfl) ?_)
 intro a60 hA61
 refine qs hA61 rfl (das (wn rfl) (hA61.ev rfl) ?_)
 intro a62 hA63
 refine qe_ ?_
 refine tn_ ?_
 refine c_false hA63 rfl ?_
 refine wp_region_lit ?_
 refine qs hA63 rfl (dbn (wn rfl) (hA63.ev rfl) (hA63.ev rfl) (b_eq _ _ 9 8 false _ rfl) ?_)
 intro a64 hA65
 refine qs hA65 rfl (das (wn rfl) (hA65.ev rfl) ?_)
 intro a66 hA67
 refine qe_ ?_
 refine tn_ ?_
 refine c_false hA67 rfl ?_
 refine wp_seq ?_
 refine wp_region_lit ?_
 refine qs hA67 rfl (dbn (wn rfl) (hA67.ev rfl) (hA67.ev rfl) (b_eq _ _ 9 9 true _ rfl) ?_)
 intro a68 hA69
 refine qs hA69 rfl (das (wn rfl) (hA69.ev rfl) ?_)
 intro a70 hA71
 refine qe_ ?_
 refine tn_ ?_
 refine c_true hA71 rfl ?_
 refine wp_seq ?_
 rcases Bool.eq_false_or_eq_true (r k == 0) with hb72 | hb72
 ·skip
  have hq73 := eq_of_beq hb72
  rcases Bool.eq_false_or_eq_true (i.zero) with hb74 | hb74
  ·skip
   have hA76 : St 117 [(0, (.pointer (some ⟨g, 0, none⟩))), (3, (.pointer (some ⟨g3, 0, none⟩))), (4, (.bool false)), (5, (.int .i64 (p + 1)))] a70 := hA71.sub rfl
   let M77 : Nat → Option (Array Value) := fun _ => none
   have hM77 : M77 = fun _ => none := rfl
   clear_value M77
   have hM78 : M77 g = none := (congrFun hM77 g)
   have hM79 : M77 g3 = none := (congrFun hM77 g3)
   have hM77B : ∀ k, k < Bd → M77 k = none := (fun k hk => (congrFun hM77 k))
   refine drawn (S := SM M77) (tabL [cv (.pointer (some ⟨g, 0, none⟩)), cv (.pointer (some ⟨g3, 2, none⟩)), cv (.int .i64 ((k : Nat) : Int)), cv (.pointer (some ⟨g, 0, none⟩)), cv (.pointer (some ⟨g, 1, none⟩)), cv (.pointer (some ⟨g, 1 + k, none⟩)), cv (.int .i64 (r k)), cv (.bool true), cv (.pointer (some ⟨g3, 16, none⟩)), cv (.bool true), cv (.bool true)]) mixedY SM.refl SM.trans SM.drew hA76 (by kernel_rfl) ?_ ?_
   ·skip
    refine ec_ (fun x y hS hT hk => dmv (wn rfl) (hT.ev rfl) ⟨SM.refl _, rfl⟩) ?_
    refine ec_ (fun x y hS hT hk => dfa (wn rfl) (hT.ev rfl) fo23_2 ⟨SM.refl _, rfl⟩) ?_
    refine ec_ (fun x y hS hT hk => dld (v := (.int .i64 ((k : Nat) : Int))) (wn rfl) (hk 1 rfl) one3 ((Blk.sm (w := w4.drew) m7 hS hM79).cell rfl) ⟨SM.refl _, rfl⟩) ?_
    refine ec_ (fun x y hS hT hk => dnc (wn rfl) (hk 0 rfl) ⟨SM.refl _, rfl⟩) ?_
    refine ec_ (fun x y hS hT hk => dfa (wn rfl) (hk 3 rfl) fo62_1 ⟨SM.refl _, rfl⟩) ?_
    refine ec_ (fun x y hS hT hk => dix (j := k) (p := 1 + k) (wn rfl) (hk 4 rfl) (hk 2 rfl) arr43 (by omega) (by omega) ⟨SM.refl _, rfl⟩) ?_
    refine ec_ (fun x y hS hT hk => dld (v := (.int .i64 (r k))) (wn rfl) (hk 5 rfl) one3 ((Blk.sm (w := w4.drew) m12 hS hM78).cell (walk_get (by omega))) ⟨SM.refl _, rfl⟩) ?_
    refine ec_ (fun x y hS hT hk => dbn (wn rfl) (hk 6 rfl) (hT.ev rfl) (b_eq _ _ (r k) 0 true _ hb72) ⟨SM.refl _, rfl⟩) ?_
    refine ec_ (fun x y hS hT hk => dfa (wn rfl) (hT.ev rfl) fo23_16 ⟨SM.refl _, rfl⟩) ?_
    refine ec_ (fun x y hS hT hk => dld (v := (.bool true)) (wn rfl) (hk 8 rfl) one4 ((Blk.sm (w := w4.drew) m7 hS hM79).cell (congrArg (fun b => some (Value.bool b)) hb74)) ⟨SM.refl _, rfl⟩) ?_
    refine ec_ (fun x y hS hT hk => dbn (wn rfl) (hk 7 rfl) (hk 9 rfl) (b_eqb _ _ true true true _ Try.underlying4 rfl) ⟨SM.refl _, rfl⟩) ?_
    exact each_nil
   intro f80 a81 w82 hS83 hC84 hA85
   have hA86 : St 117 [(0, (.pointer (some ⟨g, 0, none⟩))), (3, (.pointer (some ⟨g3, 0, none⟩))), (4, (.bool false)), (5, (.int .i64 (p + 1))), (97, (.bool true))] a81 := hA85.cut _ (fc (hA85.get 0 _ rfl) (fc (hA85.get 3 _ rfl) (fc (hA85.get 4 _ rfl) (fc (hA85.get 5 _ rfl) (fc ((hA85.get 97 _ rfl).trans (hC84 10 (Nat.le_of_ble_eq_true rfl))) fn_)))))
   have m87 := m12.sm hS83 hM78
   have m88 := m7.sm hS83 hM79
   have b89 := hS83.below b13 (Nat.le_trans hB b13.size) hM77B
   have ho90 := own_sm ho14 hS83 (fun k => congrFun hM77 k)
   have ho91 := own_sm ho15 hS83 (fun k => congrFun hM77 k)
   refine tn_ ?_
   refine c_true hA86 rfl ?_
   refine wp_region_lit ?_
   refine qs hA86 rfl (dfa (wn rfl) (hA86.ev rfl) fo23_15 ?_)
   intro a92 hA93
   refine qs hA93 rfl (dld (v := (.int .i64 i.to)) (wn rfl) (hA93.ev rfl) one3 (m88.cell rfl) ?_)
   intro a94 hA95
   refine qs hA95 rfl (das (wn rfl) (hA95.ev rfl) ?_)
   intro a96 hA97
   refine qe_ ?_
   refine i_norm ?_
   refine tn_ ?_
   refine wp_seq ?_
   have hA98 : St 117 [(0, (.pointer (some ⟨g, 0, none⟩))), (4, (.bool false)), (5, (.int .i64 i.to))] a96 := hA97.sub rfl
   let M99 : Nat → Option (Array Value) := fun _ => none
   have hM99 : M99 = fun _ => none := rfl
   clear_value M99
   have hM99A : ∀ k, M99 k = none := fun k => congrFun hM99 k
   have hM99B : ∀ k, k < Bd → M99 k = none := fun k _ => hM99A k
   refine drawnL (S := SM M99) rfl (tabQ [some (.pointer (some ⟨g, 0, none⟩)), some (.pointer (some ⟨g, 0, none⟩)), some (.pointer (some ⟨g, 0, none⟩)), some (.pointer (some ⟨g, 11, none⟩)), none, some (.pointer (some ⟨g, 0, none⟩)), some (.pointer (some ⟨g, 0, none⟩)), some (.pointer (some ⟨g, 0, none⟩)), none, none, none, some (.pointer (some ⟨g, 0, none⟩)), some (.pointer (some ⟨g, 11, none⟩))] [cv (.pointer (some ⟨g, 0, none⟩)), cv (.pointer (some ⟨g, 0, none⟩)), cv (.pointer (some ⟨g, 0, none⟩)), cv (.pointer (some ⟨g, 11, none⟩)), cv pa, cv (.pointer (some ⟨g, 0, none⟩)), cv (.pointer (some ⟨g, 0, none⟩)), cv (.pointer (some ⟨g, 0, none⟩)), cv (.int .i64 p), cs1 M99 hM99A #[.int .i64 p] 3, cfree, cv (.pointer (some ⟨g, 0, none⟩)), cv (.pointer (some ⟨g, 11, none⟩))]) (some 10) (fun i => (([some (.pointer (some ⟨g, 0, none⟩)), some (.pointer (some ⟨g, 0, none⟩)), some (.pointer (some ⟨g, 0, none⟩)), some (.pointer (some ⟨g, 11, none⟩)), none, some (.pointer (some ⟨g, 0, none⟩)), some (.pointer (some ⟨g, 0, none⟩)), some (.pointer (some ⟨g, 0, none⟩)), none, none, none, some (.pointer (some ⟨g, 0, none⟩)), some (.pointer (some ⟨g, 11, none⟩))] : List (Option Value))[i]?).getD none) (fun v' w' => w'.ownsRow Bd 3 1 v' (path.length + 1) ((paE path) ++ (#[.int .i64 p] : Array Value).toList) ∧ Below Bd w w' ∧ Blk w' g (walkC p r rd ev pa) 62 ∧ Blk w' g3 (insC ⟨9, i.dst, ((k : Nat) : Int), i.b, i.imm, i.loc, i.off, i.index, i.size, i.fn, i.acq, i.weak, i.rel, i.pred, i.succ, i.to, i.zero⟩) 23 ∧ w'.ownsRow Bd 52 15 ev evs.length (evE evs) ∧ v'.ownBlock ≠ some g ∧ v'.ownBlock ≠ some g3 ∧ ∀ k, ev.ownBlock = some k → v'.ownBlock ≠ some k) [12, 10, 0, 1, 2, 3, 4, 5, 6, 7, 8, 9, 11] [4, 9, 3, 8, 2, 7, 1, 6, 5] mixedY SM.refl SM.trans hA98 (by kernel_rfl) (by kernel_rfl) (tabQ_cv _ _) ?_ ?_
   ·skip
    refine ed_ (.inr (.inl ⟨by decide, _, rfl, fun x y hT hk hk0 => dmv (wn rfl) (hT.ev rfl) ⟨rfl, rfl⟩⟩)) ?_
    refine ed_ (.inr (.inl ⟨by decide, _, rfl, fun x y hT hk hk0 => dmv (wn rfl) (hT.ev rfl) ⟨rfl, rfl⟩⟩)) ?_
    refine ed_ (.inr (.inl ⟨by decide, _, rfl, fun x y hT hk hk0 => dnc (wn rfl) (hk 1 _ rfl rfl) ⟨rfl, rfl⟩⟩)) ?_
    refine ed_ (.inr (.inl ⟨by decide, _, rfl, fun x y hT hk hk0 => dfa (wn rfl) (hk 2 _ rfl rfl) fo62_4 ⟨rfl, rfl⟩⟩)) ?_
    refine ed_ (.inl ⟨by decide, rfl, fun x y hS hT hk => dld (v := pa) (wn rfl) (hk 3 rfl) one30 ((Blk.sm (w := w82.drew) m87 hS (hM99A _)).cell rfl) ⟨SM.refl _, rfl⟩⟩) ?_
    refine ed_ (.inr (.inl ⟨by decide, _, rfl, fun x y hT hk hk0 => dmv (wn rfl) (hT.ev rfl) ⟨rfl, rfl⟩⟩)) ?_
    refine ed_ (.inr (.inl ⟨by decide, _, rfl, fun x y hT hk hk0 => dnc (wn rfl) (hk 5 _ rfl rfl) ⟨rfl, rfl⟩⟩)) ?_
    refine ed_ (.inr (.inl ⟨by decide, _, rfl, fun x y hT hk hk0 => dfa (wn rfl) (hk 6 _ rfl rfl) fo62_0 ⟨rfl, rfl⟩⟩)) ?_
    refine ed_ (.inl ⟨by decide, rfl, fun x y hS hT hk => dld (v := (.int .i64 p)) (wn rfl) (hk 7 rfl) one3 ((Blk.sm (w := w82.drew) m87 hS (hM99A _)).cell rfl) ⟨SM.refl _, rfl⟩⟩) ?_
    refine ed_ (.inl ⟨by decide, rfl, fun x y hS hT hk => d_slice1 (wn rfl) (show x.eval _ = (.int .i64 p) from (hk 8 rfl)) elm30 rfl (by decide) (fun g w' _ hG hb => ⟨SM.grow hG, g, rfl, hb⟩)⟩) ?_
    refine ed_ (.inr (.inr ⟨rfl, fun x y hS hT hk => ?_⟩)) ?_
    ·skip
     obtain ⟨gb, hvb, hbb⟩ := hk 9 rfl
     have hG : Grow w82 y := Grow.trans ((Grow.refl _).drew) (SM.grown (by rw [hM99] at hS; exact hS))
     have hR := owg hG ho91
     have hO := owg hG ho90
     have hBl := blg b89 hG (Nat.le_trans hB b89.size)
     refine d_append (wn rfl) (show x.eval _ = pa from (hk 4 rfl)) hvb elm30 hR hbb rfl rfl (by omega) (by decide) (Nat.le_trans hB hBl.size) ?_
     intro v' w' h1 h2 h3
     exact ⟨h1, below_by hBl h2 (Nat.le_trans hB hBl.size) (fun k hk => (own_lt hR k hk).1), (m87.grow hG).by h2 op_, (m88.grow hG).by h2 off11, own_by hO h2 ap2, lies_ne h3 op_ (m87.grow hG).lt, lies_ne h3 off11 (m88.grow hG).lt, lies_ap h3 ap2 hO⟩
    refine ed_ (.inr (.inl ⟨by decide, _, rfl, fun x y hT hk hk0 => dnc (wn rfl) (hk 0 _ rfl rfl) ⟨rfl, rfl⟩⟩)) ?_
    refine ed_ (.inr (.inl ⟨by decide, _, rfl, fun x y hT hk hk0 => dfa (wn rfl) (hk 11 _ rfl rfl) fo62_4 ⟨rfl, rfl⟩⟩)) ?_
    exact eachD_one
   rintro a100 w101 hA102 ⟨hP104, hW105⟩
   obtain ⟨v106, hv107⟩ : ∃ v', v' = (a100.tmps.getD 110 undef) := ⟨_, rfl⟩
   have hW108 : (fun v' w' => w'.ownsRow Bd 3 1 v' (path.length + 1) ((paE path) ++ (#[.int .i64 p] : Array Value).toList) ∧ Below Bd w w' ∧ Blk w' g (walkC p r rd ev pa) 62 ∧ Blk w' g3 (insC ⟨9, i.dst, ((k : Nat) : Int), i.b, i.imm, i.loc, i.off, i.index, i.size, i.fn, i.acq, i.weak, i.rel, i.pred, i.succ, i.to, i.zero⟩) 23 ∧ w'.ownsRow Bd 52 15 ev evs.length (evE evs) ∧ v'.ownBlock ≠ some g ∧ v'.ownBlock ≠ some g3 ∧ ∀ k, ev.ownBlock = some k → v'.ownBlock ≠ some k) v106 w101 := by rw [hv107]; exact hW105
   obtain ⟨ho109, b110, m111, m112, ho113, off114, off115, ap116⟩ := hW108
   have ap117 : ∀ k, v106.ownBlock = some k → ev.ownBlock ≠ some k := fun k h1 h2 => ap116 k h2 h1
   have hA118 : St 117 [(0, (.pointer (some ⟨g, 0, none⟩))), (4, (.bool false)), (5, (.int .i64 i.to)), (110, v106), (112, (.pointer (some ⟨g, 11, none⟩)))] a100 := hA102.cut _ (fc (hA102.get 0 _ rfl) (fc (hA102.get 4 _ rfl) (fc (hA102.get 5 _ rfl) (fc hv107.symm (fc (hP104 12 _ (Nat.le_of_ble_eq_true rfl) (by decide) rfl) fn_)))))
   refine dst_ (v := v106) (wn rfl) (hA118.ev rfl) (hA118.ev rfl) one30 (one_slice (own_form ho109)) m111 (Nat.le_of_ble_eq_true rfl) ?_
   intro w119 hU120 (m121 : Blk w119 g (walkC p r rd ev v106) 62)
   have m122 := m112.upd hU120 (Ne.symm n9)
   have b123 := hU120.below b110 hge
   have ho124 := own_upd ho113 hU120 oe
   have ho125 := own_upd ho109 hU120 off114
   refine tn_ ?_
   refine wp_seq ?_
   refine wp_region_lit ?_
   refine qs hA118 rfl (dmv (wn rfl) (hA118.ev rfl) ?_)
   intro a126 hA127
   refine qs hA127 rfl (dmv (wn rfl) (hA127.ev rfl) ?_)
   intro a128 hA129
   refine qs hA129 rfl (dnc (wn rfl) (hA129.ev rfl) ?_)
   intro a130 hA131
   refine qs hA131 rfl (dfa (wn rfl) (hA131.ev rfl) fo62_0 ?_)
   intro a132 hA133
   refine qs hA133 rfl (dst_ (v := (.int .i64 i.to)) (wn rfl) (hA133.ev rfl) (hA133.ev rfl) one3 rfl m121 (Nat.le_of_ble_eq_true rfl) ?_)
   intro w134 hU135 (m136 : Blk w134 g (walkC i.to r rd ev v106) 62)
   have m137 := m122.upd hU135 (Ne.symm n9)
   have b138 := hU135.below b123 hge
   have ho139 := own_upd ho124 hU135 oe
   have ho140 := own_upd ho125 hU135 off114
   intro a141 hA142
   refine qe_ ?_
   refine tn_ ?_
   refine wp_seq ?_
   refine wp_region_lit ?_
   refine qs hA142 rfl (das (wn rfl) (hA142.ev rfl) ?_)
   intro a143 hA144
   refine qe_ ?_
   refine tn_ ?_
   refine wp_ret ?_
   refine ret1 rfl hA144 (v := (.bool true)) rfl ?_
   have hpp : (brP r k i p) = i.to := by simp [brP, eq_of_beq hb72, hb74]
   rw [hpp]
   exact ⟨rfl, b138, rd, ev, v106, m136, hge, (hrd.below b138), ho139, (by rw [List.length_append, ← paE_snoc]; exact ho140), oe, off114, ap117⟩
  have hA146 : St 117 [(0, (.pointer (some ⟨g, 0, none⟩))), (3, (.pointer (some ⟨g3, 0, none⟩))), (4, (.bool false)), (5, (.int .i64 (p + 1)))] a70 := hA71.sub rfl
  let M147 : Nat → Option (Array Value) := fun _ => none
  have hM147 : M147 = fun _ => none := rfl
  clear_value M147
  have hM148 : M147 g = none := (congrFun hM147 g)
  have hM149 : M147 g3 = none := (congrFun hM147 g3)
  have hM147B : ∀ k, k < Bd → M147 k = none := (fun k hk => (congrFun hM147 k))
  refine drawn (S := SM M147) (tabL [cv (.pointer (some ⟨g, 0, none⟩)), cv (.pointer (some ⟨g3, 2, none⟩)), cv (.int .i64 ((k : Nat) : Int)), cv (.pointer (some ⟨g, 0, none⟩)), cv (.pointer (some ⟨g, 1, none⟩)), cv (.pointer (some ⟨g, 1 + k, none⟩)), cv (.int .i64 (r k)), cv (.bool true), cv (.pointer (some ⟨g3, 16, none⟩)), cv (.bool false), cv (.bool false)]) mixedY SM.refl SM.trans SM.drew hA146 (by kernel_rfl) ?_ ?_
  ·skip
   refine ec_ (fun x y hS hT hk => dmv (wn rfl) (hT.ev rfl) ⟨SM.refl _, rfl⟩) ?_
   refine ec_ (fun x y hS hT hk => dfa (wn rfl) (hT.ev rfl) fo23_2 ⟨SM.refl _, rfl⟩) ?_
   refine ec_ (fun x y hS hT hk => dld (v := (.int .i64 ((k : Nat) : Int))) (wn rfl) (hk 1 rfl) one3 ((Blk.sm (w := w4.drew) m7 hS hM149).cell rfl) ⟨SM.refl _, rfl⟩) ?_
   refine ec_ (fun x y hS hT hk => dnc (wn rfl) (hk 0 rfl) ⟨SM.refl _, rfl⟩) ?_
   refine ec_ (fun x y hS hT hk => dfa (wn rfl) (hk 3 rfl) fo62_1 ⟨SM.refl _, rfl⟩) ?_
   refine ec_ (fun x y hS hT hk => dix (j := k) (p := 1 + k) (wn rfl) (hk 4 rfl) (hk 2 rfl) arr43 (by omega) (by omega) ⟨SM.refl _, rfl⟩) ?_
   refine ec_ (fun x y hS hT hk => dld (v := (.int .i64 (r k))) (wn rfl) (hk 5 rfl) one3 ((Blk.sm (w := w4.drew) m12 hS hM148).cell (walk_get (by omega))) ⟨SM.refl _, rfl⟩) ?_
   refine ec_ (fun x y hS hT hk => dbn (wn rfl) (hk 6 rfl) (hT.ev rfl) (b_eq _ _ (r k) 0 true _ hb72) ⟨SM.refl _, rfl⟩) ?_
   refine ec_ (fun x y hS hT hk => dfa (wn rfl) (hT.ev rfl) fo23_16 ⟨SM.refl _, rfl⟩) ?_
   refine ec_ (fun x y hS hT hk => dld (v := (.bool false)) (wn rfl) (hk 8 rfl) one4 ((Blk.sm (w := w4.drew) m7 hS hM149).cell (congrArg (fun b => some (Value.bool b)) hb74)) ⟨SM.refl _, rfl⟩) ?_
   refine ec_ (fun x y hS hT hk => dbn (wn rfl) (hk 7 rfl) (hk 9 rfl) (b_eqb _ _ true false false _ Try.underlying4 rfl) ⟨SM.refl _, rfl⟩) ?_
   exact each_nil
  intro f150 a151 w152 hS153 hC154 hA155
  have hA156 : St 117 [(0, (.pointer (some ⟨g, 0, none⟩))), (3, (.pointer (some ⟨g3, 0, none⟩))), (4, (.bool false)), (5, (.int .i64 (p + 1))), (97, (.bool false))] a151 := hA155.cut _ (fc (hA155.get 0 _ rfl) (fc (hA155.get 3 _ rfl) (fc (hA155.get 4 _ rfl) (fc (hA155.get 5 _ rfl) (fc ((hA155.get 97 _ rfl).trans (hC154 10 (Nat.le_of_ble_eq_true rfl))) fn_)))))
  have m157 := m12.sm hS153 hM148
  have m158 := m7.sm hS153 hM149
  have b159 := hS153.below b13 (Nat.le_trans hB b13.size) hM147B
  have ho160 := own_sm ho14 hS153 (fun k => congrFun hM147 k)
  have ho161 := own_sm ho15 hS153 (fun k => congrFun hM147 k)
  refine tn_ ?_
  refine c_false hA156 rfl ?_
  refine wp_skip ?_
  refine i_norm ?_
  refine tn_ ?_
  refine wp_seq ?_
  have hA162 : St 117 [(0, (.pointer (some ⟨g, 0, none⟩))), (4, (.bool false)), (5, (.int .i64 (p + 1)))] a151 := hA156.sub rfl
  let M163 : Nat → Option (Array Value) := fun _ => none
  have hM163 : M163 = fun _ => none := rfl
  clear_value M163
  have hM163A : ∀ k, M163 k = none := fun k => congrFun hM163 k
  have hM163B : ∀ k, k < Bd → M163 k = none := fun k _ => hM163A k
  refine drawnL (S := SM M163) rfl (tabQ [some (.pointer (some ⟨g, 0, none⟩)), some (.pointer (some ⟨g, 0, none⟩)), some (.pointer (some ⟨g, 0, none⟩)), some (.pointer (some ⟨g, 11, none⟩)), none, some (.pointer (some ⟨g, 0, none⟩)), some (.pointer (some ⟨g, 0, none⟩)), some (.pointer (some ⟨g, 0, none⟩)), none, none, none, some (.pointer (some ⟨g, 0, none⟩)), some (.pointer (some ⟨g, 11, none⟩))] [cv (.pointer (some ⟨g, 0, none⟩)), cv (.pointer (some ⟨g, 0, none⟩)), cv (.pointer (some ⟨g, 0, none⟩)), cv (.pointer (some ⟨g, 11, none⟩)), cv pa, cv (.pointer (some ⟨g, 0, none⟩)), cv (.pointer (some ⟨g, 0, none⟩)), cv (.pointer (some ⟨g, 0, none⟩)), cv (.int .i64 p), cs1 M163 hM163A #[.int .i64 p] 3, cfree, cv (.pointer (some ⟨g, 0, none⟩)), cv (.pointer (some ⟨g, 11, none⟩))]) (some 10) (fun i => (([some (.pointer (some ⟨g, 0, none⟩)), some (.pointer (some ⟨g, 0, none⟩)), some (.pointer (some ⟨g, 0, none⟩)), some (.pointer (some ⟨g, 11, none⟩)), none, some (.pointer (some ⟨g, 0, none⟩)), some (.pointer (some ⟨g, 0, none⟩)), some (.pointer (some ⟨g, 0, none⟩)), none, none, none, some (.pointer (some ⟨g, 0, none⟩)), some (.pointer (some ⟨g, 11, none⟩))] : List (Option Value))[i]?).getD none) (fun v' w' => w'.ownsRow Bd 3 1 v' (path.length + 1) ((paE path) ++ (#[.int .i64 p] : Array Value).toList) ∧ Below Bd w w' ∧ Blk w' g (walkC p r rd ev pa) 62 ∧ Blk w' g3 (insC ⟨9, i.dst, ((k : Nat) : Int), i.b, i.imm, i.loc, i.off, i.index, i.size, i.fn, i.acq, i.weak, i.rel, i.pred, i.succ, i.to, i.zero⟩) 23 ∧ w'.ownsRow Bd 52 15 ev evs.length (evE evs) ∧ v'.ownBlock ≠ some g ∧ v'.ownBlock ≠ some g3 ∧ ∀ k, ev.ownBlock = some k → v'.ownBlock ≠ some k) [12, 10, 0, 1, 2, 3, 4, 5, 6, 7, 8, 9, 11] [4, 9, 3, 8, 2, 7, 1, 6, 5] mixedY SM.refl SM.trans hA162 (by kernel_rfl) (by kernel_rfl) (tabQ_cv _ _) ?_ ?_
  ·skip
   refine ed_ (.inr (.inl ⟨by decide, _, rfl, fun x y hT hk hk0 => dmv (wn rfl) (hT.ev rfl) ⟨rfl, rfl⟩⟩)) ?_
   refine ed_ (.inr (.inl ⟨by decide, _, rfl, fun x y hT hk hk0 => dmv (wn rfl) (hT.ev rfl) ⟨rfl, rfl⟩⟩)) ?_
   refine ed_ (.inr (.inl ⟨by decide, _, rfl, fun x y hT hk hk0 => dnc (wn rfl) (hk 1 _ rfl rfl) ⟨rfl, rfl⟩⟩)) ?_
   refine ed_ (.inr (.inl ⟨by decide, _, rfl, fun x y hT hk hk0 => dfa (wn rfl) (hk 2 _ rfl rfl) fo62_4 ⟨rfl, rfl⟩⟩)) ?_
   refine ed_ (.inl ⟨by decide, rfl, fun x y hS hT hk => dld (v := pa) (wn rfl) (hk 3 rfl) one30 ((Blk.sm (w := w152.drew) m157 hS (hM163A _)).cell rfl) ⟨SM.refl _, rfl⟩⟩) ?_
   refine ed_ (.inr (.inl ⟨by decide, _, rfl, fun x y hT hk hk0 => dmv (wn rfl) (hT.ev rfl) ⟨rfl, rfl⟩⟩)) ?_
   refine ed_ (.inr (.inl ⟨by decide, _, rfl, fun x y hT hk hk0 => dnc (wn rfl) (hk 5 _ rfl rfl) ⟨rfl, rfl⟩⟩)) ?_
   refine ed_ (.inr (.inl ⟨by decide, _, rfl, fun x y hT hk hk0 => dfa (wn rfl) (hk 6 _ rfl rfl) fo62_0 ⟨rfl, rfl⟩⟩)) ?_
   refine ed_ (.inl ⟨by decide, rfl, fun x y hS hT hk => dld (v := (.int .i64 p)) (wn rfl) (hk 7 rfl) one3 ((Blk.sm (w := w152.drew) m157 hS (hM163A _)).cell rfl) ⟨SM.refl _, rfl⟩⟩) ?_
   refine ed_ (.inl ⟨by decide, rfl, fun x y hS hT hk => d_slice1 (wn rfl) (show x.eval _ = (.int .i64 p) from (hk 8 rfl)) elm30 rfl (by decide) (fun g w' _ hG hb => ⟨SM.grow hG, g, rfl, hb⟩)⟩) ?_
   refine ed_ (.inr (.inr ⟨rfl, fun x y hS hT hk => ?_⟩)) ?_
   ·skip
    obtain ⟨gb, hvb, hbb⟩ := hk 9 rfl
    have hG : Grow w152 y := Grow.trans ((Grow.refl _).drew) (SM.grown (by rw [hM163] at hS; exact hS))
    have hR := owg hG ho161
    have hO := owg hG ho160
    have hBl := blg b159 hG (Nat.le_trans hB b159.size)
    refine d_append (wn rfl) (show x.eval _ = pa from (hk 4 rfl)) hvb elm30 hR hbb rfl rfl (by omega) (by decide) (Nat.le_trans hB hBl.size) ?_
    intro v' w' h1 h2 h3
    exact ⟨h1, below_by hBl h2 (Nat.le_trans hB hBl.size) (fun k hk => (own_lt hR k hk).1), (m157.grow hG).by h2 op_, (m158.grow hG).by h2 off11, own_by hO h2 ap2, lies_ne h3 op_ (m157.grow hG).lt, lies_ne h3 off11 (m158.grow hG).lt, lies_ap h3 ap2 hO⟩
   refine ed_ (.inr (.inl ⟨by decide, _, rfl, fun x y hT hk hk0 => dnc (wn rfl) (hk 0 _ rfl rfl) ⟨rfl, rfl⟩⟩)) ?_
   refine ed_ (.inr (.inl ⟨by decide, _, rfl, fun x y hT hk hk0 => dfa (wn rfl) (hk 11 _ rfl rfl) fo62_4 ⟨rfl, rfl⟩⟩)) ?_
   exact eachD_one
  rintro a164 w165 hA166 ⟨hP168, hW169⟩
  obtain ⟨v170, hv171⟩ : ∃ v', v' = (a164.tmps.getD 110 undef) := ⟨_, rfl⟩
  have hW172 : (fun v' w' => w'.ownsRow Bd 3 1 v' (path.length + 1) ((paE path) ++ (#[.int .i64 p] : Array Value).toList) ∧ Below Bd w w' ∧ Blk w' g (walkC p r rd ev pa) 62 ∧ Blk w' g3 (insC ⟨9, i.dst, ((k : Nat) : Int), i.b, i.imm, i.loc, i.off, i.index, i.size, i.fn, i.acq, i.weak, i.rel, i.pred, i.succ, i.to, i.zero⟩) 23 ∧ w'.ownsRow Bd 52 15 ev evs.length (evE evs) ∧ v'.ownBlock ≠ some g ∧ v'.ownBlock ≠ some g3 ∧ ∀ k, ev.ownBlock = some k → v'.ownBlock ≠ some k) v170 w165 := by rw [hv171]; exact hW169
  obtain ⟨ho173, b174, m175, m176, ho177, off178, off179, ap180⟩ := hW172
  have ap181 : ∀ k, v170.ownBlock = some k → ev.ownBlock ≠ some k := fun k h1 h2 => ap180 k h2 h1
  have hA182 : St 117 [(0, (.pointer (some ⟨g, 0, none⟩))), (4, (.bool false)), (5, (.int .i64 (p + 1))), (110, v170), (112, (.pointer (some ⟨g, 11, none⟩)))] a164 := hA166.cut _ (fc (hA166.get 0 _ rfl) (fc (hA166.get 4 _ rfl) (fc (hA166.get 5 _ rfl) (fc hv171.symm (fc (hP168 12 _ (Nat.le_of_ble_eq_true rfl) (by decide) rfl) fn_)))))
  refine dst_ (v := v170) (wn rfl) (hA182.ev rfl) (hA182.ev rfl) one30 (one_slice (own_form ho173)) m175 (Nat.le_of_ble_eq_true rfl) ?_
  intro w183 hU184 (m185 : Blk w183 g (walkC p r rd ev v170) 62)
  have m186 := m176.upd hU184 (Ne.symm n9)
  have b187 := hU184.below b174 hge
  have ho188 := own_upd ho177 hU184 oe
  have ho189 := own_upd ho173 hU184 off178
  refine tn_ ?_
  refine wp_seq ?_
  refine wp_region_lit ?_
  refine qs hA182 rfl (dmv (wn rfl) (hA182.ev rfl) ?_)
  intro a190 hA191
  refine qs hA191 rfl (dmv (wn rfl) (hA191.ev rfl) ?_)
  intro a192 hA193
  refine qs hA193 rfl (dnc (wn rfl) (hA193.ev rfl) ?_)
  intro a194 hA195
  refine qs hA195 rfl (dfa (wn rfl) (hA195.ev rfl) fo62_0 ?_)
  intro a196 hA197
  refine qs hA197 rfl (dst_ (v := (.int .i64 (p + 1))) (wn rfl) (hA197.ev rfl) (hA197.ev rfl) one3 rfl m185 (Nat.le_of_ble_eq_true rfl) ?_)
  intro w198 hU199 (m200 : Blk w198 g (walkC (p + 1) r rd ev v170) 62)
  have m201 := m186.upd hU199 (Ne.symm n9)
  have b202 := hU199.below b187 hge
  have ho203 := own_upd ho188 hU199 oe
  have ho204 := own_upd ho189 hU199 off178
  intro a205 hA206
  refine qe_ ?_
  refine tn_ ?_
  refine wp_seq ?_
  refine wp_region_lit ?_
  refine qs hA206 rfl (das (wn rfl) (hA206.ev rfl) ?_)
  intro a207 hA208
  refine qe_ ?_
  refine tn_ ?_
  refine wp_ret ?_
  refine ret1 rfl hA208 (v := (.bool true)) rfl ?_
  have hpp : (brP r k i p) = p + 1 := by simp [brP, eq_of_beq hb72, hb74]
  rw [hpp]
  exact ⟨rfl, b202, rd, ev, v170, m200, hge, (hrd.below b202), ho203, (by rw [List.length_append, ← paE_snoc]; exact ho204), oe, off178, ap181⟩
 have hq209 := ne_of_beq hb72
 rcases Bool.eq_false_or_eq_true (i.zero) with hb210 | hb210
 ·skip
  have hA212 : St 117 [(0, (.pointer (some ⟨g, 0, none⟩))), (3, (.pointer (some ⟨g3, 0, none⟩))), (4, (.bool false)), (5, (.int .i64 (p + 1)))] a70 := hA71.sub rfl
  let M213 : Nat → Option (Array Value) := fun _ => none
  have hM213 : M213 = fun _ => none := rfl
  clear_value M213
  have hM214 : M213 g = none := (congrFun hM213 g)
  have hM215 : M213 g3 = none := (congrFun hM213 g3)
  have hM213B : ∀ k, k < Bd → M213 k = none := (fun k hk => (congrFun hM213 k))
  refine drawn (S := SM M213) (tabL [cv (.pointer (some ⟨g, 0, none⟩)), cv (.pointer (some ⟨g3, 2, none⟩)), cv (.int .i64 ((k : Nat) : Int)), cv (.pointer (some ⟨g, 0, none⟩)), cv (.pointer (some ⟨g, 1, none⟩)), cv (.pointer (some ⟨g, 1 + k, none⟩)), cv (.int .i64 (r k)), cv (.bool false), cv (.pointer (some ⟨g3, 16, none⟩)), cv (.bool true), cv (.bool false)]) mixedY SM.refl SM.trans SM.drew hA212 (by kernel_rfl) ?_ ?_
  ·skip
   refine ec_ (fun x y hS hT hk => dmv (wn rfl) (hT.ev rfl) ⟨SM.refl _, rfl⟩) ?_
   refine ec_ (fun x y hS hT hk => dfa (wn rfl) (hT.ev rfl) fo23_2 ⟨SM.refl _, rfl⟩) ?_
   refine ec_ (fun x y hS hT hk => dld (v := (.int .i64 ((k : Nat) : Int))) (wn rfl) (hk 1 rfl) one3 ((Blk.sm (w := w4.drew) m7 hS hM215).cell rfl) ⟨SM.refl _, rfl⟩) ?_
   refine ec_ (fun x y hS hT hk => dnc (wn rfl) (hk 0 rfl) ⟨SM.refl _, rfl⟩) ?_
   refine ec_ (fun x y hS hT hk => dfa (wn rfl) (hk 3 rfl) fo62_1 ⟨SM.refl _, rfl⟩) ?_
   refine ec_ (fun x y hS hT hk => dix (j := k) (p := 1 + k) (wn rfl) (hk 4 rfl) (hk 2 rfl) arr43 (by omega) (by omega) ⟨SM.refl _, rfl⟩) ?_
   refine ec_ (fun x y hS hT hk => dld (v := (.int .i64 (r k))) (wn rfl) (hk 5 rfl) one3 ((Blk.sm (w := w4.drew) m12 hS hM214).cell (walk_get (by omega))) ⟨SM.refl _, rfl⟩) ?_
   refine ec_ (fun x y hS hT hk => dbn (wn rfl) (hk 6 rfl) (hT.ev rfl) (b_eq _ _ (r k) 0 false _ hb72) ⟨SM.refl _, rfl⟩) ?_
   refine ec_ (fun x y hS hT hk => dfa (wn rfl) (hT.ev rfl) fo23_16 ⟨SM.refl _, rfl⟩) ?_
   refine ec_ (fun x y hS hT hk => dld (v := (.bool true)) (wn rfl) (hk 8 rfl) one4 ((Blk.sm (w := w4.drew) m7 hS hM215).cell (congrArg (fun b => some (Value.bool b)) hb210)) ⟨SM.refl _, rfl⟩) ?_
   refine ec_ (fun x y hS hT hk => dbn (wn rfl) (hk 7 rfl) (hk 9 rfl) (b_eqb _ _ false true false _ Try.underlying4 rfl) ⟨SM.refl _, rfl⟩) ?_
   exact each_nil
  intro f216 a217 w218 hS219 hC220 hA221
  have hA222 : St 117 [(0, (.pointer (some ⟨g, 0, none⟩))), (3, (.pointer (some ⟨g3, 0, none⟩))), (4, (.bool false)), (5, (.int .i64 (p + 1))), (97, (.bool false))] a217 := hA221.cut _ (fc (hA221.get 0 _ rfl) (fc (hA221.get 3 _ rfl) (fc (hA221.get 4 _ rfl) (fc (hA221.get 5 _ rfl) (fc ((hA221.get 97 _ rfl).trans (hC220 10 (Nat.le_of_ble_eq_true rfl))) fn_)))))
  have m223 := m12.sm hS219 hM214
  have m224 := m7.sm hS219 hM215
  have b225 := hS219.below b13 (Nat.le_trans hB b13.size) hM213B
  have ho226 := own_sm ho14 hS219 (fun k => congrFun hM213 k)
  have ho227 := own_sm ho15 hS219 (fun k => congrFun hM213 k)
  refine tn_ ?_
  refine c_false hA222 rfl ?_
  refine wp_skip ?_
  refine i_norm ?_
  refine tn_ ?_
  refine wp_seq ?_
  have hA228 : St 117 [(0, (.pointer (some ⟨g, 0, none⟩))), (4, (.bool false)), (5, (.int .i64 (p + 1)))] a217 := hA222.sub rfl
  let M229 : Nat → Option (Array Value) := fun _ => none
  have hM229 : M229 = fun _ => none := rfl
  clear_value M229
  have hM229A : ∀ k, M229 k = none := fun k => congrFun hM229 k
  have hM229B : ∀ k, k < Bd → M229 k = none := fun k _ => hM229A k
  refine drawnL (S := SM M229) rfl (tabQ [some (.pointer (some ⟨g, 0, none⟩)), some (.pointer (some ⟨g, 0, none⟩)), some (.pointer (some ⟨g, 0, none⟩)), some (.pointer (some ⟨g, 11, none⟩)), none, some (.pointer (some ⟨g, 0, none⟩)), some (.pointer (some ⟨g, 0, none⟩)), some (.pointer (some ⟨g, 0, none⟩)), none, none, none, some (.pointer (some ⟨g, 0, none⟩)), some (.pointer (some ⟨g, 11, none⟩))] [cv (.pointer (some ⟨g, 0, none⟩)), cv (.pointer (some ⟨g, 0, none⟩)), cv (.pointer (some ⟨g, 0, none⟩)), cv (.pointer (some ⟨g, 11, none⟩)), cv pa, cv (.pointer (some ⟨g, 0, none⟩)), cv (.pointer (some ⟨g, 0, none⟩)), cv (.pointer (some ⟨g, 0, none⟩)), cv (.int .i64 p), cs1 M229 hM229A #[.int .i64 p] 3, cfree, cv (.pointer (some ⟨g, 0, none⟩)), cv (.pointer (some ⟨g, 11, none⟩))]) (some 10) (fun i => (([some (.pointer (some ⟨g, 0, none⟩)), some (.pointer (some ⟨g, 0, none⟩)), some (.pointer (some ⟨g, 0, none⟩)), some (.pointer (some ⟨g, 11, none⟩)), none, some (.pointer (some ⟨g, 0, none⟩)), some (.pointer (some ⟨g, 0, none⟩)), some (.pointer (some ⟨g, 0, none⟩)), none, none, none, some (.pointer (some ⟨g, 0, none⟩)), some (.pointer (some ⟨g, 11, none⟩))] : List (Option Value))[i]?).getD none) (fun v' w' => w'.ownsRow Bd 3 1 v' (path.length + 1) ((paE path) ++ (#[.int .i64 p] : Array Value).toList) ∧ Below Bd w w' ∧ Blk w' g (walkC p r rd ev pa) 62 ∧ Blk w' g3 (insC ⟨9, i.dst, ((k : Nat) : Int), i.b, i.imm, i.loc, i.off, i.index, i.size, i.fn, i.acq, i.weak, i.rel, i.pred, i.succ, i.to, i.zero⟩) 23 ∧ w'.ownsRow Bd 52 15 ev evs.length (evE evs) ∧ v'.ownBlock ≠ some g ∧ v'.ownBlock ≠ some g3 ∧ ∀ k, ev.ownBlock = some k → v'.ownBlock ≠ some k) [12, 10, 0, 1, 2, 3, 4, 5, 6, 7, 8, 9, 11] [4, 9, 3, 8, 2, 7, 1, 6, 5] mixedY SM.refl SM.trans hA228 (by kernel_rfl) (by kernel_rfl) (tabQ_cv _ _) ?_ ?_
  ·skip
   refine ed_ (.inr (.inl ⟨by decide, _, rfl, fun x y hT hk hk0 => dmv (wn rfl) (hT.ev rfl) ⟨rfl, rfl⟩⟩)) ?_
   refine ed_ (.inr (.inl ⟨by decide, _, rfl, fun x y hT hk hk0 => dmv (wn rfl) (hT.ev rfl) ⟨rfl, rfl⟩⟩)) ?_
   refine ed_ (.inr (.inl ⟨by decide, _, rfl, fun x y hT hk hk0 => dnc (wn rfl) (hk 1 _ rfl rfl) ⟨rfl, rfl⟩⟩)) ?_
   refine ed_ (.inr (.inl ⟨by decide, _, rfl, fun x y hT hk hk0 => dfa (wn rfl) (hk 2 _ rfl rfl) fo62_4 ⟨rfl, rfl⟩⟩)) ?_
   refine ed_ (.inl ⟨by decide, rfl, fun x y hS hT hk => dld (v := pa) (wn rfl) (hk 3 rfl) one30 ((Blk.sm (w := w218.drew) m223 hS (hM229A _)).cell rfl) ⟨SM.refl _, rfl⟩⟩) ?_
   refine ed_ (.inr (.inl ⟨by decide, _, rfl, fun x y hT hk hk0 => dmv (wn rfl) (hT.ev rfl) ⟨rfl, rfl⟩⟩)) ?_
   refine ed_ (.inr (.inl ⟨by decide, _, rfl, fun x y hT hk hk0 => dnc (wn rfl) (hk 5 _ rfl rfl) ⟨rfl, rfl⟩⟩)) ?_
   refine ed_ (.inr (.inl ⟨by decide, _, rfl, fun x y hT hk hk0 => dfa (wn rfl) (hk 6 _ rfl rfl) fo62_0 ⟨rfl, rfl⟩⟩)) ?_
   refine ed_ (.inl ⟨by decide, rfl, fun x y hS hT hk => dld (v := (.int .i64 p)) (wn rfl) (hk 7 rfl) one3 ((Blk.sm (w := w218.drew) m223 hS (hM229A _)).cell rfl) ⟨SM.refl _, rfl⟩⟩) ?_
   refine ed_ (.inl ⟨by decide, rfl, fun x y hS hT hk => d_slice1 (wn rfl) (show x.eval _ = (.int .i64 p) from (hk 8 rfl)) elm30 rfl (by decide) (fun g w' _ hG hb => ⟨SM.grow hG, g, rfl, hb⟩)⟩) ?_
   refine ed_ (.inr (.inr ⟨rfl, fun x y hS hT hk => ?_⟩)) ?_
   ·skip
    obtain ⟨gb, hvb, hbb⟩ := hk 9 rfl
    have hG : Grow w218 y := Grow.trans ((Grow.refl _).drew) (SM.grown (by rw [hM229] at hS; exact hS))
    have hR := owg hG ho227
    have hO := owg hG ho226
    have hBl := blg b225 hG (Nat.le_trans hB b225.size)
    refine d_append (wn rfl) (show x.eval _ = pa from (hk 4 rfl)) hvb elm30 hR hbb rfl rfl (by omega) (by decide) (Nat.le_trans hB hBl.size) ?_
    intro v' w' h1 h2 h3
    exact ⟨h1, below_by hBl h2 (Nat.le_trans hB hBl.size) (fun k hk => (own_lt hR k hk).1), (m223.grow hG).by h2 op_, (m224.grow hG).by h2 off11, own_by hO h2 ap2, lies_ne h3 op_ (m223.grow hG).lt, lies_ne h3 off11 (m224.grow hG).lt, lies_ap h3 ap2 hO⟩
   refine ed_ (.inr (.inl ⟨by decide, _, rfl, fun x y hT hk hk0 => dnc (wn rfl) (hk 0 _ rfl rfl) ⟨rfl, rfl⟩⟩)) ?_
   refine ed_ (.inr (.inl ⟨by decide, _, rfl, fun x y hT hk hk0 => dfa (wn rfl) (hk 11 _ rfl rfl) fo62_4 ⟨rfl, rfl⟩⟩)) ?_
   exact eachD_one
  rintro a230 w231 hA232 ⟨hP234, hW235⟩
  obtain ⟨v236, hv237⟩ : ∃ v', v' = (a230.tmps.getD 110 undef) := ⟨_, rfl⟩
  have hW238 : (fun v' w' => w'.ownsRow Bd 3 1 v' (path.length + 1) ((paE path) ++ (#[.int .i64 p] : Array Value).toList) ∧ Below Bd w w' ∧ Blk w' g (walkC p r rd ev pa) 62 ∧ Blk w' g3 (insC ⟨9, i.dst, ((k : Nat) : Int), i.b, i.imm, i.loc, i.off, i.index, i.size, i.fn, i.acq, i.weak, i.rel, i.pred, i.succ, i.to, i.zero⟩) 23 ∧ w'.ownsRow Bd 52 15 ev evs.length (evE evs) ∧ v'.ownBlock ≠ some g ∧ v'.ownBlock ≠ some g3 ∧ ∀ k, ev.ownBlock = some k → v'.ownBlock ≠ some k) v236 w231 := by rw [hv237]; exact hW235
  obtain ⟨ho239, b240, m241, m242, ho243, off244, off245, ap246⟩ := hW238
  have ap247 : ∀ k, v236.ownBlock = some k → ev.ownBlock ≠ some k := fun k h1 h2 => ap246 k h2 h1
  have hA248 : St 117 [(0, (.pointer (some ⟨g, 0, none⟩))), (4, (.bool false)), (5, (.int .i64 (p + 1))), (110, v236), (112, (.pointer (some ⟨g, 11, none⟩)))] a230 := hA232.cut _ (fc (hA232.get 0 _ rfl) (fc (hA232.get 4 _ rfl) (fc (hA232.get 5 _ rfl) (fc hv237.symm (fc (hP234 12 _ (Nat.le_of_ble_eq_true rfl) (by decide) rfl) fn_)))))
  refine dst_ (v := v236) (wn rfl) (hA248.ev rfl) (hA248.ev rfl) one30 (one_slice (own_form ho239)) m241 (Nat.le_of_ble_eq_true rfl) ?_
  intro w249 hU250 (m251 : Blk w249 g (walkC p r rd ev v236) 62)
  have m252 := m242.upd hU250 (Ne.symm n9)
  have b253 := hU250.below b240 hge
  have ho254 := own_upd ho243 hU250 oe
  have ho255 := own_upd ho239 hU250 off244
  refine tn_ ?_
  refine wp_seq ?_
  refine wp_region_lit ?_
  refine qs hA248 rfl (dmv (wn rfl) (hA248.ev rfl) ?_)
  intro a256 hA257
  refine qs hA257 rfl (dmv (wn rfl) (hA257.ev rfl) ?_)
  intro a258 hA259
  refine qs hA259 rfl (dnc (wn rfl) (hA259.ev rfl) ?_)
  intro a260 hA261
  refine qs hA261 rfl (dfa (wn rfl) (hA261.ev rfl) fo62_0 ?_)
  intro a262 hA263
  refine qs hA263 rfl (dst_ (v := (.int .i64 (p + 1))) (wn rfl) (hA263.ev rfl) (hA263.ev rfl) one3 rfl m251 (Nat.le_of_ble_eq_true rfl) ?_)
  intro w264 hU265 (m266 : Blk w264 g (walkC (p + 1) r rd ev v236) 62)
  have m267 := m252.upd hU265 (Ne.symm n9)
  have b268 := hU265.below b253 hge
  have ho269 := own_upd ho254 hU265 oe
  have ho270 := own_upd ho255 hU265 off244
  intro a271 hA272
  refine qe_ ?_
  refine tn_ ?_
  refine wp_seq ?_
  refine wp_region_lit ?_
  refine qs hA272 rfl (das (wn rfl) (hA272.ev rfl) ?_)
  intro a273 hA274
  refine qe_ ?_
  refine tn_ ?_
  refine wp_ret ?_
  refine ret1 rfl hA274 (v := (.bool true)) rfl ?_
  have hpp : (brP r k i p) = p + 1 := by simp [brP, hb72, hb210]
  rw [hpp]
  exact ⟨rfl, b268, rd, ev, v236, m266, hge, (hrd.below b268), ho269, (by rw [List.length_append, ← paE_snoc]; exact ho270), oe, off244, ap247⟩
 have hA276 : St 117 [(0, (.pointer (some ⟨g, 0, none⟩))), (3, (.pointer (some ⟨g3, 0, none⟩))), (4, (.bool false)), (5, (.int .i64 (p + 1)))] a70 := hA71.sub rfl
 let M277 : Nat → Option (Array Value) := fun _ => none
 have hM277 : M277 = fun _ => none := rfl
 clear_value M277
 have hM278 : M277 g = none := (congrFun hM277 g)
 have hM279 : M277 g3 = none := (congrFun hM277 g3)
 have hM277B : ∀ k, k < Bd → M277 k = none := (fun k hk => (congrFun hM277 k))
 refine drawn (S := SM M277) (tabL [cv (.pointer (some ⟨g, 0, none⟩)), cv (.pointer (some ⟨g3, 2, none⟩)), cv (.int .i64 ((k : Nat) : Int)), cv (.pointer (some ⟨g, 0, none⟩)), cv (.pointer (some ⟨g, 1, none⟩)), cv (.pointer (some ⟨g, 1 + k, none⟩)), cv (.int .i64 (r k)), cv (.bool false), cv (.pointer (some ⟨g3, 16, none⟩)), cv (.bool false), cv (.bool true)]) mixedY SM.refl SM.trans SM.drew hA276 (by kernel_rfl) ?_ ?_
 ·skip
  refine ec_ (fun x y hS hT hk => dmv (wn rfl) (hT.ev rfl) ⟨SM.refl _, rfl⟩) ?_
  refine ec_ (fun x y hS hT hk => dfa (wn rfl) (hT.ev rfl) fo23_2 ⟨SM.refl _, rfl⟩) ?_
  refine ec_ (fun x y hS hT hk => dld (v := (.int .i64 ((k : Nat) : Int))) (wn rfl) (hk 1 rfl) one3 ((Blk.sm (w := w4.drew) m7 hS hM279).cell rfl) ⟨SM.refl _, rfl⟩) ?_
  refine ec_ (fun x y hS hT hk => dnc (wn rfl) (hk 0 rfl) ⟨SM.refl _, rfl⟩) ?_
  refine ec_ (fun x y hS hT hk => dfa (wn rfl) (hk 3 rfl) fo62_1 ⟨SM.refl _, rfl⟩) ?_
  refine ec_ (fun x y hS hT hk => dix (j := k) (p := 1 + k) (wn rfl) (hk 4 rfl) (hk 2 rfl) arr43 (by omega) (by omega) ⟨SM.refl _, rfl⟩) ?_
  refine ec_ (fun x y hS hT hk => dld (v := (.int .i64 (r k))) (wn rfl) (hk 5 rfl) one3 ((Blk.sm (w := w4.drew) m12 hS hM278).cell (walk_get (by omega))) ⟨SM.refl _, rfl⟩) ?_
  refine ec_ (fun x y hS hT hk => dbn (wn rfl) (hk 6 rfl) (hT.ev rfl) (b_eq _ _ (r k) 0 false _ hb72) ⟨SM.refl _, rfl⟩) ?_
  refine ec_ (fun x y hS hT hk => dfa (wn rfl) (hT.ev rfl) fo23_16 ⟨SM.refl _, rfl⟩) ?_
  refine ec_ (fun x y hS hT hk => dld (v := (.bool false)) (wn rfl) (hk 8 rfl) one4 ((Blk.sm (w := w4.drew) m7 hS hM279).cell (congrArg (fun b => some (Value.bool b)) hb210)) ⟨SM.refl _, rfl⟩) ?_
  refine ec_ (fun x y hS hT hk => dbn (wn rfl) (hk 7 rfl) (hk 9 rfl) (b_eqb _ _ false false true _ Try.underlying4 rfl) ⟨SM.refl _, rfl⟩) ?_
  exact each_nil
 intro f280 a281 w282 hS283 hC284 hA285
 have hA286 : St 117 [(0, (.pointer (some ⟨g, 0, none⟩))), (3, (.pointer (some ⟨g3, 0, none⟩))), (4, (.bool false)), (5, (.int .i64 (p + 1))), (97, (.bool true))] a281 := hA285.cut _ (fc (hA285.get 0 _ rfl) (fc (hA285.get 3 _ rfl) (fc (hA285.get 4 _ rfl) (fc (hA285.get 5 _ rfl) (fc ((hA285.get 97 _ rfl).trans (hC284 10 (Nat.le_of_ble_eq_true rfl))) fn_)))))
 have m287 := m12.sm hS283 hM278
 have m288 := m7.sm hS283 hM279
 have b289 := hS283.below b13 (Nat.le_trans hB b13.size) hM277B
 have ho290 := own_sm ho14 hS283 (fun k => congrFun hM277 k)
 have ho291 := own_sm ho15 hS283 (fun k => congrFun hM277 k)
 refine tn_ ?_
 refine c_true hA286 rfl ?_
 refine wp_region_lit ?_
 refine qs hA286 rfl (dfa (wn rfl) (hA286.ev rfl) fo23_15 ?_)
 intro a292 hA293
 refine qs hA293 rfl (dld (v := (.int .i64 i.to)) (wn rfl) (hA293.ev rfl) one3 (m288.cell rfl) ?_)
 intro a294 hA295
 refine qs hA295 rfl (das (wn rfl) (hA295.ev rfl) ?_)
 intro a296 hA297
 refine qe_ ?_
 refine i_norm ?_
 refine tn_ ?_
 refine wp_seq ?_
 have hA298 : St 117 [(0, (.pointer (some ⟨g, 0, none⟩))), (4, (.bool false)), (5, (.int .i64 i.to))] a296 := hA297.sub rfl
 let M299 : Nat → Option (Array Value) := fun _ => none
 have hM299 : M299 = fun _ => none := rfl
 clear_value M299
 have hM299A : ∀ k, M299 k = none := fun k => congrFun hM299 k
 have hM299B : ∀ k, k < Bd → M299 k = none := fun k _ => hM299A k
 refine drawnL (S := SM M299) rfl (tabQ [some (.pointer (some ⟨g, 0, none⟩)), some (.pointer (some ⟨g, 0, none⟩)), some (.pointer (some ⟨g, 0, none⟩)), some (.pointer (some ⟨g, 11, none⟩)), none, some (.pointer (some ⟨g, 0, none⟩)), some (.pointer (some ⟨g, 0, none⟩)), some (.pointer (some ⟨g, 0, none⟩)), none, none, none, some (.pointer (some ⟨g, 0, none⟩)), some (.pointer (some ⟨g, 11, none⟩))] [cv (.pointer (some ⟨g, 0, none⟩)), cv (.pointer (some ⟨g, 0, none⟩)), cv (.pointer (some ⟨g, 0, none⟩)), cv (.pointer (some ⟨g, 11, none⟩)), cv pa, cv (.pointer (some ⟨g, 0, none⟩)), cv (.pointer (some ⟨g, 0, none⟩)), cv (.pointer (some ⟨g, 0, none⟩)), cv (.int .i64 p), cs1 M299 hM299A #[.int .i64 p] 3, cfree, cv (.pointer (some ⟨g, 0, none⟩)), cv (.pointer (some ⟨g, 11, none⟩))]) (some 10) (fun i => (([some (.pointer (some ⟨g, 0, none⟩)), some (.pointer (some ⟨g, 0, none⟩)), some (.pointer (some ⟨g, 0, none⟩)), some (.pointer (some ⟨g, 11, none⟩)), none, some (.pointer (some ⟨g, 0, none⟩)), some (.pointer (some ⟨g, 0, none⟩)), some (.pointer (some ⟨g, 0, none⟩)), none, none, none, some (.pointer (some ⟨g, 0, none⟩)), some (.pointer (some ⟨g, 11, none⟩))] : List (Option Value))[i]?).getD none) (fun v' w' => w'.ownsRow Bd 3 1 v' (path.length + 1) ((paE path) ++ (#[.int .i64 p] : Array Value).toList) ∧ Below Bd w w' ∧ Blk w' g (walkC p r rd ev pa) 62 ∧ Blk w' g3 (insC ⟨9, i.dst, ((k : Nat) : Int), i.b, i.imm, i.loc, i.off, i.index, i.size, i.fn, i.acq, i.weak, i.rel, i.pred, i.succ, i.to, i.zero⟩) 23 ∧ w'.ownsRow Bd 52 15 ev evs.length (evE evs) ∧ v'.ownBlock ≠ some g ∧ v'.ownBlock ≠ some g3 ∧ ∀ k, ev.ownBlock = some k → v'.ownBlock ≠ some k) [12, 10, 0, 1, 2, 3, 4, 5, 6, 7, 8, 9, 11] [4, 9, 3, 8, 2, 7, 1, 6, 5] mixedY SM.refl SM.trans hA298 (by kernel_rfl) (by kernel_rfl) (tabQ_cv _ _) ?_ ?_
 ·skip
  refine ed_ (.inr (.inl ⟨by decide, _, rfl, fun x y hT hk hk0 => dmv (wn rfl) (hT.ev rfl) ⟨rfl, rfl⟩⟩)) ?_
  refine ed_ (.inr (.inl ⟨by decide, _, rfl, fun x y hT hk hk0 => dmv (wn rfl) (hT.ev rfl) ⟨rfl, rfl⟩⟩)) ?_
  refine ed_ (.inr (.inl ⟨by decide, _, rfl, fun x y hT hk hk0 => dnc (wn rfl) (hk 1 _ rfl rfl) ⟨rfl, rfl⟩⟩)) ?_
  refine ed_ (.inr (.inl ⟨by decide, _, rfl, fun x y hT hk hk0 => dfa (wn rfl) (hk 2 _ rfl rfl) fo62_4 ⟨rfl, rfl⟩⟩)) ?_
  refine ed_ (.inl ⟨by decide, rfl, fun x y hS hT hk => dld (v := pa) (wn rfl) (hk 3 rfl) one30 ((Blk.sm (w := w282.drew) m287 hS (hM299A _)).cell rfl) ⟨SM.refl _, rfl⟩⟩) ?_
  refine ed_ (.inr (.inl ⟨by decide, _, rfl, fun x y hT hk hk0 => dmv (wn rfl) (hT.ev rfl) ⟨rfl, rfl⟩⟩)) ?_
  refine ed_ (.inr (.inl ⟨by decide, _, rfl, fun x y hT hk hk0 => dnc (wn rfl) (hk 5 _ rfl rfl) ⟨rfl, rfl⟩⟩)) ?_
  refine ed_ (.inr (.inl ⟨by decide, _, rfl, fun x y hT hk hk0 => dfa (wn rfl) (hk 6 _ rfl rfl) fo62_0 ⟨rfl, rfl⟩⟩)) ?_
  refine ed_ (.inl ⟨by decide, rfl, fun x y hS hT hk => dld (v := (.int .i64 p)) (wn rfl) (hk 7 rfl) one3 ((Blk.sm (w := w282.drew) m287 hS (hM299A _)).cell rfl) ⟨SM.refl _, rfl⟩⟩) ?_
  refine ed_ (.inl ⟨by decide, rfl, fun x y hS hT hk => d_slice1 (wn rfl) (show x.eval _ = (.int .i64 p) from (hk 8 rfl)) elm30 rfl (by decide) (fun g w' _ hG hb => ⟨SM.grow hG, g, rfl, hb⟩)⟩) ?_
  refine ed_ (.inr (.inr ⟨rfl, fun x y hS hT hk => ?_⟩)) ?_
  ·skip
   obtain ⟨gb, hvb, hbb⟩ := hk 9 rfl
   have hG : Grow w282 y := Grow.trans ((Grow.refl _).drew) (SM.grown (by rw [hM299] at hS; exact hS))
   have hR := owg hG ho291
   have hO := owg hG ho290
   have hBl := blg b289 hG (Nat.le_trans hB b289.size)
   refine d_append (wn rfl) (show x.eval _ = pa from (hk 4 rfl)) hvb elm30 hR hbb rfl rfl (by omega) (by decide) (Nat.le_trans hB hBl.size) ?_
   intro v' w' h1 h2 h3
   exact ⟨h1, below_by hBl h2 (Nat.le_trans hB hBl.size) (fun k hk => (own_lt hR k hk).1), (m287.grow hG).by h2 op_, (m288.grow hG).by h2 off11, own_by hO h2 ap2, lies_ne h3 op_ (m287.grow hG).lt, lies_ne h3 off11 (m288.grow hG).lt, lies_ap h3 ap2 hO⟩
  refine ed_ (.inr (.inl ⟨by decide, _, rfl, fun x y hT hk hk0 => dnc (wn rfl) (hk 0 _ rfl rfl) ⟨rfl, rfl⟩⟩)) ?_
  refine ed_ (.inr (.inl ⟨by decide, _, rfl, fun x y hT hk hk0 => dfa (wn rfl) (hk 11 _ rfl rfl) fo62_4 ⟨rfl, rfl⟩⟩)) ?_
  exact eachD_one
 rintro a300 w301 hA302 ⟨hP304, hW305⟩
 obtain ⟨v306, hv307⟩ : ∃ v', v' = (a300.tmps.getD 110 undef) := ⟨_, rfl⟩
 have hW308 : (fun v' w' => w'.ownsRow Bd 3 1 v' (path.length + 1) ((paE path) ++ (#[.int .i64 p] : Array Value).toList) ∧ Below Bd w w' ∧ Blk w' g (walkC p r rd ev pa) 62 ∧ Blk w' g3 (insC ⟨9, i.dst, ((k : Nat) : Int), i.b, i.imm, i.loc, i.off, i.index, i.size, i.fn, i.acq, i.weak, i.rel, i.pred, i.succ, i.to, i.zero⟩) 23 ∧ w'.ownsRow Bd 52 15 ev evs.length (evE evs) ∧ v'.ownBlock ≠ some g ∧ v'.ownBlock ≠ some g3 ∧ ∀ k, ev.ownBlock = some k → v'.ownBlock ≠ some k) v306 w301 := by rw [hv307]; exact hW305
 obtain ⟨ho309, b310, m311, m312, ho313, off314, off315, ap316⟩ := hW308
 have ap317 : ∀ k, v306.ownBlock = some k → ev.ownBlock ≠ some k := fun k h1 h2 => ap316 k h2 h1
 have hA318 : St 117 [(0, (.pointer (some ⟨g, 0, none⟩))), (4, (.bool false)), (5, (.int .i64 i.to)), (110, v306), (112, (.pointer (some ⟨g, 11, none⟩)))] a300 := hA302.cut _ (fc (hA302.get 0 _ rfl) (fc (hA302.get 4 _ rfl) (fc (hA302.get 5 _ rfl) (fc hv307.symm (fc (hP304 12 _ (Nat.le_of_ble_eq_true rfl) (by decide) rfl) fn_)))))
 refine dst_ (v := v306) (wn rfl) (hA318.ev rfl) (hA318.ev rfl) one30 (one_slice (own_form ho309)) m311 (Nat.le_of_ble_eq_true rfl) ?_
 intro w319 hU320 (m321 : Blk w319 g (walkC p r rd ev v306) 62)
 have m322 := m312.upd hU320 (Ne.symm n9)
 have b323 := hU320.below b310 hge
 have ho324 := own_upd ho313 hU320 oe
 have ho325 := own_upd ho309 hU320 off314
 refine tn_ ?_
 refine wp_seq ?_
 refine wp_region_lit ?_
 refine qs hA318 rfl (dmv (wn rfl) (hA318.ev rfl) ?_)
 intro a326 hA327
 refine qs hA327 rfl (dmv (wn rfl) (hA327.ev rfl) ?_)
 intro a328 hA329
 refine qs hA329 rfl (dnc (wn rfl) (hA329.ev rfl) ?_)
 intro a330 hA331
 refine qs hA331 rfl (dfa (wn rfl) (hA331.ev rfl) fo62_0 ?_)
 intro a332 hA333
 refine qs hA333 rfl (dst_ (v := (.int .i64 i.to)) (wn rfl) (hA333.ev rfl) (hA333.ev rfl) one3 rfl m321 (Nat.le_of_ble_eq_true rfl) ?_)
 intro w334 hU335 (m336 : Blk w334 g (walkC i.to r rd ev v306) 62)
 have m337 := m322.upd hU335 (Ne.symm n9)
 have b338 := hU335.below b323 hge
 have ho339 := own_upd ho324 hU335 oe
 have ho340 := own_upd ho325 hU335 off314
 intro a341 hA342
 refine qe_ ?_
 refine tn_ ?_
 refine wp_seq ?_
 refine wp_region_lit ?_
 refine qs hA342 rfl (das (wn rfl) (hA342.ev rfl) ?_)
 intro a343 hA344
 refine qe_ ?_
 refine tn_ ?_
 refine wp_ret ?_
 refine ret1 rfl hA344 (v := (.bool true)) rfl ?_
 have hpp : (brP r k i p) = i.to := by simp [brP, hb72, hb210]
 rw [hpp]
 exact ⟨rfl, b338, rd, ev, v306, m336, hge, (hrd.below b338), ho339, (by rw [List.length_append, ← paE_snoc]; exact ho340), oe, off314, ap317⟩
end Go.Proofs.Ytlhompedcphnnaa
