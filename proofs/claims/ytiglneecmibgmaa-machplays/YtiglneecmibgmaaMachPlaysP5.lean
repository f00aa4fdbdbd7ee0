/- A given row whose address stands inside a value: it gets a place. -/
import Derived.Test.YtiglneecmibgmaaMachPlaysP4
import Derived.Laws.Pointers
import Derived.Tactics
import Derived.Tactics2
import Derived.Defers
import Derived.Recover
namespace Go.Proofs.Ytiglneecmibgmaa
open Go.RowKit
set_option linter.unusedVariables false
set_option linter.unusedSimpArgs false
set_option linter.unusedSectionVars false
theorem denL_last {G : Gr} {x y : SV} (h : den G x = den G y) : ∀ {l : List SV}, denL G (l ++ [x]) = denL G (l ++ [y])
  | [] => by
    show denL G [x] = denL G [y]
    unfold denL
    rw [h]
  | z :: l => by
    show denL G (z :: (l ++ [x])) = denL G (z :: (l ++ [y]))
    unfold denL
    rw [denL_last h]
section
variable {P : Program} {n : Nat} {ks : List Nat} {G0 : Gr} {w0 : World} {T : List (Nat × SV)} {H : Hp} {G : Gr} {a : Act} {w w' : World} {Q : Exit → Act → World → Prop} {K : List Fr} {ops : Array Oper} {o : Oper} {rest : List Oper}
theorem Sy.takeRowG (A : Sy n T H ks G0 w0 G a w) (t : Nat) {e s m b cp : Nat} {f : Nat → List SV} {x y : SV} (hg : Given e s m f b cp w) (hn : ∀ (i : Nat) (e : Ent) (L : Loc), H[i]? = some (some e) → G[i]? = some (some L) → ¬ e.empty → L.b ≠ b) (ho : w0.heap.size ≤ b) (ht : look T t = some x) (hy : den (G ++ [some ⟨b, [], List.replicate cp undef, e⟩]) y = den (G ++ [some ⟨b, [], List.replicate cp undef, e⟩]) x) :
    Sy n ((t, y) :: T) (H ++ [some (.row e s m 0 f)]) ks G0 w0 (G ++ [some ⟨b, [], List.replicate cp undef, e⟩]) a w := by
  have hlen := A.mem.len
  obtain ⟨p1, xs, p2, p3⟩ := hg
  have hen : EntOK G w (some ⟨b, [], List.replicate cp undef, e⟩) (.row e s m 0 f) := ⟨p1, fun L hL => by cases hL; rfl, xs, p2, by simpa [rm] using p3⟩
  have hold : ∀ (i : Nat) (x : Ent), (H ++ [some (Ent.row e s m 0 f)])[i]? = some (some x) → (H[i]? = some (some x) ∧ i < H.length) ∨ (i = H.length ∧ x = .row e s m 0 f) := by
    intro i x h
    by_cases hi : i < H.length
    · rw [List.getElem?_append_left hi] at h; exact .inl ⟨h, hi⟩
    · rw [List.getElem?_append_right (by omega)] at h
      have : i - H.length = 0 := by
        cases hq : i - H.length with
        | zero => rfl
        | succ k => rw [hq] at h; simp at h
      rw [this] at h
      simp at h
      exact .inr ⟨by omega, h.symm⟩
  have hG : ∀ i, i < H.length → (G ++ [some (⟨b, [], List.replicate cp undef, e⟩ : Loc)])[i]? = G[i]? := fun i hi => List.getElem?_append_left (by omega)
  have hGn : (G ++ [some (⟨b, [], List.replicate cp undef, e⟩ : Loc)])[H.length]? = some (some ⟨b, [], List.replicate cp undef, e⟩) := by rw [List.getElem?_append_right (by omega), hlen]; simp
  refine ⟨A.size, A.defers, fun q x hx => ?_, ⟨by simp [hlen], ?_, ?_⟩, ?_, ?_, A.mix⟩
  · unfold look at hx
    cases hb : Nat.beq t q with
    | true =>
      rw [hb] at hx; cases hx
      have := Nat.eq_of_beq_eq_true hb
      subst this
      rw [hy]; exact den_mono _ _ (A.get t _ ht)
    | false => rw [hb] at hx; exact den_mono _ x (A.get q x hx)
  · intro i x h
    rcases hold i x h with ⟨h1, h2⟩ | ⟨rfl, rfl⟩
    · rw [hG i h2]; exact (A.mem.ent i x h1).more _
    · rw [hGn]; exact hen.more _
  · intro i j x y L M hij h1 h2 h3 h4 h5 h6
    rcases hold i x h1 with ⟨k1, k2⟩ | ⟨rfl, rfl⟩
    · rw [hG i k2] at h4
      rcases hold j y h2 with ⟨k3, k4⟩ | ⟨rfl, rfl⟩
      · rw [hG j k4] at h5; exact A.mem.sep i j x y L M hij k1 k3 h3 h4 h5 h6
      · rw [hGn] at h5; cases h5; exact hn i x L k1 h4 (mut_full h3)
    · rw [hGn] at h4; cases h4
      rcases hold j y h2 with ⟨k3, k4⟩ | ⟨rfl, rfl⟩
      · rw [hG j k4] at h5; exact fun z => hn j y M k3 h5 h6 z.symm
      · exact absurd rfl hij
  · obtain ⟨F, hF⟩ := A.pre; exact ⟨F ++ [some ⟨b, [], List.replicate cp undef, e⟩], by rw [hF, List.append_assoc]⟩
  · intro i x L h1 h2 h3
    rcases hold i x h1 with ⟨k1, k2⟩ | ⟨rfl, rfl⟩
    · rw [hG i k2] at h3; exact A.own i x L k1 h2 h3
    · rw [hGn] at h3; cases h3; exact .inr ho
/-- a call that gives a value with a row inside -/
theorem CALLAGG {β : Type} {e s m t f : Nat} {l : List SV} {F : β → Nat → List SV} {R : β → Nat → World → World → Prop} (hf : FnR P f [] [] (fun x w w' => ∃ (L : β) (b cp : Nat), x = .agg (l ++ [.sla (some ⟨b, 0, none⟩) m cp]) ∧ R L b w w' ∧ w.heap.size ≤ b ∧ Given e s m (F L) b cp w')) (A : Sy n T H ks G0 w0 G a w) (hd : o.dst = some t) (h1 : callS n ops T o = some (f, []))
    (k : ∀ L b cp a' w' G', R L b w w' → w.heap.size ≤ b → (∀ k, (keys (H ++ [some (.row e s m 0 (F L))]) G').contains k = true → k < w.heap.size ∨ k = b) → Sy n ((t, .agg (l ++ [.sl H.length m 0])) :: extS T o.dst (.agg (l ++ [.sla (some ⟨b, 0, none⟩) m cp]))) (H ++ [some (.row e s m 0 (F L))]) ks G0 w0 G' a' w' → Goal P Q K (.ops ops rest) a' w') : Goal P Q K (.ops ops (o :: rest)) a w := by
  refine CALLR [] hf A h1 rfl rfl rfl rfl fun x a' w' hJ hk A' => ?_
  obtain ⟨L, b, cp, rfl, hR, hlo, hg⟩ := hJ
  have hl : look (extS T o.dst (.agg (l ++ [.sla (some ⟨b, 0, none⟩) m cp]))) t = some (.agg (l ++ [.sla (some ⟨b, 0, none⟩) m cp])) := by rw [hd]; simp [extS, look, Nat.beq_refl]
  have hlen := A'.mem.len
  have A2 := A'.takeRowG t (y := .agg (l ++ [.sl H.length m 0])) hg (fun i e L q1 q2 q3 => by
    have := A.mem.ent i e q1
    rw [q2] at this
    have := EntOK.lt this q3
    omega) (Nat.le_trans A.mix.size hlo) hl (by
      unfold den
      rw [denL_last (y := .sla (some ⟨b, 0, none⟩) m cp)]
      unfold den
      rw [List.getElem?_append_right (by omega), hlen]
      simp [rm])
  refine k L b cp a' w' _ hR hlo (fun q hq => ?_) A2
  obtain ⟨i, e', L', q1, q2, q3, q4⟩ := mem_keys.1 hq
  by_cases hi : i < H.length
  · rw [List.getElem?_append_left hi] at q1
    rw [List.getElem?_append_left (by omega)] at q3
    exact .inl (hk q (mem_keys.2 ⟨i, e', L', q1, q2, q3, q4⟩))
  · have hi2 : i = H.length := by
      have := (List.getElem?_eq_some_iff.1 q1).1
      simp at this; omega
    subst hi2
    rw [List.getElem?_append_right (by omega), hlen] at q3
    simp at q3
    subst q3
    exact .inr q4.symm
end
end Go.Proofs.Ytiglneecmibgmaa
/- Appends of lists, by what they do; a result said otherwise. -/
namespace Go.Proofs.Ytiglneecmibgmaa
open Go.RowKit
set_option linter.unusedVariables false
set_option linter.unusedSimpArgs false
set_option linter.unusedSectionVars false
section
variable {P : Program} {Y : Tb} {n : Nat} {ks : List Nat} {G0 : Gr} {w0 : World} {T : List (Nat × SV)} {H : Hp} {ops : Array Oper} {o : Oper}
theorem eff_say {x y : SV} {H' : Hp} (e : ∀ G, den G x = den G y) (h : EffOK P n ops ks G0 w0 T H o x H') : EffOK P n ops ks G0 w0 T H o y H' := fun G a w A =>
  does_mono (h G a w A) fun v w' ⟨F, h1, h2⟩ => ⟨F, by rw [← e]; exact h1, h2⟩
theorem aplE {i e s m c nn cc mm mb mc : Nat} {f g : Nat → List SV} (hY : Y.ok P = true) (m' : Nat) (f' : Nat → List SV) (h : aplS Y n ops T H o = some ((i, e, s, m, c), f, (mm, mb, mc), g, (nn, cc))) (h1 : nn = m) (h2 : cc = c) (hc0 : c = 0) (hmb : mm ≤ mb) (hb : m ≤ 1000000) (hb2 : mm ≤ 1000000) (hm' : m' = m + mm)
    (hf : ∀ k, k < m → f' k = f k) (hn : ∀ k, k < mm → f' (m + k) = g k) (htot : ∀ k, ∃ vs, denL [] (f' k) = some vs ∧ vs.length = s) (hone : ∀ k, k < mm → ∃ E, onesS (g k) = some E ∧ okE E) :
    EffOK P n ops ks G0 w0 T H o (.sl H.length m' 0) (stH H i none ++ [some (.row e s m' 0 f')]) := by
  subst hm'
  intro G a w A
  obtain ⟨d, op, ty, pos, af, gd⟩ := o
  unfold aplS at h
  split at h
  · next hd =>
    split at h
    · next hgd =>
      have hw := gd_run (gd := none) A hgd
      split at h
      · next ca hca =>
        simp only at hca
        subst hca
        obtain ⟨callee, args, ats⟩ := ca
        simp only at h
        split at h
        · next x y t t' ha ht =>
          split at h
          · next i' nn' cc' j mm' mc' hx hy htt =>
            split at h
            · next e' s' m' c1 f1 s2 mb' g' ti hi hj hti =>
              split at h
              · next e2 s3 b hel =>
                split at h
                · next hck =>
                  cases h
                  subst h1; subst h2
                  simp only [Bool.and_eq_true] at hck
                  obtain ⟨⟨⟨c1, c2⟩, c3⟩, c4⟩ := hck
                  have e1 := Nat.eq_of_beq_eq_true c1
                  have e2' := Nat.eq_of_beq_eq_true c2
                  have e3 := Nat.eq_of_beq_eq_true c3
                  have e4 := Nat.eq_of_beq_eq_true htt
                  have hby := Nat.le_of_ble_eq_true c4
                  subst e1; subst e2'; subst e3; subst e4
                  rw [lg_is] at hi
                  have hargs : args = #[x, y] := by have := congrArg List.toArray ha; simpa using this
                  have hats : ats = #[t, t] := by have := congrArg List.toArray ht; simpa using this
                  subst hargs; subst hats
                  obtain ⟨r1, r2, xs, r3, r4⟩ := A.mem.ent i _ hi
                  obtain ⟨g1, g2⟩ := parts_at A.mem hj
                  obtain ⟨ie, z, f1', f2', f3', f4', f5', f6', f7'⟩ := elem_facts (ti_elm (Tb.at hY hti) hel)
                  have hvx := A.ev hx
                  have hvy := A.ev hy
                  obtain ⟨q, hq⟩ : ∃ q, G[i]? = some q := by
                    have : i < G.length := by rw [← A.mem.len]; exact (List.getElem?_eq_some_iff.1 hi).1
                    exact ⟨G[i], by simp [this]⟩
                  rw [hq] at r2 r4
                  simp only [Option.getD_some] at r2 r4
                  unfold den at hvx hvy
                  rw [hq] at hvx
                  simp only [Option.some.injEq] at hvx
                  have htg : ∀ k, k < mm → ∃ vs, denL [] (g k) = some vs ∧ vs.length = s := fun k hk => by rw [← hn k hk]; exact htot _
                  obtain ⟨ys, hys⟩ := flat_ex (f := fun k => f' (nn + k)) (fun k => htot _) mm
                  have hyl := flat_len (f := fun k => f' (nn + k)) (fun k => htot _) hys
                  have hflat : flatV f' (nn + mm) = some (xs ++ ys) := flat_more mm nn (by rw [flat_congr hf]; exact r3) hys
                  have hob : Value.ownBlock (.slice (q.map fun L => ⟨L.b, L.pre.length, none⟩) nn (cc + rm q)) = q.map (·.b) := by cases q <;> rfl
                  by_cases h0 : mm = 0
                  · subst h0
                    cases hys
                    have hsrc : Src P ie.size t (a.eval y) 0 [] w := by
                      split at hvy
                      · next p hp =>
                        rw [← Option.some.inj hvy]
                        cases p with
                        | none => exact Src.ofNil w f1' mc
                        | some L => exact Src.ofSlice w f1' _ 0 _ [] (by simp) (fun j u hj => by simp at hj) (fun u hu => by cases hu)
                      · cases hvy
                    have hnc : nn ≤ cc + rm q := by
                      rcases r4.2 with ⟨q1, q2⟩ | ⟨g, cap, cur, q1, _, _, q4, _⟩
                      · omega
                      · cases q <;> simp at q1; omega
                    have hr := run_append_nothing (P := P) w t t ty e ie f1' f2' (q.map fun L => ⟨L.b, L.pre.length, none⟩) nn (cc + rm q) hnc _ hsrc
                    refine does_val (v := .slice (q.map fun L => ⟨L.b, L.pre.length, none⟩) nn (cc + rm q)) (w' := w) hw ?_ ?_
                    · unfold execOp
                      simp only [resolve, invoke, builtin, Sem.run_bind, Sem.run_pure, Result.andThen_ok, List.map_toArray, List.map_cons, List.map_nil, ← hvx, hr]
                    · have A2 := A.rowMove (w' := w) (p' := q) (m' := nn + 0) (c' := cc) (xs' := xs ++ []) hi ⟨rfl, rfl, rfl, Nat.le_refl _, fun _ _ _ => rfl⟩ (by simpa using r4) r2 (.inl (by rw [hq]; rfl)) hflat htot
                      subst hc0
                      refine ⟨_, ?_, A2.ms⟩
                      unfold den
                      rw [List.getElem?_append_right (by rw [A.mem.len]; exact Nat.le_refl _), A.mem.len]
                      simp
                  · obtain ⟨L, vs0, b1, _⟩ := g2 0 (by omega)
                    rw [get_loc b1] at hvy
                    simp only [Option.map_some, Option.some.injEq] at hvy
                    have hmul : (nn + mm) * b ≤ 2000000 * 10000 := Nat.mul_le_mul (by omega) hby
                    obtain ⟨v', w', hr, k1, k2, _, k4⟩ := run_append_own_at (P := P) w 0 t ty e ie z s b f1' f2' f3' f4' f5' f6' f7' _ nn xs r4 ⟨L.b, L.pre.length, none⟩ mm (mc + rm (some L)) ys hyl
                      (fun j u hj => by
                        obtain ⟨k, r, us, d1, d2, d3, d4⟩ := flat_inv (f := fun k => f' (nn + k)) (fun k => htot _) hys j u hj
                        obtain ⟨L', us', b1', b2', b3'⟩ := g2 k (by omega)
                        rw [b1] at b1'; cases b1'
                        rw [hn k d1, b2'] at d2
                        cases d2
                        have := b3' r u d3
                        rw [Addr.add_mid, d4, ← Nat.add_assoc]
                        exact this)
                      (fun u hu => by
                        obtain ⟨j, hj⟩ := List.mem_iff_getElem?.1 hu
                        obtain ⟨k, r, us, d1, d2, d3, d4⟩ := flat_inv (f := fun k => f' (nn + k)) (fun k => htot _) hys j u hj
                        rw [hn k d1] at d2
                        obtain ⟨E, o1, o2⟩ := hone k d1
                        exact List.all_eq_true.1 (onesS_spec o1 o2 d2) u (List.mem_of_getElem? d3))
                      (by simp only [maxLen]; omega) (by omega) (Nat.zero_le _)
                    obtain ⟨p', o1, o2, o3⟩ := own_split k1
                    rw [hob] at k2 k4
                    rw [o3] at k4
                    rw [o1] at k1
                    refine does_val (v := v') (w' := w') hw ?_ ?_
                    · unfold execOp
                      simp only [resolve, invoke, builtin, Sem.run_bind, Sem.run_pure, Result.andThen_ok, List.map_toArray, List.map_cons, List.map_nil, ← hvx, ← hvy, hr]
                    · have A2 := A.rowMove (p' := p') hi (by rw [hq]; exact k2) k1 o2 (by rw [hq]; exact k4) hflat htot
                      refine ⟨_, ?_, A2.ms⟩
                      unfold den
                      rw [List.getElem?_append_right (by rw [A.mem.len]; exact Nat.le_refl _), A.mem.len]
                      simp [o1]
                · cases h
              · cases h
            · cases h
          · cases h
        · cases h
      · cases h
    · cases h
  · cases h
end
end Go.Proofs.Ytiglneecmibgmaa
/- Memory renamed, where a block that is let go may be named twice: a row goes to another place. -/
namespace Go.Proofs.Ytiglneecmibgmaa
open Go.RowKit
set_option linter.unusedVariables false
set_option linter.unusedSimpArgs false
def mskH : List Bool → Hp → Hp
  | b :: bs, e :: l => (bif b then e else none) :: mskH bs l
  | _, _ => []
def mskL : List Bool → List Nat → List Nat
  | b :: bs, x :: m => bif b then x :: mskL bs m else mskL bs m
  | _, _ => []
def ndM : List Bool → List Nat → Bool
  | b :: bs, x :: m => (!b || !(mskL bs m).contains x) && ndM bs m
  | _, _ => true
theorem msk_at : ∀ {bs : List Bool} {l : Hp} {i : Nat} {e : Ent}, (mskH bs l)[i]? = some (some e) → bs[i]? = some true ∧ l[i]? = some (some e)
  | [], l, i, e, h => by unfold mskH at h; cases h
  | b :: bs, [], i, e, h => by unfold mskH at h; cases h
  | b :: bs, x :: l, 0, e, h => by
    unfold mskH at h
    cases b
    · simp at h
    · simp at h; subst h; exact ⟨rfl, rfl⟩
  | b :: bs, x :: l, i + 1, e, h => by
    unfold mskH at h
    simp only [List.getElem?_cons_succ] at h ⊢
    exact msk_at h
theorem mskL_mem : ∀ {bs : List Bool} {m : List Nat} {i x : Nat}, bs[i]? = some true → m[i]? = some x → x ∈ mskL bs m
  | [], m, i, x, h, _ => by cases h
  | b :: bs, [], i, x, _, h => by cases h
  | b :: bs, y :: m, 0, x, h1, h2 => by
    simp at h1 h2
    subst h1; subst h2
    exact List.mem_cons_self
  | b :: bs, y :: m, i + 1, x, h1, h2 => by
    simp only [List.getElem?_cons_succ] at h1 h2
    have := mskL_mem h1 h2
    unfold mskL
    cases b
    · exact this
    · exact List.mem_cons_of_mem _ this
theorem ndM_spec : ∀ {bs : List Bool} {m : List Nat}, ndM bs m = true → ∀ (i k x : Nat), bs[i]? = some true → bs[k]? = some true → m[i]? = some x → m[k]? = some x → i = k
  | [], m, _, i, k, x, h, _, _, _ => by cases h
  | b :: bs, [], _, i, k, x, _, _, h, _ => by cases h
  | b :: bs, y :: m, hn, i, k, x, h1, h2, h3, h4 => by
    unfold ndM at hn
    rw [Bool.and_eq_true] at hn
    cases i with
    | zero =>
      cases k with
      | zero => rfl
      | succ k =>
        simp only [List.getElem?_cons_succ, List.getElem?_cons_zero, Option.some.injEq] at h1 h2 h3 h4
        subst h1; subst h3
        have hm := mskL_mem h2 h4
        have hc := hn.1
        rw [Bool.not_true, Bool.false_or, Bool.not_eq_true'] at hc
        have : (mskL bs m).contains y = true := List.contains_iff_mem.2 hm
        rw [this] at hc; cases hc
    | succ i =>
      cases k with
      | zero =>
        simp only [List.getElem?_cons_succ, List.getElem?_cons_zero, Option.some.injEq] at h1 h2 h3 h4
        subst h2; subst h4
        have hm := mskL_mem h1 h3
        have hc := hn.1
        rw [Bool.not_true, Bool.false_or, Bool.not_eq_true'] at hc
        have : (mskL bs m).contains y = true := List.contains_iff_mem.2 hm
        rw [this] at hc; cases hc
      | succ k =>
        simp only [List.getElem?_cons_succ] at h1 h2 h3 h4
        rw [ndM_spec hn.2 i k x h1 h2 h3 h4]
section
variable {n : Nat} {T : List (Nat × SV)} {H : Hp} {ks : List Nat} {G0 : Gr} {w0 : World} {G : Gr} {a : Act} {w : World}
theorem Sy.mx (A : Sy n T H ks G0 w0 G a w) (k : Nat) (m : List Nat) (bs : List Bool) {T' : List (Nat × SV)} {H' l : Hp} (hT : renT (rngF 0 k ++ m) T' = some T) (h1 : pickH H (rngF 0 k ++ m) = some l) (h2 : renH (rngF 0 k ++ m) H' = some (mskH bs l)) (hl : H'.length = l.length) (hn : ndM bs (rngF 0 k ++ m) = true) (hk : G0.length = k) : Sy n T' H' ks G0 w0 (pickG (rngF 0 k ++ m) G) a w := by
  obtain ⟨p1, p2, p3⟩ := pickH_at h1
  obtain ⟨r1, r2⟩ := renH_at h2
  have hm : ∀ j ∈ rngF 0 k ++ m, j < G.length := fun j hj => by rw [← A.mem.len]; exact p2 j hj
  have at_ : ∀ (i : Nat) (e : Ent), H'[i]? = some (some e) → ∃ j f, bs[i]? = some true ∧ (rngF 0 k ++ m)[i]? = some j ∧ H[j]? = some (some f) ∧ renE (rngF 0 k ++ m) (some e) = some (some f) := by
    intro i e he
    obtain ⟨f, h3, h4⟩ := r2 i _ he
    obtain ⟨f', rfl⟩ := renE_some h4
    obtain ⟨q1, q2⟩ := msk_at h3
    have hi : i < (rngF 0 k ++ m).length := by rw [← p1]; exact (List.getElem?_eq_some_iff.1 q2).1
    refine ⟨(rngF 0 k ++ m)[i], f', q1, by simp [hi], ?_, h4⟩
    rw [← p3 i (rngF 0 k ++ m)[i] (by simp [hi])]; exact q2
  refine ⟨A.size, A.defers, fun t x hx => ?_, ⟨by simp only [pickG, List.length_map]; omega, fun i e he => ?_, fun i k' e f L M hik he hf hmut hL hM hne => ?_⟩, ?_, fun i e L he hmut hL => ?_, A.mix⟩
  · obtain ⟨y, h3, h4⟩ := renT_look hT t x hx
    rw [den_ren hm x h4]
    exact A.get t y h3
  · obtain ⟨j, f, _, a1, a2, a3⟩ := at_ i e he
    exact (ent_ren hm a1 a3).2 (A.mem.ent j f a2)
  · obtain ⟨j, e', c1, a1, a2, a3⟩ := at_ i e he
    obtain ⟨j', f', c2, b1, b2, b3⟩ := at_ k' f hf
    rw [pickG_at hm a1] at hL
    rw [pickG_at hm b1] at hM
    refine A.mem.sep j j' e' f' L M (fun e => hik ?_) a2 b2 (by rw [(renE_mut a3).1]; exact hmut) hL hM (fun h => hne ((renE_mut b3).2.1 h))
    subst e
    exact ndM_spec hn i k' j c1 c2 a1 b1
  · obtain ⟨F, hF⟩ := A.pre
    refine ⟨pickG m G, ?_⟩
    have : pickG (rngF 0 k ++ m) G = pickG (rngF 0 k) G ++ pickG m G := by simp [pickG]
    rw [this, ← hk, hF, pick_rng]
  · obtain ⟨j, f, _, a1, a2, a3⟩ := at_ i e he
    rw [pickG_at hm a1] at hL
    exact A.own j f L a2 (by rw [(renE_mut a3).1]; exact hmut) hL
end
end Go.Proofs.Ytiglneecmibgmaa
/- A nil slice in a block, as a row of nothing. -/
namespace Go.Proofs.Ytiglneecmibgmaa
open Go.RowKit
set_option linter.unusedVariables false
set_option linter.unusedSimpArgs false
section
variable {n : Nat} {T : List (Nat × SV)} {H : Hp} {ks : List Nat} {G0 : Gr} {w0 : World} {G : Gr} {a : Act} {w : World}
/-- a row of nothing that lies nowhere -/
theorem Sy.noRow (A : Sy n T H ks G0 w0 G a w) (e s : Nat) (f : Nat → List SV) (htot : ∀ k, ∃ vs, denL [] (f k) = some vs ∧ vs.length = s) : Sy n T (H ++ [some (.row e s 0 0 f)]) ks G0 w0 (G ++ [none]) a w := by
  have hlen := A.mem.len
  have hold : ∀ (j : Nat) (x : Ent), (H ++ [some (.row e s 0 0 f)])[j]? = some (some x) → (H[j]? = some (some x) ∧ j < H.length) ∨ (j = H.length ∧ x = .row e s 0 0 f) := by
    intro j x h
    by_cases hj : j < H.length
    · rw [List.getElem?_append_left hj] at h; exact .inl ⟨h, hj⟩
    · rw [List.getElem?_append_right (by omega)] at h
      have : j - H.length = 0 := by
        cases hq : j - H.length with
        | zero => rfl
        | succ k => rw [hq] at h; simp at h
      rw [this] at h
      simp at h
      exact .inr ⟨by omega, h.symm⟩
  have hG : ∀ j, j < H.length → (G ++ [(none : Option Loc)])[j]? = G[j]? := fun j hj => List.getElem?_append_left (by omega)
  have hGn : (G ++ [(none : Option Loc)])[H.length]? = some none := by rw [List.getElem?_append_right (by omega), hlen]; simp
  refine ⟨A.size, A.defers, fun t x hx => den_mono _ x (A.get t x hx), ⟨by simp [hlen], ?_, ?_⟩, ?_, ?_, A.mix⟩
  · intro j x h
    rcases hold j x h with ⟨h2, h3⟩ | ⟨rfl, rfl⟩
    · rw [hG j h3]; exact (A.mem.ent j x h2).more _
    · rw [hGn]; exact ⟨htot, fun L h => (by cases h), [], rfl, by simp, .inl ⟨rfl, rfl⟩⟩
  · intro j k x y L M hjk h1 h2 h3 h4 h5 h6
    rcases hold j x h1 with ⟨a2, a3⟩ | ⟨rfl, rfl⟩
    · rw [hG j a3] at h4
      rcases hold k y h2 with ⟨b2, b3⟩ | ⟨rfl, rfl⟩
      · rw [hG k b3] at h5; exact A.mem.sep j k x y L M hjk a2 b2 h3 h4 h5 h6
      · rw [hGn] at h5; cases h5
    · rw [hGn] at h4; cases h4
  · obtain ⟨F, hF⟩ := A.pre; exact ⟨F ++ [none], by rw [hF, List.append_assoc]⟩
  · intro j x L h1 h2 h3
    rcases hold j x h1 with ⟨a2, a3⟩ | ⟨rfl, rfl⟩
    · rw [hG j a3] at h3; exact A.own j x L a2 h2 h3
    · rw [hGn] at h3; cases h3
theorem stH_get {α : Type} : ∀ (l : List α) (i j : Nat) (x : α), (stH l i x)[j]? = if j = i then (l[i]?).map (fun _ => x) else l[j]?
  | [], i, j, x => by unfold stH; split <;> simp
  | y :: l, 0, 0, x => by unfold stH; simp
  | y :: l, 0, j + 1, x => by unfold stH; simp
  | y :: l, i + 1, 0, x => by unfold stH; simp
  | y :: l, i + 1, j + 1, x => by
    unfold stH
    rw [List.getElem?_cons_succ, stH_get l i j x, List.getElem?_cons_succ, List.getElem?_cons_succ]
    by_cases h : j = i
    · rw [if_pos h, if_pos (by omega)]
    · rw [if_neg h, if_neg (by omega)]
theorem den_nil {G : Gr} {q : Nat} (h : G[q]? = some none) : den G (.sl q 0 0) = den G (.sla none 0 0) := by
  unfold den; rw [h]; rfl
theorem denL_at {G : Gr} {x y : SV} (h : den G x = den G y) : ∀ (l r : List SV), denL G (l ++ x :: r) = denL G (l ++ y :: r)
  | [], r => by
    show denL G (x :: r) = denL G (y :: r)
    unfold denL; rw [h]
  | z :: l, r => by
    show denL G (z :: (l ++ x :: r)) = denL G (z :: (l ++ y :: r))
    unfold denL; rw [denL_at h l r]
theorem Sy.nilCell (A : Sy n T H ks G0 w0 G a w) (i e s : Nat) (f : Nat → List SV) {cs : List SV} (cs' : List SV) (h : H[i]? = some (some (.blk cs))) (hc : ∀ G' : Gr, G'[H.length]? = some none → ∀ vs, denL G' cs = some vs → denL G' cs' = some vs) (htot : ∀ k, ∃ vs, denL [] (f k) = some vs ∧ vs.length = s) : Sy n T (stH (H ++ [some (.row e s 0 0 f)]) i (some (.blk cs'))) ks G0 w0 (G ++ [none]) a w := by
  have A1 := A.noRow e s f htot
  have hilt : i < H.length := (List.getElem?_eq_some_iff.1 h).1
  have hGn : (G ++ [(none : Option Loc)])[H.length]? = some none := by rw [List.getElem?_append_right (by rw [A.mem.len]; exact Nat.le_refl _), A.mem.len]; simp
  have hi : (H ++ [some (.row e s 0 0 f)])[i]? = some (some (.blk cs)) := by rw [List.getElem?_append_left hilt]; exact h
  have old : ∀ (j : Nat) (x : Ent), (stH (H ++ [some (.row e s 0 0 f)]) i (some (.blk cs')))[j]? = some (some x) → (j = i ∧ x = .blk cs') ∨ (j ≠ i ∧ (H ++ [some (.row e s 0 0 f)])[j]? = some (some x)) := by
    intro j x hj
    rw [stH_get] at hj
    by_cases he : j = i
    · rw [if_pos he, hi] at hj; simp at hj; exact .inl ⟨he, hj.symm⟩
    · rw [if_neg he] at hj; exact .inr ⟨he, hj⟩
  refine ⟨A1.size, A1.defers, A1.get, ⟨?_, ?_, ?_⟩, A1.pre, ?_, A1.mix⟩
  · have := A1.mem.len
    rw [← this]
    have hl : ∀ (l : Hp) (i : Nat) (x : Option Ent), (stH l i x).length = l.length := by
      intro l
      induction l with
      | nil => intro i x; unfold stH; rfl
      | cons y l ih => intro i x; cases i <;> unfold stH <;> simp [ih]
    exact hl _ _ _
  · intro j x hj
    rcases old j x hj with ⟨rfl, rfl⟩ | ⟨_, hj2⟩
    · obtain ⟨L, vs, q1, q2, q3⟩ := A1.mem.ent j _ hi
      exact ⟨L, vs, q1, hc _ hGn vs q2, q3⟩
    · exact A1.mem.ent j x hj2
  · intro j k x y L M hjk h1 h2 h3 h4 h5 h6
    have fx : ∀ (j : Nat) (x : Ent), (stH (H ++ [some (.row e s 0 0 f)]) i (some (.blk cs')))[j]? = some (some x) → ∃ x', (H ++ [some (.row e s 0 0 f)])[j]? = some (some x') ∧ x'.mut = x.mut ∧ (x'.empty → x.empty) := by
      intro j x hj
      rcases old j x hj with ⟨rfl, rfl⟩ | ⟨_, hj2⟩
      · exact ⟨.blk cs, hi, rfl, fun h => h⟩
      · exact ⟨x, hj2, rfl, fun h => h⟩
    obtain ⟨x', a1, a2, _⟩ := fx j x h1
    obtain ⟨y', b1, _, b3⟩ := fx k y h2
    exact A1.mem.sep j k x' y' L M hjk a1 b1 (by rw [a2]; exact h3) h4 h5 (fun z => h6 (b3 z))
  · intro j x L h1 h2 h3
    rcases old j x h1 with ⟨rfl, rfl⟩ | ⟨_, hj2⟩
    · exact A1.own j _ L hi h2 h3
    · exact A1.own j x L hj2 h2 h3
end
end Go.Proofs.Ytiglneecmibgmaa
/- A runner: bits, ready, regOr. -/
namespace Go.Proofs.Ytiglneecmibgmaa
open Go.RowKit
set_option linter.unusedVariables false
set_option linter.unusedSimpArgs false
set_option maxRecDepth 100000
set_option maxHeartbeats 2000000
set_option simprocs false
theorem okM {a b : Bool} {o1 : Int} {c : Bool} (h : (!(((a && (decide (o1 ≥ 0))) && b) && c)) = false) : 0 ≤ o1 := by
  simp at h; exact h.1.1.2
theorem blow_ (s1 : Int) (hs : s1 = 1 ∨ s1 = 2 ∨ s1 = 4 ∨ s1 = 8) : Fn Try.prog 38 [.int .i64 s1] [] (Rt (.int .i64 (IntKind.wrap .i64 ((IntKind.wrap .i64 (1 * 2 ^ min ((IntKind.wrap .i64 (8 * s1))).toNat (IntKind.bits .i64))) - 1))) []) :=
 enterM (n := 7) (by kernel_rfl) Try.func38 rfl rfl rfl fun G w a h0 A => M hX 15 A rfl (ok_d (by first | omega | (rcases hs with rfl | rfl | rfl | rfl <;> decide)) <| okE_nil) fun A => RETN hX A rfl rfl rfl h0 rfl rfl rfl rfl rfl rfl
def bplace0 (o1 : Int) (x1 : Int) (s1 : Int) : Int := if (!((((s1 == 1) || (s1 == 2)) || (s1 == 4)) || (s1 == 8))) = true then (-1) else IntKind.wrap .i64 ((((BitVec.ofInt (IntKind.bits .i64) (IntKind.wrap .i64 ((((BitVec.ofInt (IntKind.bits .i64) (IntKind.wrap .i64 (o1 + x1))) &&& (BitVec.ofInt (IntKind.bits .i64) 7)).toNat : Nat) : Int))) &&& ~~~ (BitVec.ofInt (IntKind.bits .i64) (IntKind.wrap .i64 (s1 - 1)))).toNat : Nat) : Int)
theorem bplace_ (o1 : Int) (x1 : Int) (s1 : Int)  : Fn Try.prog 27 [.int .i64 o1, .int .i64 x1, .int .i64 s1] [] (Rt (.int .i64 (bplace0 o1 x1 s1)) []) :=
 enterM (n := 19) (by kernel_rfl) Try.func27 rfl rfl rfl fun G w a h0 A => M hX 9 A rfl rfl fun A => CALL1 [] (isSize_ s1) A rfl rfl rfl rfl rfl rfl rfl fun A => M hX 3 A rfl rfl fun A => fork 10 A rfl
  (fun h1 A => M hX 7 A rfl rfl fun A => RETN hX A rfl rfl rfl h0 rfl rfl rfl rfl (by simp only [oneS, nb, nbL, nbH, bplace0, if_pos h1]) rfl)
  (fun h1 A => M hX 22 A rfl rfl fun A => RETN hX A rfl rfl rfl h0 rfl rfl rfl rfl (by simp only [oneS, nb, nbL, nbH, bplace0, if_neg (ne_true_of_eq_false h1)]) rfl)
def bmask0 (o1 : Int) (s1 : Int) : Int := if (!(((((((s1 == 1) || (s1 == 2)) || (s1 == 4)) || (s1 == 8)) && (decide (o1 ≥ 0))) && (decide (o1 ≤ (IntKind.wrap .i64 (8 - s1))))) && ((Int.tmod o1 s1) == 0))) = true then 0 else IntKind.wrap .i64 ((IntKind.wrap .i64 ((IntKind.wrap .i64 (1 * 2 ^ min (s1).toNat (IntKind.bits .i64))) - 1)) * 2 ^ min (o1).toNat (IntKind.bits .i64))
theorem bmask_ (o1 : Int) (s1 : Int) (hs : s1 = 1 ∨ s1 = 2 ∨ s1 = 4 ∨ s1 = 8) : Fn Try.prog 28 [.int .i64 o1, .int .i64 s1] [] (Rt (.int .i64 (bmask0 o1 s1)) []) :=
 enterM (n := 14) (by kernel_rfl) Try.func28 rfl rfl rfl fun G w a h0 A => M hX 10 A rfl rfl fun A => CALL1 [] (bfits_ o1 s1) A rfl rfl rfl rfl rfl rfl rfl fun A => M hX 3 A rfl rfl fun A => fork 8 A rfl
  (fun h1 A => M hX 7 A rfl rfl fun A => RETN hX A rfl rfl rfl h0 rfl rfl rfl rfl (by simp only [oneS, nb, nbL, nbH, bmask0, if_pos h1]) rfl)
  (fun h1 A => M hX 14 A rfl (ok_d (by have := okM h1; omega) <| ok_d (by have := okM h1; omega) <| okE_nil) fun A => RETN hX A rfl rfl rfl h0 rfl rfl rfl rfl (by simp only [oneS, nb, nbL, nbH, bmask0, if_neg (ne_true_of_eq_false h1)]) rfl)
def bget0 (v1 : Int) (s1 : Int) : Int := if (!(((((((s1 == 1) || (s1 == 2)) || (s1 == 4)) || (s1 == 8)) && (decide ((0 : Int) ≥ 0))) && (decide (0 ≤ (IntKind.wrap .i64 (8 - s1))))) && ((Int.tmod 0 s1) == 0))) = true then 0 else IntKind.wrap .i64 ((((BitVec.ofInt (IntKind.bits .i64) (Int.fdiv v1 (2 ^ min ((IntKind.wrap .i64 (8 * 0))).toNat (IntKind.bits .i64)))) &&& (BitVec.ofInt (IntKind.bits .i64) (IntKind.wrap .i64 ((IntKind.wrap .i64 (1 * 2 ^ min ((IntKind.wrap .i64 (8 * s1))).toNat (IntKind.bits .i64))) - 1)))).toNat : Nat) : Int)
theorem bget_ (v1 : Int) (s1 : Int) (hs : s1 = 1 ∨ s1 = 2 ∨ s1 = 4 ∨ s1 = 8) : Fn Try.prog 25 [.int .i64 v1, .int .i64 0, .int .i64 s1] [] (Rt (.int .i64 (bget0 v1 s1)) []) :=
 enterM (n := 18) (by kernel_rfl) Try.func25 rfl rfl rfl fun G w a h0 A => M hX 10 A rfl rfl fun A => CALL1 [] (bfits_ 0 s1) A rfl rfl rfl rfl rfl rfl rfl fun A => M hX 3 A rfl rfl fun A => fork 10 A rfl
  (fun h1 A => M hX 7 A rfl rfl fun A => RETN hX A rfl rfl rfl h0 rfl rfl rfl rfl (by simp only [oneS, nb, nbL, nbH, bget0, if_pos h1]) rfl)
  (fun h1 A => M hX 4 A rfl rfl fun A => DRAW hX hmo [(5, .int .i64 (IntKind.wrap .i64 ((IntKind.wrap .i64 (1 * 2 ^ min ((IntKind.wrap .i64 (8 * s1))).toNat (IntKind.bits .i64))) - 1)))] [] A rfl (ok_d (by first | decide | omega) <| okE_nil) rfl rfl (by kernel_rfl) (effAll_nil _ _) ⟨.inl ⟨_, _, rfl, rfl, blow_ s1 hs⟩, trivial⟩ fun A => M hX 2 A rfl rfl fun A => RETN hX A rfl rfl rfl h0 rfl rfl rfl rfl (by simp only [oneS, nb, nbL, nbH, bget0, if_neg (ne_true_of_eq_false h1)]) rfl)
def balu0 (fn : Int) (a1 : Int) (b1 : Int) : Int := if fn = 1 then IntKind.wrap .i64 (a1 + b1) else if fn = 2 then IntKind.wrap .i64 (a1 - b1) else if fn = 3 then IntKind.wrap .i64 ((((BitVec.ofInt (IntKind.bits .i64) a1) ^^^ (BitVec.ofInt (IntKind.bits .i64) b1)).toNat : Nat) : Int) else if fn = 4 then IntKind.wrap .i64 ((((BitVec.ofInt (IntKind.bits .i64) a1) &&& (BitVec.ofInt (IntKind.bits .i64) b1)).toNat : Nat) : Int) else if fn = 5 then IntKind.wrap .i64 ((((BitVec.ofInt (IntKind.bits .i64) a1) ||| (BitVec.ofInt (IntKind.bits .i64) b1)).toNat : Nat) : Int) else 0
theorem balu_ (fn : Int) (a1 : Int) (b1 : Int)  : Fn Try.prog 35 [.int .i64 fn, .int .i64 a1, .int .i64 b1] [] (Rt (.int .i64 (balu0 fn a1 b1)) []) :=
 enterM (n := 33) (by kernel_rfl) Try.func35 rfl rfl rfl fun G w a h0 A => M hX 18 A rfl rfl fun A => forkE 8 A rfl
  (fun h1 A => M hX 10 A rfl rfl fun A => RETN hX A rfl rfl rfl h0 rfl rfl rfl rfl (by simp only [oneS, nb, nbL, nbH, balu0, if_pos h1]) rfl)
  (fun h1 A => M hX 7 A rfl rfl fun A => forkE 13 A rfl
   (fun h2 A => M hX 10 A rfl rfl fun A => RETN hX A rfl rfl rfl h0 rfl rfl rfl rfl (by simp only [oneS, nb, nbL, nbH, balu0, if_neg (h1), if_pos h2]) rfl)
   (fun h2 A => M hX 7 A rfl rfl fun A => forkE 18 A rfl
    (fun h3 A => M hX 10 A rfl rfl fun A => RETN hX A rfl rfl rfl h0 rfl rfl rfl rfl (by simp only [oneS, nb, nbL, nbH, balu0, if_neg (h1), if_neg (h2), if_pos h3]) rfl)
    (fun h3 A => M hX 7 A rfl rfl fun A => forkE 23 A rfl
     (fun h4 A => M hX 10 A rfl rfl fun A => RETN hX A rfl rfl rfl h0 rfl rfl rfl rfl (by simp only [oneS, nb, nbL, nbH, balu0, if_neg (h1), if_neg (h2), if_neg (h3), if_pos h4]) rfl)
     (fun h4 A => M hX 7 A rfl rfl fun A => forkE 28 A rfl
      (fun h5 A => M hX 10 A rfl rfl fun A => RETN hX A rfl rfl rfl h0 rfl rfl rfl rfl (by simp only [oneS, nb, nbL, nbH, balu0, if_neg (h1), if_neg (h2), if_neg (h3), if_neg (h4), if_pos h5]) rfl)
      (fun h5 A => M hX 10 A rfl rfl fun A => RETN hX A rfl rfl rfl h0 rfl rfl rfl rfl (by simp only [oneS, nb, nbL, nbH, balu0, if_neg (h1), if_neg (h2), if_neg (h3), if_neg (h4), if_neg (h5)]) rfl)))))
abbrev CdAt (ao : Option Addr) (l : List In) : Amb := LstAt ao 17 l.length (fun zz => insS (l.getD zz In.z))
def rgO (r : Rg) (g o1 : Int) : Int := if g = -1 then o1 else r g.toNat
theorem regOr_ (l : List In) (ao : Option Addr) (cp : Nat) (at_ : Int) (r : Rg) (g : Int) (o1 : Int) (hg : -1 ≤ g ∧ g < 8) : Fn Try.prog 26 [.ptr 0 0, .int .i64 g, .int .i64 o1] [some (.blk [.sla ao l.length cp, .int .i64 at_, .int .i64 (r 0), .int .i64 (r 1), .int .i64 (r 2), .int .i64 (r 3), .int .i64 (r 4), .int .i64 (r 5), .int .i64 (r 6), .int .i64 (r 7)])] (Rt (.int .i64 (rgO r g o1)) [some (.blk [.sla ao l.length cp, .int .i64 at_, .int .i64 (r 0), .int .i64 (r 1), .int .i64 (r 2), .int .i64 (r 3), .int .i64 (r 4), .int .i64 (r 5), .int .i64 (r 6), .int .i64 (r 7)])]) :=
 enterM (n := 16) (by kernel_rfl) Try.func26 rfl rfl rfl fun G w a h0 A => N hX 12 A rfl rfl fun A => forkE 8 A rfl
  (fun h1 A => N hX 8 A rfl rfl fun A => RETN hX A rfl rfl rfl h0 rfl rfl rfl rfl (by unfold rgO; rw [if_pos h1] <;> rfl) rfl)
  (fun h1 A => N hX 10 A rfl (ok_d (by omega) <| okE_nil) fun A => q_eff A rfl (ldnE (r := r) hX rfl rfl rfl rfl rfl rfl rfl (by omega)) fun A => N hX 4 A rfl rfl fun A => RETN hX A rfl rfl rfl h0 rfl rfl rfl rfl (by unfold rgO; rw [if_neg h1] <;> rfl) rfl)
theorem ready_ (l : List In) (ao : Option Addr) (cp : Nat) (at_ : Int) (r : Rg) (hat : 0 ≤ at_ ∧ at_ ≤ ((l.length : Nat) : Int)) : FnI (CdAt ao l) Try.prog 21 [.ptr 0 0] [some (.blk [.sla ao l.length cp, .int .i64 at_, .int .i64 (r 0), .int .i64 (r 1), .int .i64 (r 2), .int .i64 (r 3), .int .i64 (r 4), .int .i64 (r 5), .int .i64 (r 6), .int .i64 (r 7)])] (Rt (.tup [.agg [.int .i64 ((l.getD (at_).toNat In.z).op), .int .i64 ((l.getD (at_).toNat In.z).dst), .int .i64 ((l.getD (at_).toNat In.z).ra), .int .i64 ((l.getD (at_).toNat In.z).rb), .int .i64 ((l.getD (at_).toNat In.z).imm), .int .i64 ((l.getD (at_).toNat In.z).loc), .int .i64 ((l.getD (at_).toNat In.z).off), .int .i64 ((l.getD (at_).toNat In.z).ix), .int .i64 ((l.getD (at_).toNat In.z).sz), .int .i64 ((l.getD (at_).toNat In.z).fn), .bool ((l.getD (at_).toNat In.z).acq), .bool ((l.getD (at_).toNat In.z).weak), .bool ((l.getD (at_).toNat In.z).rel), .int .i64 ((l.getD (at_).toNat In.z).pred), .int .i64 ((l.getD (at_).toNat In.z).succ), .int .i64 ((l.getD (at_).toNat In.z).to_), .bool ((l.getD (at_).toNat In.z).zero)], .bool (!(at_ == ((l.length : Nat) : Int)))]) [some (.blk [.sla ao l.length cp, .int .i64 at_, .int .i64 (r 0), .int .i64 (r 1), .int .i64 (r 2), .int .i64 (r 3), .int .i64 (r 4), .int .i64 (r 5), .int .i64 (r 6), .int .i64 (r 7)])]) :=
 enterI (n := 25) (by kernel_rfl) Try.func21 rfl rfl rfl fun G w a h0 hI A => N hX 8 A rfl rfl fun A => DRAWN hX hmo [] [] A rfl rfl rfl rfl (by kernel_rfl) (effAll_nil _ _) trivial fun A => N hX 1 A rfl rfl fun A => forkE 13 A rfl
  (fun h1 A => N hX 9 A rfl rfl fun A => RETN hX A rfl rfl rfl h0 rfl rfl rfl rfl (by rw [h1, Int.toNat_natCast, List.getD_eq_getElem?_getD, List.getElem?_eq_none (Nat.le_refl _), beq_self_eq_true]; rfl) rfl)
  (fun h1 A => N hX 4 A rfl rfl fun A => ANY hmo [.ptr 0 0, .ptr 0 0, .ptr 0 0, .sla ao l.length cp, .ptr 0 0, .ptr 0 0, .ptr 0 1, .int .i64 at_, .v (.pointer (adJ ao 17 at_)), .agg [.int .i64 ((l.getD (at_).toNat In.z).op), .int .i64 ((l.getD (at_).toNat In.z).dst), .int .i64 ((l.getD (at_).toNat In.z).ra), .int .i64 ((l.getD (at_).toNat In.z).rb), .int .i64 ((l.getD (at_).toNat In.z).imm), .int .i64 ((l.getD (at_).toNat In.z).loc), .int .i64 ((l.getD (at_).toNat In.z).off), .int .i64 ((l.getD (at_).toNat In.z).ix), .int .i64 ((l.getD (at_).toNat In.z).sz), .int .i64 ((l.getD (at_).toNat In.z).fn), .bool ((l.getD (at_).toNat In.z).acq), .bool ((l.getD (at_).toNat In.z).weak), .bool ((l.getD (at_).toNat In.z).rel), .int .i64 ((l.getD (at_).toNat In.z).pred), .int .i64 ((l.getD (at_).toNat In.z).succ), .int .i64 ((l.getD (at_).toNat In.z).to_), .bool ((l.getD (at_).toNat In.z).zero)], .tup [], .tt] [10] [] 0 [([], [], [some (.blk [.sla ao l.length cp, .int .i64 at_, .int .i64 (r 0), .int .i64 (r 1), .int .i64 (r 2), .int .i64 (r 3), .int .i64 (r 4), .int .i64 (r 5), .int .i64 (r 6), .int .i64 (r 7)]), some (.blk [.int .i64 0, .int .i64 0, .int .i64 0, .int .i64 0, .int .i64 0, .int .i64 0, .int .i64 0, .int .i64 0, .int .i64 0, .int .i64 0, .ff, .ff, .ff, .int .i64 0, .int .i64 0, .int .i64 0, .ff])]), ([10], [], [some (.blk [.sla ao l.length cp, .int .i64 at_, .int .i64 (r 0), .int .i64 (r 1), .int .i64 (r 2), .int .i64 (r 3), .int .i64 (r 4), .int .i64 (r 5), .int .i64 (r 6), .int .i64 (r 7)]), some (.blk [.int .i64 ((l.getD (at_).toNat In.z).op), .int .i64 ((l.getD (at_).toNat In.z).dst), .int .i64 ((l.getD (at_).toNat In.z).ra), .int .i64 ((l.getD (at_).toNat In.z).rb), .int .i64 ((l.getD (at_).toNat In.z).imm), .int .i64 ((l.getD (at_).toNat In.z).loc), .int .i64 ((l.getD (at_).toNat In.z).off), .int .i64 ((l.getD (at_).toNat In.z).ix), .int .i64 ((l.getD (at_).toNat In.z).sz), .int .i64 ((l.getD (at_).toNat In.z).fn), .bool ((l.getD (at_).toNat In.z).acq), .bool ((l.getD (at_).toNat In.z).weak), .bool ((l.getD (at_).toNat In.z).rel), .int .i64 ((l.getD (at_).toNat In.z).pred), .int .i64 ((l.getD (at_).toNat In.z).succ), .int .i64 ((l.getD (at_).toNat In.z).to_), .bool ((l.getD (at_).toNat In.z).zero)])])] [[true, true, true, true, true, true, true, true, true, true, true, false], [false, false, false, false, false, false, false, false, false, false, false, true]] A rfl rfl rfl rfl (by kernel_rfl) rfl (by kernel_rfl) ⟨⟨⟨_, _, _, _, 0, rfl, rfl, rfl, rfl, eff_at (eff_auto (X := ⟨_, true⟩) (out := .val _ _) hX rfl rfl) rfl⟩, ⟨⟨_, _, _, _, 0, rfl, rfl, rfl, rfl, eff_at (eff_auto (X := ⟨_, true⟩) (out := .val _ _) hX rfl rfl) rfl⟩, ⟨⟨_, _, _, _, 0, rfl, rfl, rfl, rfl, eff_at (eff_auto (X := ⟨_, true⟩) (out := .val _ _) hX rfl rfl) rfl⟩, ⟨⟨_, _, _, _, 0, rfl, rfl, rfl, rfl, eff_at (eff_auto (X := ⟨_, true⟩) (out := .val _ _) hX rfl rfl) rfl⟩, ⟨⟨_, _, _, _, 0, rfl, rfl, rfl, rfl, eff_at (eff_auto (X := ⟨_, true⟩) (out := .val _ _) hX rfl rfl) rfl⟩, ⟨⟨_, _, _, _, 0, rfl, rfl, rfl, rfl, eff_at (eff_auto (X := ⟨_, true⟩) (out := .val _ _) hX rfl rfl) rfl⟩, ⟨⟨_, _, _, _, 0, rfl, rfl, rfl, rfl, eff_at (eff_auto (X := ⟨_, true⟩) (out := .val _ _) hX rfl rfl) rfl⟩, ⟨⟨_, _, _, _, 0, rfl, rfl, rfl, rfl, eff_at (eff_auto (X := ⟨_, true⟩) (out := .val _ _) hX rfl rfl) rfl⟩, ⟨⟨_, _, _, _, 0, rfl, rfl, rfl, rfl, eff_at (ixcE (e := 30) rfl rfl rfl rfl hI (by kernel_rfl) (by omega)) rfl⟩, ⟨⟨_, _, _, _, 0, rfl, rfl, rfl, rfl, eff_at (ldcE (insS (l.getD (at_).toNat In.z)) hX rfl rfl rfl hI (by omega) rfl rfl) rfl⟩, ⟨⟨_, _, _, _, 1, rfl, rfl, rfl, rfl, eff_at (eff_auto (X := ⟨_, true⟩) (out := .upd 1 [.int .i64 ((l.getD (at_).toNat In.z).op), .int .i64 ((l.getD (at_).toNat In.z).dst), .int .i64 ((l.getD (at_).toNat In.z).ra), .int .i64 ((l.getD (at_).toNat In.z).rb), .int .i64 ((l.getD (at_).toNat In.z).imm), .int .i64 ((l.getD (at_).toNat In.z).loc), .int .i64 ((l.getD (at_).toNat In.z).off), .int .i64 ((l.getD (at_).toNat In.z).ix), .int .i64 ((l.getD (at_).toNat In.z).sz), .int .i64 ((l.getD (at_).toNat In.z).fn), .bool ((l.getD (at_).toNat In.z).acq), .bool ((l.getD (at_).toNat In.z).weak), .bool ((l.getD (at_).toNat In.z).rel), .int .i64 ((l.getD (at_).toNat In.z).pred), .int .i64 ((l.getD (at_).toNat In.z).succ), .int .i64 ((l.getD (at_).toNat In.z).to_), .bool ((l.getD (at_).toNat In.z).zero)] _) hX rfl rfl) rfl⟩, trivial⟩⟩⟩⟩⟩⟩⟩⟩⟩⟩⟩, ⟨⟨⟨_, _, _, _, 1, rfl, rfl, rfl, rfl, eff_at (eff_auto (X := ⟨_, true⟩) (out := .val _ _) hX rfl rfl) rfl⟩, trivial⟩, trivial⟩⟩ fun A => N hX 2 A rfl rfl fun A => RETN hX A rfl rfl rfl h0 rfl rfl rfl rfl (by rw [beq_eq_false_iff_ne.2 h1]; rfl) rfl)
end Go.Proofs.Ytiglneecmibgmaa
/- What right instructions keep; what a code of them comes to. -/
namespace Go.Proofs.Ytiglneecmibgmaa
open Go.RowKit
set_option linter.unusedVariables false
set_option linter.unusedSimpArgs false
set_option maxRecDepth 100000
def sndI (i : In) : Bool := sound0 i.op i.dst i.ra i.rb i.imm i.loc i.off i.ix i.sz i.fn i.acq i.weak i.rel i.pred i.succ i.to_ i.zero
def accI (i : In) : Bool := isAccess0 i.op i.dst i.ra i.rb i.imm i.loc i.off i.ix i.sz i.fn i.acq i.weak i.rel i.pred i.succ i.to_ i.zero
theorem right_sound {i : In} {a n : Int} (h : R17 i a n = 0) : sndI i = true ∧ (i.op = 9 → a < i.to_ ∧ i.to_ ≤ n) := by
  unfold R17 Right0 at h
  split at h
  · omega
  · next h1 =>
    split at h
    · omega
    · next h2 =>
      refine ⟨?_, fun h9 => ?_⟩
      · cases hs : sndI i with
        | true => rfl
        | false => unfold sndI at hs; rw [hs] at h1; simp at h1
      · rw [h9] at h2
        simp at h2
        omega
/-- what a sound instruction keeps -/
structure Snd (i : In) : Prop where
  op : 1 ≤ i.op ∧ i.op ≤ 9
  d : (i.op = 1 ∨ i.op = 2 ∨ i.op = 3 ∨ i.op = 4 ∨ i.op = 6) → 0 ≤ i.dst ∧ i.dst < 8
  a : (i.op = 2 ∨ i.op = 3 ∨ i.op = 6 ∨ i.op = 9) → 0 ≤ i.ra ∧ i.ra < 8
  a5 : i.op = 5 → -1 ≤ i.ra ∧ i.ra < 8
  b : i.op = 3 → -1 ≤ i.rb ∧ i.rb < 8
  x : (i.op = 4 ∨ i.op = 5 ∨ i.op = 6) → -1 ≤ i.ix ∧ i.ix < 8
theorem rn_of {r : Int} (h : isRegOrNone0 r = true) : -1 ≤ r ∧ r < 8 := by
  unfold isRegOrNone0 at h
  split at h
  · omega
  · simp at h; omega
theorem acc_of {i : In} (h : accI i = true) : -1 ≤ i.ix ∧ i.ix < 8 := by
  unfold accI isAccess0 at h
  split at h
  · split at h
    · split at h
      · next h1 => exact rn_of h1
      · cases h
    · cases h
  · cases h
theorem snd_of {i : In} (h : sndI i = true) : Snd i := by
  unfold sndI sound0 at h
  by_cases h1 : i.op = 1
  · rw [if_pos h1] at h; simp at h
    exact ⟨by omega, fun _ => by omega, fun h => by omega, fun h => by omega, fun h => by omega, fun h => by omega⟩
  rw [if_neg h1] at h
  by_cases h2 : i.op = 2
  · rw [if_pos h2] at h
    split at h
    · next q => simp at h q; exact ⟨by omega, fun _ => by omega, fun _ => by omega, fun h => by omega, fun h => by omega, fun h => by omega⟩
    · cases h
  rw [if_neg h2] at h
  by_cases h3 : i.op = 3
  · rw [if_pos h3] at h
    split at h
    · next q =>
      split at h
      · next q2 => simp at h q q2; have := rn_of h.1.1; exact ⟨by omega, fun _ => by omega, fun _ => by omega, fun h => by omega, fun _ => by omega, fun h => by omega⟩
      · cases h
    · cases h
  rw [if_neg h3] at h
  by_cases h4 : i.op = 4
  · rw [if_pos h4] at h
    split at h
    · next q => rw [Bool.and_eq_true] at h; simp at q; have := acc_of h.1; exact ⟨by omega, fun _ => by omega, fun h => by omega, fun h => by omega, fun h => by omega, fun _ => by omega⟩
    · cases h
  rw [if_neg h4] at h
  by_cases h5 : i.op = 5
  · rw [if_pos h5] at h
    split at h
    · next q => have := rn_of q; have := acc_of h; exact ⟨by omega, fun h => by omega, fun h => by omega, fun _ => by omega, fun h => by omega, fun _ => by omega⟩
    · cases h
  rw [if_neg h5] at h
  by_cases h6 : i.op = 6
  · rw [if_pos h6] at h
    split at h
    · next q =>
      split at h
      · next q2 => rw [Bool.and_eq_true] at h; simp at q q2; have := acc_of h.1; exact ⟨by omega, fun _ => by omega, fun _ => by omega, fun h => by omega, fun h => by omega, fun _ => by omega⟩
      · cases h
    · cases h
  rw [if_neg h6] at h
  by_cases h7 : i.op = 7
  · exact ⟨by omega, fun h => by omega, fun h => by omega, fun h => by omega, fun h => by omega, fun h => by omega⟩
  rw [if_neg h7] at h
  by_cases h8 : i.op = 8
  · exact ⟨by omega, fun h => by omega, fun h => by omega, fun h => by omega, fun h => by omega, fun h => by omega⟩
  rw [if_neg h8] at h
  by_cases h9 : i.op = 9
  · rw [if_pos h9] at h; simp at h
    exact ⟨by omega, fun h => by omega, fun _ => by omega, fun h => by omega, fun h => by omega, fun h => by omega⟩
  rw [if_neg h9] at h
  cases h
theorem sz_of {i : In} (h : accI i = true) : i.sz = 1 ∨ i.sz = 2 ∨ i.sz = 4 ∨ i.sz = 8 := by
  unfold accI isAccess0 at h
  split at h
  · split at h
    · split at h
      · unfold bMask0 at h
        split at h
        · cases h
        · next h1 =>
          rw [Bool.not_eq_true, Bool.not_eq_false', Bool.and_eq_true, Bool.and_eq_true, Bool.and_eq_true, Bool.or_eq_true, Bool.or_eq_true, Bool.or_eq_true] at h1
          simp only [beq_iff_eq] at h1
          rcases h1.1.1.1 with ((h | h) | h) | h
          · exact .inl h
          · exact .inr (.inl h)
          · exact .inr (.inr (.inl h))
          · exact .inr (.inr (.inr h))
      · cases h
    · cases h
  · cases h
theorem szs_of {i : In} (h : sndI i = true) (ho : i.op = 4 ∨ i.op = 5 ∨ i.op = 6) : i.sz = 1 ∨ i.sz = 2 ∨ i.sz = 4 ∨ i.sz = 8 := by
  unfold sndI sound0 at h
  rw [if_neg (by omega), if_neg (by omega), if_neg (by omega)] at h
  rcases ho with ho | ho | ho
  · rw [if_pos ho] at h
    split at h
    · rw [Bool.and_eq_true] at h; exact sz_of h.1
    · cases h
  · rw [if_neg (by omega), if_pos ho] at h
    split at h
    · exact sz_of h
    · cases h
  · rw [if_neg (by omega), if_neg (by omega), if_pos ho] at h
    split at h
    · split at h
      · rw [Bool.and_eq_true] at h; exact sz_of h.1
      · cases h
    · cases h

/-- a right code -/
structure RCd (l : List In) : Prop where
  n : l.length ≤ 8
  r : ∀ k, k < l.length → R17 (l.getD k In.z) (k : Int) ((l.length : Nat) : Int) = 0
theorem RCd.snd {l : List In} (h : RCd l) {k : Nat} (hk : k < l.length) : Snd (l.getD k In.z) := snd_of (right_sound (h.r k hk)).1
theorem RCd.brs {l : List In} (h : RCd l) {k : Nat} (hk : k < l.length) (h9 : (l.getD k In.z).op = 9) : (k : Int) < (l.getD k In.z).to_ ∧ (l.getD k In.z).to_ ≤ ((l.length : Nat) : Int) := (right_sound (h.r k hk)).2 h9
theorem RCd.szs {l : List In} (h : RCd l) {k : Nat} (hk : k < l.length) (ho : (l.getD k In.z).op = 4 ∨ (l.getD k In.z).op = 5 ∨ (l.getD k In.z).op = 6) : (l.getD k In.z).sz = 1 ∨ (l.getD k In.z).sz = 2 ∨ (l.getD k In.z).sz = 4 ∨ (l.getD k In.z).sz = 8 := szs_of (right_sound (h.r k hk)).1 ho
/-- what a code is checked for, told of its codes -/
theorem rcd_of {cs : List Cde} (h : ckE cs = 0) : (1 ≤ cs.length ∧ cs.length ≤ 3) ∧ ∀ c ∈ cs, RCd c.l := by
  unfold ckE at h
  split at h
  · omega
  · next h0 =>
    simp at h0
    refine ⟨by omega, ?_⟩
    cases h1 : bad1 cs with
    | some k => rw [h1] at h; simp at h
    | none =>
      rw [h1] at h
      have hb1 := bad1_le h1
      cases h2 : bad2 cs with
      | some k =>
        rw [h2] at h
        exfalso
        unfold bad2 at h2
        have h3 := List.find?_some h2
        cases h4 : badC (cs.getD k Cde.z) with
        | none => rw [h4] at h3; cases h3
        | some q =>
          simp only [h4, Option.getD_some] at h
          unfold badC at h4
          have h5 := List.find?_some h4
          rw [h] at h5
          cases h5
      | none =>
        intro c hc
        refine ⟨hb1 c hc, fun k hk => ?_⟩
        obtain ⟨j, hj⟩ := List.getElem?_of_mem hc
        have hl := (List.getElem?_eq_some_iff.1 hj).1
        unfold bad2 at h2
        rw [List.find?_eq_none] at h2
        have h3 := h2 j (List.mem_range.2 hl)
        rw [List.getD_eq_getElem?_getD, hj] at h3
        simp only [Option.getD_some] at h3
        cases h4 : badC c with
        | some q => rw [h4] at h3; exact absurd rfl h3
        | none =>
          unfold badC at h4
          rw [List.find?_eq_none] at h4
          have h5 := h4 k (List.mem_range.2 hk)
          simpa using h5
/-- where a thread stands, what its registers hold, past an instruction that touches no memory -/
def cpA (at_ : Int) (r : Rg) (i : In) : Int := if i.op = 9 then (if (r i.ra.toNat == 0) = i.zero then i.to_ else at_ + 1) else at_ + 1
def cpR (r : Rg) (i : In) : Rg := if i.op = 1 then updR r i.dst.toNat i.imm else if i.op = 2 then updR r i.dst.toNat (r i.ra.toNat) else if i.op = 3 then updR r i.dst.toNat (balu0 i.fn (r i.ra.toNat) (rgO r i.rb i.imm)) else r
def stpI (i : In) : Bool := (i.op == 4) || (i.op == 5) || (i.op == 6) || (i.op == 7) || (i.op == 8)
structure Th where (at_ : Nat) (r : Rg)
/-- up to where it stands next -/
def setF (l : List In) : Nat → Th → Th
  | 0, s => s
  | f + 1, s => if s.at_ < l.length ∧ stpI (l.getD s.at_ In.z) = false then setF l f ⟨(cpA (s.at_ : Int) s.r (l.getD s.at_ In.z)).toNat, cpR s.r (l.getD s.at_ In.z)⟩ else s
def setl (l : List In) (s : Th) : Th := setF l l.length s
def nxT (l : List In) (z : Th) : Th := ⟨(cpA ((z.at_ : Nat) : Int) z.r (l.getD ((z.at_ : Nat) : Int).toNat In.z)).toNat, cpR z.r (l.getD ((z.at_ : Nat) : Int).toNat In.z)⟩
theorem stp_ops {i : In} (h : stpI i = false) : i.op ≠ 4 ∧ i.op ≠ 5 ∧ i.op ≠ 6 ∧ i.op ≠ 7 ∧ i.op ≠ 8 := by
  unfold stpI at h
  simp at h
  omega
theorem cpA_rng {l : List In} {z : Th} (hc : RCd l) (h1 : z.at_ < l.length) : (z.at_ : Int) < cpA ((z.at_ : Nat) : Int) z.r (l.getD z.at_ In.z) ∧ cpA ((z.at_ : Nat) : Int) z.r (l.getD z.at_ In.z) ≤ ((l.length : Nat) : Int) := by
  unfold cpA
  split
  · next h9 =>
    have := hc.brs h1 h9
    split <;> omega
  · omega
/-- what the loop up to where it stands next keeps -/
structure SI (l : List In) (s z : Th) : Prop where
  le : z.at_ ≤ l.length
  eq : ∃ f, l.length - z.at_ ≤ f ∧ setF l f z = setl l s
theorem SI.i0 {l : List In} {s : Th} (h : s.at_ ≤ l.length) : SI l s s := ⟨h, l.length, Nat.sub_le _ _, rfl⟩
theorem SI.nx {l : List In} {s z : Th} (h : SI l s z) (hc : RCd l) (h1 : ((z.at_ : Nat) : Int) ≠ ((l.length : Nat) : Int)) (h2 : (!(stpI (l.getD ((z.at_ : Nat) : Int).toNat In.z))) = true) : SI l s (nxT l z) ∧ l.length - (nxT l z).at_ < l.length - z.at_ := by
  have hlt : z.at_ < l.length := by have := h.le; omega
  have hr := cpA_rng (z := z) hc hlt
  have e : (nxT l z).at_ = (cpA ((z.at_ : Nat) : Int) z.r (l.getD z.at_ In.z)).toNat := rfl
  have hb : z.at_ < (nxT l z).at_ ∧ (nxT l z).at_ ≤ l.length := by rw [e]; omega
  have hst : stpI (l.getD z.at_ In.z) = false := by
    have : stpI (l.getD ((z.at_ : Nat) : Int).toNat In.z) = false := by simpa using h2
    exact this
  obtain ⟨f, hf, he⟩ := h.eq
  refine ⟨⟨hb.2, ?_⟩, by omega⟩
  cases f with
  | zero => omega
  | succ f =>
    refine ⟨f, by omega, ?_⟩
    rw [← he]
    show _ = setF l (f + 1) z
    rw [setF, if_pos ⟨hlt, hst⟩]
    rfl
theorem setF_stop {l : List In} {z : Th} (h : ¬ (z.at_ < l.length ∧ stpI (l.getD z.at_ In.z) = false)) : ∀ f, setF l f z = z
  | 0 => rfl
  | f + 1 => by rw [setF, if_neg h]
theorem SI.fin {l : List In} {s z : Th} (h : SI l s z) (hn : ¬ (z.at_ < l.length ∧ stpI (l.getD z.at_ In.z) = false)) : setl l s = z := by
  obtain ⟨f, _, he⟩ := h.eq
  rw [← he, setF_stop hn]
theorem SI.f1 {l : List In} {s z : Th} (h : SI l s z) (h1 : ((z.at_ : Nat) : Int) = ((l.length : Nat) : Int)) : setl l s = z := h.fin (by omega)
theorem SI.f2 {l : List In} {s z : Th} (h : SI l s z) (h2 : (!(stpI (l.getD ((z.at_ : Nat) : Int).toNat In.z))) = false) : setl l s = z := h.fin (fun q => by
  have e : stpI (l.getD ((z.at_ : Nat) : Int).toNat In.z) = false := q.2
  rw [e] at h2; cases h2)
/-- it stands at a place of its code, at the end or at an instruction at which it stops -/
theorem setF_le {l : List In} (hc : RCd l) : ∀ f s, s.at_ ≤ l.length → (setF l f s).at_ ≤ l.length
  | 0, s, h => h
  | f + 1, s, h => by
    rw [setF]
    split
    · next q =>
      have hr := cpA_rng (z := s) hc q.1
      exact setF_le hc f _ (by show (cpA _ _ _).toNat ≤ _; omega)
    · exact h
theorem setl_le {l : List In} (hc : RCd l) {s : Th} (h : s.at_ ≤ l.length) : (setl l s).at_ ≤ l.length := setF_le hc _ s h
def paR (r : Rg) (i : In) (old : Int) : Rg := if ((i.op == 4) || (i.op == 6)) = true then updR r i.dst.toNat (bget0 old i.sz) else r
def paT (l : List In) (s : Th) (old : Int) : Th := if s.at_ = l.length then s else setl l ⟨s.at_ + 1, paR s.r (l.getD s.at_ In.z) old⟩
theorem paT_le {l : List In} (hc : RCd l) {s : Th} (h : s.at_ ≤ l.length) (old : Int) : (paT l s old).at_ ≤ l.length := by
  unfold paT
  split
  · exact h
  · exact setl_le hc (by show s.at_ + 1 ≤ _; omega)
def mopI (i : In) : Bool := (i.op == 4) || (i.op == 5) || (i.op == 6)
def spL (i : In) : Int := if mopI i = true then i.loc else 0
def spM (r : Rg) (i : In) : Int := if mopI i = true then bmask0 (bplace0 i.off (rgO r i.ix 0) i.sz) i.sz else 0
def spD (r : Rg) (i : In) : Int := if mopI i = true then (if i.op = 5 then bget0 (rgO r i.ra i.imm) i.sz else if i.op = 6 then r i.ra.toNat else 0) else 0
end Go.Proofs.Ytiglneecmibgmaa
/- A runner: stops, compute. -/
namespace Go.Proofs.Ytiglneecmibgmaa
open Go.RowKit
set_option linter.unusedVariables false
set_option linter.unusedSimpArgs false
set_option maxRecDepth 100000
set_option maxHeartbeats 2000000
set_option simprocs false
theorem mop_ (i : In)  : Fn Try.prog 24 [.agg [.int .i64 i.op, .int .i64 i.dst, .int .i64 i.ra, .int .i64 i.rb, .int .i64 i.imm, .int .i64 i.loc, .int .i64 i.off, .int .i64 i.ix, .int .i64 i.sz, .int .i64 i.fn, .bool i.acq, .bool i.weak, .bool i.rel, .int .i64 i.pred, .int .i64 i.succ, .int .i64 i.to_, .bool i.zero]] [] (Rt (.bool (mopI i)) []) :=
 enterM (n := 9) (by kernel_rfl) Try.func24 rfl rfl rfl fun G w a h0 A => N hX 9 A rfl rfl fun A => CALL1 [] (Reads_ i.op i.dst i.ra i.rb i.imm i.loc i.off i.ix i.sz i.fn i.acq i.weak i.rel i.pred i.succ i.to_ i.zero) A rfl rfl rfl rfl rfl rfl rfl fun A => N hX 1 A rfl rfl fun A => fork 5 A rfl
  (fun h1 A => N hX 7 A rfl rfl fun A => RETN hX A rfl rfl rfl h0 rfl rfl rfl rfl (by rw [show mopI i = true from (by revert h1; simp only [mopI, stpI] <;> (cases (i.op == 4) <;> cases (i.op == 5) <;> cases (i.op == 6) <;> cases (i.op == 7) <;> cases (i.op == 8) <;> first | rfl | simp))]; rfl) rfl)
  (fun h1 A => N hX 1 A rfl rfl fun A => CALL1 [] (Writes_ i.op i.dst i.ra i.rb i.imm i.loc i.off i.ix i.sz i.fn i.acq i.weak i.rel i.pred i.succ i.to_ i.zero) A rfl rfl rfl rfl rfl rfl rfl fun A => N hX 5 A rfl rfl fun A => RETN hX A rfl rfl rfl h0 rfl rfl rfl rfl (congrArg SV.bool (by revert h1; simp only [mopI, stpI] <;> (cases (i.op == 4) <;> cases (i.op == 5) <;> cases (i.op == 6) <;> cases (i.op == 7) <;> cases (i.op == 8) <;> first | rfl | simp))) rfl)
theorem stops_ (i : In)  : Fn Try.prog 22 [.agg [.int .i64 i.op, .int .i64 i.dst, .int .i64 i.ra, .int .i64 i.rb, .int .i64 i.imm, .int .i64 i.loc, .int .i64 i.off, .int .i64 i.ix, .int .i64 i.sz, .int .i64 i.fn, .bool i.acq, .bool i.weak, .bool i.rel, .int .i64 i.pred, .int .i64 i.succ, .int .i64 i.to_, .bool i.zero]] [] (Rt (.bool (stpI i)) []) :=
 enterM (n := 15) (by kernel_rfl) Try.func22 rfl rfl rfl fun G w a h0 A => N hX 9 A rfl rfl fun A => CALL1 [] (mop_ i) A rfl rfl rfl rfl rfl rfl rfl fun A => N hX 14 A rfl rfl fun A => RETN hX A rfl rfl rfl h0 rfl rfl rfl rfl (congrArg SV.bool (by simp only [mopI, stpI] <;> (cases (i.op == 4) <;> cases (i.op == 5) <;> cases (i.op == 6) <;> cases (i.op == 7) <;> cases (i.op == 8) <;> first | rfl | simp))) rfl
theorem compute_ (l : List In) (ao : Option Addr) (cp : Nat) (at_ : Int) (r : Rg) (i : In) (hat : 0 ≤ at_ ∧ at_ ≤ 1000) (hd : i.op = 1 ∨ i.op = 2 ∨ i.op = 3 → 0 ≤ i.dst ∧ i.dst < 8) (ha : i.op = 2 ∨ i.op = 3 ∨ i.op = 9 → 0 ≤ i.ra ∧ i.ra < 8) (hb : i.op = 3 → -1 ≤ i.rb ∧ i.rb < 8) : Fn Try.prog 23 [.ptr 0 0, .agg [.int .i64 i.op, .int .i64 i.dst, .int .i64 i.ra, .int .i64 i.rb, .int .i64 i.imm, .int .i64 i.loc, .int .i64 i.off, .int .i64 i.ix, .int .i64 i.sz, .int .i64 i.fn, .bool i.acq, .bool i.weak, .bool i.rel, .int .i64 i.pred, .int .i64 i.succ, .int .i64 i.to_, .bool i.zero]] [some (.blk [.sla ao l.length cp, .int .i64 at_, .int .i64 (r 0), .int .i64 (r 1), .int .i64 (r 2), .int .i64 (r 3), .int .i64 (r 4), .int .i64 (r 5), .int .i64 (r 6), .int .i64 (r 7)])] (Rt (.tup []) [some (.blk [.sla ao l.length cp, .int .i64 (cpA at_ r i), .int .i64 ((cpR r i) 0), .int .i64 ((cpR r i) 1), .int .i64 ((cpR r i) 2), .int .i64 ((cpR r i) 3), .int .i64 ((cpR r i) 4), .int .i64 ((cpR r i) 5), .int .i64 ((cpR r i) 6), .int .i64 ((cpR r i) 7)])]) :=
 enterM (n := 80) (by kernel_rfl) Try.func23 rfl rfl rfl fun G w a h0 A => N hX 18 A rfl (ok_d (by omega) <| okE_nil) fun A => N hX 12 A rfl rfl fun A => forkE 13 A rfl
  (fun h1 A => N hX 1 A rfl rfl fun A => DRAWN hX hmo [] [(8, .tup [], [some (.blk [.sla ao l.length cp, .int .i64 (at_ + 1), .int .i64 ((updR r (i.dst).toNat i.imm) 0), .int .i64 ((updR r (i.dst).toNat i.imm) 1), .int .i64 ((updR r (i.dst).toNat i.imm) 2), .int .i64 ((updR r (i.dst).toNat i.imm) 3), .int .i64 ((updR r (i.dst).toNat i.imm) 4), .int .i64 ((updR r (i.dst).toNat i.imm) 5), .int .i64 ((updR r (i.dst).toNat i.imm) 6), .int .i64 ((updR r (i.dst).toNat i.imm) 7)]), some (.blk [.int .i64 i.op, .int .i64 i.dst, .int .i64 i.ra, .int .i64 i.rb, .int .i64 i.imm, .int .i64 i.loc, .int .i64 i.off, .int .i64 i.ix, .int .i64 i.sz, .int .i64 i.fn, .bool i.acq, .bool i.weak, .bool i.rel, .int .i64 i.pred, .int .i64 i.succ, .int .i64 i.to_, .bool i.zero])])] A rfl (ok_d (by omega) <| okE_nil) rfl rfl (by kernel_rfl) ⟨stnE (i := 0) (r := r) hX rfl rfl rfl rfl rfl rfl rfl rfl (by first | exact hd (by omega) | exact ha (by omega) | exact hb (by omega)), trivial⟩ trivial fun A => N hX 1 A rfl rfl fun A => ENDN (RETN hX A rfl rfl rfl h0 rfl rfl rfl rfl rfl (by have e1 : cpA at_ r i = _ := (by unfold cpA; rw [if_neg (by omega)] <;> rfl); have e2 : cpR r i = _ := (by unfold cpR; rw [if_pos h1] <;> rfl); rw [e1, e2] <;> rfl)))
  (fun h1 A => N hX 7 A rfl rfl fun A => forkE 23 A rfl
   (fun h2 A => N hX 1 A rfl rfl fun A => ANY hmo [.ptr 0 0, .ptr 1 1, .int .i64 i.dst, .ptr 0 0, .ptr 1 2, .int .i64 i.ra, .ptr 0 0, .ptr 0 2, .ix (.ptr 0 2) 1 8 i.ra 0, .int .i64 (r (i.ra).toNat), .ptr 0 0, .ptr 0 2, .ix (.ptr 0 2) 1 8 i.dst 0, .tup []] [13] [] 0 [([], [], [some (.blk [.sla ao l.length cp, .int .i64 (at_ + 1), .int .i64 (r 0), .int .i64 (r 1), .int .i64 (r 2), .int .i64 (r 3), .int .i64 (r 4), .int .i64 (r 5), .int .i64 (r 6), .int .i64 (r 7)]), some (.blk [.int .i64 i.op, .int .i64 i.dst, .int .i64 i.ra, .int .i64 i.rb, .int .i64 i.imm, .int .i64 i.loc, .int .i64 i.off, .int .i64 i.ix, .int .i64 i.sz, .int .i64 i.fn, .bool i.acq, .bool i.weak, .bool i.rel, .int .i64 i.pred, .int .i64 i.succ, .int .i64 i.to_, .bool i.zero])]), ([13], [], [some (.blk [.sla ao l.length cp, .int .i64 (at_ + 1), .int .i64 ((updR r (i.dst).toNat (r (i.ra).toNat)) 0), .int .i64 ((updR r (i.dst).toNat (r (i.ra).toNat)) 1), .int .i64 ((updR r (i.dst).toNat (r (i.ra).toNat)) 2), .int .i64 ((updR r (i.dst).toNat (r (i.ra).toNat)) 3), .int .i64 ((updR r (i.dst).toNat (r (i.ra).toNat)) 4), .int .i64 ((updR r (i.dst).toNat (r (i.ra).toNat)) 5), .int .i64 ((updR r (i.dst).toNat (r (i.ra).toNat)) 6), .int .i64 ((updR r (i.dst).toNat (r (i.ra).toNat)) 7)]), some (.blk [.int .i64 i.op, .int .i64 i.dst, .int .i64 i.ra, .int .i64 i.rb, .int .i64 i.imm, .int .i64 i.loc, .int .i64 i.off, .int .i64 i.ix, .int .i64 i.sz, .int .i64 i.fn, .bool i.acq, .bool i.weak, .bool i.rel, .int .i64 i.pred, .int .i64 i.succ, .int .i64 i.to_, .bool i.zero])])] [[true, true, true, true, true, true, true, true, true, true, true, true, true, true], [false, false, false, false, false, false, false, false, false, false, true, true, false, false]] A rfl rfl rfl rfl (by kernel_rfl) rfl (by kernel_rfl) ⟨⟨⟨_, _, _, _, 0, rfl, rfl, rfl, rfl, eff_at (eff_auto (X := ⟨_, true⟩) (out := .val _ _) hX rfl rfl) rfl⟩, ⟨⟨_, _, _, _, 0, rfl, rfl, rfl, rfl, eff_at (eff_auto (X := ⟨_, true⟩) (out := .val _ _) hX rfl rfl) rfl⟩, ⟨⟨_, _, _, _, 0, rfl, rfl, rfl, rfl, eff_at (eff_auto (X := ⟨_, true⟩) (out := .val _ _) hX rfl rfl) rfl⟩, ⟨⟨_, _, _, _, 0, rfl, rfl, rfl, rfl, eff_at (eff_auto (X := ⟨_, true⟩) (out := .val _ _) hX rfl rfl) rfl⟩, ⟨⟨_, _, _, _, 0, rfl, rfl, rfl, rfl, eff_at (eff_auto (X := ⟨_, true⟩) (out := .val _ _) hX rfl rfl) rfl⟩, ⟨⟨_, _, _, _, 0, rfl, rfl, rfl, rfl, eff_at (eff_auto (X := ⟨_, true⟩) (out := .val _ _) hX rfl rfl) rfl⟩, ⟨⟨_, _, _, _, 0, rfl, rfl, rfl, rfl, eff_at (eff_auto (X := ⟨_, true⟩) (out := .val _ _) hX rfl rfl) rfl⟩, ⟨⟨_, _, _, _, 0, rfl, rfl, rfl, rfl, eff_at (eff_auto (X := ⟨_, true⟩) (out := .val _ _) hX rfl rfl) rfl⟩, ⟨⟨_, _, _, _, 0, rfl, rfl, rfl, rfl, eff_at (eff_auto (X := ⟨_, true⟩) (out := .val _ _) hX rfl (ok_d (by omega) <| okE_nil)) rfl⟩, ⟨⟨_, _, _, _, 0, rfl, rfl, rfl, rfl, eff_at (ldnE (r := r) hX rfl rfl rfl rfl rfl rfl rfl (by first | exact hd (by omega) | exact ha (by omega) | exact hb (by omega))) rfl⟩, ⟨⟨_, _, _, _, 0, rfl, rfl, rfl, rfl, eff_at (eff_auto (X := ⟨_, true⟩) (out := .val _ _) hX rfl rfl) rfl⟩, ⟨⟨_, _, _, _, 0, rfl, rfl, rfl, rfl, eff_at (eff_auto (X := ⟨_, true⟩) (out := .val _ _) hX rfl rfl) rfl⟩, ⟨⟨_, _, _, _, 0, rfl, rfl, rfl, rfl, eff_at (eff_auto (X := ⟨_, true⟩) (out := .val _ _) hX rfl (ok_d (by omega) <| okE_nil)) rfl⟩, ⟨⟨_, _, _, _, 1, rfl, rfl, rfl, rfl, eff_at (stnE (i := 0) (r := r) hX rfl rfl rfl rfl rfl rfl rfl rfl (by first | exact hd (by omega) | exact ha (by omega) | exact hb (by omega))) rfl⟩, trivial⟩⟩⟩⟩⟩⟩⟩⟩⟩⟩⟩⟩⟩⟩, ⟨⟨⟨_, _, _, _, 1, rfl, rfl, rfl, rfl, eff_at (eff_auto (X := ⟨_, true⟩) (out := .val _ _) hX rfl rfl) rfl⟩, ⟨⟨_, _, _, _, 1, rfl, rfl, rfl, rfl, eff_at (eff_auto (X := ⟨_, true⟩) (out := .val _ _) hX rfl rfl) rfl⟩, trivial⟩⟩, trivial⟩⟩ fun A => N hX 1 A rfl rfl fun A => ENDN (RETN hX A rfl rfl rfl h0 rfl rfl rfl rfl rfl (by have e1 : cpA at_ r i = _ := (by unfold cpA; rw [if_neg (by omega)] <;> rfl); have e2 : cpR r i = _ := (by unfold cpR; rw [if_neg (by omega), if_pos h2] <;> rfl); rw [e1, e2] <;> rfl)))
   (fun h2 A => N hX 7 A rfl rfl fun A => forkE 38 A rfl
    (fun h3 A => N hX 1 A rfl rfl fun A => ANY hmo [.ptr 0 0, .ptr 1 1, .int .i64 i.dst, .ptr 1 9, .int .i64 i.fn, .ptr 0 0, .ptr 1 2, .int .i64 i.ra, .ptr 0 0, .ptr 0 2, .ix (.ptr 0 2) 1 8 i.ra 0, .int .i64 (r (i.ra).toNat), .ptr 0 0, .ptr 1 3, .int .i64 i.rb, .ptr 1 4, .int .i64 i.imm, .int .i64 (rgO r i.rb i.imm), .int .i64 (balu0 i.fn (r (i.ra).toNat) (rgO r i.rb i.imm)), .ptr 0 0, .ptr 0 2, .ix (.ptr 0 2) 1 8 i.dst 0, .tup []] [17, 22] [] 0 [([], [], [some (.blk [.sla ao l.length cp, .int .i64 (at_ + 1), .int .i64 (r 0), .int .i64 (r 1), .int .i64 (r 2), .int .i64 (r 3), .int .i64 (r 4), .int .i64 (r 5), .int .i64 (r 6), .int .i64 (r 7)]), some (.blk [.int .i64 i.op, .int .i64 i.dst, .int .i64 i.ra, .int .i64 i.rb, .int .i64 i.imm, .int .i64 i.loc, .int .i64 i.off, .int .i64 i.ix, .int .i64 i.sz, .int .i64 i.fn, .bool i.acq, .bool i.weak, .bool i.rel, .int .i64 i.pred, .int .i64 i.succ, .int .i64 i.to_, .bool i.zero])]), ([17], [], [some (.blk [.sla ao l.length cp, .int .i64 (at_ + 1), .int .i64 (r 0), .int .i64 (r 1), .int .i64 (r 2), .int .i64 (r 3), .int .i64 (r 4), .int .i64 (r 5), .int .i64 (r 6), .int .i64 (r 7)]), some (.blk [.int .i64 i.op, .int .i64 i.dst, .int .i64 i.ra, .int .i64 i.rb, .int .i64 i.imm, .int .i64 i.loc, .int .i64 i.off, .int .i64 i.ix, .int .i64 i.sz, .int .i64 i.fn, .bool i.acq, .bool i.weak, .bool i.rel, .int .i64 i.pred, .int .i64 i.succ, .int .i64 i.to_, .bool i.zero])]), ([17, 22], [], [some (.blk [.sla ao l.length cp, .int .i64 (at_ + 1), .int .i64 ((updR r (i.dst).toNat (balu0 i.fn (r (i.ra).toNat) (rgO r i.rb i.imm))) 0), .int .i64 ((updR r (i.dst).toNat (balu0 i.fn (r (i.ra).toNat) (rgO r i.rb i.imm))) 1), .int .i64 ((updR r (i.dst).toNat (balu0 i.fn (r (i.ra).toNat) (rgO r i.rb i.imm))) 2), .int .i64 ((updR r (i.dst).toNat (balu0 i.fn (r (i.ra).toNat) (rgO r i.rb i.imm))) 3), .int .i64 ((updR r (i.dst).toNat (balu0 i.fn (r (i.ra).toNat) (rgO r i.rb i.imm))) 4), .int .i64 ((updR r (i.dst).toNat (balu0 i.fn (r (i.ra).toNat) (rgO r i.rb i.imm))) 5), .int .i64 ((updR r (i.dst).toNat (balu0 i.fn (r (i.ra).toNat) (rgO r i.rb i.imm))) 6), .int .i64 ((updR r (i.dst).toNat (balu0 i.fn (r (i.ra).toNat) (rgO r i.rb i.imm))) 7)]), some (.blk [.int .i64 i.op, .int .i64 i.dst, .int .i64 i.ra, .int .i64 i.rb, .int .i64 i.imm, .int .i64 i.loc, .int .i64 i.off, .int .i64 i.ix, .int .i64 i.sz, .int .i64 i.fn, .bool i.acq, .bool i.weak, .bool i.rel, .int .i64 i.pred, .int .i64 i.succ, .int .i64 i.to_, .bool i.zero])])] [[true, true, true, true, true, true, true, true, true, true, true, true, true, true, true, true, true, true, false, true, true, false, false], [true, true, true, true, true, true, true, true, true, true, true, true, false, true, false, true, false, false, true, true, true, true, true], [false, false, false, false, false, false, false, false, false, false, false, false, false, false, false, false, false, false, false, true, true, false, false]] A rfl rfl rfl rfl (by kernel_rfl) rfl (by kernel_rfl) ⟨⟨⟨_, _, _, _, 0, rfl, rfl, rfl, rfl, eff_at (eff_auto (X := ⟨_, true⟩) (out := .val _ _) hX rfl rfl) rfl⟩, ⟨⟨_, _, _, _, 0, rfl, rfl, rfl, rfl, eff_at (eff_auto (X := ⟨_, true⟩) (out := .val _ _) hX rfl rfl) rfl⟩, ⟨⟨_, _, _, _, 0, rfl, rfl, rfl, rfl, eff_at (eff_auto (X := ⟨_, true⟩) (out := .val _ _) hX rfl rfl) rfl⟩, ⟨⟨_, _, _, _, 0, rfl, rfl, rfl, rfl, eff_at (eff_auto (X := ⟨_, true⟩) (out := .val _ _) hX rfl rfl) rfl⟩, ⟨⟨_, _, _, _, 0, rfl, rfl, rfl, rfl, eff_at (eff_auto (X := ⟨_, true⟩) (out := .val _ _) hX rfl rfl) rfl⟩, ⟨⟨_, _, _, _, 0, rfl, rfl, rfl, rfl, eff_at (eff_auto (X := ⟨_, true⟩) (out := .val _ _) hX rfl rfl) rfl⟩, ⟨⟨_, _, _, _, 0, rfl, rfl, rfl, rfl, eff_at (eff_auto (X := ⟨_, true⟩) (out := .val _ _) hX rfl rfl) rfl⟩, ⟨⟨_, _, _, _, 0, rfl, rfl, rfl, rfl, eff_at (eff_auto (X := ⟨_, true⟩) (out := .val _ _) hX rfl rfl) rfl⟩, ⟨⟨_, _, _, _, 0, rfl, rfl, rfl, rfl, eff_at (eff_auto (X := ⟨_, true⟩) (out := .val _ _) hX rfl rfl) rfl⟩, ⟨⟨_, _, _, _, 0, rfl, rfl, rfl, rfl, eff_at (eff_auto (X := ⟨_, true⟩) (out := .val _ _) hX rfl rfl) rfl⟩, ⟨⟨_, _, _, _, 0, rfl, rfl, rfl, rfl, eff_at (eff_auto (X := ⟨_, true⟩) (out := .val _ _) hX rfl (ok_d (by omega) <| okE_nil)) rfl⟩, ⟨⟨_, _, _, _, 0, rfl, rfl, rfl, rfl, eff_at (ldnE (r := r) hX rfl rfl rfl rfl rfl rfl rfl (by first | exact hd (by omega) | exact ha (by omega) | exact hb (by omega))) rfl⟩, ⟨⟨_, _, _, _, 0, rfl, rfl, rfl, rfl, eff_at (eff_auto (X := ⟨_, true⟩) (out := .val _ _) hX rfl rfl) rfl⟩, ⟨⟨_, _, _, _, 0, rfl, rfl, rfl, rfl, eff_at (eff_auto (X := ⟨_, true⟩) (out := .val _ _) hX rfl rfl) rfl⟩, ⟨⟨_, _, _, _, 0, rfl, rfl, rfl, rfl, eff_at (eff_auto (X := ⟨_, true⟩) (out := .val _ _) hX rfl rfl) rfl⟩, ⟨⟨_, _, _, _, 0, rfl, rfl, rfl, rfl, eff_at (eff_auto (X := ⟨_, true⟩) (out := .val _ _) hX rfl rfl) rfl⟩, ⟨⟨_, _, _, _, 0, rfl, rfl, rfl, rfl, eff_at (eff_auto (X := ⟨_, true⟩) (out := .val _ _) hX rfl rfl) rfl⟩, ⟨⟨_, _, _, _, 1, rfl, rfl, rfl, rfl, eff_at (callE [0] (regOr_ l ao cp (at_ + 1) r i.rb i.imm (by first | exact hd (by omega) | exact ha (by omega) | exact hb (by omega))) rfl rfl rfl rfl rfl rfl rfl) rfl⟩, ⟨⟨_, _, _, _, 0, rfl, rfl, rfl, rfl, eff_at (eff_auto (X := ⟨_, true⟩) (out := .val _ _) hX rfl rfl) rfl⟩, ⟨⟨_, _, _, _, 0, rfl, rfl, rfl, rfl, eff_at (eff_auto (X := ⟨_, true⟩) (out := .val _ _) hX rfl rfl) rfl⟩, trivial⟩⟩⟩⟩⟩⟩⟩⟩⟩⟩⟩⟩⟩⟩⟩⟩⟩⟩⟩⟩, ⟨⟨⟨_, _, _, _, 1, rfl, rfl, rfl, rfl, eff_at (eff_auto (X := ⟨_, true⟩) (out := .val _ _) hX rfl rfl) rfl⟩, ⟨⟨_, _, _, _, 1, rfl, rfl, rfl, rfl, eff_at (eff_auto (X := ⟨_, true⟩) (out := .val _ _) hX rfl rfl) rfl⟩, ⟨⟨_, _, _, _, 1, rfl, rfl, rfl, rfl, eff_at (eff_auto (X := ⟨_, true⟩) (out := .val _ _) hX rfl rfl) rfl⟩, ⟨⟨_, _, _, _, 1, rfl, rfl, rfl, rfl, eff_at (eff_auto (X := ⟨_, true⟩) (out := .val _ _) hX rfl rfl) rfl⟩, ⟨⟨_, _, _, _, 1, rfl, rfl, rfl, rfl, eff_at (eff_auto (X := ⟨_, true⟩) (out := .val _ _) hX rfl rfl) rfl⟩, ⟨⟨_, _, _, _, 1, rfl, rfl, rfl, rfl, eff_at (eff_auto (X := ⟨_, true⟩) (out := .val _ _) hX rfl rfl) rfl⟩, ⟨⟨_, _, _, _, 1, rfl, rfl, rfl, rfl, eff_at (eff_auto (X := ⟨_, true⟩) (out := .val _ _) hX rfl rfl) rfl⟩, ⟨⟨_, _, _, _, 1, rfl, rfl, rfl, rfl, eff_at (eff_auto (X := ⟨_, true⟩) (out := .val _ _) hX rfl rfl) rfl⟩, ⟨⟨_, _, _, _, 1, rfl, rfl, rfl, rfl, eff_at (eff_auto (X := ⟨_, true⟩) (out := .val _ _) hX rfl rfl) rfl⟩, ⟨⟨_, _, _, _, 1, rfl, rfl, rfl, rfl, eff_at (eff_auto (X := ⟨_, true⟩) (out := .val _ _) hX rfl rfl) rfl⟩, ⟨⟨_, _, _, _, 1, rfl, rfl, rfl, rfl, eff_at (eff_auto (X := ⟨_, true⟩) (out := .val _ _) hX rfl (ok_d (by omega) <| okE_nil)) rfl⟩, ⟨⟨_, _, _, _, 1, rfl, rfl, rfl, rfl, eff_at (ldnE (r := r) hX rfl rfl rfl rfl rfl rfl rfl (by first | exact hd (by omega) | exact ha (by omega) | exact hb (by omega))) rfl⟩, ⟨⟨_, _, _, _, 1, rfl, rfl, rfl, rfl, eff_at (eff_auto (X := ⟨_, true⟩) (out := .val _ _) hX rfl rfl) rfl⟩, ⟨⟨_, _, _, _, 1, rfl, rfl, rfl, rfl, eff_at (eff_auto (X := ⟨_, true⟩) (out := .val _ _) hX rfl rfl) rfl⟩, ⟨⟨_, _, _, _, 1, rfl, rfl, rfl, rfl, eff_at (eff_pure rfl rfl (balu_ i.fn (r (i.ra).toNat) (rgO r i.rb i.imm))) rfl⟩, ⟨⟨_, _, _, _, 1, rfl, rfl, rfl, rfl, eff_at (eff_auto (X := ⟨_, true⟩) (out := .val _ _) hX rfl rfl) rfl⟩, ⟨⟨_, _, _, _, 1, rfl, rfl, rfl, rfl, eff_at (eff_auto (X := ⟨_, true⟩) (out := .val _ _) hX rfl rfl) rfl⟩, ⟨⟨_, _, _, _, 1, rfl, rfl, rfl, rfl, eff_at (eff_auto (X := ⟨_, true⟩) (out := .val _ _) hX rfl (ok_d (by omega) <| okE_nil)) rfl⟩, ⟨⟨_, _, _, _, 2, rfl, rfl, rfl, rfl, eff_at (stnE (i := 0) (r := r) hX rfl rfl rfl rfl rfl rfl rfl rfl (by first | exact hd (by omega) | exact ha (by omega) | exact hb (by omega))) rfl⟩, trivial⟩⟩⟩⟩⟩⟩⟩⟩⟩⟩⟩⟩⟩⟩⟩⟩⟩⟩⟩, ⟨⟨⟨_, _, _, _, 2, rfl, rfl, rfl, rfl, eff_at (eff_auto (X := ⟨_, true⟩) (out := .val _ _) hX rfl rfl) rfl⟩, ⟨⟨_, _, _, _, 2, rfl, rfl, rfl, rfl, eff_at (eff_auto (X := ⟨_, true⟩) (out := .val _ _) hX rfl rfl) rfl⟩, trivial⟩⟩, trivial⟩⟩⟩ fun A => N hX 1 A rfl rfl fun A => ENDN (RETN hX A rfl rfl rfl h0 rfl rfl rfl rfl rfl (by have e1 : cpA at_ r i = _ := (by unfold cpA; rw [if_neg (by omega)] <;> rfl); have e2 : cpR r i = _ := (by unfold cpR; rw [if_neg (by omega), if_neg (by omega), if_pos h3] <;> rfl); rw [e1, e2] <;> rfl)))
    (fun h3 A => N hX 7 A rfl rfl fun A => forkE 62 A rfl
     (fun h4 A => N hX 2 A rfl rfl fun A => ANY hmo [.ptr 0 0, .ptr 1 2, .int .i64 i.ra, .ptr 0 0, .ptr 0 2, .ix (.ptr 0 2) 1 8 i.ra 0, .int .i64 (r (i.ra).toNat), .bool ((r (i.ra).toNat) == 0), .ptr 1 16, .bool i.zero, .bool (((r (i.ra).toNat) == 0) == i.zero)] [] [] 0 [([], [], [some (.blk [.sla ao l.length cp, .int .i64 (at_ + 1), .int .i64 (r 0), .int .i64 (r 1), .int .i64 (r 2), .int .i64 (r 3), .int .i64 (r 4), .int .i64 (r 5), .int .i64 (r 6), .int .i64 (r 7)]), some (.blk [.int .i64 i.op, .int .i64 i.dst, .int .i64 i.ra, .int .i64 i.rb, .int .i64 i.imm, .int .i64 i.loc, .int .i64 i.off, .int .i64 i.ix, .int .i64 i.sz, .int .i64 i.fn, .bool i.acq, .bool i.weak, .bool i.rel, .int .i64 i.pred, .int .i64 i.succ, .int .i64 i.to_, .bool i.zero])])] [[true, true, true, true, true, true, true, true, true, true, true]] A rfl rfl rfl rfl (by kernel_rfl) rfl (by kernel_rfl) ⟨⟨⟨_, _, _, _, 0, rfl, rfl, rfl, rfl, eff_at (eff_auto (X := ⟨_, true⟩) (out := .val _ _) hX rfl rfl) rfl⟩, ⟨⟨_, _, _, _, 0, rfl, rfl, rfl, rfl, eff_at (eff_auto (X := ⟨_, true⟩) (out := .val _ _) hX rfl rfl) rfl⟩, ⟨⟨_, _, _, _, 0, rfl, rfl, rfl, rfl, eff_at (eff_auto (X := ⟨_, true⟩) (out := .val _ _) hX rfl rfl) rfl⟩, ⟨⟨_, _, _, _, 0, rfl, rfl, rfl, rfl, eff_at (eff_auto (X := ⟨_, true⟩) (out := .val _ _) hX rfl rfl) rfl⟩, ⟨⟨_, _, _, _, 0, rfl, rfl, rfl, rfl, eff_at (eff_auto (X := ⟨_, true⟩) (out := .val _ _) hX rfl rfl) rfl⟩, ⟨⟨_, _, _, _, 0, rfl, rfl, rfl, rfl, eff_at (eff_auto (X := ⟨_, true⟩) (out := .val _ _) hX rfl (ok_d (by omega) <| okE_nil)) rfl⟩, ⟨⟨_, _, _, _, 0, rfl, rfl, rfl, rfl, eff_at (ldnE (r := r) hX rfl rfl rfl rfl rfl rfl rfl (by first | exact hd (by omega) | exact ha (by omega) | exact hb (by omega))) rfl⟩, ⟨⟨_, _, _, _, 0, rfl, rfl, rfl, rfl, eff_at (eff_auto (X := ⟨_, true⟩) (out := .val _ _) hX rfl rfl) rfl⟩, ⟨⟨_, _, _, _, 0, rfl, rfl, rfl, rfl, eff_at (eff_auto (X := ⟨_, true⟩) (out := .val _ _) hX rfl rfl) rfl⟩, ⟨⟨_, _, _, _, 0, rfl, rfl, rfl, rfl, eff_at (eff_auto (X := ⟨_, true⟩) (out := .val _ _) hX rfl rfl) rfl⟩, ⟨⟨_, _, _, _, 0, rfl, rfl, rfl, rfl, eff_at (eff_auto (X := ⟨_, true⟩) (out := .val _ _) hX rfl rfl) rfl⟩, trivial⟩⟩⟩⟩⟩⟩⟩⟩⟩⟩⟩, trivial⟩ fun A => N hX 1 A rfl rfl fun A => forkE 74 A rfl
      (fun h5 A => N hX 10 A rfl rfl fun A => ENDN (RETN hX A rfl rfl rfl h0 rfl rfl rfl rfl rfl (by have e1 : cpA at_ r i = _ := (by unfold cpA; rw [if_pos h4, if_pos h5] <;> rfl); have e2 : cpR r i = _ := (by unfold cpR; rw [if_neg (by omega), if_neg (by omega), if_neg (by omega)] <;> rfl); rw [e1, e2] <;> rfl)))
      (fun h5 A => N hX 3 A rfl rfl fun A => ENDN (RETN hX A rfl rfl rfl h0 rfl rfl rfl rfl rfl (by have e1 : cpA at_ r i = _ := (by unfold cpA; rw [if_pos h4, if_neg h5] <;> rfl); have e2 : cpR r i = _ := (by unfold cpR; rw [if_neg (by omega), if_neg (by omega), if_neg (by omega)] <;> rfl); rw [e1, e2] <;> rfl))))
     (fun h4 A => N hX 3 A rfl rfl fun A => ENDN (RETN hX A rfl rfl rfl h0 rfl rfl rfl rfl rfl (by have e1 : cpA at_ r i = _ := (by unfold cpA; rw [if_neg (by omega)] <;> rfl); have e2 : cpR r i = _ := (by unfold cpR; rw [if_neg (by omega), if_neg (by omega), if_neg (by omega)] <;> rfl); rw [e1, e2] <;> rfl))))))
end Go.Proofs.Ytiglneecmibgmaa
/- A region that draws its order, where slots that it turns are read in it ahead of that. -/
namespace Go.Proofs.Ytiglneecmibgmaa
open Go.RowKit
set_option linter.unusedVariables false
set_option linter.unusedSimpArgs false
set_option linter.unusedSectionVars false
def kp1 (o : Oper) (j : Nat) : List Oper → Nat → Bool
  | [], _ => true
  | q :: r, i => (Nat.beq i j || waits o i || waits q j) && kp1 o j r (i + 1)
def kp2 (l : List Oper) (t : Nat) : List Oper → Nat → Bool
  | [], _ => true
  | o :: r, j => (match o.dst with | some d => !Nat.beq d t || kp1 o j l 0 | none => true) && kp2 l t r (j + 1)
def kpT (l : List Oper) : List (Nat × SV) → Bool
  | [] => true
  | p :: T => kp2 l p.1 l 0 && kpT l T
theorem kp1_spec {o : Oper} {j : Nat} : ∀ {r : List Oper} {k : Nat}, kp1 o j r k = true → ∀ (i : Nat) (q : Oper), r[i]? = some q → k + i ≠ j → waits o (k + i) = true ∨ waits q j = true
  | [], _, _, _, _, h, _ => by cases h
  | p :: r, k, h, i, q, hi, hne => by
    simp only [kp1, Bool.and_eq_true, Bool.or_eq_true] at h
    cases i with
    | zero =>
      cases hi
      rcases h.1 with (h1 | h1) | h1
      · exact absurd (Nat.eq_of_beq_eq_true h1) (by simpa using hne)
      · exact .inl (by simpa using h1)
      · exact .inr h1
    | succ i => rw [show k + (i + 1) = k + 1 + i by omega] at hne ⊢; exact kp1_spec h.2 i q (by simpa using hi) hne
theorem kp2_spec {l : List Oper} {t : Nat} : ∀ {r : List Oper} {k : Nat}, kp2 l t r k = true → ∀ (j : Nat) (o : Oper), r[j]? = some o → o.dst = some t → kp1 o (k + j) l 0 = true
  | [], _, _, _, _, h, _ => by cases h
  | p :: r, k, h, j, o, hj, hd => by
    simp only [kp2, Bool.and_eq_true] at h
    cases j with
    | zero => cases hj; have := h.1; rw [hd] at this; simpa using this
    | succ j => rw [show k + (j + 1) = k + 1 + j by omega]; exact kp2_spec h.2 j o (by simpa using hj) hd
theorem kpT_look {l : List Oper} : ∀ {T : List (Nat × SV)} {t : Nat} {x : SV}, kpT l T = true → look T t = some x → kp2 l t l 0 = true
  | [], _, _, _, h => by cases h
  | (k, y) :: T, t, x, hT, h => by
    simp only [kpT, Bool.and_eq_true] at hT
    unfold look at h
    cases hk : Nat.beq k t with
    | true => have := Nat.eq_of_beq_eq_true hk; subst this; exact hT.1
    | false => rw [hk] at h; exact kpT_look hT.2 h
theorem kp_spec {l : List Oper} {T : List (Nat × SV)} {t : Nat} {x : SV} {j i : Nat} {o q : Oper} (hkp : kpT l T = true) (hx : look T t = some x) (h3 : l[j]? = some o) (h4 : o.dst = some t) (hq : l[i]? = some q) (hne : i ≠ j) : waits o i = true ∨ waits q j = true := by
  have := kp1_spec (kp2_spec (kpT_look hkp hx) j o h3 h4) i q hq (by simpa using hne)
  simpa using this
section
variable {P : Program} {X : Tx} {n : Nat} {ks : List Nat} {G0 : Gr} {w0 : World} {T : List (Nat × SV)} {l : List Oper} {xs : List SV} {Q : Exit → Act → World → Prop} {ef rs0 : List Nat} {tb : List (List Nat × List Nat × Hp)}
/-- a region that draws its order, with places kept for what is made -/
theorem ANY2 {id : Nat} {H HE : Hp} {G : Gr} {a : Act} {w : World} {K : List Fr} (hmo : P.follows .mixedOrders = true) (xs : List SV) (ef rs0 : List Nat) (m : Nat) (tb : List (List Nat × List Nat × Hp)) (B : List (List Bool)) (A : Sy n T H ks G0 w0 G a w)
    (h0 : tb[0]? = some ([], rs0, H ++ List.replicate m none)) (hE : endS ef tb = some HE) (hrs : (rs0.all fun r => Nat.ble H.length r) = true) (hef : (ef.all fun p => Nat.blt p l.length) = true) (hB : (tb.map fun s => mayR l.toArray ef s.1 l 0) = B) (hl : xs.length = l.length) (hfit : fitB l.toArray n [] = true)
    (hkp : kpT l T = true) (hO : ObA P n ks G0 w0 T l xs ef tb B tb) (hk : ∀ {G a w}, Sy n (putS l xs T) HE ks G0 w0 G a w → Goal P Q K .norm a w) : Goal P Q K (.code (.region id l.toArray true)) a w := by
  refine wp_region_any hmo ?_
  have hB1 : Ms H ks G0 w0 G w.drew := A.ms.grow (Grow.refl w).drew
  rw [List.all_eq_true] at hrs hef
  refine any_go (P := P) (xs := xs) (T := T) (ef := ef) (rs0 := rs0) (tb := tb) hfit (fun t x hx j o h3 h4 i q hq hne => kp_spec hkp hx h3 h4 hq hne) (fun t x hx r hr => ?_) hl (fun k c rs H hk i o hi hm => ?_) (fun k c rs H' hk' hall G a w A' => ?_) _ _ _ _ 0 [] rs0 _ (G ++ List.replicate m none) (by simp) (by
    refine Nat.le_trans (List.length_filter_le _ _) (by simp)) h0 ⟨A.size, A.defers, fun t x hx _ => den_mono _ x (A.get t x hx), fun j o x _ hj => ?_, Sy.pad (a := a) hB1 m, fun p hp => ?_, fun p hp => absurd hp (by simp), fun r hr => hr, fun j o p _ hj => ?_⟩
  · have := hrs r hr
    rw [A.mem.len] at this
    exact inS_av (G := G) (Nat.le_of_ble_eq_true this) x (A.get t x hx)
  · have := obs_at (oba_at (by rw [hB]; exact hO) k c rs H hk) i o hi (by rw [Nat.zero_add]; exact hm)
    rwa [Nat.zero_add] at this
  · have h2 : (ef.all c.contains) = true := by
      rw [List.all_eq_true]
      intro p hp
      have := hall p hp (by have := hef p hp; simpa [Nat.blt_eq] using this)
      simpa using this
    cases endS_spec hE k c rs H' hk' h2
    exact hk A'
  · exfalso; simp [Array.getD_eq_getD_getElem?, Array.getElem?_replicate] at hj; split at hj <;> simp at hj
  · constructor
    · intro hj; exfalso; simp [Array.getD_eq_getD_getElem?, Array.getElem?_replicate] at hj; split at hj <;> simp at hj
    · intro hj; cases hj
  · exfalso; simp [Array.getD_eq_getD_getElem?, Array.getElem?_replicate] at hj; split at hj <;> simp at hj
end
end Go.Proofs.Ytiglneecmibgmaa
/- A runner: settle, spot, pass. -/
namespace Go.Proofs.Ytiglneecmibgmaa
open Go.RowKit
set_option linter.unusedVariables false
set_option linter.unusedSimpArgs false
set_option maxRecDepth 100000
set_option maxHeartbeats 2000000
set_option simprocs false
theorem computeT_ (l : List In) (ao : Option Addr) (cp : Nat) (z : Th) (hc : RCd l) (hle : z.at_ ≤ l.length) (h1 : ((z.at_ : Nat) : Int) ≠ ((l.length : Nat) : Int)) (h2 : (!(stpI (l.getD ((z.at_ : Nat) : Int).toNat In.z))) = true) : Fn Try.prog 23 [.ptr 0 0, .agg (insS (l.getD ((z.at_ : Nat) : Int).toNat In.z))] [some (.blk [.sla ao l.length cp, .int .i64 ((z.at_ : Nat) : Int), .int .i64 (z.r 0), .int .i64 (z.r 1), .int .i64 (z.r 2), .int .i64 (z.r 3), .int .i64 (z.r 4), .int .i64 (z.r 5), .int .i64 (z.r 6), .int .i64 (z.r 7)])] (Rt (.tup []) [some (.blk [.sla ao l.length cp, .int .i64 (((nxT l z).at_ : Nat) : Int), .int .i64 (((nxT l z).r) 0), .int .i64 (((nxT l z).r) 1), .int .i64 (((nxT l z).r) 2), .int .i64 (((nxT l z).r) 3), .int .i64 (((nxT l z).r) 4), .int .i64 (((nxT l z).r) 5), .int .i64 (((nxT l z).r) 6), .int .i64 (((nxT l z).r) 7)])]) := by
  have hlt : z.at_ < l.length := by omega
  have hr := cpA_rng (z := z) hc hlt
  have hs := hc.snd hlt
  have hn := hc.n
  have e : cpA ((z.at_ : Nat) : Int) z.r (l.getD ((z.at_ : Nat) : Int).toNat In.z) = (((nxT l z).at_ : Nat) : Int) := by
    show cpA ((z.at_ : Nat) : Int) z.r (l.getD z.at_ In.z) = (((cpA ((z.at_ : Nat) : Int) z.r (l.getD z.at_ In.z)).toNat : Nat) : Int)
    omega
  have h := compute_ l ao cp ((z.at_ : Nat) : Int) z.r (l.getD ((z.at_ : Nat) : Int).toNat In.z) (by omega) (fun q => hs.d (by show _ ∨ _; have q' : (l.getD z.at_ In.z).op = 1 ∨ (l.getD z.at_ In.z).op = 2 ∨ (l.getD z.at_ In.z).op = 3 := q; omega)) (fun q => hs.a (by show _ ∨ _; have q' : (l.getD z.at_ In.z).op = 2 ∨ (l.getD z.at_ In.z).op = 3 ∨ (l.getD z.at_ In.z).op = 9 := q; omega)) (fun q => hs.b q)
  rw [e] at h
  exact h
theorem settleN_ (l : List In) (ao : Option Addr) (cp : Nat) (s : Th) (hc : RCd l) (hat : s.at_ ≤ l.length) : FnI (CdAt ao l) Try.prog 14 [.ptr 0 0] [some (.blk [.sla ao l.length cp, .int .i64 ((s.at_ : Nat) : Int), .int .i64 (s.r 0), .int .i64 (s.r 1), .int .i64 (s.r 2), .int .i64 (s.r 3), .int .i64 (s.r 4), .int .i64 (s.r 5), .int .i64 (s.r 6), .int .i64 (s.r 7)])] (Rt (.tup []) [some (.blk [.sla ao l.length cp, .int .i64 (((setl l s).at_ : Nat) : Int), .int .i64 (((setl l s).r) 0), .int .i64 (((setl l s).r) 1), .int .i64 (((setl l s).r) 2), .int .i64 (((setl l s).r) 3), .int .i64 (((setl l s).r) 4), .int .i64 (((setl l s).r) 5), .int .i64 (((setl l s).r) 6), .int .i64 (((setl l s).r) 7)])]) :=
 enterI (n := 24) (by kernel_rfl) Try.func14 rfl rfl rfl fun G w a h0 hI A => N hX 3 A rfl rfl fun A => CALLI [0] LstAt.ok hI (ready_ l ao cp ((s.at_ : Nat) : Int) s.r (by omega)) A rfl rfl rfl rfl rfl rfl rfl fun A => N hX 9 A rfl rfl fun A => LOOP1 (fun (z : Th) => [(0, .ptr 0 0), (2, .ptr 1 0), (3, .bool (!(((z.at_ : Nat) : Int) == ((l.length : Nat) : Int))))]) (fun (z : Th) => [some (.blk [.sla ao l.length cp, .int .i64 ((z.at_ : Nat) : Int), .int .i64 (z.r 0), .int .i64 (z.r 1), .int .i64 (z.r 2), .int .i64 (z.r 3), .int .i64 (z.r 4), .int .i64 (z.r 5), .int .i64 (z.r 6), .int .i64 (z.r 7)]), some (.blk [.int .i64 ((l.getD (((z.at_ : Nat) : Int)).toNat In.z).op), .int .i64 ((l.getD (((z.at_ : Nat) : Int)).toNat In.z).dst), .int .i64 ((l.getD (((z.at_ : Nat) : Int)).toNat In.z).ra), .int .i64 ((l.getD (((z.at_ : Nat) : Int)).toNat In.z).rb), .int .i64 ((l.getD (((z.at_ : Nat) : Int)).toNat In.z).imm), .int .i64 ((l.getD (((z.at_ : Nat) : Int)).toNat In.z).loc), .int .i64 ((l.getD (((z.at_ : Nat) : Int)).toNat In.z).off), .int .i64 ((l.getD (((z.at_ : Nat) : Int)).toNat In.z).ix), .int .i64 ((l.getD (((z.at_ : Nat) : Int)).toNat In.z).sz), .int .i64 ((l.getD (((z.at_ : Nat) : Int)).toNat In.z).fn), .bool ((l.getD (((z.at_ : Nat) : Int)).toNat In.z).acq), .bool ((l.getD (((z.at_ : Nat) : Int)).toNat In.z).weak), .bool ((l.getD (((z.at_ : Nat) : Int)).toNat In.z).rel), .int .i64 ((l.getD (((z.at_ : Nat) : Int)).toNat In.z).pred), .int .i64 ((l.getD (((z.at_ : Nat) : Int)).toNat In.z).succ), .int .i64 ((l.getD (((z.at_ : Nat) : Int)).toNat In.z).to_), .bool ((l.getD (((z.at_ : Nat) : Int)).toNat In.z).zero)])]) (fun (z : Th) => SI l s z) (fun (z : Th) => l.length - z.at_) s (SI.i0 hat) ((A.cut [0, 2, 3] rfl).trunc 2 rfl rfl rfl (by simp only [List.length_cons, List.length_nil] at h0; omega)) fun z hJ {G a w} A => N hX 5 A rfl rfl fun A => forkN 10 A rfl
   (fun h1 A => N hX 1 A rfl rfl fun A => CALL1 [] (stops_ (l.getD (((z.at_ : Nat) : Int)).toNat In.z)) A rfl rfl rfl rfl rfl rfl rfl fun A => N hX 4 A rfl rfl fun A => fork 14 A rfl
    (fun h2 A => N hX 8 A rfl rfl fun A => CALL1 [0] (computeT_ l ao cp z hc hJ.le h1 h2) A rfl rfl rfl rfl rfl rfl rfl fun A => N hX 16 A rfl rfl fun A => CALLI [0] LstAt.ok hI (ready_ l ao cp (((nxT l z).at_ : Nat) : Int) ((nxT l z).r) (by have hq := (hJ.nx hc h1 h2).1.le; omega)) A rfl rfl rfl rfl rfl rfl rfl fun A => N hX 6 A rfl rfl fun A => ⟨nxT l z, _, (hJ.nx hc h1 h2).2, (hJ.nx hc h1 h2).1, ((A.cut [0, 2, 3] rfl).mv 1 [2] rfl rfl rfl rfl (by simp only [List.length_cons, List.length_nil] at h0; omega))⟩)
    (fun h2 A => N hX 2 A rfl rfl fun A => ENDN (RETN hX A rfl rfl rfl h0 rfl rfl rfl rfl rfl (by rw [hJ.f2 h2] <;> rfl))))
   (fun h1 A => N hX 8 A rfl rfl fun A => ENDN (RETN hX A rfl rfl rfl h0 rfl rfl rfl rfl rfl (by rw [hJ.f1 h1] <;> rfl)))
theorem settle_ (l : List In) (ao : Option Addr) (cp : Nat) (at_ : Int) (r : Rg) (hc : RCd l) (hat : 0 ≤ at_ ∧ at_ ≤ ((l.length : Nat) : Int)) : FnI (CdAt ao l) Try.prog 14 [.ptr 0 0] [some (.blk [.sla ao l.length cp, .int .i64 at_, .int .i64 (r 0), .int .i64 (r 1), .int .i64 (r 2), .int .i64 (r 3), .int .i64 (r 4), .int .i64 (r 5), .int .i64 (r 6), .int .i64 (r 7)])] (Rt (.tup []) [some (.blk [.sla ao l.length cp, .int .i64 (((setl l ⟨at_.toNat, r⟩).at_ : Nat) : Int), .int .i64 (((setl l ⟨at_.toNat, r⟩).r) 0), .int .i64 (((setl l ⟨at_.toNat, r⟩).r) 1), .int .i64 (((setl l ⟨at_.toNat, r⟩).r) 2), .int .i64 (((setl l ⟨at_.toNat, r⟩).r) 3), .int .i64 (((setl l ⟨at_.toNat, r⟩).r) 4), .int .i64 (((setl l ⟨at_.toNat, r⟩).r) 5), .int .i64 (((setl l ⟨at_.toNat, r⟩).r) 6), .int .i64 (((setl l ⟨at_.toNat, r⟩).r) 7)])]) := by
  obtain ⟨k, rfl⟩ := Int.eq_ofNat_of_zero_le hat.1
  exact settleN_ l ao cp ⟨k, r⟩ hc (by show k ≤ _; omega)
theorem nnT {a b : Int} (h : (!(!(a == b))) = true) : a = b := by simpa using h
theorem nnF {a b : Int} (h : (!(!(a == b))) = false) : a ≠ b := by simpa using h
theorem mopY {i : In} (h : (!(mopI i)) = false) : mopI i = true := by simpa using h
theorem opM {i : In} (h : (!(mopI i)) = false) : i.op = 4 ∨ i.op = 5 ∨ i.op = 6 := by
  have h := mopY h
  unfold mopI at h
  simp at h
  omega
theorem spZ {l : List In} {s : Th} (h : ((s.at_ : Nat) : Int) = ((l.length : Nat) : Int)) : (SV.tup [.agg [.int .i64 (spL (l.getD ((s.at_ : Nat) : Int).toNat In.z)), .int .i64 (spM s.r (l.getD ((s.at_ : Nat) : Int).toNat In.z))], .int .i64 (spD s.r (l.getD ((s.at_ : Nat) : Int).toNat In.z)), .bool (mopI (l.getD ((s.at_ : Nat) : Int).toNat In.z))]) = .tup [.agg [.int .i64 0, .int .i64 0], .int .i64 0, .bool false] := by
  have e : l.getD ((s.at_ : Nat) : Int).toNat In.z = In.z := by rw [List.getD_eq_getElem?_getD, List.getElem?_eq_none (by omega)]; rfl
  rw [e]; rfl
theorem spN {i : In} {r : Rg} (h : (!(mopI i)) = true) : (SV.tup [.agg [.int .i64 (spL i), .int .i64 (spM r i)], .int .i64 (spD r i), .bool (mopI i)]) = .tup [.agg [.int .i64 0, .int .i64 0], .int .i64 0, .bool false] := by
  have e : mopI i = false := by simpa using h
  unfold spL spM spD
  rw [e]; rfl
theorem okSp {l : List In} {s : Th} (hc : RCd l) (hat : s.at_ ≤ l.length) (h1 : ((s.at_ : Nat) : Int) ≠ ((l.length : Nat) : Int)) (h2 : (!(mopI (l.getD ((s.at_ : Nat) : Int).toNat In.z))) = false) : ((l.getD ((s.at_ : Nat) : Int).toNat In.z).sz = 1 ∨ (l.getD ((s.at_ : Nat) : Int).toNat In.z).sz = 2 ∨ (l.getD ((s.at_ : Nat) : Int).toNat In.z).sz = 4 ∨ (l.getD ((s.at_ : Nat) : Int).toNat In.z).sz = 8) ∧ (-1 ≤ (l.getD ((s.at_ : Nat) : Int).toNat In.z).ix ∧ (l.getD ((s.at_ : Nat) : Int).toNat In.z).ix < 8) ∧ ((l.getD ((s.at_ : Nat) : Int).toNat In.z).op = 5 → -1 ≤ (l.getD ((s.at_ : Nat) : Int).toNat In.z).ra ∧ (l.getD ((s.at_ : Nat) : Int).toNat In.z).ra < 8) ∧ ((l.getD ((s.at_ : Nat) : Int).toNat In.z).op = 6 → 0 ≤ (l.getD ((s.at_ : Nat) : Int).toNat In.z).ra ∧ (l.getD ((s.at_ : Nat) : Int).toNat In.z).ra < 8) := by
  have hlt : s.at_ < l.length := by omega
  have ho := opM h2
  have hs := hc.snd hlt
  exact ⟨hc.szs hlt ho, hs.x ho, fun q => hs.a5 q, fun q => hs.a (.inr (.inr (.inl q)))⟩
theorem spot_ (l : List In) (ao : Option Addr) (cp : Nat) (s : Th) (hc : RCd l) (hat : s.at_ ≤ l.length) : FnI (CdAt ao l) Try.prog 16 [.ptr 0 0] [some (.blk [.sla ao l.length cp, .int .i64 ((s.at_ : Nat) : Int), .int .i64 (s.r 0), .int .i64 (s.r 1), .int .i64 (s.r 2), .int .i64 (s.r 3), .int .i64 (s.r 4), .int .i64 (s.r 5), .int .i64 (s.r 6), .int .i64 (s.r 7)])] (Rt (.tup [.agg [.int .i64 (spL (l.getD (((s.at_ : Nat) : Int)).toNat In.z)), .int .i64 (spM s.r (l.getD (((s.at_ : Nat) : Int)).toNat In.z))], .int .i64 (spD s.r (l.getD (((s.at_ : Nat) : Int)).toNat In.z)), .bool (mopI (l.getD (((s.at_ : Nat) : Int)).toNat In.z))]) [some (.blk [.sla ao l.length cp, .int .i64 ((s.at_ : Nat) : Int), .int .i64 (s.r 0), .int .i64 (s.r 1), .int .i64 (s.r 2), .int .i64 (s.r 3), .int .i64 (s.r 4), .int .i64 (s.r 5), .int .i64 (s.r 6), .int .i64 (s.r 7)])]) :=
 enterI (n := 59) (by kernel_rfl) Try.func16 rfl rfl rfl fun G w a h0 hI A => N hX 10 A rfl rfl fun A => CALLI [0] LstAt.ok hI (ready_ l ao cp ((s.at_ : Nat) : Int) s.r (by omega)) A rfl rfl rfl rfl rfl rfl rfl fun A => N hX 14 A rfl rfl fun A => fork 14 A rfl
  (fun h1 A => N hX 16 A rfl rfl fun A => RETN hX A rfl rfl rfl h0 rfl rfl rfl rfl (by rw [spZ (nnT h1)] <;> rfl) rfl)
  (fun h1 A => N hX 1 A rfl rfl fun A => CALL1 [] (mop_ (l.getD (((s.at_ : Nat) : Int)).toNat In.z)) A rfl rfl rfl rfl rfl rfl rfl fun A => N hX 4 A rfl rfl fun A => fork 18 A rfl
   (fun h2 A => N hX 10 A rfl rfl fun A => RETN hX A rfl rfl rfl h0 rfl rfl rfl rfl (by rw [spN h2] <;> rfl) rfl)
   (fun h2 A => N hX 17 A rfl rfl fun A => forkE 22 A rfl
    (fun h3 A => N hX 1 A rfl rfl fun A => DRAWN hX hmo [(8, .int .i64 (bget0 (rgO s.r ((l.getD (((s.at_ : Nat) : Int)).toNat In.z).ra) ((l.getD (((s.at_ : Nat) : Int)).toNat In.z).imm)) ((l.getD (((s.at_ : Nat) : Int)).toNat In.z).sz)))] [(5, .int .i64 (rgO s.r ((l.getD (((s.at_ : Nat) : Int)).toNat In.z).ra) ((l.getD (((s.at_ : Nat) : Int)).toNat In.z).imm)), [some (.blk [.sla ao l.length cp, .int .i64 ((s.at_ : Nat) : Int), .int .i64 (s.r 0), .int .i64 (s.r 1), .int .i64 (s.r 2), .int .i64 (s.r 3), .int .i64 (s.r 4), .int .i64 (s.r 5), .int .i64 (s.r 6), .int .i64 (s.r 7)]), some (.blk [.int .i64 0, .int .i64 0]), some (.blk [.int .i64 ((l.getD (((s.at_ : Nat) : Int)).toNat In.z).op), .int .i64 ((l.getD (((s.at_ : Nat) : Int)).toNat In.z).dst), .int .i64 ((l.getD (((s.at_ : Nat) : Int)).toNat In.z).ra), .int .i64 ((l.getD (((s.at_ : Nat) : Int)).toNat In.z).rb), .int .i64 ((l.getD (((s.at_ : Nat) : Int)).toNat In.z).imm), .int .i64 ((l.getD (((s.at_ : Nat) : Int)).toNat In.z).loc), .int .i64 ((l.getD (((s.at_ : Nat) : Int)).toNat In.z).off), .int .i64 ((l.getD (((s.at_ : Nat) : Int)).toNat In.z).ix), .int .i64 ((l.getD (((s.at_ : Nat) : Int)).toNat In.z).sz), .int .i64 ((l.getD (((s.at_ : Nat) : Int)).toNat In.z).fn), .bool ((l.getD (((s.at_ : Nat) : Int)).toNat In.z).acq), .bool ((l.getD (((s.at_ : Nat) : Int)).toNat In.z).weak), .bool ((l.getD (((s.at_ : Nat) : Int)).toNat In.z).rel), .int .i64 ((l.getD (((s.at_ : Nat) : Int)).toNat In.z).pred), .int .i64 ((l.getD (((s.at_ : Nat) : Int)).toNat In.z).succ), .int .i64 ((l.getD (((s.at_ : Nat) : Int)).toNat In.z).to_), .bool ((l.getD (((s.at_ : Nat) : Int)).toNat In.z).zero)])])] A rfl rfl rfl rfl (by kernel_rfl) ⟨callE [0] (regOr_ l ao cp ((s.at_ : Nat) : Int) s.r ((l.getD (((s.at_ : Nat) : Int)).toNat In.z).ra) ((l.getD (((s.at_ : Nat) : Int)).toNat In.z).imm) (by have q := okSp hc hat (nnF h1) h2; have o := opM h2; first | exact q.1 | exact q.2.1 | exact q.2.2.1 | exact q.2.2.2 (by omega) | omega)) rfl rfl rfl rfl rfl rfl rfl, trivial⟩ ⟨.inl ⟨_, _, rfl, rfl, bget_ (rgO s.r ((l.getD (((s.at_ : Nat) : Int)).toNat In.z).ra) ((l.getD (((s.at_ : Nat) : Int)).toNat In.z).imm)) ((l.getD (((s.at_ : Nat) : Int)).toNat In.z).sz) (by have q := okSp hc hat (nnF h1) h2; have o := opM h2; first | exact q.1 | exact q.2.1 | exact q.2.2.1 | exact q.2.2.2 (by omega) | omega)⟩, trivial⟩ fun A => N hX 3 A rfl rfl fun A => DRAWN hX hmo [(8, .int .i64 (bplace0 ((l.getD (((s.at_ : Nat) : Int)).toNat In.z).off) (rgO s.r ((l.getD (((s.at_ : Nat) : Int)).toNat In.z).ix) 0) ((l.getD (((s.at_ : Nat) : Int)).toNat In.z).sz)))] [(5, .int .i64 (rgO s.r ((l.getD (((s.at_ : Nat) : Int)).toNat In.z).ix) 0), [some (.blk [.sla ao l.length cp, .int .i64 ((s.at_ : Nat) : Int), .int .i64 (s.r 0), .int .i64 (s.r 1), .int .i64 (s.r 2), .int .i64 (s.r 3), .int .i64 (s.r 4), .int .i64 (s.r 5), .int .i64 (s.r 6), .int .i64 (s.r 7)]), some (.blk [.int .i64 0, .int .i64 0]), some (.blk [.int .i64 ((l.getD (((s.at_ : Nat) : Int)).toNat In.z).op), .int .i64 ((l.getD (((s.at_ : Nat) : Int)).toNat In.z).dst), .int .i64 ((l.getD (((s.at_ : Nat) : Int)).toNat In.z).ra), .int .i64 ((l.getD (((s.at_ : Nat) : Int)).toNat In.z).rb), .int .i64 ((l.getD (((s.at_ : Nat) : Int)).toNat In.z).imm), .int .i64 ((l.getD (((s.at_ : Nat) : Int)).toNat In.z).loc), .int .i64 ((l.getD (((s.at_ : Nat) : Int)).toNat In.z).off), .int .i64 ((l.getD (((s.at_ : Nat) : Int)).toNat In.z).ix), .int .i64 ((l.getD (((s.at_ : Nat) : Int)).toNat In.z).sz), .int .i64 ((l.getD (((s.at_ : Nat) : Int)).toNat In.z).fn), .bool ((l.getD (((s.at_ : Nat) : Int)).toNat In.z).acq), .bool ((l.getD (((s.at_ : Nat) : Int)).toNat In.z).weak), .bool ((l.getD (((s.at_ : Nat) : Int)).toNat In.z).rel), .int .i64 ((l.getD (((s.at_ : Nat) : Int)).toNat In.z).pred), .int .i64 ((l.getD (((s.at_ : Nat) : Int)).toNat In.z).succ), .int .i64 ((l.getD (((s.at_ : Nat) : Int)).toNat In.z).to_), .bool ((l.getD (((s.at_ : Nat) : Int)).toNat In.z).zero)])])] A rfl rfl rfl rfl (by kernel_rfl) ⟨callE [0] (regOr_ l ao cp ((s.at_ : Nat) : Int) s.r ((l.getD (((s.at_ : Nat) : Int)).toNat In.z).ix) 0 (by have q := okSp hc hat (nnF h1) h2; have o := opM h2; first | exact q.1 | exact q.2.1 | exact q.2.2.1 | exact q.2.2.2 (by omega) | omega)) rfl rfl rfl rfl rfl rfl rfl, trivial⟩ ⟨.inl ⟨_, _, rfl, rfl, bplace_ ((l.getD (((s.at_ : Nat) : Int)).toNat In.z).off) (rgO s.r ((l.getD (((s.at_ : Nat) : Int)).toNat In.z).ix) 0) ((l.getD (((s.at_ : Nat) : Int)).toNat In.z).sz)⟩, trivial⟩ fun A => N hX 2 A rfl rfl fun A => have A := A.cut [0, 2, 3, 4, 5, 6, 7, 8, 9, 10, 11, 12, 13, 14, 15, 16, 17, 18, 20, 21, 22, 23, 24, 25, 26, 27, 28, 29, 30, 31, 32, 42, 43, 44, 45, 46, 47, 48, 49, 50] rfl; ANY2 hmo [.ptr 2 5, .int .i64 ((l.getD (((s.at_ : Nat) : Int)).toNat In.z).loc), .int .i64 (bplace0 ((l.getD (((s.at_ : Nat) : Int)).toNat In.z).off) (rgO s.r ((l.getD (((s.at_ : Nat) : Int)).toNat In.z).ix) 0) ((l.getD (((s.at_ : Nat) : Int)).toNat In.z).sz)), .ptr 2 8, .int .i64 ((l.getD (((s.at_ : Nat) : Int)).toNat In.z).sz), .int .i64 (bmask0 (bplace0 ((l.getD (((s.at_ : Nat) : Int)).toNat In.z).off) (rgO s.r ((l.getD (((s.at_ : Nat) : Int)).toNat In.z).ix) 0) ((l.getD (((s.at_ : Nat) : Int)).toNat In.z).sz)) ((l.getD (((s.at_ : Nat) : Int)).toNat In.z).sz)), .agg [.int .i64 ((l.getD (((s.at_ : Nat) : Int)).toNat In.z).loc), .int .i64 (bmask0 (bplace0 ((l.getD (((s.at_ : Nat) : Int)).toNat In.z).off) (rgO s.r ((l.getD (((s.at_ : Nat) : Int)).toNat In.z).ix) 0) ((l.getD (((s.at_ : Nat) : Int)).toNat In.z).sz)) ((l.getD (((s.at_ : Nat) : Int)).toNat In.z).sz))], .int .i64 (bget0 (rgO s.r ((l.getD (((s.at_ : Nat) : Int)).toNat In.z).ra) ((l.getD (((s.at_ : Nat) : Int)).toNat In.z).imm)) ((l.getD (((s.at_ : Nat) : Int)).toNat In.z).sz)), .tup [], .int .i64 (bget0 (rgO s.r ((l.getD (((s.at_ : Nat) : Int)).toNat In.z).ra) ((l.getD (((s.at_ : Nat) : Int)).toNat In.z).imm)) ((l.getD (((s.at_ : Nat) : Int)).toNat In.z).sz)), .tt] [8] [] 0 [([], [], [some (.blk [.sla ao l.length cp, .int .i64 ((s.at_ : Nat) : Int), .int .i64 (s.r 0), .int .i64 (s.r 1), .int .i64 (s.r 2), .int .i64 (s.r 3), .int .i64 (s.r 4), .int .i64 (s.r 5), .int .i64 (s.r 6), .int .i64 (s.r 7)]), some (.blk [.int .i64 0, .int .i64 0]), some (.blk [.int .i64 ((l.getD (((s.at_ : Nat) : Int)).toNat In.z).op), .int .i64 ((l.getD (((s.at_ : Nat) : Int)).toNat In.z).dst), .int .i64 ((l.getD (((s.at_ : Nat) : Int)).toNat In.z).ra), .int .i64 ((l.getD (((s.at_ : Nat) : Int)).toNat In.z).rb), .int .i64 ((l.getD (((s.at_ : Nat) : Int)).toNat In.z).imm), .int .i64 ((l.getD (((s.at_ : Nat) : Int)).toNat In.z).loc), .int .i64 ((l.getD (((s.at_ : Nat) : Int)).toNat In.z).off), .int .i64 ((l.getD (((s.at_ : Nat) : Int)).toNat In.z).ix), .int .i64 ((l.getD (((s.at_ : Nat) : Int)).toNat In.z).sz), .int .i64 ((l.getD (((s.at_ : Nat) : Int)).toNat In.z).fn), .bool ((l.getD (((s.at_ : Nat) : Int)).toNat In.z).acq), .bool ((l.getD (((s.at_ : Nat) : Int)).toNat In.z).weak), .bool ((l.getD (((s.at_ : Nat) : Int)).toNat In.z).rel), .int .i64 ((l.getD (((s.at_ : Nat) : Int)).toNat In.z).pred), .int .i64 ((l.getD (((s.at_ : Nat) : Int)).toNat In.z).succ), .int .i64 ((l.getD (((s.at_ : Nat) : Int)).toNat In.z).to_), .bool ((l.getD (((s.at_ : Nat) : Int)).toNat In.z).zero)])]), ([8], [], [some (.blk [.sla ao l.length cp, .int .i64 ((s.at_ : Nat) : Int), .int .i64 (s.r 0), .int .i64 (s.r 1), .int .i64 (s.r 2), .int .i64 (s.r 3), .int .i64 (s.r 4), .int .i64 (s.r 5), .int .i64 (s.r 6), .int .i64 (s.r 7)]), some (.blk [.int .i64 ((l.getD (((s.at_ : Nat) : Int)).toNat In.z).loc), .int .i64 (bmask0 (bplace0 ((l.getD (((s.at_ : Nat) : Int)).toNat In.z).off) (rgO s.r ((l.getD (((s.at_ : Nat) : Int)).toNat In.z).ix) 0) ((l.getD (((s.at_ : Nat) : Int)).toNat In.z).sz)) ((l.getD (((s.at_ : Nat) : Int)).toNat In.z).sz))]), some (.blk [.int .i64 ((l.getD (((s.at_ : Nat) : Int)).toNat In.z).op), .int .i64 ((l.getD (((s.at_ : Nat) : Int)).toNat In.z).dst), .int .i64 ((l.getD (((s.at_ : Nat) : Int)).toNat In.z).ra), .int .i64 ((l.getD (((s.at_ : Nat) : Int)).toNat In.z).rb), .int .i64 ((l.getD (((s.at_ : Nat) : Int)).toNat In.z).imm), .int .i64 ((l.getD (((s.at_ : Nat) : Int)).toNat In.z).loc), .int .i64 ((l.getD (((s.at_ : Nat) : Int)).toNat In.z).off), .int .i64 ((l.getD (((s.at_ : Nat) : Int)).toNat In.z).ix), .int .i64 ((l.getD (((s.at_ : Nat) : Int)).toNat In.z).sz), .int .i64 ((l.getD (((s.at_ : Nat) : Int)).toNat In.z).fn), .bool ((l.getD (((s.at_ : Nat) : Int)).toNat In.z).acq), .bool ((l.getD (((s.at_ : Nat) : Int)).toNat In.z).weak), .bool ((l.getD (((s.at_ : Nat) : Int)).toNat In.z).rel), .int .i64 ((l.getD (((s.at_ : Nat) : Int)).toNat In.z).pred), .int .i64 ((l.getD (((s.at_ : Nat) : Int)).toNat In.z).succ), .int .i64 ((l.getD (((s.at_ : Nat) : Int)).toNat In.z).to_), .bool ((l.getD (((s.at_ : Nat) : Int)).toNat In.z).zero)])])] [[true, true, true, true, true, true, true, true, true, false, false], [false, false, false, false, false, false, false, true, false, true, true]] A rfl rfl rfl rfl (by kernel_rfl) rfl (by kernel_rfl) (by kernel_rfl) ⟨⟨⟨_, _, _, _, 0, rfl, rfl, rfl, rfl, eff_at (eff_auto (X := ⟨_, true⟩) (out := .val _ _) hX rfl rfl) rfl⟩, ⟨⟨_, _, _, _, 0, rfl, rfl, rfl, rfl, eff_at (eff_auto (X := ⟨_, true⟩) (out := .val _ _) hX rfl rfl) rfl⟩, ⟨⟨_, _, _, _, 0, rfl, rfl, rfl, rfl, eff_at (eff_auto (X := ⟨_, true⟩) (out := .val _ _) hX rfl rfl) rfl⟩, ⟨⟨_, _, _, _, 0, rfl, rfl, rfl, rfl, eff_at (eff_auto (X := ⟨_, true⟩) (out := .val _ _) hX rfl rfl) rfl⟩, ⟨⟨_, _, _, _, 0, rfl, rfl, rfl, rfl, eff_at (eff_auto (X := ⟨_, true⟩) (out := .val _ _) hX rfl rfl) rfl⟩, ⟨⟨_, _, _, _, 0, rfl, rfl, rfl, rfl, eff_at (eff_pure rfl rfl (bmask_ (bplace0 ((l.getD (((s.at_ : Nat) : Int)).toNat In.z).off) (rgO s.r ((l.getD (((s.at_ : Nat) : Int)).toNat In.z).ix) 0) ((l.getD (((s.at_ : Nat) : Int)).toNat In.z).sz)) ((l.getD (((s.at_ : Nat) : Int)).toNat In.z).sz) (by have q := okSp hc hat (nnF h1) h2; have o := opM h2; first | exact q.1 | exact q.2.1 | exact q.2.2.1 | exact q.2.2.2 (by omega) | omega))) rfl⟩, ⟨⟨_, _, _, _, 0, rfl, rfl, rfl, rfl, eff_at (eff_auto (X := ⟨_, true⟩) (out := .val _ _) hX rfl rfl) rfl⟩, ⟨⟨_, _, _, _, 0, rfl, rfl, rfl, rfl, eff_at (eff_auto (X := ⟨_, true⟩) (out := .val _ _) hX rfl rfl) rfl⟩, ⟨⟨_, _, _, _, 1, rfl, rfl, rfl, rfl, eff_at (eff_auto (X := ⟨_, true⟩) (out := .upd 1 [.int .i64 ((l.getD (((s.at_ : Nat) : Int)).toNat In.z).loc), .int .i64 (bmask0 (bplace0 ((l.getD (((s.at_ : Nat) : Int)).toNat In.z).off) (rgO s.r ((l.getD (((s.at_ : Nat) : Int)).toNat In.z).ix) 0) ((l.getD (((s.at_ : Nat) : Int)).toNat In.z).sz)) ((l.getD (((s.at_ : Nat) : Int)).toNat In.z).sz))] _) hX rfl rfl) rfl⟩, trivial⟩⟩⟩⟩⟩⟩⟩⟩⟩, ⟨⟨⟨_, _, _, _, 1, rfl, rfl, rfl, rfl, eff_at (eff_auto (X := ⟨_, true⟩) (out := .val _ _) hX rfl rfl) rfl⟩, ⟨⟨_, _, _, _, 1, rfl, rfl, rfl, rfl, eff_at (eff_auto (X := ⟨_, true⟩) (out := .val _ _) hX rfl rfl) rfl⟩, ⟨⟨_, _, _, _, 1, rfl, rfl, rfl, rfl, eff_at (eff_auto (X := ⟨_, true⟩) (out := .val _ _) hX rfl rfl) rfl⟩, trivial⟩⟩⟩, trivial⟩⟩ fun A => N hX 2 A rfl rfl fun A => RETN hX A rfl rfl rfl h0 rfl rfl rfl rfl (by have hm := mopY h2; unfold spL spM spD; rw [hm, if_pos rfl, if_pos rfl, if_pos rfl, if_pos h3] <;> rfl) rfl)
    (fun h3 A => N hX 7 A rfl rfl fun A => forkE 33 A rfl
     (fun h4 A => N hX 1 A rfl rfl fun A => ANY hmo [.ptr 0 0, .ptr 2 2, .int .i64 ((l.getD (((s.at_ : Nat) : Int)).toNat In.z).ra), .ptr 0 0, .ptr 0 2, .ix (.ptr 0 2) 1 8 ((l.getD (((s.at_ : Nat) : Int)).toNat In.z).ra) 0, .int .i64 (s.r ((l.getD (((s.at_ : Nat) : Int)).toNat In.z).ra).toNat), .int .i64 (s.r ((l.getD (((s.at_ : Nat) : Int)).toNat In.z).ra).toNat)] [] [] 0 [([], [], [some (.blk [.sla ao l.length cp, .int .i64 ((s.at_ : Nat) : Int), .int .i64 (s.r 0), .int .i64 (s.r 1), .int .i64 (s.r 2), .int .i64 (s.r 3), .int .i64 (s.r 4), .int .i64 (s.r 5), .int .i64 (s.r 6), .int .i64 (s.r 7)]), some (.blk [.int .i64 0, .int .i64 0]), some (.blk [.int .i64 ((l.getD (((s.at_ : Nat) : Int)).toNat In.z).op), .int .i64 ((l.getD (((s.at_ : Nat) : Int)).toNat In.z).dst), .int .i64 ((l.getD (((s.at_ : Nat) : Int)).toNat In.z).ra), .int .i64 ((l.getD (((s.at_ : Nat) : Int)).toNat In.z).rb), .int .i64 ((l.getD (((s.at_ : Nat) : Int)).toNat In.z).imm), .int .i64 ((l.getD (((s.at_ : Nat) : Int)).toNat In.z).loc), .int .i64 ((l.getD (((s.at_ : Nat) : Int)).toNat In.z).off), .int .i64 ((l.getD (((s.at_ : Nat) : Int)).toNat In.z).ix), .int .i64 ((l.getD (((s.at_ : Nat) : Int)).toNat In.z).sz), .int .i64 ((l.getD (((s.at_ : Nat) : Int)).toNat In.z).fn), .bool ((l.getD (((s.at_ : Nat) : Int)).toNat In.z).acq), .bool ((l.getD (((s.at_ : Nat) : Int)).toNat In.z).weak), .bool ((l.getD (((s.at_ : Nat) : Int)).toNat In.z).rel), .int .i64 ((l.getD (((s.at_ : Nat) : Int)).toNat In.z).pred), .int .i64 ((l.getD (((s.at_ : Nat) : Int)).toNat In.z).succ), .int .i64 ((l.getD (((s.at_ : Nat) : Int)).toNat In.z).to_), .bool ((l.getD (((s.at_ : Nat) : Int)).toNat In.z).zero)])])] [[true, true, true, true, true, true, true, true]] A rfl rfl rfl rfl (by kernel_rfl) rfl (by kernel_rfl) ⟨⟨⟨_, _, _, _, 0, rfl, rfl, rfl, rfl, eff_at (eff_auto (X := ⟨_, true⟩) (out := .val _ _) hX rfl rfl) rfl⟩, ⟨⟨_, _, _, _, 0, rfl, rfl, rfl, rfl, eff_at (eff_auto (X := ⟨_, true⟩) (out := .val _ _) hX rfl rfl) rfl⟩, ⟨⟨_, _, _, _, 0, rfl, rfl, rfl, rfl, eff_at (eff_auto (X := ⟨_, true⟩) (out := .val _ _) hX rfl rfl) rfl⟩, ⟨⟨_, _, _, _, 0, rfl, rfl, rfl, rfl, eff_at (eff_auto (X := ⟨_, true⟩) (out := .val _ _) hX rfl rfl) rfl⟩, ⟨⟨_, _, _, _, 0, rfl, rfl, rfl, rfl, eff_at (eff_auto (X := ⟨_, true⟩) (out := .val _ _) hX rfl rfl) rfl⟩, ⟨⟨_, _, _, _, 0, rfl, rfl, rfl, rfl, eff_at (eff_auto (X := ⟨_, true⟩) (out := .val _ _) hX rfl (ok_d (by have q := okSp hc hat (nnF h1) h2; have o := opM h2; first | exact q.1 | exact q.2.1 | exact q.2.2.1 | exact q.2.2.2 (by omega) | omega) <| okE_nil)) rfl⟩, ⟨⟨_, _, _, _, 0, rfl, rfl, rfl, rfl, eff_at (ldnE (r := s.r) hX rfl rfl rfl rfl rfl rfl rfl (by have q := okSp hc hat (nnF h1) h2; have o := opM h2; first | exact q.1 | exact q.2.1 | exact q.2.2.1 | exact q.2.2.2 (by omega) | omega)) rfl⟩, ⟨⟨_, _, _, _, 0, rfl, rfl, rfl, rfl, eff_at (eff_auto (X := ⟨_, true⟩) (out := .val _ _) hX rfl rfl) rfl⟩, trivial⟩⟩⟩⟩⟩⟩⟩⟩, trivial⟩ fun A => N hX 3 A rfl rfl fun A => DRAWN hX hmo [(8, .int .i64 (bplace0 ((l.getD (((s.at_ : Nat) : Int)).toNat In.z).off) (rgO s.r ((l.getD (((s.at_ : Nat) : Int)).toNat In.z).ix) 0) ((l.getD (((s.at_ : Nat) : Int)).toNat In.z).sz)))] [(5, .int .i64 (rgO s.r ((l.getD (((s.at_ : Nat) : Int)).toNat In.z).ix) 0), [some (.blk [.sla ao l.length cp, .int .i64 ((s.at_ : Nat) : Int), .int .i64 (s.r 0), .int .i64 (s.r 1), .int .i64 (s.r 2), .int .i64 (s.r 3), .int .i64 (s.r 4), .int .i64 (s.r 5), .int .i64 (s.r 6), .int .i64 (s.r 7)]), some (.blk [.int .i64 0, .int .i64 0]), some (.blk [.int .i64 ((l.getD (((s.at_ : Nat) : Int)).toNat In.z).op), .int .i64 ((l.getD (((s.at_ : Nat) : Int)).toNat In.z).dst), .int .i64 ((l.getD (((s.at_ : Nat) : Int)).toNat In.z).ra), .int .i64 ((l.getD (((s.at_ : Nat) : Int)).toNat In.z).rb), .int .i64 ((l.getD (((s.at_ : Nat) : Int)).toNat In.z).imm), .int .i64 ((l.getD (((s.at_ : Nat) : Int)).toNat In.z).loc), .int .i64 ((l.getD (((s.at_ : Nat) : Int)).toNat In.z).off), .int .i64 ((l.getD (((s.at_ : Nat) : Int)).toNat In.z).ix), .int .i64 ((l.getD (((s.at_ : Nat) : Int)).toNat In.z).sz), .int .i64 ((l.getD (((s.at_ : Nat) : Int)).toNat In.z).fn), .bool ((l.getD (((s.at_ : Nat) : Int)).toNat In.z).acq), .bool ((l.getD (((s.at_ : Nat) : Int)).toNat In.z).weak), .bool ((l.getD (((s.at_ : Nat) : Int)).toNat In.z).rel), .int .i64 ((l.getD (((s.at_ : Nat) : Int)).toNat In.z).pred), .int .i64 ((l.getD (((s.at_ : Nat) : Int)).toNat In.z).succ), .int .i64 ((l.getD (((s.at_ : Nat) : Int)).toNat In.z).to_), .bool ((l.getD (((s.at_ : Nat) : Int)).toNat In.z).zero)])])] A rfl rfl rfl rfl (by kernel_rfl) ⟨callE [0] (regOr_ l ao cp ((s.at_ : Nat) : Int) s.r ((l.getD (((s.at_ : Nat) : Int)).toNat In.z).ix) 0 (by have q := okSp hc hat (nnF h1) h2; have o := opM h2; first | exact q.1 | exact q.2.1 | exact q.2.2.1 | exact q.2.2.2 (by omega) | omega)) rfl rfl rfl rfl rfl rfl rfl, trivial⟩ ⟨.inl ⟨_, _, rfl, rfl, bplace_ ((l.getD (((s.at_ : Nat) : Int)).toNat In.z).off) (rgO s.r ((l.getD (((s.at_ : Nat) : Int)).toNat In.z).ix) 0) ((l.getD (((s.at_ : Nat) : Int)).toNat In.z).sz)⟩, trivial⟩ fun A => N hX 2 A rfl rfl fun A => have A := A.cut [0, 2, 3, 4, 5, 6, 7, 8, 9, 10, 11, 12, 13, 14, 15, 16, 17, 18, 20, 21, 22, 23, 33, 34, 35, 36, 37, 38, 39, 40, 41, 42, 43, 44, 45, 46, 47, 48, 49, 50] rfl; ANY2 hmo [.ptr 2 5, .int .i64 ((l.getD (((s.at_ : Nat) : Int)).toNat In.z).loc), .int .i64 (bplace0 ((l.getD (((s.at_ : Nat) : Int)).toNat In.z).off) (rgO s.r ((l.getD (((s.at_ : Nat) : Int)).toNat In.z).ix) 0) ((l.getD (((s.at_ : Nat) : Int)).toNat In.z).sz)), .ptr 2 8, .int .i64 ((l.getD (((s.at_ : Nat) : Int)).toNat In.z).sz), .int .i64 (bmask0 (bplace0 ((l.getD (((s.at_ : Nat) : Int)).toNat In.z).off) (rgO s.r ((l.getD (((s.at_ : Nat) : Int)).toNat In.z).ix) 0) ((l.getD (((s.at_ : Nat) : Int)).toNat In.z).sz)) ((l.getD (((s.at_ : Nat) : Int)).toNat In.z).sz)), .agg [.int .i64 ((l.getD (((s.at_ : Nat) : Int)).toNat In.z).loc), .int .i64 (bmask0 (bplace0 ((l.getD (((s.at_ : Nat) : Int)).toNat In.z).off) (rgO s.r ((l.getD (((s.at_ : Nat) : Int)).toNat In.z).ix) 0) ((l.getD (((s.at_ : Nat) : Int)).toNat In.z).sz)) ((l.getD (((s.at_ : Nat) : Int)).toNat In.z).sz))], .int .i64 (s.r ((l.getD (((s.at_ : Nat) : Int)).toNat In.z).ra).toNat), .tup [], .int .i64 (s.r ((l.getD (((s.at_ : Nat) : Int)).toNat In.z).ra).toNat), .tt] [8] [] 0 [([], [], [some (.blk [.sla ao l.length cp, .int .i64 ((s.at_ : Nat) : Int), .int .i64 (s.r 0), .int .i64 (s.r 1), .int .i64 (s.r 2), .int .i64 (s.r 3), .int .i64 (s.r 4), .int .i64 (s.r 5), .int .i64 (s.r 6), .int .i64 (s.r 7)]), some (.blk [.int .i64 0, .int .i64 0]), some (.blk [.int .i64 ((l.getD (((s.at_ : Nat) : Int)).toNat In.z).op), .int .i64 ((l.getD (((s.at_ : Nat) : Int)).toNat In.z).dst), .int .i64 ((l.getD (((s.at_ : Nat) : Int)).toNat In.z).ra), .int .i64 ((l.getD (((s.at_ : Nat) : Int)).toNat In.z).rb), .int .i64 ((l.getD (((s.at_ : Nat) : Int)).toNat In.z).imm), .int .i64 ((l.getD (((s.at_ : Nat) : Int)).toNat In.z).loc), .int .i64 ((l.getD (((s.at_ : Nat) : Int)).toNat In.z).off), .int .i64 ((l.getD (((s.at_ : Nat) : Int)).toNat In.z).ix), .int .i64 ((l.getD (((s.at_ : Nat) : Int)).toNat In.z).sz), .int .i64 ((l.getD (((s.at_ : Nat) : Int)).toNat In.z).fn), .bool ((l.getD (((s.at_ : Nat) : Int)).toNat In.z).acq), .bool ((l.getD (((s.at_ : Nat) : Int)).toNat In.z).weak), .bool ((l.getD (((s.at_ : Nat) : Int)).toNat In.z).rel), .int .i64 ((l.getD (((s.at_ : Nat) : Int)).toNat In.z).pred), .int .i64 ((l.getD (((s.at_ : Nat) : Int)).toNat In.z).succ), .int .i64 ((l.getD (((s.at_ : Nat) : Int)).toNat In.z).to_), .bool ((l.getD (((s.at_ : Nat) : Int)).toNat In.z).zero)])]), ([8], [], [some (.blk [.sla ao l.length cp, .int .i64 ((s.at_ : Nat) : Int), .int .i64 (s.r 0), .int .i64 (s.r 1), .int .i64 (s.r 2), .int .i64 (s.r 3), .int .i64 (s.r 4), .int .i64 (s.r 5), .int .i64 (s.r 6), .int .i64 (s.r 7)]), some (.blk [.int .i64 ((l.getD (((s.at_ : Nat) : Int)).toNat In.z).loc), .int .i64 (bmask0 (bplace0 ((l.getD (((s.at_ : Nat) : Int)).toNat In.z).off) (rgO s.r ((l.getD (((s.at_ : Nat) : Int)).toNat In.z).ix) 0) ((l.getD (((s.at_ : Nat) : Int)).toNat In.z).sz)) ((l.getD (((s.at_ : Nat) : Int)).toNat In.z).sz))]), some (.blk [.int .i64 ((l.getD (((s.at_ : Nat) : Int)).toNat In.z).op), .int .i64 ((l.getD (((s.at_ : Nat) : Int)).toNat In.z).dst), .int .i64 ((l.getD (((s.at_ : Nat) : Int)).toNat In.z).ra), .int .i64 ((l.getD (((s.at_ : Nat) : Int)).toNat In.z).rb), .int .i64 ((l.getD (((s.at_ : Nat) : Int)).toNat In.z).imm), .int .i64 ((l.getD (((s.at_ : Nat) : Int)).toNat In.z).loc), .int .i64 ((l.getD (((s.at_ : Nat) : Int)).toNat In.z).off), .int .i64 ((l.getD (((s.at_ : Nat) : Int)).toNat In.z).ix), .int .i64 ((l.getD (((s.at_ : Nat) : Int)).toNat In.z).sz), .int .i64 ((l.getD (((s.at_ : Nat) : Int)).toNat In.z).fn), .bool ((l.getD (((s.at_ : Nat) : Int)).toNat In.z).acq), .bool ((l.getD (((s.at_ : Nat) : Int)).toNat In.z).weak), .bool ((l.getD (((s.at_ : Nat) : Int)).toNat In.z).rel), .int .i64 ((l.getD (((s.at_ : Nat) : Int)).toNat In.z).pred), .int .i64 ((l.getD (((s.at_ : Nat) : Int)).toNat In.z).succ), .int .i64 ((l.getD (((s.at_ : Nat) : Int)).toNat In.z).to_), .bool ((l.getD (((s.at_ : Nat) : Int)).toNat In.z).zero)])])] [[true, true, true, true, true, true, true, true, true, false, false], [false, false, false, false, false, false, false, true, false, true, true]] A rfl rfl rfl rfl (by kernel_rfl) rfl (by kernel_rfl) (by kernel_rfl) ⟨⟨⟨_, _, _, _, 0, rfl, rfl, rfl, rfl, eff_at (eff_auto (X := ⟨_, true⟩) (out := .val _ _) hX rfl rfl) rfl⟩, ⟨⟨_, _, _, _, 0, rfl, rfl, rfl, rfl, eff_at (eff_auto (X := ⟨_, true⟩) (out := .val _ _) hX rfl rfl) rfl⟩, ⟨⟨_, _, _, _, 0, rfl, rfl, rfl, rfl, eff_at (eff_auto (X := ⟨_, true⟩) (out := .val _ _) hX rfl rfl) rfl⟩, ⟨⟨_, _, _, _, 0, rfl, rfl, rfl, rfl, eff_at (eff_auto (X := ⟨_, true⟩) (out := .val _ _) hX rfl rfl) rfl⟩, ⟨⟨_, _, _, _, 0, rfl, rfl, rfl, rfl, eff_at (eff_auto (X := ⟨_, true⟩) (out := .val _ _) hX rfl rfl) rfl⟩, ⟨⟨_, _, _, _, 0, rfl, rfl, rfl, rfl, eff_at (eff_pure rfl rfl (bmask_ (bplace0 ((l.getD (((s.at_ : Nat) : Int)).toNat In.z).off) (rgO s.r ((l.getD (((s.at_ : Nat) : Int)).toNat In.z).ix) 0) ((l.getD (((s.at_ : Nat) : Int)).toNat In.z).sz)) ((l.getD (((s.at_ : Nat) : Int)).toNat In.z).sz) (by have q := okSp hc hat (nnF h1) h2; have o := opM h2; first | exact q.1 | exact q.2.1 | exact q.2.2.1 | exact q.2.2.2 (by omega) | omega))) rfl⟩, ⟨⟨_, _, _, _, 0, rfl, rfl, rfl, rfl, eff_at (eff_auto (X := ⟨_, true⟩) (out := .val _ _) hX rfl rfl) rfl⟩, ⟨⟨_, _, _, _, 0, rfl, rfl, rfl, rfl, eff_at (eff_auto (X := ⟨_, true⟩) (out := .val _ _) hX rfl rfl) rfl⟩, ⟨⟨_, _, _, _, 1, rfl, rfl, rfl, rfl, eff_at (eff_auto (X := ⟨_, true⟩) (out := .upd 1 [.int .i64 ((l.getD (((s.at_ : Nat) : Int)).toNat In.z).loc), .int .i64 (bmask0 (bplace0 ((l.getD (((s.at_ : Nat) : Int)).toNat In.z).off) (rgO s.r ((l.getD (((s.at_ : Nat) : Int)).toNat In.z).ix) 0) ((l.getD (((s.at_ : Nat) : Int)).toNat In.z).sz)) ((l.getD (((s.at_ : Nat) : Int)).toNat In.z).sz))] _) hX rfl rfl) rfl⟩, trivial⟩⟩⟩⟩⟩⟩⟩⟩⟩, ⟨⟨⟨_, _, _, _, 1, rfl, rfl, rfl, rfl, eff_at (eff_auto (X := ⟨_, true⟩) (out := .val _ _) hX rfl rfl) rfl⟩, ⟨⟨_, _, _, _, 1, rfl, rfl, rfl, rfl, eff_at (eff_auto (X := ⟨_, true⟩) (out := .val _ _) hX rfl rfl) rfl⟩, ⟨⟨_, _, _, _, 1, rfl, rfl, rfl, rfl, eff_at (eff_auto (X := ⟨_, true⟩) (out := .val _ _) hX rfl rfl) rfl⟩, trivial⟩⟩⟩, trivial⟩⟩ fun A => N hX 2 A rfl rfl fun A => RETN hX A rfl rfl rfl h0 rfl rfl rfl rfl (by have hm := mopY h2; unfold spL spM spD; rw [hm, if_pos rfl, if_pos rfl, if_pos rfl, if_neg h3, if_pos h4] <;> rfl) rfl)
     (fun h4 A => N hX 5 A rfl rfl fun A => DRAWN hX hmo [(8, .int .i64 (bplace0 ((l.getD (((s.at_ : Nat) : Int)).toNat In.z).off) (rgO s.r ((l.getD (((s.at_ : Nat) : Int)).toNat In.z).ix) 0) ((l.getD (((s.at_ : Nat) : Int)).toNat In.z).sz)))] [(5, .int .i64 (rgO s.r ((l.getD (((s.at_ : Nat) : Int)).toNat In.z).ix) 0), [some (.blk [.sla ao l.length cp, .int .i64 ((s.at_ : Nat) : Int), .int .i64 (s.r 0), .int .i64 (s.r 1), .int .i64 (s.r 2), .int .i64 (s.r 3), .int .i64 (s.r 4), .int .i64 (s.r 5), .int .i64 (s.r 6), .int .i64 (s.r 7)]), some (.blk [.int .i64 0, .int .i64 0]), some (.blk [.int .i64 ((l.getD (((s.at_ : Nat) : Int)).toNat In.z).op), .int .i64 ((l.getD (((s.at_ : Nat) : Int)).toNat In.z).dst), .int .i64 ((l.getD (((s.at_ : Nat) : Int)).toNat In.z).ra), .int .i64 ((l.getD (((s.at_ : Nat) : Int)).toNat In.z).rb), .int .i64 ((l.getD (((s.at_ : Nat) : Int)).toNat In.z).imm), .int .i64 ((l.getD (((s.at_ : Nat) : Int)).toNat In.z).loc), .int .i64 ((l.getD (((s.at_ : Nat) : Int)).toNat In.z).off), .int .i64 ((l.getD (((s.at_ : Nat) : Int)).toNat In.z).ix), .int .i64 ((l.getD (((s.at_ : Nat) : Int)).toNat In.z).sz), .int .i64 ((l.getD (((s.at_ : Nat) : Int)).toNat In.z).fn), .bool ((l.getD (((s.at_ : Nat) : Int)).toNat In.z).acq), .bool ((l.getD (((s.at_ : Nat) : Int)).toNat In.z).weak), .bool ((l.getD (((s.at_ : Nat) : Int)).toNat In.z).rel), .int .i64 ((l.getD (((s.at_ : Nat) : Int)).toNat In.z).pred), .int .i64 ((l.getD (((s.at_ : Nat) : Int)).toNat In.z).succ), .int .i64 ((l.getD (((s.at_ : Nat) : Int)).toNat In.z).to_), .bool ((l.getD (((s.at_ : Nat) : Int)).toNat In.z).zero)])])] A rfl rfl rfl rfl (by kernel_rfl) ⟨callE [0] (regOr_ l ao cp ((s.at_ : Nat) : Int) s.r ((l.getD (((s.at_ : Nat) : Int)).toNat In.z).ix) 0 (by have q := okSp hc hat (nnF h1) h2; have o := opM h2; first | exact q.1 | exact q.2.1 | exact q.2.2.1 | exact q.2.2.2 (by omega) | omega)) rfl rfl rfl rfl rfl rfl rfl, trivial⟩ ⟨.inl ⟨_, _, rfl, rfl, bplace_ ((l.getD (((s.at_ : Nat) : Int)).toNat In.z).off) (rgO s.r ((l.getD (((s.at_ : Nat) : Int)).toNat In.z).ix) 0) ((l.getD (((s.at_ : Nat) : Int)).toNat In.z).sz)⟩, trivial⟩ fun A => N hX 2 A rfl rfl fun A => have A := A.cut [0, 2, 3, 4, 5, 6, 7, 8, 9, 10, 11, 12, 13, 14, 15, 16, 17, 18, 20, 21, 22, 23, 33, 34, 42, 43, 44, 45, 46, 47, 48, 49, 50] rfl; ANY2 hmo [.ptr 2 5, .int .i64 ((l.getD (((s.at_ : Nat) : Int)).toNat In.z).loc), .int .i64 (bplace0 ((l.getD (((s.at_ : Nat) : Int)).toNat In.z).off) (rgO s.r ((l.getD (((s.at_ : Nat) : Int)).toNat In.z).ix) 0) ((l.getD (((s.at_ : Nat) : Int)).toNat In.z).sz)), .ptr 2 8, .int .i64 ((l.getD (((s.at_ : Nat) : Int)).toNat In.z).sz), .int .i64 (bmask0 (bplace0 ((l.getD (((s.at_ : Nat) : Int)).toNat In.z).off) (rgO s.r ((l.getD (((s.at_ : Nat) : Int)).toNat In.z).ix) 0) ((l.getD (((s.at_ : Nat) : Int)).toNat In.z).sz)) ((l.getD (((s.at_ : Nat) : Int)).toNat In.z).sz)), .agg [.int .i64 ((l.getD (((s.at_ : Nat) : Int)).toNat In.z).loc), .int .i64 (bmask0 (bplace0 ((l.getD (((s.at_ : Nat) : Int)).toNat In.z).off) (rgO s.r ((l.getD (((s.at_ : Nat) : Int)).toNat In.z).ix) 0) ((l.getD (((s.at_ : Nat) : Int)).toNat In.z).sz)) ((l.getD (((s.at_ : Nat) : Int)).toNat In.z).sz))], .int .i64 0, .tup [], .int .i64 0, .tt] [8] [] 0 [([], [], [some (.blk [.sla ao l.length cp, .int .i64 ((s.at_ : Nat) : Int), .int .i64 (s.r 0), .int .i64 (s.r 1), .int .i64 (s.r 2), .int .i64 (s.r 3), .int .i64 (s.r 4), .int .i64 (s.r 5), .int .i64 (s.r 6), .int .i64 (s.r 7)]), some (.blk [.int .i64 0, .int .i64 0]), some (.blk [.int .i64 ((l.getD (((s.at_ : Nat) : Int)).toNat In.z).op), .int .i64 ((l.getD (((s.at_ : Nat) : Int)).toNat In.z).dst), .int .i64 ((l.getD (((s.at_ : Nat) : Int)).toNat In.z).ra), .int .i64 ((l.getD (((s.at_ : Nat) : Int)).toNat In.z).rb), .int .i64 ((l.getD (((s.at_ : Nat) : Int)).toNat In.z).imm), .int .i64 ((l.getD (((s.at_ : Nat) : Int)).toNat In.z).loc), .int .i64 ((l.getD (((s.at_ : Nat) : Int)).toNat In.z).off), .int .i64 ((l.getD (((s.at_ : Nat) : Int)).toNat In.z).ix), .int .i64 ((l.getD (((s.at_ : Nat) : Int)).toNat In.z).sz), .int .i64 ((l.getD (((s.at_ : Nat) : Int)).toNat In.z).fn), .bool ((l.getD (((s.at_ : Nat) : Int)).toNat In.z).acq), .bool ((l.getD (((s.at_ : Nat) : Int)).toNat In.z).weak), .bool ((l.getD (((s.at_ : Nat) : Int)).toNat In.z).rel), .int .i64 ((l.getD (((s.at_ : Nat) : Int)).toNat In.z).pred), .int .i64 ((l.getD (((s.at_ : Nat) : Int)).toNat In.z).succ), .int .i64 ((l.getD (((s.at_ : Nat) : Int)).toNat In.z).to_), .bool ((l.getD (((s.at_ : Nat) : Int)).toNat In.z).zero)])]), ([8], [], [some (.blk [.sla ao l.length cp, .int .i64 ((s.at_ : Nat) : Int), .int .i64 (s.r 0), .int .i64 (s.r 1), .int .i64 (s.r 2), .int .i64 (s.r 3), .int .i64 (s.r 4), .int .i64 (s.r 5), .int .i64 (s.r 6), .int .i64 (s.r 7)]), some (.blk [.int .i64 ((l.getD (((s.at_ : Nat) : Int)).toNat In.z).loc), .int .i64 (bmask0 (bplace0 ((l.getD (((s.at_ : Nat) : Int)).toNat In.z).off) (rgO s.r ((l.getD (((s.at_ : Nat) : Int)).toNat In.z).ix) 0) ((l.getD (((s.at_ : Nat) : Int)).toNat In.z).sz)) ((l.getD (((s.at_ : Nat) : Int)).toNat In.z).sz))]), some (.blk [.int .i64 ((l.getD (((s.at_ : Nat) : Int)).toNat In.z).op), .int .i64 ((l.getD (((s.at_ : Nat) : Int)).toNat In.z).dst), .int .i64 ((l.getD (((s.at_ : Nat) : Int)).toNat In.z).ra), .int .i64 ((l.getD (((s.at_ : Nat) : Int)).toNat In.z).rb), .int .i64 ((l.getD (((s.at_ : Nat) : Int)).toNat In.z).imm), .int .i64 ((l.getD (((s.at_ : Nat) : Int)).toNat In.z).loc), .int .i64 ((l.getD (((s.at_ : Nat) : Int)).toNat In.z).off), .int .i64 ((l.getD (((s.at_ : Nat) : Int)).toNat In.z).ix), .int .i64 ((l.getD (((s.at_ : Nat) : Int)).toNat In.z).sz), .int .i64 ((l.getD (((s.at_ : Nat) : Int)).toNat In.z).fn), .bool ((l.getD (((s.at_ : Nat) : Int)).toNat In.z).acq), .bool ((l.getD (((s.at_ : Nat) : Int)).toNat In.z).weak), .bool ((l.getD (((s.at_ : Nat) : Int)).toNat In.z).rel), .int .i64 ((l.getD (((s.at_ : Nat) : Int)).toNat In.z).pred), .int .i64 ((l.getD (((s.at_ : Nat) : Int)).toNat In.z).succ), .int .i64 ((l.getD (((s.at_ : Nat) : Int)).toNat In.z).to_), .bool ((l.getD (((s.at_ : Nat) : Int)).toNat In.z).zero)])])] [[true, true, true, true, true, true, true, true, true, false, false], [false, false, false, false, false, false, false, true, false, true, true]] A rfl rfl rfl rfl (by kernel_rfl) rfl (by kernel_rfl) (by kernel_rfl) ⟨⟨⟨_, _, _, _, 0, rfl, rfl, rfl, rfl, eff_at (eff_auto (X := ⟨_, true⟩) (out := .val _ _) hX rfl rfl) rfl⟩, ⟨⟨_, _, _, _, 0, rfl, rfl, rfl, rfl, eff_at (eff_auto (X := ⟨_, true⟩) (out := .val _ _) hX rfl rfl) rfl⟩, ⟨⟨_, _, _, _, 0, rfl, rfl, rfl, rfl, eff_at (eff_auto (X := ⟨_, true⟩) (out := .val _ _) hX rfl rfl) rfl⟩, ⟨⟨_, _, _, _, 0, rfl, rfl, rfl, rfl, eff_at (eff_auto (X := ⟨_, true⟩) (out := .val _ _) hX rfl rfl) rfl⟩, ⟨⟨_, _, _, _, 0, rfl, rfl, rfl, rfl, eff_at (eff_auto (X := ⟨_, true⟩) (out := .val _ _) hX rfl rfl) rfl⟩, ⟨⟨_, _, _, _, 0, rfl, rfl, rfl, rfl, eff_at (eff_pure rfl rfl (bmask_ (bplace0 ((l.getD (((s.at_ : Nat) : Int)).toNat In.z).off) (rgO s.r ((l.getD (((s.at_ : Nat) : Int)).toNat In.z).ix) 0) ((l.getD (((s.at_ : Nat) : Int)).toNat In.z).sz)) ((l.getD (((s.at_ : Nat) : Int)).toNat In.z).sz) (by have q := okSp hc hat (nnF h1) h2; have o := opM h2; first | exact q.1 | exact q.2.1 | exact q.2.2.1 | exact q.2.2.2 (by omega) | omega))) rfl⟩, ⟨⟨_, _, _, _, 0, rfl, rfl, rfl, rfl, eff_at (eff_auto (X := ⟨_, true⟩) (out := .val _ _) hX rfl rfl) rfl⟩, ⟨⟨_, _, _, _, 0, rfl, rfl, rfl, rfl, eff_at (eff_auto (X := ⟨_, true⟩) (out := .val _ _) hX rfl rfl) rfl⟩, ⟨⟨_, _, _, _, 1, rfl, rfl, rfl, rfl, eff_at (eff_auto (X := ⟨_, true⟩) (out := .upd 1 [.int .i64 ((l.getD (((s.at_ : Nat) : Int)).toNat In.z).loc), .int .i64 (bmask0 (bplace0 ((l.getD (((s.at_ : Nat) : Int)).toNat In.z).off) (rgO s.r ((l.getD (((s.at_ : Nat) : Int)).toNat In.z).ix) 0) ((l.getD (((s.at_ : Nat) : Int)).toNat In.z).sz)) ((l.getD (((s.at_ : Nat) : Int)).toNat In.z).sz))] _) hX rfl rfl) rfl⟩, trivial⟩⟩⟩⟩⟩⟩⟩⟩⟩, ⟨⟨⟨_, _, _, _, 1, rfl, rfl, rfl, rfl, eff_at (eff_auto (X := ⟨_, true⟩) (out := .val _ _) hX rfl rfl) rfl⟩, ⟨⟨_, _, _, _, 1, rfl, rfl, rfl, rfl, eff_at (eff_auto (X := ⟨_, true⟩) (out := .val _ _) hX rfl rfl) rfl⟩, ⟨⟨_, _, _, _, 1, rfl, rfl, rfl, rfl, eff_at (eff_auto (X := ⟨_, true⟩) (out := .val _ _) hX rfl rfl) rfl⟩, trivial⟩⟩⟩, trivial⟩⟩ fun A => N hX 2 A rfl rfl fun A => RETN hX A rfl rfl rfl h0 rfl rfl rfl rfl (by have hm := mopY h2; unfold spL spM spD; rw [hm, if_pos rfl, if_pos rfl, if_pos rfl, if_neg h3, if_neg h4] <;> rfl) rfl))))
theorem okPa {l : List In} {s : Th} (hc : RCd l) (hat : s.at_ ≤ l.length) (h1 : ((s.at_ : Nat) : Int) ≠ ((l.length : Nat) : Int)) (h2 : (((l.getD ((s.at_ : Nat) : Int).toNat In.z).op == 4) || ((l.getD ((s.at_ : Nat) : Int).toNat In.z).op == 6)) = true) : ((l.getD ((s.at_ : Nat) : Int).toNat In.z).sz = 1 ∨ (l.getD ((s.at_ : Nat) : Int).toNat In.z).sz = 2 ∨ (l.getD ((s.at_ : Nat) : Int).toNat In.z).sz = 4 ∨ (l.getD ((s.at_ : Nat) : Int).toNat In.z).sz = 8) ∧ (0 ≤ (l.getD ((s.at_ : Nat) : Int).toNat In.z).dst ∧ (l.getD ((s.at_ : Nat) : Int).toNat In.z).dst < 8) := by
  have hlt : s.at_ < l.length := by omega
  have ho : (l.getD s.at_ In.z).op = 4 ∨ (l.getD s.at_ In.z).op = 6 := by
    have h3 : (((l.getD s.at_ In.z).op == 4) || ((l.getD s.at_ In.z).op == 6)) = true := h2
    simp at h3
    exact h3
  have hs := hc.snd hlt
  exact ⟨hc.szs hlt (by rcases ho with h | h; exact .inl h; exact .inr (.inr h)), hs.d (by rcases ho with h | h; exact .inr (.inr (.inr (.inl h))); exact .inr (.inr (.inr (.inr h))))⟩
theorem pass_ (l : List In) (ao : Option Addr) (cp : Nat) (s : Th) (old : Int) (hc : RCd l) (hat : s.at_ ≤ l.length) : FnI (CdAt ao l) Try.prog 17 [.ptr 0 0, .int .i64 old] [some (.blk [.sla ao l.length cp, .int .i64 ((s.at_ : Nat) : Int), .int .i64 (s.r 0), .int .i64 (s.r 1), .int .i64 (s.r 2), .int .i64 (s.r 3), .int .i64 (s.r 4), .int .i64 (s.r 5), .int .i64 (s.r 6), .int .i64 (s.r 7)])] (Rt (.bool (!(((s.at_ : Nat) : Int) == ((l.length : Nat) : Int)))) [some (.blk [.sla ao l.length cp, .int .i64 (((paT l s old).at_ : Nat) : Int), .int .i64 (((paT l s old).r) 0), .int .i64 (((paT l s old).r) 1), .int .i64 (((paT l s old).r) 2), .int .i64 (((paT l s old).r) 3), .int .i64 (((paT l s old).r) 4), .int .i64 (((paT l s old).r) 5), .int .i64 (((paT l s old).r) 6), .int .i64 (((paT l s old).r) 7)])]) :=
 enterI (n := 35) (by kernel_rfl) Try.func17 rfl rfl rfl fun G w a h0 hI A => N hX 8 A rfl rfl fun A => CALLI [0] LstAt.ok hI (ready_ l ao cp ((s.at_ : Nat) : Int) s.r (by omega)) A rfl rfl rfl rfl rfl rfl rfl fun A => N hX 15 A rfl rfl fun A => fork 13 A rfl
  (fun h1 A => N hX 7 A rfl rfl fun A => RETN hX A rfl rfl rfl h0 rfl rfl rfl rfl (by rw [beq_iff_eq.2 (nnT h1)]; rfl) (by unfold paT; rw [if_pos (show s.at_ = l.length from (by have e := (nnT h1); omega))] <;> rfl))
  (fun h1 A => N hX 7 A rfl rfl fun A => CALL1 [] (Reads_ ((l.getD (((s.at_ : Nat) : Int)).toNat In.z).op) ((l.getD (((s.at_ : Nat) : Int)).toNat In.z).dst) ((l.getD (((s.at_ : Nat) : Int)).toNat In.z).ra) ((l.getD (((s.at_ : Nat) : Int)).toNat In.z).rb) ((l.getD (((s.at_ : Nat) : Int)).toNat In.z).imm) ((l.getD (((s.at_ : Nat) : Int)).toNat In.z).loc) ((l.getD (((s.at_ : Nat) : Int)).toNat In.z).off) ((l.getD (((s.at_ : Nat) : Int)).toNat In.z).ix) ((l.getD (((s.at_ : Nat) : Int)).toNat In.z).sz) ((l.getD (((s.at_ : Nat) : Int)).toNat In.z).fn) ((l.getD (((s.at_ : Nat) : Int)).toNat In.z).acq) ((l.getD (((s.at_ : Nat) : Int)).toNat In.z).weak) ((l.getD (((s.at_ : Nat) : Int)).toNat In.z).rel) ((l.getD (((s.at_ : Nat) : Int)).toNat In.z).pred) ((l.getD (((s.at_ : Nat) : Int)).toNat In.z).succ) ((l.getD (((s.at_ : Nat) : Int)).toNat In.z).to_) ((l.getD (((s.at_ : Nat) : Int)).toNat In.z).zero)) A rfl rfl rfl rfl rfl rfl rfl fun A => N hX 2 A rfl rfl fun A => fork 15 A rfl
   (fun h2 A => N hX 1 A rfl rfl fun A => DRAWN hX hmo [(6, .int .i64 (bget0 old ((l.getD (((s.at_ : Nat) : Int)).toNat In.z).sz)))] [(10, .tup [], [some (.blk [.sla ao l.length cp, .int .i64 ((s.at_ : Nat) : Int), .int .i64 ((updR s.r ((l.getD (((s.at_ : Nat) : Int)).toNat In.z).dst).toNat (bget0 old ((l.getD (((s.at_ : Nat) : Int)).toNat In.z).sz))) 0), .int .i64 ((updR s.r ((l.getD (((s.at_ : Nat) : Int)).toNat In.z).dst).toNat (bget0 old ((l.getD (((s.at_ : Nat) : Int)).toNat In.z).sz))) 1), .int .i64 ((updR s.r ((l.getD (((s.at_ : Nat) : Int)).toNat In.z).dst).toNat (bget0 old ((l.getD (((s.at_ : Nat) : Int)).toNat In.z).sz))) 2), .int .i64 ((updR s.r ((l.getD (((s.at_ : Nat) : Int)).toNat In.z).dst).toNat (bget0 old ((l.getD (((s.at_ : Nat) : Int)).toNat In.z).sz))) 3), .int .i64 ((updR s.r ((l.getD (((s.at_ : Nat) : Int)).toNat In.z).dst).toNat (bget0 old ((l.getD (((s.at_ : Nat) : Int)).toNat In.z).sz))) 4), .int .i64 ((updR s.r ((l.getD (((s.at_ : Nat) : Int)).toNat In.z).dst).toNat (bget0 old ((l.getD (((s.at_ : Nat) : Int)).toNat In.z).sz))) 5), .int .i64 ((updR s.r ((l.getD (((s.at_ : Nat) : Int)).toNat In.z).dst).toNat (bget0 old ((l.getD (((s.at_ : Nat) : Int)).toNat In.z).sz))) 6), .int .i64 ((updR s.r ((l.getD (((s.at_ : Nat) : Int)).toNat In.z).dst).toNat (bget0 old ((l.getD (((s.at_ : Nat) : Int)).toNat In.z).sz))) 7)]), some (.blk [.int .i64 ((l.getD (((s.at_ : Nat) : Int)).toNat In.z).op), .int .i64 ((l.getD (((s.at_ : Nat) : Int)).toNat In.z).dst), .int .i64 ((l.getD (((s.at_ : Nat) : Int)).toNat In.z).ra), .int .i64 ((l.getD (((s.at_ : Nat) : Int)).toNat In.z).rb), .int .i64 ((l.getD (((s.at_ : Nat) : Int)).toNat In.z).imm), .int .i64 ((l.getD (((s.at_ : Nat) : Int)).toNat In.z).loc), .int .i64 ((l.getD (((s.at_ : Nat) : Int)).toNat In.z).off), .int .i64 ((l.getD (((s.at_ : Nat) : Int)).toNat In.z).ix), .int .i64 ((l.getD (((s.at_ : Nat) : Int)).toNat In.z).sz), .int .i64 ((l.getD (((s.at_ : Nat) : Int)).toNat In.z).fn), .bool ((l.getD (((s.at_ : Nat) : Int)).toNat In.z).acq), .bool ((l.getD (((s.at_ : Nat) : Int)).toNat In.z).weak), .bool ((l.getD (((s.at_ : Nat) : Int)).toNat In.z).rel), .int .i64 ((l.getD (((s.at_ : Nat) : Int)).toNat In.z).pred), .int .i64 ((l.getD (((s.at_ : Nat) : Int)).toNat In.z).succ), .int .i64 ((l.getD (((s.at_ : Nat) : Int)).toNat In.z).to_), .bool ((l.getD (((s.at_ : Nat) : Int)).toNat In.z).zero)])])] A rfl (ok_d (by have hn := hc.n; (try have q := okPa hc hat (nnF h1) h2); first | exact q.1 | exact q.2 | omega) <| okE_nil) rfl rfl (by kernel_rfl) ⟨stnE (i := 0) (r := s.r) hX rfl rfl rfl rfl rfl rfl rfl rfl (by have hn := hc.n; (try have q := okPa hc hat (nnF h1) h2); first | exact q.1 | exact q.2 | omega), trivial⟩ ⟨.inl ⟨_, _, rfl, rfl, bget_ old ((l.getD (((s.at_ : Nat) : Int)).toNat In.z).sz) (by have hn := hc.n; (try have q := okPa hc hat (nnF h1) h2); first | exact q.1 | exact q.2 | omega)⟩, trivial⟩ fun A => N hX 14 A rfl (ok_d (by have hn := hc.n; (try have q := okPa hc hat (nnF h1) h2); first | exact q.1 | exact q.2 | omega) <| okE_nil) fun A => N hX 2 A rfl rfl fun A => CALLI [0] LstAt.ok hI (settle_ l ao cp (((s.at_ : Nat) : Int) + 1) (updR s.r ((l.getD (((s.at_ : Nat) : Int)).toNat In.z).dst).toNat (bget0 old ((l.getD (((s.at_ : Nat) : Int)).toNat In.z).sz))) hc (by have e := (nnF h1); omega)) A rfl rfl rfl rfl rfl rfl rfl fun A => N hX 8 A rfl rfl fun A => RETN hX A rfl rfl rfl h0 rfl rfl rfl rfl (by rw [beq_eq_false_iff_ne.2 (nnF h1)]; rfl) (by rw [show paT l s old = setl l ⟨s.at_ + 1, paR s.r (l.getD (((s.at_ : Nat) : Int)).toNat In.z) old⟩ from if_neg (show s.at_ ≠ l.length from (by have e := (nnF h1); omega))]; unfold paR; rw [if_pos h2] <;> rfl))
   (fun h2 A => N hX 16 A rfl (ok_d (by have hn := hc.n; (try have q := okPa hc hat (nnF h1) h2); first | exact q.1 | exact q.2 | omega) <| okE_nil) fun A => N hX 2 A rfl rfl fun A => CALLI [0] LstAt.ok hI (settle_ l ao cp (((s.at_ : Nat) : Int) + 1) s.r hc (by have e := (nnF h1); omega)) A rfl rfl rfl rfl rfl rfl rfl fun A => N hX 8 A rfl rfl fun A => RETN hX A rfl rfl rfl h0 rfl rfl rfl rfl (by rw [beq_eq_false_iff_ne.2 (nnF h1)]; rfl) (by rw [show paT l s old = setl l ⟨s.at_ + 1, paR s.r (l.getD (((s.at_ : Nat) : Int)).toNat In.z) old⟩ from if_neg (show s.at_ ≠ l.length from (by have e := (nnF h1); omega))]; unfold paR; rw [if_neg (ne_true_of_eq_false h2)] <;> rfl)))
end Go.Proofs.Ytiglneecmibgmaa
/- Rows that are done with, by their addresses; an empty list appended; blocks known by their addresses get a place. -/
namespace Go.Proofs.Ytiglneecmibgmaa
open Go.RowKit
set_option linter.unusedVariables false
set_option linter.unusedSimpArgs false
set_option linter.unusedSectionVars false
section
variable {P : Program} {Y : Tb} {n : Nat} {ks : List Nat} {G0 : Gr} {w0 : World} {T : List (Nat × SV)} {H : Hp} {G : Gr} {a : Act} {w : World} {Q : Exit → Act → World → Prop} {K : List Fr} {pos : Pos} {ops : Array Oper} {o : Oper} {rest : List Oper}
/-- an empty list appended to a row, wherever it says that it lies -/
theorem APP0 {x y : Operand} {t e s i m c cp : Nat} {ao : Option Addr} {f : Nat → List SV} (A : Sy n T H ks G0 w0 G a w) (hg : guardS ops T o.guard = some .run) (hd : fitsD n o.dst = true) (hop : o.op = .call { callee := .builtin .append, args := #[x, y], argTypes := #[t, t] }) (hx : evS T x = some (.sl i m c)) (hi : lg H i = some (some (.row e s m c f))) (hy : evS T y = some (.sla ao 0 cp)) (ht : sliceB P t e s = true)
    (hk : ∀ {G a w}, Sy n (extS T o.dst (.sl i m c)) H ks G0 w0 G a w → Goal P Q K (.ops ops rest) a w) : Goal P Q K (.ops ops (o :: rest)) a w := by
  have hw := gd_run (gd := none) A hg
  obtain ⟨d, op, ty, pos, af, gd⟩ := o
  simp only at hop
  subst hop
  obtain ⟨hu, hs⟩ := slice_facts ht
  obtain ⟨ie, hie, _⟩ := Option.map_eq_some_iff.1 hs
  rw [lg_is] at hi
  obtain ⟨p, hp⟩ : ∃ p, G[i]? = some p := by
    have : i < G.length := by rw [← A.mem.len]; exact (List.getElem?_eq_some_iff.1 hi).1
    exact ⟨G[i], by simp [this]⟩
  obtain ⟨_, hpre, xs, hxs, hown⟩ := A.mem.ent i _ hi
  rw [hp] at hown
  simp only [Option.getD_some] at hown
  have hvx := A.ev hx
  have hvy := A.ev hy
  have hden : den G (.sl i m c) = some (.slice (p.map fun L => ⟨L.b, L.pre.length, none⟩) m (c + rm p)) := by unfold den; rw [hp]
  rw [hden] at hvx
  unfold den at hvy
  simp only [Option.some.injEq] at hvx hvy
  have hsrc : Src P ie.size t (.slice ao 0 cp) 0 [] w := by
    cases ao with
    | none => exact Src.ofNil w hu cp
    | some x0 => exact Src.ofSlice w hu x0 0 cp [] (by simp) (fun j u hj => by simp at hj) (fun u hu => by cases hu)
  have hle : m ≤ c + rm p := by
    rcases hown.2 with ⟨q1, q2⟩ | ⟨g, cap, cur, q1, _, _, q4, _⟩
    · omega
    · cases p <;> simp at q1; omega
  have hr := run_append_nothing (P := P) w t t ty e ie hu hie (p.map fun L => ⟨L.b, L.pre.length, none⟩) m (c + rm p) hle _ hsrc
  refine q_does (Q := wpK P Q K) (does_val (v := .slice (p.map fun L => ⟨L.b, L.pre.length, none⟩) m (c + rm p)) (w' := w) hw ?_ ?_)
  · unfold execOp
    simp only [resolve, invoke, builtin, Sem.run_bind, Sem.run_pure, Result.andThen_ok, List.map_toArray, List.map_cons, List.map_nil, ← hvx, ← hvy, hr]
  · exact hk (Sy.put A hd hden)
theorem Sy.hide (A : Sy n T H ks G0 w0 G a w) (i : Nat) : Sy n T (stH H i none) ks G0 w0 G a w := by
  have hold : ∀ (j : Nat) (e : Ent), (stH H i none)[j]? = some (some e) → H[j]? = some (some e) := by
    intro j e h
    rw [stH_is] at h
    by_cases hj : j = i
    · subst hj
      by_cases hl : j < H.length
      · rw [List.getElem?_set_self hl] at h; cases h
      · rw [List.getElem?_eq_none (by simp; omega)] at h; cases h
    · rw [List.getElem?_set_ne (Ne.symm hj)] at h; exact h
  exact ⟨A.size, A.defers, A.get, ⟨by rw [stH_is]; simpa using A.mem.len, fun j e he => A.mem.ent j e (hold j e he), fun j k e f L' M hjk g1 g2 g3 g4 g5 g6 => A.mem.sep j k e f L' M hjk (hold j e g1) (hold k f g2) g3 g4 g5 g6⟩, A.pre, fun j e L' g1 g2 g3 => A.own j e L' (hold j e g1) g2 g3, A.mix⟩
/-- a row that is done with, by its address -/
theorem Sy.layAt (A : Sy n T H ks G0 w0 G a w) (i : Nat) {e s m c : Nat} {f : Nat → List SV} {H' : Hp} (hi : lg H i = some (some (.row e s m c f))) (hH : stH H i none = H') :
    ∃ ao cp, (den G (.sl i m c) = some (.slice ao m cp)) ∧ Sy n T H' ks G0 w0 G a w ∧ LstAt ao s m f w (keys H' G) ∧ (∀ q : Addr, ao = some q → ks.contains q.block = true ∨ w0.heap.size ≤ q.block) := by
  subst hH
  rw [lg_is] at hi
  obtain ⟨p, hp⟩ : ∃ p, G[i]? = some p := by
    have : i < G.length := by rw [← A.mem.len]; exact (List.getElem?_eq_some_iff.1 hi).1
    exact ⟨G[i], by simp [this]⟩
  have hent := A.mem.ent i _ hi
  have htot := hent.1
  refine ⟨p.map fun L => ⟨L.b, L.pre.length, none⟩, c + rm p, by unfold den; rw [hp], A.hide i, ⟨fun k => ?_, ?_⟩, fun q hq => ?_⟩
  · obtain ⟨vs, h, _⟩ := htot k; exact ⟨vs, h⟩
  · by_cases h0 : m = 0
    · exact .inl h0
    · right
      obtain ⟨L, _, q1, _⟩ := row_range hent (k := 0) (by omega)
      rw [hp] at q1
      simp only [Option.getD_some] at q1
      subst q1
      have hlt : L.b < w.heap.size := by rw [hp] at hent; exact EntOK.lt hent (fun h => h)
      refine ⟨L.b, L.pre.length, rfl, hlt, ?_, fun k hk => ?_⟩
      · cases hq : (keys (stH H i none) G).contains L.b with
        | false => rfl
        | true =>
          obtain ⟨j, e', L', g1, g2, g3, g4⟩ := mem_keys.1 hq
          have hji : j ≠ i := by
            intro e; subst e
            rw [stH_is, List.getElem?_set_self (List.getElem?_eq_some_iff.1 hi).1] at g1; cases g1
          have g1' : H[j]? = some (some e') := by rw [stH_is, List.getElem?_set_ne (Ne.symm hji)] at g1; exact g1
          exact absurd g4.symm (A.mem.sep i j _ e' L L' (Ne.symm hji) hi g1' rfl hp g3 (mut_full g2))
      · obtain ⟨L', vs, r1, r2, _, r4⟩ := row_range hent hk
        rw [hp] at r1
        simp only [Option.getD_some, Option.some.injEq] at r1
        subst r1
        exact ⟨vs, r2, r4⟩
  · cases p with
    | none => cases hq
    | some L => cases hq; exact A.own i _ L hi rfl hp
theorem Sy.cellEq (A : Sy n T H ks G0 w0 G a w) (i : Nat) {cs cs' : List SV} {H' : Hp} (hi : lg H i = some (some (.blk cs))) (hd : denL G cs' = denL G cs) (hH : stH H i (some (.blk cs')) = H') : Sy n T H' ks G0 w0 G a w := by
  subst hH
  rw [lg_is] at hi
  have hilt := (List.getElem?_eq_some_iff.1 hi).1
  have hold : ∀ (j : Nat) (e : Ent), (stH H i (some (.blk cs')))[j]? = some (some e) → (j ≠ i ∧ H[j]? = some (some e)) ∨ (j = i ∧ e = .blk cs') := by
    intro j e h
    rw [stH_is] at h
    by_cases hj : j = i
    · subst hj; rw [List.getElem?_set_self hilt] at h; cases h; exact .inr ⟨rfl, rfl⟩
    · rw [List.getElem?_set_ne (Ne.symm hj)] at h; exact .inl ⟨hj, h⟩
  refine ⟨A.size, A.defers, A.get, ⟨by rw [stH_is]; simpa using A.mem.len, fun j e he => ?_, fun j k e f L M hjk g1 g2 g3 g4 g5 g6 => ?_⟩, A.pre, fun j e L g1 g2 g3 => ?_, A.mix⟩
  · rcases hold j e he with ⟨_, h⟩ | ⟨rfl, rfl⟩
    · exact A.mem.ent j e h
    · obtain ⟨L, vs, h1, h2, h3⟩ := A.mem.ent j _ hi
      exact ⟨L, vs, h1, by rw [hd]; exact h2, h3⟩
  · rcases hold j e g1 with ⟨_, h1⟩ | ⟨rfl, rfl⟩
    · rcases hold k f g2 with ⟨_, h2⟩ | ⟨rfl, rfl⟩
      · exact A.mem.sep j k e f L M hjk h1 h2 g3 g4 g5 g6
      · exact A.mem.sep j k e _ L M hjk h1 hi g3 g4 g5 (fun h => h)
    · rcases hold k f g2 with ⟨_, h2⟩ | ⟨rfl, rfl⟩
      · exact A.mem.sep j k _ f L M hjk hi h2 rfl g4 g5 g6
      · exact absurd rfl hjk
  · rcases hold j e g1 with ⟨_, h1⟩ | ⟨rfl, rfl⟩
    · exact A.own j e L h1 g2 g3
    · exact A.own j _ L hi rfl g3
/-- a slot said otherwise, where both stand for the same -/
theorem Sy.slotEq (A : Sy n T H ks G0 w0 G a w) (t : Nat) {x y : SV} (hx : look T t = some x) (hd : den G y = den G x) : Sy n ((t, y) :: T) H ks G0 w0 G a w :=
  ⟨A.size, A.defers, fun q z hz => by
    unfold look at hz
    cases hb : Nat.beq t q with
    | true => rw [hb] at hz; cases hz; have := Nat.eq_of_beq_eq_true hb; subst this; rw [hd]; exact A.get t x hx
    | false => rw [hb] at hz; exact A.get q z hz, A.mem, A.pre, A.own, A.mix⟩
/-- a block known by its address gets a place -/
theorem Sy.takeEnt (A : Sy n T H ks G0 w0 G a w) {L : Loc} {en : Ent} (hen : EntOK G w (some L) en) (hmu : en.mut = true) (hn : ∀ (i : Nat) (e : Ent) (M : Loc), H[i]? = some (some e) → G[i]? = some (some M) → ¬ e.empty → M.b ≠ L.b) (ho : w0.heap.size ≤ L.b) :
    Sy n T (H ++ [some en]) ks G0 w0 (G ++ [some L]) a w := by
  have hlen := A.mem.len
  have hold : ∀ (i : Nat) (x : Ent), (H ++ [some en])[i]? = some (some x) → (H[i]? = some (some x) ∧ i < H.length) ∨ (i = H.length ∧ x = en) := by
    intro i x h
    by_cases hi : i < H.length
    · rw [List.getElem?_append_left hi] at h; exact .inl ⟨h, hi⟩
    · rw [List.getElem?_append_right (by omega)] at h
      have : i - H.length = 0 := by
        cases hq : i - H.length with
        | zero => rfl
        | succ k => rw [hq] at h; simp at h
      rw [this] at h
      simp at h
      exact .inr ⟨by omega, h.symm⟩
  have hG : ∀ i, i < H.length → (G ++ [some L])[i]? = G[i]? := fun i hi => List.getElem?_append_left (by omega)
  have hGn : (G ++ [some L])[H.length]? = some (some L) := by rw [List.getElem?_append_right (by omega), hlen]; simp
  refine ⟨A.size, A.defers, fun q x hx => den_mono _ x (A.get q x hx), ⟨by simp [hlen], ?_, ?_⟩, ?_, ?_, A.mix⟩
  · intro i x h
    rcases hold i x h with ⟨h1, h2⟩ | ⟨rfl, rfl⟩
    · rw [hG i h2]; exact (A.mem.ent i x h1).more _
    · rw [hGn]; exact hen.more _
  · intro i j x y M N hij h1 h2 h3 h4 h5 h6
    rcases hold i x h1 with ⟨k1, k2⟩ | ⟨rfl, rfl⟩
    · rw [hG i k2] at h4
      rcases hold j y h2 with ⟨k3, k4⟩ | ⟨rfl, rfl⟩
      · rw [hG j k4] at h5; exact A.mem.sep i j x y M N hij k1 k3 h3 h4 h5 h6
      · rw [hGn] at h5; cases h5; exact hn i x M k1 h4 (mut_full h3)
    · rw [hGn] at h4; cases h4
      rcases hold j y h2 with ⟨k3, k4⟩ | ⟨rfl, rfl⟩
      · rw [hG j k4] at h5; exact fun z => hn j y N k3 h5 h6 z.symm
      · exact absurd rfl hij
  · obtain ⟨F, hF⟩ := A.pre; exact ⟨F ++ [some L], by rw [hF, List.append_assoc]⟩
  · intro i x M h1 h2 h3
    rcases hold i x h1 with ⟨k1, k2⟩ | ⟨rfl, rfl⟩
    · rw [hG i k2] at h3; exact A.own i x M k1 h2 h3
    · rw [hGn] at h3; cases h3; exact .inr ho
/-- a part of a block at a place that is not known: a row of cells -/
theorem ldixE {x : Operand} {ty i q s m k : Nat} {cs r : List SV} (hX : Y.ok P = true) (hop : o.op = .load ty x) (hg : guardS ops T o.guard = some .run) (hx : evS T x = some (.ix (.ptr i q) s m (k : Int) 0)) (hH : lg H i = some (some (.blk cs))) (hc : cellS ⟨Y, true⟩ ty cs (q + k * s) = some (.agg r)) :
    EffOK P n ops ks G0 w0 T H o (.agg r) H := fun G a w A => by
  have hw := gd_run (gd := none) A hg
  obtain ⟨d, op, ty', pos, af, gd⟩ := o
  simp only at hop
  subst hop
  have hvx := A.ev hx
  rw [ix_ptr (q := q + k * s) k (by omega)] at hvx
  have hs : loadS ⟨Y, true⟩ H ty (.ptr i (q + k * s)) = some (.agg r, []) := by
    simp only [loadS, baseS, hH, selL, hc]
  obtain ⟨z, hz, h3⟩ := loadS_do (X := ⟨Y, true⟩) (P := P) (ops := ops) (d := d) (ty := ty') (pos := pos) (af := af) (gd := gd) (x := x) hX A hs hvx
  exact h3 (fun p hp => by cases hp) rfl hw _ ⟨[], by simpa using hz, by simpa using A.ms⟩
/-- a pointer that is there, held against nil -/
theorem pnilE {x y : Operand} {t rt i q : Nat} {en : Ent} (hop : o.op = .binOp .eql t x y rt) (hg : guardS ops T o.guard = some .run) (hx : evS T x = some (.ptr i q)) (hy : evS T y = some (.v (.pointer none))) (hi : lg H i = some (some en)) (ht : P.underlying t = some (.pointer (P.pointee t))) : EffOK P n ops ks G0 w0 T H o .ff H := fun G a w A => by
  have hw := gd_run (gd := none) A hg
  obtain ⟨d, op, ty, pos, af, gd⟩ := o
  simp only at hop
  subst hop
  have hvx := A.ev hx
  have hvy := A.ev hy
  unfold den at hvx hvy
  split at hvx
  · next L hL =>
    simp only [Option.some.injEq] at hvx hvy
    exact d_bin hw hvx.symm hvy.symm ⟨by simp [eqGuard], run_eql_pointer_nil w t _ ht⟩ ⟨[], rfl, by simpa using A.ms⟩
  · cases hvx
/-- a part of a row is there -/
theorem nckE {x : Operand} {i s m e c q : Nat} {j : Int} {f : Nat → List SV} (hop : o.op = .nilCheck x) (hg : guardS ops T o.guard = some .run) (hx : evS T x = some (.el i s j q)) (hi : lg H i = some (some (.row e s m c f))) (hj : j.toNat < m) : EffOK P n ops ks G0 w0 T H o (.el i s j q) H := fun G a w A => by
  have hw := gd_run (gd := none) A hg
  obtain ⟨d, op, ty, pos, af, gd⟩ := o
  simp only at hop
  subst hop
  have hvx := A.ev hx
  rw [lg_is] at hi
  obtain ⟨L, vs, q1, _⟩ := row_range (A.mem.ent i _ hi) hj
  have hp : G[i]? = some (some L) := by
    cases hq : G[i]? with
    | none => rw [hq] at q1; cases q1
    | some p => rw [hq] at q1; simp only [Option.getD_some] at q1; rw [q1]
  have hden : den G (.el i s j q) = some (.pointer (some ⟨L.b, L.pre.length + j.toNat * s + q, none⟩)) := by unfold den; rw [hp]; rfl
  rw [hden] at hvx
  exact d_nilCheck hw (by rw [← Option.some.inj hvx]) ⟨[], by simpa using hden, by simpa using A.ms⟩
theorem Sy.nilPlace (A : Sy n T H ks G0 w0 G a w) (e s : Nat) (f : Nat → List SV) (htot : ∀ k, ∃ vs, denL [] (f k) = some vs ∧ vs.length = s) : Sy n T (H ++ [some (.row e s 0 0 f)]) ks G0 w0 (G ++ [none]) a w := by
  have hlen := A.mem.len
  have hold : ∀ (j : Nat) (x : Ent), (H ++ [some (.row e s 0 0 f)])[j]? = some (some x) → (H[j]? = some (some x) ∧ j < H.length) ∨ (j = H.length ∧ x = .row e s 0 0 f) := by
    intro j x h
    by_cases hj : j < H.length
    · rw [List.getElem?_append_left hj] at h; exact .inl ⟨h, hj⟩
    · rw [List.getElem?_append_right (by omega)] at h
      have : j - H.length = 0 := by
        cases hq : j - H.length with
        | zero => rfl
        | succ k => rw [hq] at h; simp at h
      rw [this] at h
      simp at h
      exact .inr ⟨by omega, h.symm⟩
  have hG : ∀ j, j < H.length → (G ++ [(none : Option Loc)])[j]? = G[j]? := fun j hj => List.getElem?_append_left (by omega)
  have hGn : (G ++ [(none : Option Loc)])[H.length]? = some none := by rw [List.getElem?_append_right (by omega), hlen]; simp
  have A1 : Sy n T (H ++ [some (.row e s 0 0 f)]) ks G0 w0 (G ++ [none]) a w := by
    refine ⟨A.size, A.defers, fun t x hx => den_mono _ x (A.get t x hx), ⟨by simp [hlen], ?_, ?_⟩, ?_, ?_, A.mix⟩
    · intro j x h
      rcases hold j x h with ⟨h2, h3⟩ | ⟨rfl, rfl⟩
      · rw [hG j h3]; exact (A.mem.ent j x h2).more _
      · rw [hGn]; exact ⟨htot, fun L h => (by cases h), [], rfl, by simp, .inl ⟨rfl, rfl⟩⟩
    · intro j k x y L M hjk h1 h2 h3 h4 h5 h6
      rcases hold j x h1 with ⟨a2, a3⟩ | ⟨rfl, rfl⟩
      · rw [hG j a3] at h4
        rcases hold k y h2 with ⟨b2, b3⟩ | ⟨rfl, rfl⟩
        · rw [hG k b3] at h5; exact A.mem.sep j k x y L M hjk a2 b2 h3 h4 h5 h6
        · rw [hGn] at h5; cases h5
      · rw [hGn] at h4; cases h4
    · obtain ⟨F, hF⟩ := A.pre; exact ⟨F ++ [none], by rw [hF, List.append_assoc]⟩
    · intro j x L h1 h2 h3
      rcases hold j x h1 with ⟨a2, a3⟩ | ⟨rfl, rfl⟩
      · rw [hG j a3] at h3; exact A.own j x L a2 h2 h3
      · rw [hGn] at h3; cases h3
  exact A1
/-- a nil slice in a block gets a row of nothing -/
theorem Sy.nilCel1 (A : Sy n T H ks G0 w0 G a w) (i e s : Nat) (f : Nat → List SV) {H' : Hp} (hi : lg H i = some (some (.blk [.sla none 0 0]))) (htot : ∀ k, ∃ vs, denL [] (f k) = some vs ∧ vs.length = s) (hH : stH (H ++ [some (.row e s 0 0 f)]) i (some (.blk [.sl H.length 0 0])) = H') : ∃ G', Sy n T H' ks G0 w0 G' a w := by
  have B := A.nilPlace e s f htot
  rw [lg_is] at hi
  refine ⟨_, B.cellEq i (cs := [.sla none 0 0]) (by rw [lg_is, List.getElem?_append_left (List.getElem?_eq_some_iff.1 hi).1]; exact hi) ?_ hH⟩
  have : den (G ++ [none]) (.sl H.length 0 0) = some (.slice none 0 0) := by
    unfold den
    rw [List.getElem?_append_right (by rw [A.mem.len]; exact Nat.le_refl _), A.mem.len]
    simp [rm]
  unfold denL
  rw [this]
  rfl
/-- a row that is done with and named by the first cell of a block: by its address -/
theorem Sy.layCell (A : Sy n T H ks G0 w0 G a w) (i j : Nat) {e s m c : Nat} {f : Nat → List SV} {cs : List SV} {H' : Option Addr → Nat → Hp} (hi : lg H i = some (some (.row e s m c f))) (hj : lg H j = some (some (.blk (.sl i m c :: cs)))) (hij : Nat.beq i j = false) (hH : ∀ ao cp, stH (stH H i none) j (some (.blk (.sla ao m cp :: cs))) = H' ao cp) :
    ∃ ao cp, Sy n T (H' ao cp) ks G0 w0 G a w ∧ LstAt ao s m f w (keys (H' ao cp) G) ∧ (∀ q : Addr, ao = some q → ks.contains q.block = true ∨ w0.heap.size ≤ q.block) := by
  obtain ⟨ao, cp, hd, A1, hl, hfr⟩ := A.layAt i hi rfl
  have hne : i ≠ j := fun e => by subst e; rw [Nat.beq_refl] at hij; cases hij
  have hj1 : lg (stH H i none) j = some (some (.blk (.sl i m c :: cs))) := by
    rw [lg_is] at hj ⊢
    rw [stH_is, List.getElem?_set_ne hne]; exact hj
  have A2 := A1.cellEq j (cs' := .sla ao m cp :: cs) hj1 (by
    unfold denL
    rw [hd]
    rfl) (hH ao cp)
  refine ⟨ao, cp, A2, LstAt.ok w _ w _ hl (Mix.refl _ _) (fun b hb => .inl ?_), hfr⟩
  obtain ⟨k, en, L, g1, g2, g3, g4⟩ := mem_keys.1 hb
  rw [← hH ao cp, stH_is] at g1
  by_cases hk : k = j
  · subst hk
    rw [lg_is] at hj1
    exact mem_keys.2 ⟨k, _, L, hj1, rfl, g3, g4⟩
  · rw [List.getElem?_set_ne (Ne.symm hk)] at g1
    exact mem_keys.2 ⟨k, en, L, g1, g2, g3, g4⟩
theorem NILC (i e s : Nat) (f : Nat → List SV) {H' : Hp} (A : Sy n T H ks G0 w0 G a w) (hi : lg H i = some (some (.blk [.sla none 0 0]))) (htot : ∀ k, ∃ vs, denL [] (f k) = some vs ∧ vs.length = s) (hH : stH (H ++ [some (.row e s 0 0 f)]) i (some (.blk [.sl H.length 0 0])) = H') (k : ∀ {G}, Sy n T H' ks G0 w0 G a w → Goal P Q K pos a w) : Goal P Q K pos a w := by
  obtain ⟨G', h⟩ := A.nilCel1 i e s f hi htot hH
  exact k h
theorem LAYC (i j : Nat) {e s m c : Nat} {f : Nat → List SV} {cs : List SV} (H' : Option Addr → Nat → Hp) (A : Sy n T H ks G0 w0 G a w) (hi : lg H i = some (some (.row e s m c f))) (hj : lg H j = some (some (.blk (.sl i m c :: cs)))) (hij : Nat.beq i j = false) (hH : ∀ ao cp, stH (stH H i none) j (some (.blk (.sla ao m cp :: cs))) = H' ao cp)
    (k : ∀ ao cp, Sy n T (H' ao cp) ks G0 w0 G a w → LstAt ao s m f w (keys (H' ao cp) G) → (∀ q : Addr, ao = some q → ks.contains q.block = true ∨ w0.heap.size ≤ q.block) → Goal P Q K pos a w) : Goal P Q K pos a w := by
  obtain ⟨ao, cp, h1, h2, h3⟩ := A.layCell i j hi hj hij hH
  exact k ao cp h1 h2 h3
/-- a block that names a row, handed out: where they lie -/
structure OutC (e s m : Nat) (f : Nat → List SV) (L : Loc) (bt cp N : Nat) (w : World) : Prop where
  blk : Blk w L.b (L.pre ++ [Value.slice (some ⟨bt, 0, none⟩) m cp] ++ L.post).toArray L.t
  row : Given e s m f bt cp w
  ne : L.b ≠ bt
  lo : N ≤ L.b
  lt : N ≤ bt
theorem Sy.giveCore (A : Sy n T H [] G0 w0 G a w) (i q t : Nat) {e s m c : Nat} {f : Nat → List SV} (hm : 0 < m) (hi : lg H i = some (some (.blk [.sl q m c]))) (hq : lg H q = some (some (.row e s m c f))) (hiq : Nat.beq i q = false) (ht : look T t = some (.ptr i 0)) :
    ∃ L bt cp, Sy n ((t, adr L.b L.pre.length) :: T) H [] G0 w0 G a w ∧ OutC e s m f L bt cp w0.heap.size w ∧ (keys H G).contains L.b = true ∧ (keys H G).contains bt = true := by
  have hne : i ≠ q := fun e => by subst e; rw [Nat.beq_refl] at hiq; cases hiq
  rw [lg_is] at hi hq
  obtain ⟨L, vs, p1, p2, p3⟩ := A.mem.ent i _ hi
  have hGi : G[i]? = some (some L) := by
    cases hz : G[i]? with
    | none => rw [hz] at p1; cases p1
    | some p => rw [hz] at p1; simp only [Option.getD_some] at p1; rw [p1]
  obtain ⟨h1, h2, xs, h3, h4⟩ := A.mem.ent q _ hq
  obtain ⟨M, _, q1, _⟩ := row_range (A.mem.ent q _ hq) (k := 0) hm
  have hGq : G[q]? = some (some M) := by
    cases hz : G[q]? with
    | none => rw [hz] at q1; cases q1
    | some p => rw [hz] at q1; simp only [Option.getD_some] at q1; rw [q1]
  rw [hGq] at h2 h4
  have hpre : M.pre = [] := h2 M rfl
  have h4' : w.ownsRow 0 e s (.slice (some ⟨M.b, 0, none⟩) m (c + rm (some M))) m xs := by
    have : (Option.map (fun L : Loc => (⟨L.b, L.pre.length, none⟩ : Addr)) (some M)) = some ⟨M.b, 0, none⟩ := by simp [hpre]
    rw [← this]; exact h4
  have hvs : vs = [.slice (some ⟨M.b, 0, none⟩) m (c + rm (some M))] := by
    have : denL G [.sl q m c] = some [.slice (some ⟨M.b, 0, none⟩) m (c + rm (some M))] := by
      unfold denL den
      rw [hGq]
      simp [hpre, denL]
    rw [this] at p2; exact (Option.some.inj p2).symm
  subst hvs
  have own : ∀ {k : Nat} {en : Ent} {L : Loc}, H[k]? = some (some en) → en.mut = true → G[k]? = some (some L) → w0.heap.size ≤ L.b := fun h1 h2 h3 => (A.own _ _ _ h1 h2 h3).elim (fun h => by cases h) id
  refine ⟨L, M.b, c + rm (some M), A.slotEq t ht (by unfold den; rw [hGi]; rfl), ⟨p3, ⟨h1, xs, h3, h4'⟩, A.mem.sep i q _ _ L M hne hi hq rfl hGi hGq (fun h => h), own hi rfl hGi, own hq rfl hGq⟩, mem_keys.2 ⟨i, _, L, hi, rfl, hGi, rfl⟩, mem_keys.2 ⟨q, _, M, hq, rfl, hGq, rfl⟩⟩
theorem Sy.takeCore (A : Sy n T H ks G0 w0 G a w) (t : Nat) {e s m bt cp N : Nat} {f : Nat → List SV} {L : Loc} {H' : Hp} (ho : OutC e s m f L bt cp N w) (hN : w0.heap.size ≤ N) (hold : ∀ (i : Nat) (e : Ent) (M : Loc), H[i]? = some (some e) → G[i]? = some (some M) → ¬ e.empty → M.b < N) (ht : look T t = some (adr L.b L.pre.length)) (hH : H ++ [some (.row e s m 0 f)] ++ [some (.blk [.sl H.length m 0])] = H') :
    ∃ G', Sy n ((t, .ptr (H.length + 1) 0) :: T) H' ks G0 w0 G' a w ∧ ∀ b, (keys H' G').contains b = true → b < N ∨ b = L.b ∨ b = bt := by
  subst hH
  have hlen := A.mem.len
  obtain ⟨p1, xs, p2, p3⟩ := ho.row
  have A1 := A.takeEnt (L := ⟨bt, [], List.replicate cp undef, e⟩) (en := .row e s m 0 f) ⟨p1, fun L hL => by cases hL; rfl, xs, p2, by simpa [rm] using p3⟩ rfl (fun i e M h1 h2 h3 => by have := hold i e M h1 h2 h3; have := ho.lt; show M.b ≠ bt; omega) (Nat.le_trans hN ho.lt)
  have hG1 : (G ++ [some (⟨bt, [], List.replicate cp undef, e⟩ : Loc)])[H.length]? = some (some ⟨bt, [], List.replicate cp undef, e⟩) := by rw [List.getElem?_append_right (by omega), hlen]; simp
  have hd : denL (G ++ [some (⟨bt, [], List.replicate cp undef, e⟩ : Loc)]) [.sl H.length m 0] = some [.slice (some ⟨bt, 0, none⟩) m cp] := by
    unfold denL den
    rw [hG1]
    simp [rm, denL]
  have A2 := A1.takeEnt (L := L) (en := .blk [.sl H.length m 0]) ⟨L, _, rfl, hd, ho.blk⟩ rfl (fun i e' M h1 h2 h3 => by
    by_cases hi : i < H.length
    · rw [List.getElem?_append_left hi] at h1
      rw [List.getElem?_append_left (by omega)] at h2
      have := hold i e' M h1 h2 h3; have := ho.lo; omega
    · have hi2 : i = H.length := by
        have := (List.getElem?_eq_some_iff.1 h1).1
        simp at this; omega
      subst hi2
      rw [hG1] at h2
      cases h2
      exact fun z => ho.ne z.symm) (Nat.le_trans hN ho.lo)
  refine ⟨_, A2.slotEq t ht ?_, fun b hb => ?_⟩
  · unfold den
    rw [List.getElem?_append_right (by simp; omega)]
    simp [hlen]
  · obtain ⟨i, en, M, g1, g2, g3, g4⟩ := mem_keys.1 hb
    by_cases hi : i < H.length
    · rw [List.append_assoc, List.getElem?_append_left hi] at g1
      rw [List.append_assoc, List.getElem?_append_left (by omega)] at g3
      exact .inl (by rw [← g4]; exact hold i en M g1 g3 (mut_full g2))
    · by_cases hi2 : i = H.length
      · subst hi2
        rw [List.getElem?_append_left (by simp; omega), hG1] at g3
        cases g3
        exact .inr (.inr g4.symm)
      · have hi3 : i = H.length + 1 := by
          have := (List.getElem?_eq_some_iff.1 g1).1
          simp at this; omega
        subst hi3
        rw [List.getElem?_append_right (by simp; omega)] at g3
        simp [hlen] at g3
        subst g3
        exact .inr (.inl g4.symm)
end
end Go.Proofs.Ytiglneecmibgmaa
/- A core: of, At, Spot, Pass, Threads. -/
namespace Go.Proofs.Ytiglneecmibgmaa
open Go.RowKit
set_option linter.unusedVariables false
set_option linter.unusedSimpArgs false
set_option maxRecDepth 100000
set_option maxHeartbeats 2000000
set_option simprocs false
def Th.z : Th := ⟨0, fun _ => 0⟩
abbrev rnT (c : Cde) (s : Th) : List SV := rnS (.sla c.ao c.l.length c.cp) ((s.at_ : Nat) : Int) s.r
structure CoreOK (cs : List Cde) (ts : List Th) (nn : Nat) : Prop where
  n : ts.length = cs.length
  m : cs.length = nn
  r : ∀ k, k < cs.length → RCd (cs.getD k Cde.z).l
  a : ∀ k, k < cs.length → (ts.getD k Th.z).at_ ≤ (cs.getD k Cde.z).l.length
def setTh (cs : List Cde) (ts : List Th) (j old : Int) : List Th := ts.set j.toNat (paT (cs.getD j.toNat Cde.z).l (ts.getD j.toNat Th.z) old)
theorem setTh_len {cs : List Cde} {ts : List Th} {j old : Int} : (setTh cs ts j old).length = ts.length := by unfold setTh; simp
theorem gd_eq {α : Type} {l : List α} {k : Nat} {x d : α} (h : k < l.length) : (l.set k x).getD k d = x := by simp [List.getD, h]
theorem gd_ne {α : Type} {l : List α} {j k : Nat} {x d : α} (h : j ≠ k) : (l.set k x).getD j d = l.getD j d := by simp [List.getD, List.getElem?_set_ne (Ne.symm h)]
theorem CoreOK.set {cs : List Cde} {ts : List Th} {nn : Nat} (h : CoreOK cs ts nn) {j : Int} (hj : 0 ≤ j ∧ j < ((nn : Nat) : Int)) (old : Int) : CoreOK cs (setTh cs ts j old) nn := by
  have hn := h.n
  have hm := h.m
  refine ⟨by rw [setTh_len]; exact h.n, h.m, h.r, fun k hk => ?_⟩
  unfold setTh
  by_cases e : k = j.toNat
  · subst e; rw [gd_eq (by omega)]; exact paT_le (h.r _ hk) (h.a _ hk) old
  · rw [gd_ne e]; exact h.a k hk
theorem rcd_nil : RCd [] := ⟨by decide, fun k hk => by cases hk⟩
theorem cdat_nil {w : World} {ks : List Nat} : CdAt none [] w ks := ⟨fun k => ⟨_, rfl⟩, .inl rfl⟩
theorem FnI.free {I : Amb} {P : Program} {f : Nat} {args : List SV} {H : Hp} {R : SV → Hp → Prop} (h : FnI I P f args H R) (hI : ∀ w ks, I w ks) : Fn P f args H R := ⟨h.1, fun G w vs hM hv => h.2 G w vs hM (hI _ _) hv⟩

theorem spotE_ (cs : List Cde) (ts : List Th) (nn : Nat) (hC : CoreOK cs ts nn) (j : Int) (hj : 0 ≤ j ∧ j < ((nn : Nat) : Int)) : FnI (CodesAt cs) Try.prog 16 [.el 0 10 j 0] [some (.row 61 10 nn 0 (fun zz => rnT (cs.getD zz Cde.z) (ts.getD zz Th.z)))] (Rt (.tup [.agg [.int .i64 (spL ((cs.getD ((j).toNat) Cde.z).l.getD ((((ts.getD ((j).toNat) Th.z).at_ : Nat) : Int)).toNat In.z)), .int .i64 (spM (ts.getD ((j).toNat) Th.z).r ((cs.getD ((j).toNat) Cde.z).l.getD ((((ts.getD ((j).toNat) Th.z).at_ : Nat) : Int)).toNat In.z))], .int .i64 (spD (ts.getD ((j).toNat) Th.z).r ((cs.getD ((j).toNat) Cde.z).l.getD ((((ts.getD ((j).toNat) Th.z).at_ : Nat) : Int)).toNat In.z)), .bool (mopI ((cs.getD ((j).toNat) Cde.z).l.getD ((((ts.getD ((j).toNat) Th.z).at_ : Nat) : Int)).toNat In.z))]) [some (.row 61 10 nn 0 (fun zz => rnT (cs.getD zz Cde.z) (ts.getD zz Th.z)))]) := by
  have hn := hC.n
  have hm := hC.m
  have hk : (j).toNat < ts.length := by omega
  exact FnI.mono (fnI_el (F := fun zz => rnT (cs.getD zz Cde.z) (ts.getD zz Th.z)) (F' := fun zz => rnT (cs.getD zz Cde.z) (ts.getD zz Th.z)) (j).toNat rfl (by omega) (spot_ (cs.getD ((j).toNat) Cde.z).l (cs.getD ((j).toNat) Cde.z).ao (cs.getD ((j).toNat) Cde.z).cp (ts.getD ((j).toNat) Th.z) (hC.r _ (by omega)) (hC.a _ (by omega))) rfl rfl (fun q hq => rfl) ⟨_, rfl, rfl⟩) (fun w ks h => h.at (by omega))
theorem passE_ (cs : List Cde) (ts : List Th) (nn : Nat) (hC : CoreOK cs ts nn) (j : Int) (old : Int) (hj : 0 ≤ j ∧ j < ((nn : Nat) : Int)) : FnI (CodesAt cs) Try.prog 17 [.el 0 10 j 0, .int .i64 old] [some (.row 61 10 nn 0 (fun zz => rnT (cs.getD zz Cde.z) (ts.getD zz Th.z)))] (Rt (.bool (!((((ts.getD ((j).toNat) Th.z).at_ : Nat) : Int) == (((cs.getD ((j).toNat) Cde.z).l.length : Nat) : Int)))) [some (.row 61 10 nn 0 (fun zz => rnT (cs.getD zz Cde.z) ((setTh cs ts j old).getD zz Th.z)))]) := by
  have hn := hC.n
  have hm := hC.m
  have hk : (j).toNat < ts.length := by omega
  exact FnI.mono (fnI_el (F := fun zz => rnT (cs.getD zz Cde.z) (ts.getD zz Th.z)) (F' := fun zz => rnT (cs.getD zz Cde.z) ((setTh cs ts j old).getD zz Th.z)) (j).toNat rfl (by omega) (by
      have e : rnT (cs.getD ((j).toNat) Cde.z) ((setTh cs ts j old).getD (j).toNat Th.z) = rnT (cs.getD ((j).toNat) Cde.z) (paT (cs.getD ((j).toNat) Cde.z).l (ts.getD ((j).toNat) Th.z) old) := by unfold setTh; rw [gd_eq hk]
      show FnI _ _ _ _ _ (Rt _ [some (.blk (rnT (cs.getD ((j).toNat) Cde.z) ((setTh cs ts j old).getD (j).toNat Th.z)))])
      rw [e]
      exact pass_ (cs.getD ((j).toNat) Cde.z).l (cs.getD ((j).toNat) Cde.z).ao (cs.getD ((j).toNat) Cde.z).cp (ts.getD ((j).toNat) Th.z) old (hC.r _ (by omega)) (hC.a _ (by omega))) rfl rfl (fun q hq => by show rnT _ _ = rnT _ _; unfold setTh; rw [gd_ne hq]) ⟨_, rfl, rfl⟩) (fun w ks h => h.at (by omega))
theorem readyE_ (cs : List Cde) (ts : List Th) (nn : Nat) (hC : CoreOK cs ts nn) (j : Int) (hj : 0 ≤ j ∧ j < ((nn : Nat) : Int)) : FnI (CodesAt cs) Try.prog 21 [.el 0 10 j 0] [some (.row 61 10 nn 0 (fun zz => rnT (cs.getD zz Cde.z) (ts.getD zz Th.z)))] (Rt (.tup [.agg [.int .i64 (((cs.getD ((j).toNat) Cde.z).l.getD ((((ts.getD ((j).toNat) Th.z).at_ : Nat) : Int)).toNat In.z).op), .int .i64 (((cs.getD ((j).toNat) Cde.z).l.getD ((((ts.getD ((j).toNat) Th.z).at_ : Nat) : Int)).toNat In.z).dst), .int .i64 (((cs.getD ((j).toNat) Cde.z).l.getD ((((ts.getD ((j).toNat) Th.z).at_ : Nat) : Int)).toNat In.z).ra), .int .i64 (((cs.getD ((j).toNat) Cde.z).l.getD ((((ts.getD ((j).toNat) Th.z).at_ : Nat) : Int)).toNat In.z).rb), .int .i64 (((cs.getD ((j).toNat) Cde.z).l.getD ((((ts.getD ((j).toNat) Th.z).at_ : Nat) : Int)).toNat In.z).imm), .int .i64 (((cs.getD ((j).toNat) Cde.z).l.getD ((((ts.getD ((j).toNat) Th.z).at_ : Nat) : Int)).toNat In.z).loc), .int .i64 (((cs.getD ((j).toNat) Cde.z).l.getD ((((ts.getD ((j).toNat) Th.z).at_ : Nat) : Int)).toNat In.z).off), .int .i64 (((cs.getD ((j).toNat) Cde.z).l.getD ((((ts.getD ((j).toNat) Th.z).at_ : Nat) : Int)).toNat In.z).ix), .int .i64 (((cs.getD ((j).toNat) Cde.z).l.getD ((((ts.getD ((j).toNat) Th.z).at_ : Nat) : Int)).toNat In.z).sz), .int .i64 (((cs.getD ((j).toNat) Cde.z).l.getD ((((ts.getD ((j).toNat) Th.z).at_ : Nat) : Int)).toNat In.z).fn), .bool (((cs.getD ((j).toNat) Cde.z).l.getD ((((ts.getD ((j).toNat) Th.z).at_ : Nat) : Int)).toNat In.z).acq), .bool (((cs.getD ((j).toNat) Cde.z).l.getD ((((ts.getD ((j).toNat) Th.z).at_ : Nat) : Int)).toNat In.z).weak), .bool (((cs.getD ((j).toNat) Cde.z).l.getD ((((ts.getD ((j).toNat) Th.z).at_ : Nat) : Int)).toNat In.z).rel), .int .i64 (((cs.getD ((j).toNat) Cde.z).l.getD ((((ts.getD ((j).toNat) Th.z).at_ : Nat) : Int)).toNat In.z).pred), .int .i64 (((cs.getD ((j).toNat) Cde.z).l.getD ((((ts.getD ((j).toNat) Th.z).at_ : Nat) : Int)).toNat In.z).succ), .int .i64 (((cs.getD ((j).toNat) Cde.z).l.getD ((((ts.getD ((j).toNat) Th.z).at_ : Nat) : Int)).toNat In.z).to_), .bool (((cs.getD ((j).toNat) Cde.z).l.getD ((((ts.getD ((j).toNat) Th.z).at_ : Nat) : Int)).toNat In.z).zero)], .bool (!((((ts.getD ((j).toNat) Th.z).at_ : Nat) : Int) == (((cs.getD ((j).toNat) Cde.z).l.length : Nat) : Int)))]) [some (.row 61 10 nn 0 (fun zz => rnT (cs.getD zz Cde.z) (ts.getD zz Th.z)))]) := by
  have hn := hC.n
  have hm := hC.m
  have hk : (j).toNat < ts.length := by omega
  exact FnI.mono (fnI_el (F := fun zz => rnT (cs.getD zz Cde.z) (ts.getD zz Th.z)) (F' := fun zz => rnT (cs.getD zz Cde.z) (ts.getD zz Th.z)) (j).toNat rfl (by omega) (ready_ (cs.getD ((j).toNat) Cde.z).l (cs.getD ((j).toNat) Cde.z).ao (cs.getD ((j).toNat) Cde.z).cp (((ts.getD ((j).toNat) Th.z).at_ : Nat) : Int) (ts.getD ((j).toNat) Th.z).r (by have := hC.a (j).toNat (by omega); omega)) rfl rfl (fun q hq => rfl) ⟨_, rfl, rfl⟩) (fun w ks h => h.at (by omega))
/-- what is yielded said otherwise -/
theorem fn_ff {P : Program} {f : Nat} {args : List SV} {H H2 : Hp} {x y : SV} (h : Fn P f args H (Rt x H2)) (e : ∀ {G}, den G x = den G y) : Fn P f args H (Rt y H2) := ⟨h.1, fun G w vs hM hv => Calls.mono (h.2 G w vs hM hv) fun e' w' ⟨x', H', F, v, ⟨q1, q2⟩, r⟩ => by subst q1; subst q2; exact ⟨y, _, F, v, ⟨rfl, rfl⟩, by rw [← e]; exact r.1, r.2⟩⟩
theorem spotZ_ : Fn Try.prog 16 [.ptr 0 0] [some (.blk [.sla none 0 0, .int .i64 0, .int .i64 0, .int .i64 0, .int .i64 0, .int .i64 0, .int .i64 0, .int .i64 0, .int .i64 0, .int .i64 0])] (Rt (.tup [.agg [.int .i64 0, .int .i64 0], .int .i64 0, .ff]) [some (.blk [.sla none 0 0, .int .i64 0, .int .i64 0, .int .i64 0, .int .i64 0, .int .i64 0, .int .i64 0, .int .i64 0, .int .i64 0, .int .i64 0])]) := by
  have h := (spot_ [] none 0 Th.z rcd_nil (Nat.le_refl _)).free (fun _ _ => cdat_nil)
  exact fn_ff h rfl
theorem passZ_ (old : Int) : Fn Try.prog 17 [.ptr 0 0, .int .i64 old] [some (.blk [.sla none 0 0, .int .i64 0, .int .i64 0, .int .i64 0, .int .i64 0, .int .i64 0, .int .i64 0, .int .i64 0, .int .i64 0, .int .i64 0])] (Rt .ff [some (.blk [.sla none 0 0, .int .i64 0, .int .i64 0, .int .i64 0, .int .i64 0, .int .i64 0, .int .i64 0, .int .i64 0, .int .i64 0, .int .i64 0])]) := by
  have h := (pass_ [] none 0 Th.z old rcd_nil (Nat.le_refl _)).free (fun _ _ => cdat_nil)
  exact fn_ff h rfl
theorem readyZ_ : Fn Try.prog 21 [.ptr 0 0] [some (.blk [.sla none 0 0, .int .i64 0, .int .i64 0, .int .i64 0, .int .i64 0, .int .i64 0, .int .i64 0, .int .i64 0, .int .i64 0, .int .i64 0])] (Rt (.tup [.agg (insS In.z), .ff]) [some (.blk [.sla none 0 0, .int .i64 0, .int .i64 0, .int .i64 0, .int .i64 0, .int .i64 0, .int .i64 0, .int .i64 0, .int .i64 0, .int .i64 0])]) := by
  have h := (ready_ [] none 0 0 Th.z.r (by decide)).free (fun _ _ => cdat_nil)
  exact fn_ff h rfl
theorem ofI_ (cs : List Cde) (ts : List Th) (nn : Nat) (th : Int) (hth : 0 ≤ th ∧ th < ((nn : Nat) : Int)) : Fn Try.prog 15 [.ptr 0 0, .int .i64 th] [some (.blk [.sl 1 nn 0]), some (.row 61 10 nn 0 (fun zz => rnT (cs.getD zz Cde.z) (ts.getD zz Th.z)))] (Rt (.el 1 10 th 0) [some (.blk [.sl 1 nn 0]), some (.row 61 10 nn 0 (fun zz => rnT (cs.getD zz Cde.z) (ts.getD zz Th.z)))]) :=
 enterM (n := 24) (by kernel_rfl) Try.func15 rfl rfl rfl fun G w a h0 A => N hX 21 A rfl rfl fun A => fork 15 A rfl
  (fun h1 A => absurd h1 (by simp; omega))
  (fun h1 A => N hX 15 A rfl (ok_d (by omega) <| okE_nil) fun A => RETN hX A rfl rfl rfl h0 rfl rfl rfl rfl rfl rfl)
theorem ofO_ (cs : List Cde) (ts : List Th) (nn : Nat) (th : Int) (hth : ¬ (0 ≤ th ∧ th < ((nn : Nat) : Int))) : Fn Try.prog 15 [.ptr 0 0, .int .i64 th] [some (.blk [.sl 1 nn 0]), some (.row 61 10 nn 0 (fun zz => rnT (cs.getD zz Cde.z) (ts.getD zz Th.z)))] (Rt (.ptr 2 0) [some (.blk [.sl 1 nn 0]), some (.row 61 10 nn 0 (fun zz => rnT (cs.getD zz Cde.z) (ts.getD zz Th.z))), some (.blk [.sla none 0 0, .int .i64 0, .int .i64 0, .int .i64 0, .int .i64 0, .int .i64 0, .int .i64 0, .int .i64 0, .int .i64 0, .int .i64 0])]) :=
 enterM (n := 24) (by kernel_rfl) Try.func15 rfl rfl rfl fun G w a h0 A => N hX 21 A rfl rfl fun A => fork 15 A rfl
  (fun h1 A => N hX 9 A rfl rfl fun A => RET hX [2] A ⟨rfl, rfl⟩ rfl rfl rfl rfl rfl rfl rfl rfl h0)
  (fun h1 A => absurd h1 (by simp; omega))
theorem cAtI_ (cs : List Cde) (ts : List Th) (nn : Nat) (th : Int) (hth : 0 ≤ th ∧ th < ((nn : Nat) : Int)) : Fn Try.prog 8 [.ptr 0 0, .int .i64 th] [some (.blk [.sl 1 nn 0]), some (.row 61 10 nn 0 (fun zz => rnT (cs.getD zz Cde.z) (ts.getD zz Th.z)))] (Rt (.int .i64 (((ts.getD ((th).toNat) Th.z).at_ : Nat) : Int)) [some (.blk [.sl 1 nn 0]), some (.row 61 10 nn 0 (fun zz => rnT (cs.getD zz Cde.z) (ts.getD zz Th.z)))]) :=
 enterM (n := 11) (by kernel_rfl) Try.func8 rfl rfl rfl fun G w a h0 A => N hX 9 A rfl rfl fun A => CALL1 [0, 1] (ofI_ cs ts nn th hth) A rfl rfl rfl rfl rfl rfl rfl fun A => q_eff A rfl (nckE rfl rfl rfl rfl (by omega)) fun A => N hX 6 A rfl (ok_d (by omega) <| ok_d (by omega) <| okE_nil) fun A => RETN hX A rfl rfl rfl h0 rfl rfl rfl rfl rfl rfl
theorem cAtO_ (cs : List Cde) (ts : List Th) (nn : Nat) (th : Int) (hth : ¬ (0 ≤ th ∧ th < ((nn : Nat) : Int))) : Fn Try.prog 8 [.ptr 0 0, .int .i64 th] [some (.blk [.sl 1 nn 0]), some (.row 61 10 nn 0 (fun zz => rnT (cs.getD zz Cde.z) (ts.getD zz Th.z)))] (Rt (.int .i64 0) [some (.blk [.sl 1 nn 0]), some (.row 61 10 nn 0 (fun zz => rnT (cs.getD zz Cde.z) (ts.getD zz Th.z)))]) :=
 enterM (n := 11) (by kernel_rfl) Try.func8 rfl rfl rfl fun G w a h0 A => N hX 9 A rfl rfl fun A => CALL1 [0, 1] (ofO_ cs ts nn th hth) A rfl rfl rfl rfl rfl rfl rfl fun A => N hX 7 A rfl rfl fun A => RETN hX A rfl rfl rfl h0 rfl rfl rfl rfl rfl rfl
theorem cSpotI_ (cs : List Cde) (ts : List Th) (nn : Nat) (th : Int) (hC : CoreOK cs ts nn) (hth : 0 ≤ th ∧ th < ((nn : Nat) : Int)) : FnI (CodesAt cs) Try.prog 7 [.ptr 0 0, .int .i64 th] [some (.blk [.sl 1 nn 0]), some (.row 61 10 nn 0 (fun zz => rnT (cs.getD zz Cde.z) (ts.getD zz Th.z)))] (Rt (.tup [.agg [.int .i64 (spL ((cs.getD ((th).toNat) Cde.z).l.getD ((((ts.getD ((th).toNat) Th.z).at_ : Nat) : Int)).toNat In.z)), .int .i64 (spM (ts.getD ((th).toNat) Th.z).r ((cs.getD ((th).toNat) Cde.z).l.getD ((((ts.getD ((th).toNat) Th.z).at_ : Nat) : Int)).toNat In.z))], .int .i64 (spD (ts.getD ((th).toNat) Th.z).r ((cs.getD ((th).toNat) Cde.z).l.getD ((((ts.getD ((th).toNat) Th.z).at_ : Nat) : Int)).toNat In.z)), .bool (mopI ((cs.getD ((th).toNat) Cde.z).l.getD ((((ts.getD ((th).toNat) Th.z).at_ : Nat) : Int)).toNat In.z))]) [some (.blk [.sl 1 nn 0]), some (.row 61 10 nn 0 (fun zz => rnT (cs.getD zz Cde.z) (ts.getD zz Th.z)))]) :=
 enterI (n := 14) (by kernel_rfl) Try.func7 rfl rfl rfl fun G w a h0 hI A => N hX 11 A rfl rfl fun A => CALL1 [0, 1] (ofI_ cs ts nn th hth) A rfl rfl rfl rfl rfl rfl rfl fun A => CALLI [1] CodesAt.ok hI (spotE_ cs ts nn hC th hth) A rfl rfl rfl rfl rfl rfl rfl fun A => N hX 9 A rfl rfl fun A => RETN hX A rfl rfl rfl h0 rfl rfl rfl rfl rfl rfl
theorem cSpotO_ (cs : List Cde) (ts : List Th) (nn : Nat) (th : Int) (hth : ¬ (0 ≤ th ∧ th < ((nn : Nat) : Int))) : FnI (CodesAt cs) Try.prog 7 [.ptr 0 0, .int .i64 th] [some (.blk [.sl 1 nn 0]), some (.row 61 10 nn 0 (fun zz => rnT (cs.getD zz Cde.z) (ts.getD zz Th.z)))] (Rt (.tup [.agg [.int .i64 0, .int .i64 0], .int .i64 0, .ff]) [some (.blk [.sl 1 nn 0]), some (.row 61 10 nn 0 (fun zz => rnT (cs.getD zz Cde.z) (ts.getD zz Th.z)))]) :=
 enterI (n := 14) (by kernel_rfl) Try.func7 rfl rfl rfl fun G w a h0 hI A => N hX 11 A rfl rfl fun A => CALL1 [0, 1] (ofO_ cs ts nn th hth) A rfl rfl rfl rfl rfl rfl rfl fun A => CALL1 [3] spotZ_ A rfl rfl rfl rfl rfl rfl rfl fun A => N hX 9 A rfl rfl fun A => RETN hX A rfl rfl rfl h0 rfl rfl rfl rfl rfl rfl
theorem cPassI_ (cs : List Cde) (ts : List Th) (nn : Nat) (th : Int) (old : Int) (hC : CoreOK cs ts nn) (hth : 0 ≤ th ∧ th < ((nn : Nat) : Int)) : FnI (CodesAt cs) Try.prog 9 [.ptr 0 0, .int .i64 th, .int .i64 old] [some (.blk [.sl 1 nn 0]), some (.row 61 10 nn 0 (fun zz => rnT (cs.getD zz Cde.z) (ts.getD zz Th.z)))] (Rt (.bool (!((((ts.getD ((th).toNat) Th.z).at_ : Nat) : Int) == (((cs.getD ((th).toNat) Cde.z).l.length : Nat) : Int)))) [some (.blk [.sl 1 nn 0]), some (.row 61 10 nn 0 (fun zz => rnT (cs.getD zz Cde.z) ((setTh cs ts th old).getD zz Th.z)))]) :=
 enterI (n := 12) (by kernel_rfl) Try.func9 rfl rfl rfl fun G w a h0 hI A => N hX 9 A rfl rfl fun A => CALL1 [0, 1] (ofI_ cs ts nn th hth) A rfl rfl rfl rfl rfl rfl rfl fun A => N hX 1 A rfl rfl fun A => CALLI [1] CodesAt.ok hI (passE_ cs ts nn hC th old hth) A rfl rfl rfl rfl rfl rfl rfl fun A => N hX 4 A rfl rfl fun A => RETN hX A rfl rfl rfl h0 rfl rfl rfl rfl rfl rfl
theorem cPassO_ (cs : List Cde) (ts : List Th) (nn : Nat) (th : Int) (old : Int) (hth : ¬ (0 ≤ th ∧ th < ((nn : Nat) : Int))) : FnI (CodesAt cs) Try.prog 9 [.ptr 0 0, .int .i64 th, .int .i64 old] [some (.blk [.sl 1 nn 0]), some (.row 61 10 nn 0 (fun zz => rnT (cs.getD zz Cde.z) (ts.getD zz Th.z)))] (Rt (.ff) [some (.blk [.sl 1 nn 0]), some (.row 61 10 nn 0 (fun zz => rnT (cs.getD zz Cde.z) (ts.getD zz Th.z)))]) :=
 enterI (n := 12) (by kernel_rfl) Try.func9 rfl rfl rfl fun G w a h0 hI A => N hX 9 A rfl rfl fun A => CALL1 [0, 1] (ofO_ cs ts nn th hth) A rfl rfl rfl rfl rfl rfl rfl fun A => N hX 1 A rfl rfl fun A => CALL1 [2] (passZ_ old) A rfl rfl rfl rfl rfl rfl rfl fun A => N hX 4 A rfl rfl fun A => RETN hX A rfl rfl rfl h0 rfl rfl rfl rfl rfl rfl
theorem cThreads_ (cs : List Cde) (ts : List Th) (nn : Nat)  : Fn Try.prog 10 [.ptr 0 0] [some (.blk [.sl 1 nn 0]), some (.row 61 10 nn 0 (fun zz => rnT (cs.getD zz Cde.z) (ts.getD zz Th.z)))] (Rt (.int .i64 ((nn : Nat) : Int)) [some (.blk [.sl 1 nn 0]), some (.row 61 10 nn 0 (fun zz => rnT (cs.getD zz Cde.z) (ts.getD zz Th.z)))]) :=
 enterM (n := 8) (by kernel_rfl) Try.func10 rfl rfl rfl fun G w a h0 A => N hX 16 A rfl rfl fun A => RETN hX A rfl rfl rfl h0 rfl rfl rfl rfl rfl rfl
end Go.Proofs.Ytiglneecmibgmaa
/- slices.Clone of a code. -/
namespace Go.Proofs.Ytiglneecmibgmaa
open Go.RowKit
set_option linter.unusedVariables false
set_option linter.unusedSimpArgs false
set_option maxRecDepth 100000
set_option maxHeartbeats 2000000
set_option simprocs false
theorem cloneN_ (cp : Nat)  : Fn Try.prog 13 [.sla none (([] : List In).length) cp] [] (Rt (.sl 0 (([] : List In).length) 0) [some (.row 30 17 (([] : List In).length) 0 (fun zz => insS (([] : List In).getD zz In.z)))]) :=
 enterM (n := 8) (by kernel_rfl) Try.func13 rfl rfl rfl fun G w a h0 A => N hX 9 A rfl rfl fun A => NILQ (r := .tt) A rfl rfl rfl rfl rfl (e := 30) (by kernel_rfl) rfl fun A => N hX 9 A rfl rfl fun A => have A := A.nilRow 2 30 17 (fun zz => insS (([] : List In).getD zz In.z)) rfl (fun z => ⟨_, rfl, rfl⟩); RET hX [0] (x := .sl 0 0 0) A ⟨rfl, rfl⟩ rfl rfl rfl rfl rfl rfl rfl rfl h0
theorem cloneE_ (ad : Addr) (cp : Nat)  : Fn Try.prog 13 [.sla (some ad) (([] : List In).length) cp] [] (Rt (.sl 0 (([] : List In).length) 0) [some (.row 30 17 (([] : List In).length) 0 (fun zz => insS (([] : List In).getD zz In.z)))]) :=
 enterM (n := 8) (by kernel_rfl) Try.func13 rfl rfl rfl fun G w a h0 A => N hX 9 A rfl rfl fun A => NILQ (r := .ff) A rfl rfl rfl rfl rfl (e := 30) (by kernel_rfl) rfl fun A => N hX 9 A rfl rfl fun A => APP0 (e := 30) (s := 17) A rfl rfl rfl rfl rfl rfl (by kernel_rfl) fun A => N hX 4 A rfl rfl fun A => have A := A.rowAs 0 0 (fun zz => insS (([] : List In).getD zz In.z)) rfl rfl (fun k hk => by omega) (fun z => ⟨_, rfl, rfl⟩); RET hX [0] (x := .sl 0 0 0) A ⟨rfl, rfl⟩ rfl rfl rfl rfl rfl rfl rfl rfl h0
theorem cloneS_ (l : List In) (ad : Addr) (cp : Nat) (hl : l.length ≠ 0) (hn : l.length ≤ 1000000) : FnI (CdAt (some ad) l) Try.prog 13 [.sla (some ad) l.length cp] [] (Rt (.sl 0 l.length 0) [some (.row 30 17 l.length 0 (fun zz => insS (l.getD zz In.z)))]) :=
 enterI (n := 8) (by kernel_rfl) Try.func13 rfl rfl rfl fun G w a h0 hI A => N hX 9 A rfl rfl fun A => NILQ (r := .ff) A rfl rfl rfl rfl rfl (e := 30) (by kernel_rfl) rfl fun A => N hX 9 A rfl rfl fun A => ADOPTD 6 hI hl A rfl rfl rfl rfl fun _ A => APPL hX l.length (fun zz => insS (l.getD zz In.z)) A rfl rfl rfl rfl (Nat.le_refl _) (by omega) hn (by omega) (fun k hk => by omega) (fun k hk => by show insS _ = insS _; rw [Nat.zero_add]) (fun z => ⟨_, rfl, rfl⟩) (fun k hk => ⟨_, rfl, okE_nil⟩) fun A => N hX 4 A rfl rfl fun A => RET hX [2] (x := .sl 0 l.length 0) A ⟨rfl, rfl⟩ rfl rfl rfl rfl rfl rfl rfl rfl h0
theorem clone_ (l : List In) (ao : Option Addr) (cp : Nat) (hn : l.length ≤ 1000000) : FnI (CdAt ao l) Try.prog 13 [.sla ao l.length cp] [] (Rt (.sl 0 l.length 0) [some (.row 30 17 l.length 0 (fun zz => insS (l.getD zz In.z)))]) := by
  by_cases h0 : l.length = 0
  · have e := List.eq_nil_of_length_eq_zero h0
    subst e
    cases ao with
    | none => exact (cloneN_ cp).toI
    | some ad => exact (cloneE_ ad cp).toI
  · cases ao with
    | none => exact ⟨(cloneN_ cp).1, fun G w vs hM hI hv => by
        rcases hI.2 with h | ⟨b, o, h, _⟩
        · exact absurd h h0
        · cases h⟩
    | some ad => exact cloneS_ l ad cp h0 hn
end Go.Proofs.Ytiglneecmibgmaa
/- mach.NewCore. -/
namespace Go.Proofs.Ytiglneecmibgmaa
open Go.RowKit
set_option linter.unusedVariables false
set_option linter.unusedSimpArgs false
set_option maxRecDepth 100000
set_option maxHeartbeats 2000000
set_option simprocs false
/-- the threads at first -/
def iniL (cs : List Cde) (rg : Nat → Rg) : List Th := (List.range cs.length).map fun k => setl (cs.getD k Cde.z).l ⟨0, rg k⟩
theorem iniL_len {cs : List Cde} {rg : Nat → Rg} : (iniL cs rg).length = cs.length := by unfold iniL; simp
theorem iniL_at {cs : List Cde} {rg : Nat → Rg} {k : Nat} (h : k < cs.length) : (iniL cs rg).getD k Th.z = setl (cs.getD k Cde.z).l ⟨0, rg k⟩ := by
  unfold iniL
  rw [List.getD_eq_getElem?_getD, List.getElem?_map, List.getElem?_range h]
  rfl
theorem rcAt {cs : List Cde} (h : ∀ c ∈ cs, RCd c.l) {k : Nat} (hk : k < cs.length) : RCd (cs.getD k Cde.z).l := h _ (by rw [List.getD_eq_getElem?_getD, List.getElem?_eq_getElem hk]; exact List.getElem_mem hk)
theorem rgSel {rg : Nat → Rg} {i k : Nat} (h : i < 3) : [rg 0 k, rg 1 k, rg 2 k].getD ((i : Nat) : Int).toNat 0 = rg i k := by
  rw [Int.toNat_natCast]
  match i, h with
  | 0, _ => rfl
  | 1, _ => rfl
  | 2, _ => rfl
theorem tcell {cs : List Cde} {ao co : Option Addr} {cx cn cc : Nat} {rg : Nat → Rg} {x0 x1 y0 y1 y2 : Int} {nm : List UInt8} {k : Nat} (h : k < 3) : cellS ⟨X, true⟩ 37 [.int .i64 x0, .str nm, .int .i64 y0, .int .i64 y1, .int .i64 y2, .int .i64 (rg 0 0), .int .i64 (rg 0 1), .int .i64 (rg 0 2), .int .i64 (rg 0 3), .int .i64 (rg 0 4), .int .i64 (rg 0 5), .int .i64 (rg 0 6), .int .i64 (rg 0 7), .int .i64 (rg 1 0), .int .i64 (rg 1 1), .int .i64 (rg 1 2), .int .i64 (rg 1 3), .int .i64 (rg 1 4), .int .i64 (rg 1 5), .int .i64 (rg 1 6), .int .i64 (rg 1 7), .int .i64 (rg 2 0), .int .i64 (rg 2 1), .int .i64 (rg 2 2), .int .i64 (rg 2 3), .int .i64 (rg 2 4), .int .i64 (rg 2 5), .int .i64 (rg 2 6), .int .i64 (rg 2 7), .sla ao cs.length cx, .int .i64 x1, .sla co cn cc] (5 + k * 8) = some (.agg [.int .i64 (rg k 0), .int .i64 (rg k 1), .int .i64 (rg k 2), .int .i64 (rg k 3), .int .i64 (rg k 4), .int .i64 (rg k 5), .int .i64 (rg k 6), .int .i64 (rg k 7)]) := by
  match k, h with
  | 0, _ => rfl
  | 1, _ => rfl
  | 2, _ => rfl
theorem gd_l {l : List Cde} {x : Cde} {m k : Nat} (hm : l.length = m) (h : k < m) : (l ++ [x]).getD k Cde.z = l.getD k Cde.z := by rw [List.getD_eq_getElem?_getD, List.getD_eq_getElem?_getD, List.getElem?_append_left (by omega)]
theorem gd_1 {l : List Cde} {x : Cde} {m : Nat} (hm : l.length = m) : (l ++ [x]).getD m Cde.z = x := by subst hm; simp [List.getD]
/-- the codes that were copied so far -/
structure NJ (cs : List Cde) (N : Nat) (z : List Cde × Nat) (w : World) (ks : List Nat) : Prop where
  m : z.1.length = z.2
  le : z.2 ≤ cs.length
  eq : ∀ k, k < z.2 → (z.1.getD k Cde.z).l = (cs.getD k Cde.z).l
  at_ : ∀ c ∈ z.1, c.lies w ks ∧ ∀ q : Addr, c.ao = some q → N ≤ q.block
theorem NJ.ok {cs : List Cde} {N : Nat} {z : List Cde × Nat} : Amb.OK (NJ cs N z) := fun w ks w' ks' h m hk => ⟨h.m, h.le, h.eq, fun c hc => ⟨LstAt.ok _ _ _ _ (h.at_ c hc).1 m hk, (h.at_ c hc).2⟩⟩
theorem NJ.i0 {cs : List Cde} {N : Nat} {w : World} {ks : List Nat} : NJ cs N ([], 0) w ks := ⟨rfl, Nat.zero_le _, fun k hk => (by cases hk), fun c hc => (by cases hc)⟩
theorem NJ.nx {cs : List Cde} {N : Nat} {z : List Cde × Nat} {w : World} {ks : List Nat} {ao : Option Addr} {cp : Nat} (h : NJ cs N z w ks) (hlt : z.2 < cs.length) (hl : LstAt ao 17 (cs.getD (((z.2 : Nat) : Int)).toNat Cde.z).l.length (fun zz => insS ((cs.getD (((z.2 : Nat) : Int)).toNat Cde.z).l.getD zz In.z)) w ks) (hf : ∀ q : Addr, ao = some q → N ≤ q.block) : NJ cs N (z.1 ++ [(⟨ao, (cs.getD (((z.2 : Nat) : Int)).toNat Cde.z).l, cp⟩ : Cde)], z.2 + 1) w ks := by
  refine ⟨by simp [h.m], by show z.2 + 1 ≤ _; omega, fun k hk => ?_, fun c hc => ?_⟩
  · by_cases e : k = z.2
    · subst e; show ((z.1 ++ [_]).getD z.2 Cde.z).l = _; rw [gd_1 h.m]; rfl
    · have hk' : k < z.2 := by have : k < z.2 + 1 := hk; omega
      show ((z.1 ++ [_]).getD k Cde.z).l = _; rw [gd_l h.m hk']; exact h.eq k hk'
  · rcases List.mem_append.1 hc with hc | hc
    · exact h.at_ c hc
    · rw [List.mem_singleton] at hc; subst hc; exact ⟨hl, hf⟩
theorem NJ.mv {cs : List Cde} {N : Nat} {z : List Cde × Nat} {w : World} {H H' l : Hp} {G : Gr} {m : List Nat} (h : NJ cs N z w (keys H G)) (hlen : H.length = G.length) (h1 : pickH H m = some l) (h2 : renH m H' = some l) : NJ cs N z w (keys H' (pickG m G)) := NJ.ok _ _ _ _ h (Mix.refl _ _) (fun b hb => .inl (keys_pick hlen h1 h2 b hb))
/-- a core in new memory: where it lies, what its threads are -/
def CoreJ (cs : List Cde) (rg : Nat → Rg) : SV → World → World → Prop := fun x w w' => ∃ (L : Loc) (bt cp : Nat) (cs' : List Cde), x = adr L.b L.pre.length ∧ OutC 61 10 cs.length (fun zz => rnT (cs'.getD zz Cde.z) ((iniL cs rg).getD zz Th.z)) L bt cp w.heap.size w' ∧ CoreOK cs' (iniL cs rg) cs.length ∧ (∀ k, k < cs.length → (cs'.getD k Cde.z).l = (cs.getD k Cde.z).l) ∧ ∀ ks, (∀ b, ks.contains b = true → b < w.heap.size ∨ b = L.b ∨ b = bt) → CodesAt cs' w' ks
theorem coreJ_of {cs : List Cde} {rg : Nat → Rg} {z : List Cde × Nat} {w w' : World} {ks : List Nat} {L : Loc} {bt cp : Nat} (hrc : ∀ c ∈ cs, RCd c.l) (hz : NJ cs w.heap.size z w' ks) (hz2 : z.2 = cs.length) (ho : OutC 61 10 z.2 (fun zz => rnT (z.1.getD zz Cde.z) ((iniL cs rg).getD zz Th.z)) L bt cp w.heap.size w') (h1 : ks.contains L.b = true) (h2 : ks.contains bt = true) : CoreJ cs rg (adr L.b L.pre.length) w w' := by
  have hm := hz.m
  refine ⟨L, bt, cp, z.1, rfl, by rw [← hz2]; exact ho, ⟨by rw [iniL_len]; omega, by omega, fun k hk => ?_, fun k hk => ?_⟩, fun k hk => hz.eq k (by omega), fun ks' hk c hc => ?_⟩
  · rw [hz.eq k (by omega)]; exact rcAt hrc (by omega)
  · rw [iniL_at (by omega), hz.eq k (by omega)]; exact setl_le (rcAt hrc (by omega)) (Nat.zero_le _)
  · obtain ⟨h3, h4⟩ := hz.at_ c hc
    refine ⟨h3.1, ?_⟩
    rcases h3.2 with h | ⟨b, o, e1, e2, e3, e4⟩
    · exact .inl h
    · refine .inr ⟨b, o, e1, e2, ?_, e4⟩
      have hb := h4 _ e1
      cases hq : ks'.contains b with
      | false => rfl
      | true =>
        rcases hk b hq with h | h | h
        · have : w.heap.size ≤ b := hb; omega
        · subst h; rw [h1] at e3; cases e3
        · subst h; rw [h2] at e3; cases e3
theorem newCore_ (cs : List Cde) (ao : Option Addr) (cx : Nat) (rg : Nat → Rg) (x0 : Int) (x1 : Int) (y0 : Int) (y1 : Int) (y2 : Int) (nm : List UInt8) (co : Option Addr) (cn : Nat) (cc : Nat) (hck : ckE cs = 0) : FnW Try.prog 6 [.agg [.int .i64 x0, .str nm, .int .i64 y0, .int .i64 y1, .int .i64 y2, .int .i64 (rg 0 0), .int .i64 (rg 0 1), .int .i64 (rg 0 2), .int .i64 (rg 0 3), .int .i64 (rg 0 4), .int .i64 (rg 0 5), .int .i64 (rg 0 6), .int .i64 (rg 0 7), .int .i64 (rg 1 0), .int .i64 (rg 1 1), .int .i64 (rg 1 2), .int .i64 (rg 1 3), .int .i64 (rg 1 4), .int .i64 (rg 1 5), .int .i64 (rg 1 6), .int .i64 (rg 1 7), .int .i64 (rg 2 0), .int .i64 (rg 2 1), .int .i64 (rg 2 2), .int .i64 (rg 2 3), .int .i64 (rg 2 4), .int .i64 (rg 2 5), .int .i64 (rg 2 6), .int .i64 (rg 2 7), .sla ao cs.length cx, .int .i64 x1, .sla co cn cc]] [] [] (fun w => LstAt ao 1 cs.length (fun zz => cdc (cs.getD zz Cde.z)) w [] ∧ CodesAt cs w []) (CoreJ cs rg) :=
 enterW (n := 50) (by kernel_rfl) Try.func6 rfl rfl rfl (fun i e h => by rw [List.getElem?_nil] at h; cases h) fun G w a h0 ho hp A => have hrc := rcd_of hck; N hX 18 A rfl rfl fun A => ADOPTD 14 hp.1 (by omega) A rfl rfl rfl rfl fun _ A => CALLI [2] CodesAt.ok hp.2 (uCheck_ cs cx (fun c hc => Nat.le_trans (hrc.2 c hc).n (by decide)) (fun hG hn => ucc_ cs cx (fun c hc => Nat.le_trans (bad1_le hG c hc) (by decide)) (by omega))) A rfl rfl rfl rfl rfl rfl rfl fun A => N hX 15 A rfl rfl fun A => forkN 20 A rfl
  (fun h1 A => absurd hck h1)
  (fun h1 A => N hX 13 A rfl rfl fun A => ADOPTD 23 hp.1 (by omega) A rfl rfl rfl rfl fun _ A => NILC 1 61 10 (fun zz => rnT (([] : List Cde).getD zz Cde.z) ((iniL cs rg).getD zz Th.z)) A rfl (fun z => ⟨_, rfl, rfl⟩) rfl fun A => LOOPJ (fun (z : List Cde × Nat) => [(1, .ptr 0 0), (3, .ptr 1 0), (23, .sl 2 cs.length cx), (24, .int .i64 ((cs.length : Nat) : Int)), (25, .int .i64 ((z.2 : Nat) : Int))]) (fun (z : List Cde × Nat) => [some (.blk [.int .i64 x0, .str nm, .int .i64 y0, .int .i64 y1, .int .i64 y2, .int .i64 (rg 0 0), .int .i64 (rg 0 1), .int .i64 (rg 0 2), .int .i64 (rg 0 3), .int .i64 (rg 0 4), .int .i64 (rg 0 5), .int .i64 (rg 0 6), .int .i64 (rg 0 7), .int .i64 (rg 1 0), .int .i64 (rg 1 1), .int .i64 (rg 1 2), .int .i64 (rg 1 3), .int .i64 (rg 1 4), .int .i64 (rg 1 5), .int .i64 (rg 1 6), .int .i64 (rg 1 7), .int .i64 (rg 2 0), .int .i64 (rg 2 1), .int .i64 (rg 2 2), .int .i64 (rg 2 3), .int .i64 (rg 2 4), .int .i64 (rg 2 5), .int .i64 (rg 2 6), .int .i64 (rg 2 7), .sla ao cs.length cx, .int .i64 x1, .sla co cn cc]), some (.blk [.sl 3 z.2 0]), some (.lst 1 cs.length (fun zz => cdc (cs.getD zz Cde.z))), some (.row 61 10 z.2 0 (fun zz => rnT (z.1.getD zz Cde.z) ((iniL cs rg).getD zz Th.z)))]) (fun z w' ks => NJ cs w.heap.size z w' ks) (fun z => cs.length - z.2) ([], 0) ((A.cut [1, 3, 23, 24, 25] rfl).mv 0 [0, 1, 3, 4] rfl rfl rfl rfl h0.symm) NJ.i0 fun z G a w hz hGl A B => have h00 := h0; have h0 := B.mem.len; N hX 6 A rfl rfl fun A => forkD 26 A rfl
    (fun h2 A => N hX 6 A rfl rfl fun A => have hlt : z.2 < cs.length := (by omega); have hlt3 : z.2 < 3 := (by omega); have hcd := (CodesAt.ok.now B hp.2).at hlt; N hX 9 A rfl (ok_d (by have := hz.le; omega) <| ok_d (by have := hz.le; omega) <| okE_nil) fun A => ANY hmo [.sla ((cs.getD ((((z.2 : Nat) : Int)).toNat) Cde.z).ao) ((cs.getD ((((z.2 : Nat) : Int)).toNat) Cde.z).l.length) ((cs.getD ((((z.2 : Nat) : Int)).toNat) Cde.z).cp), .sl 4 ((cs.getD ((((z.2 : Nat) : Int)).toNat) Cde.z).l.length) 0, .int .i64 ((z.2 : Nat) : Int), .ptr 0 5, .ix (.ptr 0 5) 8 3 ((z.2 : Nat) : Int) 0, .agg [.int .i64 (rg z.2 0), .int .i64 (rg z.2 1), .int .i64 (rg z.2 2), .int .i64 (rg z.2 3), .int .i64 (rg z.2 4), .int .i64 (rg z.2 5), .int .i64 (rg z.2 6), .int .i64 (rg z.2 7)], .agg [.sl 4 ((cs.getD ((((z.2 : Nat) : Int)).toNat) Cde.z).l.length) 0, .int .i64 0, .int .i64 (rg z.2 0), .int .i64 (rg z.2 1), .int .i64 (rg z.2 2), .int .i64 (rg z.2 3), .int .i64 (rg z.2 4), .int .i64 (rg z.2 5), .int .i64 (rg z.2 6), .int .i64 (rg z.2 7)], .ptr 5 0, .tup []] [1, 7, 8] [4, 5] 2 [([], [4, 5], [some (.blk [.int .i64 x0, .str nm, .int .i64 y0, .int .i64 y1, .int .i64 y2, .int .i64 (rg 0 0), .int .i64 (rg 0 1), .int .i64 (rg 0 2), .int .i64 (rg 0 3), .int .i64 (rg 0 4), .int .i64 (rg 0 5), .int .i64 (rg 0 6), .int .i64 (rg 0 7), .int .i64 (rg 1 0), .int .i64 (rg 1 1), .int .i64 (rg 1 2), .int .i64 (rg 1 3), .int .i64 (rg 1 4), .int .i64 (rg 1 5), .int .i64 (rg 1 6), .int .i64 (rg 1 7), .int .i64 (rg 2 0), .int .i64 (rg 2 1), .int .i64 (rg 2 2), .int .i64 (rg 2 3), .int .i64 (rg 2 4), .int .i64 (rg 2 5), .int .i64 (rg 2 6), .int .i64 (rg 2 7), .sla ao cs.length cx, .int .i64 x1, .sla co cn cc]), some (.blk [.sl 3 z.2 0]), some (.lst 1 cs.length (fun zz => cdc (cs.getD zz Cde.z))), some (.row 61 10 z.2 0 (fun zz => rnT (z.1.getD zz Cde.z) ((iniL cs rg).getD zz Th.z))), none, none]), ([1], [5], [some (.blk [.int .i64 x0, .str nm, .int .i64 y0, .int .i64 y1, .int .i64 y2, .int .i64 (rg 0 0), .int .i64 (rg 0 1), .int .i64 (rg 0 2), .int .i64 (rg 0 3), .int .i64 (rg 0 4), .int .i64 (rg 0 5), .int .i64 (rg 0 6), .int .i64 (rg 0 7), .int .i64 (rg 1 0), .int .i64 (rg 1 1), .int .i64 (rg 1 2), .int .i64 (rg 1 3), .int .i64 (rg 1 4), .int .i64 (rg 1 5), .int .i64 (rg 1 6), .int .i64 (rg 1 7), .int .i64 (rg 2 0), .int .i64 (rg 2 1), .int .i64 (rg 2 2), .int .i64 (rg 2 3), .int .i64 (rg 2 4), .int .i64 (rg 2 5), .int .i64 (rg 2 6), .int .i64 (rg 2 7), .sla ao cs.length cx, .int .i64 x1, .sla co cn cc]), some (.blk [.sl 3 z.2 0]), some (.lst 1 cs.length (fun zz => cdc (cs.getD zz Cde.z))), some (.row 61 10 z.2 0 (fun zz => rnT (z.1.getD zz Cde.z) ((iniL cs rg).getD zz Th.z))), some (.row 30 17 ((cs.getD ((((z.2 : Nat) : Int)).toNat) Cde.z).l.length) 0 (fun zz => insS ((cs.getD ((((z.2 : Nat) : Int)).toNat) Cde.z).l.getD zz In.z))), none]), ([7], [4], [some (.blk [.int .i64 x0, .str nm, .int .i64 y0, .int .i64 y1, .int .i64 y2, .int .i64 (rg 0 0), .int .i64 (rg 0 1), .int .i64 (rg 0 2), .int .i64 (rg 0 3), .int .i64 (rg 0 4), .int .i64 (rg 0 5), .int .i64 (rg 0 6), .int .i64 (rg 0 7), .int .i64 (rg 1 0), .int .i64 (rg 1 1), .int .i64 (rg 1 2), .int .i64 (rg 1 3), .int .i64 (rg 1 4), .int .i64 (rg 1 5), .int .i64 (rg 1 6), .int .i64 (rg 1 7), .int .i64 (rg 2 0), .int .i64 (rg 2 1), .int .i64 (rg 2 2), .int .i64 (rg 2 3), .int .i64 (rg 2 4), .int .i64 (rg 2 5), .int .i64 (rg 2 6), .int .i64 (rg 2 7), .sla ao cs.length cx, .int .i64 x1, .sla co cn cc]), some (.blk [.sl 3 z.2 0]), some (.lst 1 cs.length (fun zz => cdc (cs.getD zz Cde.z))), some (.row 61 10 z.2 0 (fun zz => rnT (z.1.getD zz Cde.z) ((iniL cs rg).getD zz Th.z))), none, some (.blk [.sla none 0 0, .int .i64 0, .int .i64 0, .int .i64 0, .int .i64 0, .int .i64 0, .int .i64 0, .int .i64 0, .int .i64 0, .int .i64 0])]), ([1, 7], [], [some (.blk [.int .i64 x0, .str nm, .int .i64 y0, .int .i64 y1, .int .i64 y2, .int .i64 (rg 0 0), .int .i64 (rg 0 1), .int .i64 (rg 0 2), .int .i64 (rg 0 3), .int .i64 (rg 0 4), .int .i64 (rg 0 5), .int .i64 (rg 0 6), .int .i64 (rg 0 7), .int .i64 (rg 1 0), .int .i64 (rg 1 1), .int .i64 (rg 1 2), .int .i64 (rg 1 3), .int .i64 (rg 1 4), .int .i64 (rg 1 5), .int .i64 (rg 1 6), .int .i64 (rg 1 7), .int .i64 (rg 2 0), .int .i64 (rg 2 1), .int .i64 (rg 2 2), .int .i64 (rg 2 3), .int .i64 (rg 2 4), .int .i64 (rg 2 5), .int .i64 (rg 2 6), .int .i64 (rg 2 7), .sla ao cs.length cx, .int .i64 x1, .sla co cn cc]), some (.blk [.sl 3 z.2 0]), some (.lst 1 cs.length (fun zz => cdc (cs.getD zz Cde.z))), some (.row 61 10 z.2 0 (fun zz => rnT (z.1.getD zz Cde.z) ((iniL cs rg).getD zz Th.z))), some (.row 30 17 ((cs.getD ((((z.2 : Nat) : Int)).toNat) Cde.z).l.length) 0 (fun zz => insS ((cs.getD ((((z.2 : Nat) : Int)).toNat) Cde.z).l.getD zz In.z))), some (.blk [.sla none 0 0, .int .i64 0, .int .i64 0, .int .i64 0, .int .i64 0, .int .i64 0, .int .i64 0, .int .i64 0, .int .i64 0, .int .i64 0])]), ([1, 7, 8], [], [some (.blk [.int .i64 x0, .str nm, .int .i64 y0, .int .i64 y1, .int .i64 y2, .int .i64 (rg 0 0), .int .i64 (rg 0 1), .int .i64 (rg 0 2), .int .i64 (rg 0 3), .int .i64 (rg 0 4), .int .i64 (rg 0 5), .int .i64 (rg 0 6), .int .i64 (rg 0 7), .int .i64 (rg 1 0), .int .i64 (rg 1 1), .int .i64 (rg 1 2), .int .i64 (rg 1 3), .int .i64 (rg 1 4), .int .i64 (rg 1 5), .int .i64 (rg 1 6), .int .i64 (rg 1 7), .int .i64 (rg 2 0), .int .i64 (rg 2 1), .int .i64 (rg 2 2), .int .i64 (rg 2 3), .int .i64 (rg 2 4), .int .i64 (rg 2 5), .int .i64 (rg 2 6), .int .i64 (rg 2 7), .sla ao cs.length cx, .int .i64 x1, .sla co cn cc]), some (.blk [.sl 3 z.2 0]), some (.lst 1 cs.length (fun zz => cdc (cs.getD zz Cde.z))), some (.row 61 10 z.2 0 (fun zz => rnT (z.1.getD zz Cde.z) ((iniL cs rg).getD zz Th.z))), some (.row 30 17 ((cs.getD ((((z.2 : Nat) : Int)).toNat) Cde.z).l.length) 0 (fun zz => insS ((cs.getD ((((z.2 : Nat) : Int)).toNat) Cde.z).l.getD zz In.z))), some (.blk [.sl 4 ((cs.getD ((((z.2 : Nat) : Int)).toNat) Cde.z).l.length) 0, .int .i64 0, .int .i64 (rg z.2 0), .int .i64 (rg z.2 1), .int .i64 (rg z.2 2), .int .i64 (rg z.2 3), .int .i64 (rg z.2 4), .int .i64 (rg z.2 5), .int .i64 (rg z.2 6), .int .i64 (rg z.2 7)])])] [[true, true, true, true, true, true, false, true, false], [false, false, true, true, true, true, true, true, false], [true, true, true, true, true, true, false, false, false], [false, false, true, true, true, true, true, false, true], [false, false, false, false, false, false, false, false, false]] A rfl rfl rfl rfl (by kernel_rfl) rfl (by kernel_rfl) ⟨⟨⟨_, _, _, _, 0, rfl, rfl, rfl, rfl, eff_at (eff_auto (X := ⟨_, true⟩) (out := .val _ _) hX rfl rfl) rfl⟩, ⟨⟨_, _, _, _, 1, rfl, rfl, rfl, rfl, put_at 4 (callIE [] LstAt.ok hcd (clone_ ((cs.getD ((((z.2 : Nat) : Int)).toNat) Cde.z).l) ((cs.getD ((((z.2 : Nat) : Int)).toNat) Cde.z).ao) ((cs.getD ((((z.2 : Nat) : Int)).toNat) Cde.z).cp) (Nat.le_trans (rcAt hrc.2 hlt).n (by decide))) rfl rfl rfl rfl rfl rfl rfl) rfl rfl (le0 h0 rfl) rfl rfl rfl rfl⟩, ⟨⟨_, _, _, _, 0, rfl, rfl, rfl, rfl, eff_at (eff_auto (X := ⟨_, true⟩) (out := .val _ _) hX rfl rfl) rfl⟩, ⟨⟨_, _, _, _, 0, rfl, rfl, rfl, rfl, eff_at (eff_auto (X := ⟨_, true⟩) (out := .val _ _) hX rfl rfl) rfl⟩, ⟨⟨_, _, _, _, 0, rfl, rfl, rfl, rfl, eff_at (eff_auto (X := ⟨_, true⟩) (out := .val _ _) hX rfl (ok_d (by have := hz.le; omega) <| okE_nil)) rfl⟩, ⟨⟨_, _, _, _, 0, rfl, rfl, rfl, rfl, eff_at (ldixE (k := z.2) hX rfl rfl rfl rfl (tcell hlt3)) rfl⟩, ⟨⟨_, _, _, _, 2, rfl, rfl, rfl, rfl, new_at 5 (X := ⟨_, true⟩) hX rfl rfl (le0 h0 rfl) rfl rfl rfl rfl⟩, trivial⟩⟩⟩⟩⟩⟩⟩, ⟨⟨⟨_, _, _, _, 1, rfl, rfl, rfl, rfl, eff_at (eff_auto (X := ⟨_, true⟩) (out := .val _ _) hX rfl rfl) rfl⟩, ⟨⟨_, _, _, _, 1, rfl, rfl, rfl, rfl, eff_at (eff_auto (X := ⟨_, true⟩) (out := .val _ _) hX rfl rfl) rfl⟩, ⟨⟨_, _, _, _, 1, rfl, rfl, rfl, rfl, eff_at (eff_auto (X := ⟨_, true⟩) (out := .val _ _) hX rfl (ok_d (by have := hz.le; omega) <| okE_nil)) rfl⟩, ⟨⟨_, _, _, _, 1, rfl, rfl, rfl, rfl, eff_at (ldixE (k := z.2) hX rfl rfl rfl rfl (tcell hlt3)) rfl⟩, ⟨⟨_, _, _, _, 1, rfl, rfl, rfl, rfl, eff_at (eff_auto (X := ⟨_, true⟩) (out := .val _ _) hX rfl rfl) rfl⟩, ⟨⟨_, _, _, _, 3, rfl, rfl, rfl, rfl, new_at 5 (X := ⟨_, true⟩) hX rfl rfl (le0 h0 rfl) rfl rfl rfl rfl⟩, trivial⟩⟩⟩⟩⟩⟩, ⟨⟨⟨_, _, _, _, 2, rfl, rfl, rfl, rfl, eff_at (eff_auto (X := ⟨_, true⟩) (out := .val _ _) hX rfl rfl) rfl⟩, ⟨⟨_, _, _, _, 3, rfl, rfl, rfl, rfl, put_at 4 (callIE [] LstAt.ok hcd (clone_ ((cs.getD ((((z.2 : Nat) : Int)).toNat) Cde.z).l) ((cs.getD ((((z.2 : Nat) : Int)).toNat) Cde.z).ao) ((cs.getD ((((z.2 : Nat) : Int)).toNat) Cde.z).cp) (Nat.le_trans (rcAt hrc.2 hlt).n (by decide))) rfl rfl rfl rfl rfl rfl rfl) rfl rfl (le0 h0 rfl) rfl rfl rfl rfl⟩, ⟨⟨_, _, _, _, 2, rfl, rfl, rfl, rfl, eff_at (eff_auto (X := ⟨_, true⟩) (out := .val _ _) hX rfl rfl) rfl⟩, ⟨⟨_, _, _, _, 2, rfl, rfl, rfl, rfl, eff_at (eff_auto (X := ⟨_, true⟩) (out := .val _ _) hX rfl rfl) rfl⟩, ⟨⟨_, _, _, _, 2, rfl, rfl, rfl, rfl, eff_at (eff_auto (X := ⟨_, true⟩) (out := .val _ _) hX rfl (ok_d (by have := hz.le; omega) <| okE_nil)) rfl⟩, ⟨⟨_, _, _, _, 2, rfl, rfl, rfl, rfl, eff_at (ldixE (k := z.2) hX rfl rfl rfl rfl (tcell hlt3)) rfl⟩, trivial⟩⟩⟩⟩⟩⟩, ⟨⟨⟨_, _, _, _, 3, rfl, rfl, rfl, rfl, eff_at (eff_auto (X := ⟨_, true⟩) (out := .val _ _) hX rfl rfl) rfl⟩, ⟨⟨_, _, _, _, 3, rfl, rfl, rfl, rfl, eff_at (eff_auto (X := ⟨_, true⟩) (out := .val _ _) hX rfl rfl) rfl⟩, ⟨⟨_, _, _, _, 3, rfl, rfl, rfl, rfl, eff_at (eff_auto (X := ⟨_, true⟩) (out := .val _ _) hX rfl (ok_d (by have := hz.le; omega) <| okE_nil)) rfl⟩, ⟨⟨_, _, _, _, 3, rfl, rfl, rfl, rfl, eff_at (ldixE (k := z.2) hX rfl rfl rfl rfl (tcell hlt3)) rfl⟩, ⟨⟨_, _, _, _, 3, rfl, rfl, rfl, rfl, eff_at (eff_auto (X := ⟨_, true⟩) (out := .val _ _) hX rfl rfl) rfl⟩, ⟨⟨_, _, _, _, 4, rfl, rfl, rfl, rfl, eff_at (eff_auto (X := ⟨_, true⟩) (out := .upd 5 [.sl 4 ((cs.getD ((((z.2 : Nat) : Int)).toNat) Cde.z).l.length) 0, .int .i64 0, .int .i64 (rg z.2 0), .int .i64 (rg z.2 1), .int .i64 (rg z.2 2), .int .i64 (rg z.2 3), .int .i64 (rg z.2 4), .int .i64 (rg z.2 5), .int .i64 (rg z.2 6), .int .i64 (rg z.2 7)] _) hX rfl rfl) rfl⟩, trivial⟩⟩⟩⟩⟩⟩, ⟨trivial, trivial⟩⟩⟩⟩⟩ fun A => N hX 2 A rfl rfl fun A => LAYC 4 5 (fun ao' cp' => [some (.blk [.int .i64 x0, .str nm, .int .i64 y0, .int .i64 y1, .int .i64 y2, .int .i64 (rg 0 0), .int .i64 (rg 0 1), .int .i64 (rg 0 2), .int .i64 (rg 0 3), .int .i64 (rg 0 4), .int .i64 (rg 0 5), .int .i64 (rg 0 6), .int .i64 (rg 0 7), .int .i64 (rg 1 0), .int .i64 (rg 1 1), .int .i64 (rg 1 2), .int .i64 (rg 1 3), .int .i64 (rg 1 4), .int .i64 (rg 1 5), .int .i64 (rg 1 6), .int .i64 (rg 1 7), .int .i64 (rg 2 0), .int .i64 (rg 2 1), .int .i64 (rg 2 2), .int .i64 (rg 2 3), .int .i64 (rg 2 4), .int .i64 (rg 2 5), .int .i64 (rg 2 6), .int .i64 (rg 2 7), .sla ao cs.length cx, .int .i64 x1, .sla co cn cc]), some (.blk [.sl 3 z.2 0]), some (.lst 1 cs.length (fun zz => cdc (cs.getD zz Cde.z))), some (.row 61 10 z.2 0 (fun zz => rnT (z.1.getD zz Cde.z) ((iniL cs rg).getD zz Th.z))), none, some (.blk [.sla ao' ((cs.getD ((((z.2 : Nat) : Int)).toNat) Cde.z).l.length) cp', .int .i64 0, .int .i64 (rg z.2 0), .int .i64 (rg z.2 1), .int .i64 (rg z.2 2), .int .i64 (rg z.2 3), .int .i64 (rg z.2 4), .int .i64 (rg z.2 5), .int .i64 (rg z.2 6), .int .i64 (rg z.2 7)])]) A rfl rfl rfl (fun _ _ => rfl) fun ao' cp' A hl hfr => have hz := NJ.ok.now A hz; have hfr : ∀ q : Addr, ao' = some q → _ ≤ q.block := fun q hq => (hfr q hq).elim (fun h => (B.keys_own _ h).elim (fun h => by cases h) id) (fun h => Nat.le_trans B.mix.size h); have B := B.trans A; have A := B.base; have h0 := B.mem.len; N hX 1 A rfl rfl fun A => CALLI [5] LstAt.ok hl (settle_ ((cs.getD ((((z.2 : Nat) : Int)).toNat) Cde.z).l) ao' cp' (0 : Int) (rg z.2) (rcAt hrc.2 hlt) (by omega)) A rfl rfl rfl rfl rfl rfl rfl fun A => N hX 2 A rfl rfl fun A => DRAWN hX hmo [] [(7, .sl 7 (z.2 + 1) 0, [some (.blk [.int .i64 x0, .str nm, .int .i64 y0, .int .i64 y1, .int .i64 y2, .int .i64 (rg 0 0), .int .i64 (rg 0 1), .int .i64 (rg 0 2), .int .i64 (rg 0 3), .int .i64 (rg 0 4), .int .i64 (rg 0 5), .int .i64 (rg 0 6), .int .i64 (rg 0 7), .int .i64 (rg 1 0), .int .i64 (rg 1 1), .int .i64 (rg 1 2), .int .i64 (rg 1 3), .int .i64 (rg 1 4), .int .i64 (rg 1 5), .int .i64 (rg 1 6), .int .i64 (rg 1 7), .int .i64 (rg 2 0), .int .i64 (rg 2 1), .int .i64 (rg 2 2), .int .i64 (rg 2 3), .int .i64 (rg 2 4), .int .i64 (rg 2 5), .int .i64 (rg 2 6), .int .i64 (rg 2 7), .sla ao cs.length cx, .int .i64 x1, .sla co cn cc]), some (.blk [.sl 3 z.2 0]), some (.lst 1 cs.length (fun zz => cdc (cs.getD zz Cde.z))), none, none, some (.blk [.sla ao' ((cs.getD ((((z.2 : Nat) : Int)).toNat) Cde.z).l.length) cp', .int .i64 (((setl (cs.getD ((((z.2 : Nat) : Int)).toNat) Cde.z).l ⟨((0 : Int)).toNat, rg z.2⟩).at_ : Nat) : Int), .int .i64 (((setl (cs.getD ((((z.2 : Nat) : Int)).toNat) Cde.z).l ⟨((0 : Int)).toNat, rg z.2⟩).r) 0), .int .i64 (((setl (cs.getD ((((z.2 : Nat) : Int)).toNat) Cde.z).l ⟨((0 : Int)).toNat, rg z.2⟩).r) 1), .int .i64 (((setl (cs.getD ((((z.2 : Nat) : Int)).toNat) Cde.z).l ⟨((0 : Int)).toNat, rg z.2⟩).r) 2), .int .i64 (((setl (cs.getD ((((z.2 : Nat) : Int)).toNat) Cde.z).l ⟨((0 : Int)).toNat, rg z.2⟩).r) 3), .int .i64 (((setl (cs.getD ((((z.2 : Nat) : Int)).toNat) Cde.z).l ⟨((0 : Int)).toNat, rg z.2⟩).r) 4), .int .i64 (((setl (cs.getD ((((z.2 : Nat) : Int)).toNat) Cde.z).l ⟨((0 : Int)).toNat, rg z.2⟩).r) 5), .int .i64 (((setl (cs.getD ((((z.2 : Nat) : Int)).toNat) Cde.z).l ⟨((0 : Int)).toNat, rg z.2⟩).r) 6), .int .i64 (((setl (cs.getD ((((z.2 : Nat) : Int)).toNat) Cde.z).l ⟨((0 : Int)).toNat, rg z.2⟩).r) 7)]), some (.blk [.sla ao' ((cs.getD ((((z.2 : Nat) : Int)).toNat) Cde.z).l.length) cp', .int .i64 (((setl (cs.getD ((((z.2 : Nat) : Int)).toNat) Cde.z).l ⟨((0 : Int)).toNat, rg z.2⟩).at_ : Nat) : Int), .int .i64 (((setl (cs.getD ((((z.2 : Nat) : Int)).toNat) Cde.z).l ⟨((0 : Int)).toNat, rg z.2⟩).r) 0), .int .i64 (((setl (cs.getD ((((z.2 : Nat) : Int)).toNat) Cde.z).l ⟨((0 : Int)).toNat, rg z.2⟩).r) 1), .int .i64 (((setl (cs.getD ((((z.2 : Nat) : Int)).toNat) Cde.z).l ⟨((0 : Int)).toNat, rg z.2⟩).r) 2), .int .i64 (((setl (cs.getD ((((z.2 : Nat) : Int)).toNat) Cde.z).l ⟨((0 : Int)).toNat, rg z.2⟩).r) 3), .int .i64 (((setl (cs.getD ((((z.2 : Nat) : Int)).toNat) Cde.z).l ⟨((0 : Int)).toNat, rg z.2⟩).r) 4), .int .i64 (((setl (cs.getD ((((z.2 : Nat) : Int)).toNat) Cde.z).l ⟨((0 : Int)).toNat, rg z.2⟩).r) 5), .int .i64 (((setl (cs.getD ((((z.2 : Nat) : Int)).toNat) Cde.z).l ⟨((0 : Int)).toNat, rg z.2⟩).r) 6), .int .i64 (((setl (cs.getD ((((z.2 : Nat) : Int)).toNat) Cde.z).l ⟨((0 : Int)).toNat, rg z.2⟩).r) 7)]), some (.row 61 10 (z.2 + 1) 0 (fun zz => rnT ((z.1 ++ [(⟨ao', (cs.getD (((z.2 : Nat) : Int)).toNat Cde.z).l, cp'⟩ : Cde)]).getD zz Cde.z) ((iniL cs rg).getD zz Th.z)))])] A rfl rfl rfl rfl (by kernel_rfl) ⟨trivial, ⟨appE (i := 3) hX (z.2 + 1) (fun zz => rnT ((z.1 ++ [(⟨ao', (cs.getD (((z.2 : Nat) : Int)).toNat Cde.z).l, cp'⟩ : Cde)]).getD zz Cde.z) ((iniL cs rg).getD zz Th.z)) rfl rfl rfl rfl (by omega) rfl (fun k hk => by show rnT _ _ = rnT _ _; rw [gd_l hz.m hk]) (by show rnT _ _ = _; rw [gd_1 hz.m, iniL_at hlt] <;> rfl) (fun z => ⟨_, rfl, rfl⟩), ⟨trivial, trivial⟩⟩⟩ trivial fun A => N hX 6 A rfl (ok_d (by have := hz.le; omega) <| okE_nil) fun A => ⟨((z.1 ++ [(⟨ao', (cs.getD (((z.2 : Nat) : Int)).toNat Cde.z).l, cp'⟩ : Cde)]), z.2 + 1), _, (by show cs.length - (z.2 + 1) < cs.length - z.2; omega), ((NJ.ok.now A hz).nx hlt (LstAt.ok.now A hl) hfr).mv (m := [0, 1, 2, 7]) A.mem.len rfl rfl, (((B.trans A).cut [1, 3, 23, 24, 25] rfl).mv 0 [0, 1, 2, 7] rfl rfl rfl rfl h00.symm)⟩)
    (fun h2 A => N hX 10 A rfl rfl fun A => have hz2 : z.2 = cs.length := (by have := hz.le; omega); match (B.trans A).giveCore 1 3 2 (by omega) rfl rfl rfl rfl with | ⟨L, bt, cp, A', ho, hk1, hk2⟩ => RETW hX A' rfl rfl rfl rfl (coreJ_of hrc.2 (NJ.ok.now A hz) hz2 ho hk1 hk2)))
end Go.Proofs.Ytiglneecmibgmaa
/- The law's able. -/
namespace Go.Proofs.Ytiglneecmibgmaa
open Go.RowKit
set_option linter.unusedVariables false
set_option linter.unusedSimpArgs false
set_option maxRecDepth 100000
set_option maxHeartbeats 2000000
set_option simprocs false
abbrev codA : List In := [(⟨1, 1, -1, -1, 5, 0, 0, -1, 0, 0, false, false, false, 0, 0, 0, false⟩ : In), (⟨5, -1, 1, -1, 0, 0, 0, -1, 8, 0, false, false, false, 0, 0, 0, false⟩ : In)]
abbrev csA (b : Nat) : List Cde := [⟨some ⟨b, 0, none⟩, codA, 2⟩]
abbrev rgA : Nat → Rg := fun _ _ => 0
theorem ckA_ (b : Nat) : ckE (csA b) = 0 := by rfl
theorem lstL_of {α : Type} (d : α) (cf : α → List SV) (s : Nat) (hs : ∀ x, (cf x).length = s) (hin : ∀ x, inL 0 (cf x) = true) (htot : ∀ x, ∃ vs, denL [] (cf x) = some vs) (L : List α) {b : Nat} {vs : List Value} {w : World} {ks : List Nat} (hl : Lies b 0 vs w ks) (hv : denL [] (L.flatMap cf) = some vs) : LstAt (some ⟨b, 0, none⟩) s L.length (fun zz => cf (L.getD zz d)) w ks := by
  refine ⟨fun k => htot _, .inr ⟨b, 0, rfl, hl.1, hl.2.1, fun k hk => ?_⟩⟩
  obtain ⟨r1, r2⟩ := blk_parts d cf s hs hin L k hk
  obtain ⟨r3, r4⟩ := tk_is r1
  rw [dp_is] at r3 r4
  have hd : denL [] (cf (L.getD k d)) = some ((vs.drop (k * s)).take s) := by rw [r3]; exact denL_take s (denL_drop _ hv)
  refine ⟨_, hd, fun q v hq => ?_⟩
  have hlt := (List.getElem?_eq_some_iff.1 hq).1
  simp only [List.length_take, List.length_drop] at hlt
  rw [List.getElem?_take_of_lt (by omega), List.getElem?_drop] at hq
  have := hl.2.2 _ v hq
  rwa [← Nat.add_assoc] at this
theorem preA {b1 b2 b3 lo : Nat} {cz c1 : List SV} {w : World} {ks : List Nat} (hA : Acc lo [(b3, cz), (b2, [.sla (some ⟨b1, 0, none⟩) 2 2]), (b1, c1)] w ks) (hc1 : denL [] c1 = denL [] (codA.flatMap insS)) : LstAt (some ⟨b2, 0, none⟩) 1 (csA b1).length (fun zz => cdc ((csA b1).getD zz Cde.z)) w [] ∧ CodesAt (csA b1) w [] := by
  have hA := hA.bare
  obtain ⟨_, v2, d2, l2⟩ := hA (b2, _) (.tail _ (.head _))
  obtain ⟨_, v1, d1, l1⟩ := hA (b1, _) (.tail _ (.tail _ (.head _)))
  refine ⟨lstL_of Cde.z cdc 1 (fun _ => rfl) (fun _ => rfl) (fun x => ⟨_, rfl⟩) (csA b1) l2 d2, fun c hc => ?_⟩
  rw [List.mem_singleton] at hc
  subst hc
  exact lstL_of In.z insS 17 (fun _ => rfl) (fun _ => rfl) (fun x => ⟨_, rfl⟩) codA l1 (hc1.symm.trans d1)
theorem fnI_ff {I : Amb} {P : Program} {f : Nat} {args : List SV} {H H2 : Hp} {x y : SV} (h : FnI I P f args H (Rt x H2)) (e : ∀ {G}, den G x = den G y) : FnI I P f args H (Rt y H2) := ⟨h.1, fun G w vs hM hI hv => Calls.mono (h.2 G w vs hM hI hv) fun e' w' ⟨x', H', F, v, ⟨q1, q2⟩, r⟩ => by subst q1; subst q2; exact ⟨y, _, F, v, ⟨rfl, rfl⟩, by rw [← e]; exact r.1, r.2⟩⟩
/-- a new core gets its places -/
theorem NEWC {P : Program} {n : Nat} {ks : List Nat} {G0 : Gr} {w0 : World} {T : List (Nat × SV)} {H : Hp} {G : Gr} {a : Act} {w : World} {Q : Exit → Act → World → Prop} {K : List Fr} {ops : Array Oper} {o : Oper} {rest : List Oper} {f : Nat} {args az : List SV} {pre : World → Prop} {cs : List Cde} {rg : Nat → Rg} {t : Nat} {H' : List Cde → Hp} (hf : FnW P f args [] [] pre (CoreJ cs rg)) (A : Sy n T H ks G0 w0 G a w) (hp : pre w) (h1 : callS n ops T o = some (f, az)) (h2 : renL [] args = some az) (hd : o.dst = some t)
    (hH : ∀ cs' : List Cde, H ++ [some (.row 61 10 cs.length 0 (fun zz => rnT (cs'.getD zz Cde.z) ((iniL cs rg).getD zz Th.z)))] ++ [some (.blk [.sl H.length cs.length 0])] = H' cs')
    (k : ∀ cs' {G a w}, CoreOK cs' (iniL cs rg) cs.length → (∀ k, k < cs.length → (cs'.getD k Cde.z).l = (cs.getD k Cde.z).l) → CodesAt cs' w (keys (H' cs') G) → Sy n ((t, .ptr (H.length + 1) 0) :: T) (H' cs') ks G0 w0 G a w → Goal P Q K (.ops ops rest) a w) : Goal P Q K (.ops ops (o :: rest)) a w := by
  refine CALLW [] hf A hp Off.nil (fun b h => by cases h) h1 h2 rfl rfl rfl fun {x a' w'} hm hJ A' => ?_
  obtain ⟨L, bt, cp, cs', rfl, ho, hok, heq, hcd⟩ := hJ
  rw [hd] at A'
  obtain ⟨G', A2, hk⟩ := A'.takeCore t ho A.mix.size (fun i e M q1 q2 q3 => by
    have := A.mem.ent i e q1
    rw [q2] at this
    exact EntOK.lt this q3) (by simp [extS, look, Nat.beq_refl]) (hH cs')
  refine k cs' hok heq (hcd _ hk) ⟨A2.size, A2.defers, fun q x hx => A2.get q x ?_, A2.mem, A2.pre, A2.own, A2.mix⟩
  unfold look at hx ⊢
  cases hb : Nat.beq t q with
  | true => rw [hb] at hx; exact hx
  | false =>
    rw [hb] at hx
    show look (extS T (some t) _) q = some x
    simp only [extS]
    unfold look
    rw [hb]
    exact hx
theorem aSpot0_ (b1 : Nat) (cs' : List Cde) (hok : CoreOK cs' (iniL (csA b1) rgA) 1) (he : (cs'.getD 0 Cde.z).l = codA) : FnI (CodesAt cs') Try.prog 7 [.ptr 0 0, .int .i64 0] [some (.blk [.sl 1 1 0]), some (.row 61 10 1 0 (fun zz => rnT (cs'.getD zz Cde.z) ((iniL (csA b1) rgA).getD zz Th.z)))] (Rt (.tup [.agg [.int .i64 0, .int .i64 255], .int .i64 5, .tt]) [some (.blk [.sl 1 1 0]), some (.row 61 10 1 0 (fun zz => rnT (cs'.getD zz Cde.z) ((iniL (csA b1) rgA).getD zz Th.z)))]) := by
  have h := cSpotI_ cs' (iniL (csA b1) rgA) 1 0 hok (by decide)
  refine fnI_ff h (fun {G} => ?_)
  rw [show (cs'.getD (0 : Int).toNat Cde.z).l = codA from he]; kernel_rfl
theorem aAt0_ (b1 : Nat) (cs' : List Cde) (hok : CoreOK cs' (iniL (csA b1) rgA) 1) (he : (cs'.getD 0 Cde.z).l = codA) : FnI (CodesAt cs') Try.prog 8 [.ptr 0 0, .int .i64 0] [some (.blk [.sl 1 1 0]), some (.row 61 10 1 0 (fun zz => rnT (cs'.getD zz Cde.z) ((iniL (csA b1) rgA).getD zz Th.z)))] (Rt (.int .i64 1) [some (.blk [.sl 1 1 0]), some (.row 61 10 1 0 (fun zz => rnT (cs'.getD zz Cde.z) ((iniL (csA b1) rgA).getD zz Th.z)))]) := by
  have h := cAtI_ cs' (iniL (csA b1) rgA) 1 0 (by decide)
  refine fnI_ff h.toI (fun {G} => ?_)
  rfl
theorem aPass0_ (b1 : Nat) (cs' : List Cde) (hok : CoreOK cs' (iniL (csA b1) rgA) 1) (he : (cs'.getD 0 Cde.z).l = codA) : FnI (CodesAt cs') Try.prog 9 [.ptr 0 0, .int .i64 0, .int .i64 0] [some (.blk [.sl 1 1 0]), some (.row 61 10 1 0 (fun zz => rnT (cs'.getD zz Cde.z) ((iniL (csA b1) rgA).getD zz Th.z)))] (Rt (.tt) [some (.blk [.sl 1 1 0]), some (.row 61 10 1 0 (fun zz => rnT (cs'.getD zz Cde.z) ((setTh cs' (iniL (csA b1) rgA) 0 0).getD zz Th.z)))]) := by
  have h := cPassI_ cs' (iniL (csA b1) rgA) 1 0 0 hok (by decide)
  refine fnI_ff h (fun {G} => ?_)
  rw [show (cs'.getD (0 : Int).toNat Cde.z).l = codA from he]; kernel_rfl
theorem aAt1_ (b1 : Nat) (cs' : List Cde) (hok : CoreOK cs' (iniL (csA b1) rgA) 1) (he : (cs'.getD 0 Cde.z).l = codA) : FnI (CodesAt cs') Try.prog 8 [.ptr 0 0, .int .i64 0] [some (.blk [.sl 1 1 0]), some (.row 61 10 1 0 (fun zz => rnT (cs'.getD zz Cde.z) ((setTh cs' (iniL (csA b1) rgA) 0 0).getD zz Th.z)))] (Rt (.int .i64 2) [some (.blk [.sl 1 1 0]), some (.row 61 10 1 0 (fun zz => rnT (cs'.getD zz Cde.z) ((setTh cs' (iniL (csA b1) rgA) 0 0).getD zz Th.z)))]) := by
  have h := cAtI_ cs' (setTh cs' (iniL (csA b1) rgA) 0 0) 1 0 (by decide)
  refine fnI_ff h.toI (fun {G} => ?_)
  unfold setTh; rw [show (cs'.getD (0 : Int).toNat Cde.z).l = codA from he]; kernel_rfl
theorem aPass1_ (b1 : Nat) (cs' : List Cde) (hok : CoreOK cs' (iniL (csA b1) rgA) 1) (he : (cs'.getD 0 Cde.z).l = codA) : FnI (CodesAt cs') Try.prog 9 [.ptr 0 0, .int .i64 0, .int .i64 0] [some (.blk [.sl 1 1 0]), some (.row 61 10 1 0 (fun zz => rnT (cs'.getD zz Cde.z) ((setTh cs' (iniL (csA b1) rgA) 0 0).getD zz Th.z)))] (Rt (.ff) [some (.blk [.sl 1 1 0]), some (.row 61 10 1 0 (fun zz => rnT (cs'.getD zz Cde.z) ((setTh cs' (setTh cs' (iniL (csA b1) rgA) 0 0) 0 0).getD zz Th.z)))]) := by
  have h := cPassI_ cs' (setTh cs' (iniL (csA b1) rgA) 0 0) 1 0 0 (hok.set (by decide) 0) (by decide)
  refine fnI_ff h (fun {G} => ?_)
  show den G (.bool (!(((((setTh cs' (iniL (csA b1) rgA) 0 0).getD (0 : Int).toNat Th.z).at_ : Nat) : Int) == (((cs'.getD (0 : Int).toNat Cde.z).l.length : Nat) : Int)))) = _; unfold setTh; rw [show (cs'.getD (0 : Int).toNat Cde.z).l = codA from he]; kernel_rfl
theorem aThr0_ (b1 : Nat) (cs' : List Cde) (hok : CoreOK cs' (iniL (csA b1) rgA) 1) (he : (cs'.getD 0 Cde.z).l = codA) : FnI (CodesAt cs') Try.prog 10 [.ptr 0 0] [some (.blk [.sl 1 1 0]), some (.row 61 10 1 0 (fun zz => rnT (cs'.getD zz Cde.z) ((setTh cs' (setTh cs' (iniL (csA b1) rgA) 0 0) 0 0).getD zz Th.z)))] (Rt (.int .i64 1) [some (.blk [.sl 1 1 0]), some (.row 61 10 1 0 (fun zz => rnT (cs'.getD zz Cde.z) ((setTh cs' (setTh cs' (iniL (csA b1) rgA) 0 0) 0 0).getD zz Th.z)))]) := by
  have h := cThreads_ cs' (setTh cs' (setTh cs' (iniL (csA b1) rgA) 0 0) 0 0) 1
  refine fnI_ff h.toI (fun {G} => ?_)
  rfl
theorem able_ : Fn Try.prog 4 [] [] (Rt .tt []) :=
 enterM (n := 57) (by kernel_rfl) Try.func4 rfl rfl rfl fun G w a h0 A => have B := A; have hA := Acc.nil (lo := w.heap.size) (w := w) (ks := keys [] G); have A := A.base; N hX 9 A rfl rfl fun A => BSCA [.int .i64 1, .int .i64 1, .int .i64 (-1), .int .i64 (-1), .int .i64 5, .int .i64 0, .int .i64 0, .int .i64 (-1), .int .i64 0, .int .i64 0, .ff, .ff, .ff, .int .i64 0, .int .i64 0, .int .i64 0, .ff, .int .i64 5, .int .i64 (-1), .int .i64 1, .int .i64 (-1), .int .i64 0, .int .i64 0, .int .i64 0, .int .i64 (-1), .int .i64 8, .int .i64 0, .ff, .ff, .ff, .int .i64 0, .int .i64 0, .int .i64 0, .ff] (X := ⟨_, true⟩) hX B hA A rfl rfl rfl rfl fun b1 B hA A =>
 BSCA [.sla (some ⟨b1, 0, none⟩) 2 2] (X := ⟨_, true⟩) hX B hA A rfl rfl rfl rfl fun b2 B hA A =>
 N hX 1 A rfl rfl fun A => BSCA [.int .i64 2, .int .i64 0, .int .i64 0, .int .i64 0, .int .i64 0] (X := ⟨_, true⟩) hX B hA A rfl rfl rfl rfl fun b3 B hA A =>
 N hX 8 A rfl rfl fun A => NEWC (H' := fun cs' => [some (.blk [.int .i64 2, .str [97], .int .i64 0, .int .i64 0, .int .i64 0, .int .i64 0, .int .i64 0, .int .i64 0, .int .i64 0, .int .i64 0, .int .i64 0, .int .i64 0, .int .i64 0, .int .i64 0, .int .i64 0, .int .i64 0, .int .i64 0, .int .i64 0, .int .i64 0, .int .i64 0, .int .i64 0, .int .i64 0, .int .i64 0, .int .i64 0, .int .i64 0, .int .i64 0, .int .i64 0, .int .i64 0, .int .i64 0, .sla (some ⟨b2, 0, none⟩) 1 1, .int .i64 1, .sla (some ⟨b3, 0, none⟩) 1 1]), some (.row 61 10 1 0 (fun zz => rnT (cs'.getD zz Cde.z) ((iniL (csA b1) rgA).getD zz Th.z))), some (.blk [.sl 1 1 0])]) (newCore_ (csA b1) (some ⟨b2, 0, none⟩) 1 rgA 2 1 0 0 0 [97] (some ⟨b3, 0, none⟩) 1 1 (ckA_ b1)) A (preA (hA.now A) rfl) rfl rfl rfl (fun _ => rfl) fun cs' {_ _ _} hok he hI A => have B := B.trans A; have A := B.base; have he := he 0 (Nat.zero_lt_succ _); N hX 7 A rfl rfl fun A => q_eff A rfl (pnilE rfl rfl rfl rfl rfl (by kernel_rfl)) fun A => N hX 8 A rfl rfl fun A => CALLI [2, 1] CodesAt.ok hI (aSpot0_ b1 cs' hok he) A rfl rfl rfl rfl rfl rfl rfl fun A => N hX 13 A rfl rfl fun A => CALLI [2, 1] CodesAt.ok hI (aAt0_ b1 cs' hok he) A rfl rfl rfl rfl rfl rfl rfl fun A => N hX 2 A rfl rfl fun A => forkE 26 A rfl
  (fun h1 A => N hX 8 A rfl rfl fun A => forkE 34 A rfl
   (fun h2 A => N hX 4 A rfl rfl fun A => forkE 38 A rfl
    (fun h3 A => N hX 1 A rfl rfl fun A => CALLI [2, 1] CodesAt.ok hI (aPass0_ b1 cs' hok he) A rfl rfl rfl rfl rfl rfl rfl fun A => N hX 3 A rfl rfl fun A => CALLI [2, 1] CodesAt.ok hI (aAt1_ b1 cs' hok he) A rfl rfl rfl rfl rfl rfl rfl fun A => N hX 3 A rfl rfl fun A => forkE 47 A rfl
     (fun h4 A => N hX 1 A rfl rfl fun A => CALLI [2, 1] CodesAt.ok hI (aPass1_ b1 cs' hok he) A rfl rfl rfl rfl rfl rfl rfl fun A => N hX 4 A rfl rfl fun A => CALLI [2, 1] CodesAt.ok hI (aThr0_ b1 cs' hok he) A rfl rfl rfl rfl rfl rfl rfl fun A => N hX 6 A rfl rfl fun A => RETN hX (B.trans A) rfl rfl rfl h0 rfl rfl rfl rfl rfl rfl)
     (fun h4 A => absurd rfl h4))
    (fun h3 A => absurd rfl h3))
   (fun h2 A => absurd rfl h2))
  (fun h1 A => absurd rfl h1)
end Go.Proofs.Ytiglneecmibgmaa
/- The ladder's Do. -/
namespace Go.Proofs.Ytiglneecmibgmaa
open Go.RowKit
set_option linter.unusedVariables false
set_option linter.unusedSimpArgs false
set_option maxRecDepth 100000
set_option maxHeartbeats 2000000
set_option simprocs false
def doB (lf i : Int) : Bool := !(((lf == 0) || decide (i < 0)) || decide (i > 1))
def doL (lf i : Int) : Int := bif doB lf i then lf - 1 else lf
def doA (a lf i : Int) : Int := bif doB lf i then a + (1 + i) else a
theorem doN {lf i : Int} (h : (((lf == 0) || (decide (i < 0))) || (decide (i > 1))) = true) : doB lf i = false := by unfold doB; rw [h]; rfl
theorem doY {lf i : Int} (h : (((lf == 0) || (decide (i < 0))) || (decide (i > 1))) = false) : doB lf i = true := by unfold doB; rw [h]; rfl
theorem do01 {lf i : Int} (h : (((lf == 0) || (decide (i < 0))) || (decide (i > 1))) = false) : lf ≠ 0 ∧ 0 ≤ i ∧ i ≤ 1 := by
  simp at h; omega
theorem do_ (lf : Int) (at_ : Int) (i : Int) (hl : 0 ≤ lf ∧ lf ≤ 15) (ha : 0 ≤ at_ ∧ at_ ≤ 1000) : Fn Try.prog 62 [.ptr 0 0, .int .i64 i] [some (.blk [.int .i64 lf, .int .i64 at_])] (Rt (.bool (doB lf i)) [some (.blk [.int .i64 (doL lf i), .int .i64 (doA at_ lf i)])]) :=
 enterM (n := 34) (by kernel_rfl) Try.func62 rfl rfl rfl fun G w a h0 A => N hX 23 A rfl rfl fun A => fork 17 A rfl
  (fun h1 A => N hX 7 A rfl rfl fun A => RETN hX A rfl rfl rfl h0 rfl rfl rfl rfl (by rw [doN h1]; rfl) (by unfold doL doA; rw [doN h1]; rfl))
  (fun h1 A => N hX 16 A rfl (ok_d (by have q := do01 h1; omega) <| okE_nil) fun A => N hX 14 A rfl (ok_d (by have q := do01 h1; omega) <| ok_d (by have q := do01 h1; omega) <| okE_nil) fun A => N hX 5 A rfl rfl fun A => RETN hX A rfl rfl rfl h0 rfl rfl rfl rfl (by rw [doY h1]; rfl) (by unfold doL doA; rw [doY h1]; rfl))
end Go.Proofs.Ytiglneecmibgmaa
/- mach.does: a call through an interface, with a deferred call that recovers. -/
namespace Go.Proofs.Ytiglneecmibgmaa
open Go.RowKit
set_option linter.unusedVariables false
set_option linter.unusedSimpArgs false
set_option maxRecDepth 100000
set_option maxHeartbeats 2000000
/-- the ladder's block -/
abbrev LadW (L : Loc) (lf a : Int) (w : World) : Prop := Blk w L.b (L.pre ++ [Value.int .i64 lf, Value.int .i64 a] ++ L.post).toArray L.t
theorem rec_idle (w : World) : CallsD Try.prog 18 #[] .returning w fun e u' w' => e = .returned (.tuple #[]) ∧ u' = .returning ∧ w' = w := by
  refine callsD_of_wpS Try.func18 rfl fun c₀ cs hu => ?_
  apply wpS_region
  simp [wpOpsS, go_sem, recoverD, hu, Try.ntmps18]
  cases c₀
  simp_all [bodyPostS, results, Try.results18]
theorem do_calls (L : Loc) (lf at_ i : Int) (hl : 0 ≤ lf ∧ lf ≤ 15) (ha : 0 ≤ at_ ∧ at_ ≤ 1000) (w : World) (hw : LadW L lf at_ w) : Calls Try.prog 62 #[.pointer (some ⟨L.b, L.pre.length, none⟩), .int .i64 i] w fun e w' => e = .returned (.bool (doB lf i)) ∧ Mix [L.b] w w' ∧ LadW L (doL lf i) (doA at_ lf i) w' := by
  have hM : Mem [some (.blk [.int .i64 lf, .int .i64 at_])] [some L] w := by
    refine ⟨rfl, fun k e he => ?_, fun k q e1 e2 L1 L2 hne h1 h2 => ?_⟩
    · cases k with
      | succ k => cases he
      | zero => cases he; exact ⟨L, _, rfl, rfl, hw⟩
    · cases k with
      | succ k => cases h1
      | zero => cases q with
        | zero => exact absurd rfl hne
        | succ q => cases h2
  refine Calls.mono ((do_ lf at_ i hl ha).2 [some L] w _ hM rfl) ?_
  rintro e w' ⟨y, H', F, v, ⟨rfl, rfl⟩, d1, rfl, hM2, hmix, _, _, _⟩
  have hF : F = [] := by
    have := hM2.len
    cases F with
    | nil => rfl
    | cons _ _ => simp at this
  subst hF
  obtain ⟨L2, vs', q1, q2, q3⟩ := hM2.ent 0 _ rfl
  cases q1
  cases q2
  cases d1
  exact ⟨rfl, hmix, q3⟩
theorem does_calls (L : Loc) (lf at_ i : Int) (hl : 0 ≤ lf ∧ lf ≤ 15) (ha : 0 ≤ at_ ∧ at_ ≤ 1000) (w : World) (hw : LadW L lf at_ w) : Calls Try.prog 11 #[.iface 24 (.pointer (some ⟨L.b, L.pre.length, none⟩)), .int .i64 i] w fun e w' => e = .returned (.bool (doB lf i)) ∧ Mix [L.b] w w' ∧ LadW L (doL lf i) (doA at_ lf i) w' := by
  have hm : ∀ w : World, (method 202 24 (.pointer (some ⟨L.b, L.pre.length, none⟩)) "Do").run Try.prog w = .ok (62, .pointer (some ⟨L.b, L.pre.length, none⟩)) w := fun _ => by kernel_rfl
  go_enter_defers Try.func11, Try.ntmps11
  go_wp2_with (go_at_call 62; refine (do_calls L lf at_ i hl ha w hw).mono ?_; rintro e w' ⟨rfl, hx, hy⟩)
  refine leaves_cons (f := 18) (args := #[]) (by simp) (by simp [go_sem]) ?_
  refine (rec_idle _).mono ?_
  rintro e u' w'' ⟨rfl, rfl, rfl⟩
  simp [Leaves, settle, results, Try.results11, go_sem]
  exact ⟨hx, hy⟩
end Go.Proofs.Ytiglneecmibgmaa
/- A block handed to a call by its address, and taken back; calls that turn such a block. -/
namespace Go.Proofs.Ytiglneecmibgmaa
open Go.RowKit
set_option linter.unusedVariables false
set_option linter.unusedSimpArgs false
set_option linter.unusedSectionVars false
section
variable {P : Program} {Y : Tb} {n : Nat} {ks : List Nat} {G0 : Gr} {w0 : World} {T : List (Nat × SV)} {H : Hp} {G : Gr} {a : Act} {w : World} {Q : Exit → Act → World → Prop} {K : List Fr} {pos : Pos} {ops : Array Oper} {o : Oper} {rest : List Oper} {pre : World → Prop}
theorem keysN (h : ∀ (i : Nat) (e : Ent), H[i]? = some (some e) → e.mut = false) (b : Nat) : (keys H G).contains b = false := by
  cases hz : (keys H G).contains b with
  | false => rfl
  | true =>
    obtain ⟨i, e', L, q1, q2, _⟩ := mem_keys.1 hz
    rw [h i e' q1] at q2; cases q2
theorem Sy.sameG (A : Sy n T H ks G0 w0 G a w) (hl : H.length = G0.length) : G = G0 := by
  obtain ⟨F, hF⟩ := A.pre
  have := A.mem.len
  have e : F = [] := by
    cases F with
    | nil => rfl
    | cons x F => rw [hF] at this; simp at this; omega
  rw [hF, e, List.append_nil]
theorem Off.now {ks' : List Nat} (h : Off H G0 ks') (A : Sy n T H ks G0 w0 G a w) (hl : H.length = G0.length) : Off H G ks' := by rw [A.sameG hl]; exact h
theorem CALLWX {f : Nat} {args az : List SV} {H' l : Hp} {ks' : List Nat} {y : SV} {R : World → Prop} (m : List Nat) (hf : FnW P f args H' ks' pre (fun x _ w' => x = y ∧ R w')) (A : Sy n T H ks G0 w0 G a w) (hp : pre w) (hoff : Off H G ks') (hk : ∀ b, ks'.contains b = true → ks.contains b = true ∨ w0.heap.size ≤ b) (h1 : callS n ops T o = some (f, az)) (h2 : renL m args = some az) (h3 : renH m H' = some l) (h4 : pickH H m = some l) (h5 : ndB m = true)
    (k : ∀ {a' w'}, Mix ks' w w' → R w' → Sy n (extS T o.dst y) H ks G0 w0 G a' w' → Goal P Q K (.ops ops rest) a' w') : Goal P Q K (.ops ops (o :: rest)) a w :=
  CALLW m hf A hp hoff hk h1 h2 h3 h4 h5 fun {x a' w'} hm hJ A' => by
    obtain ⟨rfl, hR⟩ := hJ
    exact k hm hR A'
theorem Off.frz {ks' : List Nat} {i e s m c s' m' : Nat} {f f' : Nat → List SV} (h : Off H G ks') (hi : lg H i = some (some (.row e s m c f))) : Off (stH H i (some (.lst s' m' f'))) G ks' := fun j x M q1 q2 q3 => by
  rw [stH_is] at q1
  rw [lg_is] at hi
  by_cases hj : j = i
  · subst hj; exact h j _ M hi q2 (fun h => h)
  · rw [List.getElem?_set_ne (Ne.symm hj)] at q1; exact h j x M q1 q2 q3
/-- a block is known by its address from here on -/
theorem GIVEB (i t : Nat) {cs : List SV} {vs : List Value} {H' : Hp} (A : Sy n T H ks G0 w0 G a w) (hi : lg H i = some (some (.blk cs))) (hc : denL [] cs = some vs) (ht : look T t = some (.ptr i 0)) (hH : stH H i none = H')
    (k : ∀ L : Loc, Sy n ((t, adr L.b L.pre.length) :: T) H' ks G0 w0 G a w → Blk w L.b (L.pre ++ vs ++ L.post).toArray L.t → (keys H' G).contains L.b = false → Off H' G [L.b] → (ks.contains L.b = true ∨ w0.heap.size ≤ L.b) → Goal P Q K pos a w) : Goal P Q K pos a w := by
  subst hH
  rw [lg_is] at hi
  obtain ⟨L, us, p1, p2, p3⟩ := A.mem.ent i _ hi
  have hGi : G[i]? = some (some L) := by
    cases hz : G[i]? with
    | none => rw [hz] at p1; cases p1
    | some p => rw [hz] at p1; simp only [Option.getD_some] at p1; rw [p1]
  have hu : us = vs := by
    have : denL G cs = some vs := by simpa using denL_mono G cs hc
    rw [this] at p2; exact (Option.some.inj p2).symm
  subst hu
  have hold : ∀ (j : Nat) (e : Ent), (stH H i none)[j]? = some (some e) → j ≠ i ∧ H[j]? = some (some e) := by
    intro j e h
    rw [stH_is] at h
    by_cases hj : j = i
    · subst hj; rw [List.getElem?_set_self (List.getElem?_eq_some_iff.1 hi).1] at h; cases h
    · rw [List.getElem?_set_ne (Ne.symm hj)] at h; exact ⟨hj, h⟩
  have hoff : Off (stH H i none) G [L.b] := fun j e M q1 q2 q3 => by
    obtain ⟨k1, k2⟩ := hold j e q1
    have := A.mem.sep i j _ e L M (Ne.symm k1) hi k2 rfl hGi q2 q3
    simp [Ne.symm this]
  refine k L ((A.hide i).slotEq t ht (by unfold den; rw [hGi]; rfl)) p3 ?_ hoff (A.own i _ L hi rfl hGi)
  cases hz : (keys (stH H i none) G).contains L.b with
  | false => rfl
  | true =>
    obtain ⟨j, e, M, g1, g2, g3, g4⟩ := mem_keys.1 hz
    have := hoff j e M g1 g3 (mut_full g2)
    rw [g4] at this
    simp at this
/-- a block known by its address gets a place -/
theorem TAKEB (t : Nat) {L : Loc} {cs : List SV} {vs : List Value} {H' : Hp} (A : Sy n T H ks G0 w0 G a w) (hb : Blk w L.b (L.pre ++ vs ++ L.post).toArray L.t) (hc : denL [] cs = some vs) (ht : look T t = some (adr L.b L.pre.length)) (hoff : Off H G [L.b]) (ho : w0.heap.size ≤ L.b) (hH : H ++ [some (.blk cs)] = H')
    (k : ∀ {G}, Sy n ((t, .ptr H.length 0) :: T) H' ks G0 w0 G a w → Goal P Q K pos a w) : Goal P Q K pos a w := by
  subst hH
  have A1 := A.takeEnt (L := L) (en := .blk cs) ⟨L, vs, rfl, by simpa using denL_mono G cs hc, hb⟩ rfl (fun i e M h1 h2 h3 => by
    have := hoff i e M h1 h2 h3
    intro e; rw [e] at this; simp at this) ho
  refine k (A1.slotEq t ht ?_)
  have hlen := A.mem.len
  unfold den
  rw [List.getElem?_append_right (by omega), hlen]
  simp
end
end Go.Proofs.Ytiglneecmibgmaa
/- How many picks a ladder does; mach.does as a contract by an address. -/
namespace Go.Proofs.Ytiglneecmibgmaa
open Go.RowKit
set_option linter.unusedVariables false
set_option linter.unusedSimpArgs false
set_option maxRecDepth 100000
set_option maxHeartbeats 2000000
def pkO (g : List Int) (n : Nat) (M : Int) (k : Nat) : Bool := (((decide ((k : Int) < ((n : Nat) : Int))) && (decide ((k : Int) < M))) && (decide (g.getD ((k : Int)).toNat 0 ≥ 0))) && (decide (g.getD ((k : Int)).toNat 0 ≤ 1))
def sumP (g : List Int) : Nat → Int
  | 0 => 0
  | k + 1 => sumP g k + (1 + g.getD ((k : Int)).toNat 0)
def pkF (g : List Int) (n : Nat) (M : Int) : Nat → Nat → Nat
  | 0, k => k
  | f + 1, k => if pkO g n M k = true then pkF g n M f (k + 1) else k
def pkW (g : List Int) (n : Nat) (M : Int) : Nat := pkF g n M n 0
/-- all picks up to there are done -/
structure PkI (g : List Int) (n : Nat) (M : Int) (k : Nat) : Prop where
  ok : ∀ j, j < k → pkO g n M j = true
  le : k ≤ n
  lm : (k : Int) ≤ M
  s : 0 ≤ sumP g k ∧ sumP g k ≤ 2 * (k : Int)
section
variable {g : List Int} {n k : Nat} {M : Int}
theorem pkO_lt (h : pkO g n M k = true) : (k : Int) < ((n : Nat) : Int) ∧ (k : Int) < M ∧ 0 ≤ g.getD ((k : Int)).toNat 0 ∧ g.getD ((k : Int)).toNat 0 ≤ 1 := by
  unfold pkO at h
  simp only [Bool.and_eq_true, decide_eq_true_eq] at h
  exact ⟨h.1.1.1, h.1.1.2, h.1.2, h.2⟩
theorem PkI.i0 (hM : 0 ≤ M) : PkI g n M 0 := ⟨fun j hj => absurd hj (Nat.not_lt_zero _), Nat.zero_le _, by simpa using hM, ⟨Int.le_refl _, Int.le_refl _⟩⟩
theorem PkI.nx (h : PkI g n M k) (hk : pkO g n M k = true) : PkI g n M (k + 1) := by
  obtain ⟨h1, h2, h3, h4⟩ := pkO_lt hk
  have hs := h.s
  refine ⟨fun j hj => ?_, by omega, by omega, ?_⟩
  · by_cases e : j = k
    · subst e; exact hk
    · exact h.ok j (by omega)
  · show 0 ≤ sumP g k + (1 + g.getD ((k : Int)).toNat 0) ∧ sumP g k + (1 + g.getD ((k : Int)).toNat 0) ≤ _
    omega
theorem pkF_at (hk : pkO g n M k = false) : ∀ f q, (∀ j, q ≤ j → j < k → pkO g n M j = true) → q ≤ k → k - q ≤ f → pkF g n M f q = k
  | 0, q, _, h1, h2 => by show q = k; omega
  | f + 1, q, h, h1, h2 => by
    unfold pkF
    by_cases e : q = k
    · subst e; rw [hk]; rfl
    · rw [if_pos (h q (Nat.le_refl _) (by omega))]
      exact pkF_at hk f (q + 1) (fun j hj hjk => h j (by omega) hjk) (by omega) (by omega)
theorem PkI.fin (h : PkI g n M k) (hk : pkO g n M k = false) : pkW g n M = k := pkF_at hk n 0 (fun j _ hj => h.ok j hj) (Nat.zero_le _) (by have := h.le; omega)
theorem pkF_congr {g' : List Int} (h : ∀ j, j < n → g'.getD j 0 = g.getD j 0) : ∀ f q, pkF g' n M f q = pkF g n M f q
  | 0, q => rfl
  | f + 1, q => by
    have e : pkO g' n M q = pkO g n M q := by
      unfold pkO
      by_cases hq : q < n
      · rw [Int.toNat_natCast, h q hq]
      · rw [decide_eq_false (show ¬ ((q : Int) < ((n : Nat) : Int)) by omega)]; rfl
    unfold pkF
    rw [e, pkF_congr h f (q + 1)]
theorem sum_congr {g' : List Int} : ∀ {m : Nat}, (∀ j, j < m → g'.getD j 0 = g.getD j 0) → sumP g' m = sumP g m
  | 0, _ => rfl
  | m + 1, h => by
    show sumP g' m + (1 + g'.getD ((m : Int)).toNat 0) = sumP g m + (1 + g.getD ((m : Int)).toNat 0)
    rw [sum_congr fun j hj => h j (by omega), Int.toNat_natCast, h m (by omega)]
theorem do_ok (h : PkI g n M k) (h1 : (k : Int) < ((n : Nat) : Int)) : doB (M - (k : Int)) (g.getD ((k : Int)).toNat 0) = pkO g n M k := by
  have hl := h.lm
  unfold doB pkO
  rw [decide_eq_true h1]
  by_cases hM : (k : Int) < M
  · rw [decide_eq_true hM, show ((M - (k : Int)) == 0) = false from (by simp; omega)]
    by_cases a : g.getD ((k : Int)).toNat 0 < 0
    · rw [decide_eq_true a, decide_eq_false (show ¬ g.getD ((k : Int)).toNat 0 ≥ 0 by omega)]; rfl
    · rw [decide_eq_false a, decide_eq_true (show g.getD ((k : Int)).toNat 0 ≥ 0 by omega)]
      by_cases b : g.getD ((k : Int)).toNat 0 > 1
      · rw [decide_eq_true b, decide_eq_false (show ¬ g.getD ((k : Int)).toNat 0 ≤ 1 by omega)]; rfl
      · rw [decide_eq_false b, decide_eq_true (show g.getD ((k : Int)).toNat 0 ≤ 1 by omega)]; rfl
  · rw [decide_eq_false hM, show ((M - (k : Int)) == 0) = true from (by simp; omega)]
    rfl
end
theorem does_ (L : Loc) (lf at_ i : Int) (hl : 0 ≤ lf ∧ lf ≤ 15) (ha : 0 ≤ at_ ∧ at_ ≤ 1000) : FnW Try.prog 11 [.v (.iface 24 (.pointer (some ⟨L.b, L.pre.length, none⟩))), .int .i64 i] [] [L.b] (LadW L lf at_) (fun x _ w' => x = .bool (doB lf i) ∧ LadW L (doL lf i) (doA at_ lf i) w') :=
  ⟨by kernel_rfl, fun i e h => (by rw [List.getElem?_nil] at h; cases h), fun G w vs hM _ hp hv => by
    cases hv
    refine Calls.mono (does_calls L lf at_ i hl ha w hp) ?_
    rintro e w' ⟨rfl, hx, hy⟩
    exact ⟨_, _, rfl, rfl, hx, rfl, hy⟩⟩
end Go.Proofs.Ytiglneecmibgmaa
