/- Appends of lists, by what they do; a result said otherwise. -/
import Derived.Test.YtbghlhhoafkmgaaDoorCondJudgesP5
namespace Go.Proofs.YtbghlhhoafkmgaaDoor
open Go.RowKit
set_option linter.unusedVariables false
set_option linter.unusedSimpArgs false
set_option linter.unusedSectionVars false
section
variable {P : Program} {Y : Tb} {n : Nat} {ks : List Nat} {G0 : Gr} {w0 : World} {T : List (Nat × SV)} {H : Hp} {ops : Array Oper} {o : Oper}
theorem eff_say {x y : SV} {H' : Hp} (e : ∀ G, den G x = den G y) (h : EffOK P n ops ks G0 w0 T H o x H') : EffOK P n ops ks G0 w0 T H o y H' := fun G a w A =>
  does_mono (h G a w A) fun v w' ⟨F, h1, h2⟩ => ⟨F, by rw [← e]; exact h1, h2⟩
theorem aplE {i e s m c nn cc mm mb mc : Nat} {f g : Nat → List SV} (hY : Y.ok P = true) (m' : Nat) (f' : Nat → List SV) (h : aplS Y n ops T H o = some ((i, e, s, m, c), f, (mm, mb, mc), g, (nn, cc))) (h1 : nn = m) (h2 : cc = c) (hc0 : c = 0) (hmb : mm ≤ mb) (hb : m ≤ 1000000) (hb2 : mm ≤ 1000000) (hm' : m' = m + mm)
    (hf : ∀ k, k < m → f' k = f k) (hn : ∀ k, k < mm → f' (m + k) = g k) (htot : ∀ k, ∃ vs, denL [] (f' k) = some vs ∧ vs.length = s) (hone : ∀ k, k < mm → ∃ E, onesS (g k) = some E ∧ okE E) :
    EffOK P n ops ks G0 w0 T H o (.sl H.length m' 0) (stH H i none ++ [some (.row e s m' 0 f')]) := by
  subst hm'
  intro G a w A
  obtain ⟨d, op, ty, pos, af, gd⟩ := o
  unfold aplS at h
  split at h
  · next hd =>
    split at h
    · next hgd =>
      have hw := gd_run (gd := none) A hgd
      split at h
      · next ca hca =>
        simp only at hca
        subst hca
        obtain ⟨callee, args, ats⟩ := ca
        simp only at h
        split at h
        · next x y t t' ha ht =>
          split at h
          · next i' nn' cc' j mm' mc' hx hy htt =>
            split at h
            · next e' s' m' c1 f1 s2 mb' g' ti hi hj hti =>
              split at h
              · next e2 s3 b hel =>
                split at h
                · next hck =>
                  cases h
                  subst h1; subst h2
                  simp only [Bool.and_eq_true] at hck
                  obtain ⟨⟨⟨c1, c2⟩, c3⟩, c4⟩ := hck
                  have e1 := Nat.eq_of_beq_eq_true c1
                  have e2' := Nat.eq_of_beq_eq_true c2
                  have e3 := Nat.eq_of_beq_eq_true c3
                  have e4 := Nat.eq_of_beq_eq_true htt
                  have hby := Nat.le_of_ble_eq_true c4
                  subst e1; subst e2'; subst e3; subst e4
                  rw [lg_is] at hi
                  have hargs : args = #[x, y] := by have := congrArg List.toArray ha; simpa using this
                  have hats : ats = #[t, t] := by have := congrArg List.toArray ht; simpa using this
                  subst hargs; subst hats
                  obtain ⟨r1, r2, xs, r3, r4⟩ := A.mem.ent i _ hi
                  obtain ⟨g1, g2⟩ := parts_at A.mem hj
                  obtain ⟨ie, z, f1', f2', f3', f4', f5', f6', f7'⟩ := elem_facts (ti_elm (Tb.at hY hti) hel)
                  have hvx := A.ev hx
                  have hvy := A.ev hy
                  obtain ⟨q, hq⟩ : ∃ q, G[i]? = some q := by
                    have : i < G.length := by rw [← A.mem.len]; exact (List.getElem?_eq_some_iff.1 hi).1
                    exact ⟨G[i], by simp [this]⟩
                  rw [hq] at r2 r4
                  simp only [Option.getD_some] at r2 r4
                  unfold den at hvx hvy
                  rw [hq] at hvx
                  simp only [Option.some.injEq] at hvx
                  have htg : ∀ k, k < mm → ∃ vs, denL [] (g k) = some vs ∧ vs.length = s := fun k hk => by rw [← hn k hk]; exact htot _
                  obtain ⟨ys, hys⟩ := flat_ex (f := fun k => f' (nn + k)) (fun k => htot _) mm
                  have hyl := flat_len (f := fun k => f' (nn + k)) (fun k => htot _) hys
                  have hflat : flatV f' (nn + mm) = some (xs ++ ys) := flat_more mm nn (by rw [flat_congr hf]; exact r3) hys
                  have hob : Value.ownBlock (.slice (q.map fun L => ⟨L.b, L.pre.length, none⟩) nn (cc + rm q)) = q.map (·.b) := by cases q <;> rfl
                  by_cases h0 : mm = 0
                  · subst h0
                    cases hys
                    have hsrc : Src P ie.size t (a.eval y) 0 [] w := by
                      split at hvy
                      · next p hp =>
                        rw [← Option.some.inj hvy]
                        cases p with
                        | none => exact Src.ofNil w f1' mc
                        | some L => exact Src.ofSlice w f1' _ 0 _ [] (by simp) (fun j u hj => by simp at hj) (fun u hu => by cases hu)
                      · cases hvy
                    have hnc : nn ≤ cc + rm q := by
                      rcases r4.2 with ⟨q1, q2⟩ | ⟨g, cap, cur, q1, _, _, q4, _⟩
                      · omega
                      · cases q <;> simp at q1; omega
                    have hr := run_append_nothing (P := P) w t t ty e ie f1' f2' (q.map fun L => ⟨L.b, L.pre.length, none⟩) nn (cc + rm q) hnc _ hsrc
                    refine does_val (v := .slice (q.map fun L => ⟨L.b, L.pre.length, none⟩) nn (cc + rm q)) (w' := w) hw ?_ ?_
                    · unfold execOp
                      simp only [resolve, invoke, builtin, Sem.run_bind, Sem.run_pure, Result.andThen_ok, List.map_toArray, List.map_cons, List.map_nil, ← hvx, hr]
                    · have A2 := A.rowMove (w' := w) (p' := q) (m' := nn + 0) (c' := cc) (xs' := xs ++ []) hi ⟨rfl, rfl, rfl, Nat.le_refl _, fun _ _ _ => rfl⟩ (by simpa using r4) r2 (.inl (by rw [hq]; rfl)) hflat htot
                      subst hc0
                      refine ⟨_, ?_, A2.ms⟩
                      unfold den
                      rw [List.getElem?_append_right (by rw [A.mem.len]; exact Nat.le_refl _), A.mem.len]
                      simp
                  · obtain ⟨L, vs0, b1, _⟩ := g2 0 (by omega)
                    rw [get_loc b1] at hvy
                    simp only [Option.map_some, Option.some.injEq] at hvy
                    have hmul : (nn + mm) * b ≤ 2000000 * 10000 := Nat.mul_le_mul (by omega) hby
                    obtain ⟨v', w', hr, k1, k2, _, k4⟩ := run_append_own_at (P := P) w 0 t ty e ie z s b f1' f2' f3' f4' f5' f6' f7' _ nn xs r4 ⟨L.b, L.pre.length, none⟩ mm (mc + rm (some L)) ys hyl
                      (fun j u hj => by
                        obtain ⟨k, r, us, d1, d2, d3, d4⟩ := flat_inv (f := fun k => f' (nn + k)) (fun k => htot _) hys j u hj
                        obtain ⟨L', us', b1', b2', b3'⟩ := g2 k (by omega)
                        rw [b1] at b1'; cases b1'
                        rw [hn k d1, b2'] at d2
                        cases d2
                        have := b3' r u d3
                        rw [Addr.add_mid, d4, ← Nat.add_assoc]
                        exact this)
                      (fun u hu => by
                        obtain ⟨j, hj⟩ := List.mem_iff_getElem?.1 hu
                        obtain ⟨k, r, us, d1, d2, d3, d4⟩ := flat_inv (f := fun k => f' (nn + k)) (fun k => htot _) hys j u hj
                        rw [hn k d1] at d2
                        obtain ⟨E, o1, o2⟩ := hone k d1
                        exact List.all_eq_true.1 (onesS_spec o1 o2 d2) u (List.mem_of_getElem? d3))
                      (by simp only [maxLen]; omega) (by omega) (Nat.zero_le _)
                    obtain ⟨p', o1, o2, o3⟩ := own_split k1
                    rw [hob] at k2 k4
                    rw [o3] at k4
                    rw [o1] at k1
                    refine does_val (v := v') (w' := w') hw ?_ ?_
                    · unfold execOp
                      simp only [resolve, invoke, builtin, Sem.run_bind, Sem.run_pure, Result.andThen_ok, List.map_toArray, List.map_cons, List.map_nil, ← hvx, ← hvy, hr]
                    · have A2 := A.rowMove (p' := p') hi (by rw [hq]; exact k2) k1 o2 (by rw [hq]; exact k4) hflat htot
                      refine ⟨_, ?_, A2.ms⟩
                      unfold den
                      rw [List.getElem?_append_right (by rw [A.mem.len]; exact Nat.le_refl _), A.mem.len]
                      simp [o1]
                · cases h
              · cases h
            · cases h
          · cases h
        · cases h
      · cases h
    · cases h
  · cases h
end
end Go.Proofs.YtbghlhhoafkmgaaDoor
