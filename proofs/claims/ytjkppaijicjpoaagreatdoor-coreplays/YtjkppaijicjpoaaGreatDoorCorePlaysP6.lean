/- CorePlays, part 6: the engine, contracts, theory. -/
import Derived.Test.YtjkppaijicjpoaaGreatDoorCorePlaysP5
namespace Go.Proofs.YtjkppaijicjpoaaGreatDoor.Mc
open Go.RowKit
set_option linter.unusedVariables false
set_option linter.unusedSimpArgs false
set_option maxRecDepth 100000
set_option maxHeartbeats 2000000
def mutB (H : Hp) : Bool := H.all fun x => match x with | some e => e.mut | none => true
theorem keys_lt {H : Hp} {G : Gr} {w : World} (h : Mem H G w) {b : Nat} (hb : (keys H G).contains b = true) : b < w.heap.size := by
 obtain ⟨i, e, L, h1, h2, h3, h4⟩ := mem_keys.1 hb
 have := h.ent i e h1
 rw [h3] at this
 rw [← h4]; exact EntOK.lt this (mut_full h2)
def ImmLt (H : Hp) (G : Gr) (N : Nat) : Prop := ∀ (i : Nat) (e : Ent) (L : Loc), H[i]? = some (some e) → e.mut = false → G[i]? = some (some L) → ¬ e.empty → L.b < N
theorem ltN {H0 H : Hp} {G0 G : Gr} {w0 : World} (k : Nat) (hM : Mem H0 G0 w0) (hp : ∃ F, G = G0 ++ F) (ht : H.take k = H0.take k) (hm : mutB (H.drop k) = true) : ImmLt H G w0.heap.size := fun i e L h1 h2 h3 h4 => by
 by_cases hi : i < k
 ·have h5 : H0[i]? = some (some e) := by
   have : (H.take k)[i]? = (H0.take k)[i]? := by rw [ht]
   rw [List.getElem?_take_of_lt hi, List.getElem?_take_of_lt hi] at this
   rw [← this]; exact h1
  obtain ⟨F, rfl⟩ := hp
  rw [List.getElem?_append_left (by rw [← hM.len]; exact (List.getElem?_eq_some_iff.1 h5).1)] at h3
  have h6 := hM.ent i e h5
  rw [h3] at h6
  exact EntOK.lt h6 h4
 ·exfalso
  have h5 : (H.drop k)[i - k]? = some (some e) := by rw [List.getElem?_drop, show k + (i - k) = i by omega]; exact h1
  have := List.all_eq_true.1 hm _ (List.mem_of_getElem? h5)
  simp only at this; rw [h2] at this; cases this
section
variable {cs cs2 : List Cde} {ts : List Th} {tr z : List Tr} {N nn : Nat} {w w' : World} {ks : List Nat}
theorem JT.off {H : Hp} {G : Gr} (h : JT cs ts tr N w (keys H G)) (hlt : ImmLt H G N) {j : Nat} (hj : j < tr.length) : Off H G (tr.getD j Tr.z).bl := fun i e L q1 q2 q3 => by
 cases hz : (tr.getD j Tr.z).bl.contains L.b with
 | false => rfl
 | true =>
  obtain ⟨h1, h2⟩ := h.lo j hj _ hz
  cases hm : e.mut with
  | true => rw [mem_keys.2 ⟨i, e, L, q1, hm, q2, rfl⟩] at h2; cases h2
  | false => have := hlt i e L q1 hm q2 q3; omega
theorem JT.mixo (h : JT cs ts tr N w ks) {bs : List Nat} (m : Mix bs w w') (hd : ∀ k, k < tr.length → ∀ b, (tr.getD k Tr.z).bl.contains b = true → bs.contains b = false) : JT cs ts tr N w' ks := ⟨fun k hk => outT_mix (h.out k hk) m (hd k hk), h.len, h.lo, h.ap⟩
theorem JT.get (h : JT cs ts tr N w ks) {j : Nat} (hj : j < tr.length) {s : Th} (e : ts.getD j Th.z = s) {L : Loc} (eL : (tr.getD j Tr.z).L = L) : OutT L (thC (.sla (cs.getD j Cde.z).ao (cs.getD j Cde.z).l.length (cs.getD j Cde.z).cp) s.r ((s.at_ : Nat) : Int)) (tr.getD j Tr.z).pb (tr.getD j Tr.z).ps w := by
 subst e; subst eL; exact h.out j hj
theorem JT.look2 (h : JT cs ts tr N w ks) (hc2 : CodesAt cs2 w ks) (hc : CodesAt cs w ks) (hn : tr.length = nn) (hl : nn ≤ cs.length) (heq : ∀ k, k < nn → (cs2.getD k Cde.z).l = (cs.getD k Cde.z).l) (hL : ∀ k, k < nn → (tr.getD k Tr.z).L = (z.getD k Tr.z).L) : LkI cs2 ts nn (fun k => (z.getD k Tr.z).L.b) (fun k => (z.getD k Tr.z).L.pre.length) (fun k => (cs.getD k Cde.z).ao) (fun k => (cs.getD k Cde.z).cp) (fun k => pbV (tr.getD k Tr.z).pb (tr.getD k Tr.z).ps.length) w ks :=
 ⟨hc2, fun k hk => by
  rw [heq k hk]
  have h1 := (h.out k (by omega)).lst (h.lo k (by omega) _ (by simp)).2
  rw [hL k hk] at h1
  exact ⟨h1, hc.at (by omega)⟩⟩
theorem codes_on (hC : CodesAt cs w ks) {n : Nat} {T : List (Nat × SV)} {H : Hp} {G0 G : Gr} {a : Act} (A : Sy n T H ks G0 w G a w') {k : Nat} (hk : k < cs.length) {bs : List Nat} (hb : ∀ b, bs.contains b = true → w.heap.size ≤ b) : CdAt (cs.getD k Cde.z).ao (cs.getD k Cde.z).l w' bs :=
 LstAt.ok _ _ _ _ (hC.at hk) A.mix fun b h => .inr (hb b h)
theorem JT.one (jt : JT cs ts tr N w ks) (ln : tr.length = nn) (hl : ∀ k, k < nn → (tr.getD k Tr.z).L = (z.getD k Tr.z).L) {j : Nat} (hj : j < nn) (hts : ts.length = nn) (hN : N ≤ w.heap.size) (hks : ∀ b, ks.contains b = true → b < w.heap.size) {s' : Th} {x : SV} (m : Mix (tr.getD j Tr.z).bl w w') (hJ : ThJ (tr.getD j Tr.z).L (cs.getD j Cde.z).l (cs.getD j Cde.z).ao (cs.getD j Cde.z).cp s' (tr.getD j Tr.z).pb x w w') :
  ∃ tr', JT cs (ts.set j s') tr' N w' ks ∧ tr'.length = nn ∧ ∀ k, k < nn → (tr'.getD k Tr.z).L = (z.getD k Tr.z).L := by
 obtain ⟨pb, ps, h⟩ := jt.set (by omega) (by omega) hN hks m hJ
 refine ⟨_, h, by rw [List.length_set]; exact ln, fun k hk => ?_⟩
 by_cases e : k = j
 ·subst e; rw [gd_eq (by omega)]; exact hl k hk
 ·rw [gd_ne e]; exact hl k hk
end
theorem GIVEL {P : Program} {n : Nat} {ks : List Nat} {G0 : Gr} {w0 : World} {T : List (Nat × SV)} {H : Hp} {G : Gr} {a : Act} {w : World} {Q : Prop} (i t : Nat) {cs : List SV} {vs : List Value} {H' : Hp} (A : Sy n T H ks G0 w0 G a w) (hi : lg H i = some (some (.blk cs))) (hc : denL [] cs = some vs) (ht : look T t = some (.ptr i 0)) (hH : stH H i none = H')
  (k : ∀ L : Loc, Sy n ((t, adr L.b L.pre.length) :: T) H' ks G0 w0 G a w → Blk w L.b (L.pre ++ vs ++ L.post).toArray L.t → (keys H' G).contains L.b = false → Off H' G [L.b] → (ks.contains L.b = true ∨ w0.heap.size ≤ L.b) → G[i]? = some (some L) → Q) : Q := by
 subst hH
 rw [lg_is] at hi
 obtain ⟨L, us, p1, p2, p3⟩ := A.mem.ent i _ hi
 have hGi : G[i]? = some (some L) := by
  cases hz : G[i]? with
  | none => rw [hz] at p1; cases p1
  | some p => rw [hz] at p1; simp only [Option.getD_some] at p1; rw [p1]
 have hu : us = vs := by
  have : denL G cs = some vs := by simpa using denL_mono G cs hc
  rw [this] at p2; exact (Option.some.inj p2).symm
 subst hu
 have hold : ∀ (j : Nat) (e : Ent), (stH H i none)[j]? = some (some e) → j ≠ i ∧ H[j]? = some (some e) := by
  intro j e h
  rw [stH_is] at h
  by_cases hj : j = i
  ·subst hj; rw [List.getElem?_set_self (List.getElem?_eq_some_iff.1 hi).1] at h; cases h
  ·rw [List.getElem?_set_ne (Ne.symm hj)] at h; exact ⟨hj, h⟩
 have hoff : Off (stH H i none) G [L.b] := fun j e M q1 q2 q3 => by
  obtain ⟨k1, k2⟩ := hold j e q1
  have := A.mem.sep i j _ e L M (Ne.symm k1) hi k2 rfl hGi q2 q3
  simp [Ne.symm this]
 refine k L ((A.hide i).slotEq t ht (by unfold den; rw [hGi]; rfl)) p3 ?_ hoff (A.own i _ L hi rfl hGi) hGi
 cases hz : (keys (stH H i none) G).contains L.b with
 | false => rfl
 | true =>
  obtain ⟨j, e, M, g1, g2, g3, g4⟩ := mem_keys.1 hz
  have := hoff j e M g1 g3 (mut_full g2)
  rw [g4] at this
  simp at this
theorem denL_ptr {G : Gr} {i : Nat} {L : Loc} (h : G[i]? = some (some L)) : denL G [adr L.b L.pre.length] = denL G [.ptr i 0] := by
 unfold denL denL den; rw [h]; rfl
theorem keys_app {H : Hp} {G F : Gr} {r : Hp} (hl : H.length = G.length) {b : Nat} (h : (keys H G).contains b = true) : (keys (H ++ r) (G ++ F)).contains b = true := by
 obtain ⟨i, e, L, h1, h2, h3, h4⟩ := mem_keys.1 h
 have hi := (List.getElem?_eq_some_iff.1 h1).1
 exact mem_keys.2 ⟨i, e, L, by rw [List.getElem?_append_left hi]; exact h1, h2, by rw [List.getElem?_append_left (by omega)]; exact h3, h4⟩
section
variable {n : Nat} {ks : List Nat} {G0 : Gr} {w0 : World} {T : List (Nat × SV)} {H : Hp} {G : Gr} {a : Act} {w : World} {ops : Array Oper} {o : Oper} {rest : List Oper} {Q : Exit → Act → World → Prop} {K : List Fr} {cs cs2 : List Cde} {ts : List Th} {tr z : List Tr} {nn : Nat}
theorem PLAINJ (A : Sy n T H ks G0 w0 G a w) (jt : JT cs ts tr w0.heap.size w (keys H G)) (ln : tr.length = nn) (hl : ∀ k, k < nn → (tr.getD k Tr.z).L = (z.getD k Tr.z).L) {j : Nat} (hj : j < nn) (hts : ts.length = nn) (hcs : nn ≤ cs.length) (hC : CodesAt cs w0 ks) (hc : RCd (cs.getD j Cde.z).l) (hlt : ImmLt H G w0.heap.size) {s : Th} (hs : ts.getD j Th.z = s) (hat : s.at_ ≤ (cs.getD j Cde.z).l.length)
  (h1 : callS n ops T o = some (10, [adr (z.getD j Tr.z).L.b (z.getD j Tr.z).L.pre.length]))
  (k : ∀ tr' {a' w' x}, JT cs (ts.set j (setl (cs.getD j Cde.z).l s)) tr' w0.heap.size w' (keys H G) → tr'.length = nn → (∀ k, k < nn → (tr'.getD k Tr.z).L = (z.getD k Tr.z).L) → Sy n (extS T o.dst x) H ks G0 w0 G a' w' → Goal Tryz.prog Q K (.ops ops rest) a' w') : Goal Tryz.prog Q K (.ops ops (o :: rest)) a w := by
 have hjl : j < tr.length := by omega
 have eL := hl j hj
 rw [← eL] at h1
 have hlo : ∀ b, (tr.getD j Tr.z).bl.contains b = true → w0.heap.size ≤ b := fun b hb => (jt.lo j hjl b hb).1
 refine CALLW [] (tPlain_ (cs.getD j Cde.z).l (cs.getD j Cde.z).ao (cs.getD j Cde.z).cp s (tr.getD j Tr.z).L (tr.getD j Tr.z).pb (tr.getD j Tr.z).ps hc hat (by have := jt.len j hjl; rw [hs] at this; exact this)) A ⟨jt.get hjl hs rfl, codes_on hC A (by omega) hlo⟩ (jt.off hlt hjl) (fun b hb => .inr (hlo b hb)) h1 rfl rfl rfl rfl fun {x a' w'} hm hJ A' => ?_
 obtain ⟨tr', g1, g2, g3⟩ := jt.one ln hl hj hts A.mix.size (fun b hb => keys_lt A.mem hb) hm hJ
 exact k tr' g1 g2 g3 A'
theorem STEPJ {fuel i : Nat} {listed : Array Bool} (A : Sy n T H ks G0 w0 G a w) (jt : JT cs ts tr w0.heap.size w (keys H G)) (ln : tr.length = nn) (hl : ∀ k, k < nn → (tr.getD k Tr.z).L = (z.getD k Tr.z).L) {j : Nat} (hj : j < nn) (hts : ts.length = nn) (hcs : nn ≤ cs.length) (hC : CodesAt cs w0 ks) (hc : RCd (cs.getD j Cde.z).l) (hlt : ImmLt H G w0.heap.size) (old : Int) {s : Th} (hs : ts.getD j Th.z = s) (hat : s.at_ < (cs.getD j Cde.z).l.length) (ho : ops[i]? = some o)
  (h1 : callS n ops T o = some (13, [adr (z.getD j Tr.z).L.b (z.getD j Tr.z).L.pre.length, .int .i64 old]))
  (k : ∀ tr' {a' w' x}, JT cs (ts.set j ⟨s.at_ + 1, paR s.r ((cs.getD j Cde.z).l.getD (((s.at_ : Nat) : Int)).toNat In.z) old⟩) tr' w0.heap.size w' (keys H G) → tr'.length = nn → (∀ k, k < nn → (tr'.getD k Tr.z).L = (z.getD k Tr.z).L) → Sy n (extS T o.dst x) H ks G0 w0 G a' w' → wpAny Tryz.prog .any ops Q fuel (listed.setIfInBounds i true) a' w') : wpOp Tryz.prog ops Q i (wpAny Tryz.prog .any ops Q fuel (listed.setIfInBounds i true)) a w := by
 have hjl : j < tr.length := by omega
 have eL := hl j hj
 rw [← eL] at h1
 have hlo : ∀ b, (tr.getD j Tr.z).bl.contains b = true → w0.heap.size ≤ b := fun b hb => (jt.lo j hjl b hb).1
 refine any_callW [] ho (tStep_ (cs.getD j Cde.z).l (cs.getD j Cde.z).ao (cs.getD j Cde.z).cp s (tr.getD j Tr.z).L (tr.getD j Tr.z).pb (tr.getD j Tr.z).ps old hc hat (by have := jt.len j hjl; rw [hs] at this; exact this)) A ⟨jt.get hjl hs rfl, codes_on hC A (by omega) hlo⟩ (jt.off hlt hjl) (fun b hb => .inr (hlo b hb)) h1 rfl rfl rfl rfl fun {x a' w'} hm hJ A' => ?_
 obtain ⟨tr', g1, g2, g3⟩ := jt.one ln hl hj hts A.mix.size (fun b hb => keys_lt A.mem hb) hm hJ
 exact k tr' g1 g2 g3 A'
theorem NEWTJ {nB : Nat} {TB : List (Nat × SV)} {Gr_ : Gr} {aB : Act} {wr : World} {rg : Nat → Rg} {cells : List SV} (t : Nat) (B : Sy nB TB H ks G0 w0 Gr_ aB wr) (A : Sy n T (H ++ [some (.blk cells)]) (keys H Gr_) Gr_ wr G a w) (hz : JT cs (iniL cs rg) z w0.heap.size wr (keys H Gr_)) (hk : z.length < cs.length) (hC : CodesAt cs w0 ks) (hc : RCd (cs.getD z.length Cde.z).l) (hlt : ImmLt (H ++ [none]) G w0.heap.size)
  (hce : cells = thC (.sla (cs.getD z.length Cde.z).ao (cs.getD z.length Cde.z).l.length (cs.getD z.length Cde.z).cp) (rg z.length) 0 ++ [.sla none 0 0]) (ht : look T t = some (.ptr H.length 0))
  (h1 : ∀ L : Loc, callS n ops ((t, adr L.b L.pre.length) :: T) o = some (10, [adr L.b L.pre.length]))
  (k : ∀ L pb ps {a' w' x}, JT cs (iniL cs rg) (z ++ [⟨L, pb, ps⟩]) w0.heap.size w' (keys (H ++ [none]) G) → G[H.length]? = some (some L) → Sy n (extS ((t, adr L.b L.pre.length) :: T) o.dst x) (H ++ [none]) ks G0 w0 G a' w' → Goal Tryz.prog Q K (.ops ops rest) a' w') : Goal Tryz.prog Q K (.ops ops (o :: rest)) a w := by
 subst hce
 have hlB := B.mem.len
 have hst : stH (H ++ [some (Ent.blk (thC (.sla (cs.getD z.length Cde.z).ao (cs.getD z.length Cde.z).l.length (cs.getD z.length Cde.z).cp) (rg z.length) 0 ++ [.sla none 0 0]))]) H.length none = H ++ [none] := by rw [stH_is]; simp
 have hlg : lg (H ++ [some (Ent.blk (thC (.sla (cs.getD z.length Cde.z).ao (cs.getD z.length Cde.z).l.length (cs.getD z.length Cde.z).cp) (rg z.length) 0 ++ [.sla none 0 0]))]) H.length = some (some (.blk (thC (.sla (cs.getD z.length Cde.z).ao (cs.getD z.length Cde.z).l.length (cs.getD z.length Cde.z).cp) (rg z.length) 0 ++ [.sla none 0 0]))) := by rw [lg_is]; simp
 refine GIVEL (P := Tryz.prog) H.length t (vs := [.slice (cs.getD z.length Cde.z).ao (cs.getD z.length Cde.z).l.length (cs.getD z.length Cde.z).cp, .int .i64 (rg z.length 0), .int .i64 (rg z.length 1), .int .i64 (rg z.length 2), .int .i64 (rg z.length 3), .int .i64 (rg z.length 4), .int .i64 (rg z.length 5), .int .i64 (rg z.length 6), .int .i64 (rg z.length 7), .int .i64 0, .slice none 0 0]) A hlg rfl ht hst fun L A2 hbk hnk hoff hown hGi => ?_
 have hkz : (keys H Gr_).contains L.b = false := by
  cases hq : (keys H Gr_).contains L.b with
  | false => rfl
  | true =>
   obtain ⟨F, hF⟩ := A2.pre
   have := keys_app (r := [none]) (F := F) hlB hq
   rw [← hF, hnk] at this; cases this
 have hwr : wr.heap.size ≤ L.b := hown.elim (fun h => by rw [hkz] at h; cases h) id
 have hN := B.mix.size
 have hz1 := JT.ok.now A2 hz
 have hbl : ∀ k, k < z.length → ∀ b, (z.getD k Tr.z).bl.contains b = true → [L.b].contains b = false := fun k hk' b hb => by
  have := outT_lt (hz.out k hk') b hb
  have : b ≠ L.b := by omega
  simp [this]
 have hlo : ∀ b, [L.b].contains b = true → w0.heap.size ≤ b := fun b hb => by
  have : b = L.b := by simpa using hb
  omega
 have A3 := B.trans A2
 refine CALLW [] (tPlain_ (cs.getD z.length Cde.z).l (cs.getD z.length Cde.z).ao (cs.getD z.length Cde.z).cp ⟨0, rg z.length⟩ L none [] hc (Nat.zero_le _) (Nat.zero_le _)) A3 ⟨⟨⟨_, rfl, hbk⟩, rfl, fun q h => by cases h⟩, codes_on hC A3 hk hlo⟩ hoff (fun b hb => .inr (hlo b hb)) (h1 L) rfl rfl rfl rfl fun {x a' w'} hm hJ A' => ?_
 obtain ⟨pb, ps, j1, j2, j3⟩ := hJ
 have hz2 := hz1.mixo hm hbl
 refine k L pb ps (hz2.add (t := ⟨L, pb, ps⟩) ?_ ?_ (fun b hb => ?_) (fun q hq b hb => ?_)) hGi A'
 ·show OutT L _ pb ps w'
  rw [iniL_at hk]; exact j1
 ·rw [iniL_at hk]; exact j2
 ·rw [List.contains_cons, Bool.or_eq_true] at hb
  rcases hb with hb | hb
  ·have : b = L.b := by simpa using hb
   subst this
   exact ⟨by omega, hnk⟩
  ·rcases j3 b hb with q | q
   ·have : b = L.b := by simpa [pbB] using q
    subst this
    exact ⟨by omega, hnk⟩
   ·have hw := A3.mix.size
    refine ⟨by omega, ?_⟩
    cases hq : (keys (H ++ [none]) G).contains b with
    | false => rfl
    | true => have := keys_lt A2.mem hq; omega
 ·have hbo := outT_lt (hz.out q hq) b hb
  have hb2 := outT_lt (hz1.out q hq) b hb
  cases hx : (Tr.mk L pb ps).bl.contains b with
  | false => rfl
  | true =>
   rw [List.contains_cons, Bool.or_eq_true] at hx
   rcases hx with hx | hx
   ·have : b = L.b := by simpa using hx
    omega
   ·rcases j3 b hx with q | q
    ·have : b = L.b := by simpa [pbB] using q
     omega
    ·omega
end
theorem setTh_end {cs : List Cde} {ts : List Th} {j old : Int} (h : (ts.getD j.toNat Th.z).at_ = (cs.getD j.toNat Cde.z).l.length) : setTh cs ts j old = ts := by
 unfold setTh paT
 rw [if_pos h]
 apply List.ext_getElem?
 intro i
 by_cases e : i = j.toNat
 ·subst e
  by_cases hl : j.toNat < ts.length
  ·rw [List.getElem?_set_self hl, List.getD_eq_getElem?_getD, List.getElem?_eq_getElem hl]; rfl
  ·rw [List.getElem?_eq_none (by rw [List.length_set]; omega), List.getElem?_eq_none (by omega)]
 ·rw [List.getElem?_set_ne (Ne.symm e)]
theorem setTh_can {cs2 : List Cde} {ts : List Th} {j old : Int} {l : List In} (he : (cs2.getD j.toNat Cde.z).l = l) (h : (ts.getD j.toNat Th.z).at_ < l.length) : (ts.set j.toNat ⟨(ts.getD j.toNat Th.z).at_ + 1, paR (ts.getD j.toNat Th.z).r (l.getD (((ts.getD j.toNat Th.z).at_ : Nat) : Int).toNat In.z) old⟩).set j.toNat (setl l ⟨(ts.getD j.toNat Th.z).at_ + 1, paR (ts.getD j.toNat Th.z).r (l.getD (((ts.getD j.toNat Th.z).at_ : Nat) : Int).toNat In.z) old⟩) = setTh cs2 ts j old := by
 unfold setTh paT
 rw [he, if_neg (by omega), List.set_set]; rfl
theorem cPassC_ (cs : List Cde) (ts : List Th) (nn : Nat) (th old : Int) (hC : CoreOK cs ts nn) (hth : 0 ≤ th ∧ th < ((nn : Nat) : Int)) (h : (ts.getD th.toNat Th.z).at_ < (cs.getD th.toNat Cde.z).l.length) : FnI (CodesAt cs) Tryz.prog 12 [.ptr 0 0, .int .i64 th, .int .i64 old] [some (.blk [.sl 1 nn 0]), some (coR9 cs ts nn)] (Rt .tt [some (.blk [.sl 1 nn 0]), some (coR9 cs (setTh cs ts th old) nn)]) :=
 fnI_ff (cPassI_ cs ts nn th old hC hth) (fun {G} => congrArg (fun b => some (Value.bool b)) (isT h))
theorem cPassE_ (cs : List Cde) (ts : List Th) (nn : Nat) (th old : Int) (hC : CoreOK cs ts nn) (hth : 0 ≤ th ∧ th < ((nn : Nat) : Int)) (h : ¬ (ts.getD th.toNat Th.z).at_ < (cs.getD th.toNat Cde.z).l.length) : FnI (CodesAt cs) Tryz.prog 12 [.ptr 0 0, .int .i64 th, .int .i64 old] [some (.blk [.sl 1 nn 0]), some (coR9 cs ts nn)] (Rt .ff [some (.blk [.sl 1 nn 0]), some (coR9 cs ts nn)]) := by
 have ha := hC.a th.toNat (by have := hC.m; omega)
 have q := cPassI_ cs ts nn th old hC hth
 rw [setTh_end (isE ha h)] at q
 exact fnI_ff q (fun {G} => congrArg (fun b => some (Value.bool b)) (isF ha h))
theorem JT.as {cs : List Cde} {ts ts' : List Th} {tr : List Tr} {N : Nat} {w : World} {ks : List Nat} (h : JT cs ts tr N w ks) (e : ts = ts') : JT cs ts' tr N w ks := e ▸ h
theorem JT.mv {cs : List Cde} {ts : List Th} {tr : List Tr} {N : Nat} {w : World} {H H' l : Hp} {G : Gr} {m : List Nat} (h : JT cs ts tr N w (keys H G)) (hlen : H.length = G.length) (h1 : pickH H m = some l) (h2 : renH m H' = some l) : JT cs ts tr N w (keys H' (pickG m G)) := JT.ok _ _ _ _ h (Mix.refl _ _) (fun b hb => .inl (keys_pick hlen h1 h2 b hb))
theorem JT.take {cs : List Cde} {ts : List Th} {tr : List Tr} {N : Nat} {w : World} {H : Hp} {G : Gr} (k : Nat) (h : JT cs ts tr N w (keys H G)) : JT cs ts tr N w (keys (H.take k) (G.take k)) := JT.ok _ _ _ _ h (Mix.refl _ _) (fun b hb => .inl (by
 obtain ⟨i, e, L, h1, h2, h3, h4⟩ := mem_keys.1 hb
 rw [List.getElem?_take] at h1 h3
 split at h1
 ·next hi => rw [if_pos hi] at h3; exact mem_keys.2 ⟨i, e, L, h1, h2, h3, h4⟩
 ·cases h1))
theorem iniL_l {cs cs1 : List Cde} {rg : Nat → Rg} (hl : cs1.length = cs.length) (he : ∀ k, k < cs.length → (cs1.getD k Cde.z).l = (cs.getD k Cde.z).l) : iniL cs rg = iniL cs1 rg := by
 unfold iniL; rw [hl]; apply List.map_congr_left; intro k hk; rw [he k (List.mem_range.1 hk)]
theorem trA {z : List Tr} {t : Tr} {k : Nat} (h : k < z.length) : (z ++ [t]).getD k Tr.z = z.getD k Tr.z := by simp [List.getD, List.getElem?_append_left h]
theorem trN {z : List Tr} {t : Tr} : (z ++ [t]).getD z.length Tr.z = t := by simp [List.getD]
structure VW (cs cs2 : List Cde) (z : List Tr) (nn m N : Nat) (v : Nat × List Th × List Tr) (w : World) (ks : List Nat) : Prop where
 le : v.1 ≤ m
 ok : CoreOK cs2 v.2.1 nn
 jt : JT cs v.2.1 v.2.2 N w ks
 ln : v.2.2.length = nn
 hl : ∀ k, k < nn → (v.2.2.getD k Tr.z).L = (z.getD k Tr.z).L
end Go.Proofs.YtjkppaijicjpoaaGreatDoor.Mc
namespace Go.Proofs.YtjkppaijicjpoaaGreatDoor.Mc
open Go.RowKit
set_option linter.unusedVariables false
set_option linter.unusedSimpArgs false
set_option maxRecDepth 100000
set_option maxHeartbeats 2000000
set_option simprocs false
abbrev acS (a : Int × Int) : List SV := [.int .i64 a.1, .int .i64 a.2]
theorem nckL0 {a b : Int} (h : (!(a == 0) || decide (b > 100)) = false) : a = 0 ∧ b ≤ 100 := by
 simp at h; omega
theorem tcellT {cs : List Cde} {kd : List Cn} {ar : Int} {nm : List UInt8} {mi r : Nat → Int} {qu : Int} {cx ck k : Nat} (h : k < 3) : cellS ⟨X, true⟩ 23 (tsQ9 ar nm mi r (.sl 0 cs.length cx) qu (.sl 1 kd.length ck)) (5 + k * 8) = some (.agg [.int .i64 (r (8 * k + 0)), .int .i64 (r (8 * k + 1)), .int .i64 (r (8 * k + 2)), .int .i64 (r (8 * k + 3)), .int .i64 (r (8 * k + 4)), .int .i64 (r (8 * k + 5)), .int .i64 (r (8 * k + 6)), .int .i64 (r (8 * k + 7))]) := by
 match k, h with
 | 0, _ => rfl
 | 1, _ => rfl
 | 2, _ => rfl
abbrev aQ8 (g : List (Int × Int)) (v : Nat × List Th × List Tr) : Int × Int := g.getD (((v.1 : Int)).toNat) (0, 0)
abbrev tQ8 (z : List Tr) (g : List (Int × Int)) (v : Nat × List Th × List Tr) : Tr := z.getD (((aQ8 g v).1).toNat) Tr.z
theorem plays_ (ar : Int) (nm : List UInt8) (mi r : Nat → Int) (cs : List Cde) (cx : Nat) (qu : Int) (kd : List Cn) (ck : Nat) (g : List (Int × Int)) (cg : Nat) (os : List (Nat × Obj)) (hM : ∀ w ks, Gl os w ks → ∃ m, w.cell? ⟨1, 0, none⟩ = some (.int .i64 m)) (hT : ∀ w ks, Gl os w ks → Lib.TabIs Tryz.prog w "internal/strconv.uint64pow10" .u64 Lib.pow10Tab) (hE : ∀ w ks, Gl os w ks → ∃ ev, w.cell? ⟨4, 0, none⟩ = some ev ∧ (ev = .nilIface ∨ ∃ te pe, ev = .iface te pe)) (hs : ∀ c ∈ cs, c.l.length ≤ 9223372036854775807) (hR : ∀ c ∈ cs, ∀ i ∈ c.l, okI i) (hn : cs.length ≤ 9223372036854775807) : FnI (GC os cs) Tryz.prog 3 [.agg (tsQ9 ar nm mi r (.sl 0 cs.length cx) qu (.sl 1 kd.length ck)), .sl 2 g.length cg] [some (cdL9 cs), some (cnL9 kd), some (.lst 2 g.length (fun zz => acS (g.getD zz (0, 0))))] (Rt (.tt) [some (cdL9 cs), some (cnL9 kd), some (.lst 2 g.length (fun zz => acS (g.getD zz (0, 0))))]) :=
 enterI (n := 120) (by kernel_rfl) Tryz.func3 rfl rfl rfl fun G w a h0 hI A => N9 9 A rfl rfl fun A => C9 [] able_ A rfl fun A => N9 10 A rfl rfl fun A => I9 [0, 1] GC.ok hI (litCheck_ ar nm mi r cs cx qu kd ck os hM hT hE hs hR hn) A rfl fun A => N9 8 A rfl rfl fun A => fork 21 A rfl
  (fun h1 A => N9 7 A rfl rfl fun A => R9 A rfl h0 rfl rfl rfl)
  (fun h1 A => N9 4 A rfl rfl fun A => have hck := nckL0 h1; have hck0 := chk0 hck.1; N9 2 A rfl rfl fun A => TWIN [0, 1] (twin_ cs cx kd ck ar nm mi r qu hck0.1 (Nat.le_trans hck0.2 (by decide))) A (codes_bare (GC.ok.now A hI).2) rfl rfl rfl rfl rfl rfl fun ao1 ao2 cp1 cp2 cs1 {_ _} hl1 he1 hp1 A =>
 NEWC (H' := fun cs2 => [some (cdL9 cs), some (cnL9 kd), some (.lst 2 g.length (fun zz => acS (g.getD zz (0, 0)))), some (.blk (tsQ9 ar nm mi r (.sl 0 cs.length cx) qu (.sl 1 kd.length ck))), some (coR9 cs2 (iniL cs1 (fun k j => r (8 * k + j))) cs1.length), some (.blk [.sl 4 cs1.length 0])]) (newCore_ cs1 ao1 cp1 (fun k j => r (8 * k + j)) ar qu (mi 0) (mi 1) (mi 2) nm ao2 kd.length cp2 (ckE_l hl1 he1 hck0.1)) A hp1 rfl rfl rfl (fun _ => rfl) fun cs2 {Gc ac wc} hok he2 hI2 A => have hnn := (rcd_of hck0.1).1; have hrc := (rcd_of hck0.1).2; have BL := A; have hCs := (GC.ok.now A hI).2; have h00 := h0; have A := BL.base; have h0 := BL.mem.len; have hMc := BL.mem; have hG6 : Gc.length = 6 := BL.mem.len.symm; have heq : ∀ k, k < cs1.length → (cs2.getD k Cde.z).l = (cs.getD k Cde.z).l := fun k hk => (he2 k hk).trans (he1 k (by omega)); have hle : cs1.length ≤ cs.length := (by omega);
 N9 15 A rfl rfl fun A => have A := A.nilRow 6 37 1 (fun zz => [.v (.pointer (some ⟨(([] : List Tr).getD zz Tr.z).L.b, (([] : List Tr).getD zz Tr.z).L.pre.length, none⟩))]) rfl (fun z => ⟨_, rfl, rfl⟩); LOOPJ (fun (z : List Tr) => [(1, .sl 2 g.length cg), (2, .ptr 3 0), (5, .ptr 5 0), (6, .sl 6 z.length 0), (7, .int .i64 (z.length : Int))]) (fun (z : List Tr) => [some (cdL9 cs), some (cnL9 kd), some (.lst 2 g.length (fun zz => acS (g.getD zz (0, 0)))), some (.blk (tsQ9 ar nm mi r (.sl 0 cs.length cx) qu (.sl 1 kd.length ck))), some (coR9 cs2 (iniL cs1 (fun k j => r (8 * k + j))) cs1.length), some (.blk [.sl 4 cs1.length 0]), some (.row 37 1 z.length 0 (fun zz => [.v (.pointer (some ⟨(z.getD zz Tr.z).L.b, (z.getD zz Tr.z).L.pre.length, none⟩))]))]) (fun z w' ks => JT cs (iniL cs (fun k j => r (8 * k + j))) z wc.heap.size w' ks ∧ z.length ≤ cs.length) (fun z => cs.length - z.length) [] (A.cut [1, 2, 5, 6, 7] rfl) ⟨JT.i0, Nat.zero_le _⟩ fun z G a w hz hGl A B => have h0 := B.mem.len; N9 10 A rfl rfl fun A => forkD 29 A rfl
    (fun h2 A => N9 6 A rfl rfl fun A => have hkz : z.length < cs.length := (by omega); ANY hmo [.ptr 3 29, .sl 0 cs.length cx, .int .i64 (z.length : Int), .el 0 1 (z.length : Int) 0, .sla ((cs.getD (((z.length : Int)).toNat) Cde.z).ao) ((cs.getD (((z.length : Int)).toNat) Cde.z).l.length) ((cs.getD (((z.length : Int)).toNat) Cde.z).cp), .int .i64 (z.length : Int), .ptr 3 5, .ix (.ptr 3 5) 8 3 (z.length : Int) 0, .agg [.int .i64 (r (8 * z.length + 0)), .int .i64 (r (8 * z.length + 1)), .int .i64 (r (8 * z.length + 2)), .int .i64 (r (8 * z.length + 3)), .int .i64 (r (8 * z.length + 4)), .int .i64 (r (8 * z.length + 5)), .int .i64 (r (8 * z.length + 6)), .int .i64 (r (8 * z.length + 7))], .agg [.sla ((cs.getD (((z.length : Int)).toNat) Cde.z).ao) ((cs.getD (((z.length : Int)).toNat) Cde.z).l.length) ((cs.getD (((z.length : Int)).toNat) Cde.z).cp), .int .i64 (r (8 * z.length + 0)), .int .i64 (r (8 * z.length + 1)), .int .i64 (r (8 * z.length + 2)), .int .i64 (r (8 * z.length + 3)), .int .i64 (r (8 * z.length + 4)), .int .i64 (r (8 * z.length + 5)), .int .i64 (r (8 * z.length + 6)), .int .i64 (r (8 * z.length + 7)), .z9, .sla none 0 0], .ptr 7 0, .ptr 7 0] [10] [7] 1 [([], [7], [some (cdL9 cs), some (cnL9 kd), some (.lst 2 g.length (fun zz => acS (g.getD zz (0, 0)))), some (.blk (tsQ9 ar nm mi r (.sl 0 cs.length cx) qu (.sl 1 kd.length ck))), some (coR9 cs2 (iniL cs1 (fun k j => r (8 * k + j))) cs1.length), some (.blk [.sl 4 cs1.length 0]), some (.row 37 1 z.length 0 (fun zz => [.v (.pointer (some ⟨(z.getD zz Tr.z).L.b, (z.getD zz Tr.z).L.pre.length, none⟩))])), none]), ([10], [], [some (cdL9 cs), some (cnL9 kd), some (.lst 2 g.length (fun zz => acS (g.getD zz (0, 0)))), some (.blk (tsQ9 ar nm mi r (.sl 0 cs.length cx) qu (.sl 1 kd.length ck))), some (coR9 cs2 (iniL cs1 (fun k j => r (8 * k + j))) cs1.length), some (.blk [.sl 4 cs1.length 0]), some (.row 37 1 z.length 0 (fun zz => [.v (.pointer (some ⟨(z.getD zz Tr.z).L.b, (z.getD zz Tr.z).L.pre.length, none⟩))])), some (.blk [.sla ((cs.getD (((z.length : Int)).toNat) Cde.z).ao) ((cs.getD (((z.length : Int)).toNat) Cde.z).l.length) ((cs.getD (((z.length : Int)).toNat) Cde.z).cp), .int .i64 (r (8 * z.length + 0)), .int .i64 (r (8 * z.length + 1)), .int .i64 (r (8 * z.length + 2)), .int .i64 (r (8 * z.length + 3)), .int .i64 (r (8 * z.length + 4)), .int .i64 (r (8 * z.length + 5)), .int .i64 (r (8 * z.length + 6)), .int .i64 (r (8 * z.length + 7)), .z9, .sla none 0 0])])] [[true, true, true, true, true, true, true, true, true, true, true, false], [true, true, true, true, true, true, true, true, true, false, false, true]] A rfl rfl rfl rfl (by kernel_rfl) rfl (by kernel_rfl) ⟨⟨oV9 0 rfl rfl, ⟨oV9 0 rfl rfl, ⟨oV9 0 rfl rfl, ⟨oV9 0 rfl (ok_d (by omega) <| okE_nil), ⟨oV9 0 rfl (ok_d (by omega) <| okE_nil), ⟨oV9 0 rfl rfl, ⟨oV9 0 rfl rfl, ⟨oV9 0 rfl (ok_d (by omega) <| okE_nil), ⟨oE9 0 rfl (ldixE (k := z.length) hX rfl rfl rfl rfl (tcellT (by omega))), ⟨oV9 0 rfl rfl, ⟨⟨_, _, _, _, 1, rfl, rfl, rfl, rfl, new_at 7 (X := ⟨_, true⟩) hX rfl rfl (le0 h0 rfl) rfl rfl rfl rfl⟩, trivial⟩⟩⟩⟩⟩⟩⟩⟩⟩⟩⟩, ⟨⟨oV9 1 rfl rfl, ⟨oV9 1 rfl rfl, ⟨oV9 1 rfl rfl, ⟨oV9 1 rfl (ok_d (by omega) <| okE_nil), ⟨oV9 1 rfl (ok_d (by omega) <| okE_nil), ⟨oV9 1 rfl rfl, ⟨oV9 1 rfl rfl, ⟨oV9 1 rfl (ok_d (by omega) <| okE_nil), ⟨oE9 1 rfl (ldixE (k := z.length) hX rfl rfl rfl rfl (tcellT (by omega))), ⟨oV9 1 rfl rfl, trivial⟩⟩⟩⟩⟩⟩⟩⟩⟩⟩, trivial⟩⟩ fun A => N9 4 A rfl rfl fun A => NEWTJ (rg := (fun k j => r (8 * k + j))) 43 B A hz.1 hkz hCs (rcAt hrc hkz) (ltN 3 hMc (B.trans A).pre rfl rfl) rfl rfl (fun _ => rfl) fun L pb ps {a w x} hJ hGi B => have A := B.base; have h0 := B.mem.len;
 N9 6 A rfl rfl fun A => have A := A.cellEq 8 (cs' := [adr L.b L.pre.length]) rfl (denL_ptr (A.at_pre hGi)) rfl; APP1 hX (z.length + 1) (fun zz => [.v (.pointer (some ⟨((z ++ [Tr.mk L pb ps]).getD zz Tr.z).L.b, ((z ++ [Tr.mk L pb ps]).getD zz Tr.z).L.pre.length, none⟩))]) A rfl rfl rfl rfl (by omega) rfl (fun k hk => by show [_] = [_]; rw [trA hk]) (by show [_] = [_]; rw [trN]) (fun z => ⟨_, rfl, rfl⟩) fun A => have A := (A.rowAs 9 ((z ++ [Tr.mk L pb ps]).length) (fun zz => [.v (.pointer (some ⟨((z ++ [Tr.mk L pb ps]).getD zz Tr.z).L.b, ((z ++ [Tr.mk L pb ps]).getD zz Tr.z).L.pre.length, none⟩))]) rfl (by rw [List.length_append]; rfl) (fun q hq => rfl) (fun z => ⟨_, rfl, rfl⟩)).say 48 (.sl 9 ((z ++ [Tr.mk L pb ps]).length) 0) rfl (by rw [List.length_append] <;> rfl); N9 9 A rfl (ok_d (by omega) <| okE_nil) fun A => ⟨(z ++ [Tr.mk L pb ps]), _, (by rw [List.length_append]; show cs.length - (z.length + 1) < cs.length - z.length; omega), ⟨((JT.ok.now A hJ).mv (m := [0, 1, 2, 3, 4, 5, 9]) A.mem.len rfl rfl), (by rw [List.length_append]; show z.length + 1 ≤ cs.length; omega)⟩, (((sy_sayD (B.trans A) 7 (.int .i64 (((z ++ [Tr.mk L pb ps]).length : Nat) : Int)) rfl (fun _ => congrArg (fun b => some (Value.int .i64 b)) (by rw [List.length_append]; rfl))).cut [1, 2, 5, 6, 7] rfl).mv 6 [9] rfl rfl rfl rfl hG6)⟩)
    (fun h2 A => N9 5 A rfl rfl fun A => have hzn : z.length = cs1.length := (by have := hz.2; omega); have A := (A.rowAs 6 cs1.length (fun zz => [.v (.pointer (some ⟨(z.getD zz Tr.z).L.b, (z.getD zz Tr.z).L.pre.length, none⟩))]) rfl hzn.symm (fun _ _ => rfl) (fun z => ⟨_, rfl, rfl⟩)).say 6 (.sl 6 cs1.length 0) rfl (by rw [hzn]); have hz1 := (JT.ok.now A hz.1).as (iniL_l hl1 he1); have B := B.trans A; have A := B.base; have h0 := B.mem.len; have hLk := JT.look2 (z := z) hz1 (CodesAt.ok.now B hI2) (CodesAt.ok.now B hCs) hzn hle heq (fun _ _ => rfl);
 N9 3 A rfl rfl fun A => I9 [5, 4, 6] LkI.ok hLk (looks_ cs2 (iniL cs1 (fun k j => r (8 * k + j))) cs1.length (fun k => (z.getD k Tr.z).L.b) (fun k => (z.getD k Tr.z).L.pre.length) (fun k => (cs.getD k Cde.z).ao) (fun k => (cs.getD k Cde.z).cp) (fun k => pbV (z.getD k Tr.z).pb (z.getD k Tr.z).ps.length) hok (by omega)) A rfl fun A => N9 13 A rfl rfl fun A => LOOPJ (fun (v : Nat × List Th × List Tr) => [(1, .sl 2 g.length cg), (5, .ptr 5 0), (6, .sl 6 cs1.length 0), (9, .int .i64 (v.1 : Int))]) (fun (v : Nat × List Th × List Tr) => [some (cdL9 cs), some (cnL9 kd), some (.lst 2 g.length (fun zz => acS (g.getD zz (0, 0)))), some (.blk (tsQ9 ar nm mi r (.sl 0 cs.length cx) qu (.sl 1 kd.length ck))), some (coR9 cs2 v.2.1 cs1.length), some (.blk [.sl 4 cs1.length 0]), some (.row 37 1 cs1.length 0 (fun zz => [.v (.pointer (some ⟨(z.getD zz Tr.z).L.b, (z.getD zz Tr.z).L.pre.length, none⟩))]))]) (fun v w' ks => VW cs cs2 z cs1.length g.length wc.heap.size v w' ks) (fun v => g.length - v.1) (0, (iniL cs1 (fun k j => r (8 * k + j))), z) ((B.trans A).cut [1, 5, 6, 9] rfl) ⟨Nat.zero_le _, hok, JT.ok.now A hz1, hzn, fun _ _ => rfl⟩ fun v G a w hv hGl A B => have h0 := B.mem.len; have hI2r := CodesAt.ok.now B hI2; have hLk := hv.jt.look2 (z := z) hI2r (CodesAt.ok.now B hCs) hv.ln hle heq hv.hl; N9 9 A rfl rfl fun A => forkD 56 A rfl
      (fun h3 A => N9 16 A rfl (ok_d (by omega) <| ok_d (by omega) <| okE_nil) fun A => GEM (0 ≤ (aQ8 g v).1)
       (fun hp0 => GEM ((aQ8 g v).1 < ((cs1.length : Nat) : Int))
       (fun hp1 => have hth : 0 ≤ (aQ8 g v).1 ∧ (aQ8 g v).1 < ((cs1.length : Nat) : Int) := ⟨hp0, hp1⟩; have hkn : ((aQ8 g v).1).toNat < cs1.length := (by omega); have hcj := rcAt hrc (show ((aQ8 g v).1).toNat < cs.length by omega); have hts := hv.ok.n.trans hv.ok.m; have hth8 : LstAt (some ⟨(z.getD ((aQ8 g v).1).toNat Tr.z).L.b, (z.getD ((aQ8 g v).1).toNat Tr.z).L.pre.length, none⟩) 11 1 (fun _ => thS (.sla (cs.getD ((aQ8 g v).1).toNat Cde.z).ao (cs2.getD ((aQ8 g v).1).toNat Cde.z).l.length (cs.getD ((aQ8 g v).1).toNat Cde.z).cp) (v.2.1.getD ((aQ8 g v).1).toNat Th.z).r (((v.2.1.getD ((aQ8 g v).1).toNat Th.z).at_ : Nat) : Int) (.v (pbV (v.2.2.getD ((aQ8 g v).1).toNat Tr.z).pb (v.2.2.getD ((aQ8 g v).1).toNat Tr.z).ps.length))) _ _ := (hLk.2 ((aQ8 g v).1).toNat hkn).1; GEM ((v.2.1.getD ((aQ8 g v).1).toNat Th.z).at_ < (cs2.getD ((aQ8 g v).1).toNat Cde.z).l.length)
       (fun hst => have hat : (v.2.1.getD ((aQ8 g v).1).toNat Th.z).at_ < (cs.getD ((aQ8 g v).1).toNat Cde.z).l.length := (by rw [← heq _ hkn]; exact hst); ANY hmo [.ptr 7 0, .int .i64 ((aQ8 g v).1), .tt, .tt, .ptr 7 0, .int .i64 ((aQ8 g v).1), .sl 6 cs1.length 0, .int .i64 ((cs1.length : Nat) : Int), .tt, .tt, .tt, .sl 6 cs1.length 0, .ptr 7 0, .int .i64 ((aQ8 g v).1), .el 6 1 ((aQ8 g v).1) 0, .v (.pointer (some ⟨(tQ8 z g v).L.b, (tQ8 z g v).L.pre.length, none⟩)), .v (.pointer (some ⟨(tQ8 z g v).L.b, (tQ8 z g v).L.pre.length, none⟩)), .v (.pointer (some ⟨(tQ8 z g v).L.b, (tQ8 z g v).L.pre.length + 9, none⟩)), .int .i64 (((v.2.1.getD ((aQ8 g v).1).toNat Th.z).at_ : Nat) : Int), .sl 6 cs1.length 0, .ptr 7 0, .int .i64 ((aQ8 g v).1), .el 6 1 ((aQ8 g v).1) 0, .v (.pointer (some ⟨(tQ8 z g v).L.b, (tQ8 z g v).L.pre.length, none⟩)), .v (.pointer (some ⟨(tQ8 z g v).L.b, (tQ8 z g v).L.pre.length, none⟩)), .v (.pointer (some ⟨(tQ8 z g v).L.b, (tQ8 z g v).L.pre.length + 0, none⟩)), .sla ((cs.getD ((aQ8 g v).1).toNat Cde.z).ao) ((cs2.getD ((aQ8 g v).1).toNat Cde.z).l.length) ((cs.getD ((aQ8 g v).1).toNat Cde.z).cp), .int .i64 (((cs2.getD ((aQ8 g v).1).toNat Cde.z).l.length : Nat) : Int), .tt, .tt, .tt] [] [] 0 [([], [], [some (cdL9 cs), some (cnL9 kd), some (.lst 2 g.length (fun zz => acS (g.getD zz (0, 0)))), some (.blk (tsQ9 ar nm mi r (.sl 0 cs.length cx) qu (.sl 1 kd.length ck))), some (coR9 cs2 v.2.1 cs1.length), some (.blk [.sl 4 cs1.length 0]), some (.row 37 1 cs1.length 0 (fun zz => [.v (.pointer (some ⟨(z.getD zz Tr.z).L.b, (z.getD zz Tr.z).L.pre.length, none⟩))])), some (.blk [.int .i64 ((aQ8 g v).1), .int .i64 ((aQ8 g v).2)])])] [[true, true, true, true, true, true, true, true, true, true, true, true, true, true, true, true, true, true, true, true, true, true, true, true, true, true, true, true, true, true, true]] A rfl rfl rfl rfl (by kernel_rfl) rfl (by kernel_rfl) ⟨⟨oV9 0 rfl rfl, ⟨oV9 0 rfl rfl, ⟨oE9 0 rfl (eff_say (x := .bool (decide (((aQ8 g v).1) ≥ 0))) (fun _ => congrArg (fun b => some (Value.bool b)) (decide_eq_true hp0)) (eff_auto (X := ⟨_, true⟩) (out := .val _ _) hX rfl rfl)), ⟨oV9 0 rfl rfl, ⟨oV9 0 rfl rfl, ⟨oV9 0 rfl rfl, ⟨oV9 0 rfl rfl, ⟨oV9 0 rfl rfl, ⟨oE9 0 rfl (eff_say (x := .bool (decide (((aQ8 g v).1) < ((cs1.length : Nat) : Int)))) (fun _ => congrArg (fun b => some (Value.bool b)) (decide_eq_true hp1)) (eff_auto (X := ⟨_, true⟩) (out := .val _ _) hX rfl rfl)), ⟨oV9 0 rfl rfl, ⟨oV9 0 rfl rfl, ⟨oV9 0 rfl rfl, ⟨oV9 0 rfl rfl, ⟨oV9 0 rfl rfl, ⟨oV9 0 rfl (ok_d (by omega) <| okE_nil), ⟨oV9 0 rfl (ok_d (by omega) <| okE_nil), ⟨oE9 0 rfl (nckV rfl rfl rfl), ⟨oE9 0 rfl (fadV rfl rfl rfl (by kernel_rfl)), ⟨oE9 0 rfl (ldV (q := 9) (v := .int .i64 (((v.2.1.getD ((aQ8 g v).1).toNat Th.z).at_ : Nat) : Int)) hX rfl rfl rfl hth8 rfl rfl rfl), ⟨oV9 0 rfl rfl, ⟨oV9 0 rfl rfl, ⟨oV9 0 rfl rfl, ⟨oV9 0 rfl (ok_d (by omega) <| okE_nil), ⟨oV9 0 rfl (ok_d (by omega) <| okE_nil), ⟨oE9 0 rfl (nckV rfl rfl rfl), ⟨oE9 0 rfl (fadV rfl rfl rfl (by kernel_rfl)), ⟨oE9 0 rfl (ldV (q := 0) (v := .sla ((cs.getD ((aQ8 g v).1).toNat Cde.z).ao) ((cs2.getD ((aQ8 g v).1).toNat Cde.z).l.length) ((cs.getD ((aQ8 g v).1).toNat Cde.z).cp)) hX rfl rfl rfl hth8 rfl rfl rfl), ⟨oV9 0 rfl rfl, ⟨oE9 0 rfl (eff_say (x := .bool (decide ((((v.2.1.getD ((aQ8 g v).1).toNat Th.z).at_ : Nat) : Int) < (((cs2.getD ((aQ8 g v).1).toNat Cde.z).l.length : Nat) : Int)))) (fun _ => congrArg (fun b => some (Value.bool b)) (decide_eq_true (Int.ofNat_lt.2 hst))) (eff_auto (X := ⟨_, true⟩) (out := .val _ _) hX rfl rfl)), ⟨oV9 0 rfl rfl, ⟨oV9 0 rfl rfl, trivial⟩⟩⟩⟩⟩⟩⟩⟩⟩⟩⟩⟩⟩⟩⟩⟩⟩⟩⟩⟩⟩⟩⟩⟩⟩⟩⟩⟩⟩⟩⟩, trivial⟩ fun A => N9 9 A rfl rfl fun A => I9 [5, 4] CodesAt.ok hI2r (cPassC_ cs2 v.2.1 cs1.length ((aQ8 g v).1) ((aQ8 g v).2) hv.ok hth hst) A rfl fun A => N9 4 A rfl rfl fun A => forkN 100 A rfl
        (fun h4 A => absurd h4 (fun h => h rfl))
        (fun h4 A => N9 11 A rfl rfl fun A => have hj := JT.ok.now A hv.jt; have B := B.trans A; have A := B.base; have h0 := B.mem.len; have A := A.cut [1, 5, 6, 9, 10] rfl; ANYP 7 8 hmo [.sl 6 cs1.length 0, .ptr 7 0, .int .i64 ((aQ8 g v).1), .el 6 1 ((aQ8 g v).1) 0, .v (.pointer (some ⟨(tQ8 z g v).L.b, (tQ8 z g v).L.pre.length, none⟩)), .ptr 7 1, .int .i64 ((aQ8 g v).2), .tup []] [] [] 0 [([], [], [some (cdL9 cs), some (cnL9 kd), some (.lst 2 g.length (fun zz => acS (g.getD zz (0, 0)))), some (.blk (tsQ9 ar nm mi r (.sl 0 cs.length cx) qu (.sl 1 kd.length ck))), some (coR9 cs2 (setTh cs2 v.2.1 ((aQ8 g v).1) ((aQ8 g v).2)) cs1.length), some (.blk [.sl 4 cs1.length 0]), some (.row 37 1 cs1.length 0 (fun zz => [.v (.pointer (some ⟨(z.getD zz Tr.z).L.b, (z.getD zz Tr.z).L.pre.length, none⟩))])), some (.blk [.int .i64 ((aQ8 g v).1), .int .i64 ((aQ8 g v).2)])])] [[true, true, true, true, true, true, true]] A rfl rfl rfl rfl (by kernel_rfl) rfl (by kernel_rfl) rfl (by kernel_rfl) (by kernel_rfl) ⟨⟨oV9 0 rfl rfl, ⟨oV9 0 rfl rfl, ⟨oV9 0 rfl rfl, ⟨oV9 0 rfl (ok_d (by omega) <| okE_nil), ⟨oV9 0 rfl (ok_d (by omega) <| okE_nil), ⟨oV9 0 rfl rfl, ⟨oV9 0 rfl rfl, trivial⟩⟩⟩⟩⟩⟩⟩, trivial⟩ fun fuel listed {_ _ _} hls hfu A => anyfuel (k := 1) hls hfu fun f => any_at (rs := [7]) (by kernel_rfl) (by decide) (fc9 ⟨STEPJ (z := z) (B.trans A) (JT.ok.now A hj) hv.ln hv.hl hkn hts hle hCs hcj (ltN 3 hMc (B.trans A).pre rfl rfl) (aQ8 g v).2 rfl hat rfl rfl fun tr1 {a w x} hj1 hn1 hl1 B => have A := B.base; have h0 := B.mem.len; any_end (by kernel_rfl) (N9 7 A rfl (ok_d (by omega) <| ok_d (by omega) <| okE_nil) fun A => PLAINJ (z := z) (B.trans A) (JT.ok.now A hj1) hn1 hl1 hkn (by rw [List.length_set]; exact hts) hle hCs hcj (ltN 3 hMc (B.trans A).pre rfl rfl) (gd_eq (by omega)) (Nat.succ_le_of_lt hat) rfl fun tr2 {a w x} hj2 hn2 hl2 B => have A := B.base; have h0 := B.mem.len; have hj3 := hj2.as (setTh_can (heq _ hkn) hat); have hok3 := hv.ok.set hth (aQ8 g v).2; have hLk := hj3.look2 (z := z) (CodesAt.ok.now B hI2) (CodesAt.ok.now B hCs) hn2 hle heq hl2;
 N9 6 A rfl rfl fun A => I9 [5, 4, 6] LkI.ok hLk (looks_ cs2 (setTh cs2 v.2.1 ((aQ8 g v).1) ((aQ8 g v).2)) cs1.length (fun k => (z.getD k Tr.z).L.b) (fun k => (z.getD k Tr.z).L.pre.length) (fun k => (cs.getD k Cde.z).ao) (fun k => (cs.getD k Cde.z).cp) (fun k => pbV (tr2.getD k Tr.z).pb (tr2.getD k Tr.z).ps.length) hok3 (by omega)) A rfl fun A => N9 12 A rfl (ok_d (by omega) <| okE_nil) fun A => ⟨(v.1 + 1, (setTh cs2 v.2.1 (aQ8 g v).1 (aQ8 g v).2), tr2), _, (by show g.length - (v.1 + 1) < g.length - v.1; omega), ⟨(by show v.1 + 1 ≤ g.length; omega), hok3, (JT.ok.now A hj3).take 7, hn2, hl2⟩, (((B.trans A).cut [1, 5, 6, 9] rfl).trunc 7 rfl rfl rfl (by omega)).sayT (by rfl)⟩), fn9⟩)))
       (fun hst => ANY hmo [.ptr 7 0, .int .i64 ((aQ8 g v).1), .tt, .tt, .ptr 7 0, .int .i64 ((aQ8 g v).1), .sl 6 cs1.length 0, .int .i64 ((cs1.length : Nat) : Int), .tt, .tt, .tt, .sl 6 cs1.length 0, .ptr 7 0, .int .i64 ((aQ8 g v).1), .el 6 1 ((aQ8 g v).1) 0, .v (.pointer (some ⟨(tQ8 z g v).L.b, (tQ8 z g v).L.pre.length, none⟩)), .v (.pointer (some ⟨(tQ8 z g v).L.b, (tQ8 z g v).L.pre.length, none⟩)), .v (.pointer (some ⟨(tQ8 z g v).L.b, (tQ8 z g v).L.pre.length + 9, none⟩)), .int .i64 (((v.2.1.getD ((aQ8 g v).1).toNat Th.z).at_ : Nat) : Int), .sl 6 cs1.length 0, .ptr 7 0, .int .i64 ((aQ8 g v).1), .el 6 1 ((aQ8 g v).1) 0, .v (.pointer (some ⟨(tQ8 z g v).L.b, (tQ8 z g v).L.pre.length, none⟩)), .v (.pointer (some ⟨(tQ8 z g v).L.b, (tQ8 z g v).L.pre.length, none⟩)), .v (.pointer (some ⟨(tQ8 z g v).L.b, (tQ8 z g v).L.pre.length + 0, none⟩)), .sla ((cs.getD ((aQ8 g v).1).toNat Cde.z).ao) ((cs2.getD ((aQ8 g v).1).toNat Cde.z).l.length) ((cs.getD ((aQ8 g v).1).toNat Cde.z).cp), .int .i64 (((cs2.getD ((aQ8 g v).1).toNat Cde.z).l.length : Nat) : Int), .ff, .ff, .ff] [] [] 0 [([], [], [some (cdL9 cs), some (cnL9 kd), some (.lst 2 g.length (fun zz => acS (g.getD zz (0, 0)))), some (.blk (tsQ9 ar nm mi r (.sl 0 cs.length cx) qu (.sl 1 kd.length ck))), some (coR9 cs2 v.2.1 cs1.length), some (.blk [.sl 4 cs1.length 0]), some (.row 37 1 cs1.length 0 (fun zz => [.v (.pointer (some ⟨(z.getD zz Tr.z).L.b, (z.getD zz Tr.z).L.pre.length, none⟩))])), some (.blk [.int .i64 ((aQ8 g v).1), .int .i64 ((aQ8 g v).2)])])] [[true, true, true, true, true, true, true, true, true, true, true, true, true, true, true, true, true, true, true, true, true, true, true, true, true, true, true, true, true, true, true]] A rfl rfl rfl rfl (by kernel_rfl) rfl (by kernel_rfl) ⟨⟨oV9 0 rfl rfl, ⟨oV9 0 rfl rfl, ⟨oE9 0 rfl (eff_say (x := .bool (decide (((aQ8 g v).1) ≥ 0))) (fun _ => congrArg (fun b => some (Value.bool b)) (decide_eq_true hp0)) (eff_auto (X := ⟨_, true⟩) (out := .val _ _) hX rfl rfl)), ⟨oV9 0 rfl rfl, ⟨oV9 0 rfl rfl, ⟨oV9 0 rfl rfl, ⟨oV9 0 rfl rfl, ⟨oV9 0 rfl rfl, ⟨oE9 0 rfl (eff_say (x := .bool (decide (((aQ8 g v).1) < ((cs1.length : Nat) : Int)))) (fun _ => congrArg (fun b => some (Value.bool b)) (decide_eq_true hp1)) (eff_auto (X := ⟨_, true⟩) (out := .val _ _) hX rfl rfl)), ⟨oV9 0 rfl rfl, ⟨oV9 0 rfl rfl, ⟨oV9 0 rfl rfl, ⟨oV9 0 rfl rfl, ⟨oV9 0 rfl rfl, ⟨oV9 0 rfl (ok_d (by omega) <| okE_nil), ⟨oV9 0 rfl (ok_d (by omega) <| okE_nil), ⟨oE9 0 rfl (nckV rfl rfl rfl), ⟨oE9 0 rfl (fadV rfl rfl rfl (by kernel_rfl)), ⟨oE9 0 rfl (ldV (q := 9) (v := .int .i64 (((v.2.1.getD ((aQ8 g v).1).toNat Th.z).at_ : Nat) : Int)) hX rfl rfl rfl hth8 rfl rfl rfl), ⟨oV9 0 rfl rfl, ⟨oV9 0 rfl rfl, ⟨oV9 0 rfl rfl, ⟨oV9 0 rfl (ok_d (by omega) <| okE_nil), ⟨oV9 0 rfl (ok_d (by omega) <| okE_nil), ⟨oE9 0 rfl (nckV rfl rfl rfl), ⟨oE9 0 rfl (fadV rfl rfl rfl (by kernel_rfl)), ⟨oE9 0 rfl (ldV (q := 0) (v := .sla ((cs.getD ((aQ8 g v).1).toNat Cde.z).ao) ((cs2.getD ((aQ8 g v).1).toNat Cde.z).l.length) ((cs.getD ((aQ8 g v).1).toNat Cde.z).cp)) hX rfl rfl rfl hth8 rfl rfl rfl), ⟨oV9 0 rfl rfl, ⟨oE9 0 rfl (eff_say (x := .bool (decide ((((v.2.1.getD ((aQ8 g v).1).toNat Th.z).at_ : Nat) : Int) < (((cs2.getD ((aQ8 g v).1).toNat Cde.z).l.length : Nat) : Int)))) (fun _ => congrArg (fun b => some (Value.bool b)) (decide_eq_false (fun h => hst (Int.ofNat_lt.1 h)))) (eff_auto (X := ⟨_, true⟩) (out := .val _ _) hX rfl rfl)), ⟨oV9 0 rfl rfl, ⟨oV9 0 rfl rfl, trivial⟩⟩⟩⟩⟩⟩⟩⟩⟩⟩⟩⟩⟩⟩⟩⟩⟩⟩⟩⟩⟩⟩⟩⟩⟩⟩⟩⟩⟩⟩⟩, trivial⟩ fun A => N9 9 A rfl rfl fun A => I9 [5, 4] CodesAt.ok hI2r (cPassE_ cs2 v.2.1 cs1.length ((aQ8 g v).1) ((aQ8 g v).2) hv.ok hth hst) A rfl fun A => N9 4 A rfl rfl fun A => forkN 100 A rfl
        (fun h5 A => absurd h5 (fun h => h rfl))
        (fun h5 A => N9 16 A rfl rfl fun A => I9 [5, 4, 6] LkI.ok hLk (looks_ cs2 v.2.1 cs1.length (fun k => (z.getD k Tr.z).L.b) (fun k => (z.getD k Tr.z).L.pre.length) (fun k => (cs.getD k Cde.z).ao) (fun k => (cs.getD k Cde.z).cp) (fun k => pbV (v.2.2.getD k Tr.z).pb (v.2.2.getD k Tr.z).ps.length) hv.ok (by omega)) A rfl fun A => N9 12 A rfl (ok_d (by omega) <| okE_nil) fun A => ⟨(v.1 + 1, v.2.1, v.2.2), _, (by show g.length - (v.1 + 1) < g.length - v.1; omega), ⟨(by show v.1 + 1 ≤ g.length; omega), hv.ok, (JT.ok.now A hv.jt).take 7, hv.ln, hv.hl⟩, (((B.trans A).cut [1, 5, 6, 9] rfl).trunc 7 rfl rfl rfl (by omega)).sayT (by rfl)⟩)))
       (fun hp1 => ANY hmo [.ptr 7 0, .int .i64 ((aQ8 g v).1), .tt, .tt, .ptr 7 0, .int .i64 ((aQ8 g v).1), .sl 6 cs1.length 0, .int .i64 ((cs1.length : Nat) : Int), .ff, .ff, .ff, .tup [], .tup [], .tup [], .tup [], .tup [], .tup [], .tup [], .tup [], .tup [], .tup [], .tup [], .tup [], .tup [], .tup [], .tup [], .tup [], .tup [], .tup [], .ff, .ff] [] [] 0 [([], [], [some (cdL9 cs), some (cnL9 kd), some (.lst 2 g.length (fun zz => acS (g.getD zz (0, 0)))), some (.blk (tsQ9 ar nm mi r (.sl 0 cs.length cx) qu (.sl 1 kd.length ck))), some (coR9 cs2 v.2.1 cs1.length), some (.blk [.sl 4 cs1.length 0]), some (.row 37 1 cs1.length 0 (fun zz => [.v (.pointer (some ⟨(z.getD zz Tr.z).L.b, (z.getD zz Tr.z).L.pre.length, none⟩))])), some (.blk [.int .i64 ((aQ8 g v).1), .int .i64 ((aQ8 g v).2)])])] [[true, true, true, true, true, true, true, true, true, true, true, true, true, true, true, true, true, true, true, true, true, true, true, true, true, true, true, true, true, true, true]] A rfl rfl rfl rfl (by kernel_rfl) rfl (by kernel_rfl) ⟨⟨oV9 0 rfl rfl, ⟨oV9 0 rfl rfl, ⟨oE9 0 rfl (eff_say (x := .bool (decide (((aQ8 g v).1) ≥ 0))) (fun _ => congrArg (fun b => some (Value.bool b)) (decide_eq_true hp0)) (eff_auto (X := ⟨_, true⟩) (out := .val _ _) hX rfl rfl)), ⟨oV9 0 rfl rfl, ⟨oV9 0 rfl rfl, ⟨oV9 0 rfl rfl, ⟨oV9 0 rfl rfl, ⟨oV9 0 rfl rfl, ⟨oE9 0 rfl (eff_say (x := .bool (decide (((aQ8 g v).1) < ((cs1.length : Nat) : Int)))) (fun _ => congrArg (fun b => some (Value.bool b)) (decide_eq_false hp1)) (eff_auto (X := ⟨_, true⟩) (out := .val _ _) hX rfl rfl)), ⟨oV9 0 rfl rfl, ⟨oV9 0 rfl rfl, ⟨oV9 0 rfl rfl, ⟨oV9 0 rfl rfl, ⟨oV9 0 rfl rfl, ⟨oV9 0 rfl rfl, ⟨oV9 0 rfl rfl, ⟨oV9 0 rfl rfl, ⟨oV9 0 rfl rfl, ⟨oV9 0 rfl rfl, ⟨oV9 0 rfl rfl, ⟨oV9 0 rfl rfl, ⟨oV9 0 rfl rfl, ⟨oV9 0 rfl rfl, ⟨oV9 0 rfl rfl, ⟨oV9 0 rfl rfl, ⟨oV9 0 rfl rfl, ⟨oV9 0 rfl rfl, ⟨oV9 0 rfl rfl, ⟨oV9 0 rfl rfl, ⟨oV9 0 rfl rfl, ⟨oV9 0 rfl rfl, trivial⟩⟩⟩⟩⟩⟩⟩⟩⟩⟩⟩⟩⟩⟩⟩⟩⟩⟩⟩⟩⟩⟩⟩⟩⟩⟩⟩⟩⟩⟩⟩, trivial⟩ fun A => N9 9 A rfl rfl fun A => I9 [5, 4] CodesAt.ok hI2r (cPassO_ cs2 v.2.1 cs1.length ((aQ8 g v).1) ((aQ8 g v).2) (by omega)) A rfl fun A => N9 4 A rfl rfl fun A => forkN 100 A rfl
        (fun h6 A => absurd h6 (fun h => h rfl))
        (fun h6 A => N9 16 A rfl rfl fun A => I9 [5, 4, 6] LkI.ok hLk (looks_ cs2 v.2.1 cs1.length (fun k => (z.getD k Tr.z).L.b) (fun k => (z.getD k Tr.z).L.pre.length) (fun k => (cs.getD k Cde.z).ao) (fun k => (cs.getD k Cde.z).cp) (fun k => pbV (v.2.2.getD k Tr.z).pb (v.2.2.getD k Tr.z).ps.length) hv.ok (by omega)) A rfl fun A => N9 12 A rfl (ok_d (by omega) <| okE_nil) fun A => ⟨(v.1 + 1, v.2.1, v.2.2), _, (by show g.length - (v.1 + 1) < g.length - v.1; omega), ⟨(by show v.1 + 1 ≤ g.length; omega), hv.ok, (JT.ok.now A hv.jt).take 7, hv.ln, hv.hl⟩, (((B.trans A).cut [1, 5, 6, 9] rfl).trunc 7 rfl rfl rfl (by omega)).sayT (by rfl)⟩)))
       (fun hp0 => ANY hmo [.ptr 7 0, .int .i64 ((aQ8 g v).1), .ff, .ff, .tup [], .tup [], .tup [], .tup [], .tup [], .ff, .ff, .tup [], .tup [], .tup [], .tup [], .tup [], .tup [], .tup [], .tup [], .tup [], .tup [], .tup [], .tup [], .tup [], .tup [], .tup [], .tup [], .tup [], .tup [], .ff, .ff] [] [] 0 [([], [], [some (cdL9 cs), some (cnL9 kd), some (.lst 2 g.length (fun zz => acS (g.getD zz (0, 0)))), some (.blk (tsQ9 ar nm mi r (.sl 0 cs.length cx) qu (.sl 1 kd.length ck))), some (coR9 cs2 v.2.1 cs1.length), some (.blk [.sl 4 cs1.length 0]), some (.row 37 1 cs1.length 0 (fun zz => [.v (.pointer (some ⟨(z.getD zz Tr.z).L.b, (z.getD zz Tr.z).L.pre.length, none⟩))])), some (.blk [.int .i64 ((aQ8 g v).1), .int .i64 ((aQ8 g v).2)])])] [[true, true, true, true, true, true, true, true, true, true, true, true, true, true, true, true, true, true, true, true, true, true, true, true, true, true, true, true, true, true, true]] A rfl rfl rfl rfl (by kernel_rfl) rfl (by kernel_rfl) ⟨⟨oV9 0 rfl rfl, ⟨oV9 0 rfl rfl, ⟨oE9 0 rfl (eff_say (x := .bool (decide (((aQ8 g v).1) ≥ 0))) (fun _ => congrArg (fun b => some (Value.bool b)) (decide_eq_false hp0)) (eff_auto (X := ⟨_, true⟩) (out := .val _ _) hX rfl rfl)), ⟨oV9 0 rfl rfl, ⟨oV9 0 rfl rfl, ⟨oV9 0 rfl rfl, ⟨oV9 0 rfl rfl, ⟨oV9 0 rfl rfl, ⟨oV9 0 rfl rfl, ⟨oV9 0 rfl rfl, ⟨oV9 0 rfl rfl, ⟨oV9 0 rfl rfl, ⟨oV9 0 rfl rfl, ⟨oV9 0 rfl rfl, ⟨oV9 0 rfl rfl, ⟨oV9 0 rfl rfl, ⟨oV9 0 rfl rfl, ⟨oV9 0 rfl rfl, ⟨oV9 0 rfl rfl, ⟨oV9 0 rfl rfl, ⟨oV9 0 rfl rfl, ⟨oV9 0 rfl rfl, ⟨oV9 0 rfl rfl, ⟨oV9 0 rfl rfl, ⟨oV9 0 rfl rfl, ⟨oV9 0 rfl rfl, ⟨oV9 0 rfl rfl, ⟨oV9 0 rfl rfl, ⟨oV9 0 rfl rfl, ⟨oV9 0 rfl rfl, ⟨oV9 0 rfl rfl, trivial⟩⟩⟩⟩⟩⟩⟩⟩⟩⟩⟩⟩⟩⟩⟩⟩⟩⟩⟩⟩⟩⟩⟩⟩⟩⟩⟩⟩⟩⟩⟩, trivial⟩ fun A => N9 9 A rfl rfl fun A => I9 [5, 4] CodesAt.ok hI2r (cPassO_ cs2 v.2.1 cs1.length ((aQ8 g v).1) ((aQ8 g v).2) (by omega)) A rfl fun A => N9 4 A rfl rfl fun A => forkN 100 A rfl
        (fun h7 A => absurd h7 (fun h => h rfl))
        (fun h7 A => N9 16 A rfl rfl fun A => I9 [5, 4, 6] LkI.ok hLk (looks_ cs2 v.2.1 cs1.length (fun k => (z.getD k Tr.z).L.b) (fun k => (z.getD k Tr.z).L.pre.length) (fun k => (cs.getD k Cde.z).ao) (fun k => (cs.getD k Cde.z).cp) (fun k => pbV (v.2.2.getD k Tr.z).pb (v.2.2.getD k Tr.z).ps.length) hv.ok (by omega)) A rfl fun A => N9 12 A rfl (ok_d (by omega) <| okE_nil) fun A => ⟨(v.1 + 1, v.2.1, v.2.2), _, (by show g.length - (v.1 + 1) < g.length - v.1; omega), ⟨(by show v.1 + 1 ≤ g.length; omega), hv.ok, (JT.ok.now A hv.jt).take 7, hv.ln, hv.hl⟩, (((B.trans A).cut [1, 5, 6, 9] rfl).trunc 7 rfl rfl rfl (by omega)).sayT (by rfl)⟩)))
      (fun h3 A => N9 9 A rfl rfl fun A => R9 (BL.trans (B.trans A)) rfl h00 rfl rfl rfl)))
end Go.Proofs.YtjkppaijicjpoaaGreatDoor.Mc
namespace Go.Proofs.YtjkppaijicjpoaaGreatDoor.Mc
set_option linter.unusedSimpArgs false
set_option linter.unusedVariables false
set_option maxRecDepth 100000
open Go.ChangeShapes Go.WideShapes Go.ChangeAt Go.RowKit Go.Deep
def acV (a : Int × Int) : List Value := [.int .i64 a.1, .int .i64 a.2]
section
variable {H : Type} {enc : TypeId × Value → H} {W : World} {base : Nat} {spare : Nat → Bool} {held : Bool} {base' : Nat}
theorem AI.act : AI enc W base' spare held 44 2 := by
 refine AI.str (by kernel_rfl) fun k hk => ?_
 have : k = 0 ∨ k = 1 := by omega
 rcases this with rfl | rfl
 ·exact ⟨0, 0, 3, 1, by kernel_rfl, AI.int, by omega, by omega⟩
 ·exact ⟨1, 1, 3, 1, by kernel_rfl, AI.int, by omega, by omega⟩
theorem open_acL (cs : List Value) (n : Nat) (x : DataW H × List MemPlace) (h : DataW.trod enc Tryz.prog W base' spare held n 44 cs = some x) (hl : cs.length = 2) : ∃ y : Int × Int, cs = acV y ∧ True := by
 have A := AI.act.2 cs n x h
 obtain ⟨a, ha, _⟩ := A 0 (by omega)
 obtain ⟨b, hb, _⟩ := A 1 (by omega)
 refine ⟨(a, b), ?_, trivial⟩
 match cs, hl, ha, hb with
 | [u0, u1], _, ha, hb => simp at ha hb; subst ha hb; rfl
theorem slice_bo {t e n cap : Nat} {ao : Option Addr} (ht : Tryz.prog.underlying t = some (.slice e)) (hv : Value.okWide Tryz.prog W .any base t (.slice ao n cap)) : ∃ bo : BO, ao = adB bo := by
 cases ao with
 | none => exact ⟨none, rfl⟩
 | some a =>
  unfold Value.okWide at hv
  rw [ht] at hv
  simp only [Cell.okWide, ht, Cell.ok] at hv
  obtain ⟨b, o, s⟩ := a
  have : s = none := hv.2.2.2.1
  subst this
  exact ⟨some (b, o), rfl⟩
theorem open_acts {v : Value} {d : DataW H} {ps : List MemPlace} (hv : Value.okWide Tryz.prog W .any base 29 v) (h : DataW.Trod enc Tryz.prog W base' spare held 29 v d ps) (hwt : (d.weights Tryz.prog 29).all (· ≤ reachBytes) = true) : ∃ (bo : BO) (l : List (Int × Int)) (cap : Nat), v = .slice (adB bo) l.length cap ∧ l.length * 16 ≤ reachBytes ∧ Sl acV 2 W.heap.size W (.slice (adB bo) l.length cap) l := by
 obtain ⟨fuel, hf⟩ := h
 obtain ⟨ao, l, cap, h1, h2, h3, _⟩ := open_listT (α := Int × Int) (en := acV) (Q := fun _ => True) (t := 29) (e := 44) (s := 2) (by kernel_rfl) (by kernel_rfl) (by omega) (fun cs n x h hl _ => open_acL cs n x h hl) hf hwt
 rw [show Tryz.prog.bytesOf 44 = 16 by kernel_rfl] at h2
 have hu : Tryz.prog.underlying 29 = some (.slice 44) := by kernel_rfl
 obtain ⟨a0, len0, cap0, rfl⟩ := okWide_slice hu hv
 simp [Value.cells] at h1
 obtain ⟨rfl, rfl, rfl⟩ := h1
 obtain ⟨bo, rfl⟩ := slice_bo (t := 29) (e := 44) hu hv
 exact ⟨bo, l, _, rfl, h2.2, h3⟩
end
theorem lstA_of {bo : BO} {n cap : Nat} {w : World} {l : List (Int × Int)} (h : Sl acV 2 w.heap.size w (.slice (adB bo) n cap) l) : n = l.length ∧ ∀ (G F : Gr), den (G ++ locB bo :: F) (.sl G.length l.length cap) = some (.slice (adB bo) n cap) ∧ EntOK (G ++ locB bo :: F) w (locB bo) (.lst 2 l.length (fun zz => acS (l.getD zz (0, 0)))) := lst_of (f := fun zz => acS (l.getD zz (0, 0))) h (Nat.le_refl _) (fun k x hx => by show denL [] (acS (l.getD k (0, 0))) = _; rw [List.getD_eq_getElem?_getD, hx]; rfl) (fun k => ⟨_, rfl⟩)
end Go.Proofs.YtjkppaijicjpoaaGreatDoor.Mc
