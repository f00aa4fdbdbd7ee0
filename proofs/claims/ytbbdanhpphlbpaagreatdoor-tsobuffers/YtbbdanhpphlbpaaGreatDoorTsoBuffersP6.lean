/- TsoBuffers, part 6: the engine, contracts, theory. -/
import Derived.Test.YtbbdanhpphlbpaaGreatDoorTsoBuffersP5
namespace Go.Proofs.YtbbdanhpphlbpaaGreatDoor.Mc
open Go.RowKit
set_option linter.unusedVariables false
set_option linter.unusedSimpArgs false
set_option linter.unusedSectionVars false
set_option maxRecDepth 100000
section
variable {W : World} {y : Ts}
theorem tab3_fac (h : ∀ i : Nat, i < 64 → W.cell? ⟨3, i, none⟩ = some (.int .u8 (dbT.getD i 0))) : ∃ o, W.heap[3]? = some o ∧ ∀ w : World, w.heap[3]? = some o → ∀ i : Nat, i < 64 → w.cell? ⟨3, i, none⟩ = some (.int .u8 (dbT.getD i 0)) := by
 obtain ⟨o, k, _⟩ := cell_fac (h 0 (by decide))
 refine ⟨o, k, fun w hw i hi => ?_⟩
 obtain ⟨o', k', c'⟩ := cell_fac (h i hi)
 cases k.symm.trans k'
 exact c' w hw
theorem dbAt_of {w : World} {ks : List Nat} {o : Obj} (h : w.heap[3]? = some o) (hk : ks.contains 3 = false) (hc : ∀ i : Nat, i < 64 → w.cell? ⟨3, i, none⟩ = some (.int .u8 (dbT.getD i 0))) : DbAt w ks := by
 have hlt : 3 < w.heap.size := (Array.getElem?_eq_some_iff.1 h).1
 refine ⟨fun k => ⟨_, rfl⟩, .inr ⟨3, 0, rfl, hlt, hk, fun k hk' => ⟨[.int .u8 (dbT.getD k 0)], rfl, fun q v hq => ?_⟩⟩⟩
 match q, hq with
 | 0, hq =>
  simp only [List.getElem?_cons_zero, Option.some.injEq] at hq
  subst hq
  have := hc k hk'
  simpa using this
 | q + 1, hq => simp at hq
theorem call_ofTD {f : Nat} {x : SV} {v : Value} {ex : List SV} {Hx : Hp} {Gx : Gr} {vx : List Value} (hx : ∀ G : Gr, den G x = some v) (hO : TsOK W y) (hT0 : Lib.TabIs Tryz.prog W "internal/strconv.uint64pow10" .u64 Lib.pow10Tab) (m0 : Int) (hm : W.cell? ⟨0, 0, none⟩ = some (.int .i64 m0)) (ev : Value) (he : W.cell? ⟨4, 0, none⟩ = some ev) (hev : ev = .nilIface ∨ ∃ te pe, ev = .iface te pe)
  (h64 : ∀ i : Nat, i < 64 → W.cell? ⟨3, i, none⟩ = some (.int .u8 (dbT.getD i 0))) (hlen : Hx.length = Gx.length) (hMx : ∀ (i : Nat) (e : Ent), Hx[i]? = some (some e) → ∃ s n f, e = .lst s n f ∧ EntOK [] W ((Gx[i]?).getD none) (.lst s n f)) (hdx : denL (tsG y ++ Gx) ex = some vx)
  (h : ∀ (os : List (Nat × Obj)) (hM : ∀ w ks, Gl os w ks → ∃ m, w.cell? ⟨0, 0, none⟩ = some (.int .i64 m)) (hT : ∀ w ks, Gl os w ks → Lib.TabIs Tryz.prog w "internal/strconv.uint64pow10" .u64 Lib.pow10Tab) (hE : ∀ w ks, Gl os w ks → ∃ ev, w.cell? ⟨4, 0, none⟩ = some ev ∧ (ev = .nilIface ∨ ∃ te pe, ev = .iface te pe)) (hD : ∀ w ks, Gl os w ks → DbAt w ks), FnI (GC os y.cs) Tryz.prog f (tsS y :: ex) (tsH y ++ Hx) (Rt x (tsH y ++ Hx))) : Calls Tryz.prog f (.agg (tsV y).toArray :: vx).toArray W fun e W' => e = .returned v ∧ Grow W W' := by
 have hl2 : (tsH y).length = (tsG y).length := rfl
 have hro : ∀ (i : Nat) (e : Ent), (tsH y ++ Hx)[i]? = some (some e) → e.mut = false := fun i e hi => by
  by_cases q : i < (tsH y).length
  ·rw [List.getElem?_append_left q] at hi; exact ts_ro i e hi
  ·rw [List.getElem?_append_right (by omega)] at hi
   obtain ⟨s, n, f, rfl, _⟩ := hMx _ e hi
   rfl
 have hMem : Mem (tsH y ++ Hx) (tsG y ++ Gx) W := by
  refine mem_ro (by rw [List.length_append, List.length_append, hl2, hlen]) fun i e hi => ⟨hro i e hi, ?_⟩
  by_cases q : i < (tsH y).length
  ·rw [List.getElem?_append_left q] at hi
   rw [List.getElem?_append_left (by omega)]
   have := ((ts_mem hO).ent i e hi).more Gx
   exact this
  ·rw [List.getElem?_append_right (by omega)] at hi
   rw [List.getElem?_append_right (by omega), ← hl2]
   obtain ⟨s, n, f, rfl, h2⟩ := hMx _ e hi
   exact lst_G h2
 obtain ⟨g5, o5, k5, c5⟩ := tab_fac hT0
 obtain ⟨o3, k3, c3⟩ := tab3_fac h64
 obtain ⟨o0, k0, c0⟩ := cell_fac hm
 obtain ⟨o1, k1, c1⟩ := cell_fac he
 have hk : ∀ k, (keys (tsH y ++ Hx) (tsG y ++ Gx)).contains k = false := fun k => keysN hro k
 have hk0 : ∀ k, (keys (tsH y) (tsG y)).contains k = false := fun k => keysN ts_ro k
 have hG : Gl [(0, o0), (4, o1), (g5, o5), (3, o3)] W (keys (tsH y ++ Hx) (tsG y ++ Gx)) := fun p hp => by
  simp only [List.mem_cons, List.not_mem_nil, or_false] at hp
  rcases hp with rfl | rfl | rfl | rfl
  ·exact ⟨k0, hk _⟩
  ·exact ⟨k1, hk _⟩
  ·exact ⟨k5, hk _⟩
  ·exact ⟨k3, hk _⟩
 have hcodes : CodesAt y.cs W (keys (tsH y ++ Hx) (tsG y ++ Gx)) := CodesAt.ok _ _ _ _ (ts_codes hO hk0) (Mix.refl _ _) (fun b hb => by rw [hk b] at hb; cases hb)
 have hf := h [(0, o0), (4, o1), (g5, o5), (3, o3)] (fun w ks hg => ⟨m0, c0 w (hg (0, o0) (by simp)).1⟩) (fun w ks hg => c5 w (hg (g5, o5) (by simp)).1) (fun w ks hg => ⟨ev, c1 w (hg (4, o1) (by simp)).1, hev⟩) (fun w ks hg => dbAt_of (hg (3, o3) (by simp)).1 (hg (3, o3) (by simp)).2 (c3 w (hg (3, o3) (by simp)).1))
 have hden : denL (tsG y ++ Gx) (tsS y :: ex) = some (.agg (tsV y).toArray :: vx) := by
  have h1 := denL_mono Gx [tsS y] (ts_den hO)
  obtain ⟨v1, ws, e1, e2, e3⟩ := denL_cons h1
  cases e2
  cases e3
  exact denL_mk e1 hdx
 refine Calls.mono (hf.2 (tsG y ++ Gx) W _ hMem ⟨hG, hcodes⟩ hden) fun e W' hp => ?_
 obtain ⟨v', F, h1, h2, _, h4⟩ := post_ro hp hro
 rw [hx] at h1
 cases h1
 exact ⟨h2, h4⟩
end
end Go.Proofs.YtbbdanhpphlbpaaGreatDoor.Mc
