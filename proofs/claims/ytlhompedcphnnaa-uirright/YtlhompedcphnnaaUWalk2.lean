/- More on the walk in memory: numbers in range, a slice's tail, two cells stored at once. -/
import Derived.Test.YtlhompedcphnnaaW2
namespace Go.Proofs.Ytlhompedcphnnaa
open Go.RowKit

def wfI (x : Int) : Prop := x = I (B x)
theorem wf_I (b : BitVec 64) : wfI (I b) := by unfold wfI; rw [B_I]
theorem wf_or {r : Nat → Int} {q x : Int} (hr : ∀ k, wfI (r k)) (hx : wfI x) : wfI (orR r q x) := by 
  unfold orR
  split
  · exact hx
  · exact hr _
theorem wf_0 : wfI 0 := by unfold wfI; rw [show (0 : Int) = I 0#64 from I_zero.symm, B_I]
theorem wf_upd {r : Nat → Int} {j : Nat} {x : Int} (hr : ∀ k, wfI (r k)) (hx : wfI x) : ∀ k, wfI (updR r j x k) := fun k => by 
  unfold updR
  split
  · exact hx
  · exact hr _
theorem place_w (off i n : Int) (w : World) (h1 : wfI off) (h2 : wfI i) : Calls Try.prog 57 #[.int .i64 off, .int .i64 i, .int .i64 n] w fun e w' => e = .returned (.int .i64 (placeR (B off) (B i) n)) ∧ w' = w := by
  have := place_all (B off) (B i) n w; rwa [← h1, ← h2] at this
theorem rplace_w (off i n : Int) (w : World) (h1 : wfI off) (h2 : wfI i) : Calls Try.prog 68 #[.int .i64 off, .int .i64 i, .int .i64 n] w fun e w' => e = .returned (.int .i64 (placeR (B off) (B i) n)) ∧ w' = w := by
  have := rplace_all (B off) (B i) n w; rwa [← h1, ← h2] at this
theorem get_w (x off n : Int) (w : World) (h : wfI x) : Calls Try.prog 58 #[.int .i64 x, .int .i64 off, .int .i64 n] w fun e w' => e = .returned (.int .i64 (I (getR (B x) off n))) ∧ ∃ q, w' = w.drewN q := get_int (B x) x off n h w
theorem rget_w (x off n : Int) (w : World) (h : wfI x) : Calls Try.prog 52 #[.int .i64 x, .int .i64 off, .int .i64 n] w fun e w' => e = .returned (.int .i64 (I (getR (B x) off n))) ∧ w' = w := rget_int (B x) x off n h w
theorem rmw_w (fn old a n : Int) (w : World) (h1 : wfI old) (h2 : wfI a) : Calls Try.prog 67 #[.int .i64 fn, .int .i64 old, .int .i64 a, .int .i64 n] w fun e w' => e = .returned (.int .i64 (I (rmwR fn (B old) (B a) n))) ∧ ∃ q, w' = w.drewN q := by
  have := rmw_any fn (B old) (B a) n w; rwa [← h1, ← h2] at this
theorem rrmw_w (fn old a n : Int) (w : World) (h1 : wfI old) (h2 : wfI a) : Calls Try.prog 54 #[.int .i64 fn, .int .i64 old, .int .i64 a, .int .i64 n] w fun e w' => e = .returned (.int .i64 (I (rmwR fn (B old) (B a) n))) ∧ w' = w := by
  have := rrmw_any fn (B old) (B a) n w; rwa [← h1, ← h2] at this
theorem regOr_any (g : Nat) (p : Int) (r : Nat → Int) (rd ev pa : Value) (q x : Int) (w : World) (hb : Blk w g (walkC p r rd ev pa) 62) (hq : ronB q = true) : Calls Try.prog 47 #[.pointer (some ⟨g, 0, none⟩), .int .i64 q, .int .i64 x] w fun e w' => e = .returned (.int .i64 (orR r q x)) ∧ Grow w w' := by
  by_cases h : q = -1
  · subst h; have := regOr_none g p r rd ev pa x w hb; simpa [orR] using this
  · have h2 : 0 ≤ q ∧ q < 8 := by unfold ronB regB at hq; simp [h] at hq; omega
    obtain ⟨j, rfl⟩ := Int.eq_ofNat_of_zero_le h2.1
    have := regOr_reg g p r rd ev pa j x w hb (by omega)
    have e : orR r (j : Int) x = r j := by unfold orR; simp
    rw [e]; exact this
def intE (x : Int) : List Value := [.int .i64 x]
section
variable {P : Program} {ops : Array Oper} {a : Act} {w : World} {K : Value → World → Prop} {d : Option Tmp} {ty : TypeId} {pos : String} {af : Array Edge} {gd : Option (Nat × Bool)} {v : Value}
theorem d_tail {α : Type} {enc : α → List Value} {t e s B' : Nat} {x : Operand} {y : α} {l : List α} (hw : Region.wanted { dst := d, op := .slice t x (some (.const (.int .i64 1))) none none, type := ty, pos := pos, after := af, guard := gd } (yielded ops a.tmps) = true) (hx : a.eval x = v) (ht : sliceB P t e s = true) (hs : Sl enc s B' w v (y :: l))
    (h : ∀ v', (∀ w', Sl enc s B' w' v (y :: l) → Sl enc s B' w' v' l) → K v' w) : Does P ops { dst := d, op := .slice t x (some (.const (.int .i64 1))) none none, type := ty, pos := pos, after := af, guard := gd } a w K := by
  obtain ⟨ao, cap, hv, hlc, _⟩ := hs
  obtain ⟨hu, hz⟩ := slice_facts ht
  simp only [List.length_cons] at hv hlc
  refine does_val (v := .slice (if cap = 1 then ao else ao.map (·.add (1 * s))) l.length (cap - 1)) hw ?_ (h _ fun w' hs' => ?_)
  · have hsb : (Instr.sliceBounds true (l.length + 1) cap (some (.int .i64 1)) none none).run P w = .ok (1, l.length + 1, cap) w := by
      simp [Instr.sliceBounds, run_sliceBound (P := P) w .i64 1 (l.length + 1) .sliceB (by omega) (by omega)]
    have hev : a.eval (.const (.int .i64 1)) = .int .i64 1 := rfl
    unfold execOp
    simp only [hx, hv, hev, Option.map_some, Option.map_none, Instr.sliceAt, Instr.slice, Sem.run_bind, run_underlying hu, hsb, Result.andThen_ok, run_size hz, Sem.run_pure]
    rfl
  · obtain ⟨ao', cap', hv', _, he'⟩ := hs'
    simp only [List.length_cons] at hv'
    rw [hv] at hv'
    injection hv' with e1 _ e3
    subst e1; subst e3
    refine ⟨_, cap - 1, rfl, by omega, fun j z hz' => ?_⟩
    obtain ⟨b, o, hao, hb, hr⟩ := he' (j + 1) z (by simpa using hz')
    have hj := get_lt hz'
    refine ⟨b, o + s, ?_, hb, by rw [show o + s + j * s = o + (j + 1) * s by rw [Nat.add_mul, Nat.one_mul]; omega]; exact hr⟩
    rw [if_neg (by omega), hao]
    simp [Addr.add_mid]
theorem Blk.set2 {g k : Nat} {cs : Array Value} {t : TypeId} (h : Blk w g cs t) (u v : Value) : Blk ((w.setCell ⟨g, k, none⟩ u).setCell ⟨g, k + 1, none⟩ v) g ((cs.setIfInBounds k u).setIfInBounds (k + 1) v) t := (h.set u).set v
theorem Upd.trans {g : Nat} {a b c : World} (h : Upd g a b) (k : Upd g b c) : Upd g a c := ⟨k.os.trans h.os, k.tape.trans h.tape, k.output.trans h.output, k.size.trans h.size, fun j hj => (k.block j hj).trans (h.block j hj)⟩
theorem d_store2 {t t' : TypeId} {x y : Operand} {g k : Nat} {cs : Array Value} {u0 u1 : Value} (hw : Region.wanted { dst := d, op := .store t x y, type := ty, pos := pos, after := af, guard := gd } (yielded ops a.tmps) = true) (hx : a.eval x = .pointer (some ⟨g, k, none⟩)) (hy : a.eval y = .agg #[u0, u1])
    (h1 : rowB P t 2 = true) (ho : u0.oneCell' = true) (ho1 : u1.oneCell' = true) (hb : Blk w g cs t') (hk : k + 1 < cs.size) (h : ∀ w', Upd g w w' → Blk w' g ((cs.setIfInBounds k u0).setIfInBounds (k + 1) u1) t' → K undef w') :
    Does P ops { dst := d, op := .store t x y, type := ty, pos := pos, after := af, guard := gd } a w K := by
  have hth : w.there g k 2 := fun j hj => ⟨by rw [hb.cell (v := cs[k + j]) (by simp)]; rfl, hb.frozen _⟩
  have hr := run_storeAt_mid (P := P) w g k t #[u0, u1] hth (row_facts h1).2 (by simp [ho, ho1])
  refine does_unit (w' := (w.setCell ⟨g, k, none⟩ u0).setCell ⟨g, k + 1, none⟩ u1) hw ?_ (h _ ((upd_setCell w g k u0).trans (upd_setCell _ g (k + 1) u1)) (hb.set2 u0 u1))
  unfold execOp
  simp only [hx, hy, Sem.run_bind, hr, Result.andThen_ok, Sem.run_pure]
  rfl
end
theorem Sl.via {α : Type} {enc : α → List Value} {s B' : Nat} {a b c : World} {v : Value} {l : List α} (h : Sl enc s B' b v l) (hb : Below B' a b) (hc : Below B' a c) : Sl enc s B' c v l := by
  obtain ⟨ao, cap, hv, hlc, he⟩ := h
  refine ⟨ao, cap, hv, hlc, fun j x hx => ?_⟩
  obtain ⟨b', o, h1, h2, h3⟩ := he j x hx
  exact ⟨b', o, h1, h2, fun k u hu => by rw [hc.cell (p := ⟨b', _, none⟩) h2, ← hb.cell (p := ⟨b', _, none⟩) h2]; exact h3 k u hu⟩
def evE (l : List Ev) : List Value := l.flatMap fun e => (evC e).toList
def paE (l : List Int) : List Value := l.map fun x => Value.int .i64 x
theorem evE_snoc (l : List Ev) (e : Ev) : evE l ++ (evC e).toList = evE (l ++ [e]) := by simp [evE]
theorem paE_snoc (l : List Int) (x : Int) : paE l ++ [Value.int .i64 x] = paE (l ++ [x]) := by simp [paE]
def spanM (i : Ins) (r : Nat → Int) : Int := maskR (placeR (B i.off) (B (orR r i.index 0)) i.size) i.size
def acc5 (i : Ins) (r : Nat → Int) (n p : Int) : Ev := ⟨0, n, p, 5, i.loc, spanM i r, false, true, 0, I (getR (B (orR r i.a i.imm)) 0 i.size), i.acq, i.weak, i.rel, i.pred, i.succ⟩
def acc4 (i : Ins) (r : Nat → Int) (n p x : Int) : Ev := ⟨0, n, p, 4, i.loc, spanM i r, true, false, I (getR (B x) 0 i.size), 0, i.acq, i.weak, i.rel, i.pred, i.succ⟩
def acc6 (i : Ins) (r : Nat → Int) (k : Nat) (n p x : Int) : Ev := ⟨0, n, p, 6, i.loc, spanM i r, true, true, I (getR (B x) 0 i.size), I (rmwR i.fn (B (I (getR (B x) 0 i.size))) (B (r k)) i.size), i.acq, i.weak, i.rel, i.pred, i.succ⟩
theorem one_slice {v : Value} {n : Nat} (h : ∃ ao cap, v = .slice ao n cap) : v.oneCell' = true := by obtain ⟨_, _, rfl⟩ := h; rfl
def brP (r : Nat → Int) (k : Nat) (i : Ins) (p : Int) : Int := if (r k == 0) = i.zero then i.to else p + 1
theorem b_eqb {P : Program} {t : TypeId} (x y : Operand) (a b r : Bool) (w : World) (ht : P.underlying t = some .bool) (h : (a == b) = r) : (eqGuard .eql t x y (.bool a) (.bool b)).run P w = .ok () w ∧ (binOp .eql t (.bool a) (.bool b)).run P w = .ok (.bool r) w := by
  subst h; exact ⟨by simp [eqGuard], run_eql_bool w t a b ht⟩
/-- a walk under way in memory: its struct in block g, its rows in memory from B on, what it reads below B -/
structure WS (B g : Nat) (w : World) (p : Int) (r : Nat → Int) (rds : List Int) (evs : List Ev) (path : List Int) (rd ev pa : Value) : Prop where
  hb : Blk w g (walkC p r rd ev pa) 62
  hge : B ≤ g
  hrd : Sl intE 1 B w rd rds
  hev : w.ownsRow B 52 15 ev evs.length (evE evs)
  hpa : w.ownsRow B 3 1 pa path.length (paE path)
  oe : ev.ownBlock ≠ some g
  op : pa.ownBlock ≠ some g
  ap : ∀ k, pa.ownBlock = some k → ev.ownBlock ≠ some k
end Go.Proofs.Ytlhompedcphnnaa
