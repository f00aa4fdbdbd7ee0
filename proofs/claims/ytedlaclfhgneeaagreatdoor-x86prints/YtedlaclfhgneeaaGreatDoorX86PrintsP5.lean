/- A reader of instructions: an instruction. -/
import Derived.Test.YtedlaclfhgneeaaGreatDoorX86PrintsP4
namespace Go.Proofs.YtedlaclfhgneeaaGreatDoor
open Go.RowKit
set_option linter.unusedVariables false
set_option linter.unusedSimpArgs false
set_option maxRecDepth 100000
set_option maxHeartbeats 2000000
set_option simprocs false
def n1 (ws : List Tk) (k : Nat) (z : Ps) : Ps := if (k : Int) > 0 then z.wa (mkA ws z.as [44]) else z
def nxR (g : Lg) (ws : List Tk) (k : Nat) (R : List Rw) (z : Ps) : List Rw := lft g k (ws.getD (n1 ws k z).p tok0) R
def nxS (g : Lg) (ws : List Tk) (k : Nat) (R : List Rw) (z : Ps) : Ps := if (((nxR g ws k R z).length : Nat) : Int) > 0 then ptS g ws (((nxR g ws k R z).getD (0 : Int).toNat Rw.z).ps.getD k 0) (beS g ws k R (n1 ws k z)) else beS g ws k R (n1 ws k z)
def goB (R : List Rw) (k : Nat) : Bool := (decide (((R.length : Nat) : Int) > 0)) && (decide ((k : Int) < (((R.getD (0 : Int).toNat Rw.z).ps.length : Nat) : Int)))
def inst (g : Lg) (ws : List Tk) : Nat → Nat → List Rw → Ps → Ps × List Rw
  | 0, k, R, z => (z, R)
  | f + 1, k, R, z => if goB R k = true then inst g ws f (k + 1) (nxR g ws k R z) (nxS g ws k R z) else (z, R)
def inN (g : Lg) (ws : List Tk) (L : List Rw) (s : Ps) : Nat := ((naR g ws L s).getD 0 Rw.z).ps.length
def inF (g : Lg) (ws : List Tk) (L : List Rw) (s : Ps) : Ps × List Rw := inst g ws (inN g ws L s + 1) 0 (naR g ws L s) (naS g ws L s)
def zIn : In := ⟨0, 0, 0, 0, 0, 0, 0, 0, 0, 0, false, false, false, 0, 0, 0, false⟩
def inI (g : Lg) (ws : List Tk) (L : List Rw) (s : Ps) : In := if (((inF g ws L s).2.length : Nat) : Int) = 0 then zIn else ((inF g ws L s).2.getD (0 : Int).toNat Rw.z).lay (inF g ws L s).1.ins
structure InI (g : Lg) (ws : List Tk) (L : List Rw) (N0 : Nat) (res : Ps × List Rw) (k : Nat) (z : Ps) (R : List Rw) : Prop where
  le : z.p ≤ ws.length
  sub : ∀ r ∈ R, r ∈ L
  n : ∀ r ∈ R, r.ps.length = N0
  ln : R.length ≤ 100000
  rn : ∃ f, inst g ws f k R z = res ∧ N0 < f + k
section
variable {g : Lg} {ws : List Tk} {L R : List Rw} {N0 k : Nat} {res : Ps × List Rw} {z : Ps} {w : World} {ks : List Nat}
theorem n1_le (h : z.p ≤ ws.length) : (n1 ws k z).p ≤ ws.length := by
  unfold n1; split
  · exact mkA_le (s := z.as) h
  · exact h
theorem nx_le (h : z.p ≤ ws.length) : (nxS g ws k R z).p ≤ ws.length := by
  unfold nxS; split
  · exact ptS_le (beS_le (n1_le h))
  · exact beS_le (n1_le h)
theorem goB_and (h : goB R k = true) : 0 < R.length ∧ k < (R.getD 0 Rw.z).ps.length := by
  unfold goB at h; rw [Bool.and_eq_true, decide_eq_true_eq, decide_eq_true_eq] at h
  have e : (0 : Int).toNat = 0 := rfl
  rw [e] at h; omega
theorem r0_mem (h : 0 < R.length) : R.getD 0 Rw.z ∈ R := by rw [List.getD_eq_getElem?_getD, List.getElem?_eq_getElem h]; exact List.getElem_mem h
theorem lft_in {t : Tk} {r : Rw} (h : r ∈ lft g k t R) : r ∈ R := (List.mem_filter.1 h).1
theorem nxR_in {r : Rw} (h : r ∈ nxR g ws k R z) : r ∈ R := (List.mem_filter.1 h).1
theorem InI.lt (hN : InI g ws L N0 res k z R) (h : goB R k = true) : k < N0 := by
  have h2 := goB_and h
  rw [hN.n _ (r0_mem h2.1)] at h2; exact h2.2
theorem InI.q (hN : InI g ws L N0 res k z R) (h : goB R k = true) : ∀ r ∈ R, k < r.ps.length := fun r hr => by rw [hN.n r hr]; exact hN.lt h
theorem InI.nx (hN : InI g ws L N0 res k z R) (h : goB R k = true) : InI g ws L N0 res (k + 1) (nxS g ws k R z) (nxR g ws k R z) := by
  obtain ⟨f, h1, h2⟩ := hN.rn
  refine ⟨nx_le hN.le, fun r hr => hN.sub r (nxR_in hr), fun r hr => hN.n r (nxR_in hr), Nat.le_trans (List.length_filter_le _ _) hN.ln, ?_⟩
  cases f with
  | zero => have := hN.lt h; omega
  | succ f => unfold inst at h1; rw [if_pos h] at h1; exact ⟨f, h1, by omega⟩
theorem InI.fi (hN : InI g ws L N0 res k z R) (h : goB R k = false) : res = (z, R) := by
  obtain ⟨f, h1, h2⟩ := hN.rn
  cases f with
  | zero => exact h1.symm
  | succ f => unfold inst at h1; rw [h] at h1; exact h1.symm
theorem InI.i0 {s : Ps} (hk : s.p ≤ ws.length) (hs : ∀ r ∈ naR g ws L s, ∀ q ∈ naR g ws L s, r.ps.length = q.ps.length) (hL : L.length ≤ 100000) : InI g ws L (inN g ws L s) (inF g ws L s) 0 (naS g ws L s) (naR g ws L s) := by
  have hsub : ∀ r ∈ naR g ws L s, r ∈ L := fun r hr => by
    unfold naR at hr
    split at hr
    · unfold naZ zK at hr
      rcases zK_in _ _ _ hr with h | h
      · cases h
      · exact List.mem_of_mem_take h
    · cases hr
  refine ⟨naS_le hk, hsub, fun r hr => hs r hr _ (r0_mem (List.length_pos_of_mem hr)), ?_, _, rfl, by omega⟩
  unfold naR
  split
  · have := zK_len (g := g) (q := (ws.getD s.p tok0).text) (L := L) (z := s.ins.sz) (k := L.length)
    unfold naZ; omega
  · exact Nat.zero_le _
theorem Tbl.sub (h : Tbl L w ks) (hs : ∀ r ∈ R, r ∈ L) : Tbl R w ks := fun r hr => h r (hs r hr)
end
theorem PrI.t {os : List (Nat × Obj)} {L : List Rw} {w : World} {ks : List Nat} (h : PrI os L w ks) : Tbl L w ks := h.1
theorem PrI.g {os : List (Nat × Obj)} {L : List Rw} {w : World} {ks : List Nat} (h : PrI os L w ks) : Gl os w ks := h.2
theorem instruction_ (g : Lg) (L : List Rw) (c : Nat) (ws : List Tk) (cw : Nat) (s : Ps) (hk : s.p ≤ ws.length) (hn : ws.length ≤ 1000000) (hw : WsOK ws) (os : List (Nat × Obj)) (hM : ∀ w ks, Gl os w ks → ∃ m, w.cell? ⟨0, 0, none⟩ = some (.int .i64 m)) (hm : ∀ r ∈ L, NmOK g r.nm) (hL : L.length ≤ 100000) (hs : ∀ r ∈ naR g ws L s, ∀ q ∈ naR g ws L s, r.ps.length = q.ps.length) (hN0 : inN g ws L s ≤ 1000) : FnI (PrI os L) Tryz.prog 60 [.ptr 0 0] [some (.blk (rdS g L.length c s.ins s.lab 1 4)), some (.blk [.ptr 2 0, .int .i64 s.e, .int .i64 s.a]), some (.blk [.sl 3 ws.length cw, .int .i64 ((s.p : Nat) : Int)]), some (.lst 4 ws.length (fun zz => tkc (ws.getD zz tok0))), some (.lst 20 L.length (fun zz => rwc (L.getD zz Rw.z)))] (Rt (.agg (inQ9 (inI g ws L s))) [some (.blk (rdS g L.length c (((inF g ws L s).1).ins) (((inF g ws L s).1).lab) 1 4)), some (.blk [.ptr 2 0, .int .i64 (((inF g ws L s).1).e), .int .i64 (((inF g ws L s).1).a)]), some (.blk [.sl 3 ws.length cw, .int .i64 ((((inF g ws L s).1).p : Nat) : Int)]), some (.lst 4 ws.length (fun zz => tkc (ws.getD zz tok0))), some (.lst 20 L.length (fun zz => rwc (L.getD zz Rw.z)))]) :=
 enterI (n := 56) (by kernel_rfl) Tryz.func60 rfl rfl rfl fun G w a h0 hI A => N hX 8 A rfl rfl fun A => CALLI [0, 1, 2, 3, 4] Gl.ok hI.g (named_ g L c ws cw s hk hn hw os hM hm hL) A rfl rfl rfl rfl rfl rfl rfl fun A => N hX 10 A rfl rfl fun A => LOOP3 (fun (k : Nat) (z : Ps) (R : List Rw) => [(0, .ptr 0 0), (2, .ptr 5 0), (3, .sl 6 R.length 0), (4, .int .i64 (k : Int))]) (fun (k : Nat) (z : Ps) (R : List Rw) => [some (.blk (rdS g L.length c z.ins z.lab 1 4)), some (.blk [.ptr 2 0, .int .i64 z.e, .int .i64 z.a]), some (.blk [.sl 3 ws.length cw, .int .i64 ((z.p : Nat) : Int)]), some (.lst 4 ws.length (fun zz => tkc (ws.getD zz tok0))), some (.lst 20 L.length (fun zz => rwc (L.getD zz Rw.z))), some (.blk [.int .i64 0, .int .i64 0, .int .i64 0, .int .i64 0, .int .i64 0, .int .i64 0, .int .i64 0, .int .i64 0, .int .i64 0, .int .i64 0, .ff, .ff, .ff, .int .i64 0, .int .i64 0, .int .i64 0, .ff]), some (.row 109 20 R.length 0 (fun zz => rwc (R.getD zz Rw.z)))]) (fun (k : Nat) (z : Ps) (R : List Rw) => InI g ws L (inN g ws L s) (inF g ws L s) k z R) (fun (k : Nat) (z : Ps) (R : List Rw) => inN g ws L s - k) 0 (naS g ws L s) (naR g ws L s) (InI.i0 hk hs hL) ((A.cut [0, 2, 3, 4] rfl).trunc 7 rfl rfl rfl (by simp only [List.length_cons, List.length_nil] at h0; omega)) fun k z R hN {G a w} A => N hX 17 A rfl (ok_r <| ok_g (fun hg => (by have z2 := of_decide_eq_true hg; omega)) <| ok_r <| ok_g (fun hg => (by have z2 := of_decide_eq_true hg; omega)) <| ok_r <| ok_g (fun hg => (by have z2 := of_decide_eq_true hg; omega)) <| ok_r <| ok_r <| ok_r <| ok_r <| okE_nil) fun A => fork 18 A rfl
   (fun h1 A => N hX 12 A rfl rfl fun A => forkD 22 A rfl
    (fun h2 A => N hX 6 A rfl rfl fun A => CALL1 [1, 2, 3] (mark_ ws cw z.as [44] (by first | exact hN.le | exact mkA_le (s := z.as) hN.le | exact beS_le hN.le | exact beS_le (mkA_le (s := z.as) hN.le)) hn hw) A rfl rfl rfl rfl rfl rfl rfl fun A => N hX 7 A rfl rfl fun A => CALLI [0, 1, 2, 3, 4, 6] Tbl.ok (hI.t.sub hN.sub) (beginning_ g L c ws cw (Ps.wa z (mkA ws z.as [44])) R k (by first | exact hN.le | exact mkA_le (s := z.as) hN.le | exact beS_le hN.le | exact beS_le (mkA_le (s := z.as) hN.le)) hn hw (hN.q h1) hN.ln) A rfl rfl rfl rfl rfl rfl rfl fun A => N hX 10 A rfl rfl fun A => forkD 34 A rfl
     (fun h3 A => N hX 7 A rfl (ok_d (by have q1 := hN.lt h1; have q2 := goB_and (R := R) (k := k) h1; have q3 := hN.ln; have q4 : inN g ws L s ≤ 1000 := hN0; have q5 := hN.q h1 _ (lft_in (r0_mem (R := (lft g k (ws.getD (Ps.wa z (mkA ws z.as [44])).p tok0) R)) (by omega))); have e0 : (0 : Int).toNat = 0 := rfl; rw [← e0] at q5; omega) <| ok_d (by have q1 := hN.lt h1; have q2 := goB_and (R := R) (k := k) h1; have q3 := hN.ln; have q4 : inN g ws L s ≤ 1000 := hN0; have q5 := hN.q h1 _ (lft_in (r0_mem (R := (lft g k (ws.getD (Ps.wa z (mkA ws z.as [44])).p tok0) R)) (by omega))); have e0 : (0 : Int).toNat = 0 := rfl; rw [← e0] at q5; omega) <| ok_d (by have q1 := hN.lt h1; have q2 := goB_and (R := R) (k := k) h1; have q3 := hN.ln; have q4 : inN g ws L s ≤ 1000 := hN0; have q5 := hN.q h1 _ (lft_in (r0_mem (R := (lft g k (ws.getD (Ps.wa z (mkA ws z.as [44])).p tok0) R)) (by omega))); have e0 : (0 : Int).toNat = 0 := rfl; rw [← e0] at q5; omega) <| okE_nil) fun A => ADOPT (y := .sl 7 (((lft g k (ws.getD (Ps.wa z (mkA ws z.as [44])).p tok0) R).getD ((0 : Int).toNat) Rw.z).ps.length) (((lft g k (ws.getD (Ps.wa z (mkA ws z.as [44])).p tok0) R).getD ((0 : Int).toNat) Rw.z).cp)) (H' := [some (.blk (rdS g L.length c ((beS g ws k R (Ps.wa z (mkA ws z.as [44]))).ins) ((beS g ws k R (Ps.wa z (mkA ws z.as [44]))).lab) 1 4)), some (.blk [.ptr 2 0, .int .i64 ((beS g ws k R (Ps.wa z (mkA ws z.as [44]))).e), .int .i64 ((beS g ws k R (Ps.wa z (mkA ws z.as [44]))).a)]), some (.blk [.sl 3 ws.length cw, .int .i64 (((beS g ws k R (Ps.wa z (mkA ws z.as [44]))).p : Nat) : Int)]), some (.lst 4 ws.length (fun zz => tkc (ws.getD zz tok0))), some (.lst 20 L.length (fun zz => rwc (L.getD zz Rw.z))), some (.blk [.int .i64 0, .int .i64 0, .int .i64 0, .int .i64 0, .int .i64 0, .int .i64 0, .int .i64 0, .int .i64 0, .int .i64 0, .int .i64 0, .ff, .ff, .ff, .int .i64 0, .int .i64 0, .int .i64 0, .ff]), some (.row 109 20 ((lft g k (ws.getD (Ps.wa z (mkA ws z.as [44])).p tok0) R).length) 0 (fun zz => rwc ((lft g k (ws.getD (Ps.wa z (mkA ws z.as [44])).p tok0) R).getD zz Rw.z))), some (.lst 1 ((((lft g k (ws.getD (Ps.wa z (mkA ws z.as [44])).p tok0) R).getD ((0 : Int).toNat) Rw.z).ps).length) (fun j => [.int .i64 ((((lft g k (ws.getD (Ps.wa z (mkA ws z.as [44])).p tok0) R).getD ((0 : Int).toNat) Rw.z).ps).getD j 0)]))]) 39 (hI.t _ (hN.sub _ (lft_in (r0_mem (R := (lft g k (ws.getD (Ps.wa z (mkA ws z.as [44])).p tok0) R)) (by omega))))) A rfl rfl rfl rfl fun A => N hX 3 A rfl (ok_d (by have q1 := hN.lt h1; have q2 := goB_and (R := R) (k := k) h1; have q3 := hN.ln; have q4 : inN g ws L s ≤ 1000 := hN0; have q5 := hN.q h1 _ (lft_in (r0_mem (R := (lft g k (ws.getD (Ps.wa z (mkA ws z.as [44])).p tok0) R)) (by omega))); have e0 : (0 : Int).toNat = 0 := rfl; rw [← e0] at q5; omega) <| ok_d (by have q1 := hN.lt h1; have q2 := goB_and (R := R) (k := k) h1; have q3 := hN.ln; have q4 : inN g ws L s ≤ 1000 := hN0; have q5 := hN.q h1 _ (lft_in (r0_mem (R := (lft g k (ws.getD (Ps.wa z (mkA ws z.as [44])).p tok0) R)) (by omega))); have e0 : (0 : Int).toNat = 0 := rfl; rw [← e0] at q5; omega) <| okE_nil) fun A => CALL1 [0, 1, 2, 3, 4] (part_ g L c ws cw (beS g ws k R (Ps.wa z (mkA ws z.as [44]))) ((((lft g k (ws.getD (Ps.wa z (mkA ws z.as [44])).p tok0) R).getD ((0 : Int).toNat) Rw.z).ps).getD (((k : Int)).toNat) 0) (by first | exact hN.le | exact mkA_le (s := z.as) hN.le | exact beS_le hN.le | exact beS_le (mkA_le (s := z.as) hN.le)) hn hw) A rfl rfl rfl rfl rfl rfl rfl fun A => N hX 8 A rfl (ok_d (by have q1 := hN.lt h1; have q2 := goB_and (R := R) (k := k) h1; have q3 := hN.ln; have q4 : inN g ws L s ≤ 1000 := hN0; have q5 := hN.q h1 _ (lft_in (r0_mem (R := (lft g k (ws.getD (Ps.wa z (mkA ws z.as [44])).p tok0) R)) (by omega))); have e0 : (0 : Int).toNat = 0 := rfl; rw [← e0] at q5; omega) <| okE_nil) fun A => ⟨k + 1, (nxS g ws k R z), (nxR g ws k R z), _, (by have := hN.lt h1; omega), (hN.nx h1), ((((A.sayH (H' := [some (.blk (rdS g L.length c ((nxS g ws k R z).ins) ((nxS g ws k R z).lab) 1 4)), some (.blk [.ptr 2 0, .int .i64 ((nxS g ws k R z).e), .int .i64 ((nxS g ws k R z).a)]), some (.blk [.sl 3 ws.length cw, .int .i64 (((nxS g ws k R z).p : Nat) : Int)]), some (.lst 4 ws.length (fun zz => tkc (ws.getD zz tok0))), some (.lst 20 L.length (fun zz => rwc (L.getD zz Rw.z))), some (.blk [.int .i64 0, .int .i64 0, .int .i64 0, .int .i64 0, .int .i64 0, .int .i64 0, .int .i64 0, .int .i64 0, .int .i64 0, .int .i64 0, .ff, .ff, .ff, .int .i64 0, .int .i64 0, .int .i64 0, .ff]), some (.row 109 20 ((nxR g ws k R z).length) 0 (fun zz => rwc ((nxR g ws k R z).getD zz Rw.z))), some (.lst 1 ((((lft g k (ws.getD (Ps.wa z (mkA ws z.as [44])).p tok0) R).getD ((0 : Int).toNat) Rw.z).ps).length) (fun j => [.int .i64 ((((lft g k (ws.getD (Ps.wa z (mkA ws z.as [44])).p tok0) R).getD ((0 : Int).toNat) Rw.z).ps).getD j 0)]))]) (by unfold nxS; rw [if_pos (show (((nxR g ws k R z).length : Nat) : Int) > 0 from (by unfold nxR n1; rw [if_pos h2]; exact h3))]; unfold nxR n1; rw [if_pos h2] <;> rfl)).say 3 (.sl 6 ((nxR g ws k R z).length) 0) rfl (by unfold nxR n1; rw [if_pos h2] <;> rfl)).cut [0, 2, 3, 4] rfl).trunc 7 rfl rfl rfl (by simp only [List.length_cons, List.length_nil] at h0; omega))⟩)
     (fun h3 A => N hX 9 A rfl (ok_d (by have q1 := hN.lt h1; have q2 := goB_and (R := R) (k := k) h1; have q3 := hN.ln; have q4 : inN g ws L s ≤ 1000 := hN0; omega) <| okE_nil) fun A => ⟨k + 1, (nxS g ws k R z), (nxR g ws k R z), _, (by have := hN.lt h1; omega), (hN.nx h1), ((((A.sayH (H' := [some (.blk (rdS g L.length c ((nxS g ws k R z).ins) ((nxS g ws k R z).lab) 1 4)), some (.blk [.ptr 2 0, .int .i64 ((nxS g ws k R z).e), .int .i64 ((nxS g ws k R z).a)]), some (.blk [.sl 3 ws.length cw, .int .i64 (((nxS g ws k R z).p : Nat) : Int)]), some (.lst 4 ws.length (fun zz => tkc (ws.getD zz tok0))), some (.lst 20 L.length (fun zz => rwc (L.getD zz Rw.z))), some (.blk [.int .i64 0, .int .i64 0, .int .i64 0, .int .i64 0, .int .i64 0, .int .i64 0, .int .i64 0, .int .i64 0, .int .i64 0, .int .i64 0, .ff, .ff, .ff, .int .i64 0, .int .i64 0, .int .i64 0, .ff]), some (.row 109 20 ((nxR g ws k R z).length) 0 (fun zz => rwc ((nxR g ws k R z).getD zz Rw.z)))]) (by unfold nxS; rw [if_neg (show ¬ (((nxR g ws k R z).length : Nat) : Int) > 0 from (by unfold nxR n1; rw [if_pos h2]; exact h3))]; unfold nxR n1; rw [if_pos h2] <;> rfl)).say 3 (.sl 6 ((nxR g ws k R z).length) 0) rfl (by unfold nxR n1; rw [if_pos h2] <;> rfl)).cut [0, 2, 3, 4] rfl).trunc 7 rfl rfl rfl (by simp only [List.length_cons, List.length_nil] at h0; omega))⟩))
    (fun h2 A => N hX 8 A rfl rfl fun A => CALLI [0, 1, 2, 3, 4, 6] Tbl.ok (hI.t.sub hN.sub) (beginning_ g L c ws cw z R k (by first | exact hN.le | exact mkA_le (s := z.as) hN.le | exact beS_le hN.le | exact beS_le (mkA_le (s := z.as) hN.le)) hn hw (hN.q h1) hN.ln) A rfl rfl rfl rfl rfl rfl rfl fun A => N hX 10 A rfl rfl fun A => forkD 34 A rfl
     (fun h4 A => N hX 7 A rfl (ok_d (by have q1 := hN.lt h1; have q2 := goB_and (R := R) (k := k) h1; have q3 := hN.ln; have q4 : inN g ws L s ≤ 1000 := hN0; have q5 := hN.q h1 _ (lft_in (r0_mem (R := (lft g k (ws.getD z.p tok0) R)) (by omega))); have e0 : (0 : Int).toNat = 0 := rfl; rw [← e0] at q5; omega) <| ok_d (by have q1 := hN.lt h1; have q2 := goB_and (R := R) (k := k) h1; have q3 := hN.ln; have q4 : inN g ws L s ≤ 1000 := hN0; have q5 := hN.q h1 _ (lft_in (r0_mem (R := (lft g k (ws.getD z.p tok0) R)) (by omega))); have e0 : (0 : Int).toNat = 0 := rfl; rw [← e0] at q5; omega) <| ok_d (by have q1 := hN.lt h1; have q2 := goB_and (R := R) (k := k) h1; have q3 := hN.ln; have q4 : inN g ws L s ≤ 1000 := hN0; have q5 := hN.q h1 _ (lft_in (r0_mem (R := (lft g k (ws.getD z.p tok0) R)) (by omega))); have e0 : (0 : Int).toNat = 0 := rfl; rw [← e0] at q5; omega) <| okE_nil) fun A => ADOPT (y := .sl 7 (((lft g k (ws.getD z.p tok0) R).getD ((0 : Int).toNat) Rw.z).ps.length) (((lft g k (ws.getD z.p tok0) R).getD ((0 : Int).toNat) Rw.z).cp)) (H' := [some (.blk (rdS g L.length c ((beS g ws k R z).ins) ((beS g ws k R z).lab) 1 4)), some (.blk [.ptr 2 0, .int .i64 ((beS g ws k R z).e), .int .i64 ((beS g ws k R z).a)]), some (.blk [.sl 3 ws.length cw, .int .i64 (((beS g ws k R z).p : Nat) : Int)]), some (.lst 4 ws.length (fun zz => tkc (ws.getD zz tok0))), some (.lst 20 L.length (fun zz => rwc (L.getD zz Rw.z))), some (.blk [.int .i64 0, .int .i64 0, .int .i64 0, .int .i64 0, .int .i64 0, .int .i64 0, .int .i64 0, .int .i64 0, .int .i64 0, .int .i64 0, .ff, .ff, .ff, .int .i64 0, .int .i64 0, .int .i64 0, .ff]), some (.row 109 20 ((lft g k (ws.getD z.p tok0) R).length) 0 (fun zz => rwc ((lft g k (ws.getD z.p tok0) R).getD zz Rw.z))), some (.lst 1 ((((lft g k (ws.getD z.p tok0) R).getD ((0 : Int).toNat) Rw.z).ps).length) (fun j => [.int .i64 ((((lft g k (ws.getD z.p tok0) R).getD ((0 : Int).toNat) Rw.z).ps).getD j 0)]))]) 39 (hI.t _ (hN.sub _ (lft_in (r0_mem (R := (lft g k (ws.getD z.p tok0) R)) (by omega))))) A rfl rfl rfl rfl fun A => N hX 3 A rfl (ok_d (by have q1 := hN.lt h1; have q2 := goB_and (R := R) (k := k) h1; have q3 := hN.ln; have q4 : inN g ws L s ≤ 1000 := hN0; have q5 := hN.q h1 _ (lft_in (r0_mem (R := (lft g k (ws.getD z.p tok0) R)) (by omega))); have e0 : (0 : Int).toNat = 0 := rfl; rw [← e0] at q5; omega) <| ok_d (by have q1 := hN.lt h1; have q2 := goB_and (R := R) (k := k) h1; have q3 := hN.ln; have q4 : inN g ws L s ≤ 1000 := hN0; have q5 := hN.q h1 _ (lft_in (r0_mem (R := (lft g k (ws.getD z.p tok0) R)) (by omega))); have e0 : (0 : Int).toNat = 0 := rfl; rw [← e0] at q5; omega) <| okE_nil) fun A => CALL1 [0, 1, 2, 3, 4] (part_ g L c ws cw (beS g ws k R z) ((((lft g k (ws.getD z.p tok0) R).getD ((0 : Int).toNat) Rw.z).ps).getD (((k : Int)).toNat) 0) (by first | exact hN.le | exact mkA_le (s := z.as) hN.le | exact beS_le hN.le | exact beS_le (mkA_le (s := z.as) hN.le)) hn hw) A rfl rfl rfl rfl rfl rfl rfl fun A => N hX 8 A rfl (ok_d (by have q1 := hN.lt h1; have q2 := goB_and (R := R) (k := k) h1; have q3 := hN.ln; have q4 : inN g ws L s ≤ 1000 := hN0; have q5 := hN.q h1 _ (lft_in (r0_mem (R := (lft g k (ws.getD z.p tok0) R)) (by omega))); have e0 : (0 : Int).toNat = 0 := rfl; rw [← e0] at q5; omega) <| okE_nil) fun A => ⟨k + 1, (nxS g ws k R z), (nxR g ws k R z), _, (by have := hN.lt h1; omega), (hN.nx h1), ((((A.sayH (H' := [some (.blk (rdS g L.length c ((nxS g ws k R z).ins) ((nxS g ws k R z).lab) 1 4)), some (.blk [.ptr 2 0, .int .i64 ((nxS g ws k R z).e), .int .i64 ((nxS g ws k R z).a)]), some (.blk [.sl 3 ws.length cw, .int .i64 (((nxS g ws k R z).p : Nat) : Int)]), some (.lst 4 ws.length (fun zz => tkc (ws.getD zz tok0))), some (.lst 20 L.length (fun zz => rwc (L.getD zz Rw.z))), some (.blk [.int .i64 0, .int .i64 0, .int .i64 0, .int .i64 0, .int .i64 0, .int .i64 0, .int .i64 0, .int .i64 0, .int .i64 0, .int .i64 0, .ff, .ff, .ff, .int .i64 0, .int .i64 0, .int .i64 0, .ff]), some (.row 109 20 ((nxR g ws k R z).length) 0 (fun zz => rwc ((nxR g ws k R z).getD zz Rw.z))), some (.lst 1 ((((lft g k (ws.getD z.p tok0) R).getD ((0 : Int).toNat) Rw.z).ps).length) (fun j => [.int .i64 ((((lft g k (ws.getD z.p tok0) R).getD ((0 : Int).toNat) Rw.z).ps).getD j 0)]))]) (by unfold nxS; rw [if_pos (show (((nxR g ws k R z).length : Nat) : Int) > 0 from (by unfold nxR n1; rw [if_neg h2]; exact h4))]; unfold nxR n1; rw [if_neg h2] <;> rfl)).say 3 (.sl 6 ((nxR g ws k R z).length) 0) rfl (by unfold nxR n1; rw [if_neg h2] <;> rfl)).cut [0, 2, 3, 4] rfl).trunc 7 rfl rfl rfl (by simp only [List.length_cons, List.length_nil] at h0; omega))⟩)
     (fun h4 A => N hX 9 A rfl (ok_d (by have q1 := hN.lt h1; have q2 := goB_and (R := R) (k := k) h1; have q3 := hN.ln; have q4 : inN g ws L s ≤ 1000 := hN0; omega) <| okE_nil) fun A => ⟨k + 1, (nxS g ws k R z), (nxR g ws k R z), _, (by have := hN.lt h1; omega), (hN.nx h1), ((((A.sayH (H' := [some (.blk (rdS g L.length c ((nxS g ws k R z).ins) ((nxS g ws k R z).lab) 1 4)), some (.blk [.ptr 2 0, .int .i64 ((nxS g ws k R z).e), .int .i64 ((nxS g ws k R z).a)]), some (.blk [.sl 3 ws.length cw, .int .i64 (((nxS g ws k R z).p : Nat) : Int)]), some (.lst 4 ws.length (fun zz => tkc (ws.getD zz tok0))), some (.lst 20 L.length (fun zz => rwc (L.getD zz Rw.z))), some (.blk [.int .i64 0, .int .i64 0, .int .i64 0, .int .i64 0, .int .i64 0, .int .i64 0, .int .i64 0, .int .i64 0, .int .i64 0, .int .i64 0, .ff, .ff, .ff, .int .i64 0, .int .i64 0, .int .i64 0, .ff]), some (.row 109 20 ((nxR g ws k R z).length) 0 (fun zz => rwc ((nxR g ws k R z).getD zz Rw.z)))]) (by unfold nxS; rw [if_neg (show ¬ (((nxR g ws k R z).length : Nat) : Int) > 0 from (by unfold nxR n1; rw [if_neg h2]; exact h4))]; unfold nxR n1; rw [if_neg h2] <;> rfl)).say 3 (.sl 6 ((nxR g ws k R z).length) 0) rfl (by unfold nxR n1; rw [if_neg h2] <;> rfl)).cut [0, 2, 3, 4] rfl).trunc 7 rfl rfl rfl (by simp only [List.length_cons, List.length_nil] at h0; omega))⟩)))
   (fun h1 A => N hX 11 A rfl rfl fun A => forkE 46 A rfl
    (fun h5 A => N hX 8 A rfl rfl fun A => have hres := hN.fi h1; RETN hX A rfl rfl rfl h0 rfl rfl rfl rfl (by unfold inI; rw [hres, if_pos h5] <;> rfl) (by rw [hres] <;> rfl))
    (fun h5 A => N hX 4 A rfl rfl fun A => ANY hmo [.sl 6 R.length 0, .el 6 20 0 0, .agg [.str ((R.getD ((0 : Int).toNat) Rw.z).nm), .str ((R.getD ((0 : Int).toNat) Rw.z).wd), .int .i64 ((R.getD ((0 : Int).toNat) Rw.z).ins.op), .int .i64 ((R.getD ((0 : Int).toNat) Rw.z).ins.dst), .int .i64 ((R.getD ((0 : Int).toNat) Rw.z).ins.ra), .int .i64 ((R.getD ((0 : Int).toNat) Rw.z).ins.rb), .int .i64 ((R.getD ((0 : Int).toNat) Rw.z).ins.imm), .int .i64 ((R.getD ((0 : Int).toNat) Rw.z).ins.loc), .int .i64 ((R.getD ((0 : Int).toNat) Rw.z).ins.off), .int .i64 ((R.getD ((0 : Int).toNat) Rw.z).ins.ix), .int .i64 ((R.getD ((0 : Int).toNat) Rw.z).ins.sz), .int .i64 ((R.getD ((0 : Int).toNat) Rw.z).ins.fn), .bool ((R.getD ((0 : Int).toNat) Rw.z).ins.acq), .bool ((R.getD ((0 : Int).toNat) Rw.z).ins.weak), .bool ((R.getD ((0 : Int).toNat) Rw.z).ins.rel), .int .i64 ((R.getD ((0 : Int).toNat) Rw.z).ins.pred), .int .i64 ((R.getD ((0 : Int).toNat) Rw.z).ins.succ), .int .i64 ((R.getD ((0 : Int).toNat) Rw.z).ins.to_), .bool ((R.getD ((0 : Int).toNat) Rw.z).ins.zero), .sla ((R.getD ((0 : Int).toNat) Rw.z).pa) ((R.getD ((0 : Int).toNat) Rw.z).ps.length) ((R.getD ((0 : Int).toNat) Rw.z).cp)], .ptr 0 0, .ptr 0 0, .ptr 0 18, .agg (inQ9 z.ins), .agg (inQ9 ((R.getD ((0 : Int).toNat) Rw.z).lay z.ins)), .tup []] [8] [] 0 [([], [], [some (.blk (rdS g L.length c z.ins z.lab 1 4)), some (.blk [.ptr 2 0, .int .i64 z.e, .int .i64 z.a]), some (.blk [.sl 3 ws.length cw, .int .i64 ((z.p : Nat) : Int)]), some (.lst 4 ws.length (fun zz => tkc (ws.getD zz tok0))), some (.lst 20 L.length (fun zz => rwc (L.getD zz Rw.z))), some (.blk [.int .i64 0, .int .i64 0, .int .i64 0, .int .i64 0, .int .i64 0, .int .i64 0, .int .i64 0, .int .i64 0, .int .i64 0, .int .i64 0, .ff, .ff, .ff, .int .i64 0, .int .i64 0, .int .i64 0, .ff]), some (.row 109 20 R.length 0 (fun zz => rwc (R.getD zz Rw.z)))]), ([8], [], [some (.blk (rdS g L.length c z.ins z.lab 1 4)), some (.blk [.ptr 2 0, .int .i64 z.e, .int .i64 z.a]), some (.blk [.sl 3 ws.length cw, .int .i64 ((z.p : Nat) : Int)]), some (.lst 4 ws.length (fun zz => tkc (ws.getD zz tok0))), some (.lst 20 L.length (fun zz => rwc (L.getD zz Rw.z))), some (.blk (inQ9 ((R.getD ((0 : Int).toNat) Rw.z).lay z.ins))), some (.row 109 20 R.length 0 (fun zz => rwc (R.getD zz Rw.z)))])] [[true, true, true, true, true, true, true, true, true], [false, false, false, false, false, false, false, false, false]] A rfl rfl rfl rfl (by kernel_rfl) rfl (by kernel_rfl) ⟨⟨⟨_, _, _, _, 0, rfl, rfl, rfl, rfl, eff_at (eff_auto (X := ⟨_, true⟩) (out := .val _ _) hX rfl rfl) rfl⟩, ⟨⟨_, _, _, _, 0, rfl, rfl, rfl, rfl, eff_at (eff_auto (X := ⟨_, true⟩) (out := .val _ _) hX rfl (ok_d (by omega) <| okE_nil)) rfl⟩, ⟨⟨_, _, _, _, 0, rfl, rfl, rfl, rfl, eff_at (eff_auto (X := ⟨_, true⟩) (out := .val _ _) hX rfl (ok_d (by omega) <| okE_nil)) rfl⟩, ⟨⟨_, _, _, _, 0, rfl, rfl, rfl, rfl, eff_at (eff_auto (X := ⟨_, true⟩) (out := .val _ _) hX rfl rfl) rfl⟩, ⟨⟨_, _, _, _, 0, rfl, rfl, rfl, rfl, eff_at (eff_auto (X := ⟨_, true⟩) (out := .val _ _) hX rfl rfl) rfl⟩, ⟨⟨_, _, _, _, 0, rfl, rfl, rfl, rfl, eff_at (eff_auto (X := ⟨_, true⟩) (out := .val _ _) hX rfl rfl) rfl⟩, ⟨⟨_, _, _, _, 0, rfl, rfl, rfl, rfl, eff_at (eff_auto (X := ⟨_, true⟩) (out := .val _ _) hX rfl rfl) rfl⟩, ⟨⟨_, _, _, _, 0, rfl, rfl, rfl, rfl, eff_at (callIE [] LiesAt.ok (hI.t _ (hN.sub _ (r0_mem (R := R) (by omega)))) (withI_ (R.getD ((0 : Int).toNat) Rw.z) z.ins (by have := hN.n _ (r0_mem (R := R) (by omega)); have e : (0 : Int).toNat = 0 := rfl; rw [e, this]; omega)) rfl rfl rfl rfl rfl rfl rfl) rfl⟩, ⟨⟨_, _, _, _, 1, rfl, rfl, rfl, rfl, eff_at (eff_auto (X := ⟨_, true⟩) (out := .upd 5 (inQ9 ((R.getD ((0 : Int).toNat) Rw.z).lay z.ins)) _) hX rfl rfl) rfl⟩, trivial⟩⟩⟩⟩⟩⟩⟩⟩⟩, ⟨trivial, trivial⟩⟩ fun A => N hX 2 A rfl rfl fun A => have hres := hN.fi h1; RETN hX A rfl rfl rfl h0 rfl rfl rfl rfl (by unfold inI; rw [hres, if_neg h5] <;> rfl) (by rw [hres] <;> rfl)))
end Go.Proofs.YtedlaclfhgneeaaGreatDoor
/- A reader of instructions: new ones. -/
namespace Go.Proofs.YtedlaclfhgneeaaGreatDoor
open Go.RowKit
set_option linter.unusedVariables false
set_option linter.unusedSimpArgs false
set_option maxRecDepth 100000
set_option maxHeartbeats 2000000
set_option simprocs false
theorem clone_ (ws : List Tk) (c : Nat) (hn : ws.length ≤ 1000000) : Fn Tryz.prog 144 [.sl 0 ws.length c] [some (.lst 4 ws.length (fun zz => tkc (ws.getD zz tok0)))] (Rt (.sl 1 ws.length 0) [some (.lst 4 ws.length (fun zz => tkc (ws.getD zz tok0))), some (.row 28 4 ws.length 0 (fun zz => tkc (ws.getD zz tok0)))]) :=
 enterM (n := 8) (by kernel_rfl) Tryz.func144 rfl rfl rfl fun G w a h0 A => N hX 9 A rfl rfl fun A => NILL hX A rfl rfl (fun h1 {G a w} A => N hX 9 A rfl rfl fun A => have A := A.nilRow 2 28 4 (fun zz => tkc (ws.getD zz tok0)) rfl (fun z => ⟨_, rfl, rfl⟩); have A := A.rowAs 1 ws.length (fun zz => tkc (ws.getD zz tok0)) rfl h1 (fun _ _ => rfl) (fun z => ⟨_, rfl, rfl⟩); have A := A.say 2 (.sl 1 ws.length 0) rfl (by rw [h1] <;> rfl); RET hX [1] A ⟨rfl, rfl⟩ rfl rfl rfl rfl rfl rfl rfl rfl h0) (fun {G a w} A => N hX 9 A rfl rfl fun A => APPL hX ws.length (fun zz => tkc (ws.getD zz tok0)) A rfl rfl rfl rfl (Nat.le_refl _) (by omega) hn (by omega) (fun k hk => by omega) (fun k hk => by show tkc _ = tkc _; rw [Nat.zero_add]) (fun z => ⟨_, rfl, rfl⟩) (fun k hk => ⟨_, rfl, okE_nil⟩) fun A => N hX 4 A rfl rfl fun A => RET hX [2] A ⟨rfl, rfl⟩ rfl rfl rfl rfl rfl rfl rfl rfl h0)
theorem scanNew_ (ws : List Tk) (c : Nat) (hn : ws.length ≤ 1000000) : Fn Tryz.prog 103 [.sl 0 ws.length c] [some (.lst 4 ws.length (fun zz => tkc (ws.getD zz tok0)))] (Rt (.ptr 1 0) [some (.lst 4 ws.length (fun zz => tkc (ws.getD zz tok0))), some (.blk [.sl 2 ws.length 0, .int .i64 0]), some (.row 28 4 ws.length 0 (fun zz => tkc (ws.getD zz tok0)))]) :=
 enterM (n := 7) (by kernel_rfl) Tryz.func103 rfl rfl rfl fun G w a h0 A => N hX 8 A rfl rfl fun A => CALL1 [0] (clone_ ws c hn) A rfl rfl rfl rfl rfl rfl rfl fun A => N hX 6 A rfl rfl fun A => RET hX [2, 1] (x := .ptr 1 0) (H' := [some (.lst 4 ws.length (fun zz => tkc (ws.getD zz tok0))), some (.blk [.sl 2 ws.length 0, .int .i64 0]), some (.row 28 4 ws.length 0 (fun zz => tkc (ws.getD zz tok0)))]) A ⟨rfl, rfl⟩ rfl rfl rfl rfl rfl rfl rfl rfl h0
theorem askNew_ (ws : List Tk) (c : Nat) (hn : ws.length ≤ 1000000) : Fn Tryz.prog 58 [.sl 0 ws.length c] [some (.lst 4 ws.length (fun zz => tkc (ws.getD zz tok0)))] (Rt (.ptr 1 0) [some (.lst 4 ws.length (fun zz => tkc (ws.getD zz tok0))), some (.blk [.ptr 2 0, .int .i64 0, .int .i64 0]), some (.blk [.sl 3 ws.length 0, .int .i64 0]), some (.row 28 4 ws.length 0 (fun zz => tkc (ws.getD zz tok0)))]) :=
 enterM (n := 7) (by kernel_rfl) Tryz.func58 rfl rfl rfl fun G w a h0 A => N hX 8 A rfl rfl fun A => CALL1 [0] (scanNew_ ws c hn) A rfl rfl rfl rfl rfl rfl rfl fun A => N hX 6 A rfl rfl fun A => RET hX [3, 1, 2] (x := .ptr 1 0) (H' := [some (.lst 4 ws.length (fun zz => tkc (ws.getD zz tok0))), some (.blk [.ptr 2 0, .int .i64 0, .int .i64 0]), some (.blk [.sl 3 ws.length 0, .int .i64 0]), some (.row 28 4 ws.length 0 (fun zz => tkc (ws.getD zz tok0)))]) A ⟨rfl, rfl⟩ rfl rfl rfl rfl rfl rfl rfl rfl h0
end Go.Proofs.YtedlaclfhgneeaaGreatDoor
/- An instruction read, by any table. -/
namespace Go.Proofs.YtedlaclfhgneeaaGreatDoor
open Go.RowKit
set_option linter.unusedVariables false
set_option linter.unusedSimpArgs false
set_option maxRecDepth 100000
set_option maxHeartbeats 2000000
set_option simprocs false
def Ps.z0 : Ps := ⟨zIn, [], 0, 0, 0⟩
/-- what is told of words by a table: the instruction, its label, what is wrong, where -/
def paE (g : Lg) (ws : List Tk) (L : List Rw) : As := endA ws (inF g ws L Ps.z0).1.as
def parI (g : Lg) (ws : List Tk) (L : List Rw) : In := if (paE g ws L).e ≠ 0 then zIn else if wrongI (inI g ws L Ps.z0) = true then zIn else inI g ws L Ps.z0
def parT (g : Lg) (ws : List Tk) (L : List Rw) : List UInt8 := if (paE g ws L).e ≠ 0 then [] else if wrongI (inI g ws L Ps.z0) = true then [] else (inF g ws L Ps.z0).1.lab
def parE (g : Lg) (ws : List Tk) (L : List Rw) : Int := if (paE g ws L).e ≠ 0 then (paE g ws L).e else if wrongI (inI g ws L Ps.z0) = true then 34 else 0
def parA (g : Lg) (ws : List Tk) (L : List Rw) : Int := if (paE g ws L).e ≠ 0 then (paE g ws L).a else if wrongI (inI g ws L Ps.z0) = true then atW ws 0 else 0
structure PaOK (g : Lg) (ws : List Tk) (L : List Rw) : Prop where
  m : ∀ r ∈ L, NmOK g r.nm
  n : L.length ≤ 100000
  s : ∀ r ∈ naR g ws L Ps.z0, ∀ q ∈ naR g ws L Ps.z0, r.ps.length = q.ps.length
  k : inN g ws L Ps.z0 ≤ 1000
theorem inF_le {g : Lg} {ws : List Tk} {L : List Rw} {s : Ps} (hk : s.p ≤ ws.length) : (inF g ws L s).1.p ≤ ws.length := by
  have : ∀ (f k : Nat) (R : List Rw) (z : Ps), z.p ≤ ws.length → (inst g ws f k R z).1.p ≤ ws.length := by
    intro f
    induction f with
    | zero => intro k R z h; exact h
    | succ f ih =>
      intro k R z h
      unfold inst
      split
      · exact ih _ _ _ (nx_le h)
      · exact h
  exact this _ _ _ _ (naS_le hk)
theorem lparse_ (g : Lg) (L : List Rw) (c : Nat) (ws : List Tk) (d : Nat) (hn : ws.length ≤ 1000000) (hw : WsOK ws) (os : List (Nat × Obj)) (hM : ∀ w ks, Gl os w ks → ∃ m, w.cell? ⟨0, 0, none⟩ = some (.int .i64 m)) (hp : PaOK g ws L) : FnI (PrI os L) Tryz.prog 27 [.agg [.str g.r0, .str g.r1, .str g.r2, .str g.r3, .str g.r4, .str g.r5, .str g.r6, .str g.r7, .str g.l0, .str g.l1, .str g.l2, .str g.l3, .str g.im, .str g.f0, .str g.f1, .str g.f2, .sl 0 L.length c], .sl 1 ws.length d] [some (.lst 20 L.length (fun zz => rwc (L.getD zz Rw.z))), some (.lst 4 ws.length (fun zz => tkc (ws.getD zz tok0)))] (Rt (.tup [.agg (inQ9 (parI g ws L)), .str (parT g ws L), .int .i64 (parE g ws L), .int .i64 (parA g ws L)]) [some (.lst 20 L.length (fun zz => rwc (L.getD zz Rw.z))), some (.lst 4 ws.length (fun zz => tkc (ws.getD zz tok0)))]) :=
 enterI (n := 52) (by kernel_rfl) Tryz.func27 rfl rfl rfl fun G w a h0 hI A => N hX 10 A rfl rfl fun A => DRAWN hX hmo [] [(1, .ptr 4 0, [some (.lst 20 L.length (fun zz => rwc (L.getD zz Rw.z))), some (.lst 4 ws.length (fun zz => tkc (ws.getD zz tok0))), some (.blk [.str g.r0, .str g.r1, .str g.r2, .str g.r3, .str g.r4, .str g.r5, .str g.r6, .str g.r7, .str g.l0, .str g.l1, .str g.l2, .str g.l3, .str g.im, .str g.f0, .str g.f1, .str g.f2, .sl 0 L.length c]), some (.blk [.int .i64 0, .int .i64 0, .int .i64 0, .int .i64 0, .int .i64 0, .int .i64 0, .int .i64 0, .int .i64 0, .int .i64 0, .int .i64 0, .ff, .ff, .ff, .int .i64 0, .int .i64 0, .int .i64 0, .ff]), some (.blk [.ptr 5 0, .int .i64 0, .int .i64 0]), some (.blk [.sl 6 ws.length 0, .int .i64 0]), some (.row 28 4 ws.length 0 (fun zz => tkc (ws.getD zz tok0)))])] A rfl rfl rfl rfl (by kernel_rfl) ⟨callE [1] (askNew_ ws d hn) rfl rfl rfl rfl rfl rfl rfl, ⟨trivial, trivial⟩⟩ trivial fun A => N hX 2 A rfl rfl fun A => have A := A.freeze 6 rfl; have A := A.asH (H' := [some (.lst 20 L.length (fun zz => rwc (L.getD zz Rw.z))), some (.lst 4 ws.length (fun zz => tkc (ws.getD zz tok0))), some (.blk [.str g.r0, .str g.r1, .str g.r2, .str g.r3, .str g.r4, .str g.r5, .str g.r6, .str g.r7, .str g.l0, .str g.l1, .str g.l2, .str g.l3, .str g.im, .str g.f0, .str g.f1, .str g.f2, .sl 0 L.length c]), some (.blk [.int .i64 0, .int .i64 0, .int .i64 0, .int .i64 0, .int .i64 0, .int .i64 0, .int .i64 0, .int .i64 0, .int .i64 0, .int .i64 0, .ff, .ff, .ff, .int .i64 0, .int .i64 0, .int .i64 0, .ff]), some (.blk [.ptr 5 0, .int .i64 Ps.z0.e, .int .i64 Ps.z0.a]), some (.blk [.sl 6 ws.length 0, .int .i64 ((Ps.z0.p : Nat) : Int)]), some (.lst 4 ws.length (fun zz => tkc (ws.getD zz tok0))), some (.blk (rdS g L.length c Ps.z0.ins Ps.z0.lab 4 0))]) rfl; N hX 8 A rfl rfl fun A => CALL1 [5, 6] (at_W ws 0 Ps.z0.p (by first | exact Nat.zero_le _ | exact inF_le (s := Ps.z0) (Nat.zero_le _) | exact endA_le (s := (inF g ws L Ps.z0).1.as) (inF_le (s := Ps.z0) (Nat.zero_le _))) hn hw) A rfl rfl rfl rfl rfl rfl rfl fun A => N hX 6 A rfl rfl fun A => CALLI [7, 4, 5, 6, 0] PrI.ok hI (instruction_ g L c ws 0 Ps.z0 (Nat.zero_le _) hn hw os hM hp.m hp.n hp.s hp.k) A rfl rfl rfl rfl rfl rfl rfl fun A => N hX 9 A rfl rfl fun A => CALL1 [4, 5, 6] (end_ ws 0 (((inF g ws L Ps.z0).1).as) (by first | exact Nat.zero_le _ | exact inF_le (s := Ps.z0) (Nat.zero_le _) | exact endA_le (s := (inF g ws L Ps.z0).1.as) (inF_le (s := Ps.z0) (Nat.zero_le _))) hn hw) A rfl rfl rfl rfl rfl rfl rfl fun A => N hX 9 A rfl rfl fun A => CALL1 [4, 5, 6] (fault_ ws 0 (endA ws (((inF g ws L Ps.z0).1).as)) (by first | exact Nat.zero_le _ | exact inF_le (s := Ps.z0) (Nat.zero_le _) | exact endA_le (s := (inF g ws L Ps.z0).1.as) (inF_le (s := Ps.z0) (Nat.zero_le _))) hn hw) A rfl rfl rfl rfl rfl rfl rfl fun A => N hX 13 A rfl rfl fun A => forkN 39 A rfl
  (fun h1 A => N hX 13 A rfl rfl fun A => RETN hX A rfl rfl rfl h0 rfl rfl rfl rfl (by unfold parI parT parE parA; rw [if_pos (show (paE g ws L).e ≠ 0 from h1), if_pos (show (paE g ws L).e ≠ 0 from h1), if_pos (show (paE g ws L).e ≠ 0 from h1), if_pos (show (paE g ws L).e ≠ 0 from h1)] <;> rfl) rfl)
  (fun h1 A => N hX 7 A rfl rfl fun A => CALL1 [] (isWrong_ (inI g ws L Ps.z0).op (inI g ws L Ps.z0).dst (inI g ws L Ps.z0).ra (inI g ws L Ps.z0).rb (inI g ws L Ps.z0).imm (inI g ws L Ps.z0).loc (inI g ws L Ps.z0).off (inI g ws L Ps.z0).ix (inI g ws L Ps.z0).sz (inI g ws L Ps.z0).fn (inI g ws L Ps.z0).acq (inI g ws L Ps.z0).weak (inI g ws L Ps.z0).rel (inI g ws L Ps.z0).pred (inI g ws L Ps.z0).succ (inI g ws L Ps.z0).to_ (inI g ws L Ps.z0).zero) A rfl rfl rfl rfl rfl rfl rfl fun A => N hX 2 A rfl rfl fun A => fork 44 A rfl
   (fun h2 A => N hX 12 A rfl rfl fun A => RETN hX A rfl rfl rfl h0 rfl rfl rfl rfl (by unfold parI parT parE parA; rw [if_neg (show ¬ (paE g ws L).e ≠ 0 from not_not_intro h1), if_pos (show wrongI (inI g ws L Ps.z0) = true from h2), if_neg (show ¬ (paE g ws L).e ≠ 0 from not_not_intro h1), if_pos (show wrongI (inI g ws L Ps.z0) = true from h2), if_neg (show ¬ (paE g ws L).e ≠ 0 from not_not_intro h1), if_pos (show wrongI (inI g ws L Ps.z0) = true from h2), if_neg (show ¬ (paE g ws L).e ≠ 0 from not_not_intro h1), if_pos (show wrongI (inI g ws L Ps.z0) = true from h2)] <;> rfl) rfl)
   (fun h2 A => N hX 4 A rfl rfl fun A => DRAWN hX hmo [] [] A rfl rfl rfl rfl (by kernel_rfl) (effAll_nil _ _) trivial fun A => N hX 2 A rfl rfl fun A => RETN hX A rfl rfl rfl h0 rfl rfl rfl rfl (by unfold parI parT parE parA; rw [if_neg (show ¬ (paE g ws L).e ≠ 0 from not_not_intro h1), if_neg (show ¬ wrongI (inI g ws L Ps.z0) = true from ne_true_of_eq_false h2), if_neg (show ¬ (paE g ws L).e ≠ 0 from not_not_intro h1), if_neg (show ¬ wrongI (inI g ws L Ps.z0) = true from ne_true_of_eq_false h2), if_neg (show ¬ (paE g ws L).e ≠ 0 from not_not_intro h1), if_neg (show ¬ wrongI (inI g ws L Ps.z0) = true from ne_true_of_eq_false h2), if_neg (show ¬ (paE g ws L).e ≠ 0 from not_not_intro h1), if_neg (show ¬ wrongI (inI g ws L Ps.z0) = true from ne_true_of_eq_false h2)] <;> rfl) rfl))
end Go.Proofs.YtedlaclfhgneeaaGreatDoor
/- x86's rows but the computing ones. -/
namespace Go.Proofs.YtedlaclfhgneeaaGreatDoor
open Go.RowKit
set_option linter.unusedVariables false
set_option linter.unusedSimpArgs false
set_option maxRecDepth 100000
set_option maxHeartbeats 2000000
set_option simprocs false
abbrev xothL (b1 b2 b3 b4 b5 b6 b7 b8 b9 b10 : Nat) : List (Nat × List SV) := [(b10, [.str [77, 79, 86], .str [], .int .i64 1, .int .i64 0, .int .i64 0, .int .i64 0, .int .i64 0, .int .i64 0, .int .i64 0, .int .i64 0, .int .i64 0, .int .i64 0, .ff, .ff, .ff, .int .i64 0, .int .i64 0, .int .i64 0, .ff, .sla (some ⟨b1, 0, none⟩) 2 2, .str [77, 79, 86], .str [], .int .i64 2, .int .i64 0, .int .i64 0, .int .i64 0, .int .i64 0, .int .i64 0, .int .i64 0, .int .i64 0, .int .i64 0, .int .i64 0, .ff, .ff, .ff, .int .i64 0, .int .i64 0, .int .i64 0, .ff, .sla (some ⟨b2, 0, none⟩) 2 2, .str [77, 79, 86, 42], .str [], .int .i64 4, .int .i64 0, .int .i64 0, .int .i64 0, .int .i64 0, .int .i64 0, .int .i64 0, .int .i64 0, .int .i64 0, .int .i64 0, .ff, .ff, .ff, .int .i64 0, .int .i64 0, .int .i64 0, .ff, .sla (some ⟨b3, 0, none⟩) 2 2, .str [77, 79, 86, 42], .str [], .int .i64 5, .int .i64 0, .int .i64 0, .int .i64 0, .int .i64 0, .int .i64 0, .int .i64 0, .int .i64 0, .int .i64 0, .int .i64 0, .ff, .ff, .ff, .int .i64 0, .int .i64 0, .int .i64 0, .ff, .sla (some ⟨b4, 0, none⟩) 2 2, .str [77, 79, 86, 42], .str [], .int .i64 5, .int .i64 0, .int .i64 0, .int .i64 0, .int .i64 0, .int .i64 0, .int .i64 0, .int .i64 0, .int .i64 0, .int .i64 0, .ff, .ff, .ff, .int .i64 0, .int .i64 0, .int .i64 0, .ff, .sla (some ⟨b5, 0, none⟩) 2 2, .str [88, 67, 72, 71, 42], .str [], .int .i64 6, .int .i64 0, .int .i64 0, .int .i64 0, .int .i64 0, .int .i64 0, .int .i64 0, .int .i64 0, .int .i64 0, .int .i64 6, .tt, .ff, .tt, .int .i64 0, .int .i64 0, .int .i64 0, .ff, .sla (some ⟨b6, 0, none⟩) 2 2, .str [88, 65, 68, 68, 42], .str [], .int .i64 6, .int .i64 0, .int .i64 0, .int .i64 0, .int .i64 0, .int .i64 0, .int .i64 0, .int .i64 0, .int .i64 0, .int .i64 1, .tt, .ff, .tt, .int .i64 0, .int .i64 0, .int .i64 0, .ff, .sla (some ⟨b7, 0, none⟩) 2 2, .str [77, 70, 69, 78, 67, 69], .str [], .int .i64 7, .int .i64 0, .int .i64 0, .int .i64 0, .int .i64 0, .int .i64 0, .int .i64 0, .int .i64 0, .int .i64 0, .int .i64 0, .ff, .ff, .ff, .int .i64 3, .int .i64 3, .int .i64 0, .ff, .sla none 0 0, .str [74, 90], .str [], .int .i64 9, .int .i64 0, .int .i64 0, .int .i64 0, .int .i64 0, .int .i64 0, .int .i64 0, .int .i64 0, .int .i64 0, .int .i64 0, .ff, .ff, .ff, .int .i64 0, .int .i64 0, .int .i64 0, .tt, .sla (some ⟨b8, 0, none⟩) 2 2, .str [74, 78, 90], .str [], .int .i64 9, .int .i64 0, .int .i64 0, .int .i64 0, .int .i64 0, .int .i64 0, .int .i64 0, .int .i64 0, .int .i64 0, .int .i64 0, .ff, .ff, .ff, .int .i64 0, .int .i64 0, .int .i64 0, .ff, .sla (some ⟨b9, 0, none⟩) 2 2]), (b9, [.int .i64 2, .int .i64 7]), (b8, [.int .i64 2, .int .i64 7]), (b7, [.int .i64 6, .int .i64 4]), (b6, [.int .i64 4, .int .i64 6]), (b5, [.int .i64 6, .int .i64 5]), (b4, [.int .i64 6, .int .i64 2]), (b3, [.int .i64 1, .int .i64 6]), (b2, [.int .i64 1, .int .i64 2]), (b1, [.int .i64 1, .int .i64 5])]
theorem xoth_ : FnR Tryz.prog 57 [] [] (fun x w w' => ∃ b1 b2 b3 b4 b5 b6 b7 b8 b9 b10 : Nat, x = .sla (some ⟨b10, 0, none⟩) 10 10 ∧ Acc w.heap.size (xothL b1 b2 b3 b4 b5 b6 b7 b8 b9 b10) w' []) :=
 enterR (n := 37) (by kernel_rfl) Tryz.func57 rfl rfl rfl fun G w a h0 A => have B := A; have hA : Acc w.heap.size [] w _ := Acc.nil; N hX 29 A rfl rfl fun A => BSCA [.int .i64 1, .int .i64 5] (X := ⟨_, true⟩) hX B hA A rfl rfl rfl rfl fun b1 B hA A =>
 N hX 2 A rfl rfl fun A => BSCA [.int .i64 1, .int .i64 2] (X := ⟨_, true⟩) hX B hA A rfl rfl rfl rfl fun b2 B hA A =>
 N hX 2 A rfl rfl fun A => BSCA [.int .i64 1, .int .i64 6] (X := ⟨_, true⟩) hX B hA A rfl rfl rfl rfl fun b3 B hA A =>
 N hX 2 A rfl rfl fun A => BSCA [.int .i64 6, .int .i64 2] (X := ⟨_, true⟩) hX B hA A rfl rfl rfl rfl fun b4 B hA A =>
 N hX 2 A rfl rfl fun A => BSCA [.int .i64 6, .int .i64 5] (X := ⟨_, true⟩) hX B hA A rfl rfl rfl rfl fun b5 B hA A =>
 N hX 2 A rfl rfl fun A => BSCA [.int .i64 4, .int .i64 6] (X := ⟨_, true⟩) hX B hA A rfl rfl rfl rfl fun b6 B hA A =>
 N hX 2 A rfl rfl fun A => BSCA [.int .i64 6, .int .i64 4] (X := ⟨_, true⟩) hX B hA A rfl rfl rfl rfl fun b7 B hA A =>
 N hX 4 A rfl rfl fun A => BSCA [.int .i64 2, .int .i64 7] (X := ⟨_, true⟩) hX B hA A rfl rfl rfl rfl fun b8 B hA A =>
 N hX 2 A rfl rfl fun A => BSCA [.int .i64 2, .int .i64 7] (X := ⟨_, true⟩) hX B hA A rfl rfl rfl rfl fun b9 B hA A =>
 N hX 1 A rfl rfl fun A => BSCA [.str [77, 79, 86], .str [], .int .i64 1, .int .i64 0, .int .i64 0, .int .i64 0, .int .i64 0, .int .i64 0, .int .i64 0, .int .i64 0, .int .i64 0, .int .i64 0, .ff, .ff, .ff, .int .i64 0, .int .i64 0, .int .i64 0, .ff, .sla (some ⟨b1, 0, none⟩) 2 2, .str [77, 79, 86], .str [], .int .i64 2, .int .i64 0, .int .i64 0, .int .i64 0, .int .i64 0, .int .i64 0, .int .i64 0, .int .i64 0, .int .i64 0, .int .i64 0, .ff, .ff, .ff, .int .i64 0, .int .i64 0, .int .i64 0, .ff, .sla (some ⟨b2, 0, none⟩) 2 2, .str [77, 79, 86, 42], .str [], .int .i64 4, .int .i64 0, .int .i64 0, .int .i64 0, .int .i64 0, .int .i64 0, .int .i64 0, .int .i64 0, .int .i64 0, .int .i64 0, .ff, .ff, .ff, .int .i64 0, .int .i64 0, .int .i64 0, .ff, .sla (some ⟨b3, 0, none⟩) 2 2, .str [77, 79, 86, 42], .str [], .int .i64 5, .int .i64 0, .int .i64 0, .int .i64 0, .int .i64 0, .int .i64 0, .int .i64 0, .int .i64 0, .int .i64 0, .int .i64 0, .ff, .ff, .ff, .int .i64 0, .int .i64 0, .int .i64 0, .ff, .sla (some ⟨b4, 0, none⟩) 2 2, .str [77, 79, 86, 42], .str [], .int .i64 5, .int .i64 0, .int .i64 0, .int .i64 0, .int .i64 0, .int .i64 0, .int .i64 0, .int .i64 0, .int .i64 0, .int .i64 0, .ff, .ff, .ff, .int .i64 0, .int .i64 0, .int .i64 0, .ff, .sla (some ⟨b5, 0, none⟩) 2 2, .str [88, 67, 72, 71, 42], .str [], .int .i64 6, .int .i64 0, .int .i64 0, .int .i64 0, .int .i64 0, .int .i64 0, .int .i64 0, .int .i64 0, .int .i64 0, .int .i64 6, .tt, .ff, .tt, .int .i64 0, .int .i64 0, .int .i64 0, .ff, .sla (some ⟨b6, 0, none⟩) 2 2, .str [88, 65, 68, 68, 42], .str [], .int .i64 6, .int .i64 0, .int .i64 0, .int .i64 0, .int .i64 0, .int .i64 0, .int .i64 0, .int .i64 0, .int .i64 0, .int .i64 1, .tt, .ff, .tt, .int .i64 0, .int .i64 0, .int .i64 0, .ff, .sla (some ⟨b7, 0, none⟩) 2 2, .str [77, 70, 69, 78, 67, 69], .str [], .int .i64 7, .int .i64 0, .int .i64 0, .int .i64 0, .int .i64 0, .int .i64 0, .int .i64 0, .int .i64 0, .int .i64 0, .int .i64 0, .ff, .ff, .ff, .int .i64 3, .int .i64 3, .int .i64 0, .ff, .sla none 0 0, .str [74, 90], .str [], .int .i64 9, .int .i64 0, .int .i64 0, .int .i64 0, .int .i64 0, .int .i64 0, .int .i64 0, .int .i64 0, .int .i64 0, .int .i64 0, .ff, .ff, .ff, .int .i64 0, .int .i64 0, .int .i64 0, .tt, .sla (some ⟨b8, 0, none⟩) 2 2, .str [74, 78, 90], .str [], .int .i64 9, .int .i64 0, .int .i64 0, .int .i64 0, .int .i64 0, .int .i64 0, .int .i64 0, .int .i64 0, .int .i64 0, .int .i64 0, .ff, .ff, .ff, .int .i64 0, .int .i64 0, .int .i64 0, .ff, .sla (some ⟨b9, 0, none⟩) 2 2] (X := ⟨_, true⟩) hX B hA A rfl rfl rfl rfl fun b10 B hA A =>
 N hX 4 A rfl rfl fun A => RETR (J := fun x w w' => ∃ b1 b2 b3 b4 b5 b6 b7 b8 b9 b10 : Nat, x = .sla (some ⟨b10, 0, none⟩) 10 10 ∧ Acc w.heap.size (xothL b1 b2 b3 b4 b5 b6 b7 b8 b9 b10) w' []) hX (B.trans A) (fun i e he => nil_no he) rfl rfl rfl rfl ⟨b1, b2, b3, b4, b5, b6, b7, b8, b9, b10, rfl, (hA.now A).bare⟩
end Go.Proofs.YtedlaclfhgneeaaGreatDoor
/- x86's computing rows. -/
namespace Go.Proofs.YtedlaclfhgneeaaGreatDoor
open Go.RowKit
set_option linter.unusedVariables false
set_option linter.unusedSimpArgs false
set_option maxRecDepth 100000
set_option maxHeartbeats 2000000
set_option simprocs false
abbrev nz : List UInt8 × Int := ([], 0)
def nfc (x : List UInt8 × Int) : List SV := [.str x.1, .int .i64 x.2]
def x5 : List (List UInt8 × Int) := [([65, 68, 68], 1), ([83, 85, 66], 2), ([88, 79, 82], 3), ([65, 78, 68], 4), ([79, 82], 5)]
theorem tyN : (∀ x, (nfc x).length = 2) ∧ (∀ x, inL 0 (nfc x) = true) ∧ (∀ x, ∃ vs, denL [] (nfc x) = some vs) := ⟨fun _ => rfl, fun _ => rfl, fun _ => ⟨_, rfl⟩⟩
theorem tyR : (∀ x, (rwc x).length = 20) ∧ (∀ x, inL 0 (rwc x) = true) ∧ (∀ x, ∃ vs, denL [] (rwc x) = some vs) := ⟨fun _ => rfl, fun _ => rfl, fun _ => ⟨_, rfl⟩⟩
def tm (r : Rw) : List UInt8 × List UInt8 × In × List Int := (r.nm, r.wd, r.ins, r.ps)
/-- where rows' parts lie -/
def RowsIn (lo : Nat) (L : List Rw) : Amb := fun w ks => ∀ r ∈ L, LiesAt r.pa r.ps w ks ∧ ∀ q, r.pa = some q → lo ≤ q.block
theorem RowsIn.ok {lo : Nat} {L : List Rw} : Amb.OK (RowsIn lo L) := fun w ks w' ks' h m hk r hr => ⟨(h r hr).1.go m hk, (h r hr).2⟩
def insF (op fn : Int) : In := ⟨op, 0, 0, 0, 0, 0, 0, 0, 0, fn, false, false, false, 0, 0, 0, false⟩
abbrev xr1 (x : List UInt8 × Int) (b1 : Nat) : Rw := ⟨x.1, [], insF 3 x.2, some ⟨b1, 0, none⟩, [4, 3], 2⟩
abbrev xr2 (x : List UInt8 × Int) (b2 : Nat) : Rw := ⟨x.1, [], insF 3 x.2, some ⟨b2, 0, none⟩, [4, 5], 2⟩
def xcomp : List (List UInt8 × List UInt8 × In × List Int) := x5.flatMap fun x => [(x.1, [], insF 3 x.2, [4, 3]), (x.1, [], insF 3 x.2, [4, 5])]
structure XC (lo : Nat) (z : List Rw × Nat) (w : World) (ks : List Nat) : Prop where
  le : z.2 ≤ 5
  tm : z.1.map tm = xcomp.take (2 * z.2)
  rw : RowsIn lo z.1 w ks
theorem XC.len {lo : Nat} {z : List Rw × Nat} {w : World} {ks : List Nat} (h : XC lo z w ks) : z.1.length = 2 * z.2 := by
  have h1 := congrArg List.length h.tm
  rw [List.length_map, List.length_take] at h1
  have h2 : xcomp.length = 10 := by decide
  have := h.le
  omega
theorem lies_of {lo b : Nat} {cs : List SV} {l : List (Nat × List SV)} {w : World} {ks : List Nat} (ps : List Int) (h : Acc lo l w ks) (hm : (b, ps.map (SV.int .i64 ·)) ∈ l) : LiesAt (some ⟨b, 0, none⟩) ps w ks ∧ ∀ q, (some (⟨b, 0, none⟩ : Addr)) = some q → lo ≤ q.block := by
  obtain ⟨h1, vs, h2, h3, h4, h5⟩ := h _ hm
  have : ∀ ps : List Int, denL [] (ps.map (SV.int .i64 ·)) = some (ps.map (Value.int .i64)) := by
    intro ps
    induction ps with
    | nil => rfl
    | cons p ps ih => rw [List.map_cons]; unfold denL; rw [ih]; rfl
  rw [this] at h2
  cases h2
  exact ⟨.inr ⟨b, rfl, h3, h4, h5⟩, fun q hq => by cases hq; exact h1⟩
theorem XC.nx {lo b1 b2 : Nat} {z : List Rw × Nat} {w w1 : World} {ks ks1 : List Nat} {l : List (Nat × List SV)} (h : XC lo z w ks) (hk : (z.2 : Int) < 5) (hr : RowsIn lo z.1 w1 ks1) (hA : Acc lo [(b2, [.int .i64 4, .int .i64 5]), (b1, [.int .i64 4, .int .i64 3])] w1 ks1) : XC lo (z.1 ++ [xr1 (x5.getD ((z.2 : Int)).toNat nz) b1, xr2 (x5.getD ((z.2 : Int)).toNat nz) b2], z.2 + 1) w1 ks1 := by
  refine ⟨by have := h.le; show z.2 + 1 ≤ 5; omega, ?_, fun r hr' => ?_⟩
  · show List.map _ (z.1 ++ _) = _
    rw [List.map_append, h.tm, Int.toNat_natCast]
    have : z.2 = 0 ∨ z.2 = 1 ∨ z.2 = 2 ∨ z.2 = 3 ∨ z.2 = 4 := by omega
    rcases this with e | e | e | e | e <;> rw [e] <;> rfl
  · rcases List.mem_append.1 hr' with h1 | h1
    · exact hr r h1
    · simp only [List.mem_cons, List.mem_nil_iff, or_false] at h1
      rcases h1 with rfl | rfl
      · exact lies_of (cs := []) [4, 3] hA (List.mem_cons_of_mem _ (List.mem_cons_self))
      · exact lies_of (cs := []) [4, 5] hA (List.mem_cons_self)
theorem xcomp_ : FnR Tryz.prog 56 [] [] (fun x w w' => ∃ (L : List Rw) (b cp : Nat), x = .sla (some ⟨b, 0, none⟩) 10 cp ∧ (L.map tm = xcomp ∧ RowsIn w.heap.size L w' [b]) ∧ w.heap.size ≤ b ∧ Given 109 20 10 (fun zz => rwc (L.getD zz Rw.z)) b cp w') :=
 enterR (n := 36) (by kernel_rfl) Tryz.func56 rfl rfl rfl fun G w a h0 A => N hX 13 A rfl rfl fun A => have A := A.asT nz nfc 2 tyN.1 tyN.2.1 tyN.2.2 x5 0 rfl; N hX 17 A rfl rfl fun A => have A := A.nilRow 2 109 20 (fun zz => rwc (([] : List Rw).getD zz Rw.z)) rfl (fun z => ⟨_, rfl, rfl⟩); LOOPJ (fun (z : List Rw × Nat) => [(0, .sla none 0 0), (2, .sl 1 z.1.length 0), (12, .sl 0 5 5), (13, .int .i64 ((5 : Nat) : Int)), (14, .int .i64 (z.2 : Int))]) (fun (z : List Rw × Nat) => [some (.lst 2 5 (fun zz => nfc (x5.getD zz nz))), some (.row 109 20 z.1.length 0 (fun zz => rwc (z.1.getD zz Rw.z)))]) (fun z w1 ks1 => XC w.heap.size z w1 ks1) (fun z => 5 - z.2) ([], 0) (A.cut [0, 2, 12, 13, 14] rfl) ⟨by decide, rfl, fun r hr => by cases hr⟩ fun z G1 a1 w1 hJ hg A B => have hA : Acc w.heap.size [] w1 _ := Acc.nil; have hR := hJ.rw;
 N hX 6 A rfl rfl fun A => forkD 15 A rfl
   (fun h1 A => N hX 14 A rfl (ok_d (by omega) <| ok_d (by omega) <| okE_nil) fun A => N hX 4 A rfl rfl fun A => have A := sy_sayD A 20 (.agg [.int .i64 3, .int .i64 0, .int .i64 0, .int .i64 0, .int .i64 0, .int .i64 0, .int .i64 0, .int .i64 0, .int .i64 0, .int .i64 ((x5.getD (((z.2 : Int)).toNat) nz).2), .bool false, .bool false, .bool false, .int .i64 0, .int .i64 0, .int .i64 0, .bool false]) rfl (fun _ => rfl); N hX 9 A rfl rfl fun A => BSCI [.int .i64 4, .int .i64 3] (X := ⟨_, true⟩) hX RowsIn.ok B hA hR A rfl rfl rfl rfl fun b1 B hA hR A =>
 N hX 4 A rfl rfl fun A => BSCI [.int .i64 4, .int .i64 5] (X := ⟨_, true⟩) hX RowsIn.ok B hA hR A rfl rfl rfl rfl fun b2 B hA hR A =>
 N hX 2 A rfl rfl fun A => have A := A.asT Rw.z rwc 20 tyR.1 tyR.2.1 tyR.2.2 [xr1 (x5.getD (((z.2 : Int)).toNat) nz) b1, xr2 (x5.getD (((z.2 : Int)).toNat) nz) b2] 4 rfl; q_eff A rfl (aplE hX ((z.1 ++ [xr1 (x5.getD (((z.2 : Int)).toNat) nz) b1, xr2 (x5.getD (((z.2 : Int)).toNat) nz) b2]).length) (fun zz => rwc ((z.1 ++ [xr1 (x5.getD (((z.2 : Int)).toNat) nz) b1, xr2 (x5.getD (((z.2 : Int)).toNat) nz) b2]).getD zz Rw.z)) rfl rfl rfl rfl (Nat.le_refl _) (by have := hJ.len; have := hJ.le; omega) (by decide) List.length_append (fun k hk => by show rwc _ = rwc _; rw [getD_app_l hk]) (fun k hk => by show rwc _ = rwc _; rw [getD_app_r]) (fun z => ⟨_, rfl, rfl⟩) (fun k hk => ⟨_, rfl, okE_nil⟩)) fun A =>
 N hX 8 A rfl (ok_d (by omega) <| okE_nil) fun A => ⟨(z.1 ++ [xr1 (x5.getD (((z.2 : Int)).toNat) nz) b1, xr2 (x5.getD (((z.2 : Int)).toNat) nz) b2], z.2 + 1), _, (by have := h1; show _ - _ < _ - _; omega), (hJ.nx (l := []) h1 (RowsIn.ok _ _ _ _ hR A.mix fun b hb => A.keys_own b ((keys_pick (H := [some (.lst 2 5 (fun zz => nfc (x5.getD zz nz))), none, some (.blk [.str ((x5.getD (((z.2 : Int)).toNat) nz).1), .int .i64 ((x5.getD (((z.2 : Int)).toNat) nz).2)]), some (.blk [.int .i64 3, .int .i64 0, .int .i64 0, .int .i64 0, .int .i64 0, .int .i64 0, .int .i64 0, .int .i64 0, .int .i64 0, .int .i64 ((x5.getD (((z.2 : Int)).toNat) nz).2), .bool false, .bool false, .bool false, .int .i64 0, .int .i64 0, .int .i64 0, .bool false]), some (.lst 20 ([xr1 (x5.getD (((z.2 : Int)).toNat) nz) b1, xr2 (x5.getD (((z.2 : Int)).toNat) nz) b2].length) (fun zz => rwc ([xr1 (x5.getD (((z.2 : Int)).toNat) nz) b1, xr2 (x5.getD (((z.2 : Int)).toNat) nz) b2].getD zz Rw.z))), some (.row 109 20 ((z.1 ++ [xr1 (x5.getD (((z.2 : Int)).toNat) nz) b1, xr2 (x5.getD (((z.2 : Int)).toNat) nz) b2]).length) 0 (fun zz => rwc ((z.1 ++ [xr1 (x5.getD (((z.2 : Int)).toNat) nz) b1, xr2 (x5.getD (((z.2 : Int)).toNat) nz) b2]).getD zz Rw.z)))]) (m := [0, 5]) A.mem.len rfl rfl) b hb)) (hA.go A.mix fun b hb => A.keys_own b ((keys_pick (H := [some (.lst 2 5 (fun zz => nfc (x5.getD zz nz))), none, some (.blk [.str ((x5.getD (((z.2 : Int)).toNat) nz).1), .int .i64 ((x5.getD (((z.2 : Int)).toNat) nz).2)]), some (.blk [.int .i64 3, .int .i64 0, .int .i64 0, .int .i64 0, .int .i64 0, .int .i64 0, .int .i64 0, .int .i64 0, .int .i64 0, .int .i64 ((x5.getD (((z.2 : Int)).toNat) nz).2), .bool false, .bool false, .bool false, .int .i64 0, .int .i64 0, .int .i64 0, .bool false]), some (.lst 20 ([xr1 (x5.getD (((z.2 : Int)).toNat) nz) b1, xr2 (x5.getD (((z.2 : Int)).toNat) nz) b2].length) (fun zz => rwc ([xr1 (x5.getD (((z.2 : Int)).toNat) nz) b1, xr2 (x5.getD (((z.2 : Int)).toNat) nz) b2].getD zz Rw.z))), some (.row 109 20 ((z.1 ++ [xr1 (x5.getD (((z.2 : Int)).toNat) nz) b1, xr2 (x5.getD (((z.2 : Int)).toNat) nz) b2]).length) 0 (fun zz => rwc ((z.1 ++ [xr1 (x5.getD (((z.2 : Int)).toNat) nz) b1, xr2 (x5.getD (((z.2 : Int)).toNat) nz) b2]).getD zz Rw.z)))]) (m := [0, 5]) A.mem.len rfl rfl) b hb))), ((B.trans A).cut [0, 2, 12, 13, 14] rfl).mv 0 [0, 5] rfl rfl rfl rfl (by simp only [List.length_nil] at h0; omega)⟩)
   (fun h1 A => N hX 10 A rfl rfl fun A => (have e5 : z.2 = 5 := (by have := hJ.le; omega); have e : z.1.length = 10 := (by have := hJ.len; omega); match A.giveRow 1 0 (by omega) rfl rfl rfl with | ⟨b, cp, A2, hG, ho, hk⟩ => RETR (J := fun x w w' => ∃ (L : List Rw) (b cp : Nat), x = .sla (some ⟨b, 0, none⟩) 10 cp ∧ (L.map tm = xcomp ∧ RowsIn w.heap.size L w' [b]) ∧ w.heap.size ≤ b ∧ Given 109 20 10 (fun zz => rwc (L.getD zz Rw.z)) b cp w') hX (B.trans A2) (fun i e he => nil_no he) rfl rfl rfl rfl ⟨z.1, b, cp, (by show SV.sla _ z.1.length cp = _; rw [e]), ⟨(by have h2 := hJ.tm; rw [e5] at h2; exact h2), (RowsIn.ok _ _ _ _ hJ.rw A.mix fun b2 hb => by have : b2 = b := (by simpa using hb); rw [this]; exact ho)⟩, lo_of B (fun i e he => nil_no he) ho, (by rw [← e]; exact hG)⟩))
end Go.Proofs.YtedlaclfhgneeaaGreatDoor
/- x86's table. -/
namespace Go.Proofs.YtedlaclfhgneeaaGreatDoor
open Go.RowKit
set_option linter.unusedVariables false
set_option linter.unusedSimpArgs false
set_option maxRecDepth 100000
set_option maxHeartbeats 2000000
set_option simprocs false
def xothR (b1 b2 b3 b4 b5 b6 b7 b8 b9 : Nat) : List Rw := [⟨[77, 79, 86], [], ⟨1, 0, 0, 0, 0, 0, 0, 0, 0, 0, false, false, false, 0, 0, 0, false⟩, some ⟨b1, 0, none⟩, [1, 5], 2⟩, ⟨[77, 79, 86], [], ⟨2, 0, 0, 0, 0, 0, 0, 0, 0, 0, false, false, false, 0, 0, 0, false⟩, some ⟨b2, 0, none⟩, [1, 2], 2⟩, ⟨[77, 79, 86, 42], [], ⟨4, 0, 0, 0, 0, 0, 0, 0, 0, 0, false, false, false, 0, 0, 0, false⟩, some ⟨b3, 0, none⟩, [1, 6], 2⟩, ⟨[77, 79, 86, 42], [], ⟨5, 0, 0, 0, 0, 0, 0, 0, 0, 0, false, false, false, 0, 0, 0, false⟩, some ⟨b4, 0, none⟩, [6, 2], 2⟩, ⟨[77, 79, 86, 42], [], ⟨5, 0, 0, 0, 0, 0, 0, 0, 0, 0, false, false, false, 0, 0, 0, false⟩, some ⟨b5, 0, none⟩, [6, 5], 2⟩, ⟨[88, 67, 72, 71, 42], [], ⟨6, 0, 0, 0, 0, 0, 0, 0, 0, 6, true, false, true, 0, 0, 0, false⟩, some ⟨b6, 0, none⟩, [4, 6], 2⟩, ⟨[88, 65, 68, 68, 42], [], ⟨6, 0, 0, 0, 0, 0, 0, 0, 0, 1, true, false, true, 0, 0, 0, false⟩, some ⟨b7, 0, none⟩, [6, 4], 2⟩, ⟨[77, 70, 69, 78, 67, 69], [], ⟨7, 0, 0, 0, 0, 0, 0, 0, 0, 0, false, false, false, 3, 3, 0, false⟩, none, [], 0⟩, ⟨[74, 90], [], ⟨9, 0, 0, 0, 0, 0, 0, 0, 0, 0, false, false, false, 0, 0, 0, true⟩, some ⟨b8, 0, none⟩, [2, 7], 2⟩, ⟨[74, 78, 90], [], ⟨9, 0, 0, 0, 0, 0, 0, 0, 0, 0, false, false, false, 0, 0, 0, false⟩, some ⟨b9, 0, none⟩, [2, 7], 2⟩]
def xothT : List (List UInt8 × List UInt8 × In × List Int) := [([77, 79, 86], [], ⟨1, 0, 0, 0, 0, 0, 0, 0, 0, 0, false, false, false, 0, 0, 0, false⟩, [1, 5]), ([77, 79, 86], [], ⟨2, 0, 0, 0, 0, 0, 0, 0, 0, 0, false, false, false, 0, 0, 0, false⟩, [1, 2]), ([77, 79, 86, 42], [], ⟨4, 0, 0, 0, 0, 0, 0, 0, 0, 0, false, false, false, 0, 0, 0, false⟩, [1, 6]), ([77, 79, 86, 42], [], ⟨5, 0, 0, 0, 0, 0, 0, 0, 0, 0, false, false, false, 0, 0, 0, false⟩, [6, 2]), ([77, 79, 86, 42], [], ⟨5, 0, 0, 0, 0, 0, 0, 0, 0, 0, false, false, false, 0, 0, 0, false⟩, [6, 5]), ([88, 67, 72, 71, 42], [], ⟨6, 0, 0, 0, 0, 0, 0, 0, 0, 6, true, false, true, 0, 0, 0, false⟩, [4, 6]), ([88, 65, 68, 68, 42], [], ⟨6, 0, 0, 0, 0, 0, 0, 0, 0, 1, true, false, true, 0, 0, 0, false⟩, [6, 4]), ([77, 70, 69, 78, 67, 69], [], ⟨7, 0, 0, 0, 0, 0, 0, 0, 0, 0, false, false, false, 3, 3, 0, false⟩, []), ([74, 90], [], ⟨9, 0, 0, 0, 0, 0, 0, 0, 0, 0, false, false, false, 0, 0, 0, true⟩, [2, 7]), ([74, 78, 90], [], ⟨9, 0, 0, 0, 0, 0, 0, 0, 0, 0, false, false, false, 0, 0, 0, false⟩, [2, 7])]
def x86T : List (List UInt8 × List UInt8 × In × List Int) := xcomp ++ xothT
theorem xoth_rows {b1 b2 b3 b4 b5 b6 b7 b8 b9 b10 lo lo2 : Nat} {w : World} {ks : List Nat} (h : Acc lo (xothL b1 b2 b3 b4 b5 b6 b7 b8 b9 b10) w ks) (hlo : lo2 ≤ lo) : RowsIn lo2 (xothR b1 b2 b3 b4 b5 b6 b7 b8 b9) w ks := by
  intro r hr
  unfold xothR at hr
  simp only [List.mem_cons, List.mem_nil_iff, or_false] at hr
  rcases hr with rfl | rfl | rfl | rfl | rfl | rfl | rfl | rfl | rfl | rfl
  · have q := lies_of (b := b1) (cs := []) [1, 5] h (by show _ ∈ xothL b1 b2 b3 b4 b5 b6 b7 b8 b9 b10; unfold xothL; simp); exact ⟨q.1, fun z hz => Nat.le_trans hlo (q.2 z hz)⟩
  · have q := lies_of (b := b2) (cs := []) [1, 2] h (by show _ ∈ xothL b1 b2 b3 b4 b5 b6 b7 b8 b9 b10; unfold xothL; simp); exact ⟨q.1, fun z hz => Nat.le_trans hlo (q.2 z hz)⟩
  · have q := lies_of (b := b3) (cs := []) [1, 6] h (by show _ ∈ xothL b1 b2 b3 b4 b5 b6 b7 b8 b9 b10; unfold xothL; simp); exact ⟨q.1, fun z hz => Nat.le_trans hlo (q.2 z hz)⟩
  · have q := lies_of (b := b4) (cs := []) [6, 2] h (by show _ ∈ xothL b1 b2 b3 b4 b5 b6 b7 b8 b9 b10; unfold xothL; simp); exact ⟨q.1, fun z hz => Nat.le_trans hlo (q.2 z hz)⟩
  · have q := lies_of (b := b5) (cs := []) [6, 5] h (by show _ ∈ xothL b1 b2 b3 b4 b5 b6 b7 b8 b9 b10; unfold xothL; simp); exact ⟨q.1, fun z hz => Nat.le_trans hlo (q.2 z hz)⟩
  · have q := lies_of (b := b6) (cs := []) [4, 6] h (by show _ ∈ xothL b1 b2 b3 b4 b5 b6 b7 b8 b9 b10; unfold xothL; simp); exact ⟨q.1, fun z hz => Nat.le_trans hlo (q.2 z hz)⟩
  · have q := lies_of (b := b7) (cs := []) [6, 4] h (by show _ ∈ xothL b1 b2 b3 b4 b5 b6 b7 b8 b9 b10; unfold xothL; simp); exact ⟨q.1, fun z hz => Nat.le_trans hlo (q.2 z hz)⟩
  · exact ⟨.inl ⟨rfl, rfl⟩, fun q hq => by cases hq⟩
  · have q := lies_of (b := b8) (cs := []) [2, 7] h (by show _ ∈ xothL b1 b2 b3 b4 b5 b6 b7 b8 b9 b10; unfold xothL; simp); exact ⟨q.1, fun z hz => Nat.le_trans hlo (q.2 z hz)⟩
  · have q := lies_of (b := b9) (cs := []) [2, 7] h (by show _ ∈ xothL b1 b2 b3 b4 b5 b6 b7 b8 b9 b10; unfold xothL; simp); exact ⟨q.1, fun z hz => Nat.le_trans hlo (q.2 z hz)⟩
theorem rows_keys {lo b1 : Nat} {L : List Rw} {w : World} {ks : List Nat} (h : RowsIn lo L w [b1]) (hk : ∀ b, ks.contains b = true → b < lo ∨ b = b1) : RowsIn lo L w ks := fun r hr => by
  obtain ⟨h1, h2⟩ := h r hr
  refine ⟨?_, h2⟩
  rcases h1 with h1 | ⟨b, e, q1, q2, q3⟩
  · exact .inl h1
  · refine .inr ⟨b, e, q1, ?_, q3⟩
    cases hc : ks.contains b with
    | false => rfl
    | true =>
      have h3 := h2 _ e
      simp only at h3
      rcases hk b hc with h4 | h4
      · omega
      · rw [h4] at q2; simp at q2
theorem acc_keys {lo : Nat} {l : List (Nat × List SV)} {w : World} {ks : List Nat} (h : Acc lo l w []) (hk : ∀ b, ks.contains b = true → b < lo) : Acc lo l w ks := fun p hp => by
  obtain ⟨h1, vs, h2, h3, h4, h5⟩ := h p hp
  refine ⟨h1, vs, h2, h3, ?_, h5⟩
  cases hc : ks.contains p.1 with
  | false => rfl
  | true => have := hk _ hc; omega
theorem xoth_den (b1 b2 b3 b4 b5 b6 b7 b8 b9 b10 : Nat) : denL [] ((xothR b1 b2 b3 b4 b5 b6 b7 b8 b9).flatMap rwc) = denL [] [.str [77, 79, 86], .str [], .int .i64 1, .int .i64 0, .int .i64 0, .int .i64 0, .int .i64 0, .int .i64 0, .int .i64 0, .int .i64 0, .int .i64 0, .int .i64 0, .ff, .ff, .ff, .int .i64 0, .int .i64 0, .int .i64 0, .ff, .sla (some ⟨b1, 0, none⟩) 2 2, .str [77, 79, 86], .str [], .int .i64 2, .int .i64 0, .int .i64 0, .int .i64 0, .int .i64 0, .int .i64 0, .int .i64 0, .int .i64 0, .int .i64 0, .int .i64 0, .ff, .ff, .ff, .int .i64 0, .int .i64 0, .int .i64 0, .ff, .sla (some ⟨b2, 0, none⟩) 2 2, .str [77, 79, 86, 42], .str [], .int .i64 4, .int .i64 0, .int .i64 0, .int .i64 0, .int .i64 0, .int .i64 0, .int .i64 0, .int .i64 0, .int .i64 0, .int .i64 0, .ff, .ff, .ff, .int .i64 0, .int .i64 0, .int .i64 0, .ff, .sla (some ⟨b3, 0, none⟩) 2 2, .str [77, 79, 86, 42], .str [], .int .i64 5, .int .i64 0, .int .i64 0, .int .i64 0, .int .i64 0, .int .i64 0, .int .i64 0, .int .i64 0, .int .i64 0, .int .i64 0, .ff, .ff, .ff, .int .i64 0, .int .i64 0, .int .i64 0, .ff, .sla (some ⟨b4, 0, none⟩) 2 2, .str [77, 79, 86, 42], .str [], .int .i64 5, .int .i64 0, .int .i64 0, .int .i64 0, .int .i64 0, .int .i64 0, .int .i64 0, .int .i64 0, .int .i64 0, .int .i64 0, .ff, .ff, .ff, .int .i64 0, .int .i64 0, .int .i64 0, .ff, .sla (some ⟨b5, 0, none⟩) 2 2, .str [88, 67, 72, 71, 42], .str [], .int .i64 6, .int .i64 0, .int .i64 0, .int .i64 0, .int .i64 0, .int .i64 0, .int .i64 0, .int .i64 0, .int .i64 0, .int .i64 6, .tt, .ff, .tt, .int .i64 0, .int .i64 0, .int .i64 0, .ff, .sla (some ⟨b6, 0, none⟩) 2 2, .str [88, 65, 68, 68, 42], .str [], .int .i64 6, .int .i64 0, .int .i64 0, .int .i64 0, .int .i64 0, .int .i64 0, .int .i64 0, .int .i64 0, .int .i64 0, .int .i64 1, .tt, .ff, .tt, .int .i64 0, .int .i64 0, .int .i64 0, .ff, .sla (some ⟨b7, 0, none⟩) 2 2, .str [77, 70, 69, 78, 67, 69], .str [], .int .i64 7, .int .i64 0, .int .i64 0, .int .i64 0, .int .i64 0, .int .i64 0, .int .i64 0, .int .i64 0, .int .i64 0, .int .i64 0, .ff, .ff, .ff, .int .i64 3, .int .i64 3, .int .i64 0, .ff, .sla none 0 0, .str [74, 90], .str [], .int .i64 9, .int .i64 0, .int .i64 0, .int .i64 0, .int .i64 0, .int .i64 0, .int .i64 0, .int .i64 0, .int .i64 0, .int .i64 0, .ff, .ff, .ff, .int .i64 0, .int .i64 0, .int .i64 0, .tt, .sla (some ⟨b8, 0, none⟩) 2 2, .str [74, 78, 90], .str [], .int .i64 9, .int .i64 0, .int .i64 0, .int .i64 0, .int .i64 0, .int .i64 0, .int .i64 0, .int .i64 0, .int .i64 0, .int .i64 0, .ff, .ff, .ff, .int .i64 0, .int .i64 0, .int .i64 0, .ff, .sla (some ⟨b9, 0, none⟩) 2 2] := by rfl
end Go.Proofs.YtedlaclfhgneeaaGreatDoor
/- x86's language. -/
namespace Go.Proofs.YtedlaclfhgneeaaGreatDoor
open Go.RowKit
set_option linter.unusedVariables false
set_option linter.unusedSimpArgs false
set_option maxRecDepth 100000
set_option maxHeartbeats 2000000
set_option simprocs false
theorem RowsIn.mono {lo lo2 : Nat} {L : List Rw} {w : World} {ks : List Nat} (h : RowsIn lo L w ks) (hl : lo2 ≤ lo) : RowsIn lo2 L w ks := fun r hr => ⟨(h r hr).1, fun q hq => Nat.le_trans hl ((h r hr).2 q hq)⟩
theorem RowsIn.app {lo : Nat} {L R : List Rw} {w : World} {ks : List Nat} (h : RowsIn lo L w ks) (h2 : RowsIn lo R w ks) : RowsIn lo (L ++ R) w ks := fun r hr => by
  rcases List.mem_append.1 hr with h3 | h3
  · exact h r h3
  · exact h2 r h3
theorem RowsIn.one {lo b : Nat} {L : List Rw} {w w' : World} {ks : List Nat} (h : RowsIn lo L w ks) (h2 : RowsIn lo L w [b]) (m : Mix ks w w') : RowsIn lo L w' [b] := fun r hr => by
  refine ⟨?_, (h r hr).2⟩
  rcases (h r hr).1.go m (ks' := []) (fun b hb => by cases hb) with h1 | ⟨q, e, q1, _, q3⟩
  · exact .inl h1
  · rcases (h2 r hr).1 with h3 | ⟨q', e', _, q2', _⟩
    · rw [h3.1] at e; cases e
    · rw [e] at e'; cases e'; exact .inr ⟨q, e, q1, q2', q3⟩
theorem Given.mix {e s m b cp : Nat} {f : Nat → List SV} {w w' : World} {ks : List Nat} (h : Given e s m f b cp w) (mx : Mix ks w w') (hk : ks.contains b = false) : Given e s m f b cp w' := by
  obtain ⟨h1, xs, h2, h3⟩ := h
  exact ⟨h1, xs, h2, own_mix h3 mx (fun k hk2 => by cases hk2; exact hk)⟩
section
variable {n : Nat} {ks : List Nat} {G0 : Gr} {w0 : World} {T : List (Nat × SV)} {H : Hp} {G : Gr} {a : Act} {w : World} {Q : Exit → Act → World → Prop} {K : List Fr} {ops : Array Oper} {o : Oper} {rest : List Oper}
theorem CALLOTH (A : Sy n T H ks G0 w0 G a w) (h1 : callS n ops T o = some (57, []))
    (k : ∀ b1 b2 b3 b4 b5 b6 b7 b8 b9 b10 vs a' w', denL [] ((xothR b1 b2 b3 b4 b5 b6 b7 b8 b9).flatMap rwc) = some vs → Lies b10 0 vs w' (keys H G) → RowsIn w.heap.size (xothR b1 b2 b3 b4 b5 b6 b7 b8 b9) w' (keys H G) → Sy n (extS T o.dst (.sla (some ⟨b10, 0, none⟩) 10 10)) H ks G0 w0 G a' w' → Goal Tryz.prog Q K (.ops ops rest) a' w') : Goal Tryz.prog Q K (.ops ops (o :: rest)) a w := by
  refine CALLR [] xoth_ A h1 rfl rfl rfl rfl fun x a' w' hJ hk A' => ?_
  obtain ⟨b1, b2, b3, b4, b5, b6, b7, b8, b9, b10, rfl, hA⟩ := hJ
  have hA := acc_keys hA hk
  obtain ⟨_, vs, q1, q2⟩ := hA _ List.mem_cons_self
  exact k b1 b2 b3 b4 b5 b6 b7 b8 b9 b10 vs a' w' ((xoth_den b1 b2 b3 b4 b5 b6 b7 b8 b9 b10).trans q1) q2 (xoth_rows hA (Nat.le_refl _)) A'
end
theorem xregs_   : Fn Tryz.prog 41 [] [] (Rt (.agg [.str [82, 65, 88], .str [82, 66, 88], .str [82, 67, 88], .str [82, 68, 88], .str [82, 83, 73], .str [82, 68, 73], .str [82, 56], .str [82, 57]]) []) :=
 enterM (n := 2) (by kernel_rfl) Tryz.func41 rfl rfl rfl fun G w a h0 A => N hX 12 A rfl rfl fun A => RETN hX A rfl rfl rfl h0 rfl rfl rfl rfl rfl rfl
theorem xlang_ : FnR Tryz.prog 26 [] [] (fun x w w' => ∃ (L : List Rw) (b cp : Nat), x = .agg [.str [82, 65, 88], .str [82, 66, 88], .str [82, 67, 88], .str [82, 68, 88], .str [82, 83, 73], .str [82, 68, 73], .str [82, 56], .str [82, 57], .str [66], .str [87], .str [76], .str [81], .str [36], .str [], .str [], .str [], .sla (some ⟨b, 0, none⟩) 20 cp] ∧ (L.map tm = x86T ∧ RowsIn w.heap.size L w' [b]) ∧ w.heap.size ≤ b ∧ Given 109 20 20 (fun zz => rwc (L.getD zz Rw.z)) b cp w') :=
 enterR (n := 7) (by kernel_rfl) Tryz.func26 rfl rfl rfl fun G w a h0 A => N hX 7 A rfl rfl fun A => CALL1 [] (xregs_ ) A rfl rfl rfl rfl rfl rfl rfl fun A => N hX 1 A rfl rfl fun A => have hz := A.mix.size; CALLROW (t := 3) (F := fun (L : List Rw) zz => rwc (L.getD zz Rw.z)) (R := fun L b w w' => L.map tm = xcomp ∧ RowsIn w.heap.size L w' [b]) xcomp_ A rfl rfl fun L b1 cp1 a1 w1 G1 hR hlo hk A => have hl : L.length = 10 := (by have q := congrArg List.length hR.1; rw [List.length_map] at q; exact q); have hI := (rows_keys hR.2 hk).mono hz; have B := A; have A := B.base;
 CALLOTH A rfl fun c1 c2 c3 c4 c5 c6 c7 c8 c9 c10 vs a2 w2 hv hL hO A => have hI := RowsIn.ok _ _ _ _ hI A.mix A.keys_own; have hO := hO.mono B.mix.size; have B := B.trans A; have A := A.base; have A := A.adoptL Rw.z rwc 20 tyR.1 tyR.2.1 tyR.2.2 (xothR c1 c2 c3 c4 c5 c6 c7 c8 c9) hL hv 4 rfl;
 q_eff A rfl (aplE hX 20 (fun zz => rwc ((L ++ (xothR c1 c2 c3 c4 c5 c6 c7 c8 c9)).getD zz Rw.z)) rfl rfl rfl rfl (Nat.le_refl _) (by decide) (show 10 ≤ 1000000 by decide) rfl (fun k hk => by show rwc _ = rwc _; rw [getD_app_l (by omega)]) (fun k hk => by show rwc ((L ++ _).getD (10 + k) Rw.z) = rwc _; rw [show 10 + k = L.length + k by omega, getD_app_r]) (fun z => ⟨_, rfl, rfl⟩) (fun k hk => ⟨_, rfl, okE_nil⟩)) fun A => match A.giveRow 3 5 (by decide) rfl rfl rfl with | ⟨b, cp, A2, hG, ho, hkb⟩ => (have hW := hI.app hO; have h1 := RowsIn.ok _ _ _ _ hW A2.mix A2.keys_own; have h2 := RowsIn.ok _ _ _ [b] hW A2.mix (fun b2 hb => by have : b2 = b := (by simpa using hb); rw [this]; exact ho); have hbl := lo_of B (fun i e he => nil_no he) ho; have B := B.trans A2; have A := A2.base;
 N hX 5 A rfl rfl fun A => RETR (J := fun x w w' => ∃ (L : List Rw) (b cp : Nat), x = .agg [.str [82, 65, 88], .str [82, 66, 88], .str [82, 67, 88], .str [82, 68, 88], .str [82, 83, 73], .str [82, 68, 73], .str [82, 56], .str [82, 57], .str [66], .str [87], .str [76], .str [81], .str [36], .str [], .str [], .str [], .sla (some ⟨b, 0, none⟩) 20 cp] ∧ (L.map tm = x86T ∧ RowsIn w.heap.size L w' [b]) ∧ w.heap.size ≤ b ∧ Given 109 20 20 (fun zz => rwc (L.getD zz Rw.z)) b cp w') hX (B.trans A) (fun i e he => nil_no he) rfl rfl rfl rfl ⟨L ++ (xothR c1 c2 c3 c4 c5 c6 c7 c8 c9), b, cp, rfl, ⟨by rw [List.map_append, hR.1]; rfl, h1.one h2 A.mix⟩, hbl, hG.mix A.mix hkb⟩)
end Go.Proofs.YtedlaclfhgneeaaGreatDoor
/- A given row whose address stands inside a value: it gets a place. -/
namespace Go.Proofs.YtedlaclfhgneeaaGreatDoor
open Go.RowKit
set_option linter.unusedVariables false
set_option linter.unusedSimpArgs false
set_option linter.unusedSectionVars false
theorem denL_last {G : Gr} {x y : SV} (h : den G x = den G y) : ∀ {l : List SV}, denL G (l ++ [x]) = denL G (l ++ [y])
  | [] => by
    show denL G [x] = denL G [y]
    unfold denL
    rw [h]
  | z :: l => by
    show denL G (z :: (l ++ [x])) = denL G (z :: (l ++ [y]))
    unfold denL
    rw [denL_last h]
section
variable {P : Program} {n : Nat} {ks : List Nat} {G0 : Gr} {w0 : World} {T : List (Nat × SV)} {H : Hp} {G : Gr} {a : Act} {w w' : World} {Q : Exit → Act → World → Prop} {K : List Fr} {ops : Array Oper} {o : Oper} {rest : List Oper}
theorem Sy.takeRowG (A : Sy n T H ks G0 w0 G a w) (t : Nat) {e s m b cp : Nat} {f : Nat → List SV} {x y : SV} (hg : Given e s m f b cp w) (hn : ∀ (i : Nat) (e : Ent) (L : Loc), H[i]? = some (some e) → G[i]? = some (some L) → ¬ e.empty → L.b ≠ b) (ho : w0.heap.size ≤ b) (ht : look T t = some x) (hy : den (G ++ [some ⟨b, [], List.replicate cp undef, e⟩]) y = den (G ++ [some ⟨b, [], List.replicate cp undef, e⟩]) x) :
    Sy n ((t, y) :: T) (H ++ [some (.row e s m 0 f)]) ks G0 w0 (G ++ [some ⟨b, [], List.replicate cp undef, e⟩]) a w := by
  have hlen := A.mem.len
  obtain ⟨p1, xs, p2, p3⟩ := hg
  have hen : EntOK G w (some ⟨b, [], List.replicate cp undef, e⟩) (.row e s m 0 f) := ⟨p1, fun L hL => by cases hL; rfl, xs, p2, by simpa [rm] using p3⟩
  have hold : ∀ (i : Nat) (x : Ent), (H ++ [some (Ent.row e s m 0 f)])[i]? = some (some x) → (H[i]? = some (some x) ∧ i < H.length) ∨ (i = H.length ∧ x = .row e s m 0 f) := by
    intro i x h
    by_cases hi : i < H.length
    · rw [List.getElem?_append_left hi] at h; exact .inl ⟨h, hi⟩
    · rw [List.getElem?_append_right (by omega)] at h
      have : i - H.length = 0 := by
        cases hq : i - H.length with
        | zero => rfl
        | succ k => rw [hq] at h; simp at h
      rw [this] at h
      simp at h
      exact .inr ⟨by omega, h.symm⟩
  have hG : ∀ i, i < H.length → (G ++ [some (⟨b, [], List.replicate cp undef, e⟩ : Loc)])[i]? = G[i]? := fun i hi => List.getElem?_append_left (by omega)
  have hGn : (G ++ [some (⟨b, [], List.replicate cp undef, e⟩ : Loc)])[H.length]? = some (some ⟨b, [], List.replicate cp undef, e⟩) := by rw [List.getElem?_append_right (by omega), hlen]; simp
  refine ⟨A.size, A.defers, fun q x hx => ?_, ⟨by simp [hlen], ?_, ?_⟩, ?_, ?_, A.mix⟩
  · unfold look at hx
    cases hb : Nat.beq t q with
    | true =>
      rw [hb] at hx; cases hx
      have := Nat.eq_of_beq_eq_true hb
      subst this
      rw [hy]; exact den_mono _ _ (A.get t _ ht)
    | false => rw [hb] at hx; exact den_mono _ x (A.get q x hx)
  · intro i x h
    rcases hold i x h with ⟨h1, h2⟩ | ⟨rfl, rfl⟩
    · rw [hG i h2]; exact (A.mem.ent i x h1).more _
    · rw [hGn]; exact hen.more _
  · intro i j x y L M hij h1 h2 h3 h4 h5 h6
    rcases hold i x h1 with ⟨k1, k2⟩ | ⟨rfl, rfl⟩
    · rw [hG i k2] at h4
      rcases hold j y h2 with ⟨k3, k4⟩ | ⟨rfl, rfl⟩
      · rw [hG j k4] at h5; exact A.mem.sep i j x y L M hij k1 k3 h3 h4 h5 h6
      · rw [hGn] at h5; cases h5; exact hn i x L k1 h4 (mut_full h3)
    · rw [hGn] at h4; cases h4
      rcases hold j y h2 with ⟨k3, k4⟩ | ⟨rfl, rfl⟩
      · rw [hG j k4] at h5; exact fun z => hn j y M k3 h5 h6 z.symm
      · exact absurd rfl hij
  · obtain ⟨F, hF⟩ := A.pre; exact ⟨F ++ [some ⟨b, [], List.replicate cp undef, e⟩], by rw [hF, List.append_assoc]⟩
  · intro i x L h1 h2 h3
    rcases hold i x h1 with ⟨k1, k2⟩ | ⟨rfl, rfl⟩
    · rw [hG i k2] at h3; exact A.own i x L k1 h2 h3
    · rw [hGn] at h3; cases h3; exact .inr ho
/-- a call that gives a value with a row inside -/
theorem CALLAGG {β : Type} {e s m t f : Nat} {l : List SV} {F : β → Nat → List SV} {R : β → Nat → World → World → Prop} (hf : FnR P f [] [] (fun x w w' => ∃ (L : β) (b cp : Nat), x = .agg (l ++ [.sla (some ⟨b, 0, none⟩) m cp]) ∧ R L b w w' ∧ w.heap.size ≤ b ∧ Given e s m (F L) b cp w')) (A : Sy n T H ks G0 w0 G a w) (hd : o.dst = some t) (h1 : callS n ops T o = some (f, []))
    (k : ∀ L b cp a' w' G', R L b w w' → w.heap.size ≤ b → (∀ k, (keys (H ++ [some (.row e s m 0 (F L))]) G').contains k = true → k < w.heap.size ∨ k = b) → Sy n ((t, .agg (l ++ [.sl H.length m 0])) :: extS T o.dst (.agg (l ++ [.sla (some ⟨b, 0, none⟩) m cp]))) (H ++ [some (.row e s m 0 (F L))]) ks G0 w0 G' a' w' → Goal P Q K (.ops ops rest) a' w') : Goal P Q K (.ops ops (o :: rest)) a w := by
  refine CALLR [] hf A h1 rfl rfl rfl rfl fun x a' w' hJ hk A' => ?_
  obtain ⟨L, b, cp, rfl, hR, hlo, hg⟩ := hJ
  have hl : look (extS T o.dst (.agg (l ++ [.sla (some ⟨b, 0, none⟩) m cp]))) t = some (.agg (l ++ [.sla (some ⟨b, 0, none⟩) m cp])) := by rw [hd]; simp [extS, look, Nat.beq_refl]
  have hlen := A'.mem.len
  have A2 := A'.takeRowG t (y := .agg (l ++ [.sl H.length m 0])) hg (fun i e L q1 q2 q3 => by
    have := A.mem.ent i e q1
    rw [q2] at this
    have := EntOK.lt this q3
    omega) (Nat.le_trans A.mix.size hlo) hl (by
      unfold den
      rw [denL_last (y := .sla (some ⟨b, 0, none⟩) m cp)]
      unfold den
      rw [List.getElem?_append_right (by omega), hlen]
      simp [rm])
  refine k L b cp a' w' _ hR hlo (fun q hq => ?_) A2
  obtain ⟨i, e', L', q1, q2, q3, q4⟩ := mem_keys.1 hq
  by_cases hi : i < H.length
  · rw [List.getElem?_append_left hi] at q1
    rw [List.getElem?_append_left (by omega)] at q3
    exact .inl (hk q (mem_keys.2 ⟨i, e', L', q1, q2, q3, q4⟩))
  · have hi2 : i = H.length := by
      have := (List.getElem?_eq_some_iff.1 q1).1
      simp at this; omega
    subst hi2
    rw [List.getElem?_append_right (by omega), hlen] at q3
    simp at q3
    subst q3
    exact .inr q4.symm
end
end Go.Proofs.YtedlaclfhgneeaaGreatDoor
/- x86's table: what reading asks of it. -/
namespace Go.Proofs.YtedlaclfhgneeaaGreatDoor
open Go.RowKit
set_option linter.unusedVariables false
set_option linter.unusedSimpArgs false
set_option maxRecDepth 100000
set_option maxHeartbeats 2000000
def x86G : Lg := ⟨[82, 65, 88], [82, 66, 88], [82, 67, 88], [82, 68, 88], [82, 83, 73], [82, 68, 73], [82, 56], [82, 57], [66], [87], [76], [81], [36], [], [], []⟩
section
variable {g : Lg} {q : List UInt8} {L : List Rw} {ws : List Tk} {s : Ps}
theorem nfl_sz : ∀ (l : List Rw) (z : Int × List Rw) (r : Rw), r ∈ (l.foldl (nSt g q) z).2 → r ∈ z.2 ∨ (r ∈ l ∧ (szP g r.nm q).2 = true)
  | [], z, r, h => .inl h
  | x :: l, z, r, h => by
    rw [List.foldl_cons] at h
    rcases nfl_sz l _ r h with h1 | ⟨h1, h2⟩
    · unfold nSt at h1
      split at h1
      · next hx =>
        rcases List.mem_append.1 h1 with h2 | h2
        · exact .inl h2
        · rw [List.mem_singleton] at h2; subst h2; exact .inr ⟨List.mem_cons_self, hx⟩
      · exact .inl h1
    · exact .inr ⟨List.mem_cons_of_mem _ h1, h2⟩
theorem naR_sz {r : Rw} (h : r ∈ naR g ws L s) : r ∈ L ∧ (szP g r.nm (ws.getD s.p tok0).text).2 = true := by
  unfold naR at h
  split at h
  · unfold naZ zK at h
    rcases nfl_sz _ _ _ h with h1 | ⟨h1, h2⟩
    · cases h1
    · exact ⟨List.mem_of_mem_take h1, h2⟩
  · cases h
theorem tm_mem {r : Rw} {T : List (List UInt8 × List UInt8 × In × List Int)} (h : L.map tm = T) (hr : r ∈ L) : tm r ∈ T := by rw [← h]; exact List.mem_map_of_mem hr
end
/-- what a table's rows keep: names are short, have their letter's place apart, and of one name all have as many parts -/
def tabB (g : Lg) (T : List (List UInt8 × List UInt8 × In × List Int)) : Bool := T.all fun x => decide (x.1.length ≤ 1000) && decide ((Lib.cut x.1 [42]).1.length ≤ 1000) && decide ((Lib.cut x.1 [42]).2.1.length ≤ 1000) && decide (x.2.2.2.length ≤ 1000)
theorem x86_tab : tabB x86G x86T = true := by decide +kernel
/-- names that a row may have -/
def rnm (g : Lg) (nm : List UInt8) : List (List UInt8) := if (Lib.cut nm [42]).2.2 = true then nms g nm else [nm]
theorem rnm_of {g : Lg} {nm q : List UInt8} (h : (szP g nm q).2 = true) : q ∈ rnm g nm := by
  unfold szP at h
  unfold rnm
  split at h
  · next hc =>
    rw [if_pos hc]
    split at h
    · cases h
    · next hi =>
      unfold idxS at hi
      split at hi
      · next j hj =>
        have h1 := List.find?_some hj
        have h2 := List.mem_range.1 (List.mem_of_find?_eq_some hj)
        have e : q = (nms g nm).getD j [] := by simpa using h1
        rw [e, List.getD_eq_getElem?_getD, List.getElem?_eq_getElem h2]
        exact List.getElem_mem h2
      · exact absurd (show (-1 : Int) < 0 by decide) hi
  · next hc =>
    rw [if_neg hc]
    simp at h; simp [h]
/-- of one name all rows have as many parts -/
def sameB (g : Lg) (T : List (List UInt8 × List UInt8 × In × List Int)) : Bool := T.all fun x => T.all fun y => (x.2.2.2.length == y.2.2.2.length) || (rnm g x.1).all fun q => !((rnm g y.1).contains q)
theorem x86_same : sameB x86G x86T = true := by decide +kernel
theorem pa_ok {g : Lg} {T : List (List UInt8 × List UInt8 × In × List Int)} {L : List Rw} {ws : List Tk} (hm : L.map tm = T) (h1 : tabB g T = true) (h2 : sameB g T = true) (hn : T.length ≤ 1000) (hl : ∀ k, ([g.l0, g.l1, g.l2, g.l3].getD k []).length ≤ 1000) : PaOK g ws L := by
  have hlen : L.length ≤ 1000 := by have := congrArg List.length hm; rw [List.length_map] at this; omega
  have htab : ∀ r ∈ L, r.nm.length ≤ 1000 ∧ (Lib.cut r.nm [42]).1.length ≤ 1000 ∧ (Lib.cut r.nm [42]).2.1.length ≤ 1000 ∧ r.ps.length ≤ 1000 := fun r hr => by
    have := (List.all_eq_true.1 h1) _ (tm_mem hm hr)
    simp only [Bool.and_eq_true, decide_eq_true_eq] at this
    exact ⟨this.1.1.1, this.1.1.2, this.1.2, this.2⟩
  refine ⟨fun r hr => ⟨(htab r hr).1, (htab r hr).2.1, (htab r hr).2.2.1, hl⟩, by omega, fun r hr q hq => ?_, ?_⟩
  · obtain ⟨a1, a2⟩ := naR_sz hr
    obtain ⟨b1, b2⟩ := naR_sz hq
    have := (List.all_eq_true.1 ((List.all_eq_true.1 h2) _ (tm_mem hm a1))) _ (tm_mem hm b1)
    rw [Bool.or_eq_true] at this
    rcases this with h | h
    · simpa [tm] using h
    · have := (List.all_eq_true.1 h) _ (rnm_of a2)
      have hc : (rnm g (tm q).1).contains (ws.getD Ps.z0.p tok0).text = true := by rw [List.contains_iff_mem]; exact rnm_of b2
      rw [hc] at this; cases this
  · unfold inN
    by_cases h : 0 < (naR g ws L Ps.z0).length
    · exact (htab _ (naR_sz (r0_mem h)).1).2.2.2
    · rw [List.getD_eq_getElem?_getD, List.getElem?_eq_none (by omega)]; exact Nat.zero_le _
theorem x86_pa {L : List Rw} {ws : List Tk} (hm : L.map tm = x86T) : PaOK x86G ws L := pa_ok hm x86_tab x86_same (by decide +kernel) (fun k => by
  by_cases h : k < 4
  · have : k = 0 ∨ k = 1 ∨ k = 2 ∨ k = 3 := by omega
    rcases this with rfl | rfl | rfl | rfl <;> decide
  · rw [List.getD_eq_getElem?_getD, List.getElem?_eq_none (by simpa using h)]; decide)
end Go.Proofs.YtedlaclfhgneeaaGreatDoor
/- Where rows' parts lie turns nothing of what is read. -/
namespace Go.Proofs.YtedlaclfhgneeaaGreatDoor
open Go.RowKit
set_option linter.unusedVariables false
set_option linter.unusedSimpArgs false
set_option linter.unusedSectionVars false
def cn (r : Rw) : Rw := ⟨r.nm, r.wd, r.ins, none, r.ps, 0⟩
def rwOf (x : List UInt8 × List UInt8 × In × List Int) : Rw := ⟨x.1, x.2.1, x.2.2.1, none, x.2.2.2, 0⟩
theorem cn_tm {L : List Rw} {T : List (List UInt8 × List UInt8 × In × List Int)} (h : L.map tm = T) : L.map cn = T.map rwOf := by rw [← h, List.map_map]; rfl
section
variable {g : Lg} {q : List UInt8} {L R : List Rw} {ws : List Tk} {s z : Ps} {k : Nat} {t : Tk} {x : Int}
theorem cn_at (j : Nat) : (R.map cn).getD j Rw.z = cn (R.getD j Rw.z) := by
  rw [List.getD_eq_getElem?_getD, List.getD_eq_getElem?_getD, List.getElem?_map]
  cases R[j]? <;> rfl
theorem cn_st (z : Int × List Rw) (r : Rw) : nSt g q (z.1, z.2.map cn) (cn r) = ((nSt g q z r).1, (nSt g q z r).2.map cn) := by
  show (if (szP g r.nm q).2 = true then _ else _) = _
  unfold nSt
  split
  · show (_, z.2.map cn ++ [cn r]) = (_, (z.2 ++ [r]).map cn)
    rw [List.map_append]; rfl
  · rfl
theorem cn_fl : ∀ (l : List Rw) (z : Int × List Rw), (l.map cn).foldl (nSt g q) (z.1, z.2.map cn) = ((l.foldl (nSt g q) z).1, (l.foldl (nSt g q) z).2.map cn)
  | [], z => rfl
  | r :: l, z => by
    rw [List.map_cons, List.foldl_cons, List.foldl_cons, cn_st, cn_fl l]
theorem cn_zK : zK g q (L.map cn) x k = ((zK g q L x k).1, (zK g q L x k).2.map cn) := by
  unfold zK
  rw [← List.map_take]
  exact cn_fl (L.take k) (x, [])
theorem cn_naZ : naZ g ws (L.map cn) s = ((naZ g ws L s).1, (naZ g ws L s).2.map cn) := by
  unfold naZ; rw [List.length_map]; exact cn_zK
theorem cn_naR : naR g ws (L.map cn) s = (naR g ws L s).map cn := by
  unfold naR; rw [cn_naZ]; split <;> rfl
theorem cn_naS : naS g ws (L.map cn) s = naS g ws L s := by
  unfold naS; rw [cn_naZ]; simp only [List.length_map]
theorem cn_lft : lft g k t (R.map cn) = (lft g k t R).map cn := by
  unfold lft; rw [List.filter_map]; rfl
theorem cn_fst : fstX (ask10 k) (R.map cn) = fstX (ask10 k) R := by
  unfold fstX
  rw [List.length_map]
  have : (fun j => ask10 k ((R.map cn).getD j Rw.z)) = fun j => ask10 k (R.getD j Rw.z) := by
    funext j; rw [cn_at]; rfl
  rw [this]
theorem cn_beS : beS g ws k (R.map cn) s = beS g ws k R s := by
  unfold beS mfV; rw [cn_lft, List.length_map, cn_fst]
theorem cn_nxR : nxR g ws k (R.map cn) z = (nxR g ws k R z).map cn := cn_lft
theorem cn_nxS : nxS g ws k (R.map cn) z = nxS g ws k R z := by
  unfold nxS; rw [cn_nxR, List.length_map, cn_beS, cn_at]; rfl
theorem cn_goB : goB (R.map cn) k = goB R k := by
  unfold goB; rw [List.length_map, cn_at]; rfl
theorem cn_inst : ∀ (f k : Nat) (R : List Rw) (z : Ps), inst g ws f k (R.map cn) z = ((inst g ws f k R z).1, (inst g ws f k R z).2.map cn)
  | 0, k, R, z => rfl
  | f + 1, k, R, z => by
    unfold inst
    rw [cn_goB]
    split
    · rw [cn_nxR, cn_nxS]; exact cn_inst f _ _ _
    · rfl
theorem cn_inN : inN g ws (L.map cn) s = inN g ws L s := by
  unfold inN; rw [cn_naR, cn_at]; rfl
theorem cn_inF : inF g ws (L.map cn) s = ((inF g ws L s).1, (inF g ws L s).2.map cn) := by
  unfold inF; rw [cn_inN, cn_naR, cn_naS]; exact cn_inst _ _ _ _
theorem cn_inI : inI g ws (L.map cn) s = inI g ws L s := by
  unfold inI; rw [cn_inF]; simp only [List.length_map, cn_at]; rfl
theorem cn_paE : paE g ws (L.map cn) = paE g ws L := by unfold paE; rw [cn_inF]
theorem cn_par : parI g ws (L.map cn) = parI g ws L ∧ parT g ws (L.map cn) = parT g ws L ∧ parE g ws (L.map cn) = parE g ws L ∧ parA g ws (L.map cn) = parA g ws L := by
  unfold parI parT parE parA
  rw [cn_paE, cn_inI, cn_inF]
  exact ⟨rfl, rfl, rfl, rfl⟩
end
def x86C : List Rw := x86T.map rwOf
theorem x86_par {L : List Rw} (h : L.map tm = x86T) (ws : List Tk) : parI x86G ws L = parI x86G ws x86C ∧ parT x86G ws L = parT x86G ws x86C ∧ parE x86G ws L = parE x86G ws x86C ∧ parA x86G ws L = parA x86G ws x86C := by
  have := cn_par (g := x86G) (ws := ws) (L := L)
  rw [cn_tm h] at this
  exact ⟨this.1.symm, this.2.1.symm, this.2.2.1.symm, this.2.2.2.symm⟩
end Go.Proofs.YtedlaclfhgneeaaGreatDoor
/- What is printed by x86's table, said in the words of the theory that was proved before. -/
namespace Go.Proofs.YtedlaclfhgneeaaGreatDoor
open Go.RowKit
set_option linter.unusedVariables false
set_option linter.unusedSimpArgs false
def toO (i : In) : Old.Ins := ⟨i.op, i.dst, i.ra, i.rb, i.imm, i.loc, i.off, i.ix, i.sz, i.fn, i.acq, i.weak, i.rel, i.pred, i.succ, i.to_, i.zero⟩
theorem fits_o (a s : Int) : (((((((s == 1) || (s == 2)) || (s == 4)) || (s == 8)) && (decide (a ≥ 0))) && (decide (a ≤ (IntKind.wrap .i64 (8 - s))))) && ((Int.tmod a s) == 0)) = Old.fitsB a s := by
  unfold Old.fitsB
  have w1 : IntKind.wrap .i64 (8 - 1) = 7 := by decide
  have w2 : IntKind.wrap .i64 (8 - 2) = 6 := by decide
  have w4 : IntKind.wrap .i64 (8 - 4) = 4 := by decide
  have w8 : IntKind.wrap .i64 (8 - 8) = 0 := by decide
  by_cases ha : a ≥ 0
  · by_cases h1 : s = 1
    · subst h1; rw [w1, Int.tmod_eq_emod_of_nonneg ha]; rw [Bool.eq_iff_iff]; simp [ha]
    · by_cases h2 : s = 2
      · subst h2; rw [w2, Int.tmod_eq_emod_of_nonneg ha]; rw [Bool.eq_iff_iff]; simp [ha]
      · by_cases h4 : s = 4
        · subst h4; rw [w4, Int.tmod_eq_emod_of_nonneg ha]; rw [Bool.eq_iff_iff]; simp [ha]
        · by_cases h8 : s = 8
          · subst h8; rw [w8, Int.tmod_eq_emod_of_nonneg ha]; rw [Bool.eq_iff_iff]; simp [ha]
          · simp [h1, h2, h4, h8]
  · have : ¬ 0 ≤ a := ha
    simp [this]
theorem mask_o (a s : Int) : (bMask0 a s == 0) = (Old.maskR a s == 0) := by
  unfold bMask0 Old.maskR
  rw [fits_o]
  cases h : Old.fitsB a s
  · simp
  · have hf := h
    unfold Old.fitsB at hf
    have hf := of_decide_eq_true hf
    obtain ⟨hs, h0, h1, h2⟩ := hf
    simp only [Bool.not_true, Bool.false_eq_true, if_false, if_true]
    rcases hs with e | e | e | e <;> subst e
    · have : a = 0 ∨ a = 1 ∨ a = 2 ∨ a = 3 ∨ a = 4 ∨ a = 5 ∨ a = 6 ∨ a = 7 := by omega
      rcases this with e | e | e | e | e | e | e | e <;> subst e <;> decide +kernel
    · have : a = 0 ∨ a = 2 ∨ a = 4 ∨ a = 6 := by omega
      rcases this with e | e | e | e <;> subst e <;> decide +kernel
    · have : a = 0 ∨ a = 4 := by omega
      rcases this with e | e <;> subst e <;> decide +kernel
    · have : a = 0 := by omega
      subst this; decide +kernel
theorem ron_o (r : Int) : isRegOrNone0 r = Old.ronB r := by
  unfold isRegOrNone0 Old.ronB Old.regB
  by_cases h : r = -1
  · simp [h]
  · simp [h]
theorem acc_o (i : In) : isAccess0 i.op i.dst i.ra i.rb i.imm i.loc i.off i.ix i.sz i.fn i.acq i.weak i.rel i.pred i.succ i.to_ i.zero = Old.accB (toO i) := by
  unfold isAccess0 Old.accB toO
  rw [ron_o, mask_o]
  by_cases h1 : i.loc ≥ 0
  · by_cases h2 : i.loc < 3
    · cases h3 : Old.ronB i.ix <;> simp [h1, h2, h3]
    · simp [h1, h2]
  · simp [h1]
theorem sound_o (i : In) : sound0 i.op i.dst i.ra i.rb i.imm i.loc i.off i.ix i.sz i.fn i.acq i.weak i.rel i.pred i.succ i.to_ i.zero = Old.soundB (toO i) := by
  have ha := acc_o i
  unfold sound0 Old.soundB
  rw [ha, ron_o, ron_o]
  generalize Old.accB (toO i) = ab
  unfold toO Old.regB Old.fenB
  by_cases h1 : i.op = 1
  · simp [h1]
  by_cases h2 : i.op = 2
  · simp [h2]
  by_cases h3 : i.op = 3
  · simp [h3, Bool.and_assoc]
  by_cases h4 : i.op = 4
  · simp [h4, Bool.and_assoc]
  by_cases h5 : i.op = 5
  · simp [h5]
  by_cases h6 : i.op = 6
  · simp [h6, Bool.and_assoc]
  by_cases h7 : i.op = 7
  · simp [h7, Bool.beq_eq_decide_eq]
  by_cases h8 : i.op = 8
  · simp [h8]
  by_cases h9 : i.op = 9
  · simp [h9]
  simp [h1, h2, h3, h4, h5, h6, h7, h8, h9]
theorem eq_o (a b : In) : eqIn a b = Old.insEq (toO a) (toO b) := by
  unfold eqIn Old.insEq toO
  rw [Bool.eq_iff_iff]
  simp only [Bool.and_eq_true, beq_iff_eq, decide_eq_true_eq, Old.Ins.mk.injEq]
def plI (i : In) : In := ⟨i.op, plain0 i.op i.dst i.ra i.rb i.imm i.loc i.off i.ix i.sz i.fn i.acq i.weak i.rel i.pred i.succ i.to_ i.zero, plain1 i.op i.dst i.ra i.rb i.imm i.loc i.off i.ix i.sz i.fn i.acq i.weak i.rel i.pred i.succ i.to_ i.zero, plain2 i.op i.dst i.ra i.rb i.imm i.loc i.off i.ix i.sz i.fn i.acq i.weak i.rel i.pred i.succ i.to_ i.zero, plain3 i.op i.dst i.ra i.rb i.imm i.loc i.off i.ix i.sz i.fn i.acq i.weak i.rel i.pred i.succ i.to_ i.zero, plain4 i.op i.dst i.ra i.rb i.imm i.loc i.off i.ix i.sz i.fn i.acq i.weak i.rel i.pred i.succ i.to_ i.zero, plain5 i.op i.dst i.ra i.rb i.imm i.loc i.off i.ix i.sz i.fn i.acq i.weak i.rel i.pred i.succ i.to_ i.zero, plain6 i.op i.dst i.ra i.rb i.imm i.loc i.off i.ix i.sz i.fn i.acq i.weak i.rel i.pred i.succ i.to_ i.zero, plain7 i.op i.dst i.ra i.rb i.imm i.loc i.off i.ix i.sz i.fn i.acq i.weak i.rel i.pred i.succ i.to_ i.zero, plain8 i.op i.dst i.ra i.rb i.imm i.loc i.off i.ix i.sz i.fn i.acq i.weak i.rel i.pred i.succ i.to_ i.zero, plain9 i.op i.dst i.ra i.rb i.imm i.loc i.off i.ix i.sz i.fn i.acq i.weak i.rel i.pred i.succ i.to_ i.zero, plain10 i.op i.dst i.ra i.rb i.imm i.loc i.off i.ix i.sz i.fn i.acq i.weak i.rel i.pred i.succ i.to_ i.zero, plain11 i.op i.dst i.ra i.rb i.imm i.loc i.off i.ix i.sz i.fn i.acq i.weak i.rel i.pred i.succ i.to_ i.zero, plain12 i.op i.dst i.ra i.rb i.imm i.loc i.off i.ix i.sz i.fn i.acq i.weak i.rel i.pred i.succ i.to_ i.zero, plain13 i.op i.dst i.ra i.rb i.imm i.loc i.off i.ix i.sz i.fn i.acq i.weak i.rel i.pred i.succ i.to_ i.zero, plain14 i.op i.dst i.ra i.rb i.imm i.loc i.off i.ix i.sz i.fn i.acq i.weak i.rel i.pred i.succ i.to_ i.zero, plain15 i.op i.dst i.ra i.rb i.imm i.loc i.off i.ix i.sz i.fn i.acq i.weak i.rel i.pred i.succ i.to_ i.zero⟩
theorem imm_o (i : In) (r : Int) : immFor0 i.op i.dst i.ra i.rb i.imm i.loc i.off i.ix i.sz i.fn i.acq i.weak i.rel i.pred i.succ i.to_ i.zero r = Old.immF (toO i) r := by
  unfold immFor0 Old.immF toO
  by_cases h : r = -1 <;> simp [h]
theorem isop_o (i : In) : isOp0 i.op i.dst i.ra i.rb i.imm i.loc i.off i.ix i.sz i.fn i.acq i.weak i.rel i.pred i.succ i.to_ i.zero = Old.opB (toO i) := by
  unfold isOp0 Old.opB Old.rdB Old.wrB toO
  cases ((i.op == 4) || (i.op == 6)) <;> simp
theorem plain_o (i : In) : toO (plI i) = Old.plainF (toO i) := by
  have h1 := imm_o i i.rb
  have h2 := imm_o i i.ra
  have h3 := isop_o i
  unfold toO plI Old.plainF
  unfold plain0 plain1 plain2 plain3 plain4 plain5 plain6 plain7 plain8 plain9 plain10 plain11 plain12 plain13 plain14 plain15
  rw [h1, h2, h3]
  unfold Old.opB Old.rdB Old.wrB
  generalize e1 : Old.immF (toO i) i.rb = m1
  generalize e2 : Old.immF (toO i) i.ra = m2
  unfold toO at e1 e2 ⊢
  simp only [Old.Ins.mk.injEq]
  rw [e1, e2]
  by_cases h1 : i.op = 1
  · simp [h1]
  by_cases h2 : i.op = 2
  · simp [h2]
  by_cases h3 : i.op = 3
  · simp [h3]
  by_cases h4 : i.op = 4
  · simp [h4]
  by_cases h5 : i.op = 5
  · simp [h5]
  by_cases h6 : i.op = 6
  · simp [h6]
  by_cases h7 : i.op = 7
  · simp [h7]
  by_cases h8 : i.op = 8
  · simp [h8]
  by_cases h9 : i.op = 9
  · simp [h9]
  simp [h1, h2, h3, h4, h5, h6, h7, h8, h9]
theorem right_o (i : In) (at_ n : Int) : Right0 i.op i.dst i.ra i.rb i.imm i.loc i.off i.ix i.sz i.fn i.acq i.weak i.rel i.pred i.succ i.to_ i.zero at_ n = Old.rightR (toO i) at_ n := by
  have e1 := sound_o i
  have e2 := eq_o i (plI i)
  rw [plain_o] at e2
  unfold Right0 Old.rightR
  unfold eqIn plI at e2
  rw [e1, e2]
  clear e1 e2
  cases Old.insEq (toO i) (Old.plainF (toO i)) <;> cases Old.soundB (toO i) <;> simp only [Bool.not_true, Bool.not_false, Bool.or_self, Bool.or_true, Bool.true_or, Bool.and_self, Bool.and_true, Bool.and_false, if_true, Bool.false_eq_true, if_false] <;> rfl
theorem wrong_o (i : In) : wrongI i = Old.wrongB (toO i) := by
  unfold wrongI Old.wrongB; rw [right_o]
end Go.Proofs.YtedlaclfhgneeaaGreatDoor
/- x86's printing, in the words of the theory that was proved before: what the table prints is what the reference prints. -/
namespace Go.Proofs.YtedlaclfhgneeaaGreatDoor
open Go.RowKit
set_option linter.unusedVariables false
set_option linter.unusedSimpArgs false
def toR (r : Rw) : Old.Rw := ⟨r.nm, toO r.ins, Old.nilV, r.ps⟩
theorem step_o (i j : In) (p : Int) : toO (wStep i j p) = Old.wStep (toO i) (toO j) p := by
  unfold wStep Old.wStep
  by_cases h1 : p = 1
  · simp [h1, toO]
  by_cases h2 : p = 2
  · simp [h2, toO]
  by_cases h3 : p = 3
  · simp [h3, toO]
  by_cases h4 : p = 4
  · simp [h4, toO]
  by_cases h5 : p = 5
  · simp [h5, toO]
  by_cases h6 : p = 6
  · simp [h6, toO]
  by_cases h7 : p = 7
  · simp [h7, toO]
  by_cases h8 : p = 8
  · simp [h8, toO]
  by_cases h9 : p = 9
  · simp [h9, toO]
  simp [h1, h2, h3, h4, h5, h6, h7, h8, h9]
theorem fold_o (i : In) : ∀ (ps : List Int) (j : In), toO (ps.foldl (wStep i) j) = ps.foldl (Old.wStep (toO i)) (toO j)
  | [], j => rfl
  | p :: ps, j => by rw [List.foldl_cons, List.foldl_cons, fold_o i ps, step_o]
theorem lay_o (r : Rw) (i : In) : toO (r.lay i) = Old.withR (toR r) (toO i) := fold_o i r.ps (bare r.ins)
theorem regp_o (p : Int) (i : In) : regP p i = Old.regP p (toO i) := by
  unfold regP Old.regP toO
  simp only [beq_iff_eq]
theorem rowp_o (i : In) (r : Rw) : rowP i r = Old.fitsR (toO i) (toR r) := by
  unfold rowP Old.fitsR
  rw [eq_o, lay_o]
  congr 1
  unfold showP Old.showsR Old.lacks
  simp only [regp_o]
  rfl
theorem find_o (i : In) : ∀ L : List Rw, (L.map toR).find? (Old.fitsR (toO i)) = (L.find? (rowP i)).map toR
  | [] => rfl
  | r :: L => by
    rw [List.map_cons, List.find?_cons, List.find?_cons, ← rowp_o, find_o i L]
    cases rowP i r <;> rfl
theorem c_o : Old.x86C = Old.x86L Old.nilV (x86C.map toR) := by kernel_rfl
theorem reg_o (r : Int) : regnm0 x86G.r0 x86G.r1 x86G.r2 x86G.r3 x86G.r4 x86G.r5 x86G.r6 x86G.r7 r = Old.nameL Old.x86C r := by
  unfold regnm0 Old.nameL
  by_cases h : r < 0 ∨ r > 7
  · rw [if_pos h, if_pos (by simp only [Bool.or_eq_true, decide_eq_true_eq]; omega)]
  · rw [if_neg h, if_neg (by simp only [Bool.or_eq_true, decide_eq_true_eq]; omega), List.getD_eq_getElem?_getD]; rfl
theorem loc_o (k : Nat) : [[120], [121], [122]].getD k ([] : List UInt8) = Old.locN k := by
  match k with
  | 0 => rfl
  | 1 => rfl
  | 2 => rfl
  | k + 3 => unfold Old.locN; simp
theorem mem_o (i : In) : memT x86G i = Old.memL Old.x86C (toO i) i.loc.toNat := by
  unfold memT memB memA Old.memL
  rw [reg_o, loc_o]
  by_cases h1 : i.ix = -1 <;> by_cases h2 : i.off = 0 <;> simp [h1, h2, toO]
theorem opd_o (r : Rw) (p : Int) (i : In) (lb : List UInt8) (hp : p ≠ 10) : opdT x86G r p i lb = Old.opndR Old.x86C p (toO i) lb := by
  unfold opdT Old.opndR
  rw [reg_o, mem_o, regp_o, if_neg hp]
  simp only [beq_iff_eq, List.getD_eq_getElem?_getD]
  rfl
theorem name_o (r : Rw) (n : Int) : nameR x86G r.nm n = Old.nameR Old.x86C (toR r) n := by
  unfold nameR Old.nameR szK Old.letF
  by_cases h1 : n = 1
  · simp [h1]; rfl
  by_cases h2 : n = 2
  · simp [h2]; rfl
  by_cases h4 : n = 4
  · simp [h4]; rfl
  by_cases h8 : n = 8
  · simp [h8]; rfl
  simp [h1, h2, h4, h8]; rfl
theorem one_o (l : List UInt8) : oneN l = Old.isNm l := by
  unfold oneN Old.isNm
  cases h : (tokensR l).1 with
  | nil => simp
  | cons t ts =>
    simp only [List.getD_cons_zero, List.length_cons, List.getElem?_cons_zero]
    have e : (t.text == l) = eqL t.text l := by
      cases hq : eqL t.text l
      · rw [beq_eq_false_iff_ne]; intro hh; rw [hh, eqL_same] at hq; cases hq
      · rw [eqL_eq hq]; exact beq_self_eq_true _
    rw [e]
    have e2 : (ts.length + 1 == 1) = ((((ts.length + 1 : Nat) : Int)) == 1) := by
      rw [Bool.eq_iff_iff]; simp only [beq_iff_eq]; omega
    rw [e2, ← Bool.and_assoc]
theorem no10 : ∀ r ∈ x86C, ∀ p ∈ r.ps, p ≠ 10 := by decide +kernel
theorem pr_o (i : In) (lb : List UInt8) : prP x86G x86C i lb = Old.prL Old.x86C (toO i) lb := by
  have hf : Old.rowF Old.x86C (toO i) = (x86C.find? (rowP i)).map toR := by
    unfold Old.rowF; rw [c_o]; exact find_o i x86C
  unfold prP Old.prL
  rw [wrong_o, hf, one_o]
  cases hw : Old.wrongB (toO i)
  · rw [if_neg Bool.false_ne_true, if_neg Bool.false_ne_true]
    unfold rowQ rowR
    cases hr : x86C.find? (rowP i) with
    | none => rfl
    | some r =>
      have hm := List.mem_of_find?_eq_some hr
      have ho : opsT x86G r i lb = (toR r).parts.map (fun p => Old.opndR Old.x86C p (toO i) lb) := by
        unfold opsT
        exact List.map_congr_left fun p hp => opd_o r p i lb (no10 r hm p hp)
      simp only [Option.isSome_some, Option.map_some, Option.getD_some, ho, name_o]
      have e9 : (toO i).op = i.op := rfl
      have es : (toO i).size = i.sz := rfl
      have el : (toR r).parts = r.ps := rfl
      rw [e9, es, el]
      by_cases h9 : i.op = 9
      · cases hn : Old.isNm lb
        · simp [h9]
        · by_cases hl : r.ps = [] <;> simp [h9, hl]
      · by_cases hl : r.ps = [] <;> simp [h9, hl]
  · rw [if_pos rfl, if_pos rfl]
theorem pr_ref (i : In) (lb : List UInt8) : prP x86G x86C i lb = Old.prR (toO i) lb := (pr_o i lb).trans (Old.pr_eq _ _)
end Go.Proofs.YtedlaclfhgneeaaGreatDoor
/- The reference's printing, at x86. -/
namespace Go.Proofs.YtedlaclfhgneeaaGreatDoor
open Go.RowKit
set_option linter.unusedVariables false
set_option linter.unusedSimpArgs false
set_option maxRecDepth 100000
set_option maxHeartbeats 2000000
set_option simprocs false
theorem nameF_le (r : Int) : (Old.nameF r).length ≤ 3 := by
  unfold Old.nameF
  split
  · exact Nat.zero_le _
  · cases h : Old.regsX[r.toNat]? with
    | none => exact Nat.zero_le _
    | some x =>
      have hm := List.mem_of_getElem? h
      have : ∀ x ∈ Old.regsX, x.length ≤ 3 := by decide
      exact this x hm
theorem locN_le (k : Nat) : (Old.locN k).length ≤ 1 := by
  unfold Old.locN; rw [List.length_drop, List.length_take]; omega
theorem tlX_le (n : Int) : (Old.tlX n).length ≤ 1 := by
  unfold Old.tlX; (repeat' split) <;> decide
theorem fnT_le (n : Int) : (Old.fnT n).length ≤ 3 := by
  unfold Old.fnT
  cases h : Old.fnsX[n.toNat]? with
  | none => exact Nat.zero_le _
  | some x =>
    have hm := List.mem_of_getElem? h
    have : ∀ x ∈ Old.fnsX, x.length ≤ 3 := by decide
    exact this x hm
theorem branT_le (z : Bool) : (Old.branT z).length ≤ 3 := by cases z <;> decide
theorem itoa_le (n : Int) (h : -9223372036854775808 ≤ n ∧ n ≤ 9223372036854775807) : (Lib.itoa n).length ≤ 21 := Lib.itoa_length_le n h.1 h.2
theorem numT_le (n : Int) (h : -9223372036854775808 ≤ n ∧ n ≤ 9223372036854775807) : (Old.numT n).length ≤ 22 := by
  have := itoa_le n h; unfold Old.numT; rw [List.length_append, List.length_cons, List.length_nil]; omega
theorem regOrT_le (r n : Int) (h : -9223372036854775808 ≤ n ∧ n ≤ 9223372036854775807) : (Old.regOrT r n).length ≤ 22 := by
  have := numT_le n h; have := nameF_le r; unfold Old.regOrT; split <;> omega
theorem memT_le (i : In) (h : -9223372036854775808 ≤ i.off ∧ i.off ≤ 9223372036854775807) : (Old.memT (toO i)).length ≤ 40 := by
  have := itoa_le i.off h; have := nameF_le i.ix; have := locN_le i.loc.toNat
  unfold Old.memT toO; (repeat' split) <;> simp only [List.length_append, List.length_cons, List.length_nil] <;> omega
structure TLI (n : Int) (k : Nat) : Prop where
  le : k ≤ 4
  h1 : 1 ≤ k → n ≠ 1
  h2 : 2 ≤ k → n ≠ 2
  h4 : 3 ≤ k → n ≠ 4
  h8 : 4 ≤ k → n ≠ 8
theorem TLI.i0 {n : Int} : TLI n 0 := ⟨by omega, by omega, by omega, by omega, by omega⟩
theorem sh_k (k : Nat) (h : k < 4) : (IntKind.wrap .i64 (1 * 2 ^ min ((k : Int)).toNat (IntKind.bits .i64))) = [1, 2, 4, 8].getD k 0 := by
  have : k = 0 ∨ k = 1 ∨ k = 2 ∨ k = 3 := by omega
  rcases this with e | e | e | e <;> subst e <;> decide +kernel
theorem TLI.nx {n : Int} {k : Nat} (hI : TLI n k) (h : k < 4) (hn : [1, 2, 4, 8].getD k 0 ≠ n) : TLI n (k + 1) := by
  have hk : k = 0 ∨ k = 1 ∨ k = 2 ∨ k = 3 := by omega
  have := hI.h1; have := hI.h2; have := hI.h4; have := hI.h8
  rcases hk with e | e | e | e <;> subst e <;> simp at hn <;> exact ⟨by omega, by omega, by omega, by omega, by omega⟩
theorem TLI.fi {n : Int} {k : Nat} (hI : TLI n k) (h : ¬ (k : Int) < 4) : Old.tlX n = [] := by
  have hk : 4 ≤ k := by omega
  have a1 := hI.h1 (by omega); have a2 := hI.h2 (by omega); have a4 := hI.h4 (by omega); have a8 := hI.h8 hk
  simp [Old.tlX, a1, a2, a4, a8]
theorem TLI.hit {n : Int} {k : Nat} (h : k < 4) (hn : [1, 2, 4, 8].getD k 0 = n) : Old.tlX n = ([[66], [87], [76], [81]] : List (List UInt8)).getD k [] := by
  have hk : k = 0 ∨ k = 1 ∨ k = 2 ∨ k = 3 := by omega
  rcases hk with e | e | e | e <;> subst e <;> subst hn <;> decide
theorem nameF_o {g : Int} (h : ((decide (g < 0)) || (decide (g > 7))) = true) : Old.nameF g = [] := by
  unfold Old.nameF
  simp only [Bool.or_eq_true, decide_eq_true_eq] at h
  rcases h with h | h
  · rw [if_pos h]
  · rw [if_neg (by omega), List.getElem?_eq_none (by show Old.regsX.length ≤ _; have : Old.regsX.length = 8 := rfl; omega)]; rfl
theorem nameF_i {g : Int} (h : ((decide (g < 0)) || (decide (g > 7))) = false) : Old.nameF g = [[82, 65, 88], [82, 66, 88], [82, 67, 88], [82, 68, 88], [82, 83, 73], [82, 68, 73], [82, 56], [82, 57]].getD g.toNat [] := by
  unfold Old.nameF
  simp only [Bool.or_eq_false_iff, decide_eq_false_iff_not] at h
  rw [if_neg h.1, List.getD_eq_getElem?_getD]; rfl
theorem rname_x (g : Int)  : Fn Tryz.prog 16 [.int .i64 1, .int .i64 g] [] (Rt (.str (Old.nameF g)) []) :=
 enterM (n := 37) (by kernel_rfl) Tryz.func16 rfl rfl rfl fun G w a h0 A => N hX 16 A rfl rfl fun A => fork 12 A rfl
  (fun h1 A => N hX 7 A rfl rfl fun A => RETN hX A rfl rfl rfl h0 rfl rfl rfl rfl (by rw [nameF_o h1]; rfl) rfl)
  (fun h1 A => N hX 27 A rfl rfl fun A => forkE 15 A rfl
   (fun h2 A => N hX 11 A rfl (ok_d (by have hz := h1; simp only [Bool.or_eq_false_iff, decide_eq_false_iff_not] at hz; (try simp only [List.length_cons, List.length_nil, List.length_drop, List.length_take]); omega) <| ok_d (by have hz := h1; simp only [Bool.or_eq_false_iff, decide_eq_false_iff_not] at hz; (try simp only [List.length_cons, List.length_nil, List.length_drop, List.length_take]); omega) <| okE_nil) fun A => RETN hX A rfl rfl rfl h0 rfl rfl rfl rfl (by rw [nameF_i h1]; rfl) rfl)
   (fun h2 A => absurd rfl h2))
theorem rloc_x (g : Int) (hr : 0 ≤ g ∧ g < 3) : Fn Tryz.prog 170 [.int .i64 g] [] (Rt (.str (Old.locN g.toNat)) []) :=
 enterM (n := 7) (by kernel_rfl) Tryz.func170 rfl rfl rfl fun G w a h0 A => N hX 15 A rfl (ok_d (by (try simp only [List.length_cons, List.length_nil]); omega) <| ok_d (by (try simp only [List.length_cons, List.length_nil]); omega) <| okE_nil) fun A => RETN hX A rfl rfl rfl h0 rfl rfl rfl rfl (by have : g = 0 ∨ g = 1 ∨ g = 2 := (by omega); rcases this with e | e | e <;> subst e <;> rfl) rfl
theorem rnum_x (v : Int) (hv : -9223372036854775808 ≤ v ∧ v ≤ 9223372036854775807) : Fn Tryz.prog 85 [.int .i64 1, .int .i64 v] [] (Rt (.str (Old.numT v)) []) :=
 enterM (n := 18) (by kernel_rfl) Tryz.func85 rfl rfl rfl fun G w a h0 A => N hX 18 A rfl rfl fun A => forkE 6 A rfl
  (fun h1 A => N hX 4 A rfl rfl fun A => CALL1 [] (digits v (by have q0 := hv; have q1 := itoa_le v hv; (try simp only [List.length_append, List.length_cons, List.length_nil]); omega) (by have q0 := hv; have q1 := itoa_le v hv; (try simp only [List.length_append, List.length_cons, List.length_nil]); omega)) A rfl rfl rfl rfl rfl rfl rfl fun A => N hX 5 A rfl (ok_d (by have q0 := hv; have q1 := itoa_le v hv; (try simp only [List.length_append, List.length_cons, List.length_nil]); omega) <| okE_nil) fun A => RETN hX A rfl rfl rfl h0 rfl rfl rfl rfl (by set_option simprocs true in (revert h1; simp +contextual [oneS, nb, nbL, nbH, Old.numT])) rfl)
  (fun h1 A => absurd rfl h1)
theorem ror_x (r : Int) (v : Int) (hv : -9223372036854775808 ≤ v ∧ v ≤ 9223372036854775807) : Fn Tryz.prog 87 [.int .i64 1, .int .i64 r, .int .i64 v] [] (Rt (.str (Old.regOrT r v)) []) :=
 enterM (n := 15) (by kernel_rfl) Tryz.func87 rfl rfl rfl fun G w a h0 A => N hX 12 A rfl rfl fun A => forkD 8 A rfl
  (fun h1 A => N hX 5 A rfl rfl fun A => CALL1 [] (rnum_x v (by have q0 := hv; have q1 := numT_le v hv; have q2 := nameF_le r; (try simp only [List.length_append, List.length_cons, List.length_nil]); omega)) A rfl rfl rfl rfl rfl rfl rfl fun A => N hX 4 A rfl rfl fun A => RETN hX A rfl rfl rfl h0 rfl rfl rfl rfl (by set_option simprocs true in (revert h1; first | (simp +contextual [oneS, nb, nbL, nbH, Old.regOrT]; done) | (by_cases a0 : r < 0 <;> simp +contextual [oneS, nb, nbL, nbH, Old.regOrT, a0]))) rfl)
  (fun h1 A => N hX 7 A rfl rfl fun A => CALL1 [] (rname_x r) A rfl rfl rfl rfl rfl rfl rfl fun A => N hX 4 A rfl rfl fun A => RETN hX A rfl rfl rfl h0 rfl rfl rfl rfl (by set_option simprocs true in (revert h1; first | (simp +contextual [oneS, nb, nbL, nbH, Old.regOrT]; done) | (by_cases a0 : r < 0 <;> simp +contextual [oneS, nb, nbL, nbH, Old.regOrT, a0]))) rfl)
theorem rmem_x (i : In) (hl : 0 ≤ i.loc ∧ i.loc < 3) (ho : -9223372036854775808 ≤ i.off ∧ i.off ≤ 9223372036854775807) : Fn Tryz.prog 128 [.int .i64 1, .agg (inQ9 i)] [] (Rt (.str (Old.memT (toO i))) []) :=
 enterM (n := 31) (by kernel_rfl) Tryz.func128 rfl rfl rfl fun G w a h0 A => N hX 10 A rfl rfl fun A => CALL1 [] (rloc_x i.loc (by have q0 := hl; have q1 := ho; have q2 := itoa_le i.off ho; have q3 := nameF_le i.ix; have q4 := locN_le i.loc.toNat; (try simp only [List.length_append, List.length_cons, List.length_nil]); omega)) A rfl rfl rfl rfl rfl rfl rfl fun A => N hX 6 A rfl (ok_d (by have q0 := hl; have q1 := ho; have q2 := itoa_le i.off ho; have q3 := nameF_le i.ix; have q4 := locN_le i.loc.toNat; (try simp only [List.length_append, List.length_cons, List.length_nil]); omega) <| okE_nil) fun A => N hX 6 A rfl rfl fun A => forkN 12 A rfl
  (fun h1 A => N hX 6 A rfl (ok_d (by have q0 := hl; have q1 := ho; have q2 := itoa_le i.off ho; have q3 := nameF_le i.ix; have q4 := locN_le i.loc.toNat; (try simp only [List.length_append, List.length_cons, List.length_nil]); omega) <| okE_nil) fun A => CALL1 [] (digits i.off (by have q0 := hl; have q1 := ho; have q2 := itoa_le i.off ho; have q3 := nameF_le i.ix; have q4 := locN_le i.loc.toNat; (try simp only [List.length_append, List.length_cons, List.length_nil]); omega) (by have q0 := hl; have q1 := ho; have q2 := itoa_le i.off ho; have q3 := nameF_le i.ix; have q4 := locN_le i.loc.toNat; (try simp only [List.length_append, List.length_cons, List.length_nil]); omega)) A rfl rfl rfl rfl rfl rfl rfl fun A => N hX 6 A rfl (ok_d (by have q0 := hl; have q1 := ho; have q2 := itoa_le i.off ho; have q3 := nameF_le i.ix; have q4 := locN_le i.loc.toNat; (try simp only [List.length_append, List.length_cons, List.length_nil]); omega) <| okE_nil) fun A => N hX 6 A rfl rfl fun A => forkD 21 A rfl
   (fun h2 A => N hX 7 A rfl (ok_d (by have q0 := hl; have q1 := ho; have q2 := itoa_le i.off ho; have q3 := nameF_le i.ix; have q4 := locN_le i.loc.toNat; (try simp only [List.length_append, List.length_cons, List.length_nil]); omega) <| okE_nil) fun A => CALL1 [] (rname_x i.ix) A rfl rfl rfl rfl rfl rfl rfl fun A => N hX 5 A rfl (ok_d (by have q0 := hl; have q1 := ho; have q2 := itoa_le i.off ho; have q3 := nameF_le i.ix; have q4 := locN_le i.loc.toNat; (try simp only [List.length_append, List.length_cons, List.length_nil]); omega) <| okE_nil) fun A => N hX 7 A rfl (ok_d (by have q0 := hl; have q1 := ho; have q2 := itoa_le i.off ho; have q3 := nameF_le i.ix; have q4 := locN_le i.loc.toNat; (try simp only [List.length_append, List.length_cons, List.length_nil]); omega) <| okE_nil) fun A => RETN hX A rfl rfl rfl h0 rfl rfl rfl rfl (by set_option simprocs true in (revert h1 h2; simp +contextual [oneS, nb, nbL, nbH, Old.memT, toO])) rfl)
   (fun h2 A => N hX 11 A rfl (ok_d (by have q0 := hl; have q1 := ho; have q2 := itoa_le i.off ho; have q3 := nameF_le i.ix; have q4 := locN_le i.loc.toNat; (try simp only [List.length_append, List.length_cons, List.length_nil]); omega) <| okE_nil) fun A => RETN hX A rfl rfl rfl h0 rfl rfl rfl rfl (by set_option simprocs true in (revert h1 h2; simp +contextual [oneS, nb, nbL, nbH, Old.memT, toO])) rfl))
  (fun h1 A => N hX 11 A rfl rfl fun A => forkD 21 A rfl
   (fun h3 A => N hX 7 A rfl (ok_d (by have q0 := hl; have q1 := ho; have q2 := itoa_le i.off ho; have q3 := nameF_le i.ix; have q4 := locN_le i.loc.toNat; (try simp only [List.length_append, List.length_cons, List.length_nil]); omega) <| okE_nil) fun A => CALL1 [] (rname_x i.ix) A rfl rfl rfl rfl rfl rfl rfl fun A => N hX 5 A rfl (ok_d (by have q0 := hl; have q1 := ho; have q2 := itoa_le i.off ho; have q3 := nameF_le i.ix; have q4 := locN_le i.loc.toNat; (try simp only [List.length_append, List.length_cons, List.length_nil]); omega) <| okE_nil) fun A => N hX 7 A rfl (ok_d (by have q0 := hl; have q1 := ho; have q2 := itoa_le i.off ho; have q3 := nameF_le i.ix; have q4 := locN_le i.loc.toNat; (try simp only [List.length_append, List.length_cons, List.length_nil]); omega) <| okE_nil) fun A => RETN hX A rfl rfl rfl h0 rfl rfl rfl rfl (by set_option simprocs true in (revert h1 h3; simp +contextual [oneS, nb, nbL, nbH, Old.memT, toO])) rfl)
   (fun h3 A => N hX 11 A rfl (ok_d (by have q0 := hl; have q1 := ho; have q2 := itoa_le i.off ho; have q3 := nameF_le i.ix; have q4 := locN_le i.loc.toNat; (try simp only [List.length_append, List.length_cons, List.length_nil]); omega) <| okE_nil) fun A => RETN hX A rfl rfl rfl h0 rfl rfl rfl rfl (by set_option simprocs true in (revert h1 h3; simp +contextual [oneS, nb, nbL, nbH, Old.memT, toO])) rfl))
theorem rbr_x (z : Bool)  : Fn Tryz.prog 88 [.int .i64 1, .bool z] [] (Rt (.str (Old.branT z)) []) :=
 enterM (n := 20) (by kernel_rfl) Tryz.func88 rfl rfl rfl fun G w a h0 A => N hX 18 A rfl rfl fun A => forkE 8 A rfl
  (fun h1 A => absurd h1 (by decide))
  (fun h1 A => N hX 10 A rfl rfl fun A => forkE 11 A rfl
   (fun h2 A => absurd h2 (by decide))
   (fun h2 A => N hX 9 A rfl rfl fun A => fork 13 A rfl
    (fun h3 A => N hX 10 A rfl (ok_d (by (try simp only [List.length_append, List.length_cons, List.length_nil]); omega) <| ok_d (by (try simp only [List.length_append, List.length_cons, List.length_nil]); omega) <| okE_nil) fun A => RETN hX A rfl rfl rfl h0 rfl rfl rfl rfl (by set_option simprocs true in (revert h1 h2 h3; simp +contextual [oneS, nb, nbL, nbH, Old.branT])) rfl)
    (fun h3 A => N hX 12 A rfl (ok_d (by (try simp only [List.length_append, List.length_cons, List.length_nil]); omega) <| ok_d (by (try simp only [List.length_append, List.length_cons, List.length_nil]); omega) <| okE_nil) fun A => RETN hX A rfl rfl rfl h0 rfl rfl rfl rfl (by set_option simprocs true in (revert h1 h2 h3; simp +contextual [oneS, nb, nbL, nbH, Old.branT])) rfl)))
theorem rtail_x (v : Int)  : Fn Tryz.prog 117 [.int .i64 1, .int .i64 v] [] (Rt (.str (Old.tlX v)) []) :=
 enterM (n := 31) (by kernel_rfl) Tryz.func117 rfl rfl rfl fun G w a h0 A => N hX 12 A rfl rfl fun A => LOOP1 (fun (k : Nat) => [(0, .int .i64 1), (1, .int .i64 v), (4, .str []), (5, .int .i64 (k : Int))]) (fun (k : Nat) => []) (fun (k : Nat) => TLI v k) (fun (k : Nat) => 4 - k) 0 TLI.i0 ((A.cut [0, 1, 4, 5] rfl).trunc 0 rfl rfl rfl (by simp only [List.length_cons, List.length_nil] at h0; omega)) fun k hI {G a w} A => N hX 7 A rfl rfl fun A => forkD 7 A rfl
   (fun h1 A => N hX 14 A rfl (ok_d (by have := hI.le; (try simp only [List.length_cons, List.length_nil]); omega) <| okE_nil) fun A => forkN 13 A rfl
    (fun h2 A => N hX 8 A rfl (ok_d (by have := hI.le; (try simp only [List.length_cons, List.length_nil]); omega) <| okE_nil) fun A => ⟨k + 1, _, (by omega), (hI.nx (by omega) (by rw [← sh_k k (by omega)]; exact h2)), ((A.cut [0, 1, 4, 5] rfl).trunc 0 rfl rfl rfl (by simp only [List.length_cons, List.length_nil] at h0; omega))⟩)
    (fun h2 A => N hX 16 A rfl rfl fun A => forkE 15 A rfl
     (fun h3 A => N hX 11 A rfl (ok_d (by have := hI.le; (try simp only [List.length_cons, List.length_nil]); omega) <| ok_d (by have := hI.le; (try simp only [List.length_cons, List.length_nil]); omega) <| okE_nil) fun A => RETN hX A rfl rfl rfl h0 rfl rfl rfl rfl (by rw [TLI.hit (k := k) (by omega) ((sh_k k (by omega)).symm.trans h2)]; have : k = 0 ∨ k = 1 ∨ k = 2 ∨ k = 3 := (by omega); rcases this with e | e | e | e <;> subst e <;> rfl) rfl)
     (fun h3 A => absurd rfl h3)))
   (fun h1 A => N hX 9 A rfl rfl fun A => RETN hX A rfl rfl rfl h0 rfl rfl rfl rfl (by rw [hI.fi h1]; rfl) rfl)
theorem rfn_x (v : Int) (hv : 0 ≤ v ∧ v < 6) : Fn Tryz.prog 86 [.int .i64 1, .int .i64 v] [] (Rt (.str (Old.fnT v)) []) :=
 enterM (n := 22) (by kernel_rfl) Tryz.func86 rfl rfl rfl fun G w a h0 A => N hX 18 A rfl rfl fun A => forkE 6 A rfl
  (fun h1 A => absurd h1 (by decide))
  (fun h1 A => N hX 7 A rfl rfl fun A => forkE 12 A rfl
   (fun h2 A => absurd h2 (by decide))
   (fun h2 A => N hX 14 A rfl (ok_d (by have q0 := hv; (try simp only [List.length_append, List.length_cons, List.length_nil]); omega) <| ok_d (by have q0 := hv; (try simp only [List.length_append, List.length_cons, List.length_nil]); omega) <| okE_nil) fun A => RETN hX A rfl rfl rfl h0 rfl rfl rfl rfl (by have : v = 0 ∨ v = 1 ∨ v = 2 ∨ v = 3 ∨ v = 4 ∨ v = 5 := (by omega); rcases this with e | e | e | e | e | e <;> subst e <;> rfl) rfl))
theorem rfen_x (i : In)  : Fn Tryz.prog 89 [.int .i64 1, .agg (inQ9 i)] [] (Rt (.str (Old.fenT (toO i))) []) :=
 enterM (n := 87) (by kernel_rfl) Tryz.func89 rfl rfl rfl fun G w a h0 A => N hX 26 A rfl rfl fun A => fork 7 A rfl
  (fun h1 A => N hX 7 A rfl rfl fun A => RETN hX A rfl rfl rfl h0 rfl rfl rfl rfl (by set_option simprocs true in (revert h1; first | (simp +contextual [oneS, nb, nbL, nbH, Old.fenT, toO]; done) | (by_cases a0 : i.op = 8 <;> by_cases a1 : i.pred = 3 <;> by_cases a2 : i.succ = 3 <;> simp +contextual [oneS, nb, nbL, nbH, Old.fenT, toO, a0, a1, a2]))) rfl)
  (fun h1 A => N hX 9 A rfl rfl fun A => forkE 15 A rfl
   (fun h2 A => N hX 7 A rfl rfl fun A => RETN hX A rfl rfl rfl h0 rfl rfl rfl rfl (by set_option simprocs true in (revert h1 h2; first | (simp +contextual [oneS, nb, nbL, nbH, Old.fenT, toO]; done) | (by_cases a0 : i.op = 8 <;> by_cases a1 : i.pred = 3 <;> by_cases a2 : i.succ = 3 <;> simp +contextual [oneS, nb, nbL, nbH, Old.fenT, toO, a0, a1, a2]))) rfl)
   (fun h2 A => N hX 8 A rfl rfl fun A => forkE 19 A rfl
    (fun h3 A => absurd h3 (by decide))
    (fun h3 A => N hX 18 A rfl rfl fun A => fork 35 A rfl
     (fun h4 A => N hX 7 A rfl rfl fun A => RETN hX A rfl rfl rfl h0 rfl rfl rfl rfl (by set_option simprocs true in (revert h1 h2 h3 h4; first | (simp +contextual [oneS, nb, nbL, nbH, Old.fenT, toO]; done) | (by_cases a0 : i.op = 8 <;> by_cases a1 : i.pred = 3 <;> by_cases a2 : i.succ = 3 <;> simp +contextual [oneS, nb, nbL, nbH, Old.fenT, toO, a0, a1, a2]))) rfl)
     (fun h4 A => N hX 18 A rfl rfl fun A => fork 48 A rfl
      (fun h5 A => N hX 7 A rfl rfl fun A => RETN hX A rfl rfl rfl h0 rfl rfl rfl rfl (by set_option simprocs true in (revert h1 h2 h3 h4 h5; first | (simp +contextual [oneS, nb, nbL, nbH, Old.fenT, toO]; done) | (by_cases a0 : i.op = 8 <;> by_cases a1 : i.pred = 3 <;> by_cases a2 : i.succ = 3 <;> simp +contextual [oneS, nb, nbL, nbH, Old.fenT, toO, a0, a1, a2]))) rfl)
      (fun h5 A => N hX 18 A rfl rfl fun A => fork 61 A rfl
       (fun h6 A => N hX 7 A rfl rfl fun A => RETN hX A rfl rfl rfl h0 rfl rfl rfl rfl (by set_option simprocs true in (revert h1 h2 h3 h4 h5 h6; first | (simp +contextual [oneS, nb, nbL, nbH, Old.fenT, toO]; done) | (by_cases a0 : i.op = 8 <;> by_cases a1 : i.pred = 3 <;> by_cases a2 : i.succ = 3 <;> simp +contextual [oneS, nb, nbL, nbH, Old.fenT, toO, a0, a1, a2]))) rfl)
       (fun h6 A => N hX 18 A rfl rfl fun A => fork 74 A rfl
        (fun h7 A => N hX 7 A rfl rfl fun A => RETN hX A rfl rfl rfl h0 rfl rfl rfl rfl (by set_option simprocs true in (revert h1 h2 h3 h4 h5 h6 h7; first | (simp +contextual [oneS, nb, nbL, nbH, Old.fenT, toO]; done) | (by_cases a0 : i.op = 8 <;> by_cases a1 : i.pred = 3 <;> by_cases a2 : i.succ = 3 <;> simp +contextual [oneS, nb, nbL, nbH, Old.fenT, toO, a0, a1, a2]))) rfl)
        (fun h7 A => N hX 10 A rfl rfl fun A => RETN hX A rfl rfl rfl h0 rfl rfl rfl rfl (by set_option simprocs true in (revert h1 h2 h3 h4 h5 h6 h7; first | (simp +contextual [oneS, nb, nbL, nbH, Old.fenT, toO]; done) | (by_cases a0 : i.op = 8 <;> by_cases a1 : i.pred = 3 <;> by_cases a2 : i.succ = 3 <;> simp +contextual [oneS, nb, nbL, nbH, Old.fenT, toO, a0, a1, a2]))) rfl)))))))
theorem rrmw_x (i : In) (ds : List UInt8) (az : List UInt8) (ts : List UInt8) (ms : List UInt8) (hd : ds.length ≤ 1000 ∧ ts.length ≤ 1000 ∧ ms.length ≤ 1000) : Fn Tryz.prog 129 [.int .i64 1, .agg (inQ9 i), .str ds, .str az, .str ts, .str ms] [] (Rt (.str (Old.rmwT (toO i) ds az ts ms)) []) :=
 enterM (n := 101) (by kernel_rfl) Tryz.func129 rfl rfl rfl fun G w a h0 A => N hX 19 A rfl rfl fun A => forkE 16 A rfl
  (fun h1 A => N hX 21 A rfl rfl fun A => fork 32 A rfl
   (fun h2 A => N hX 7 A rfl rfl fun A => RETN hX A rfl rfl rfl h0 rfl rfl rfl rfl (by set_option simprocs true in (revert h1 h2; first | (simp +contextual [oneS, nb, nbL, nbH, Old.rmwT, toO]; done) | (by_cases a0 : i.dst = i.ra <;> cases a1 : i.acq <;> cases a2 : i.rel <;> by_cases a3 : i.fn = 1 <;> simp +contextual [oneS, nb, nbL, nbH, Old.rmwT, toO, a0, a1, a2, a3]))) rfl)
   (fun h2 A => N hX 11 A rfl rfl fun A => forkE 35 A rfl
    (fun h3 A => N hX 15 A rfl (ok_d (by have q0 := hd; (try simp only [List.length_append, List.length_cons, List.length_nil]); omega) <| ok_d (by have q0 := hd; (try simp only [List.length_append, List.length_cons, List.length_nil]); omega) <| ok_d (by have q0 := hd; (try simp only [List.length_append, List.length_cons, List.length_nil]); omega) <| ok_d (by have q0 := hd; (try simp only [List.length_append, List.length_cons, List.length_nil]); omega) <| ok_d (by have q0 := hd; (try simp only [List.length_append, List.length_cons, List.length_nil]); omega) <| okE_nil) fun A => RETN hX A rfl rfl rfl h0 rfl rfl rfl rfl (by set_option simprocs true in (revert h1 h2 h3; first | (simp +contextual [oneS, nb, nbL, nbH, Old.rmwT, toO]; done) | (by_cases a0 : i.dst = i.ra <;> cases a1 : i.acq <;> cases a2 : i.rel <;> by_cases a3 : i.fn = 1 <;> simp +contextual [oneS, nb, nbL, nbH, Old.rmwT, toO, a0, a1, a2, a3]))) rfl)
    (fun h3 A => N hX 17 A rfl (ok_d (by have q0 := hd; (try simp only [List.length_append, List.length_cons, List.length_nil]); omega) <| ok_d (by have q0 := hd; (try simp only [List.length_append, List.length_cons, List.length_nil]); omega) <| ok_d (by have q0 := hd; (try simp only [List.length_append, List.length_cons, List.length_nil]); omega) <| ok_d (by have q0 := hd; (try simp only [List.length_append, List.length_cons, List.length_nil]); omega) <| ok_d (by have q0 := hd; (try simp only [List.length_append, List.length_cons, List.length_nil]); omega) <| okE_nil) fun A => RETN hX A rfl rfl rfl h0 rfl rfl rfl rfl (by set_option simprocs true in (revert h1 h2 h3; first | (simp +contextual [oneS, nb, nbL, nbH, Old.rmwT, toO]; done) | (by_cases a0 : i.dst = i.ra <;> cases a1 : i.acq <;> cases a2 : i.rel <;> by_cases a3 : i.fn = 1 <;> simp +contextual [oneS, nb, nbL, nbH, Old.rmwT, toO, a0, a1, a2, a3]))) rfl)))
  (fun h1 A => absurd rfl h1)
theorem racc_x (i : In) (ds : List UInt8) (az : List UInt8) (hl : 0 ≤ i.loc ∧ i.loc < 3) (ho : -9223372036854775808 ≤ i.off ∧ i.off ≤ 9223372036854775807) (hm : -9223372036854775808 ≤ i.imm ∧ i.imm ≤ 9223372036854775807) (hd : ds.length ≤ 1000 ∧ az.length ≤ 1000) : Fn Tryz.prog 90 [.int .i64 1, .agg (inQ9 i), .str ds, .str az] [] (Rt (.str (Old.accT (toO i) ds az)) []) :=
 enterM (n := 153) (by kernel_rfl) Tryz.func90 rfl rfl rfl fun G w a h0 A => N hX 11 A rfl rfl fun A => CALL1 [] (rtail_x i.sz) A rfl rfl rfl rfl rfl rfl rfl fun A => N hX 7 A rfl rfl fun A => CALL1 [] (rmem_x i (by have q0 := hl; have q1 := ho; have q2 := hm; have q3 := hd; have q4 := tlX_le i.sz; have q5 := memT_le i ho; have q6 := regOrT_le i.ra i.imm hm; (try simp only [List.length_append, List.length_cons, List.length_nil]); omega) (by have q0 := hl; have q1 := ho; have q2 := hm; have q3 := hd; have q4 := tlX_le i.sz; have q5 := memT_le i ho; have q6 := regOrT_le i.ra i.imm hm; (try simp only [List.length_append, List.length_cons, List.length_nil]); omega)) A rfl rfl rfl rfl rfl rfl rfl fun A => N hX 17 A rfl rfl fun A => fork 20 A rfl
  (fun h1 A => N hX 13 A rfl rfl fun A => fork 29 A rfl
   (fun h2 A => N hX 12 A rfl rfl fun A => fork 31 A rfl
    (fun h3 A => N hX 20 A rfl (ok_d (by have q0 := hl; have q1 := ho; have q2 := hm; have q3 := hd; have q4 := tlX_le i.sz; have q5 := memT_le i ho; have q6 := regOrT_le i.ra i.imm hm; (try simp only [List.length_append, List.length_cons, List.length_nil]); omega) <| ok_d (by have q0 := hl; have q1 := ho; have q2 := hm; have q3 := hd; have q4 := tlX_le i.sz; have q5 := memT_le i ho; have q6 := regOrT_le i.ra i.imm hm; (try simp only [List.length_append, List.length_cons, List.length_nil]); omega) <| ok_d (by have q0 := hl; have q1 := ho; have q2 := hm; have q3 := hd; have q4 := tlX_le i.sz; have q5 := memT_le i ho; have q6 := regOrT_le i.ra i.imm hm; (try simp only [List.length_append, List.length_cons, List.length_nil]); omega) <| ok_d (by have q0 := hl; have q1 := ho; have q2 := hm; have q3 := hd; have q4 := tlX_le i.sz; have q5 := memT_le i ho; have q6 := regOrT_le i.ra i.imm hm; (try simp only [List.length_append, List.length_cons, List.length_nil]); omega) <| ok_d (by have q0 := hl; have q1 := ho; have q2 := hm; have q3 := hd; have q4 := tlX_le i.sz; have q5 := memT_le i ho; have q6 := regOrT_le i.ra i.imm hm; (try simp only [List.length_append, List.length_cons, List.length_nil]); omega) <| okE_nil) fun A => RETN hX A rfl rfl rfl h0 rfl rfl rfl rfl (by set_option simprocs true in (revert h1 h2 h3; first | (simp +contextual [oneS, nb, nbL, nbH, Old.accT, toO]; done) | (by_cases a0 : i.op = 4 <;> by_cases a1 : i.op = 5 <;> cases a2 : i.acq <;> cases a3 : i.weak <;> cases a4 : i.rel <;> simp +contextual [oneS, nb, nbL, nbH, Old.accT, toO, a0, a1, a2, a3, a4]))) rfl)
    (fun h3 A => N hX 18 A rfl (ok_d (by have q0 := hl; have q1 := ho; have q2 := hm; have q3 := hd; have q4 := tlX_le i.sz; have q5 := memT_le i ho; have q6 := regOrT_le i.ra i.imm hm; (try simp only [List.length_append, List.length_cons, List.length_nil]); omega) <| ok_d (by have q0 := hl; have q1 := ho; have q2 := hm; have q3 := hd; have q4 := tlX_le i.sz; have q5 := memT_le i ho; have q6 := regOrT_le i.ra i.imm hm; (try simp only [List.length_append, List.length_cons, List.length_nil]); omega) <| ok_d (by have q0 := hl; have q1 := ho; have q2 := hm; have q3 := hd; have q4 := tlX_le i.sz; have q5 := memT_le i ho; have q6 := regOrT_le i.ra i.imm hm; (try simp only [List.length_append, List.length_cons, List.length_nil]); omega) <| ok_d (by have q0 := hl; have q1 := ho; have q2 := hm; have q3 := hd; have q4 := tlX_le i.sz; have q5 := memT_le i ho; have q6 := regOrT_le i.ra i.imm hm; (try simp only [List.length_append, List.length_cons, List.length_nil]); omega) <| ok_d (by have q0 := hl; have q1 := ho; have q2 := hm; have q3 := hd; have q4 := tlX_le i.sz; have q5 := memT_le i ho; have q6 := regOrT_le i.ra i.imm hm; (try simp only [List.length_append, List.length_cons, List.length_nil]); omega) <| okE_nil) fun A => RETN hX A rfl rfl rfl h0 rfl rfl rfl rfl (by set_option simprocs true in (revert h1 h2 h3; first | (simp +contextual [oneS, nb, nbL, nbH, Old.accT, toO]; done) | (by_cases a0 : i.op = 4 <;> by_cases a1 : i.op = 5 <;> cases a2 : i.acq <;> cases a3 : i.weak <;> cases a4 : i.rel <;> simp +contextual [oneS, nb, nbL, nbH, Old.accT, toO, a0, a1, a2, a3, a4]))) rfl))
   (fun h2 A => N hX 10 A rfl rfl fun A => fork 31 A rfl
    (fun h4 A => N hX 20 A rfl (ok_d (by have q0 := hl; have q1 := ho; have q2 := hm; have q3 := hd; have q4 := tlX_le i.sz; have q5 := memT_le i ho; have q6 := regOrT_le i.ra i.imm hm; (try simp only [List.length_append, List.length_cons, List.length_nil]); omega) <| ok_d (by have q0 := hl; have q1 := ho; have q2 := hm; have q3 := hd; have q4 := tlX_le i.sz; have q5 := memT_le i ho; have q6 := regOrT_le i.ra i.imm hm; (try simp only [List.length_append, List.length_cons, List.length_nil]); omega) <| ok_d (by have q0 := hl; have q1 := ho; have q2 := hm; have q3 := hd; have q4 := tlX_le i.sz; have q5 := memT_le i ho; have q6 := regOrT_le i.ra i.imm hm; (try simp only [List.length_append, List.length_cons, List.length_nil]); omega) <| ok_d (by have q0 := hl; have q1 := ho; have q2 := hm; have q3 := hd; have q4 := tlX_le i.sz; have q5 := memT_le i ho; have q6 := regOrT_le i.ra i.imm hm; (try simp only [List.length_append, List.length_cons, List.length_nil]); omega) <| ok_d (by have q0 := hl; have q1 := ho; have q2 := hm; have q3 := hd; have q4 := tlX_le i.sz; have q5 := memT_le i ho; have q6 := regOrT_le i.ra i.imm hm; (try simp only [List.length_append, List.length_cons, List.length_nil]); omega) <| okE_nil) fun A => RETN hX A rfl rfl rfl h0 rfl rfl rfl rfl (by set_option simprocs true in (revert h1 h2 h4; first | (simp +contextual [oneS, nb, nbL, nbH, Old.accT, toO]; done) | (by_cases a0 : i.op = 4 <;> by_cases a1 : i.op = 5 <;> cases a2 : i.acq <;> cases a3 : i.weak <;> cases a4 : i.rel <;> simp +contextual [oneS, nb, nbL, nbH, Old.accT, toO, a0, a1, a2, a3, a4]))) rfl)
    (fun h4 A => N hX 18 A rfl (ok_d (by have q0 := hl; have q1 := ho; have q2 := hm; have q3 := hd; have q4 := tlX_le i.sz; have q5 := memT_le i ho; have q6 := regOrT_le i.ra i.imm hm; (try simp only [List.length_append, List.length_cons, List.length_nil]); omega) <| ok_d (by have q0 := hl; have q1 := ho; have q2 := hm; have q3 := hd; have q4 := tlX_le i.sz; have q5 := memT_le i ho; have q6 := regOrT_le i.ra i.imm hm; (try simp only [List.length_append, List.length_cons, List.length_nil]); omega) <| ok_d (by have q0 := hl; have q1 := ho; have q2 := hm; have q3 := hd; have q4 := tlX_le i.sz; have q5 := memT_le i ho; have q6 := regOrT_le i.ra i.imm hm; (try simp only [List.length_append, List.length_cons, List.length_nil]); omega) <| ok_d (by have q0 := hl; have q1 := ho; have q2 := hm; have q3 := hd; have q4 := tlX_le i.sz; have q5 := memT_le i ho; have q6 := regOrT_le i.ra i.imm hm; (try simp only [List.length_append, List.length_cons, List.length_nil]); omega) <| ok_d (by have q0 := hl; have q1 := ho; have q2 := hm; have q3 := hd; have q4 := tlX_le i.sz; have q5 := memT_le i ho; have q6 := regOrT_le i.ra i.imm hm; (try simp only [List.length_append, List.length_cons, List.length_nil]); omega) <| okE_nil) fun A => RETN hX A rfl rfl rfl h0 rfl rfl rfl rfl (by set_option simprocs true in (revert h1 h2 h4; first | (simp +contextual [oneS, nb, nbL, nbH, Old.accT, toO]; done) | (by_cases a0 : i.op = 4 <;> by_cases a1 : i.op = 5 <;> cases a2 : i.acq <;> cases a3 : i.weak <;> cases a4 : i.rel <;> simp +contextual [oneS, nb, nbL, nbH, Old.accT, toO, a0, a1, a2, a3, a4]))) rfl)))
  (fun h1 A => N hX 17 A rfl rfl fun A => fork 41 A rfl
   (fun h5 A => N hX 7 A rfl rfl fun A => RETN hX A rfl rfl rfl h0 rfl rfl rfl rfl (by set_option simprocs true in (revert h1 h5; first | (simp +contextual [oneS, nb, nbL, nbH, Old.accT, toO]; done) | (by_cases a0 : i.op = 4 <;> by_cases a1 : i.op = 5 <;> cases a2 : i.acq <;> cases a3 : i.weak <;> cases a4 : i.rel <;> simp +contextual [oneS, nb, nbL, nbH, Old.accT, toO, a0, a1, a2, a3, a4]))) rfl)
   (fun h5 A => N hX 13 A rfl rfl fun A => fork 53 A rfl
    (fun h6 A => N hX 15 A rfl (ok_d (by have q0 := hl; have q1 := ho; have q2 := hm; have q3 := hd; have q4 := tlX_le i.sz; have q5 := memT_le i ho; have q6 := regOrT_le i.ra i.imm hm; (try simp only [List.length_append, List.length_cons, List.length_nil]); omega) <| ok_d (by have q0 := hl; have q1 := ho; have q2 := hm; have q3 := hd; have q4 := tlX_le i.sz; have q5 := memT_le i ho; have q6 := regOrT_le i.ra i.imm hm; (try simp only [List.length_append, List.length_cons, List.length_nil]); omega) <| ok_d (by have q0 := hl; have q1 := ho; have q2 := hm; have q3 := hd; have q4 := tlX_le i.sz; have q5 := memT_le i ho; have q6 := regOrT_le i.ra i.imm hm; (try simp only [List.length_append, List.length_cons, List.length_nil]); omega) <| ok_d (by have q0 := hl; have q1 := ho; have q2 := hm; have q3 := hd; have q4 := tlX_le i.sz; have q5 := memT_le i ho; have q6 := regOrT_le i.ra i.imm hm; (try simp only [List.length_append, List.length_cons, List.length_nil]); omega) <| ok_d (by have q0 := hl; have q1 := ho; have q2 := hm; have q3 := hd; have q4 := tlX_le i.sz; have q5 := memT_le i ho; have q6 := regOrT_le i.ra i.imm hm; (try simp only [List.length_append, List.length_cons, List.length_nil]); omega) <| okE_nil) fun A => RETN hX A rfl rfl rfl h0 rfl rfl rfl rfl (by set_option simprocs true in (revert h1 h5 h6; first | (simp +contextual [oneS, nb, nbL, nbH, Old.accT, toO]; done) | (by_cases a0 : i.op = 4 <;> by_cases a1 : i.op = 5 <;> cases a2 : i.acq <;> cases a3 : i.weak <;> cases a4 : i.rel <;> simp +contextual [oneS, nb, nbL, nbH, Old.accT, toO, a0, a1, a2, a3, a4]))) rfl)
    (fun h6 A => N hX 9 A rfl rfl fun A => forkE 69 A rfl
     (fun h7 A => N hX 15 A rfl (ok_d (by have q0 := hl; have q1 := ho; have q2 := hm; have q3 := hd; have q4 := tlX_le i.sz; have q5 := memT_le i ho; have q6 := regOrT_le i.ra i.imm hm; (try simp only [List.length_append, List.length_cons, List.length_nil]); omega) <| ok_d (by have q0 := hl; have q1 := ho; have q2 := hm; have q3 := hd; have q4 := tlX_le i.sz; have q5 := memT_le i ho; have q6 := regOrT_le i.ra i.imm hm; (try simp only [List.length_append, List.length_cons, List.length_nil]); omega) <| ok_d (by have q0 := hl; have q1 := ho; have q2 := hm; have q3 := hd; have q4 := tlX_le i.sz; have q5 := memT_le i ho; have q6 := regOrT_le i.ra i.imm hm; (try simp only [List.length_append, List.length_cons, List.length_nil]); omega) <| ok_d (by have q0 := hl; have q1 := ho; have q2 := hm; have q3 := hd; have q4 := tlX_le i.sz; have q5 := memT_le i ho; have q6 := regOrT_le i.ra i.imm hm; (try simp only [List.length_append, List.length_cons, List.length_nil]); omega) <| ok_d (by have q0 := hl; have q1 := ho; have q2 := hm; have q3 := hd; have q4 := tlX_le i.sz; have q5 := memT_le i ho; have q6 := regOrT_le i.ra i.imm hm; (try simp only [List.length_append, List.length_cons, List.length_nil]); omega) <| okE_nil) fun A => RETN hX A rfl rfl rfl h0 rfl rfl rfl rfl (by set_option simprocs true in (revert h1 h5 h6 h7; first | (simp +contextual [oneS, nb, nbL, nbH, Old.accT, toO]; done) | (by_cases a0 : i.op = 4 <;> by_cases a1 : i.op = 5 <;> cases a2 : i.acq <;> cases a3 : i.weak <;> cases a4 : i.rel <;> simp +contextual [oneS, nb, nbL, nbH, Old.accT, toO, a0, a1, a2, a3, a4]))) rfl)
     (fun h7 A => N hX 13 A rfl rfl fun A => fork 81 A rfl
      (fun h8 A => N hX 8 A rfl rfl fun A => fork 90 A rfl
       (fun h9 A => N hX 7 A rfl rfl fun A => RETN hX A rfl rfl rfl h0 rfl rfl rfl rfl (by set_option simprocs true in (revert h1 h5 h6 h7 h8 h9; first | (simp +contextual [oneS, nb, nbL, nbH, Old.accT, toO]; done) | (by_cases a0 : i.op = 4 <;> by_cases a1 : i.op = 5 <;> cases a2 : i.acq <;> cases a3 : i.weak <;> cases a4 : i.rel <;> simp +contextual [oneS, nb, nbL, nbH, Old.accT, toO, a0, a1, a2, a3, a4]))) rfl)
       (fun h9 A => N hX 16 A rfl (ok_d (by have q0 := hl; have q1 := ho; have q2 := hm; have q3 := hd; have q4 := tlX_le i.sz; have q5 := memT_le i ho; have q6 := regOrT_le i.ra i.imm hm; (try simp only [List.length_append, List.length_cons, List.length_nil]); omega) <| ok_d (by have q0 := hl; have q1 := ho; have q2 := hm; have q3 := hd; have q4 := tlX_le i.sz; have q5 := memT_le i ho; have q6 := regOrT_le i.ra i.imm hm; (try simp only [List.length_append, List.length_cons, List.length_nil]); omega) <| ok_d (by have q0 := hl; have q1 := ho; have q2 := hm; have q3 := hd; have q4 := tlX_le i.sz; have q5 := memT_le i ho; have q6 := regOrT_le i.ra i.imm hm; (try simp only [List.length_append, List.length_cons, List.length_nil]); omega) <| ok_d (by have q0 := hl; have q1 := ho; have q2 := hm; have q3 := hd; have q4 := tlX_le i.sz; have q5 := memT_le i ho; have q6 := regOrT_le i.ra i.imm hm; (try simp only [List.length_append, List.length_cons, List.length_nil]); omega) <| okE_nil) fun A => CALL1 [] (ror_x i.ra i.imm (by have q0 := hl; have q1 := ho; have q2 := hm; have q3 := hd; have q4 := tlX_le i.sz; have q5 := memT_le i ho; have q6 := regOrT_le i.ra i.imm hm; (try simp only [List.length_append, List.length_cons, List.length_nil]); omega)) A rfl rfl rfl rfl rfl rfl rfl fun A => N hX 5 A rfl (ok_d (by have q0 := hl; have q1 := ho; have q2 := hm; have q3 := hd; have q4 := tlX_le i.sz; have q5 := memT_le i ho; have q6 := regOrT_le i.ra i.imm hm; (try simp only [List.length_append, List.length_cons, List.length_nil]); omega) <| okE_nil) fun A => RETN hX A rfl rfl rfl h0 rfl rfl rfl rfl (by set_option simprocs true in (revert h1 h5 h6 h7 h8 h9; first | (simp +contextual [oneS, nb, nbL, nbH, Old.accT, toO]; done) | (by_cases a0 : i.op = 4 <;> by_cases a1 : i.op = 5 <;> cases a2 : i.acq <;> cases a3 : i.weak <;> cases a4 : i.rel <;> simp +contextual [oneS, nb, nbL, nbH, Old.accT, toO, a0, a1, a2, a3, a4]))) rfl))
      (fun h8 A => N hX 14 A rfl rfl fun A => fork 104 A rfl
       (fun h10 A => N hX 7 A rfl rfl fun A => RETN hX A rfl rfl rfl h0 rfl rfl rfl rfl (by set_option simprocs true in (revert h1 h5 h6 h7 h8 h10; first | (simp +contextual [oneS, nb, nbL, nbH, Old.accT, toO]; done) | (by_cases a0 : i.op = 4 <;> by_cases a1 : i.op = 5 <;> cases a2 : i.acq <;> cases a3 : i.weak <;> cases a4 : i.rel <;> simp +contextual [oneS, nb, nbL, nbH, Old.accT, toO, a0, a1, a2, a3, a4]))) rfl)
       (fun h10 A => N hX 13 A rfl rfl fun A => fork 113 A rfl
        (fun h11 A => N hX 8 A rfl rfl fun A => fork 122 A rfl
         (fun h12 A => N hX 7 A rfl rfl fun A => RETN hX A rfl rfl rfl h0 rfl rfl rfl rfl (by set_option simprocs true in (revert h1 h5 h6 h7 h8 h10 h11 h12; first | (simp +contextual [oneS, nb, nbL, nbH, Old.accT, toO]; done) | (by_cases a0 : i.op = 4 <;> by_cases a1 : i.op = 5 <;> cases a2 : i.acq <;> cases a3 : i.weak <;> cases a4 : i.rel <;> simp +contextual [oneS, nb, nbL, nbH, Old.accT, toO, a0, a1, a2, a3, a4]))) rfl)
         (fun h12 A => N hX 17 A rfl (ok_d (by have q0 := hl; have q1 := ho; have q2 := hm; have q3 := hd; have q4 := tlX_le i.sz; have q5 := memT_le i ho; have q6 := regOrT_le i.ra i.imm hm; (try simp only [List.length_append, List.length_cons, List.length_nil]); omega) <| ok_d (by have q0 := hl; have q1 := ho; have q2 := hm; have q3 := hd; have q4 := tlX_le i.sz; have q5 := memT_le i ho; have q6 := regOrT_le i.ra i.imm hm; (try simp only [List.length_append, List.length_cons, List.length_nil]); omega) <| ok_d (by have q0 := hl; have q1 := ho; have q2 := hm; have q3 := hd; have q4 := tlX_le i.sz; have q5 := memT_le i ho; have q6 := regOrT_le i.ra i.imm hm; (try simp only [List.length_append, List.length_cons, List.length_nil]); omega) <| ok_d (by have q0 := hl; have q1 := ho; have q2 := hm; have q3 := hd; have q4 := tlX_le i.sz; have q5 := memT_le i ho; have q6 := regOrT_le i.ra i.imm hm; (try simp only [List.length_append, List.length_cons, List.length_nil]); omega) <| ok_d (by have q0 := hl; have q1 := ho; have q2 := hm; have q3 := hd; have q4 := tlX_le i.sz; have q5 := memT_le i ho; have q6 := regOrT_le i.ra i.imm hm; (try simp only [List.length_append, List.length_cons, List.length_nil]); omega) <| okE_nil) fun A => RETN hX A rfl rfl rfl h0 rfl rfl rfl rfl (by set_option simprocs true in (revert h1 h5 h6 h7 h8 h10 h11 h12; first | (simp +contextual [oneS, nb, nbL, nbH, Old.accT, toO]; done) | (by_cases a0 : i.op = 4 <;> by_cases a1 : i.op = 5 <;> cases a2 : i.acq <;> cases a3 : i.weak <;> cases a4 : i.rel <;> simp +contextual [oneS, nb, nbL, nbH, Old.accT, toO, a0, a1, a2, a3, a4]))) rfl))
        (fun h11 A => N hX 9 A rfl rfl fun A => forkE 131 A rfl
         (fun h13 A => N hX 13 A rfl rfl fun A => fork 136 A rfl
          (fun h14 A => N hX 20 A rfl (ok_d (by have q0 := hl; have q1 := ho; have q2 := hm; have q3 := hd; have q4 := tlX_le i.sz; have q5 := memT_le i ho; have q6 := regOrT_le i.ra i.imm hm; (try simp only [List.length_append, List.length_cons, List.length_nil]); omega) <| ok_d (by have q0 := hl; have q1 := ho; have q2 := hm; have q3 := hd; have q4 := tlX_le i.sz; have q5 := memT_le i ho; have q6 := regOrT_le i.ra i.imm hm; (try simp only [List.length_append, List.length_cons, List.length_nil]); omega) <| ok_d (by have q0 := hl; have q1 := ho; have q2 := hm; have q3 := hd; have q4 := tlX_le i.sz; have q5 := memT_le i ho; have q6 := regOrT_le i.ra i.imm hm; (try simp only [List.length_append, List.length_cons, List.length_nil]); omega) <| ok_d (by have q0 := hl; have q1 := ho; have q2 := hm; have q3 := hd; have q4 := tlX_le i.sz; have q5 := memT_le i ho; have q6 := regOrT_le i.ra i.imm hm; (try simp only [List.length_append, List.length_cons, List.length_nil]); omega) <| ok_d (by have q0 := hl; have q1 := ho; have q2 := hm; have q3 := hd; have q4 := tlX_le i.sz; have q5 := memT_le i ho; have q6 := regOrT_le i.ra i.imm hm; (try simp only [List.length_append, List.length_cons, List.length_nil]); omega) <| okE_nil) fun A => RETN hX A rfl rfl rfl h0 rfl rfl rfl rfl (by set_option simprocs true in (revert h1 h5 h6 h7 h8 h10 h11 h13 h14; first | (simp +contextual [oneS, nb, nbL, nbH, Old.accT, toO]; done) | (by_cases a0 : i.op = 4 <;> by_cases a1 : i.op = 5 <;> cases a2 : i.acq <;> cases a3 : i.weak <;> cases a4 : i.rel <;> simp +contextual [oneS, nb, nbL, nbH, Old.accT, toO, a0, a1, a2, a3, a4]))) rfl)
          (fun h14 A => N hX 18 A rfl (ok_d (by have q0 := hl; have q1 := ho; have q2 := hm; have q3 := hd; have q4 := tlX_le i.sz; have q5 := memT_le i ho; have q6 := regOrT_le i.ra i.imm hm; (try simp only [List.length_append, List.length_cons, List.length_nil]); omega) <| ok_d (by have q0 := hl; have q1 := ho; have q2 := hm; have q3 := hd; have q4 := tlX_le i.sz; have q5 := memT_le i ho; have q6 := regOrT_le i.ra i.imm hm; (try simp only [List.length_append, List.length_cons, List.length_nil]); omega) <| ok_d (by have q0 := hl; have q1 := ho; have q2 := hm; have q3 := hd; have q4 := tlX_le i.sz; have q5 := memT_le i ho; have q6 := regOrT_le i.ra i.imm hm; (try simp only [List.length_append, List.length_cons, List.length_nil]); omega) <| ok_d (by have q0 := hl; have q1 := ho; have q2 := hm; have q3 := hd; have q4 := tlX_le i.sz; have q5 := memT_le i ho; have q6 := regOrT_le i.ra i.imm hm; (try simp only [List.length_append, List.length_cons, List.length_nil]); omega) <| ok_d (by have q0 := hl; have q1 := ho; have q2 := hm; have q3 := hd; have q4 := tlX_le i.sz; have q5 := memT_le i ho; have q6 := regOrT_le i.ra i.imm hm; (try simp only [List.length_append, List.length_cons, List.length_nil]); omega) <| okE_nil) fun A => RETN hX A rfl rfl rfl h0 rfl rfl rfl rfl (by set_option simprocs true in (revert h1 h5 h6 h7 h8 h10 h11 h13 h14; first | (simp +contextual [oneS, nb, nbL, nbH, Old.accT, toO]; done) | (by_cases a0 : i.op = 4 <;> by_cases a1 : i.op = 5 <;> cases a2 : i.acq <;> cases a3 : i.weak <;> cases a4 : i.rel <;> simp +contextual [oneS, nb, nbL, nbH, Old.accT, toO, a0, a1, a2, a3, a4]))) rfl))
         (fun h13 A => N hX 12 A rfl rfl fun A => CALL1 [] (rrmw_x i ds az (Old.tlX i.sz) (Old.memT (toO i)) (by have q0 := hl; have q1 := ho; have q2 := hm; have q3 := hd; have q4 := tlX_le i.sz; have q5 := memT_le i ho; have q6 := regOrT_le i.ra i.imm hm; (try simp only [List.length_append, List.length_cons, List.length_nil]); omega)) A rfl rfl rfl rfl rfl rfl rfl fun A => N hX 4 A rfl rfl fun A => RETN hX A rfl rfl rfl h0 rfl rfl rfl rfl (by set_option simprocs true in (revert h1 h5 h6 h7 h8 h10 h11 h13; first | (simp +contextual [oneS, nb, nbL, nbH, Old.accT, toO]; done) | (by_cases a0 : i.op = 4 <;> by_cases a1 : i.op = 5 <;> cases a2 : i.acq <;> cases a3 : i.weak <;> cases a4 : i.rel <;> simp +contextual [oneS, nb, nbL, nbH, Old.accT, toO, a0, a1, a2, a3, a4]))) rfl))))))))
theorem rtxt_x (i : In) (lb : List UInt8) (hf : i.op = 3 → 0 ≤ i.fn ∧ i.fn < 6) (hl : i.op ≠ 1 → i.op ≠ 2 → i.op ≠ 3 → i.op ≠ 9 → i.op ≠ 7 → i.op ≠ 8 → 0 ≤ i.loc ∧ i.loc < 3) (ho : -9223372036854775808 ≤ i.off ∧ i.off ≤ 9223372036854775807) (hm : -9223372036854775808 ≤ i.imm ∧ i.imm ≤ 9223372036854775807) (hb : lb.length ≤ 100000) : Fn Tryz.prog 39 [.int .i64 1, .agg (inQ9 i), .str lb] [] (Rt (.str (Old.txtT (toO i) lb)) []) :=
 enterM (n := 125) (by kernel_rfl) Tryz.func39 rfl rfl rfl fun G w a h0 A => N hX 11 A rfl rfl fun A => CALL1 [] (rname_x i.dst) A rfl rfl rfl rfl rfl rfl rfl fun A => N hX 8 A rfl rfl fun A => CALL1 [] (rname_x i.ra) A rfl rfl rfl rfl rfl rfl rfl fun A => N hX 17 A rfl rfl fun A => forkE 20 A rfl
  (fun h1 A => N hX 8 A rfl rfl fun A => forkE 23 A rfl
   (fun h2 A => absurd h2 (by decide))
   (fun h2 A => N hX 11 A rfl (ok_d (by have q0 := ho; have q1 := hm; have q2 := hb; have q3 := nameF_le i.dst; have q4 := nameF_le i.ra; have q5 := numT_le i.imm hm; have q6 := fnT_le i.fn; have q7 := regOrT_le i.rb i.imm hm; have q8 := branT_le i.zero; (try simp only [List.length_append, List.length_cons, List.length_nil]); omega) <| ok_d (by have q0 := ho; have q1 := hm; have q2 := hb; have q3 := nameF_le i.dst; have q4 := nameF_le i.ra; have q5 := numT_le i.imm hm; have q6 := fnT_le i.fn; have q7 := regOrT_le i.rb i.imm hm; have q8 := branT_le i.zero; (try simp only [List.length_append, List.length_cons, List.length_nil]); omega) <| okE_nil) fun A => CALL1 [] (rnum_x i.imm (by have q0 := ho; have q1 := hm; have q2 := hb; have q3 := nameF_le i.dst; have q4 := nameF_le i.ra; have q5 := numT_le i.imm hm; have q6 := fnT_le i.fn; have q7 := regOrT_le i.rb i.imm hm; have q8 := branT_le i.zero; (try simp only [List.length_append, List.length_cons, List.length_nil]); omega)) A rfl rfl rfl rfl rfl rfl rfl fun A => N hX 5 A rfl (ok_d (by have q0 := ho; have q1 := hm; have q2 := hb; have q3 := nameF_le i.dst; have q4 := nameF_le i.ra; have q5 := numT_le i.imm hm; have q6 := fnT_le i.fn; have q7 := regOrT_le i.rb i.imm hm; have q8 := branT_le i.zero; (try simp only [List.length_append, List.length_cons, List.length_nil]); omega) <| okE_nil) fun A => RETN hX A rfl rfl rfl h0 rfl rfl rfl rfl (by set_option simprocs true in (revert h1 h2; simp +contextual [oneS, nb, nbL, nbH, Old.txtT, toO])) rfl))
  (fun h1 A => N hX 7 A rfl rfl fun A => forkE 39 A rfl
   (fun h3 A => N hX 8 A rfl rfl fun A => forkE 42 A rfl
    (fun h4 A => absurd h4 (by decide))
    (fun h4 A => N hX 14 A rfl (ok_d (by have q0 := ho; have q1 := hm; have q2 := hb; have q3 := nameF_le i.dst; have q4 := nameF_le i.ra; have q5 := numT_le i.imm hm; have q6 := fnT_le i.fn; have q7 := regOrT_le i.rb i.imm hm; have q8 := branT_le i.zero; (try simp only [List.length_append, List.length_cons, List.length_nil]); omega) <| ok_d (by have q0 := ho; have q1 := hm; have q2 := hb; have q3 := nameF_le i.dst; have q4 := nameF_le i.ra; have q5 := numT_le i.imm hm; have q6 := fnT_le i.fn; have q7 := regOrT_le i.rb i.imm hm; have q8 := branT_le i.zero; (try simp only [List.length_append, List.length_cons, List.length_nil]); omega) <| ok_d (by have q0 := ho; have q1 := hm; have q2 := hb; have q3 := nameF_le i.dst; have q4 := nameF_le i.ra; have q5 := numT_le i.imm hm; have q6 := fnT_le i.fn; have q7 := regOrT_le i.rb i.imm hm; have q8 := branT_le i.zero; (try simp only [List.length_append, List.length_cons, List.length_nil]); omega) <| okE_nil) fun A => RETN hX A rfl rfl rfl h0 rfl rfl rfl rfl (by set_option simprocs true in (revert h1 h3 h4; simp +contextual [oneS, nb, nbL, nbH, Old.txtT, toO])) rfl))
   (fun h3 A => N hX 7 A rfl rfl fun A => forkE 53 A rfl
    (fun h5 A => N hX 6 A rfl rfl fun A => CALL1 [] (rfn_x i.fn (hf h5)) A rfl rfl rfl rfl rfl rfl rfl fun A => N hX 10 A rfl rfl fun A => forkE 60 A rfl
     (fun h6 A => N hX 11 A rfl rfl fun A => forkN 65 A rfl
      (fun h7 A => N hX 7 A rfl rfl fun A => RETN hX A rfl rfl rfl h0 rfl rfl rfl rfl (by set_option simprocs true in (revert h1 h3 h5 h6 h7; simp +contextual [oneS, nb, nbL, nbH, Old.txtT, toO])) rfl)
      (fun h7 A => N hX 15 A rfl (ok_d (by have q0 := ho; have q1 := hm; have q2 := hb; have q3 := nameF_le i.dst; have q4 := nameF_le i.ra; have q5 := numT_le i.imm hm; have q6 := fnT_le i.fn; have q7 := regOrT_le i.rb i.imm hm; have q8 := branT_le i.zero; (try simp only [List.length_append, List.length_cons, List.length_nil]); omega) <| ok_d (by have q0 := ho; have q1 := hm; have q2 := hb; have q3 := nameF_le i.dst; have q4 := nameF_le i.ra; have q5 := numT_le i.imm hm; have q6 := fnT_le i.fn; have q7 := regOrT_le i.rb i.imm hm; have q8 := branT_le i.zero; (try simp only [List.length_append, List.length_cons, List.length_nil]); omega) <| ok_d (by have q0 := ho; have q1 := hm; have q2 := hb; have q3 := nameF_le i.dst; have q4 := nameF_le i.ra; have q5 := numT_le i.imm hm; have q6 := fnT_le i.fn; have q7 := regOrT_le i.rb i.imm hm; have q8 := branT_le i.zero; (try simp only [List.length_append, List.length_cons, List.length_nil]); omega) <| okE_nil) fun A => CALL1 [] (ror_x i.rb i.imm (by have q0 := ho; have q1 := hm; have q2 := hb; have q3 := nameF_le i.dst; have q4 := nameF_le i.ra; have q5 := numT_le i.imm hm; have q6 := fnT_le i.fn; have q7 := regOrT_le i.rb i.imm hm; have q8 := branT_le i.zero; (try simp only [List.length_append, List.length_cons, List.length_nil]); omega)) A rfl rfl rfl rfl rfl rfl rfl fun A => N hX 5 A rfl (ok_d (by have q0 := ho; have q1 := hm; have q2 := hb; have q3 := nameF_le i.dst; have q4 := nameF_le i.ra; have q5 := numT_le i.imm hm; have q6 := fnT_le i.fn; have q7 := regOrT_le i.rb i.imm hm; have q8 := branT_le i.zero; (try simp only [List.length_append, List.length_cons, List.length_nil]); omega) <| okE_nil) fun A => RETN hX A rfl rfl rfl h0 rfl rfl rfl rfl (by set_option simprocs true in (revert h1 h3 h5 h6 h7; simp +contextual [oneS, nb, nbL, nbH, Old.txtT, toO])) rfl))
     (fun h6 A => absurd rfl h6))
    (fun h5 A => N hX 7 A rfl rfl fun A => forkE 102 A rfl
     (fun h8 A => N hX 6 A rfl rfl fun A => CALL1 [] (rbr_x i.zero) A rfl rfl rfl rfl rfl rfl rfl fun A => N hX 10 A rfl (ok_d (by have q0 := ho; have q1 := hm; have q2 := hb; have q3 := nameF_le i.dst; have q4 := nameF_le i.ra; have q5 := numT_le i.imm hm; have q6 := fnT_le i.fn; have q7 := regOrT_le i.rb i.imm hm; have q8 := branT_le i.zero; (try simp only [List.length_append, List.length_cons, List.length_nil]); omega) <| ok_d (by have q0 := ho; have q1 := hm; have q2 := hb; have q3 := nameF_le i.dst; have q4 := nameF_le i.ra; have q5 := numT_le i.imm hm; have q6 := fnT_le i.fn; have q7 := regOrT_le i.rb i.imm hm; have q8 := branT_le i.zero; (try simp only [List.length_append, List.length_cons, List.length_nil]); omega) <| ok_d (by have q0 := ho; have q1 := hm; have q2 := hb; have q3 := nameF_le i.dst; have q4 := nameF_le i.ra; have q5 := numT_le i.imm hm; have q6 := fnT_le i.fn; have q7 := regOrT_le i.rb i.imm hm; have q8 := branT_le i.zero; (try simp only [List.length_append, List.length_cons, List.length_nil]); omega) <| ok_d (by have q0 := ho; have q1 := hm; have q2 := hb; have q3 := nameF_le i.dst; have q4 := nameF_le i.ra; have q5 := numT_le i.imm hm; have q6 := fnT_le i.fn; have q7 := regOrT_le i.rb i.imm hm; have q8 := branT_le i.zero; (try simp only [List.length_append, List.length_cons, List.length_nil]); omega) <| okE_nil) fun A => RETN hX A rfl rfl rfl h0 rfl rfl rfl rfl (by set_option simprocs true in (revert h1 h3 h5 h8; simp +contextual [oneS, nb, nbL, nbH, Old.txtT, toO])) rfl)
     (fun h8 A => N hX 8 A rfl rfl fun A => forkE 114 A rfl
      (fun h9 A => N hX 8 A rfl rfl fun A => CALL1 [] (rfen_x i) A rfl rfl rfl rfl rfl rfl rfl fun A => N hX 4 A rfl rfl fun A => RETN hX A rfl rfl rfl h0 rfl rfl rfl rfl (by set_option simprocs true in (revert h1 h3 h5 h8 h9; simp +contextual [oneS, nb, nbL, nbH, Old.txtT, toO])) rfl)
      (fun h9 A => N hX 6 A rfl rfl fun A => forkE 114 A rfl
       (fun h10 A => N hX 5 A rfl rfl fun A => CALL1 [] (rfen_x i) A rfl rfl rfl rfl rfl rfl rfl fun A => N hX 4 A rfl rfl fun A => RETN hX A rfl rfl rfl h0 rfl rfl rfl rfl (by set_option simprocs true in (revert h1 h3 h5 h8 h9 h10; simp +contextual [oneS, nb, nbL, nbH, Old.txtT, toO])) rfl)
       (fun h10 A => N hX 10 A rfl rfl fun A => CALL1 [] (racc_x i (Old.nameF i.dst) (Old.nameF i.ra) (hl h1 h3 h5 h8 h9 h10) (by have q0 := ho; have q1 := hm; have q2 := hb; have q3 := nameF_le i.dst; have q4 := nameF_le i.ra; have q5 := numT_le i.imm hm; have q6 := fnT_le i.fn; have q7 := regOrT_le i.rb i.imm hm; have q8 := branT_le i.zero; (try simp only [List.length_append, List.length_cons, List.length_nil]); omega) (by have q0 := ho; have q1 := hm; have q2 := hb; have q3 := nameF_le i.dst; have q4 := nameF_le i.ra; have q5 := numT_le i.imm hm; have q6 := fnT_le i.fn; have q7 := regOrT_le i.rb i.imm hm; have q8 := branT_le i.zero; (try simp only [List.length_append, List.length_cons, List.length_nil]); omega) (by have q0 := ho; have q1 := hm; have q2 := hb; have q3 := nameF_le i.dst; have q4 := nameF_le i.ra; have q5 := numT_le i.imm hm; have q6 := fnT_le i.fn; have q7 := regOrT_le i.rb i.imm hm; have q8 := branT_le i.zero; (try simp only [List.length_append, List.length_cons, List.length_nil]); omega)) A rfl rfl rfl rfl rfl rfl rfl fun A => N hX 4 A rfl rfl fun A => RETN hX A rfl rfl rfl h0 rfl rfl rfl rfl (by set_option simprocs true in (revert h1 h3 h5 h8 h9 h10; simp +contextual [oneS, nb, nbL, nbH, Old.txtT, toO])) rfl))))))
end Go.Proofs.YtedlaclfhgneeaaGreatDoor
/- The reference's masks, right instructions. -/
namespace Go.Proofs.YtedlaclfhgneeaaGreatDoor
open Go.RowKit
set_option linter.unusedVariables false
set_option linter.unusedSimpArgs false
set_option maxRecDepth 100000
set_option maxHeartbeats 2000000
set_option simprocs false
def orK (m k : Int) : Int := IntKind.wrap .i64 ((((BitVec.ofInt (IntKind.bits .i64) m) ||| (BitVec.ofInt (IntKind.bits .i64) (IntKind.wrap .i64 (1 * 2 ^ min (k).toNat (IntKind.bits .i64))))).toNat : Nat) : Int)
def mkB (o : Int) : Nat → Int
  | 0 => 0
  | j + 1 => orK (mkB o j) (o + j)
def mkF (o n : Int) : Int := if Old.fitsB o n = true then mkB o n.toNat else 0
theorem mkF_o (a s : Int) : (mkF a s == 0) = (Old.maskR a s == 0) := by
  unfold mkF Old.maskR
  cases h : Old.fitsB a s
  · simp
  · have hf := h
    unfold Old.fitsB at hf
    have hf := of_decide_eq_true hf
    obtain ⟨hs, h0, h1, h2⟩ := hf
    simp only [if_true]
    rcases hs with e | e | e | e <;> subst e
    · have : a = 0 ∨ a = 1 ∨ a = 2 ∨ a = 3 ∨ a = 4 ∨ a = 5 ∨ a = 6 ∨ a = 7 := by omega
      rcases this with e | e | e | e | e | e | e | e <;> subst e <;> decide +kernel
    · have : a = 0 ∨ a = 2 ∨ a = 4 ∨ a = 6 := by omega
      rcases this with e | e | e | e <;> subst e <;> decide +kernel
    · have : a = 0 ∨ a = 4 := by omega
      rcases this with e | e <;> subst e <;> decide +kernel
    · have : a = 0 := by omega
      subst this; decide +kernel
structure MKI (o n k m : Int) : Prop where
  lo : o ≤ k
  hi : k ≤ o + n
  eq : m = mkB o (k - o).toNat
theorem MKI.i0 {o n : Int} (h : 0 ≤ n) : MKI o n o 0 := ⟨by omega, by omega, by rw [show (o - o).toNat = 0 by omega]; rfl⟩
theorem MKI.nx {o n k m : Int} (hI : MKI o n k m) (h : k < o + n) : MKI o n (k + 1) (orK m k) := by
  refine ⟨by have := hI.lo; omega, by omega, ?_⟩
  have hl := hI.lo
  rw [show (k + 1 - o).toNat = (k - o).toNat + 1 by omega]
  unfold mkB
  rw [← hI.eq, show o + ((k - o).toNat : Int) = k by omega]
theorem MKI.fi {o n k m : Int} (hI : MKI o n k m) (h : ¬ k < o + n) (hf : Old.fitsB o n = true) : m = mkF o n := by
  have h1 := hI.hi
  unfold mkF; rw [if_pos hf, hI.eq, show k - o = n by omega]
theorem fits_r (a s : Int) : ((((!((((s == 1) || (s == 2)) || (s == 4)) || (s == 8))) || (decide (a < 0))) || (decide (a > (8 - s)))) || (!((Int.tmod a s) == 0))) = !Old.fitsB a s := by
  by_cases hs : s = 1 ∨ s = 2 ∨ s = 4 ∨ s = 8
  · have w : IntKind.wrap .i64 (8 - s) = 8 - s := by rcases hs with e | e | e | e <;> subst e <;> decide
    rw [← fits_o, w]
    simp only [Bool.not_and]
    rw [show (!decide (a ≥ 0)) = decide (a < 0) by rw [← decide_not]; congr 1; exact propext (by omega), show (!decide (a ≤ 8 - s)) = decide (a > 8 - s) by rw [← decide_not]; congr 1; exact propext (by omega)]
  · have h1 : s ≠ 1 := by omega
    have h2 : s ≠ 2 := by omega
    have h4 : s ≠ 4 := by omega
    have h8 : s ≠ 8 := by omega
    simp [Old.fitsB, h1, h2, h4, h8]
theorem fits_w (a s : Int) (h : Old.fitsB a s = true) : 0 ≤ a ∧ 1 ≤ s ∧ a + s ≤ 8 := by
  unfold Old.fitsB at h; have h := of_decide_eq_true h; omega
theorem rsize_x (n : Int)  : Fn Tryz.prog 196 [.int .i64 n] [] (Rt (.bool ((((n == 1) || (n == 2)) || (n == 4)) || (n == 8))) []) :=
 enterM (n := 17) (by kernel_rfl) Tryz.func196 rfl rfl rfl fun G w a h0 A => N hX 25 A rfl rfl fun A => RETN hX A rfl rfl rfl h0 rfl rfl rfl rfl rfl rfl
theorem fit_y {a s : Int} (h : ((((!((((s == 1) || (s == 2)) || (s == 4)) || (s == 8))) || (decide (a < 0))) || (decide (a > (8 - s)))) || (!((Int.tmod a s) == 0))) = false) : Old.fitsB a s = true := by rw [fits_r] at h; simpa using h
theorem fit_n {a s : Int} (h : ((((!((((s == 1) || (s == 2)) || (s == 4)) || (s == 8))) || (decide (a < 0))) || (decide (a > (8 - s)))) || (!((Int.tmod a s) == 0))) = true) : mkF a s = 0 := by rw [fits_r] at h; unfold mkF; rw [if_neg (by simpa using h)]
theorem rmask_x (o : Int) (n : Int)  : Fn Tryz.prog 163 [.int .i64 o, .int .i64 n] [] (Rt (.int .i64 (mkF o n)) []) :=
 enterM (n := 39) (by kernel_rfl) Tryz.func163 rfl rfl rfl fun G w a h0 A => N hX 9 A rfl rfl fun A => CALL1 [] (rsize_x n) A rfl rfl rfl rfl rfl rfl rfl fun A => N hX 19 A rfl (ok_r <| ok_r <| ok_r <| ok_g (fun hg => (by (try simp at hg); first | omega | (simp; omega))) <| ok_r <| ok_r <| ok_r <| ok_r <| ok_r <| ok_g (fun hg => (by (try simp at hg); first | omega | (simp; omega))) <| ok_r <| ok_r <| okE_nil) fun A => fork 25 A rfl
  (fun h1 A => N hX 7 A rfl rfl fun A => RETN hX A rfl rfl rfl h0 rfl rfl rfl rfl (by rw [fit_n h1]; rfl) rfl)
  (fun h1 A => N hX 16 A rfl rfl fun A => LOOP2 (fun (k : Int) (m : Int) => [(0, .int .i64 o), (1, .int .i64 n), (4, .int .i64 0), (5, .int .i64 m), (6, .int .i64 k)]) (fun (k : Int) (m : Int) => []) (fun (k : Int) (m : Int) => MKI o n k m) (fun (k : Int) (m : Int) => (o + n - k).toNat) o 0 (MKI.i0 (by have q := fits_w o n (fit_y h1); omega)) ((A.cut [0, 1, 4, 5, 6] rfl).trunc 0 rfl rfl rfl (by simp only [List.length_cons, List.length_nil] at h0; omega)) fun k m hI {G a w} A => N hX 10 A rfl (ok_d (by have q := fits_w o n (fit_y h1); have q1 := hI.lo; have q2 := hI.hi; omega) <| okE_nil) fun A => forkD 31 A rfl
    (fun h2 A => N hX 14 A rfl (ok_d (by have q := fits_w o n (fit_y h1); have q1 := hI.lo; have q2 := hI.hi; omega) <| okE_nil) fun A => N hX 5 A rfl (ok_d (by have q := fits_w o n (fit_y h1); have q1 := hI.lo; have q2 := hI.hi; omega) <| okE_nil) fun A => ⟨k + 1, IntKind.wrap .i64 ((((BitVec.ofInt (IntKind.bits .i64) m) ||| (BitVec.ofInt (IntKind.bits .i64) (IntKind.wrap .i64 (1 * 2 ^ min (k).toNat (IntKind.bits .i64))))).toNat : Nat) : Int), _, (by omega), (hI.nx h2), ((A.cut [0, 1, 4, 5, 6] rfl).trunc 0 rfl rfl rfl (by simp only [List.length_cons, List.length_nil] at h0; omega))⟩)
    (fun h2 A => N hX 10 A rfl rfl fun A => RETN hX A rfl rfl rfl h0 rfl rfl rfl rfl (by rw [hI.fi h2 (fit_y h1)]; rfl) rfl))
theorem rreg_x (r : Int)  : Fn Tryz.prog 118 [.int .i64 r] [] (Rt (.bool ((decide (r ≥ 0)) && (decide (r < 8)))) []) :=
 enterM (n := 9) (by kernel_rfl) Tryz.func118 rfl rfl rfl fun G w a h0 A => N hX 17 A rfl rfl fun A => RETN hX A rfl rfl rfl h0 rfl rfl rfl rfl rfl rfl
def rplace0 (i : In) : Bool := if i.loc ≥ 0 then if i.loc < 3 then if (mkF i.off i.sz) ≠ 0 then if i.ix = (-1) then true else (decide (i.ix ≥ 0)) && (decide (i.ix < 8)) else false else false else false
theorem rplace_ (i : In)  : Fn Tryz.prog 119 [.agg (inQ9 i)] [] (Rt (.bool (rplace0 i)) []) :=
 enterM (n := 29) (by kernel_rfl) Tryz.func119 rfl rfl rfl fun G w a h0 A => N hX 12 A rfl rfl fun A => forkD 6 A rfl
  (fun h1 A => N hX 5 A rfl rfl fun A => forkD 11 A rfl
   (fun h2 A => N hX 4 A rfl rfl fun A => CALL1 [] (rmask_x i.off i.sz) A rfl rfl rfl rfl rfl rfl rfl fun A => N hX 3 A rfl rfl fun A => forkN 19 A rfl
    (fun h3 A => N hX 4 A rfl rfl fun A => forkE 23 A rfl
     (fun h4 A => N hX 9 A rfl rfl fun A => RETN hX A rfl rfl rfl h0 rfl rfl rfl rfl (by simp only [oneS, nb, nbL, nbH, rplace0, if_pos h1, if_pos h2, if_pos h3, if_pos h4]) rfl)
     (fun h4 A => N hX 2 A rfl rfl fun A => CALL1 [] (rreg_x i.ix) A rfl rfl rfl rfl rfl rfl rfl fun A => N hX 6 A rfl rfl fun A => RETN hX A rfl rfl rfl h0 rfl rfl rfl rfl (by simp only [oneS, nb, nbL, nbH, rplace0, if_pos h1, if_pos h2, if_pos h3, if_neg (h4)]) rfl))
    (fun h3 A => N hX 13 A rfl rfl fun A => RETN hX A rfl rfl rfl h0 rfl rfl rfl rfl (by simp only [oneS, nb, nbL, nbH, rplace0, if_pos h1, if_pos h2, if_neg (not_not_intro h3)]) rfl))
   (fun h2 A => N hX 21 A rfl rfl fun A => RETN hX A rfl rfl rfl h0 rfl rfl rfl rfl (by simp only [oneS, nb, nbL, nbH, rplace0, if_pos h1, if_neg h2]) rfl))
  (fun h1 A => N hX 26 A rfl rfl fun A => RETN hX A rfl rfl rfl h0 rfl rfl rfl rfl (by simp only [oneS, nb, nbL, nbH, rplace0, if_neg h1]) rfl)
def rbare0 (i : In) : Int := if i.op = 1 then (-1) else if i.op = 2 then (-1) else if i.op = 3 then (-1) else if i.op = 4 then (-1) else if i.op = 5 then i.dst else if i.op = 6 then (-1) else i.dst
def rbare1 (i : In) : Int := if i.op = 1 then i.ra else if i.op = 2 then (-1) else if i.op = 3 then (-1) else if i.op = 4 then i.ra else if i.op = 5 then (-1) else if i.op = 6 then (-1) else if i.op = 7 then i.ra else if i.op = 8 then i.ra else if i.op = 9 then (-1) else i.ra
def rbare2 (i : In) : Int := if i.op = 1 then i.rb else if i.op = 2 then i.rb else if i.op = 3 then (-1) else i.rb
def rbare3 (i : In) : Int := if i.op = 1 then 0 else if i.op = 2 then i.imm else if i.op = 3 then 0 else if i.op = 4 then i.imm else if i.op = 5 then 0 else i.imm
def rbare4 (i : In) : Int := if i.op = 1 then if (((i.op == 4) || (i.op == 5)) || (i.op == 6)) = true then 0 else i.loc else if i.op = 2 then if ((decide (i.dst ≥ 0)) && (decide (i.dst < 8))) = true then if (((i.op == 4) || (i.op == 5)) || (i.op == 6)) = true then 0 else i.loc else if (((i.op == 4) || (i.op == 5)) || (i.op == 6)) = true then 0 else i.loc else if i.op = 3 then if ((decide (i.dst ≥ 0)) && (decide (i.dst < 8))) = true then if ((decide (i.ra ≥ 0)) && (decide (i.ra < 8))) = true then if i.fn ≥ 1 then if i.fn ≤ 5 then if i.rb = (-1) then if (((i.op == 4) || (i.op == 5)) || (i.op == 6)) = true then 0 else i.loc else if (((i.op == 4) || (i.op == 5)) || (i.op == 6)) = true then 0 else i.loc else if (((i.op == 4) || (i.op == 5)) || (i.op == 6)) = true then 0 else i.loc else if (((i.op == 4) || (i.op == 5)) || (i.op == 6)) = true then 0 else i.loc else if (((i.op == 4) || (i.op == 5)) || (i.op == 6)) = true then 0 else i.loc else if (((i.op == 4) || (i.op == 5)) || (i.op == 6)) = true then 0 else i.loc else if i.op = 4 then if ((decide (i.dst ≥ 0)) && (decide (i.dst < 8))) = true then if (((i.op == 4) || (i.op == 5)) || (i.op == 6)) = true then 0 else i.loc else if (((i.op == 4) || (i.op == 5)) || (i.op == 6)) = true then 0 else i.loc else if i.op = 5 then if (rplace0 i) = true then if i.ra = (-1) then if (((i.op == 4) || (i.op == 5)) || (i.op == 6)) = true then 0 else i.loc else if (((i.op == 4) || (i.op == 5)) || (i.op == 6)) = true then 0 else i.loc else if (((i.op == 4) || (i.op == 5)) || (i.op == 6)) = true then 0 else i.loc else if i.op = 6 then if ((decide (i.dst ≥ 0)) && (decide (i.dst < 8))) = true then if ((decide (i.ra ≥ 0)) && (decide (i.ra < 8))) = true then if (((i.op == 4) || (i.op == 5)) || (i.op == 6)) = true then 0 else i.loc else if (((i.op == 4) || (i.op == 5)) || (i.op == 6)) = true then 0 else i.loc else if (((i.op == 4) || (i.op == 5)) || (i.op == 6)) = true then 0 else i.loc else if i.op = 7 then if (((i.op == 4) || (i.op == 5)) || (i.op == 6)) = true then 0 else i.loc else if i.op = 8 then if (((i.op == 4) || (i.op == 5)) || (i.op == 6)) = true then 0 else i.loc else if i.op = 9 then if (((i.op == 4) || (i.op == 5)) || (i.op == 6)) = true then 0 else i.loc else if (((i.op == 4) || (i.op == 5)) || (i.op == 6)) = true then 0 else i.loc
def rbare5 (i : In) : Int := if i.op = 1 then if (((i.op == 4) || (i.op == 5)) || (i.op == 6)) = true then 0 else i.off else if i.op = 2 then if ((decide (i.dst ≥ 0)) && (decide (i.dst < 8))) = true then if (((i.op == 4) || (i.op == 5)) || (i.op == 6)) = true then 0 else i.off else if (((i.op == 4) || (i.op == 5)) || (i.op == 6)) = true then 0 else i.off else if i.op = 3 then if ((decide (i.dst ≥ 0)) && (decide (i.dst < 8))) = true then if ((decide (i.ra ≥ 0)) && (decide (i.ra < 8))) = true then if i.fn ≥ 1 then if i.fn ≤ 5 then if i.rb = (-1) then if (((i.op == 4) || (i.op == 5)) || (i.op == 6)) = true then 0 else i.off else if (((i.op == 4) || (i.op == 5)) || (i.op == 6)) = true then 0 else i.off else if (((i.op == 4) || (i.op == 5)) || (i.op == 6)) = true then 0 else i.off else if (((i.op == 4) || (i.op == 5)) || (i.op == 6)) = true then 0 else i.off else if (((i.op == 4) || (i.op == 5)) || (i.op == 6)) = true then 0 else i.off else if (((i.op == 4) || (i.op == 5)) || (i.op == 6)) = true then 0 else i.off else if i.op = 4 then if ((decide (i.dst ≥ 0)) && (decide (i.dst < 8))) = true then if (((i.op == 4) || (i.op == 5)) || (i.op == 6)) = true then 0 else i.off else if (((i.op == 4) || (i.op == 5)) || (i.op == 6)) = true then 0 else i.off else if i.op = 5 then if (rplace0 i) = true then if i.ra = (-1) then if (((i.op == 4) || (i.op == 5)) || (i.op == 6)) = true then 0 else i.off else if (((i.op == 4) || (i.op == 5)) || (i.op == 6)) = true then 0 else i.off else if (((i.op == 4) || (i.op == 5)) || (i.op == 6)) = true then 0 else i.off else if i.op = 6 then if ((decide (i.dst ≥ 0)) && (decide (i.dst < 8))) = true then if ((decide (i.ra ≥ 0)) && (decide (i.ra < 8))) = true then if (((i.op == 4) || (i.op == 5)) || (i.op == 6)) = true then 0 else i.off else if (((i.op == 4) || (i.op == 5)) || (i.op == 6)) = true then 0 else i.off else if (((i.op == 4) || (i.op == 5)) || (i.op == 6)) = true then 0 else i.off else if i.op = 7 then if (((i.op == 4) || (i.op == 5)) || (i.op == 6)) = true then 0 else i.off else if i.op = 8 then if (((i.op == 4) || (i.op == 5)) || (i.op == 6)) = true then 0 else i.off else if i.op = 9 then if (((i.op == 4) || (i.op == 5)) || (i.op == 6)) = true then 0 else i.off else if (((i.op == 4) || (i.op == 5)) || (i.op == 6)) = true then 0 else i.off
def rbare6 (i : In) : Int := if i.op = 1 then if (((i.op == 4) || (i.op == 5)) || (i.op == 6)) = true then (-1) else i.ix else if i.op = 2 then if ((decide (i.dst ≥ 0)) && (decide (i.dst < 8))) = true then if (((i.op == 4) || (i.op == 5)) || (i.op == 6)) = true then (-1) else i.ix else if (((i.op == 4) || (i.op == 5)) || (i.op == 6)) = true then (-1) else i.ix else if i.op = 3 then if ((decide (i.dst ≥ 0)) && (decide (i.dst < 8))) = true then if ((decide (i.ra ≥ 0)) && (decide (i.ra < 8))) = true then if i.fn ≥ 1 then if i.fn ≤ 5 then if i.rb = (-1) then if (((i.op == 4) || (i.op == 5)) || (i.op == 6)) = true then (-1) else i.ix else if (((i.op == 4) || (i.op == 5)) || (i.op == 6)) = true then (-1) else i.ix else if (((i.op == 4) || (i.op == 5)) || (i.op == 6)) = true then (-1) else i.ix else if (((i.op == 4) || (i.op == 5)) || (i.op == 6)) = true then (-1) else i.ix else if (((i.op == 4) || (i.op == 5)) || (i.op == 6)) = true then (-1) else i.ix else if (((i.op == 4) || (i.op == 5)) || (i.op == 6)) = true then (-1) else i.ix else if i.op = 4 then if ((decide (i.dst ≥ 0)) && (decide (i.dst < 8))) = true then if (((i.op == 4) || (i.op == 5)) || (i.op == 6)) = true then (-1) else i.ix else if (((i.op == 4) || (i.op == 5)) || (i.op == 6)) = true then (-1) else i.ix else if i.op = 5 then if (rplace0 i) = true then if i.ra = (-1) then if (((i.op == 4) || (i.op == 5)) || (i.op == 6)) = true then (-1) else i.ix else if (((i.op == 4) || (i.op == 5)) || (i.op == 6)) = true then (-1) else i.ix else if (((i.op == 4) || (i.op == 5)) || (i.op == 6)) = true then (-1) else i.ix else if i.op = 6 then if ((decide (i.dst ≥ 0)) && (decide (i.dst < 8))) = true then if ((decide (i.ra ≥ 0)) && (decide (i.ra < 8))) = true then if (((i.op == 4) || (i.op == 5)) || (i.op == 6)) = true then (-1) else i.ix else if (((i.op == 4) || (i.op == 5)) || (i.op == 6)) = true then (-1) else i.ix else if (((i.op == 4) || (i.op == 5)) || (i.op == 6)) = true then (-1) else i.ix else if i.op = 7 then if (((i.op == 4) || (i.op == 5)) || (i.op == 6)) = true then (-1) else i.ix else if i.op = 8 then if (((i.op == 4) || (i.op == 5)) || (i.op == 6)) = true then (-1) else i.ix else if i.op = 9 then if (((i.op == 4) || (i.op == 5)) || (i.op == 6)) = true then (-1) else i.ix else if (((i.op == 4) || (i.op == 5)) || (i.op == 6)) = true then (-1) else i.ix
def rbare7 (i : In) : Int := if i.op = 1 then if (((i.op == 4) || (i.op == 5)) || (i.op == 6)) = true then 0 else i.sz else if i.op = 2 then if ((decide (i.dst ≥ 0)) && (decide (i.dst < 8))) = true then if (((i.op == 4) || (i.op == 5)) || (i.op == 6)) = true then 0 else i.sz else if (((i.op == 4) || (i.op == 5)) || (i.op == 6)) = true then 0 else i.sz else if i.op = 3 then if ((decide (i.dst ≥ 0)) && (decide (i.dst < 8))) = true then if ((decide (i.ra ≥ 0)) && (decide (i.ra < 8))) = true then if i.fn ≥ 1 then if i.fn ≤ 5 then if i.rb = (-1) then if (((i.op == 4) || (i.op == 5)) || (i.op == 6)) = true then 0 else i.sz else if (((i.op == 4) || (i.op == 5)) || (i.op == 6)) = true then 0 else i.sz else if (((i.op == 4) || (i.op == 5)) || (i.op == 6)) = true then 0 else i.sz else if (((i.op == 4) || (i.op == 5)) || (i.op == 6)) = true then 0 else i.sz else if (((i.op == 4) || (i.op == 5)) || (i.op == 6)) = true then 0 else i.sz else if (((i.op == 4) || (i.op == 5)) || (i.op == 6)) = true then 0 else i.sz else if i.op = 4 then if ((decide (i.dst ≥ 0)) && (decide (i.dst < 8))) = true then if (((i.op == 4) || (i.op == 5)) || (i.op == 6)) = true then 0 else i.sz else if (((i.op == 4) || (i.op == 5)) || (i.op == 6)) = true then 0 else i.sz else if i.op = 5 then if (rplace0 i) = true then if i.ra = (-1) then if (((i.op == 4) || (i.op == 5)) || (i.op == 6)) = true then 0 else i.sz else if (((i.op == 4) || (i.op == 5)) || (i.op == 6)) = true then 0 else i.sz else if (((i.op == 4) || (i.op == 5)) || (i.op == 6)) = true then 0 else i.sz else if i.op = 6 then if ((decide (i.dst ≥ 0)) && (decide (i.dst < 8))) = true then if ((decide (i.ra ≥ 0)) && (decide (i.ra < 8))) = true then if (((i.op == 4) || (i.op == 5)) || (i.op == 6)) = true then 0 else i.sz else if (((i.op == 4) || (i.op == 5)) || (i.op == 6)) = true then 0 else i.sz else if (((i.op == 4) || (i.op == 5)) || (i.op == 6)) = true then 0 else i.sz else if i.op = 7 then if (((i.op == 4) || (i.op == 5)) || (i.op == 6)) = true then 0 else i.sz else if i.op = 8 then if (((i.op == 4) || (i.op == 5)) || (i.op == 6)) = true then 0 else i.sz else if i.op = 9 then if (((i.op == 4) || (i.op == 5)) || (i.op == 6)) = true then 0 else i.sz else if (((i.op == 4) || (i.op == 5)) || (i.op == 6)) = true then 0 else i.sz
def rbare8 (i : In) : Int := if i.op = 1 then i.fn else if i.op = 2 then i.fn else if i.op = 3 then 0 else if i.op = 4 then i.fn else if i.op = 5 then i.fn else if i.op = 6 then 0 else i.fn
def rbare9 (i : In) : Bool := if i.op = 1 then i.acq else if i.op = 2 then i.acq else if i.op = 3 then i.acq else if i.op = 4 then false else if i.op = 5 then i.acq else if i.op = 6 then false else i.acq
def rbare10 (i : In) : Bool := if i.op = 1 then i.weak else if i.op = 2 then i.weak else if i.op = 3 then i.weak else if i.op = 4 then false else i.weak
def rbare11 (i : In) : Bool := if i.op = 1 then i.rel else if i.op = 2 then i.rel else if i.op = 3 then i.rel else if i.op = 4 then i.rel else if i.op = 5 then false else if i.op = 6 then false else i.rel
def rbare12 (i : In) : Int := if i.op = 1 then i.pred else if i.op = 2 then i.pred else if i.op = 3 then i.pred else if i.op = 4 then i.pred else if i.op = 5 then i.pred else if i.op = 6 then i.pred else if i.op = 7 then 0 else i.pred
def rbare13 (i : In) : Int := if i.op = 1 then i.succ else if i.op = 2 then i.succ else if i.op = 3 then i.succ else if i.op = 4 then i.succ else if i.op = 5 then i.succ else if i.op = 6 then i.succ else if i.op = 7 then 0 else i.succ
def rbare14 (i : In) : Int := if i.op = 1 then i.to_ else if i.op = 2 then i.to_ else if i.op = 3 then i.to_ else if i.op = 4 then i.to_ else if i.op = 5 then i.to_ else if i.op = 6 then i.to_ else if i.op = 7 then i.to_ else if i.op = 8 then i.to_ else if i.op = 9 then 0 else i.to_
def rbare15 (i : In) : Bool := if i.op = 1 then i.zero else if i.op = 2 then i.zero else if i.op = 3 then i.zero else if i.op = 4 then i.zero else if i.op = 5 then i.zero else if i.op = 6 then i.zero else if i.op = 7 then i.zero else if i.op = 8 then i.zero else if i.op = 9 then false else i.zero
def rbare16 (i : In) : Bool := if i.op = 1 then (decide (i.dst ≥ 0)) && (decide (i.dst < 8)) else if i.op = 2 then if ((decide (i.dst ≥ 0)) && (decide (i.dst < 8))) = true then (decide (i.ra ≥ 0)) && (decide (i.ra < 8)) else false else if i.op = 3 then if ((decide (i.dst ≥ 0)) && (decide (i.dst < 8))) = true then if ((decide (i.ra ≥ 0)) && (decide (i.ra < 8))) = true then if i.fn ≥ 1 then if i.fn ≤ 5 then if i.rb = (-1) then true else ((decide (i.rb ≥ 0)) && (decide (i.rb < 8))) && (i.imm == 0) else false else false else false else false else if i.op = 4 then if ((decide (i.dst ≥ 0)) && (decide (i.dst < 8))) = true then (rplace0 i) && (!(i.acq && i.weak)) else false else if i.op = 5 then if (rplace0 i) = true then if i.ra = (-1) then true else ((decide (i.ra ≥ 0)) && (decide (i.ra < 8))) && (i.imm == 0) else false else if i.op = 6 then if ((decide (i.dst ≥ 0)) && (decide (i.dst < 8))) = true then if ((decide (i.ra ≥ 0)) && (decide (i.ra < 8))) = true then (rplace0 i) && ((i.fn == 6) || (i.fn == 1)) else false else false else if i.op = 7 then (((decide (i.pred ≥ 1)) && (decide (i.pred ≤ 3))) && (decide (i.succ ≥ 1))) && (decide (i.succ ≤ 3)) else if i.op = 8 then true else if i.op = 9 then (decide (i.ra ≥ 0)) && (decide (i.ra < 8)) else false
theorem rbare_ (i : In)  : Fn Tryz.prog 78 [.agg (inQ9 i)] [] (Rt (.tup [.agg [.int .i64 0, .int .i64 (rbare0 i), .int .i64 (rbare1 i), .int .i64 (rbare2 i), .int .i64 (rbare3 i), .int .i64 (rbare4 i), .int .i64 (rbare5 i), .int .i64 (rbare6 i), .int .i64 (rbare7 i), .int .i64 (rbare8 i), .bool (rbare9 i), .bool (rbare10 i), .bool (rbare11 i), .int .i64 (rbare12 i), .int .i64 (rbare13 i), .int .i64 (rbare14 i), .bool (rbare15 i)], .bool (rbare16 i)]) []) :=
 enterM (n := 192) (by kernel_rfl) Tryz.func78 rfl rfl rfl fun G w a h0 A => N hX 39 A rfl rfl fun A => forkE 10 A rfl
  (fun h1 A => N hX 5 A rfl rfl fun A => CALL1 [] (rreg_x i.dst) A rfl rfl rfl rfl rfl rfl rfl fun A => N hX 33 A rfl rfl fun A => fork 185 A rfl
   (fun h2 A => N hX 33 A rfl rfl fun A => RETN hX A rfl rfl rfl h0 rfl rfl rfl rfl (by simp only [oneS, nb, nbL, nbH, rbare0, rbare1, rbare2, rbare3, rbare4, rbare5, rbare6, rbare7, rbare8, rbare9, rbare10, rbare11, rbare12, rbare13, rbare14, rbare15, rbare16, if_pos h1, if_pos h2]) rfl)
   (fun h2 A => N hX 12 A rfl rfl fun A => RETN hX A rfl rfl rfl h0 rfl rfl rfl rfl (by simp only [oneS, nb, nbL, nbH, rbare0, rbare1, rbare2, rbare3, rbare4, rbare5, rbare6, rbare7, rbare8, rbare9, rbare10, rbare11, rbare12, rbare13, rbare14, rbare15, rbare16, if_pos h1, if_neg (ne_true_of_eq_false h2)]) rfl))
  (fun h1 A => N hX 7 A rfl rfl fun A => forkE 17 A rfl
   (fun h3 A => N hX 5 A rfl rfl fun A => CALL1 [] (rreg_x i.dst) A rfl rfl rfl rfl rfl rfl rfl fun A => N hX 1 A rfl rfl fun A => fork 22 A rfl
    (fun h4 A => N hX 2 A rfl rfl fun A => CALL1 [] (rreg_x i.ra) A rfl rfl rfl rfl rfl rfl rfl fun A => N hX 34 A rfl rfl fun A => fork 185 A rfl
     (fun h5 A => N hX 33 A rfl rfl fun A => RETN hX A rfl rfl rfl h0 rfl rfl rfl rfl (by simp only [oneS, nb, nbL, nbH, rbare0, rbare1, rbare2, rbare3, rbare4, rbare5, rbare6, rbare7, rbare8, rbare9, rbare10, rbare11, rbare12, rbare13, rbare14, rbare15, rbare16, if_neg (h1), if_pos h3, if_pos h4, if_pos h5]) rfl)
     (fun h5 A => N hX 12 A rfl rfl fun A => RETN hX A rfl rfl rfl h0 rfl rfl rfl rfl (by simp only [oneS, nb, nbL, nbH, rbare0, rbare1, rbare2, rbare3, rbare4, rbare5, rbare6, rbare7, rbare8, rbare9, rbare10, rbare11, rbare12, rbare13, rbare14, rbare15, rbare16, if_neg (h1), if_pos h3, if_pos h4, if_neg (ne_true_of_eq_false h5)]) rfl))
    (fun h4 A => N hX 37 A rfl rfl fun A => fork 185 A rfl
     (fun h6 A => N hX 33 A rfl rfl fun A => RETN hX A rfl rfl rfl h0 rfl rfl rfl rfl (by simp only [oneS, nb, nbL, nbH, rbare0, rbare1, rbare2, rbare3, rbare4, rbare5, rbare6, rbare7, rbare8, rbare9, rbare10, rbare11, rbare12, rbare13, rbare14, rbare15, rbare16, if_neg (h1), if_pos h3, if_neg (ne_true_of_eq_false h4), if_pos h6]) rfl)
     (fun h6 A => N hX 12 A rfl rfl fun A => RETN hX A rfl rfl rfl h0 rfl rfl rfl rfl (by simp only [oneS, nb, nbL, nbH, rbare0, rbare1, rbare2, rbare3, rbare4, rbare5, rbare6, rbare7, rbare8, rbare9, rbare10, rbare11, rbare12, rbare13, rbare14, rbare15, rbare16, if_neg (h1), if_pos h3, if_neg (ne_true_of_eq_false h4), if_neg (ne_true_of_eq_false h6)]) rfl)))
   (fun h3 A => N hX 7 A rfl rfl fun A => forkE 29 A rfl
    (fun h7 A => N hX 5 A rfl rfl fun A => CALL1 [] (rreg_x i.dst) A rfl rfl rfl rfl rfl rfl rfl fun A => N hX 1 A rfl rfl fun A => fork 34 A rfl
     (fun h8 A => N hX 2 A rfl rfl fun A => CALL1 [] (rreg_x i.ra) A rfl rfl rfl rfl rfl rfl rfl fun A => N hX 2 A rfl rfl fun A => fork 39 A rfl
      (fun h9 A => N hX 5 A rfl rfl fun A => forkD 44 A rfl
       (fun h10 A => N hX 5 A rfl rfl fun A => forkD 49 A rfl
        (fun h11 A => N hX 4 A rfl rfl fun A => forkE 53 A rfl
         (fun h12 A => N hX 61 A rfl rfl fun A => fork 185 A rfl
          (fun h13 A => N hX 33 A rfl rfl fun A => RETN hX A rfl rfl rfl h0 rfl rfl rfl rfl (by simp only [oneS, nb, nbL, nbH, rbare0, rbare1, rbare2, rbare3, rbare4, rbare5, rbare6, rbare7, rbare8, rbare9, rbare10, rbare11, rbare12, rbare13, rbare14, rbare15, rbare16, if_neg (h1), if_neg (h3), if_pos h7, if_pos h8, if_pos h9, if_pos h10, if_pos h11, if_pos h12, if_pos h13]) rfl)
          (fun h13 A => N hX 12 A rfl rfl fun A => RETN hX A rfl rfl rfl h0 rfl rfl rfl rfl (by simp only [oneS, nb, nbL, nbH, rbare0, rbare1, rbare2, rbare3, rbare4, rbare5, rbare6, rbare7, rbare8, rbare9, rbare10, rbare11, rbare12, rbare13, rbare14, rbare15, rbare16, if_neg (h1), if_neg (h3), if_pos h7, if_pos h8, if_pos h9, if_pos h10, if_pos h11, if_pos h12, if_neg (ne_true_of_eq_false h13)]) rfl))
         (fun h12 A => N hX 2 A rfl rfl fun A => CALL1 [] (rreg_x i.rb) A rfl rfl rfl rfl rfl rfl rfl fun A => N hX 11 A rfl rfl fun A => N hX 47 A rfl rfl fun A => fork 185 A rfl
          (fun h14 A => N hX 33 A rfl rfl fun A => RETN hX A rfl rfl rfl h0 rfl rfl rfl rfl (by simp only [oneS, nb, nbL, nbH, rbare0, rbare1, rbare2, rbare3, rbare4, rbare5, rbare6, rbare7, rbare8, rbare9, rbare10, rbare11, rbare12, rbare13, rbare14, rbare15, rbare16, if_neg (h1), if_neg (h3), if_pos h7, if_pos h8, if_pos h9, if_pos h10, if_pos h11, if_neg (h12), if_pos h14]) rfl)
          (fun h14 A => N hX 12 A rfl rfl fun A => RETN hX A rfl rfl rfl h0 rfl rfl rfl rfl (by simp only [oneS, nb, nbL, nbH, rbare0, rbare1, rbare2, rbare3, rbare4, rbare5, rbare6, rbare7, rbare8, rbare9, rbare10, rbare11, rbare12, rbare13, rbare14, rbare15, rbare16, if_neg (h1), if_neg (h3), if_pos h7, if_pos h8, if_pos h9, if_pos h10, if_pos h11, if_neg (h12), if_neg (ne_true_of_eq_false h14)]) rfl)))
        (fun h11 A => N hX 65 A rfl rfl fun A => fork 185 A rfl
         (fun h15 A => N hX 33 A rfl rfl fun A => RETN hX A rfl rfl rfl h0 rfl rfl rfl rfl (by simp only [oneS, nb, nbL, nbH, rbare0, rbare1, rbare2, rbare3, rbare4, rbare5, rbare6, rbare7, rbare8, rbare9, rbare10, rbare11, rbare12, rbare13, rbare14, rbare15, rbare16, if_neg (h1), if_neg (h3), if_pos h7, if_pos h8, if_pos h9, if_pos h10, if_neg h11, if_pos h15]) rfl)
         (fun h15 A => N hX 12 A rfl rfl fun A => RETN hX A rfl rfl rfl h0 rfl rfl rfl rfl (by simp only [oneS, nb, nbL, nbH, rbare0, rbare1, rbare2, rbare3, rbare4, rbare5, rbare6, rbare7, rbare8, rbare9, rbare10, rbare11, rbare12, rbare13, rbare14, rbare15, rbare16, if_neg (h1), if_neg (h3), if_pos h7, if_pos h8, if_pos h9, if_pos h10, if_neg h11, if_neg (ne_true_of_eq_false h15)]) rfl)))
       (fun h10 A => N hX 70 A rfl rfl fun A => fork 185 A rfl
        (fun h16 A => N hX 33 A rfl rfl fun A => RETN hX A rfl rfl rfl h0 rfl rfl rfl rfl (by simp only [oneS, nb, nbL, nbH, rbare0, rbare1, rbare2, rbare3, rbare4, rbare5, rbare6, rbare7, rbare8, rbare9, rbare10, rbare11, rbare12, rbare13, rbare14, rbare15, rbare16, if_neg (h1), if_neg (h3), if_pos h7, if_pos h8, if_pos h9, if_neg h10, if_pos h16]) rfl)
        (fun h16 A => N hX 12 A rfl rfl fun A => RETN hX A rfl rfl rfl h0 rfl rfl rfl rfl (by simp only [oneS, nb, nbL, nbH, rbare0, rbare1, rbare2, rbare3, rbare4, rbare5, rbare6, rbare7, rbare8, rbare9, rbare10, rbare11, rbare12, rbare13, rbare14, rbare15, rbare16, if_neg (h1), if_neg (h3), if_pos h7, if_pos h8, if_pos h9, if_neg h10, if_neg (ne_true_of_eq_false h16)]) rfl)))
      (fun h9 A => N hX 75 A rfl rfl fun A => fork 185 A rfl
       (fun h17 A => N hX 33 A rfl rfl fun A => RETN hX A rfl rfl rfl h0 rfl rfl rfl rfl (by simp only [oneS, nb, nbL, nbH, rbare0, rbare1, rbare2, rbare3, rbare4, rbare5, rbare6, rbare7, rbare8, rbare9, rbare10, rbare11, rbare12, rbare13, rbare14, rbare15, rbare16, if_neg (h1), if_neg (h3), if_pos h7, if_pos h8, if_neg (ne_true_of_eq_false h9), if_pos h17]) rfl)
       (fun h17 A => N hX 12 A rfl rfl fun A => RETN hX A rfl rfl rfl h0 rfl rfl rfl rfl (by simp only [oneS, nb, nbL, nbH, rbare0, rbare1, rbare2, rbare3, rbare4, rbare5, rbare6, rbare7, rbare8, rbare9, rbare10, rbare11, rbare12, rbare13, rbare14, rbare15, rbare16, if_neg (h1), if_neg (h3), if_pos h7, if_pos h8, if_neg (ne_true_of_eq_false h9), if_neg (ne_true_of_eq_false h17)]) rfl)))
     (fun h8 A => N hX 80 A rfl rfl fun A => fork 185 A rfl
      (fun h18 A => N hX 33 A rfl rfl fun A => RETN hX A rfl rfl rfl h0 rfl rfl rfl rfl (by simp only [oneS, nb, nbL, nbH, rbare0, rbare1, rbare2, rbare3, rbare4, rbare5, rbare6, rbare7, rbare8, rbare9, rbare10, rbare11, rbare12, rbare13, rbare14, rbare15, rbare16, if_neg (h1), if_neg (h3), if_pos h7, if_neg (ne_true_of_eq_false h8), if_pos h18]) rfl)
      (fun h18 A => N hX 12 A rfl rfl fun A => RETN hX A rfl rfl rfl h0 rfl rfl rfl rfl (by simp only [oneS, nb, nbL, nbH, rbare0, rbare1, rbare2, rbare3, rbare4, rbare5, rbare6, rbare7, rbare8, rbare9, rbare10, rbare11, rbare12, rbare13, rbare14, rbare15, rbare16, if_neg (h1), if_neg (h3), if_pos h7, if_neg (ne_true_of_eq_false h8), if_neg (ne_true_of_eq_false h18)]) rfl)))
    (fun h7 A => N hX 7 A rfl rfl fun A => forkE 69 A rfl
     (fun h19 A => N hX 5 A rfl rfl fun A => CALL1 [] (rreg_x i.dst) A rfl rfl rfl rfl rfl rfl rfl fun A => N hX 1 A rfl rfl fun A => fork 74 A rfl
      (fun h20 A => N hX 1 A rfl rfl fun A => CALL1 [] (rplace_ i) A rfl rfl rfl rfl rfl rfl rfl fun A => N hX 14 A rfl rfl fun A => N hX 35 A rfl rfl fun A => fork 185 A rfl
       (fun h21 A => N hX 33 A rfl rfl fun A => RETN hX A rfl rfl rfl h0 rfl rfl rfl rfl (by simp only [oneS, nb, nbL, nbH, rbare0, rbare1, rbare2, rbare3, rbare4, rbare5, rbare6, rbare7, rbare8, rbare9, rbare10, rbare11, rbare12, rbare13, rbare14, rbare15, rbare16, if_neg (h1), if_neg (h3), if_neg (h7), if_pos h19, if_pos h20, if_pos h21]) rfl)
       (fun h21 A => N hX 12 A rfl rfl fun A => RETN hX A rfl rfl rfl h0 rfl rfl rfl rfl (by simp only [oneS, nb, nbL, nbH, rbare0, rbare1, rbare2, rbare3, rbare4, rbare5, rbare6, rbare7, rbare8, rbare9, rbare10, rbare11, rbare12, rbare13, rbare14, rbare15, rbare16, if_neg (h1), if_neg (h3), if_neg (h7), if_pos h19, if_pos h20, if_neg (ne_true_of_eq_false h21)]) rfl))
      (fun h20 A => N hX 51 A rfl rfl fun A => fork 185 A rfl
       (fun h22 A => N hX 33 A rfl rfl fun A => RETN hX A rfl rfl rfl h0 rfl rfl rfl rfl (by simp only [oneS, nb, nbL, nbH, rbare0, rbare1, rbare2, rbare3, rbare4, rbare5, rbare6, rbare7, rbare8, rbare9, rbare10, rbare11, rbare12, rbare13, rbare14, rbare15, rbare16, if_neg (h1), if_neg (h3), if_neg (h7), if_pos h19, if_neg (ne_true_of_eq_false h20), if_pos h22]) rfl)
       (fun h22 A => N hX 12 A rfl rfl fun A => RETN hX A rfl rfl rfl h0 rfl rfl rfl rfl (by simp only [oneS, nb, nbL, nbH, rbare0, rbare1, rbare2, rbare3, rbare4, rbare5, rbare6, rbare7, rbare8, rbare9, rbare10, rbare11, rbare12, rbare13, rbare14, rbare15, rbare16, if_neg (h1), if_neg (h3), if_neg (h7), if_pos h19, if_neg (ne_true_of_eq_false h20), if_neg (ne_true_of_eq_false h22)]) rfl)))
     (fun h19 A => N hX 7 A rfl rfl fun A => forkE 90 A rfl
      (fun h23 A => N hX 4 A rfl rfl fun A => CALL1 [] (rplace_ i) A rfl rfl rfl rfl rfl rfl rfl fun A => N hX 1 A rfl rfl fun A => fork 94 A rfl
       (fun h24 A => N hX 4 A rfl rfl fun A => forkE 98 A rfl
        (fun h25 A => N hX 49 A rfl rfl fun A => fork 185 A rfl
         (fun h26 A => N hX 33 A rfl rfl fun A => RETN hX A rfl rfl rfl h0 rfl rfl rfl rfl (by simp only [oneS, nb, nbL, nbH, rbare0, rbare1, rbare2, rbare3, rbare4, rbare5, rbare6, rbare7, rbare8, rbare9, rbare10, rbare11, rbare12, rbare13, rbare14, rbare15, rbare16, if_neg (h1), if_neg (h3), if_neg (h7), if_neg (h19), if_pos h23, if_pos h24, if_pos h25, if_pos h26]) rfl)
         (fun h26 A => N hX 12 A rfl rfl fun A => RETN hX A rfl rfl rfl h0 rfl rfl rfl rfl (by simp only [oneS, nb, nbL, nbH, rbare0, rbare1, rbare2, rbare3, rbare4, rbare5, rbare6, rbare7, rbare8, rbare9, rbare10, rbare11, rbare12, rbare13, rbare14, rbare15, rbare16, if_neg (h1), if_neg (h3), if_neg (h7), if_neg (h19), if_pos h23, if_pos h24, if_pos h25, if_neg (ne_true_of_eq_false h26)]) rfl))
        (fun h25 A => N hX 2 A rfl rfl fun A => CALL1 [] (rreg_x i.ra) A rfl rfl rfl rfl rfl rfl rfl fun A => N hX 11 A rfl rfl fun A => N hX 35 A rfl rfl fun A => fork 185 A rfl
         (fun h27 A => N hX 33 A rfl rfl fun A => RETN hX A rfl rfl rfl h0 rfl rfl rfl rfl (by simp only [oneS, nb, nbL, nbH, rbare0, rbare1, rbare2, rbare3, rbare4, rbare5, rbare6, rbare7, rbare8, rbare9, rbare10, rbare11, rbare12, rbare13, rbare14, rbare15, rbare16, if_neg (h1), if_neg (h3), if_neg (h7), if_neg (h19), if_pos h23, if_pos h24, if_neg (h25), if_pos h27]) rfl)
         (fun h27 A => N hX 12 A rfl rfl fun A => RETN hX A rfl rfl rfl h0 rfl rfl rfl rfl (by simp only [oneS, nb, nbL, nbH, rbare0, rbare1, rbare2, rbare3, rbare4, rbare5, rbare6, rbare7, rbare8, rbare9, rbare10, rbare11, rbare12, rbare13, rbare14, rbare15, rbare16, if_neg (h1), if_neg (h3), if_neg (h7), if_neg (h19), if_pos h23, if_pos h24, if_neg (h25), if_neg (ne_true_of_eq_false h27)]) rfl)))
       (fun h24 A => N hX 53 A rfl rfl fun A => fork 185 A rfl
        (fun h28 A => N hX 33 A rfl rfl fun A => RETN hX A rfl rfl rfl h0 rfl rfl rfl rfl (by simp only [oneS, nb, nbL, nbH, rbare0, rbare1, rbare2, rbare3, rbare4, rbare5, rbare6, rbare7, rbare8, rbare9, rbare10, rbare11, rbare12, rbare13, rbare14, rbare15, rbare16, if_neg (h1), if_neg (h3), if_neg (h7), if_neg (h19), if_pos h23, if_neg (ne_true_of_eq_false h24), if_pos h28]) rfl)
        (fun h28 A => N hX 12 A rfl rfl fun A => RETN hX A rfl rfl rfl h0 rfl rfl rfl rfl (by simp only [oneS, nb, nbL, nbH, rbare0, rbare1, rbare2, rbare3, rbare4, rbare5, rbare6, rbare7, rbare8, rbare9, rbare10, rbare11, rbare12, rbare13, rbare14, rbare15, rbare16, if_neg (h1), if_neg (h3), if_neg (h7), if_neg (h19), if_pos h23, if_neg (ne_true_of_eq_false h24), if_neg (ne_true_of_eq_false h28)]) rfl)))
      (fun h23 A => N hX 7 A rfl rfl fun A => forkE 112 A rfl
       (fun h29 A => N hX 5 A rfl rfl fun A => CALL1 [] (rreg_x i.dst) A rfl rfl rfl rfl rfl rfl rfl fun A => N hX 1 A rfl rfl fun A => fork 117 A rfl
        (fun h30 A => N hX 2 A rfl rfl fun A => CALL1 [] (rreg_x i.ra) A rfl rfl rfl rfl rfl rfl rfl fun A => N hX 2 A rfl rfl fun A => fork 122 A rfl
         (fun h31 A => N hX 1 A rfl rfl fun A => CALL1 [] (rplace_ i) A rfl rfl rfl rfl rfl rfl rfl fun A => N hX 15 A rfl rfl fun A => N hX 47 A rfl rfl fun A => fork 185 A rfl
          (fun h32 A => N hX 33 A rfl rfl fun A => RETN hX A rfl rfl rfl h0 rfl rfl rfl rfl (by simp only [oneS, nb, nbL, nbH, rbare0, rbare1, rbare2, rbare3, rbare4, rbare5, rbare6, rbare7, rbare8, rbare9, rbare10, rbare11, rbare12, rbare13, rbare14, rbare15, rbare16, if_neg (h1), if_neg (h3), if_neg (h7), if_neg (h19), if_neg (h23), if_pos h29, if_pos h30, if_pos h31, if_pos h32]) rfl)
          (fun h32 A => N hX 12 A rfl rfl fun A => RETN hX A rfl rfl rfl h0 rfl rfl rfl rfl (by simp only [oneS, nb, nbL, nbH, rbare0, rbare1, rbare2, rbare3, rbare4, rbare5, rbare6, rbare7, rbare8, rbare9, rbare10, rbare11, rbare12, rbare13, rbare14, rbare15, rbare16, if_neg (h1), if_neg (h3), if_neg (h7), if_neg (h19), if_neg (h23), if_pos h29, if_pos h30, if_pos h31, if_neg (ne_true_of_eq_false h32)]) rfl))
         (fun h31 A => N hX 64 A rfl rfl fun A => fork 185 A rfl
          (fun h33 A => N hX 33 A rfl rfl fun A => RETN hX A rfl rfl rfl h0 rfl rfl rfl rfl (by simp only [oneS, nb, nbL, nbH, rbare0, rbare1, rbare2, rbare3, rbare4, rbare5, rbare6, rbare7, rbare8, rbare9, rbare10, rbare11, rbare12, rbare13, rbare14, rbare15, rbare16, if_neg (h1), if_neg (h3), if_neg (h7), if_neg (h19), if_neg (h23), if_pos h29, if_pos h30, if_neg (ne_true_of_eq_false h31), if_pos h33]) rfl)
          (fun h33 A => N hX 12 A rfl rfl fun A => RETN hX A rfl rfl rfl h0 rfl rfl rfl rfl (by simp only [oneS, nb, nbL, nbH, rbare0, rbare1, rbare2, rbare3, rbare4, rbare5, rbare6, rbare7, rbare8, rbare9, rbare10, rbare11, rbare12, rbare13, rbare14, rbare15, rbare16, if_neg (h1), if_neg (h3), if_neg (h7), if_neg (h19), if_neg (h23), if_pos h29, if_pos h30, if_neg (ne_true_of_eq_false h31), if_neg (ne_true_of_eq_false h33)]) rfl)))
        (fun h30 A => N hX 69 A rfl rfl fun A => fork 185 A rfl
         (fun h34 A => N hX 33 A rfl rfl fun A => RETN hX A rfl rfl rfl h0 rfl rfl rfl rfl (by simp only [oneS, nb, nbL, nbH, rbare0, rbare1, rbare2, rbare3, rbare4, rbare5, rbare6, rbare7, rbare8, rbare9, rbare10, rbare11, rbare12, rbare13, rbare14, rbare15, rbare16, if_neg (h1), if_neg (h3), if_neg (h7), if_neg (h19), if_neg (h23), if_pos h29, if_neg (ne_true_of_eq_false h30), if_pos h34]) rfl)
         (fun h34 A => N hX 12 A rfl rfl fun A => RETN hX A rfl rfl rfl h0 rfl rfl rfl rfl (by simp only [oneS, nb, nbL, nbH, rbare0, rbare1, rbare2, rbare3, rbare4, rbare5, rbare6, rbare7, rbare8, rbare9, rbare10, rbare11, rbare12, rbare13, rbare14, rbare15, rbare16, if_neg (h1), if_neg (h3), if_neg (h7), if_neg (h19), if_neg (h23), if_pos h29, if_neg (ne_true_of_eq_false h30), if_neg (ne_true_of_eq_false h34)]) rfl)))
       (fun h29 A => N hX 7 A rfl rfl fun A => forkE 141 A rfl
        (fun h35 A => N hX 25 A rfl rfl fun A => N hX 29 A rfl rfl fun A => fork 185 A rfl
         (fun h36 A => N hX 33 A rfl rfl fun A => RETN hX A rfl rfl rfl h0 rfl rfl rfl rfl (by simp only [oneS, nb, nbL, nbH, rbare0, rbare1, rbare2, rbare3, rbare4, rbare5, rbare6, rbare7, rbare8, rbare9, rbare10, rbare11, rbare12, rbare13, rbare14, rbare15, rbare16, if_neg (h1), if_neg (h3), if_neg (h7), if_neg (h19), if_neg (h23), if_neg (h29), if_pos h35, if_pos h36]) rfl)
         (fun h36 A => N hX 12 A rfl rfl fun A => RETN hX A rfl rfl rfl h0 rfl rfl rfl rfl (by simp only [oneS, nb, nbL, nbH, rbare0, rbare1, rbare2, rbare3, rbare4, rbare5, rbare6, rbare7, rbare8, rbare9, rbare10, rbare11, rbare12, rbare13, rbare14, rbare15, rbare16, if_neg (h1), if_neg (h3), if_neg (h7), if_neg (h19), if_neg (h23), if_neg (h29), if_pos h35, if_neg (ne_true_of_eq_false h36)]) rfl))
        (fun h35 A => N hX 7 A rfl rfl fun A => forkE 163 A rfl
         (fun h37 A => N hX 22 A rfl rfl fun A => fork 185 A rfl
          (fun h38 A => N hX 33 A rfl rfl fun A => RETN hX A rfl rfl rfl h0 rfl rfl rfl rfl (by simp only [oneS, nb, nbL, nbH, rbare0, rbare1, rbare2, rbare3, rbare4, rbare5, rbare6, rbare7, rbare8, rbare9, rbare10, rbare11, rbare12, rbare13, rbare14, rbare15, rbare16, if_neg (h1), if_neg (h3), if_neg (h7), if_neg (h19), if_neg (h23), if_neg (h29), if_neg (h35), if_pos h37, if_pos h38]) rfl)
          (fun h38 A => N hX 12 A rfl rfl fun A => RETN hX A rfl rfl rfl h0 rfl rfl rfl rfl (by simp only [oneS, nb, nbL, nbH, rbare0, rbare1, rbare2, rbare3, rbare4, rbare5, rbare6, rbare7, rbare8, rbare9, rbare10, rbare11, rbare12, rbare13, rbare14, rbare15, rbare16, if_neg (h1), if_neg (h3), if_neg (h7), if_neg (h19), if_neg (h23), if_neg (h29), if_neg (h35), if_pos h37, if_neg (ne_true_of_eq_false h38)]) rfl))
         (fun h37 A => N hX 7 A rfl rfl fun A => forkE 165 A rfl
          (fun h39 A => N hX 5 A rfl rfl fun A => CALL1 [] (rreg_x i.ra) A rfl rfl rfl rfl rfl rfl rfl fun A => N hX 39 A rfl rfl fun A => fork 185 A rfl
           (fun h40 A => N hX 33 A rfl rfl fun A => RETN hX A rfl rfl rfl h0 rfl rfl rfl rfl (by simp only [oneS, nb, nbL, nbH, rbare0, rbare1, rbare2, rbare3, rbare4, rbare5, rbare6, rbare7, rbare8, rbare9, rbare10, rbare11, rbare12, rbare13, rbare14, rbare15, rbare16, if_neg (h1), if_neg (h3), if_neg (h7), if_neg (h19), if_neg (h23), if_neg (h29), if_neg (h35), if_neg (h37), if_pos h39, if_pos h40]) rfl)
           (fun h40 A => N hX 12 A rfl rfl fun A => RETN hX A rfl rfl rfl h0 rfl rfl rfl rfl (by simp only [oneS, nb, nbL, nbH, rbare0, rbare1, rbare2, rbare3, rbare4, rbare5, rbare6, rbare7, rbare8, rbare9, rbare10, rbare11, rbare12, rbare13, rbare14, rbare15, rbare16, if_neg (h1), if_neg (h3), if_neg (h7), if_neg (h19), if_neg (h23), if_neg (h29), if_neg (h35), if_neg (h37), if_pos h39, if_neg (ne_true_of_eq_false h40)]) rfl))
          (fun h39 A => N hX 24 A rfl rfl fun A => fork 185 A rfl
           (fun h41 A => N hX 33 A rfl rfl fun A => RETN hX A rfl rfl rfl h0 rfl rfl rfl rfl (by simp only [oneS, nb, nbL, nbH, rbare0, rbare1, rbare2, rbare3, rbare4, rbare5, rbare6, rbare7, rbare8, rbare9, rbare10, rbare11, rbare12, rbare13, rbare14, rbare15, rbare16, if_neg (h1), if_neg (h3), if_neg (h7), if_neg (h19), if_neg (h23), if_neg (h29), if_neg (h35), if_neg (h37), if_neg (h39), if_pos h41]) rfl)
           (fun h41 A => N hX 12 A rfl rfl fun A => RETN hX A rfl rfl rfl h0 rfl rfl rfl rfl (by simp only [oneS, nb, nbL, nbH, rbare0, rbare1, rbare2, rbare3, rbare4, rbare5, rbare6, rbare7, rbare8, rbare9, rbare10, rbare11, rbare12, rbare13, rbare14, rbare15, rbare16, if_neg (h1), if_neg (h3), if_neg (h7), if_neg (h19), if_neg (h23), if_neg (h29), if_neg (h35), if_neg (h37), if_neg (h39), if_neg (ne_true_of_eq_false h41)]) rfl))))))))))
def rright0 (i : In) (p : Int) (n : Int) : Int := if ((!(rbare16 i)) || (!((((0 : Int) == 0) && (((rbare0 i) == (-1)) && (((rbare1 i) == (-1)) && (((rbare2 i) == (-1)) && (((rbare3 i) == 0) && (((rbare4 i) == 0) && (((rbare5 i) == 0) && (((rbare6 i) == (-1)) && (((rbare7 i) == 0) && (((rbare8 i) == 0) && (((rbare9 i) == false) && (((rbare10 i) == false) && (((rbare11 i) == false) && (((rbare12 i) == 0) && (((rbare13 i) == 0) && (((rbare14 i) == 0) && ((rbare15 i) == false)))))))))))))))))))) = true then 34 else if ((i.op == 9) && ((decide (i.to_ ≤ p)) || (decide (i.to_ > n)))) = true then 35 else 0
theorem rright_ (i : In) (p : Int) (n : Int)  : Fn Tryz.prog 37 [.agg (inQ9 i), .int .i64 p, .int .i64 n] [] (Rt (.int .i64 (rright0 i p n)) []) :=
 enterM (n := 36) (by kernel_rfl) Tryz.func37 rfl rfl rfl fun G w a h0 A => N hX 9 A rfl rfl fun A => CALL1 [] (rbare_ i) A rfl rfl rfl rfl rfl rfl rfl fun A => N hX 20 A rfl rfl fun A => fork 20 A rfl
  (fun h1 A => N hX 7 A rfl rfl fun A => RETN hX A rfl rfl rfl h0 rfl rfl rfl rfl (by simp only [oneS, nb, nbL, nbH, rright0, if_pos h1]) rfl)
  (fun h1 A => N hX 23 A rfl rfl fun A => fork 35 A rfl
   (fun h2 A => N hX 7 A rfl rfl fun A => RETN hX A rfl rfl rfl h0 rfl rfl rfl rfl (by simp only [oneS, nb, nbL, nbH, rright0, if_neg (ne_true_of_eq_false h1), if_pos h2]) rfl)
   (fun h2 A => N hX 9 A rfl rfl fun A => RETN hX A rfl rfl rfl h0 rfl rfl rfl rfl (by simp only [oneS, nb, nbL, nbH, rright0, if_neg (ne_true_of_eq_false h1), if_neg (ne_true_of_eq_false h2)]) rfl))
end Go.Proofs.YtedlaclfhgneeaaGreatDoor
/- The reference's right instructions are those of the theory. -/
namespace Go.Proofs.YtedlaclfhgneeaaGreatDoor
open Go.RowKit
set_option linter.unusedVariables false
set_option linter.unusedSimpArgs false
theorem place_o (i : In) : rplace0 i = Old.accB (toO i) := by
  have hm := mkF_o i.off i.sz
  unfold rplace0 Old.accB Old.ronB Old.regB toO
  simp only []
  rw [← hm]
  by_cases h1 : i.loc ≥ 0 <;> by_cases h2 : i.loc < 3 <;> by_cases h3 : i.ix = -1 <;> by_cases h4 : mkF i.off i.sz = 0 <;> first | (simp [h1, h2, h3, h4]; done) | (rw [Bool.eq_iff_iff]; simp [h1, h2, h3, h4])
theorem bare_1 (i : In) (h : i.op = 1) : (rbare16 i && (((0 : Int) == 0) && (((rbare0 i) == (-1)) && (((rbare1 i) == (-1)) && (((rbare2 i) == (-1)) && (((rbare3 i) == 0) && (((rbare4 i) == 0) && (((rbare5 i) == 0) && (((rbare6 i) == (-1)) && (((rbare7 i) == 0) && (((rbare8 i) == 0) && (((rbare9 i) == false) && (((rbare10 i) == false) && (((rbare11 i) == false) && (((rbare12 i) == 0) && (((rbare13 i) == 0) && (((rbare14 i) == 0) && ((rbare15 i) == false)))))))))))))))))) = (Old.insEq (toO i) (Old.plainF (toO i)) && Old.soundB (toO i)) := by
  have hp := place_o i
  generalize hq : Old.accB (toO i) = ab at hp
  unfold toO at hq
  rw [Bool.eq_iff_iff]
  simp [h, hp, hq, rbare0, rbare1, rbare2, rbare3, rbare4, rbare5, rbare6, rbare7, rbare8, rbare9, rbare10, rbare11, rbare12, rbare13, rbare14, rbare15, rbare16, Old.insEq, Old.plainF, Old.soundB, Old.opB, Old.rdB, Old.wrB, Old.regB, Old.immF, Old.ronB, Old.fenB, toO]
  try grind
theorem bare_2 (i : In) (h : i.op = 2) : (rbare16 i && (((0 : Int) == 0) && (((rbare0 i) == (-1)) && (((rbare1 i) == (-1)) && (((rbare2 i) == (-1)) && (((rbare3 i) == 0) && (((rbare4 i) == 0) && (((rbare5 i) == 0) && (((rbare6 i) == (-1)) && (((rbare7 i) == 0) && (((rbare8 i) == 0) && (((rbare9 i) == false) && (((rbare10 i) == false) && (((rbare11 i) == false) && (((rbare12 i) == 0) && (((rbare13 i) == 0) && (((rbare14 i) == 0) && ((rbare15 i) == false)))))))))))))))))) = (Old.insEq (toO i) (Old.plainF (toO i)) && Old.soundB (toO i)) := by
  have hp := place_o i
  generalize hq : Old.accB (toO i) = ab at hp
  unfold toO at hq
  rw [Bool.eq_iff_iff]
  simp [h, hp, hq, rbare0, rbare1, rbare2, rbare3, rbare4, rbare5, rbare6, rbare7, rbare8, rbare9, rbare10, rbare11, rbare12, rbare13, rbare14, rbare15, rbare16, Old.insEq, Old.plainF, Old.soundB, Old.opB, Old.rdB, Old.wrB, Old.regB, Old.immF, Old.ronB, Old.fenB, toO]
  try grind
theorem bare_3 (i : In) (h : i.op = 3) : (rbare16 i && (((0 : Int) == 0) && (((rbare0 i) == (-1)) && (((rbare1 i) == (-1)) && (((rbare2 i) == (-1)) && (((rbare3 i) == 0) && (((rbare4 i) == 0) && (((rbare5 i) == 0) && (((rbare6 i) == (-1)) && (((rbare7 i) == 0) && (((rbare8 i) == 0) && (((rbare9 i) == false) && (((rbare10 i) == false) && (((rbare11 i) == false) && (((rbare12 i) == 0) && (((rbare13 i) == 0) && (((rbare14 i) == 0) && ((rbare15 i) == false)))))))))))))))))) = (Old.insEq (toO i) (Old.plainF (toO i)) && Old.soundB (toO i)) := by
  have hp := place_o i
  generalize hq : Old.accB (toO i) = ab at hp
  unfold toO at hq
  rw [Bool.eq_iff_iff]
  simp [h, hp, hq, rbare0, rbare1, rbare2, rbare3, rbare4, rbare5, rbare6, rbare7, rbare8, rbare9, rbare10, rbare11, rbare12, rbare13, rbare14, rbare15, rbare16, Old.insEq, Old.plainF, Old.soundB, Old.opB, Old.rdB, Old.wrB, Old.regB, Old.immF, Old.ronB, Old.fenB, toO]
  try grind
theorem bare_4 (i : In) (h : i.op = 4) : (rbare16 i && (((0 : Int) == 0) && (((rbare0 i) == (-1)) && (((rbare1 i) == (-1)) && (((rbare2 i) == (-1)) && (((rbare3 i) == 0) && (((rbare4 i) == 0) && (((rbare5 i) == 0) && (((rbare6 i) == (-1)) && (((rbare7 i) == 0) && (((rbare8 i) == 0) && (((rbare9 i) == false) && (((rbare10 i) == false) && (((rbare11 i) == false) && (((rbare12 i) == 0) && (((rbare13 i) == 0) && (((rbare14 i) == 0) && ((rbare15 i) == false)))))))))))))))))) = (Old.insEq (toO i) (Old.plainF (toO i)) && Old.soundB (toO i)) := by
  have hp := place_o i
  generalize hq : Old.accB (toO i) = ab at hp
  unfold toO at hq
  rw [Bool.eq_iff_iff]
  simp [h, hp, hq, rbare0, rbare1, rbare2, rbare3, rbare4, rbare5, rbare6, rbare7, rbare8, rbare9, rbare10, rbare11, rbare12, rbare13, rbare14, rbare15, rbare16, Old.insEq, Old.plainF, Old.soundB, Old.opB, Old.rdB, Old.wrB, Old.regB, Old.immF, Old.ronB, Old.fenB, toO]
  try grind
theorem bare_5 (i : In) (h : i.op = 5) : (rbare16 i && (((0 : Int) == 0) && (((rbare0 i) == (-1)) && (((rbare1 i) == (-1)) && (((rbare2 i) == (-1)) && (((rbare3 i) == 0) && (((rbare4 i) == 0) && (((rbare5 i) == 0) && (((rbare6 i) == (-1)) && (((rbare7 i) == 0) && (((rbare8 i) == 0) && (((rbare9 i) == false) && (((rbare10 i) == false) && (((rbare11 i) == false) && (((rbare12 i) == 0) && (((rbare13 i) == 0) && (((rbare14 i) == 0) && ((rbare15 i) == false)))))))))))))))))) = (Old.insEq (toO i) (Old.plainF (toO i)) && Old.soundB (toO i)) := by
  have hp := place_o i
  generalize hq : Old.accB (toO i) = ab at hp
  unfold toO at hq
  rw [Bool.eq_iff_iff]
  simp [h, hp, hq, rbare0, rbare1, rbare2, rbare3, rbare4, rbare5, rbare6, rbare7, rbare8, rbare9, rbare10, rbare11, rbare12, rbare13, rbare14, rbare15, rbare16, Old.insEq, Old.plainF, Old.soundB, Old.opB, Old.rdB, Old.wrB, Old.regB, Old.immF, Old.ronB, Old.fenB, toO]
  try grind
theorem bare_6 (i : In) (h : i.op = 6) : (rbare16 i && (((0 : Int) == 0) && (((rbare0 i) == (-1)) && (((rbare1 i) == (-1)) && (((rbare2 i) == (-1)) && (((rbare3 i) == 0) && (((rbare4 i) == 0) && (((rbare5 i) == 0) && (((rbare6 i) == (-1)) && (((rbare7 i) == 0) && (((rbare8 i) == 0) && (((rbare9 i) == false) && (((rbare10 i) == false) && (((rbare11 i) == false) && (((rbare12 i) == 0) && (((rbare13 i) == 0) && (((rbare14 i) == 0) && ((rbare15 i) == false)))))))))))))))))) = (Old.insEq (toO i) (Old.plainF (toO i)) && Old.soundB (toO i)) := by
  have hp := place_o i
  generalize hq : Old.accB (toO i) = ab at hp
  unfold toO at hq
  rw [Bool.eq_iff_iff]
  simp [h, hp, hq, rbare0, rbare1, rbare2, rbare3, rbare4, rbare5, rbare6, rbare7, rbare8, rbare9, rbare10, rbare11, rbare12, rbare13, rbare14, rbare15, rbare16, Old.insEq, Old.plainF, Old.soundB, Old.opB, Old.rdB, Old.wrB, Old.regB, Old.immF, Old.ronB, Old.fenB, toO]
  try grind
theorem bare_7 (i : In) (h : i.op = 7) : (rbare16 i && (((0 : Int) == 0) && (((rbare0 i) == (-1)) && (((rbare1 i) == (-1)) && (((rbare2 i) == (-1)) && (((rbare3 i) == 0) && (((rbare4 i) == 0) && (((rbare5 i) == 0) && (((rbare6 i) == (-1)) && (((rbare7 i) == 0) && (((rbare8 i) == 0) && (((rbare9 i) == false) && (((rbare10 i) == false) && (((rbare11 i) == false) && (((rbare12 i) == 0) && (((rbare13 i) == 0) && (((rbare14 i) == 0) && ((rbare15 i) == false)))))))))))))))))) = (Old.insEq (toO i) (Old.plainF (toO i)) && Old.soundB (toO i)) := by
  have hp := place_o i
  generalize hq : Old.accB (toO i) = ab at hp
  unfold toO at hq
  rw [Bool.eq_iff_iff]
  simp [h, hp, hq, rbare0, rbare1, rbare2, rbare3, rbare4, rbare5, rbare6, rbare7, rbare8, rbare9, rbare10, rbare11, rbare12, rbare13, rbare14, rbare15, rbare16, Old.insEq, Old.plainF, Old.soundB, Old.opB, Old.rdB, Old.wrB, Old.regB, Old.immF, Old.ronB, Old.fenB, toO]
  try grind
theorem bare_8 (i : In) (h : i.op = 8) : (rbare16 i && (((0 : Int) == 0) && (((rbare0 i) == (-1)) && (((rbare1 i) == (-1)) && (((rbare2 i) == (-1)) && (((rbare3 i) == 0) && (((rbare4 i) == 0) && (((rbare5 i) == 0) && (((rbare6 i) == (-1)) && (((rbare7 i) == 0) && (((rbare8 i) == 0) && (((rbare9 i) == false) && (((rbare10 i) == false) && (((rbare11 i) == false) && (((rbare12 i) == 0) && (((rbare13 i) == 0) && (((rbare14 i) == 0) && ((rbare15 i) == false)))))))))))))))))) = (Old.insEq (toO i) (Old.plainF (toO i)) && Old.soundB (toO i)) := by
  have hp := place_o i
  generalize hq : Old.accB (toO i) = ab at hp
  unfold toO at hq
  rw [Bool.eq_iff_iff]
  simp [h, hp, hq, rbare0, rbare1, rbare2, rbare3, rbare4, rbare5, rbare6, rbare7, rbare8, rbare9, rbare10, rbare11, rbare12, rbare13, rbare14, rbare15, rbare16, Old.insEq, Old.plainF, Old.soundB, Old.opB, Old.rdB, Old.wrB, Old.regB, Old.immF, Old.ronB, Old.fenB, toO]
  try grind
theorem bare_9 (i : In) (h : i.op = 9) : (rbare16 i && (((0 : Int) == 0) && (((rbare0 i) == (-1)) && (((rbare1 i) == (-1)) && (((rbare2 i) == (-1)) && (((rbare3 i) == 0) && (((rbare4 i) == 0) && (((rbare5 i) == 0) && (((rbare6 i) == (-1)) && (((rbare7 i) == 0) && (((rbare8 i) == 0) && (((rbare9 i) == false) && (((rbare10 i) == false) && (((rbare11 i) == false) && (((rbare12 i) == 0) && (((rbare13 i) == 0) && (((rbare14 i) == 0) && ((rbare15 i) == false)))))))))))))))))) = (Old.insEq (toO i) (Old.plainF (toO i)) && Old.soundB (toO i)) := by
  have hp := place_o i
  generalize hq : Old.accB (toO i) = ab at hp
  unfold toO at hq
  rw [Bool.eq_iff_iff]
  simp [h, hp, hq, rbare0, rbare1, rbare2, rbare3, rbare4, rbare5, rbare6, rbare7, rbare8, rbare9, rbare10, rbare11, rbare12, rbare13, rbare14, rbare15, rbare16, Old.insEq, Old.plainF, Old.soundB, Old.opB, Old.rdB, Old.wrB, Old.regB, Old.immF, Old.ronB, Old.fenB, toO]
  try grind
theorem bare_0 (i : In) (h1 : ¬ i.op = 1) (h2 : ¬ i.op = 2) (h3 : ¬ i.op = 3) (h4 : ¬ i.op = 4) (h5 : ¬ i.op = 5) (h6 : ¬ i.op = 6) (h7 : ¬ i.op = 7) (h8 : ¬ i.op = 8) (h9 : ¬ i.op = 9) : (rbare16 i && (((0 : Int) == 0) && (((rbare0 i) == (-1)) && (((rbare1 i) == (-1)) && (((rbare2 i) == (-1)) && (((rbare3 i) == 0) && (((rbare4 i) == 0) && (((rbare5 i) == 0) && (((rbare6 i) == (-1)) && (((rbare7 i) == 0) && (((rbare8 i) == 0) && (((rbare9 i) == false) && (((rbare10 i) == false) && (((rbare11 i) == false) && (((rbare12 i) == 0) && (((rbare13 i) == 0) && (((rbare14 i) == 0) && ((rbare15 i) == false)))))))))))))))))) = (Old.insEq (toO i) (Old.plainF (toO i)) && Old.soundB (toO i)) := by
  rw [show rbare16 i = false by simp [rbare16, h1, h2, h3, h4, h5, h6, h7, h8, h9], show Old.soundB (toO i) = false by simp [Old.soundB, toO, h1, h2, h3, h4, h5, h6, h7, h8, h9], Bool.and_false, Bool.false_and]
theorem bare_o (i : In) : (rbare16 i && (((0 : Int) == 0) && (((rbare0 i) == (-1)) && (((rbare1 i) == (-1)) && (((rbare2 i) == (-1)) && (((rbare3 i) == 0) && (((rbare4 i) == 0) && (((rbare5 i) == 0) && (((rbare6 i) == (-1)) && (((rbare7 i) == 0) && (((rbare8 i) == 0) && (((rbare9 i) == false) && (((rbare10 i) == false) && (((rbare11 i) == false) && (((rbare12 i) == 0) && (((rbare13 i) == 0) && (((rbare14 i) == 0) && ((rbare15 i) == false)))))))))))))))))) = (Old.insEq (toO i) (Old.plainF (toO i)) && Old.soundB (toO i)) := by
  by_cases h1 : i.op = 1
  · exact bare_1 i h1
  by_cases h2 : i.op = 2
  · exact bare_2 i h2
  by_cases h3 : i.op = 3
  · exact bare_3 i h3
  by_cases h4 : i.op = 4
  · exact bare_4 i h4
  by_cases h5 : i.op = 5
  · exact bare_5 i h5
  by_cases h6 : i.op = 6
  · exact bare_6 i h6
  by_cases h7 : i.op = 7
  · exact bare_7 i h7
  by_cases h8 : i.op = 8
  · exact bare_8 i h8
  by_cases h9 : i.op = 9
  · exact bare_9 i h9
  exact bare_0 i h1 h2 h3 h4 h5 h6 h7 h8 h9
theorem rright_o (i : In) (p n : Int) : rright0 i p n = Old.rightR (toO i) p n := by
  unfold rright0 Old.rightR
  rw [← Bool.not_and, bare_o]
  cases (Old.insEq (toO i) (Old.plainF (toO i)) && Old.soundB (toO i)) <;> rfl
end Go.Proofs.YtedlaclfhgneeaaGreatDoor
/- The reference's kinds of bytes, runs. -/
namespace Go.Proofs.YtedlaclfhgneeaaGreatDoor
open Go.RowKit
set_option linter.unusedVariables false
set_option linter.unusedSimpArgs false
set_option maxRecDepth 100000
set_option maxHeartbeats 2000000
set_option simprocs false
theorem rdigit_ (c : Int)  : Fn Tryz.prog 131 [.int .u8 c] [] (Rt (.bool ((decide (c ≥ 48)) && (decide (c ≤ 57)))) []) :=
 enterM (n := 9) (by kernel_rfl) Tryz.func131 rfl rfl rfl fun G w a h0 A => N hX 17 A rfl rfl fun A => RETN hX A rfl rfl rfl h0 rfl rfl rfl rfl rfl rfl
theorem rdigit_b (b : UInt8) : Fn Tryz.prog 131 [.int .u8 ((b.toNat : Nat) : Int)] [] (Rt (.bool (digB b)) []) := fn_asX (rdigit_ ((b.toNat : Nat) : Int)) (as_bool (by set_option simprocs true in (rw [Bool.eq_iff_iff]; simp [digB, letB]; try omega)))
theorem rletter_ (c : Int)  : Fn Tryz.prog 134 [.int .u8 c] [] (Rt (.bool (((decide (c ≥ 97)) && (decide (c ≤ 122))) || ((decide (c ≥ 65)) && (decide (c ≤ 90))))) []) :=
 enterM (n := 17) (by kernel_rfl) Tryz.func134 rfl rfl rfl fun G w a h0 A => N hX 25 A rfl rfl fun A => RETN hX A rfl rfl rfl h0 rfl rfl rfl rfl rfl rfl
theorem rletter_b (b : UInt8) : Fn Tryz.prog 134 [.int .u8 ((b.toNat : Nat) : Int)] [] (Rt (.bool (letB b)) []) := fn_asX (rletter_ ((b.toNat : Nat) : Int)) (as_bool (by set_option simprocs true in (rw [Bool.eq_iff_iff]; simp [digB, letB]; try omega)))
structure RI (p : UInt8 → Bool) (l : List UInt8) (s0 k : Nat) : Prop where
  lo : s0 ≤ k
  le : k ≤ l.length
  eq : k + rn p (l.drop k) = s0 + rn p (l.drop s0)
section
variable {p : UInt8 → Bool} {l : List UInt8} {s0 k : Nat}
theorem RI.i0 (h : s0 ≤ l.length) : RI p l s0 s0 := ⟨Nat.le_refl _, h, rfl⟩
theorem RI.nx (hI : RI p l s0 k) (h1 : (k : Int) < (l.length : Int)) (h2 : p (l.getD ((k : Int)).toNat 0) = true) : RI p l s0 (k + 1) := by
  have := rn_go (at_of h1) h2; have := hI.lo; have := hI.eq
  exact ⟨by omega, by omega, by omega⟩
theorem RI.fi (hI : RI p l s0 k) (h1 : ¬ (k : Int) < (l.length : Int)) : (k : Int) = (((s0 + rn p (l.drop s0) : Nat)) : Int) := by
  have := rn_end (p := p) (l := l) (n := k) (by omega); have := hI.eq; omega
theorem RI.st (hI : RI p l s0 k) (h1 : (k : Int) < (l.length : Int)) (h2 : p (l.getD ((k : Int)).toNat 0) = false) : (k : Int) = (((s0 + rn p (l.drop s0) : Nat)) : Int) := by
  have := rn_stop (at_of h1) h2; have := hI.eq; omega
end
section
variable {b : UInt8}
theorem nam_l (h : letB b = true) : namB b = true := by simp [namB, nbgB, h]
theorem num_l (h : letB b = true) : numB b = true := by simp [numB, h]
theorem nam_is (h2 : letB b = false) : namB b = ((digB b) || ((((b.toNat : Nat) : Int) == 95) || (((b.toNat : Nat) : Int) == 46))) := by
  unfold namB nbgB
  rw [h2, Bool.false_or, show (((b.toNat : Nat) : Int) == 95) = (b.toNat == 95) by rw [Bool.eq_iff_iff]; simp only [beq_iff_eq]; omega, show (((b.toNat : Nat) : Int) == 46) = (b.toNat == 46) by rw [Bool.eq_iff_iff]; simp only [beq_iff_eq]; omega]
  cases digB b <;> cases (b.toNat == 95) <;> cases (b.toNat == 46) <;> rfl
theorem num_is (h2 : letB b = false) : numB b = (bif digB b then true else false) := by
  unfold numB; rw [h2]; cases digB b <;> rfl
end
structure MKR (b : UInt8) (k : Nat) : Prop where
  le : k ≤ 22
  no : ∀ j, j < k → marksL.getD j 0 ≠ b
section
variable {b : UInt8} {k : Nat}
theorem MKR.i0 : MKR b 0 := ⟨by omega, fun j h => by omega⟩
theorem MKR.nx (hI : MKR b k) (h1 : (k : Int) < 22) (h : ¬ marksL.getD ((k : Int)).toNat 0 = b) : MKR b (k + 1) := by
  refine ⟨by omega, fun j hj => ?_⟩
  by_cases e : j = k
  · subst e; exact h
  · exact hI.no j (by omega)
theorem MKR.fi (hI : MKR b k) (h1 : ¬ (k : Int) < 22) : mrkB b = false := by
  have hk := hI.le
  unfold mrkB
  cases hc : marksL.contains b
  · rfl
  · have hm : b ∈ marksL := by simpa using hc
    obtain ⟨j, hj, e⟩ := List.getElem_of_mem hm
    have hl : marksL.length = 22 := rfl
    exact absurd (by rw [List.getD_eq_getElem?_getD, List.getElem?_eq_getElem hj]; exact e) (hI.no j (by omega))
theorem mk_hit (h1 : (k : Int) < 22) (h : marksL.getD ((k : Int)).toNat 0 = b) : mrkB b = true := by
  have hl : marksL.length = 22 := rfl
  have hk : k < marksL.length := by omega
  unfold mrkB
  rw [List.contains_iff_mem, ← h, List.getD_eq_getElem?_getD, Int.toNat_natCast, List.getElem?_eq_getElem hk]
  exact List.getElem_mem hk
theorem u8_eq {x y : UInt8} (h : ((x.toNat : Nat) : Int) = ((y.toNat : Nat) : Int)) : x = y := UInt8.toNat_inj.1 (by omega)
theorem u8_ne {x y : UInt8} (h : ((x.toNat : Nat) : Int) ≠ ((y.toNat : Nat) : Int)) : ¬ x = y := fun e => h (by rw [e])
end
theorem rrun_nam (l : List UInt8) (s0 : Nat) (ha : s0 ≤ l.length) (hl : l.length ≤ 8192) : Fn Tryz.prog 132 [.str l, .int .i64 (s0 : Int), .tt] [] (Rt (.int .i64 (((s0 + rn namB (l.drop s0) : Nat)) : Int)) []) :=
 enterM (n := 41) (by kernel_rfl) Tryz.func132 rfl rfl rfl fun G w a h0 A => N hX 7 A rfl rfl fun A => LOOP1 (fun (k : Nat) => [(0, .str l), (1, .int .i64 (k : Int)), (2, .tt), (6, .int .i64 0)]) (fun (k : Nat) => []) (fun (k : Nat) => RI namB l s0 k) (fun (k : Nat) => l.length - k) s0 (RI.i0 ha) ((A.cut [0, 1, 2, 6] rfl).trunc 0 rfl rfl rfl (by simp only [List.length_cons, List.length_nil] at h0; omega)) fun k hI {G a w} A => N hX 8 A rfl rfl fun A => forkD 11 A rfl
   (fun h1 A => N hX 3 A rfl (ok_d (by have := hI.lo; omega) <| okE_nil) fun A => CALL1 [] (rletter_b (l.getD ((k : Int)).toNat 0)) A rfl rfl rfl rfl rfl rfl rfl fun A => N hX 1 A rfl rfl fun A => fork 16 A rfl
    (fun h2 A => N hX 33 A rfl (ok_d (by have := hI.lo; omega) <| okE_nil) fun A => ⟨k + 1, _, (by omega), (hI.nx h1 (nam_l h2)), ((A.cut [0, 1, 2, 6] rfl).trunc 0 rfl rfl rfl (by simp only [List.length_cons, List.length_nil] at h0; omega))⟩)
    (fun h2 A => N hX 3 A rfl (ok_d (by have := hI.lo; omega) <| okE_nil) fun A => CALL1 [] (rdigit_b (l.getD ((k : Int)).toNat 0)) A rfl rfl rfl rfl rfl rfl rfl fun A => N hX 19 A rfl (ok_r <| ok_r <| ok_r <| ok_g (fun hg => (by have := hI.lo; omega)) <| ok_r <| ok_r <| ok_r <| ok_r <| ok_g (fun hg => (by have := hI.lo; omega)) <| ok_r <| ok_r <| ok_r <| ok_r <| ok_r <| ok_r <| okE_nil) fun A => fork 37 A rfl
     (fun h3 A => N hX 10 A rfl (ok_d (by have := hI.lo; omega) <| okE_nil) fun A => ⟨k + 1, _, (by omega), (hI.nx h1 (by rw [nam_is h2]; exact h3)), ((A.cut [0, 1, 2, 6] rfl).trunc 0 rfl rfl rfl (by simp only [List.length_cons, List.length_nil] at h0; omega))⟩)
     (fun h3 A => N hX 10 A rfl rfl fun A => RETN hX A rfl rfl rfl h0 rfl rfl rfl rfl (by rw [← hI.st h1 (by rw [nam_is h2]; exact h3)]; rfl) rfl)))
   (fun h1 A => N hX 38 A rfl rfl fun A => RETN hX A rfl rfl rfl h0 rfl rfl rfl rfl (by rw [← hI.fi h1]; rfl) rfl)
theorem rrun_num (l : List UInt8) (s0 : Nat) (ha : s0 ≤ l.length) (hl : l.length ≤ 8192) : Fn Tryz.prog 132 [.str l, .int .i64 (s0 : Int), .ff] [] (Rt (.int .i64 (((s0 + rn numB (l.drop s0) : Nat)) : Int)) []) :=
 enterM (n := 41) (by kernel_rfl) Tryz.func132 rfl rfl rfl fun G w a h0 A => N hX 7 A rfl rfl fun A => LOOP1 (fun (k : Nat) => [(0, .str l), (1, .int .i64 (k : Int)), (2, .ff), (6, .int .i64 0)]) (fun (k : Nat) => []) (fun (k : Nat) => RI numB l s0 k) (fun (k : Nat) => l.length - k) s0 (RI.i0 ha) ((A.cut [0, 1, 2, 6] rfl).trunc 0 rfl rfl rfl (by simp only [List.length_cons, List.length_nil] at h0; omega)) fun k hI {G a w} A => N hX 8 A rfl rfl fun A => forkD 11 A rfl
   (fun h1 A => N hX 3 A rfl (ok_d (by have := hI.lo; omega) <| okE_nil) fun A => CALL1 [] (rletter_b (l.getD ((k : Int)).toNat 0)) A rfl rfl rfl rfl rfl rfl rfl fun A => N hX 1 A rfl rfl fun A => fork 16 A rfl
    (fun h2 A => N hX 33 A rfl (ok_d (by have := hI.lo; omega) <| okE_nil) fun A => ⟨k + 1, _, (by omega), (hI.nx h1 (num_l h2)), ((A.cut [0, 1, 2, 6] rfl).trunc 0 rfl rfl rfl (by simp only [List.length_cons, List.length_nil] at h0; omega))⟩)
    (fun h2 A => N hX 3 A rfl (ok_d (by have := hI.lo; omega) <| okE_nil) fun A => CALL1 [] (rdigit_b (l.getD ((k : Int)).toNat 0)) A rfl rfl rfl rfl rfl rfl rfl fun A => N hX 19 A rfl rfl fun A => fork 37 A rfl
     (fun h3 A => N hX 10 A rfl (ok_d (by have := hI.lo; omega) <| okE_nil) fun A => ⟨k + 1, _, (by omega), (hI.nx h1 (by rw [num_is h2]; exact h3)), ((A.cut [0, 1, 2, 6] rfl).trunc 0 rfl rfl rfl (by simp only [List.length_cons, List.length_nil] at h0; omega))⟩)
     (fun h3 A => N hX 10 A rfl rfl fun A => RETN hX A rfl rfl rfl h0 rfl rfl rfl rfl (by rw [← hI.st h1 (by rw [num_is h2]; exact h3)]; rfl) rfl)))
   (fun h1 A => N hX 38 A rfl rfl fun A => RETN hX A rfl rfl rfl h0 rfl rfl rfl rfl (by rw [← hI.fi h1]; rfl) rfl)
theorem rmark_b (b : UInt8)  : Fn Tryz.prog 135 [.int .u8 ((b.toNat : Nat) : Int)] [] (Rt (.bool (mrkB b)) []) :=
 enterM (n := 12) (by kernel_rfl) Tryz.func135 rfl rfl rfl fun G w a h0 A => N hX 12 A rfl rfl fun A => LOOP1 (fun (k : Nat) => [(0, .int .u8 ((b.toNat : Nat) : Int)), (2, .ff), (3, .int .i64 (k : Int))]) (fun (k : Nat) => []) (fun (k : Nat) => MKR b k) (fun (k : Nat) => 22 - k) 0 MKR.i0 ((A.cut [0, 2, 3] rfl).trunc 0 rfl rfl rfl (by simp only [List.length_cons, List.length_nil] at h0; omega)) fun k hI {G a w} A => N hX 7 A rfl rfl fun A => forkD 5 A rfl
   (fun h1 A => N hX 13 A rfl (ok_d (by have := hI.le; (try simp only [List.length_cons, List.length_nil]); omega) <| okE_nil) fun A => forkE 11 A rfl
    (fun h2 A => N hX 7 A rfl rfl fun A => RETN hX A rfl rfl rfl h0 rfl rfl rfl rfl (by rw [mk_hit h1 (u8_eq h2)]; rfl) rfl)
    (fun h2 A => N hX 9 A rfl (ok_d (by have := hI.le; (try simp only [List.length_cons, List.length_nil]); omega) <| okE_nil) fun A => ⟨k + 1, _, (by omega), (hI.nx h1 (u8_ne h2)), ((A.cut [0, 2, 3] rfl).trunc 0 rfl rfl rfl (by simp only [List.length_cons, List.length_nil] at h0; omega))⟩))
   (fun h1 A => N hX 9 A rfl rfl fun A => RETN hX A rfl rfl rfl h0 rfl rfl rfl rfl (by rw [hI.fi h1]; rfl) rfl)
end Go.Proofs.YtedlaclfhgneeaaGreatDoor
/- Hexadecimal digits; a number's value as the reference reckons it. -/
namespace Go.Proofs.YtedlaclfhgneeaaGreatDoor
set_option linter.unusedVariables false
theorem low_facts (b : UInt8) : (65 ≤ b.toNat ∧ b.toNat ≤ 90 → lwcB b = b.toNat + 32) ∧ (97 ≤ b.toNat ∧ b.toNat ≤ 122 → lwcB b = b.toNat) ∧ (97 ≤ lwcB b ∧ lwcB b ≤ 122 → (65 ≤ b.toNat ∧ b.toNat ≤ 90) ∨ (97 ≤ b.toNat ∧ b.toNat ≤ 122)) := by
  have : ∀ i : Fin 256, (65 ≤ (UInt8.ofNat i.val).toNat ∧ (UInt8.ofNat i.val).toNat ≤ 90 → lwcB (UInt8.ofNat i.val) = (UInt8.ofNat i.val).toNat + 32) ∧ (97 ≤ (UInt8.ofNat i.val).toNat ∧ (UInt8.ofNat i.val).toNat ≤ 122 → lwcB (UInt8.ofNat i.val) = (UInt8.ofNat i.val).toNat) ∧ (97 ≤ lwcB (UInt8.ofNat i.val) ∧ lwcB (UInt8.ofNat i.val) ≤ 122 → (65 ≤ (UInt8.ofNat i.val).toNat ∧ (UInt8.ofNat i.val).toNat ≤ 90) ∨ (97 ≤ (UInt8.ofNat i.val).toNat ∧ (UInt8.ofNat i.val).toNat ≤ 122)) := by decide +kernel
  have h := this ⟨b.toNat, b.toNat_lt⟩
  simpa only [UInt8.ofNat_toNat] using h
def hxI (b : UInt8) : Int := if dv b < 16 then ((dv b : Nat) : Int) else -1
theorem hx_dig {b : UInt8} (h1 : 48 ≤ b.toNat) (h2 : b.toNat ≤ 57) : hxI b = ((b.toNat : Nat) : Int) - 48 := by
  have := dv_dig h1 h2
  unfold hxI; rw [if_pos (by omega)]; omega
theorem hx_low {b : UInt8} (h1 : 97 ≤ b.toNat) (h2 : b.toNat ≤ 102) : hxI b = ((b.toNat : Nat) : Int) - 97 + 10 := by
  have h := (low_facts b).2.1 (by omega)
  have := dv_let (b := b) (by omega) (by omega) (by omega)
  unfold hxI; rw [if_pos (by omega)]; omega
theorem hx_up {b : UInt8} (h1 : 65 ≤ b.toNat) (h2 : b.toNat ≤ 70) : hxI b = ((b.toNat : Nat) : Int) - 65 + 10 := by
  have h := (low_facts b).1 (by omega)
  have := dv_let (b := b) (by omega) (by omega) (by omega)
  unfold hxI; rw [if_pos (by omega)]; omega
theorem hx_no {b : UInt8} (h : ¬ (48 ≤ b.toNat ∧ b.toNat ≤ 57)) (h1 : ¬ (97 ≤ b.toNat ∧ b.toNat ≤ 102)) (h2 : ¬ (65 ≤ b.toNat ∧ b.toNat ≤ 70)) : hxI b = -1 := by
  have hf := low_facts b
  unfold hxI; rw [if_neg]
  by_cases h3 : 97 ≤ lwcB b ∧ lwcB b ≤ 122
  · have := dv_let h h3.1 h3.2
    rcases hf.2.2 h3 with h4 | h4
    · have := hf.1 h4; omega
    · have := hf.2.1 h4; omega
  · have := dv_bad h h3; omega
theorem fold_ge (bs : Nat) (hb : 0 < bs) (l : List UInt8) : ∀ n : Nat, n ≤ l.foldl (fun n b => n * bs + dv b) n := by
  induction l with
  | nil => intro n; exact Nat.le_refl _
  | cons b l ih =>
    intro n
    refine Nat.le_trans ?_ (ih (n * bs + dv b))
    exact Nat.le_trans (Nat.le_mul_of_pos_right n hb) (Nat.le_add_right _ _)
theorem nv_mono {bs : Nat} (hb : 0 < bs) (l : List UInt8) (i : Nat) : nv bs (l.take i) ≤ nv bs l := by
  unfold nv
  conv => rhs; rw [← List.take_append_drop i l, List.foldl_append]
  exact fold_ge bs hb (l.drop i) _
theorem fits_over {bs : Nat} (hb : 0 < bs) {l : List UInt8} {i : Nat} (h : nv bs (l.take i) > 9223372036854775808) : fits (valL bs l) = none := by
  unfold valL; split
  · rfl
  · have := nv_mono hb l i
    simp only [fits]; rw [if_pos (by omega)]
theorem fits_bad {bs : Nat} {l : List UInt8} {i : Nat} {y : UInt8} (h : l[i]? = some y) (hy : bs ≤ dv y) : fits (valL bs l) = none := by rw [val_bad h hy]; rfl
theorem fits_end {bs : Nat} {l : List UInt8} {i : Nat} (h : l ≠ []) (ha : allD bs (l.take i) = true) (hi : l.length ≤ i) (hn : nv bs (l.take i) ≤ 9223372036854775808) : fits (valL bs l) = some (IntKind.wrap .i64 ((nv bs (l.take i) : Nat) : Int)) := by
  rw [val_end h ha hi]; simp only [fits]; rw [if_neg (by omega)]
end Go.Proofs.YtedlaclfhgneeaaGreatDoor
/- Where a remark ends, byte by byte; what a text begins with. -/
namespace Go.Proofs.YtedlaclfhgneeaaGreatDoor
set_option linter.unusedVariables false
theorem drop_two {l : List UInt8} {n : Nat} {a b : UInt8} (ha : l[n]? = some a) (hb : l[n + 1]? = some b) : l.drop n = a :: b :: l.drop (n + 2) := by rw [drop_at ha, drop_at hb]
theorem endR_hit {l : List UInt8} {n : Nat} {a b : UInt8} (ha : l[n]? = some a) (hb : l[n + 1]? = some b) (h1 : ((a.toNat : Nat) : Int) = 42) (h2 : ((b.toNat : Nat) : Int) = 41) : endR (l.drop n) = 0 := by
  have e1 : a = 42 := UInt8.toNat_inj.1 (by show a.toNat = 42; omega)
  have e2 : b = 41 := UInt8.toNat_inj.1 (by show b.toNat = 41; omega)
  rw [drop_two ha hb, endR_cons, e1, e2]; simp
theorem endR_go {l : List UInt8} {n : Nat} {a b : UInt8} (ha : l[n]? = some a) (hb : l[n + 1]? = some b) (h : ¬ (((a.toNat : Nat) : Int) = 42 ∧ ((b.toNat : Nat) : Int) = 41)) : (endR (l.drop n) < 0 ∧ endR (l.drop (n + 1)) < 0) ∨ (0 ≤ endR (l.drop (n + 1)) ∧ endR (l.drop n) = endR (l.drop (n + 1)) + 1) := by
  have hp : List.isPrefixOf [42, 41] (a :: l.drop (n + 1)) = false := by
    rw [drop_at hb]
    cases hh : List.isPrefixOf [42, 41] (a :: b :: l.drop (n + 1 + 1))
    · rfl
    · simp [List.isPrefixOf] at hh
      exact absurd ⟨by rw [← hh.1]; rfl, by rw [← hh.2]; rfl⟩ h
  rw [drop_at ha, endR_cons, hp]
  simp only [Bool.false_eq_true, if_false]
  have hge := endR_ge (l.drop (n + 1))
  by_cases h1 : endR (l.drop (n + 1)) = -1
  · left; simp [h1]
  · right
    have h2 : (endR (l.drop (n + 1)) == -1) = false := by simp [h1]
    rw [h2]
    simp only [Bool.false_eq_true, if_false]
    exact ⟨by omega, trivial⟩
theorem endR_stop {l : List UInt8} {n : Nat} (h : l.length ≤ n + 1) : endR (l.drop n) < 0 := by
  rcases endR_le (l.drop n) with h1 | h1
  · exact h1
  · rw [List.length_drop] at h1; omega
theorem pre2_yes {l : List UInt8} {n : Nat} {a b : UInt8} (ha : l[n]? = some a) (hb : l[n + 1]? = some b) (h1 : ((a.toNat : Nat) : Int) = 40) (h2 : ((b.toNat : Nat) : Int) = 42) : preB (l.drop n) [40, 42] = true := by
  have e1 : a = 40 := UInt8.toNat_inj.1 (by show a.toNat = 40; omega)
  have e2 : b = 42 := UInt8.toNat_inj.1 (by show b.toNat = 42; omega)
  rw [drop_two ha hb, e1, e2]; simp [preB]
theorem pre2_first {l : List UInt8} {n : Nat} {a : UInt8} (ha : l[n]? = some a) (h1 : ¬ ((a.toNat : Nat) : Int) = 40) : preB (l.drop n) [40, 42] = false := by
  cases hh : preB (l.drop n) [40, 42]
  · rfl
  · exfalso
    unfold preB at hh
    rw [drop_at ha] at hh
    simp at hh
    exact h1 (by rw [hh.2.1]; rfl)
theorem pre2_short {l : List UInt8} {n : Nat} (h : l.length ≤ n + 1) : preB (l.drop n) [40, 42] = false := pre_short (by rw [List.length_drop]; simp only [List.length_cons, List.length_nil]; omega)
theorem pre2_second {l : List UInt8} {n : Nat} {a b : UInt8} (ha : l[n]? = some a) (hb : l[n + 1]? = some b) (h1 : ¬ ((b.toNat : Nat) : Int) = 42) : preB (l.drop n) [40, 42] = false := by
  cases hh : preB (l.drop n) [40, 42]
  · rfl
  · exfalso
    unfold preB at hh
    rw [drop_two ha hb] at hh
    simp at hh
    exact h1 (by rw [hh.2]; rfl)
end Go.Proofs.YtedlaclfhgneeaaGreatDoor
/- What the reference's Value comes to. -/
namespace Go.Proofs.YtedlaclfhgneeaaGreatDoor
set_option linter.unusedVariables false
theorem hx_or (b : UInt8) : (hxI b = -1 ∧ 16 ≤ dv b) ∨ (hxI b = ((dv b : Nat) : Int) ∧ dv b < 16) := by
  unfold hxI; split
  · next h => exact .inr ⟨rfl, h⟩
  · next h => exact .inl ⟨rfl, by omega⟩
section
variable {l : List UInt8} {a b : UInt8}
theorem pre_two {p q : UInt8} (ha : l[0]? = some a) (hb : l[1]? = some b) : preB l [p, q] = (a == p && b == q) := by
  have e : l = a :: b :: l.drop 2 := by have := drop_two (n := 0) ha hb; rw [List.drop_zero] at this; exact this
  rw [e]; unfold preB; simp
theorem numx (ha : l[0]? = some a) (h1 : ((a.toNat : Nat) : Int) = 48) (hb : l[1]? = some b) (h2 : ((b.toNat : Nat) : Int) = 120) : numR l = if (l.drop 2).length > 16 then none else fits (valL 16 (l.drop 2)) := by
  have e1 : a = 48 := UInt8.toNat_inj.1 (by show a.toNat = 48; omega)
  have e2 : b = 120 := UInt8.toNat_inj.1 (by show b.toNat = 120; omega)
  have hp : preB l [48, 120] = true := by rw [pre_two ha hb, e1, e2]; rfl
  unfold numR cutF; rw [if_pos hp, if_pos hp]; rfl
theorem numd_of (hp : preB l [48, 120] = false) : numR l = if l.length > 19 then none else fits (valL 10 l) := by unfold numR; rw [if_neg (by simp [hp])]
theorem pre_of (hp : preB l [48, 120] = true) : l[0]? = some 48 ∧ l[1]? = some 120 ∧ 2 ≤ l.length := by
  unfold preB at hp
  rw [Bool.and_eq_true] at hp
  have h1 := of_decide_eq_true hp.1
  have h2 := eq_of_beq hp.2
  match l, h1, h2 with
  | a :: b :: r, _, h2 => simp at h2; simp [h2.1, h2.2]
theorem numd_a (ha : l[0]? = some a) (h1 : ¬ ((a.toNat : Nat) : Int) = 48) : numR l = if l.length > 19 then none else fits (valL 10 l) := by
  rcases Bool.eq_false_or_eq_true (preB l [48, 120]) with h | h
  · have := (pre_of h).1; rw [ha] at this; simp at this; exact absurd (by rw [this]; rfl) h1
  · exact numd_of h
theorem numd_b (hb : l[1]? = some b) (h1 : ¬ ((b.toNat : Nat) : Int) = 120) : numR l = if l.length > 19 then none else fits (valL 10 l) := by
  rcases Bool.eq_false_or_eq_true (preB l [48, 120]) with h | h
  · have := (pre_of h).2.1; rw [hb] at this; simp at this; exact absurd (by rw [this]; rfl) h1
  · exact numd_of h
theorem numd_short (hl : l.length ≤ 2) : numR l = if l.length > 19 then none else fits (valL 10 l) := by
  rcases Bool.eq_false_or_eq_true (preB l [48, 120]) with h | h
  · obtain ⟨h1, h2, h3⟩ := pre_of h
    have e : l = [48, 120] := by
      have := drop_two (n := 0) h1 h2
      rw [List.drop_zero, List.drop_eq_nil_of_le (by omega)] at this; exact this
    rw [e]; decide
  · exact numd_of h
end
end Go.Proofs.YtedlaclfhgneeaaGreatDoor
/- The reference's hex, blanks. -/
namespace Go.Proofs.YtedlaclfhgneeaaGreatDoor
open Go.RowKit
set_option linter.unusedVariables false
set_option linter.unusedSimpArgs false
set_option maxRecDepth 100000
set_option maxHeartbeats 2000000
set_option simprocs false
theorem w8 (x : Int) (h : 0 ≤ x ∧ x ≤ 255) : IntKind.wrap .i64 (IntKind.wrap .u8 x) = x := by
  have : ∀ n : Fin 256, IntKind.wrap .i64 (IntKind.wrap .u8 ((n.val : Nat) : Int)) = ((n.val : Nat) : Int) := by decide +kernel
  obtain ⟨n, e⟩ := Int.eq_ofNat_of_zero_le h.1
  subst e
  exact this ⟨n, by omega⟩
theorem bt {p q : Prop} [Decidable p] [Decidable q] (h : (decide p && decide q) = true) : p ∧ q := by simpa using h
theorem bf {p q : Prop} [Decidable p] [Decidable q] (h : (decide p && decide q) = false) : ¬ (p ∧ q) := by
  intro ⟨a, b⟩; rw [decide_eq_true a, decide_eq_true b] at h; cases h
theorem dg_t {b : UInt8} (h : digB b = true) : 48 ≤ b.toNat ∧ b.toNat ≤ 57 := of_decide_eq_true h
theorem dg_f {b : UInt8} (h : digB b = false) : ¬ (48 ≤ b.toNat ∧ b.toNat ≤ 57) := of_decide_eq_false h
theorem rhex_b (b : UInt8)  : Fn Tryz.prog 171 [.int .u8 ((b.toNat : Nat) : Int)] [] (Rt (.int .i64 (hxI b)) []) :=
 enterM (n := 31) (by kernel_rfl) Tryz.func171 rfl rfl rfl fun G w a h0 A => N hX 10 A rfl rfl fun A => CALL1 [] (rdigit_b b) A rfl rfl rfl rfl rfl rfl rfl fun A => N hX 3 A rfl rfl fun A => fork 3 A rfl
  (fun h1 A => N hX 10 A rfl rfl fun A => RETN hX A rfl rfl rfl h0 rfl rfl rfl rfl (by have q0 := dg_t h1; rw [w8 _ (by omega), hx_dig (by omega) (by omega)] <;> rfl) rfl)
  (fun h1 A => N hX 12 A rfl rfl fun A => fork 9 A rfl
   (fun h2 A => N hX 11 A rfl (ok_d (by have q0 := dg_f h1; have q1 := bt h2; rw [w8 _ (by omega)]; omega) <| okE_nil) fun A => RETN hX A rfl rfl rfl h0 rfl rfl rfl rfl (by have q0 := dg_f h1; have q1 := bt h2; rw [w8 _ (by omega), hx_low (by omega) (by omega)] <;> rfl) rfl)
   (fun h2 A => N hX 12 A rfl rfl fun A => fork 20 A rfl
    (fun h3 A => N hX 11 A rfl (ok_d (by have q0 := dg_f h1; have q1 := bf h2; have q2 := bt h3; rw [w8 _ (by omega)]; omega) <| okE_nil) fun A => RETN hX A rfl rfl rfl h0 rfl rfl rfl rfl (by have q0 := dg_f h1; have q1 := bf h2; have q2 := bt h3; rw [w8 _ (by omega), hx_up (by omega) (by omega)] <;> rfl) rfl)
    (fun h3 A => N hX 10 A rfl rfl fun A => RETN hX A rfl rfl rfl h0 rfl rfl rfl rfl (by have q0 := dg_f h1; have q1 := bf h2; have q2 := bf h3; rw [hx_no (by omega) (by omega) (by omega)] <;> rfl) rfl)))
theorem bl_is (c : UInt8) : (((((c.toNat : Nat) : Int) == 32) || (((c.toNat : Nat) : Int) == 9)) || (((c.toNat : Nat) : Int) == 10)) = blkB c := by
  unfold blkB; rw [Bool.eq_iff_iff]; simp only [Bool.or_eq_true, beq_iff_eq, decide_eq_true_eq]; omega
theorem at_of1 {l : List UInt8} {k : Nat} (h : (k : Int) + 1 < (l.length : Int)) : l[k + 1]? = some (l.getD ((k : Int) + 1).toNat 0) := by
  have hk : k + 1 < l.length := by omega
  rw [show ((k : Int) + 1).toNat = k + 1 by omega]
  simp [List.getD, hk]
section
variable {l : List UInt8} {k e : Nat}
theorem op_y (h1 : (k : Int) < (l.length : Int)) (h : (((!((((l.getD ((k : Int)).toNat 0).toNat : Nat) : Int) == 40)) || (decide (((k : Int) + 1) ≥ (l.length : Int)))) || (!((((l.getD ((k : Int) + 1).toNat 0).toNat : Nat) : Int) == 42))) = false) : preB (l.drop ((k : Int)).toNat) [40, 42] = true ∧ (k : Int) + 1 < (l.length : Int) := by
  simp only [Bool.or_eq_false_iff, Bool.not_eq_false', beq_iff_eq, decide_eq_false_iff_not] at h
  have h2 : (k : Int) + 1 < (l.length : Int) := by omega
  exact ⟨by rw [Int.toNat_natCast]; exact pre2_yes (at_of h1) (at_of1 h2) h.1.1 h.2, h2⟩
theorem op_n (h1 : (k : Int) < (l.length : Int)) (h : (((!((((l.getD ((k : Int)).toNat 0).toNat : Nat) : Int) == 40)) || (decide (((k : Int) + 1) ≥ (l.length : Int)))) || (!((((l.getD ((k : Int) + 1).toNat 0).toNat : Nat) : Int) == 42))) = true) : preB (l.drop ((k : Int)).toNat) [40, 42] = false := by
  rw [Int.toNat_natCast]
  by_cases a1 : (((l.getD ((k : Int)).toNat 0).toNat : Nat) : Int) = 40
  · by_cases a2 : (k : Int) + 1 < (l.length : Int)
    · by_cases a3 : (((l.getD ((k : Int) + 1).toNat 0).toNat : Nat) : Int) = 42
      · rw [beq_iff_eq.2 a1, beq_iff_eq.2 a3, decide_eq_false (by omega)] at h; cases h
      · exact pre2_second (at_of h1) (at_of1 a2) a3
    · exact pre2_short (by omega)
  · exact pre2_first (at_of h1) a1
structure EI (l : List UInt8) (k e : Nat) : Prop where
  lo : k + 2 ≤ e
  le : e ≤ l.length
  rel : (endR (l.drop (k + 2)) < 0 ∧ endR (l.drop e) < 0) ∨ (0 ≤ endR (l.drop e) ∧ endR (l.drop (k + 2)) = endR (l.drop e) + (e : Int) - ((k + 2 : Nat) : Int))
theorem EI.i0 (h : (k : Int) + 1 < (l.length : Int)) : EI l k (k + 2) := ⟨Nat.le_refl _, by omega, by
  by_cases h : endR (l.drop (k + 2)) < 0
  · exact .inl ⟨h, h⟩
  · exact .inr ⟨by omega, by omega⟩⟩
theorem EI.nx (hJ : EI l k e) (h : ((decide (((e : Int) + 1) < (l.length : Int))) && (!(((((l.getD ((e : Int)).toNat 0).toNat : Nat) : Int) == 42) && ((((l.getD ((e : Int) + 1).toNat 0).toNat : Nat) : Int) == 41)))) = true) : EI l k (e + 1) ∧ (e : Int) + 1 < (l.length : Int) := by
  simp only [Bool.and_eq_true, decide_eq_true_eq, Bool.not_eq_true'] at h
  have hgo := endR_go (at_of (k := e) (l := l) (by omega)) (at_of1 h.1) (by
    intro ⟨a1, a2⟩; rw [beq_iff_eq.2 a1, beq_iff_eq.2 a2] at h; exact absurd h.2 (by decide))
  have := hJ.lo; have := hJ.rel
  exact ⟨⟨by omega, by omega, by omega⟩, h.1⟩
theorem EI.no (hJ : EI l k e) (h : (e : Int) + 1 ≥ (l.length : Int)) : endR (l.drop (((k : Int) + 2)).toNat) < 0 := by
  have := endR_stop (l := l) (n := e) (by omega); have := hJ.rel
  rw [show (((k : Int) + 2)).toNat = k + 2 by omega]; omega
theorem EI.hit (hJ : EI l k e) (h : ((decide (((e : Int) + 1) < (l.length : Int))) && (!(((((l.getD ((e : Int)).toNat 0).toNat : Nat) : Int) == 42) && ((((l.getD ((e : Int) + 1).toNat 0).toNat : Nat) : Int) == 41)))) = false) (h2 : ¬ (e : Int) + 1 ≥ (l.length : Int)) : ¬ endR (l.drop (((k : Int) + 2)).toNat) < 0 ∧ k + 2 + (endR (l.drop (k + 2))).toNat + 2 = e + 2 := by
  rw [decide_eq_true (by omega), Bool.true_and, Bool.not_eq_false', Bool.and_eq_true, beq_iff_eq, beq_iff_eq] at h
  have hh := endR_hit (at_of (k := e) (l := l) (by omega)) (at_of1 (by omega)) h.1 h.2
  have := hJ.rel; have := hJ.lo
  rw [show (((k : Int) + 2)).toNat = k + 2 by omega]; omega
end
theorem rblank_ (l : List UInt8) (s0 : Nat) (ha : s0 ≤ l.length) (hl : l.length ≤ 8192) : Fn Tryz.prog 130 [.str l, .int .i64 (s0 : Int)] [] (Rt (.tup [.int .i64 ((s0 + (skipL (l.drop s0)).1 : Nat) : Int), .int .i64 (skE l s0)]) []) :=
 enterM (n := 80) (by kernel_rfl) Tryz.func130 rfl rfl rfl fun G w a h0 A => N hX 8 A rfl rfl fun A => LOOP1 (fun (k : Nat) => [(0, .str l), (1, .int .i64 (k : Int)), (4, .int .i64 0), (5, .int .i64 0)]) (fun (k : Nat) => []) (fun (k : Nat) => KI l s0 k) (fun (k : Nat) => l.length - k) s0 (KI.i0 ha) ((A.cut [0, 1, 4, 5] rfl).trunc 0 rfl rfl rfl (by simp only [List.length_cons, List.length_nil] at h0; omega)) fun k hI {G a w} A => N hX 9 A rfl rfl fun A => forkD 10 A rfl
   (fun h1 A => N hX 10 A rfl (ok_d (by have := hI.le; omega) <| okE_nil) fun A => N hX 5 A rfl (ok_r <| ok_r <| ok_g (fun hg => (by (try simp at hg); have := hI.le; omega)) <| okE_nil) fun A => N hX 1 A rfl rfl fun A => N hX 1 A rfl rfl fun A => N hX 4 A rfl (ok_r <| ok_r <| ok_g (fun hg => (by (try simp at hg); have := hI.le; omega)) <| okE_nil) fun A => N hX 1 A rfl rfl fun A => N hX 1 A rfl rfl fun A => N hX 2 A rfl rfl fun A => fork 26 A rfl
    (fun h2 A => N hX 5 A rfl (ok_d (by have := hI.le; omega) <| okE_nil) fun A => N hX 4 A rfl rfl fun A => ⟨k + 1, _, (by omega), (hI.bl h1 (by rw [← bl_is]; exact h2)), ((A.cut [0, 1, 4, 5] rfl).trunc 0 rfl rfl rfl (by simp only [List.length_cons, List.length_nil] at h0; omega)).sayT (by simp)⟩)
    (fun h2 A => N hX 9 A rfl (ok_d (by have := hI.le; omega) <| okE_nil) fun A => N hX 4 A rfl (ok_r <| ok_g (fun hg => (by (try simp at hg); have := hI.le; omega)) <| okE_nil) fun A => N hX 2 A rfl rfl fun A => N hX 1 A rfl rfl fun A => N hX 1 A rfl rfl fun A => N hX 4 A rfl (ok_r <| ok_g (fun hg => (by (try simp at hg); have := hI.le; omega)) <| okE_nil) fun A => N hX 1 A rfl (ok_r <| ok_r <| ok_g (fun hg => (by (try simp at hg); have := hI.le; omega)) <| okE_nil) fun A => N hX 1 A rfl rfl fun A => N hX 1 A rfl rfl fun A => N hX 2 A rfl rfl fun A => fork 46 A rfl
     (fun h3 A => N hX 9 A rfl rfl fun A => RETN hX A rfl rfl rfl h0 rfl rfl rfl rfl (by have e := hI.wd h1 (by rw [← bl_is]; exact h2) (op_n h1 h3); have hg := hI.ge; unfold skE; rw [e]; simp [oneS, nb, nbL]; omega) rfl)
     (fun h3 A => N hX 7 A rfl (ok_d (by have := hI.le; omega) <| okE_nil) fun A => N hX 5 A rfl rfl fun A => LOOP1 (fun (e : Nat) => [(0, .str l), (1, .int .i64 (k : Int)), (4, .int .i64 0), (5, .int .i64 0), (6, .int .i64 (e : Int))]) (fun (e : Nat) => []) (fun (e : Nat) => EI l k e) (fun (e : Nat) => l.length - e) (k + 2) (EI.i0 (op_y h1 h3).2) ((A.cut [0, 1, 4, 5, 6] rfl).trunc 0 rfl rfl rfl (by simp only [List.length_cons, List.length_nil] at h0; omega)) fun e hJ {G a w} A => N hX 5 A rfl (ok_d (by have := hI.le; have := hJ.le; omega) <| okE_nil) fun A => N hX 7 A rfl (ok_r <| ok_r <| ok_g (fun hg => (by (try simp at hg); have := hI.le; have := hJ.le; omega)) <| okE_nil) fun A => N hX 1 A rfl rfl fun A => N hX 1 A rfl rfl fun A => N hX 3 A rfl (ok_r <| ok_g (fun hg => (by (try simp at hg); have := hI.le; have := hJ.le; omega)) <| okE_nil) fun A => N hX 1 A rfl (ok_r <| ok_r <| ok_g (fun hg => (by (try simp at hg); have := hI.le; have := hJ.le; omega)) <| okE_nil) fun A => N hX 1 A rfl rfl fun A => N hX 1 A rfl rfl fun A => N hX 1 A rfl rfl fun A => N hX 1 A rfl rfl fun A => N hX 2 A rfl rfl fun A => fork 68 A rfl
       (fun h4 A => N hX 7 A rfl (ok_d (by have := hI.le; have := hJ.le; omega) <| okE_nil) fun A => N hX 3 A rfl rfl fun A => ⟨e + 1, _, (by have := (hJ.nx h4).2; omega), (hJ.nx h4).1, ((A.cut [0, 1, 4, 5, 6] rfl).trunc 0 rfl rfl rfl (by simp only [List.length_cons, List.length_nil] at h0; omega)).sayT (by simp)⟩)
       (fun h4 A => N hX 8 A rfl (ok_d (by have := hI.le; have := hJ.le; omega) <| okE_nil) fun A => N hX 5 A rfl rfl fun A => forkD 75 A rfl
        (fun h5 A => N hX 9 A rfl rfl fun A => RETN hX A rfl rfl rfl h0 rfl rfl rfl rfl (by have e := hI.op h1 (by rw [← bl_is]; exact h2) (op_y h1 h3).1 (hJ.no h5); have hg := hI.ge; unfold skE; rw [e]; simp [oneS, nb, nbL]; omega) rfl)
        (fun h5 A => N hX 6 A rfl (ok_d (by have := hI.le; have := hJ.le; omega) <| okE_nil) fun A => N hX 3 A rfl rfl fun A => ⟨e + 2, _, (by have := hJ.lo; omega), (by have q := hJ.hit h4 h5; have r := hI.rm h1 (by rw [← bl_is]; exact h2) (op_y h1 h3).1 q.1; rw [q.2] at r; exact r), ((A.cut [0, 1, 4, 5] rfl).trunc 0 rfl rfl rfl (by simp only [List.length_cons, List.length_nil] at h0; omega)).sayT (by simp)⟩)))))
   (fun h1 A => N hX 11 A rfl rfl fun A => RETN hX A rfl rfl rfl h0 rfl rfl rfl rfl (by have e := hI.fi h1; have hg := hI.ge; unfold skE; rw [e]; simp [oneS, nb, nbL]; omega) rfl)
end Go.Proofs.YtedlaclfhgneeaaGreatDoor
/- The reference's numbers. -/
namespace Go.Proofs.YtedlaclfhgneeaaGreatDoor
open Go.RowKit
set_option linter.unusedVariables false
set_option linter.unusedSimpArgs false
set_option maxRecDepth 100000
set_option maxHeartbeats 2000000
set_option simprocs false
def numI (l : List UInt8) : Int := (numR l).getD 0
def numO (l : List UInt8) : Bool := (numR l).isSome
structure VI (bs : Nat) (D : List UInt8) (j : Nat) : Prop where
  le : j ≤ D.length
  al : allD bs (D.take j) = true
  top : nv bs (D.take j) ≤ 9223372036854775808
theorem VI.i0 {bs : Nat} {D : List UInt8} : VI bs D 0 := ⟨Nat.zero_le _, rfl, by rw [nv_zero]; omega⟩
theorem q_ok (d B : Int) (hd : 0 ≤ d ∧ d < 16) (hB : B = 10 ∨ B = 16) : IntKind.wrap .u64 (Int.tdiv (IntKind.wrap .u64 (9223372036854775808 - (IntKind.wrap .u64 d))) (IntKind.wrap .u64 B)) = (9223372036854775808 - d) / B := by
  have w1 : IntKind.wrap .u64 d = d := by rw [IntKind.wrap_u64]; omega
  have w2 : IntKind.wrap .u64 (9223372036854775808 - d) = 9223372036854775808 - d := by rw [IntKind.wrap_u64]; omega
  have w3 : IntKind.wrap .u64 B = B := by rw [IntKind.wrap_u64]; omega
  rw [w1, w2, w3, Int.tdiv_eq_ediv_of_nonneg (by omega), IntKind.wrap_u64]
  rcases hB with e | e <;> subst e <;> omega
theorem s_ok (n d B : Int) (hd : 0 ≤ d ∧ d < 16) (hB : B = 10 ∨ B = 16) (hn : 0 ≤ n ∧ n ≤ (9223372036854775808 - d) / B) : IntKind.wrap .u64 ((IntKind.wrap .u64 (n * (IntKind.wrap .u64 B))) + (IntKind.wrap .u64 d)) = n * B + d := by
  have w1 : IntKind.wrap .u64 d = d := by rw [IntKind.wrap_u64]; omega
  have w3 : IntKind.wrap .u64 B = B := by rw [IntKind.wrap_u64]; omega
  rw [w1, w3]
  rcases hB with e | e <;> subst e <;> rw [IntKind.wrap_u64, IntKind.wrap_u64] <;> omega
section
variable {bs : Nat} {D : List UInt8} {j : Nat} {B : Int}
theorem v_go (hB : B = (bs : Int)) (hb : bs = 10 ∨ bs = 16) (hI : VI bs D j) (h1 : (j : Int) < (D.length : Int)) (h : (((decide ((hxI (D.getD ((j : Int)).toNat 0)) < 0)) || (decide ((hxI (D.getD ((j : Int)).toNat 0)) ≥ B))) || (decide (((nv bs (D.take j) : Nat) : Int) > (IntKind.wrap .u64 (Int.tdiv (IntKind.wrap .u64 (9223372036854775808 - (IntKind.wrap .u64 (hxI (D.getD ((j : Int)).toNat 0))))) (IntKind.wrap .u64 B)))))) = false) : VI bs D (j + 1) ∧ IntKind.wrap .u64 ((IntKind.wrap .u64 (((nv bs (D.take j) : Nat) : Int) * (IntKind.wrap .u64 B))) + (IntKind.wrap .u64 (hxI (D.getD ((j : Int)).toNat 0)))) = ((nv bs (D.take (j + 1)) : Nat) : Int) := by
  have hy := at_of h1
  generalize D.getD ((j : Int)).toNat 0 = y at h hy ⊢
  have hgo := nv_go (bs := bs) hy
  simp only [Bool.or_eq_false_iff, decide_eq_false_iff_not] at h
  have ho := hx_or y
  have hd : 0 ≤ hxI y ∧ hxI y < 16 := by omega
  rw [q_ok _ _ hd (by omega)] at h
  rw [s_ok _ _ _ hd (by omega) (by omega), hgo]
  have hall := all_go hy hI.al (by omega)
  rcases hb with e | e <;> subst e <;> subst hB
  · exact ⟨⟨by omega, hall, by omega⟩, by omega⟩
  · exact ⟨⟨by omega, hall, by omega⟩, by omega⟩
theorem v_bad (hB : B = (bs : Int)) (hb : bs = 10 ∨ bs = 16) (hI : VI bs D j) (h1 : (j : Int) < (D.length : Int)) (h : (((decide ((hxI (D.getD ((j : Int)).toNat 0)) < 0)) || (decide ((hxI (D.getD ((j : Int)).toNat 0)) ≥ B))) || (decide (((nv bs (D.take j) : Nat) : Int) > (IntKind.wrap .u64 (Int.tdiv (IntKind.wrap .u64 (9223372036854775808 - (IntKind.wrap .u64 (hxI (D.getD ((j : Int)).toNat 0))))) (IntKind.wrap .u64 B)))))) = true) : fits (valL bs D) = none := by
  have hy := at_of h1
  generalize D.getD ((j : Int)).toNat 0 = y at h hy
  have hgo := nv_go (bs := bs) hy
  have ho := hx_or y
  by_cases hd : 0 ≤ hxI y ∧ hxI y < B
  · rw [q_ok _ _ (by omega) (by omega), decide_eq_false (by omega), decide_eq_false (by omega), Bool.false_or, Bool.false_or, decide_eq_true_eq] at h
    refine fits_over (by omega) (i := j + 1) ?_
    rw [hgo]
    rcases hb with e | e <;> subst e <;> subst hB <;> omega
  · exact fits_bad hy (by omega)
theorem v_end (hI : VI bs D j) (h0 : 0 < D.length) (h1 : ¬ (j : Int) < (D.length : Int)) : fits (valL bs D) = some (IntKind.wrap .i64 ((nv bs (D.take j) : Nat) : Int)) := by
  have := hI.le
  exact fits_end (by intro h; rw [h] at h0; exact absurd h0 (by simp)) hI.al (by omega) hI.top
end
section
variable {l : List UInt8}
theorem n_hex (h : (((decide ((l.length : Int) > 2)) && ((((l.getD (0 : Int).toNat 0).toNat : Nat) : Int) == 48)) && ((((l.getD (1 : Int).toNat 0).toNat : Nat) : Int) == 120)) = true) : numR l = (if (l.drop 2).length > 16 then none else fits (valL 16 (l.drop 2))) ∧ 2 < l.length := by
  simp only [Bool.and_eq_true, decide_eq_true_eq, beq_iff_eq] at h
  have a0 := at_of (l := l) (k := 0) (by omega)
  have a1 := at_of (l := l) (k := 1) (by omega)
  exact ⟨numx a0 h.1.2 a1 h.2, by omega⟩
theorem n_dec (h : (((decide ((l.length : Int) > 2)) && ((((l.getD (0 : Int).toNat 0).toNat : Nat) : Int) == 48)) && ((((l.getD (1 : Int).toNat 0).toNat : Nat) : Int) == 120)) = false) : numR l = if l.length > 19 then none else fits (valL 10 l) := by
  by_cases h0 : l.length ≤ 2
  · exact numd_short h0
  · have a0 := at_of (l := l) (k := 0) (by omega)
    have a1 := at_of (l := l) (k := 1) (by omega)
    by_cases b0 : (((l.getD (0 : Int).toNat 0).toNat : Nat) : Int) = 48
    · by_cases b1 : (((l.getD (1 : Int).toNat 0).toNat : Nat) : Int) = 120
      · rw [beq_iff_eq.2 b0, beq_iff_eq.2 b1, decide_eq_true (by omega)] at h; cases h
      · exact numd_b a1 b1
    · exact numd_a a0 b0
theorem sh_t {n m : Int} (h : ((decide (n < 1)) || (decide (n > m))) = true) : n < 1 ∨ n > m := by simpa using h
theorem sh_f {n m : Int} (h : ((decide (n < 1)) || (decide (n > m))) = false) : 1 ≤ n ∧ n ≤ m := by
  simp only [Bool.or_eq_false_iff, decide_eq_false_iff_not] at h; omega
end
theorem rvalue_ (l : List UInt8) (hl : l.length ≤ 8192) : Fn Tryz.prog 133 [.str l] [] (Rt (.tup [.int .i64 (numI l), .bool (numO l)]) []) :=
 enterM (n := 69) (by kernel_rfl) Tryz.func133 rfl rfl rfl fun G w a h0 A => N hX 25 A rfl (ok_r <| ok_g (fun hg => (by (try simp at hg); omega)) <| okE_nil) fun A => N hX 1 A rfl rfl fun A => N hX 1 A rfl rfl fun A => N hX 3 A rfl (ok_r <| ok_g (fun hg => (by (try simp at hg); omega)) <| okE_nil) fun A => N hX 1 A rfl rfl fun A => N hX 1 A rfl rfl fun A => N hX 2 A rfl rfl fun A => fork 21 A rfl
  (fun h1 A => N hX 14 A rfl (ok_d (by have q := (n_hex h1).2; omega) <| okE_nil) fun A => N hX 12 A rfl rfl fun A => N hX 2 A rfl rfl fun A => N hX 1 A rfl rfl fun A => N hX 2 A rfl rfl fun A => fork 32 A rfl
   (fun h2 A => N hX 8 A rfl rfl fun A => RETN hX A rfl rfl rfl h0 rfl rfl rfl rfl (by have q := n_hex h1; have q1 := q.1; have hdl : (l.drop 2).length = l.length - 2 := List.length_drop; have s : (((l.drop 2).length : Nat) : Int) < 1 ∨ (((l.drop 2).length : Nat) : Int) > 16 := sh_t h2; have e : numR l = none := (by rw [q1]; split <;> first | rfl | (rw [val_nil (List.eq_nil_of_length_eq_zero (by omega))]; rfl)); unfold numI numO; rw [e]; rfl) rfl)
   (fun h2 A => N hX 15 A rfl rfl fun A => LOOP1 (fun (j : Nat) => [(0, .str (l.drop 2)), (2, .int .i64 0), (3, .ff), (4, .int .i64 16), (6, .int .u64 ((nv 16 ((l.drop 2).take j) : Nat) : Int)), (7, .int .i64 (j : Int))]) (fun (j : Nat) => []) (fun (j : Nat) => VI 16 (l.drop 2) j) (fun (j : Nat) => (l.drop 2).length - j) 0 VI.i0 ((A.cut [0, 2, 3, 4, 6, 7] rfl).trunc 0 rfl rfl rfl (by simp only [List.length_cons, List.length_nil] at h0; omega)) fun j hI {G a w} A => N hX 9 A rfl rfl fun A => forkD 36 A rfl
     (fun h3 A => N hX 10 A rfl (ok_d (by have q := (n_hex h1).2; have := hI.le; (try simp only [List.length_drop] at *); omega) <| okE_nil) fun A => CALL1 [] (rhex_b ((l.drop 2).getD ((j : Int)).toNat 0)) A rfl rfl rfl rfl rfl rfl rfl fun A => N hX 12 A rfl rfl fun A => N hX 1 A rfl rfl fun A => N hX 4 A rfl rfl fun A => N hX 1 A rfl rfl fun A => N hX 2 A rfl rfl fun A => N hX 1 A rfl (ok_r <| ok_r <| ok_g (fun hg => (by decide)) <| okE_nil) fun A => N hX 1 A rfl rfl fun A => N hX 1 A rfl rfl fun A => N hX 2 A rfl rfl fun A => fork 59 A rfl
      (fun h4 A => N hX 8 A rfl rfl fun A => RETN hX A rfl rfl rfl h0 rfl rfl rfl rfl (by have q := n_hex h1; have q1 := q.1; have hdl : (l.drop 2).length = l.length - 2 := List.length_drop; have s : 1 ≤ (((l.drop 2).length : Nat) : Int) ∧ (((l.drop 2).length : Nat) : Int) ≤ 16 := sh_f h2; rw [if_neg (by omega)] at q1; have e : numR l = none := q1.trans (v_bad (bs := 16) rfl (by decide) hI h3 h4); unfold numI numO; rw [e]; rfl) rfl)
      (fun h4 A => N hX 18 A rfl (ok_d (by have q := (n_hex h1).2; have := hI.le; (try simp only [List.length_drop] at *); omega) <| okE_nil) fun A => N hX 2 A rfl rfl fun A => ⟨j + 1, _, (by omega), (v_go (bs := 16) rfl (by decide) hI h3 h4).1, ((A.cut [0, 2, 3, 4, 6, 7] rfl).trunc 0 rfl rfl rfl (by simp only [List.length_cons, List.length_nil] at h0; omega)).sayT (by have q := (v_go (bs := 16) rfl (by decide) hI h3 h4).2; rw [← q] <;> rfl)⟩))
     (fun h3 A => N hX 12 A rfl rfl fun A => RETN hX A rfl rfl rfl h0 rfl rfl rfl rfl (by have q := n_hex h1; have q1 := q.1; have hdl : (l.drop 2).length = l.length - 2 := List.length_drop; have s : 1 ≤ (((l.drop 2).length : Nat) : Int) ∧ (((l.drop 2).length : Nat) : Int) ≤ 16 := sh_f h2; rw [if_neg (by omega)] at q1; have e := q1.trans (v_end hI (by omega) h3); unfold numI numO; rw [e]; rfl) rfl)))
  (fun h1 A => N hX 12 A rfl rfl fun A => N hX 2 A rfl rfl fun A => N hX 1 A rfl rfl fun A => N hX 2 A rfl rfl fun A => fork 32 A rfl
   (fun h5 A => N hX 8 A rfl rfl fun A => RETN hX A rfl rfl rfl h0 rfl rfl rfl rfl (by have q1 := n_dec h1; have s : ((l.length : Nat) : Int) < 1 ∨ ((l.length : Nat) : Int) > 19 := sh_t h5; have e : numR l = none := (by rw [q1]; split <;> first | rfl | (rw [val_nil (List.eq_nil_of_length_eq_zero (by omega))]; rfl)); unfold numI numO; rw [e]; rfl) rfl)
   (fun h5 A => N hX 15 A rfl rfl fun A => LOOP1 (fun (j : Nat) => [(0, .str l), (2, .int .i64 0), (3, .ff), (4, .int .i64 10), (6, .int .u64 ((nv 10 (l.take j) : Nat) : Int)), (7, .int .i64 (j : Int))]) (fun (j : Nat) => []) (fun (j : Nat) => VI 10 l j) (fun (j : Nat) => l.length - j) 0 VI.i0 ((A.cut [0, 2, 3, 4, 6, 7] rfl).trunc 0 rfl rfl rfl (by simp only [List.length_cons, List.length_nil] at h0; omega)) fun j hI {G a w} A => N hX 9 A rfl rfl fun A => forkD 36 A rfl
     (fun h6 A => N hX 10 A rfl (ok_d (by have := hI.le; (try simp only [List.length_drop] at *); omega) <| okE_nil) fun A => CALL1 [] (rhex_b (l.getD ((j : Int)).toNat 0)) A rfl rfl rfl rfl rfl rfl rfl fun A => N hX 12 A rfl rfl fun A => N hX 1 A rfl rfl fun A => N hX 4 A rfl rfl fun A => N hX 1 A rfl rfl fun A => N hX 2 A rfl rfl fun A => N hX 1 A rfl (ok_r <| ok_r <| ok_g (fun hg => (by decide)) <| okE_nil) fun A => N hX 1 A rfl rfl fun A => N hX 1 A rfl rfl fun A => N hX 2 A rfl rfl fun A => fork 59 A rfl
      (fun h7 A => N hX 8 A rfl rfl fun A => RETN hX A rfl rfl rfl h0 rfl rfl rfl rfl (by have q1 := n_dec h1; have s : 1 ≤ ((l.length : Nat) : Int) ∧ ((l.length : Nat) : Int) ≤ 19 := sh_f h5; rw [if_neg (by omega)] at q1; have e : numR l = none := q1.trans (v_bad (bs := 10) rfl (by decide) hI h6 h7); unfold numI numO; rw [e]; rfl) rfl)
      (fun h7 A => N hX 18 A rfl (ok_d (by have := hI.le; (try simp only [List.length_drop] at *); omega) <| okE_nil) fun A => N hX 2 A rfl rfl fun A => ⟨j + 1, _, (by omega), (v_go (bs := 10) rfl (by decide) hI h6 h7).1, ((A.cut [0, 2, 3, 4, 6, 7] rfl).trunc 0 rfl rfl rfl (by simp only [List.length_cons, List.length_nil] at h0; omega)).sayT (by have q := (v_go (bs := 10) rfl (by decide) hI h6 h7).2; rw [← q] <;> rfl)⟩))
     (fun h6 A => N hX 12 A rfl rfl fun A => RETN hX A rfl rfl rfl h0 rfl rfl rfl rfl (by have q1 := n_dec h1; have s : 1 ≤ ((l.length : Nat) : Int) ∧ ((l.length : Nat) : Int) ≤ 19 := sh_f h5; rw [if_neg (by omega)] at q1; have e := q1.trans (v_end hI (by omega) h6); unfold numI numO; rw [e]; rfl) rfl)))
end Go.Proofs.YtedlaclfhgneeaaGreatDoor
/- The reference's words. -/
namespace Go.Proofs.YtedlaclfhgneeaaGreatDoor
open Go.RowKit
set_option linter.unusedVariables false
set_option linter.unusedSimpArgs false
set_option maxRecDepth 100000
set_option maxHeartbeats 2000000
set_option simprocs false
theorem of_and {p : Prop} [Decidable p] {b : Bool} (h : (decide p && b) = true) : p := by rw [Bool.and_eq_true] at h; exact of_decide_eq_true h.1
section
variable {l : List UInt8} {e0 ss : Nat} {ws : List Tk}
theorem cut_is (n : Nat) : (l.take ((((ss + n : Nat)) : Int)).toNat).drop (((ss : Nat) : Int)).toNat = (l.drop ss).take n := by
  rw [Int.toNat_natCast, Int.toNat_natCast, List.drop_take, show ss + n - ss = n by omega]
theorem hd_is (h : ¬ (((ss : Nat) : Int) ≥ (l.length : Int))) : (l.drop ss)[0]? = some (l.getD (((ss : Nat) : Int)).toNat 0) := by
  rw [List.getElem?_drop]; exact at_of (by omega)
theorem nx_is (h : ((ss : Nat) : Int) + 1 < (l.length : Int)) : (l.drop ss)[1]? = some (l.getD (((ss : Nat) : Int) + 1).toNat 0) := by
  rw [List.getElem?_drop]; exact at_of1 h
theorem TkI.go (hI : TkI l e0 ws) (h : skE l e0 = 0) (h1 : ¬ (((skp l e0 : Nat) : Int) ≥ (l.length : Int))) {kd n : Int} {tx : List UInt8} {c : Nat} (hf : firstR (l.drop (skp l e0)) = (⟨kd, tx, n, 0⟩, 0)) (hn : tx.length = c) : TkI l (skp l e0 + c) (ws ++ [⟨kd, tx, n, ((skp l e0 : Nat) : Int)⟩]) ∧ e0 < skp l e0 + c ∧ skp l e0 + c ≤ l.length := by
  have h2 : (firstR (l.drop (skp l e0))).2 = 0 := by rw [hf]
  have a := hI.nx h (by omega) h2
  have b := hI.len (by omega) h2
  rw [hf] at a b
  simp only at a b
  rw [hn] at a b
  have : e0 ≤ skp l e0 := by unfold skp; omega
  exact ⟨a, by omega, by omega⟩
theorem nbg_is (b : UInt8) : ((letB b) || (((b.toNat : Nat) : Int) == 95)) = nbgB b := by
  unfold nbgB; rw [show (((b.toNat : Nat) : Int) == 95) = (b.toNat == 95) by rw [Bool.eq_iff_iff]; simp only [beq_iff_eq]; omega]
theorem mk_two (h1 : ¬ (((ss : Nat) : Int) ≥ (l.length : Int))) (h : ((decide ((((ss : Nat) : Int) + 1) < (l.length : Int))) && ((((((l.getD (((ss : Nat) : Int)).toNat 0).toNat : Nat) : Int) == 47) && ((((l.getD (((ss : Nat) : Int) + 1).toNat 0).toNat : Nat) : Int) == 92)) || (((((l.getD (((ss : Nat) : Int)).toNat 0).toNat : Nat) : Int) == 92) && ((((l.getD (((ss : Nat) : Int) + 1).toNat 0).toNat : Nat) : Int) == 47)))) = true) : mkN (l.drop ss) = 2 := by
  simp only [Bool.and_eq_true, Bool.or_eq_true, decide_eq_true_eq, beq_iff_eq] at h
  have a0 := hd_is h1
  have a1 := nx_is h.1
  rcases h.2 with ⟨p, q⟩ | ⟨p, q⟩
  · exact mkN_two (by rw [pre_two a0 a1, u8_eq (y := 47) p, u8_eq (y := 92) q]; rfl)
  · exact mkN_two' (by rw [pre_two a0 a1, u8_eq (y := 92) p, u8_eq (y := 47) q]; rfl)
theorem mk_one (h1 : ¬ (((ss : Nat) : Int) ≥ (l.length : Int))) (h : ((decide ((((ss : Nat) : Int) + 1) < (l.length : Int))) && ((((((l.getD (((ss : Nat) : Int)).toNat 0).toNat : Nat) : Int) == 47) && ((((l.getD (((ss : Nat) : Int) + 1).toNat 0).toNat : Nat) : Int) == 92)) || (((((l.getD (((ss : Nat) : Int)).toNat 0).toNat : Nat) : Int) == 92) && ((((l.getD (((ss : Nat) : Int) + 1).toNat 0).toNat : Nat) : Int) == 47)))) = false) (hm : mrkB (l.getD (((ss : Nat) : Int)).toNat 0) = true) : mkN (l.drop ss) = 1 := by
  have a0 := hd_is h1
  have hp : ∀ p q : UInt8, (p = 47 ∧ q = 92) ∨ (p = 92 ∧ q = 47) → preB (l.drop ss) [p, q] = false := by
    intro p q hpq
    by_cases h2 : ((ss : Nat) : Int) + 1 < (l.length : Int)
    · rw [pre_two a0 (nx_is h2)]
      rw [decide_eq_true h2, Bool.true_and] at h
      cases hc : (l.getD (((ss : Nat) : Int)).toNat 0 == p && l.getD (((ss : Nat) : Int) + 1).toNat 0 == q)
      · rfl
      · rw [Bool.and_eq_true, beq_iff_eq, beq_iff_eq] at hc
        rw [hc.1, hc.2] at h
        rcases hpq with ⟨e1, e2⟩ | ⟨e1, e2⟩ <;> subst e1 <;> subst e2 <;> exact absurd h (by decide)
    · exact pre_short (by rw [List.length_drop]; simp only [List.length_cons, List.length_nil]; omega)
  unfold mkN
  rw [hp 47 92 (.inl ⟨rfl, rfl⟩), hp 92 47 (.inr ⟨rfl, rfl⟩), a0]
  show (if (false || false) = true then 2 else if mrkB (l.getD (((ss : Nat) : Int)).toNat 0) = true then 1 else 0) = 1
  rw [hm]; rfl
theorem mk_no (h1 : ¬ (((ss : Nat) : Int) ≥ (l.length : Int))) (hm : mrkB (l.getD (((ss : Nat) : Int)).toNat 0) = false) : ¬ mkN (l.drop ss) > 0 := by
  have a0 := hd_is h1
  have hp : ∀ p q : UInt8, p = 47 ∨ p = 92 → preB (l.drop ss) [p, q] = false := by
    intro p q hpq
    by_cases h2 : ((ss : Nat) : Int) + 1 < (l.length : Int)
    · rw [pre_two a0 (nx_is h2)]
      cases hc : (l.getD (((ss : Nat) : Int)).toNat 0 == p)
      · rfl
      · rw [beq_iff_eq] at hc
        rw [hc] at hm
        rcases hpq with e1 | e1 <;> subst e1 <;> exact absurd hm (by decide)
    · exact pre_short (by rw [List.length_drop]; simp only [List.length_cons, List.length_nil]; omega)
  unfold mkN
  rw [hp 47 92 (.inl rfl), hp 92 47 (.inr rfl), a0]
  show ¬ (if (false || false) = true then 2 else if mrkB (l.getD (((ss : Nat) : Int)).toNat 0) = true then 1 else 0) > 0
  rw [hm]; decide
theorem num_of {t : List UInt8} (h : (!(numO t)) = false) : numR t = some (numI t) := by
  unfold numO at h; unfold numI; cases hn : numR t with
  | none => rw [hn] at h; exact absurd h (by decide)
  | some n => rfl
theorem num_not {t : List UInt8} (h : (!(numO t)) = true) : numR t = none := by
  unfold numO at h; cases hn : numR t with
  | none => rfl
  | some n => rw [hn] at h; exact absurd h (by simp)
theorem tk_num (hI : TkI l e0 ws) (k0 : (skE l e0) = 0) (k1 : ¬(((skp l e0 : Nat) : Int) ≥ (l.length : Int))) (k2 : (digB (l.getD (((skp l e0 : Nat) : Int)).toNat 0)) = true) (k3 : (!(numO ((l.take ((((skp l e0 + rn numB (l.drop (skp l e0)) : Nat)) : Int)).toNat).drop (((skp l e0 : Nat) : Int)).toNat))) = false) : TkI l (skp l e0 + rn numB (l.drop (skp l e0))) (ws ++ [(⟨2, (l.take ((((skp l e0 + rn numB (l.drop (skp l e0)) : Nat)) : Int)).toNat).drop (((skp l e0 : Nat) : Int)).toNat, numI ((l.take ((((skp l e0 + rn numB (l.drop (skp l e0)) : Nat)) : Int)).toNat).drop (((skp l e0 : Nat) : Int)).toNat), ((skp l e0 : Nat) : Int)⟩ : Tk)]) ∧ e0 < skp l e0 + rn numB (l.drop (skp l e0)) ∧ skp l e0 + rn numB (l.drop (skp l e0)) ≤ l.length := by
  rw [cut_is] at k3 ⊢
  exact hI.go k0 k1 (first_num (hd_is k1) k2 (num_of k3)) (by rw [List.length_take]; have := rn_le numB (l.drop (skp l e0)); omega)
theorem tk_name (hI : TkI l e0 ws) (k0 : (skE l e0) = 0) (k1 : ¬(((skp l e0 : Nat) : Int) ≥ (l.length : Int))) (k2 : (digB (l.getD (((skp l e0 : Nat) : Int)).toNat 0)) = false) (k3 : ((letB (l.getD (((skp l e0 : Nat) : Int)).toNat 0)) || ((((l.getD (((skp l e0 : Nat) : Int)).toNat 0).toNat : Nat) : Int) == 95)) = true) : TkI l (skp l e0 + rn namB (l.drop (skp l e0))) (ws ++ [(⟨1, (l.take ((((skp l e0 + rn namB (l.drop (skp l e0)) : Nat)) : Int)).toNat).drop (((skp l e0 : Nat) : Int)).toNat, 0, ((skp l e0 : Nat) : Int)⟩ : Tk)]) ∧ e0 < skp l e0 + rn namB (l.drop (skp l e0)) ∧ skp l e0 + rn namB (l.drop (skp l e0)) ≤ l.length := by
  rw [cut_is]
  exact hI.go k0 k1 (first_name (hd_is k1) k2 (by rw [← nbg_is]; exact k3)) (by rw [List.length_take]; have := rn_le namB (l.drop (skp l e0)); omega)
theorem tk_m2 (hI : TkI l e0 ws) (k0 : (skE l e0) = 0) (k1 : ¬(((skp l e0 : Nat) : Int) ≥ (l.length : Int))) (k2 : (digB (l.getD (((skp l e0 : Nat) : Int)).toNat 0)) = false) (k3 : ((letB (l.getD (((skp l e0 : Nat) : Int)).toNat 0)) || ((((l.getD (((skp l e0 : Nat) : Int)).toNat 0).toNat : Nat) : Int) == 95)) = false) (k4 : (mrkB (l.getD (((skp l e0 : Nat) : Int)).toNat 0)) = true) (k5 : ((decide ((((skp l e0 : Nat) : Int) + 1) < (l.length : Int))) && ((((((l.getD (((skp l e0 : Nat) : Int)).toNat 0).toNat : Nat) : Int) == 47) && ((((l.getD (((skp l e0 : Nat) : Int) + 1).toNat 0).toNat : Nat) : Int) == 92)) || (((((l.getD (((skp l e0 : Nat) : Int)).toNat 0).toNat : Nat) : Int) == 92) && ((((l.getD (((skp l e0 : Nat) : Int) + 1).toNat 0).toNat : Nat) : Int) == 47)))) = true) : TkI l (skp l e0 + 1 + 1) (ws ++ [(⟨3, (l.take ((((skp l e0 : Nat) : Int) + 1) + 1).toNat).drop (((skp l e0 : Nat) : Int)).toNat, 0, ((skp l e0 : Nat) : Int)⟩ : Tk)]) ∧ e0 < skp l e0 + 1 + 1 ∧ skp l e0 + 1 + 1 ≤ l.length := by
  have e := mk_two k1 k5
  have r := of_and k5
  rw [show (((skp l e0 : Nat) : Int) + 1) + 1 = ((skp l e0 + 2 : Nat) : Int) by omega, cut_is]
  exact hI.go k0 k1 (c := 2) (e ▸ first_mark (hd_is k1) k2 (by rw [← nbg_is]; exact k3) (by omega)) (by rw [List.length_take, List.length_drop]; omega)
theorem tk_m1 (hI : TkI l e0 ws) (k0 : (skE l e0) = 0) (k1 : ¬(((skp l e0 : Nat) : Int) ≥ (l.length : Int))) (k2 : (digB (l.getD (((skp l e0 : Nat) : Int)).toNat 0)) = false) (k3 : ((letB (l.getD (((skp l e0 : Nat) : Int)).toNat 0)) || ((((l.getD (((skp l e0 : Nat) : Int)).toNat 0).toNat : Nat) : Int) == 95)) = false) (k4 : (mrkB (l.getD (((skp l e0 : Nat) : Int)).toNat 0)) = true) (k5 : ((decide ((((skp l e0 : Nat) : Int) + 1) < (l.length : Int))) && ((((((l.getD (((skp l e0 : Nat) : Int)).toNat 0).toNat : Nat) : Int) == 47) && ((((l.getD (((skp l e0 : Nat) : Int) + 1).toNat 0).toNat : Nat) : Int) == 92)) || (((((l.getD (((skp l e0 : Nat) : Int)).toNat 0).toNat : Nat) : Int) == 92) && ((((l.getD (((skp l e0 : Nat) : Int) + 1).toNat 0).toNat : Nat) : Int) == 47)))) = false) : TkI l (skp l e0 + 1) (ws ++ [(⟨3, (l.take (((skp l e0 : Nat) : Int) + 1).toNat).drop (((skp l e0 : Nat) : Int)).toNat, 0, ((skp l e0 : Nat) : Int)⟩ : Tk)]) ∧ e0 < skp l e0 + 1 ∧ skp l e0 + 1 ≤ l.length := by
  have e := mk_one k1 k5 k4
  rw [show ((skp l e0 : Nat) : Int) + 1 = ((skp l e0 + 1 : Nat) : Int) by omega, cut_is]
  exact hI.go k0 k1 (c := 1) (e ▸ first_mark (hd_is k1) k2 (by rw [← nbg_is]; exact k3) (by omega)) (by rw [List.length_take, List.length_drop]; omega)
theorem tk_bn (hI : TkI l e0 ws) (k0 : (skE l e0) = 0) (k1 : ¬(((skp l e0 : Nat) : Int) ≥ (l.length : Int))) (k2 : (digB (l.getD (((skp l e0 : Nat) : Int)).toNat 0)) = true) (k3 : (!(numO ((l.take ((((skp l e0 + rn numB (l.drop (skp l e0)) : Nat)) : Int)).toNat).drop (((skp l e0 : Nat) : Int)).toNat))) = true) : tokensR l = ([], 23, skp l e0) := by
  rw [cut_is] at k3
  have e := first_bad (hd_is k1) k2 (num_not k3)
  have := hI.bad k0 (by omega) (by rw [e]; decide)
  rw [e] at this; exact this
theorem tk_bb (hI : TkI l e0 ws) (k0 : (skE l e0) = 0) (k1 : ¬(((skp l e0 : Nat) : Int) ≥ (l.length : Int))) (k2 : (digB (l.getD (((skp l e0 : Nat) : Int)).toNat 0)) = false) (k3 : ((letB (l.getD (((skp l e0 : Nat) : Int)).toNat 0)) || ((((l.getD (((skp l e0 : Nat) : Int)).toNat 0).toNat : Nat) : Int) == 95)) = false) (k4 : (mrkB (l.getD (((skp l e0 : Nat) : Int)).toNat 0)) = false) : tokensR l = ([], 20, skp l e0) := by
  have e := first_byte (hd_is k1) k2 (by rw [← nbg_is]; exact k3) (mk_no k1 k4)
  have := hI.bad k0 (by omega) (by rw [e]; decide)
  rw [e] at this; exact this
end
theorem rtokens_ (l : List UInt8) : Fn Tryz.prog 91 [.str l] [] (TkR l) :=
 enterM (n := 112) (by kernel_rfl) Tryz.func91 rfl rfl rfl fun G w a h0 A => N hX 15 A rfl rfl fun A => forkD 16 A rfl
  (fun h1 A => N hX 9 A rfl rfl fun A => RET (x := .tup [.sla none 0 0, .int .i64 2, .int .i64 0]) (H' := []) hX [] A (by have e := tokens_long (l := l) (by omega); unfold TkR; rw [e]; exact .inr ⟨(by show (2 : Int) ≠ 0; decide), rfl, rfl⟩) rfl rfl rfl rfl rfl rfl rfl rfl h0)
  (fun h1 A => N hX 14 A rfl rfl fun A => have A := A.nilRow 5 28 4 (fun zz => tkc (([] : List Tk).getD zz tok0)) rfl (fun z => ⟨_, rfl, rfl⟩); LOOP2 (fun (e0 : Nat) (ws : List Tk) => [(0, .str l), (2, .sla none 0 0), (3, .int .i64 0), (4, .int .i64 0), (5, .sl 0 ws.length 0), (6, .int .i64 (e0 : Int))]) (fun (e0 : Nat) (ws : List Tk) => [some (.row 28 4 ws.length 0 (fun zz => tkc (ws.getD zz tok0)))]) (fun (e0 : Nat) (ws : List Tk) => TkI l e0 ws) (fun (e0 : Nat) (ws : List Tk) => l.length - e0) 0 [] (TkI.i0 (by omega)) ((A.cut [0, 2, 3, 4, 5, 6] rfl).trunc 1 rfl rfl rfl (by simp only [List.length_cons, List.length_nil] at h0; omega)) fun e0 ws hI {G a w} A => N hX 5 A rfl rfl fun A => CALL1 [] (fn_asX (rblank_ l e0 hI.le (by omega)) (y := .tup [.int .i64 ((skp l e0 : Nat) : Int), .int .i64 (skE l e0)]) fun _ => rfl) A rfl rfl rfl rfl rfl rfl rfl fun A => N hX 14 A rfl rfl fun A => forkN 24 A rfl
    (fun h2 A => N hX 11 A rfl rfl fun A => RET (x := .tup [.sla none 0 0, .int .i64 (skE l e0), .int .i64 ((skp l e0 : Nat) : Int)]) (H' := []) hX [] A (by have e := (hI.rem h2).1; unfold TkR; rw [e]; have e2 := (hI.rem h2).2; rw [e2]; exact .inr ⟨(by show (24 : Int) ≠ 0; decide), rfl, rfl⟩) rfl rfl rfl rfl rfl rfl rfl rfl h0)
    (fun h2 A => N hX 18 A rfl rfl fun A => forkD 31 A rfl
     (fun h3 A => N hX 10 A rfl rfl fun A => RET (x := .tup [.sl 0 ws.length 0, .int .i64 0, .int .i64 0]) (H' := [some (.row 28 4 ws.length 0 (fun zz => tkc (ws.getD zz tok0)))]) hX [0] A (by have e := hI.done h2 (by have := hI.sk; omega); unfold TkR; rw [e]; exact .inl ⟨rfl, rfl, rfl⟩) rfl rfl rfl rfl rfl rfl rfl rfl h0)
     (fun h3 A => N hX 8 A rfl (ok_d (by have hs := hI.sk; have hle := hI.le; have hwl := hI.wl; have r1 := rn_le numB (l.drop (skp l e0)); have r2 := rn_le namB (l.drop (skp l e0)); rw [List.length_drop] at r1 r2; omega) <| okE_nil) fun A => N hX 15 A rfl (ok_d (by have hs := hI.sk; have hle := hI.le; have hwl := hI.wl; have r1 := rn_le numB (l.drop (skp l e0)); have r2 := rn_le namB (l.drop (skp l e0)); rw [List.length_drop] at r1 r2; omega) <| okE_nil) fun A => N hX 8 A rfl rfl fun A => CALL1 [] (rdigit_b (l.getD (((skp l e0 : Nat) : Int)).toNat 0)) A rfl rfl rfl rfl rfl rfl rfl fun A => N hX 3 A rfl rfl fun A => fork 41 A rfl
      (fun h4 A => N hX 5 A rfl rfl fun A => CALL1 [] (rrun_num l (skp l e0) hI.sk (by omega)) A rfl rfl rfl rfl rfl rfl rfl fun A => N hX 9 A rfl (ok_d (by have hs := hI.sk; have hle := hI.le; have hwl := hI.wl; have r1 := rn_le numB (l.drop (skp l e0)); have r2 := rn_le namB (l.drop (skp l e0)); rw [List.length_drop] at r1 r2; omega) <| okE_nil) fun A => CALL1 [] (rvalue_ ((l.take ((((skp l e0 + rn numB (l.drop (skp l e0)) : Nat)) : Int)).toNat).drop (((skp l e0 : Nat) : Int)).toNat) (by have hs := hI.sk; have hle := hI.le; have hwl := hI.wl; have r1 := rn_le numB (l.drop (skp l e0)); have r2 := rn_le namB (l.drop (skp l e0)); rw [List.length_drop] at r1 r2; rw [List.length_drop, List.length_take]; omega)) A rfl rfl rfl rfl rfl rfl rfl fun A => N hX 14 A rfl rfl fun A => fork 56 A rfl
       (fun h5 A => N hX 10 A rfl rfl fun A => RET (x := .tup [.sla none 0 0, .int .i64 23, .int .i64 ((skp l e0 : Nat) : Int)]) (H' := []) hX [] A (by have e := tk_bn hI h2 h3 h4 h5; unfold TkR; rw [e]; exact .inr ⟨(by show (23 : Int) ≠ 0; decide), rfl, rfl⟩) rfl rfl rfl rfl rfl rfl rfl rfl h0)
       (fun h5 A => N hX 22 A rfl (ok_d (by have hs := hI.sk; have hle := hI.le; have hwl := hI.wl; have r1 := rn_le numB (l.drop (skp l e0)); have r2 := rn_le namB (l.drop (skp l e0)); rw [List.length_drop] at r1 r2; omega) <| okE_nil) fun A => N hX 9 A rfl rfl fun A => APP1 hX (ws.length + 1) (fun zz => tkc ((ws ++ [(⟨2, (l.take ((((skp l e0 + rn numB (l.drop (skp l e0)) : Nat)) : Int)).toNat).drop (((skp l e0 : Nat) : Int)).toNat, numI ((l.take ((((skp l e0 + rn numB (l.drop (skp l e0)) : Nat)) : Int)).toNat).drop (((skp l e0 : Nat) : Int)).toNat), ((skp l e0 : Nat) : Int)⟩ : Tk)]).getD zz tok0)) A rfl rfl rfl rfl (by have hs := hI.sk; have hle := hI.le; have hwl := hI.wl; have r1 := rn_le numB (l.drop (skp l e0)); have r2 := rn_le namB (l.drop (skp l e0)); rw [List.length_drop] at r1 r2; omega) rfl (fun k hk => by show tkc _ = tkc _; rw [tk_app hk]) (by show tkc _ = _; rw [tk_new]; rfl) (fun z => ⟨_, rfl, rfl⟩) fun A => have A := (A.rowAs 3 ((ws ++ [(⟨2, (l.take ((((skp l e0 + rn numB (l.drop (skp l e0)) : Nat)) : Int)).toNat).drop (((skp l e0 : Nat) : Int)).toNat, numI ((l.take ((((skp l e0 + rn numB (l.drop (skp l e0)) : Nat)) : Int)).toNat).drop (((skp l e0 : Nat) : Int)).toNat), ((skp l e0 : Nat) : Int)⟩ : Tk)]).length) (fun zz => tkc ((ws ++ [(⟨2, (l.take ((((skp l e0 + rn numB (l.drop (skp l e0)) : Nat)) : Int)).toNat).drop (((skp l e0 : Nat) : Int)).toNat, numI ((l.take ((((skp l e0 + rn numB (l.drop (skp l e0)) : Nat)) : Int)).toNat).drop (((skp l e0 : Nat) : Int)).toNat), ((skp l e0 : Nat) : Int)⟩ : Tk)]).getD zz tok0)) rfl (by rw [List.length_append]; rfl) (fun q hq => rfl) (fun z => ⟨_, rfl, rfl⟩)).say 110 (.sl 3 ((ws ++ [(⟨2, (l.take ((((skp l e0 + rn numB (l.drop (skp l e0)) : Nat)) : Int)).toNat).drop (((skp l e0 : Nat) : Int)).toNat, numI ((l.take ((((skp l e0 + rn numB (l.drop (skp l e0)) : Nat)) : Int)).toNat).drop (((skp l e0 : Nat) : Int)).toNat), ((skp l e0 : Nat) : Int)⟩ : Tk)]).length) 0) rfl (by rw [List.length_append] <;> rfl); N hX 8 A rfl rfl fun A => ⟨skp l e0 + rn numB (l.drop (skp l e0)), ws ++ [(⟨2, (l.take ((((skp l e0 + rn numB (l.drop (skp l e0)) : Nat)) : Int)).toNat).drop (((skp l e0 : Nat) : Int)).toNat, numI ((l.take ((((skp l e0 + rn numB (l.drop (skp l e0)) : Nat)) : Int)).toNat).drop (((skp l e0 : Nat) : Int)).toNat), ((skp l e0 : Nat) : Int)⟩ : Tk)], _, (by have q := (tk_num hI h2 h3 h4 h5).2; have hq : e0 ≤ skp l e0 := (by unfold skp; omega); omega), (tk_num hI h2 h3 h4 h5).1, ((A.cut [0, 2, 3, 4, 5, 6] rfl).mv 0 [3] rfl rfl rfl rfl (by simp only [List.length_cons, List.length_nil] at h0; omega))⟩))
      (fun h4 A => N hX 4 A rfl rfl fun A => CALL1 [] (rletter_b (l.getD (((skp l e0 : Nat) : Int)).toNat 0)) A rfl rfl rfl rfl rfl rfl rfl fun A => N hX 3 A rfl rfl fun A => N hX 1 A rfl rfl fun A => N hX 3 A rfl rfl fun A => fork 61 A rfl
       (fun h6 A => N hX 5 A rfl rfl fun A => CALL1 [] (rrun_nam l (skp l e0) hI.sk (by omega)) A rfl rfl rfl rfl rfl rfl rfl fun A => N hX 15 A rfl (ok_d (by have hs := hI.sk; have hle := hI.le; have hwl := hI.wl; have r1 := rn_le numB (l.drop (skp l e0)); have r2 := rn_le namB (l.drop (skp l e0)); rw [List.length_drop] at r1 r2; omega) <| okE_nil) fun A => N hX 9 A rfl rfl fun A => APP1 hX (ws.length + 1) (fun zz => tkc ((ws ++ [(⟨1, (l.take ((((skp l e0 + rn namB (l.drop (skp l e0)) : Nat)) : Int)).toNat).drop (((skp l e0 : Nat) : Int)).toNat, 0, ((skp l e0 : Nat) : Int)⟩ : Tk)]).getD zz tok0)) A rfl rfl rfl rfl (by have hs := hI.sk; have hle := hI.le; have hwl := hI.wl; have r1 := rn_le numB (l.drop (skp l e0)); have r2 := rn_le namB (l.drop (skp l e0)); rw [List.length_drop] at r1 r2; omega) rfl (fun k hk => by show tkc _ = tkc _; rw [tk_app hk]) (by show tkc _ = _; rw [tk_new]; rfl) (fun z => ⟨_, rfl, rfl⟩) fun A => have A := (A.rowAs 3 ((ws ++ [(⟨1, (l.take ((((skp l e0 + rn namB (l.drop (skp l e0)) : Nat)) : Int)).toNat).drop (((skp l e0 : Nat) : Int)).toNat, 0, ((skp l e0 : Nat) : Int)⟩ : Tk)]).length) (fun zz => tkc ((ws ++ [(⟨1, (l.take ((((skp l e0 + rn namB (l.drop (skp l e0)) : Nat)) : Int)).toNat).drop (((skp l e0 : Nat) : Int)).toNat, 0, ((skp l e0 : Nat) : Int)⟩ : Tk)]).getD zz tok0)) rfl (by rw [List.length_append]; rfl) (fun q hq => rfl) (fun z => ⟨_, rfl, rfl⟩)).say 110 (.sl 3 ((ws ++ [(⟨1, (l.take ((((skp l e0 + rn namB (l.drop (skp l e0)) : Nat)) : Int)).toNat).drop (((skp l e0 : Nat) : Int)).toNat, 0, ((skp l e0 : Nat) : Int)⟩ : Tk)]).length) 0) rfl (by rw [List.length_append] <;> rfl); N hX 8 A rfl rfl fun A => ⟨skp l e0 + rn namB (l.drop (skp l e0)), ws ++ [(⟨1, (l.take ((((skp l e0 + rn namB (l.drop (skp l e0)) : Nat)) : Int)).toNat).drop (((skp l e0 : Nat) : Int)).toNat, 0, ((skp l e0 : Nat) : Int)⟩ : Tk)], _, (by have q := (tk_name hI h2 h3 h4 h6).2; have hq : e0 ≤ skp l e0 := (by unfold skp; omega); omega), (tk_name hI h2 h3 h4 h6).1, ((A.cut [0, 2, 3, 4, 5, 6] rfl).mv 0 [3] rfl rfl rfl rfl (by simp only [List.length_cons, List.length_nil] at h0; omega))⟩)
       (fun h6 A => N hX 4 A rfl rfl fun A => CALL1 [] (rmark_b (l.getD (((skp l e0 : Nat) : Int)).toNat 0)) A rfl rfl rfl rfl rfl rfl rfl fun A => N hX 3 A rfl rfl fun A => fork 72 A rfl
        (fun h7 A => N hX 11 A rfl rfl fun A => N hX 1 A rfl rfl fun A => N hX 3 A rfl (ok_r <| ok_r <| ok_g (fun hg => (by (try simp at hg); have hs := hI.sk; have hle := hI.le; have hwl := hI.wl; have r1 := rn_le numB (l.drop (skp l e0)); have r2 := rn_le namB (l.drop (skp l e0)); rw [List.length_drop] at r1 r2; omega)) <| okE_nil) fun A => N hX 1 A rfl rfl fun A => N hX 1 A rfl rfl fun A => N hX 1 A rfl rfl fun A => N hX 2 A rfl rfl fun A => N hX 1 A rfl rfl fun A => N hX 3 A rfl (ok_r <| ok_r <| ok_g (fun hg => (by (try simp at hg); have hs := hI.sk; have hle := hI.le; have hwl := hI.wl; have r1 := rn_le numB (l.drop (skp l e0)); have r2 := rn_le namB (l.drop (skp l e0)); rw [List.length_drop] at r1 r2; omega)) <| okE_nil) fun A => N hX 1 A rfl rfl fun A => N hX 1 A rfl rfl fun A => N hX 1 A rfl rfl fun A => N hX 1 A rfl rfl fun A => N hX 2 A rfl rfl fun A => fork 98 A rfl
         (fun h8 A => N hX 4 A rfl (ok_d (by have hs := hI.sk; have hle := hI.le; have hwl := hI.wl; have r1 := rn_le numB (l.drop (skp l e0)); have r2 := rn_le namB (l.drop (skp l e0)); rw [List.length_drop] at r1 r2; have r3 := (of_and h8); omega) <| okE_nil) fun A => N hX 15 A rfl (ok_d (by have hs := hI.sk; have hle := hI.le; have hwl := hI.wl; have r1 := rn_le numB (l.drop (skp l e0)); have r2 := rn_le namB (l.drop (skp l e0)); rw [List.length_drop] at r1 r2; have r3 := (of_and h8); omega) <| okE_nil) fun A => N hX 9 A rfl rfl fun A => APP1 hX (ws.length + 1) (fun zz => tkc ((ws ++ [(⟨3, (l.take ((((skp l e0 : Nat) : Int) + 1) + 1).toNat).drop (((skp l e0 : Nat) : Int)).toNat, 0, ((skp l e0 : Nat) : Int)⟩ : Tk)]).getD zz tok0)) A rfl rfl rfl rfl (by have hs := hI.sk; have hle := hI.le; have hwl := hI.wl; have r1 := rn_le numB (l.drop (skp l e0)); have r2 := rn_le namB (l.drop (skp l e0)); rw [List.length_drop] at r1 r2; have r3 := (of_and h8); omega) rfl (fun k hk => by show tkc _ = tkc _; rw [tk_app hk]) (by show tkc _ = _; rw [tk_new]; rfl) (fun z => ⟨_, rfl, rfl⟩) fun A => have A := (A.rowAs 3 ((ws ++ [(⟨3, (l.take ((((skp l e0 : Nat) : Int) + 1) + 1).toNat).drop (((skp l e0 : Nat) : Int)).toNat, 0, ((skp l e0 : Nat) : Int)⟩ : Tk)]).length) (fun zz => tkc ((ws ++ [(⟨3, (l.take ((((skp l e0 : Nat) : Int) + 1) + 1).toNat).drop (((skp l e0 : Nat) : Int)).toNat, 0, ((skp l e0 : Nat) : Int)⟩ : Tk)]).getD zz tok0)) rfl (by rw [List.length_append]; rfl) (fun q hq => rfl) (fun z => ⟨_, rfl, rfl⟩)).say 110 (.sl 3 ((ws ++ [(⟨3, (l.take ((((skp l e0 : Nat) : Int) + 1) + 1).toNat).drop (((skp l e0 : Nat) : Int)).toNat, 0, ((skp l e0 : Nat) : Int)⟩ : Tk)]).length) 0) rfl (by rw [List.length_append] <;> rfl); N hX 8 A rfl rfl fun A => ⟨skp l e0 + 1 + 1, ws ++ [(⟨3, (l.take ((((skp l e0 : Nat) : Int) + 1) + 1).toNat).drop (((skp l e0 : Nat) : Int)).toNat, 0, ((skp l e0 : Nat) : Int)⟩ : Tk)], _, (by have q := (tk_m2 hI h2 h3 h4 h6 h7 h8).2; have hq : e0 ≤ skp l e0 := (by unfold skp; omega); omega), (tk_m2 hI h2 h3 h4 h6 h7 h8).1, ((A.cut [0, 2, 3, 4, 5, 6] rfl).mv 0 [3] rfl rfl rfl rfl (by simp only [List.length_cons, List.length_nil] at h0; omega))⟩)
         (fun h8 A => N hX 15 A rfl (ok_d (by have hs := hI.sk; have hle := hI.le; have hwl := hI.wl; have r1 := rn_le numB (l.drop (skp l e0)); have r2 := rn_le namB (l.drop (skp l e0)); rw [List.length_drop] at r1 r2; omega) <| okE_nil) fun A => N hX 9 A rfl rfl fun A => APP1 hX (ws.length + 1) (fun zz => tkc ((ws ++ [(⟨3, (l.take (((skp l e0 : Nat) : Int) + 1).toNat).drop (((skp l e0 : Nat) : Int)).toNat, 0, ((skp l e0 : Nat) : Int)⟩ : Tk)]).getD zz tok0)) A rfl rfl rfl rfl (by have hs := hI.sk; have hle := hI.le; have hwl := hI.wl; have r1 := rn_le numB (l.drop (skp l e0)); have r2 := rn_le namB (l.drop (skp l e0)); rw [List.length_drop] at r1 r2; omega) rfl (fun k hk => by show tkc _ = tkc _; rw [tk_app hk]) (by show tkc _ = _; rw [tk_new]; rfl) (fun z => ⟨_, rfl, rfl⟩) fun A => have A := (A.rowAs 3 ((ws ++ [(⟨3, (l.take (((skp l e0 : Nat) : Int) + 1).toNat).drop (((skp l e0 : Nat) : Int)).toNat, 0, ((skp l e0 : Nat) : Int)⟩ : Tk)]).length) (fun zz => tkc ((ws ++ [(⟨3, (l.take (((skp l e0 : Nat) : Int) + 1).toNat).drop (((skp l e0 : Nat) : Int)).toNat, 0, ((skp l e0 : Nat) : Int)⟩ : Tk)]).getD zz tok0)) rfl (by rw [List.length_append]; rfl) (fun q hq => rfl) (fun z => ⟨_, rfl, rfl⟩)).say 110 (.sl 3 ((ws ++ [(⟨3, (l.take (((skp l e0 : Nat) : Int) + 1).toNat).drop (((skp l e0 : Nat) : Int)).toNat, 0, ((skp l e0 : Nat) : Int)⟩ : Tk)]).length) 0) rfl (by rw [List.length_append] <;> rfl); N hX 8 A rfl rfl fun A => ⟨skp l e0 + 1, ws ++ [(⟨3, (l.take (((skp l e0 : Nat) : Int) + 1).toNat).drop (((skp l e0 : Nat) : Int)).toNat, 0, ((skp l e0 : Nat) : Int)⟩ : Tk)], _, (by have q := (tk_m1 hI h2 h3 h4 h6 h7 h8).2; have hq : e0 ≤ skp l e0 := (by unfold skp; omega); omega), (tk_m1 hI h2 h3 h4 h6 h7 h8).1, ((A.cut [0, 2, 3, 4, 5, 6] rfl).mv 0 [3] rfl rfl rfl rfl (by simp only [List.length_cons, List.length_nil] at h0; omega))⟩))
        (fun h7 A => N hX 10 A rfl rfl fun A => RET (x := .tup [.sla none 0 0, .int .i64 20, .int .i64 ((skp l e0 : Nat) : Int)]) (H' := []) hX [] A (by have e := tk_bb hI h2 h3 h4 h6 h7; unfold TkR; rw [e]; exact .inr ⟨(by show (20 : Int) ≠ 0; decide), rfl, rfl⟩) rfl rfl rfl rfl rfl rfl rfl rfl h0))))))
end Go.Proofs.YtedlaclfhgneeaaGreatDoor
/- The reference's one name. -/
namespace Go.Proofs.YtedlaclfhgneeaaGreatDoor
open Go.RowKit
set_option linter.unusedVariables false
set_option linter.unusedSimpArgs false
set_option maxRecDepth 100000
set_option maxHeartbeats 2000000
set_option simprocs false
theorem fn_mono {P : Program} {f : Nat} {az : List SV} {H : Hp} {R R' : SV → Hp → Prop} (h : Fn P f az H R) (e : ∀ x H2, R x H2 → R' x H2) : Fn P f az H R' := ⟨h.1, fun G w vs hM hv => Calls.mono (h.2 G w vs hM hv) fun e' w' ⟨x', H', F, v, q, r⟩ => ⟨x', H', F, v, e _ _ q, r⟩⟩
theorem rtok_ok (l : List UInt8) (ws : List Tk) (h : tokensR l = (ws, 0, 0)) : Fn Tryz.prog 91 [.str l] [] (Rt (.tup [.sl 0 ws.length 0, .int .i64 0, .int .i64 0]) [some (.row 28 4 ws.length 0 (fun zz => tkc (ws.getD zz tok0)))]) := fn_mono (rtokens_ l) fun x H2 q => by
  unfold TkR at q
  rw [h] at q
  rcases q with ⟨_, q1, q2⟩ | ⟨q1, _⟩
  · exact ⟨q1, q2⟩
  · exact absurd rfl q1
theorem rtok_no (l : List UInt8) (e : Int) (k : Nat) (h : tokensR l = ([], e, k)) (he : e ≠ 0) : Fn Tryz.prog 91 [.str l] [] (Rt (.tup [.sla none 0 0, .int .i64 e, .int .i64 (k : Int)]) []) := fn_mono (rtokens_ l) fun x H2 q => by
  unfold TkR at q
  rw [h] at q
  rcases q with ⟨q1, _⟩ | ⟨_, q1, q2⟩
  · exact absurd q1 he
  · exact ⟨q1, q2⟩
theorem rone_ (l : List UInt8)  : Fn Tryz.prog 40 [.str l] [] (Rt (.bool (oneN l)) []) :=
 enterM (n := 34) (by kernel_rfl) Tryz.func40 rfl rfl rfl fun G w a h0 A => N hX 8 A rfl rfl fun A => tokSp (l := l)
  (fun ws ht => CALL1 [] (rtok_ok l ws ht) A rfl rfl rfl rfl rfl rfl rfl fun A => N hX 13 A rfl rfl fun A => have A := sy_sayD A 13 (.tt) rfl (fun _ => congrArg (fun b => some (Value.bool b)) (show (0 == 0) = true by decide)); N hX 24 A rfl (ok_r <| ok_g (fun hg => (by have h := hg; simp at h; omega)) <| ok_r <| ok_g (fun hg => (by have h := hg; simp at h; omega)) <| ok_r <| ok_g (fun hg => (by have h := hg; simp at h; omega)) <| ok_r <| ok_r <| ok_r <| ok_g (fun hg => (by have h := hg; simp at h; omega)) <| ok_r <| ok_g (fun hg => (by have h := hg; simp at h; omega)) <| ok_r <| ok_g (fun hg => (by have h := hg; simp at h; omega)) <| ok_r <| ok_r <| ok_r <| okE_nil) fun A => RETN hX A rfl rfl rfl h0 rfl rfl rfl rfl (by unfold oneN; rw [ht]; exact congrArg SV.bool (one_is ws l)) rfl)
  (fun e k he ht => CALL1 [] (rtok_no l e k ht he) A rfl rfl rfl rfl rfl rfl rfl fun A => N hX 13 A rfl rfl fun A => have A := sy_sayD A 13 (.ff) rfl (fun _ => congrArg (fun b => some (Value.bool b)) (show (e == 0) = false by simpa using he)); N hX 24 A rfl rfl fun A => RETN hX A rfl rfl rfl h0 rfl rfl rfl rfl (by unfold oneN; rw [ht]; simp [he, oneS, nb]) rfl)
end Go.Proofs.YtedlaclfhgneeaaGreatDoor
/- The reference's Print, at x86. -/
namespace Go.Proofs.YtedlaclfhgneeaaGreatDoor
open Go.RowKit
set_option linter.unusedVariables false
set_option linter.unusedSimpArgs false
set_option maxRecDepth 100000
set_option maxHeartbeats 2000000
set_option simprocs false
section
variable {i : In} {lb : List UInt8}
theorem sndO_of (h : Old.rightR (toO i) 0 1 = 0) : Old.soundB (toO i) = true := by
  unfold Old.rightR at h
  cases hs : (Old.insEq (toO i) (Old.plainF (toO i)) && Old.soundB (toO i))
  · rw [hs, if_neg Bool.false_ne_true] at h; exact absurd h (by decide)
  · exact (Bool.and_eq_true _ _ ▸ hs).2
theorem rightO_fn (h : Old.rightR (toO i) 0 1 = 0) (h3 : i.op = 3) : 0 ≤ i.fn ∧ i.fn < 6 := by
  have := sndO_of h
  set_option simprocs true in simp [Old.soundB, toO, h3] at this
  omega
theorem accO_loc (h : Old.accB (toO i) = true) : 0 ≤ i.loc ∧ i.loc < 3 := by
  unfold Old.accB at h
  simp only [Bool.and_eq_true, decide_eq_true_eq] at h
  exact ⟨h.1.1.1, h.1.1.2⟩
theorem rightO_loc (h : Old.rightR (toO i) 0 1 = 0) (h1 : i.op ≠ 1) (h2 : i.op ≠ 2) (h3 : i.op ≠ 3) (h9 : i.op ≠ 9) (h7 : i.op ≠ 7) (h8 : i.op ≠ 8) : 0 ≤ i.loc ∧ i.loc < 3 := by
  have hs := sndO_of h
  apply accO_loc
  generalize ha : Old.accB (toO i) = ab at *
  have e : (toO i).op = i.op := rfl
  unfold Old.soundB at hs
  rw [ha, e] at hs
  by_cases h4 : i.op = 4
  · set_option simprocs true in simp [h4] at hs
    exact hs.1.2
  · by_cases h5 : i.op = 5
    · set_option simprocs true in simp [h5] at hs
      exact hs.2
    · by_cases h6 : i.op = 6
      · set_option simprocs true in simp [h6] at hs
        exact hs.1.2
      · set_option simprocs true in simp [h1, h2, h3, h4, h5, h6, h7, h8, h9] at hs
theorem prR_is2 (i : In) (lb : List UInt8) : Old.prR (toO i) lb = if i.op = 9 then (if Old.rightR (toO ({ i with to_ := 1 } : In)) 0 1 = 0 then (if Old.txtT (toO i) lb = [] then ([], 36) else if oneN lb = true then (Old.txtT (toO i) lb, 0) else ([], 37)) else ([], 34)) else (if Old.rightR (toO i) 0 1 = 0 then (if Old.txtT (toO i) lb = [] then ([], 36) else (Old.txtT (toO i) lb, 0)) else ([], 34)) := by
  unfold Old.prR
  have e : (eqL (Old.txtT (toO i) lb) [] = true) = (Old.txtT (toO i) lb = []) := propext ⟨eqL_eq, fun h => by rw [h]; exact eqL_same _⟩
  rw [one_o]
  simp only [beq_iff_eq, e]
  rfl
end
theorem rprint_ (i : In) (lb : List UInt8) (ho : -9223372036854775808 ≤ i.off ∧ i.off ≤ 9223372036854775807) (hm : -9223372036854775808 ≤ i.imm ∧ i.imm ≤ 9223372036854775807) (hb : lb.length ≤ 100000) : Fn Tryz.prog 14 [.int .i64 1, .agg (inQ9 i), .str lb] [] (Rt (.tup [.str ((Old.prR (toO i) lb).1), .int .i64 ((Old.prR (toO i) lb).2)]) []) :=
 enterM (n := 33) (by kernel_rfl) Tryz.func14 rfl rfl rfl fun G w a h0 A => N hX 22 A rfl rfl fun A => forkE 13 A rfl
  (fun h1 A => N hX 10 A rfl rfl fun A => CALL1 [] (fn_asX (rright_ ({ i with to_ := 1 } : In) 0 1) (as_int (rright_o _ _ _))) A rfl rfl rfl rfl rfl rfl rfl fun A => N hX 3 A rfl rfl fun A => forkN 17 A rfl
   (fun h2 A => N hX 8 A rfl rfl fun A => RETN hX A rfl rfl rfl h0 rfl rfl rfl rfl (by rw [prR_is2, if_pos h1, if_neg h2]; rfl) rfl)
   (fun h2 A => N hX 8 A rfl rfl fun A => CALL1 [] (rtxt_x i lb (fun z => by omega) (fun _ _ _ z _ _ => absurd h1 z) ho hm hb) A rfl rfl rfl rfl rfl rfl rfl fun A => N hX 10 A rfl rfl fun A => forkE 23 A rfl
    (fun h3 A => N hX 8 A rfl rfl fun A => RETN hX A rfl rfl rfl h0 rfl rfl rfl rfl (by rw [prR_is2, if_pos h1, if_pos h2, if_pos h3]; rfl) rfl)
    (fun h3 A => N hX 10 A rfl rfl fun A => forkE 27 A rfl
     (fun h4 A => N hX 1 A rfl rfl fun A => CALL1 [] (rone_ lb) A rfl rfl rfl rfl rfl rfl rfl fun A => N hX 4 A rfl rfl fun A => fork 31 A rfl
      (fun h5 A => N hX 8 A rfl rfl fun A => RETN hX A rfl rfl rfl h0 rfl rfl rfl rfl (by rw [prR_is2, if_pos h1, if_pos h2, if_neg h3, if_neg (by have z := h5; revert z; cases oneN lb <;> decide)]; rfl) rfl)
      (fun h5 A => N hX 11 A rfl rfl fun A => RETN hX A rfl rfl rfl h0 rfl rfl rfl rfl (by rw [prR_is2, if_pos h1, if_pos h2, if_neg h3, if_pos (by have z := h5; revert z; cases oneN lb <;> decide)]; rfl) rfl))
     (fun h4 A => N hX 17 A rfl rfl fun A => RETN hX A rfl rfl rfl h0 rfl rfl rfl rfl (absurd h1 h4) rfl))))
  (fun h1 A => N hX 7 A rfl rfl fun A => CALL1 [] (fn_asX (rright_ i 0 1) (as_int (rright_o _ _ _))) A rfl rfl rfl rfl rfl rfl rfl fun A => N hX 3 A rfl rfl fun A => forkN 17 A rfl
   (fun h6 A => N hX 8 A rfl rfl fun A => RETN hX A rfl rfl rfl h0 rfl rfl rfl rfl (by rw [prR_is2, if_neg h1, if_neg h6]; rfl) rfl)
   (fun h6 A => N hX 8 A rfl rfl fun A => CALL1 [] (rtxt_x i lb (rightO_fn h6) (rightO_loc h6) ho hm hb) A rfl rfl rfl rfl rfl rfl rfl fun A => N hX 10 A rfl rfl fun A => forkE 23 A rfl
    (fun h7 A => N hX 8 A rfl rfl fun A => RETN hX A rfl rfl rfl h0 rfl rfl rfl rfl (by rw [prR_is2, if_neg h1, if_pos h6, if_pos h7]; rfl) rfl)
    (fun h7 A => N hX 10 A rfl rfl fun A => forkE 27 A rfl
     (fun h8 A => N hX 1 A rfl rfl fun A => CALL1 [] (rone_ lb) A rfl rfl rfl rfl rfl rfl rfl fun A => N hX 4 A rfl rfl fun A => fork 31 A rfl
      (fun h9 A => N hX 8 A rfl rfl fun A => RETN hX A rfl rfl rfl h0 rfl rfl rfl rfl (absurd h8 h1) rfl)
      (fun h9 A => N hX 11 A rfl rfl fun A => RETN hX A rfl rfl rfl h0 rfl rfl rfl rfl (absurd h8 h1) rfl))
     (fun h8 A => N hX 17 A rfl rfl fun A => RETN hX A rfl rfl rfl h0 rfl rfl rfl rfl (by rw [prR_is2, if_neg h1, if_pos h6, if_neg h7]; rfl) rfl))))
end Go.Proofs.YtedlaclfhgneeaaGreatDoor
/- x86.Parse. -/
namespace Go.Proofs.YtedlaclfhgneeaaGreatDoor
open Go.RowKit
set_option linter.unusedVariables false
set_option linter.unusedSimpArgs false
set_option maxRecDepth 100000
set_option maxHeartbeats 2000000
set_option simprocs false
theorem xparse_ (ws : List Tk) (d : Nat) (hn : ws.length ≤ 1000000) (hw : WsOK ws) (os : List (Nat × Obj)) (hM : ∀ w ks, Gl os w ks → ∃ m, w.cell? ⟨0, 0, none⟩ = some (.int .i64 m)) : FnI (Gl os) Tryz.prog 11 [.sl 0 ws.length d] [some (.lst 4 ws.length (fun zz => tkc (ws.getD zz tok0)))] (Rt (.tup [.agg (inQ9 (parI x86G ws x86C)), .str (parT x86G ws x86C), .int .i64 (parE x86G ws x86C), .int .i64 (parA x86G ws x86C)]) [some (.lst 4 ws.length (fun zz => tkc (ws.getD zz tok0)))]) :=
 enterI (n := 13) (by kernel_rfl) Tryz.func11 rfl rfl rfl fun G w a h0 hI A => N hX 10 A rfl rfl fun A => CALLAGG (t := 6) (l := [.str [82, 65, 88], .str [82, 66, 88], .str [82, 67, 88], .str [82, 68, 88], .str [82, 83, 73], .str [82, 68, 73], .str [82, 56], .str [82, 57], .str [66], .str [87], .str [76], .str [81], .str [36], .str [], .str [], .str []]) (F := fun (L : List Rw) zz => rwc (L.getD zz Rw.z)) (R := fun L b w w' => L.map tm = x86T ∧ RowsIn w.heap.size L w' [b]) xlang_ A rfl rfl fun L b cp a1 w1 G1 hR hlo hkk A => have hl20 : L.length = 20 := (by have q := congrArg List.length hR.1; rw [List.length_map] at q; exact q.trans (by decide +kernel)); have hRI := rows_keys hR.2 hkk; have B0 := A; have A := A.base; have A := A.rowAs 2 L.length (fun zz => rwc (L.getD zz Rw.z)) rfl hl20 (fun _ _ => rfl) (fun z => ⟨_, rfl, rfl⟩); have A := A.say 6 (.agg [.str [82, 65, 88], .str [82, 66, 88], .str [82, 67, 88], .str [82, 68, 88], .str [82, 83, 73], .str [82, 68, 73], .str [82, 56], .str [82, 57], .str [66], .str [87], .str [76], .str [81], .str [36], .str [], .str [], .str [], .sl 2 L.length 0]) rfl (by rw [hl20] <;> rfl); have A := A.freeze 2 rfl; have hTb := RowsIn.ok.now A hRI; have B := B0.trans A; have A := A.base; have hI2 : PrI os L _ _ := ⟨fun r hr => (hTb r hr).1, Gl.ok.now B hI⟩; N hX 1 A rfl rfl fun A => CALLI [2, 0] PrI.ok hI2 (lparse_ x86G L 0 ws d hn hw os hM (x86_pa hR.1)) A rfl rfl rfl rfl rfl rfl rfl fun A => N hX 11 A rfl rfl fun A => have e := x86_par hR.1 ws; RETN hX (B.trans A) rfl rfl rfl h0 rfl rfl rfl rfl (by rw [← e.1, ← e.2.1, ← e.2.2.1, ← e.2.2.2] <;> rfl) rfl
end Go.Proofs.YtedlaclfhgneeaaGreatDoor
