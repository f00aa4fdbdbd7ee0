/- The reference's paths: more, from. -/
import Derived.Test.YtmieaninmidelaaFlowRunsP4
namespace Go.Proofs.Ytmieaninmidelaa
open Go.RowKit
set_option linter.unusedVariables false
set_option linter.unusedSimpArgs false
set_option maxRecDepth 100000
set_option maxHeartbeats 2000000
set_option simprocs false
def Pt.z : Pt := ⟨none, 0, []⟩
abbrev Pt.c (p : Pt) : List SV := [.sla p.ao p.ps.length p.cp]
abbrev lsP (L : List Pt) : Option Ent := some (.lst 1 L.length fun zz => Pt.c (L.getD zz Pt.z))
theorem keysP {L : List Pt} {G : Gr} (b : Nat) : (keys [lsP L] G).contains b = false := keys1 b
theorem nokey {ks : List Nat} {k : Nat} {Q : Prop} (h : ks.contains k = false) (hk : ks.contains k = true) : Q := by rw [h] at hk; cases hk
/-- paths that are read: they lie, in none of these blocks -/
def Lie (w : World) (ks : List Nat) (L : List Pt) : Prop := ∀ p ∈ L, Ro 3 w p.ao p.ps.length p.cp (iv p.ps) ∧ ∀ k, (bl p.ao).contains k = true → ks.contains k = false
theorem Lie.mix {w w' : World} {ks ks' : List Nat} {L : List Pt} (h : Lie w ks L) (m : Mix ks' w w') (hk : ∀ k, k < w.heap.size → ks'.contains k = true → ks.contains k = true) : Lie w' ks L := fun p hp => by
  obtain ⟨h1, h2⟩ := h p hp
  refine ⟨h1.mix m fun k hk' => ?_, h2⟩
  cases hc : ks'.contains k with
  | false => rfl
  | true => have := hk k (h1.lt hk') hc; rw [h2 k hk'] at this; cases this
theorem Lie.mix2 {w w' : World} {ks ks' : List Nat} {L : List Pt} (h : Lie w ks L) (m : Mix ks' w w') (hk : ∀ p ∈ L, ∀ k, (bl p.ao).contains k = true → ks'.contains k = false) : Lie w' ks L := fun p hp => ⟨(h p hp).1.mix m (hk p hp), (h p hp).2⟩
theorem OutP.mix2 {lo cp : Nat} {w w' : World} {L : List Pt} {ks : List Nat} {ao : Option Addr} (h : OutP lo w ao cp L) (m : Mix ks w w') (hk : ∀ k, ((bl ao).contains k = true ∨ ∃ p ∈ L, (bl p.ao).contains k = true) → ks.contains k = false) : OutP lo w' ao cp L := by
  rcases h with ⟨rfl, rfl, rfl⟩ | ⟨b, rfl, h⟩
  · exact .inl ⟨rfl, rfl, rfl⟩
  · exact .inr ⟨b, rfl, h.ro.mix m fun k hk' => hk k (.inl hk'), h.lb, fun p hp => ⟨(h.el p hp).ro.mix m fun k hk' => hk k (.inr ⟨p, hp, hk'⟩), (h.el p hp).lo⟩, h.ap⟩
structure MZ where (i : Nat) (ao : Option Addr) (cp : Nat) (L : List Pt)
structure MoI (lo : Nat) (ao : Option Addr) (Lo : List Pt) (kk : Int) (L2 : List Pt) (w0 : World) (z : MZ) (w : World) : Prop where
  ll : lo ≤ w.heap.size
  out : OutP lo w z.ao z.cp z.L
  lie : Lie w (bl z.ao) L2
  le : z.i ≤ L2.length
  len : z.L.length = Lo.length + z.i
  eq : z.L.map Pt.ps = Lo.map Pt.ps ++ (L2.take z.i).map fun p => kk :: p.ps
  ks : ∀ b, (bl z.ao).contains b = true → (bl ao).contains b = true ∨ w0.heap.size ≤ b
def MoJ (lo : Nat) (Lo : List Pt) (kk : Int) (L2 : List Pt) : SV → World → World → Prop := fun x w w' => ∃ ao' cp' Lo', x = .sla ao' Lo'.length cp' ∧ OutP lo w' ao' cp' Lo' ∧ Lo'.map Pt.ps = Lo.map Pt.ps ++ L2.map fun p => kk :: p.ps
theorem more_ (lo : Nat) (ao : Option Addr) (cp : Nat) (Lo : List Pt) (kk : Int) (L2 : List Pt) (c2 : Nat) (hn : Lo.length + L2.length ≤ 100000) (hps : ∀ p ∈ L2, p.ps.length ≤ 1000) :
    FnW Try.prog 55 [.sla ao Lo.length cp, .int .i64 kk, .sl 0 L2.length c2] [lsP L2] (bl ao) (fun w => lo ≤ w.heap.size ∧ OutP lo w ao cp Lo ∧ Lie w (bl ao) L2) (MoJ lo Lo kk L2) := by
  refine enterW (n := 29) (by kernel_rfl) Try.func55 rfl rfl rfl (fun i e h => by cases i with | zero => cases h; rfl | succ i => cases h) fun G w a h0 ho hp B0 => ?_
  obtain ⟨hll, hout, hlie⟩ := hp
  have hoz : ∀ ks' : List Nat, (∀ b, ks'.contains b = true → (bl ao).contains b = true ∨ w.heap.size ≤ b) → Off [lsP L2] G ks' := fun ks' hk i e L q1 q2 q3 => by
    cases hc : ks'.contains L.b with
    | false => rfl
    | true =>
      rcases hk _ hc with h | h
      · rw [ho i e L q1 q2 q3] at h; cases h
      · have := B0.mem.ent i e q1
        rw [q2] at this
        have := EntOK.lt this q3
        omega
  have A := B0.base
  refine N hX 12 A rfl rfl fun {G1 a1 w1} A => ?_
  have m0 := A.mix
  have B1 := (B0.trans A).cut [0, 1, 2, 6, 7] rfl
  refine LOOPJ (fun z : MZ => [(0, .sla z.ao z.L.length z.cp), (1, .int .i64 kk), (2, .sl 0 L2.length c2), (6, .sla none 0 0), (7, .int .i64 ((z.i : Nat) : Int))]) (fun _ => [lsP L2]) (fun z w' _ => MoI lo ao Lo kk L2 w z w') (fun z => L2.length - z.i) ⟨0, ao, cp, Lo⟩ B1
    ⟨Nat.le_trans hll m0.size, hout.mix m0 (fun k _ _ => keysP k), hlie.mix m0 (fun k _ hk => nokey (keysP k) hk), Nat.zero_le _, rfl, by simp, fun b hb => .inl hb⟩ ?_
  rintro ⟨i, aoz, cpz, Lz⟩ G2 a2 w2 hI hG A B
  simp only at hI A B ⊢
  obtain ⟨q1, q2, q3, q4, q5, q6, q7⟩ := hI
  simp only at q2 q3 q4 q5 q6 q7
  refine N hX 9 A rfl rfl fun A => forkD 12 A rfl (fun h1 A => ?_) (fun h1 A => ?_)
  · have hi : i < L2.length := by omega
    refine N hX 15 A rfl rfl fun {G3 a3 w3} A => ?_
    have hw3 := A.mix.size
    have q2a := q2.mix A.mix (fun k _ _ => keysP k)
    have q3a := q3.mix A.mix (fun k _ hk => nokey (keysP k) hk)
    have hlt2 := q2a.lt
    refine APW1 (e := 3) (b := 8) hX (B.trans A) rfl rfl rfl rfl rfl rfl rfl rfl rfl rfl rfl (World.ownsRow_nil _ _ _ _) (by omega) Off.nil (fun b hb => by cases hb) fun {a4 w4} ao1 cp1 hR1 _ m1 hb1 B3 => ?_
    have hb1 : bl ao1 = [w3.heap.size] := hb1.resolve_left (fun e => by
      rcases hR1.addr with ⟨_, h, _⟩ | ⟨b, rfl⟩
      · omega
      · cases e)
    have q2b := q2a.mix m1 (fun k _ _ => rfl)
    have q3b := q3a.mix m1 (fun k _ hk => by cases hk)
    have hw4 := m1.size
    have B3 := (B3.cut [0, 1, 2, 6, 7, 18] rfl).trunc 1 rfl rfl rfl (by simp at h0; omega)
    have A := B3.base
    have hOf1 : Off [lsP L2] G (bl ao1) := hoz _ (fun b hb => by right; rw [hb1] at hb; simp at hb; have := B.mix.size; omega)
    refine N hX 10 A rfl (ok_d (by omega) <| ok_d (by omega) <| okE_nil) fun {G5 a5 w5} A => ?_
    have hpm : L2.getD ((i : Int)).toNat Pt.z ∈ L2 := by rw [Int.toNat_natCast, List.getD_eq_getElem?_getD, List.getElem?_eq_getElem hi]; exact List.getElem_mem hi
    have hpe : L2.getD ((i : Int)).toNat Pt.z = L2[i] := by rw [Int.toNat_natCast, List.getD_eq_getElem?_getD, List.getElem?_eq_getElem hi]; rfl
    generalize hpg : L2.getD ((i : Int)).toNat Pt.z = p at A hpm hpe
    have hR1a := hR1.mix A.mix (fun k _ => keysP k)
    have q2c := q2b.mix A.mix (fun k _ _ => keysP k)
    have q3c := q3b.mix A.mix (fun k _ hk => nokey (keysP k) hk)
    have hw5 := A.mix.size
    have hl1 := hps p hpm
    refine APP (p := p) (b := 8) hX (B3.trans A) rfl rfl rfl rfl rfl rfl rfl rfl hR1a (q3c p hpm).1 (by omega) (by omega) (offB h0 hOf1 A (B3.trans A).pre (fun b hb => ⟨keysP b, hR1.lt hb⟩) (kl_kept rfl)) (fun b hb => by right; rw [hb1] at hb; simp at hb; have := B.mix.size; omega) fun {a6 w6} ao2 cp2 hR2' m2 hb2 B4 => ?_
    have hR2 : Ro 3 w6 ao2 (kk :: p.ps).length cp2 (iv (kk :: p.ps)) := by
      have e : 0 + 1 + p.ps.length = (kk :: p.ps).length := by simp; omega
      rw [e] at hR2'; exact hR2'
    have hbk : ∀ k, (bl ao2).contains k = true → w3.heap.size ≤ k := fun k hk => by
      rcases hb2 with e | e
      · rw [e, hb1] at hk; simp at hk; omega
      · rw [e] at hk; simp at hk; omega
    have hno : ∀ k, k < w3.heap.size → (bl ao1).contains k = false := fun k hk => by rw [hb1]; simp; omega
    have q2d := q2c.mix2 m2 (fun k hk => hno k (by rcases hk with hk | ⟨p', hp', hk⟩; exact hlt2.1 k hk; exact hlt2.2 p' hp' k hk))
    have q3d := q3c.mix2 m2 (fun p' hp' k hk => hno k ((q3a p' hp').1.lt hk))
    have hw6 := m2.size
    have B4 := B4.say 25 (.sla ao2 (kk :: p.ps).length cp2) rfl (by rw [show 0 + 1 + p.ps.length = (kk :: p.ps).length by simp; omega])
    have A := B4.base
    refine N hX 1 A rfl rfl fun {G7 a7 w7} A => ?_
    have hR2a := hR2.mix A.mix (fun k _ => keysP k)
    have q2e := q2d.mix A.mix (fun k _ _ => keysP k)
    have q3e := q3d.mix A.mix (fun k _ hk => nokey (keysP k) hk)
    have hw7 := A.mix.size
    refine APW1 (e := 29) (b := 24) hX (B4.trans A) rfl rfl rfl rfl rfl rfl rfl rfl rfl rfl rfl q2e.ro (by omega) (offB h0 (hoz _ q7) A (B4.trans A).pre (fun b hb => ⟨keysP b, q2d.ro.lt hb⟩) (kl_kept rfl)) q7 fun {a8 w8} ao3 cp3 hR3 _ m3 hb3 B5 => ?_
    have hout3 : OutP lo w8 ao3 cp3 (Lz ++ [⟨ao2, cp2, kk :: p.ps⟩]) := q2e.snoc (q := ⟨ao2, cp2, kk :: p.ps⟩) hR2a (fun k hk => ⟨by have := hbk k hk; omega, by
      have := hbk k hk
      cases hc : (bl aoz).contains k with
      | false => rfl
      | true => have := hlt2.1 k hc; omega, fun p' hp' => by
      have := hbk k hk
      cases hc : (bl p'.ao).contains k with
      | false => rfl
      | true => have := hlt2.2 p' hp' k hc; omega⟩) (by omega) m3 hR3 hb3
    have hlie3 : Lie w8 (bl ao3) L2 := fun p' hp' => ⟨(q3e p' hp').1.mix m3 fun k hk => (q3 p' hp').2 k hk, fun k hk => by
      rcases hb3 with e | e
      · rw [e]; exact (q3 p' hp').2 k hk
      · rw [e]; have := (q3e p' hp').1.lt hk; simp; omega⟩
    have hw8 := m3.size
    have B5 := ((B5.cut [1, 2, 6, 7, 27] rfl).trunc 1 rfl rfl rfl (by simp at h0; omega)).say 27 (.sla ao3 (Lz ++ [(⟨ao2, cp2, kk :: p.ps⟩ : Pt)]).length cp3) rfl (by rw [List.length_append]; rfl)
    have A := B5.base
    refine N hX 9 A rfl (ok_d (by omega) <| okE_nil) fun {G9 a9 w9} A => ?_
    have hw9 := A.mix.size
    refine ⟨⟨i + 1, ao3, cp3, Lz ++ [⟨ao2, cp2, kk :: p.ps⟩]⟩, _, ?_, ⟨?_, hout3.mix A.mix (fun k _ _ => keysP k), hlie3.mix A.mix (fun k _ hk => nokey (keysP k) hk), hi, ?_, ?_, ?_⟩, (B5.trans A).cut [0, 1, 2, 6, 7] rfl⟩
    · show L2.length - (i + 1) < L2.length - i; omega
    · omega
    · show (Lz ++ [_]).length = Lo.length + (i + 1); rw [List.length_append, q5]; rfl
    · show (Lz ++ [_]).map Pt.ps = _; rw [List.map_append, q6, List.take_succ_eq_append_getElem hi, List.map_append, hpe]; simp
    · intro b hb
      rcases hb3 with e | e
      · exact q7 b (by rw [← e]; exact hb)
      · have hb : (bl ao3).contains b = true := hb
        rw [e] at hb; simp at hb; right; have := B.mix.size; omega
  · refine N hX 10 A rfl rfl fun {G3 a3 w3} A => ?_
    have hi : i = L2.length := by omega
    refine RETW hX (B.trans A) rfl rfl rfl rfl ⟨aoz, cpz, Lz, rfl, q2.mix A.mix (fun k _ _ => keysP k), ?_⟩
    rw [q6, hi, List.take_length]
end Go.Proofs.Ytmieaninmidelaa
/- The reference's paths: from, Paths. -/
namespace Go.Proofs.Ytmieaninmidelaa
open Go.RowKit
set_option linter.unusedVariables false
set_option linter.unusedSimpArgs false
set_option maxRecDepth 100000
set_option maxHeartbeats 2000000
set_option simprocs false
theorem Pt.flat (L : List Pt) : denL [] (L.flatMap Pt.c) = some (L.map Pt.v) := by
  induction L with
  | nil => rfl
  | cons p L ih => rw [List.flatMap_cons, List.map_cons]; exact denL_mk rfl ih
theorem Pths.lies {lo b cp : Nat} {w : World} {L : List Pt} {ks : List Nat} (h : Pths lo w b cp L) (hk : ks.contains b = false) : Lies b 0 (L.map Pt.v) w ks := ⟨h.lt, hk, h.ro.range⟩
theorem Pths.lie {lo b cp : Nat} {w : World} {L : List Pt} {ks : List Nat} (h : Pths lo w b cp L) (hk : ∀ k, lo ≤ k → ks.contains k = false) : Lie w ks L := fun p hp => ⟨(h.el p hp).ro, fun k hk' => hk k ((h.el p hp).lo k hk').1⟩
section
variable {n : Nat} {ks : List Nat} {G0 : Gr} {w0 : World} {T : List (Nat × SV)} {H : Hp} {G : Gr} {a : Act} {w : World}
/-- paths get a place, where they stand -/
theorem Sy.seat (B : Sy n T H ks G0 w0 G a w) {lo b cp : Nat} {L : List Pt} (h : Pths lo w b cp L) (hk : (keys H G).contains b = false) (t : Nat) (hx : look T t = some (.sla (some ⟨b, 0, none⟩) L.length cp)) : Sy n ((t, .sl H.length L.length cp) :: T) (H ++ [lsP L]) ks G0 w0 (G ++ [some ⟨b, [], [], 0⟩]) a w :=
  B.trans (B.base.adoptL Pt.z Pt.c 1 (fun _ => rfl) (fun _ => rfl) (fun _ => ⟨_, rfl⟩) L (h.lies hk) (Pt.flat L) t hx)
theorem off_add {b : Nat} {ks' : List Nat} {e : Option Ent} (hlen : H.length = G.length) (h : Off H G ks') (hb : ks'.contains b = false) : Off (H ++ [e]) (G ++ [some ⟨b, [], [], 0⟩]) ks' := off_pre hlen h fun i e L q1 q2 q3 => by
  cases i with
  | zero => cases q2; exact hb
  | succ i => cases q1
end
theorem offRO {H : Hp} {G0 G : Gr} {ks' : List Nat} (hlen : H.length = G0.length) (ho : Off H G0 ks') (hpre : ∃ F, G = G0 ++ F) : Off H G ks' := fun i e L q1 q2 q3 => by
  obtain ⟨F, rfl⟩ := hpre
  rw [List.getElem?_append_left (by rw [← hlen]; exact (List.getElem?_eq_some_iff.1 q1).1)] at q2
  exact ho i e L q1 q2 q3
theorem br3 {x y z u : Int} (h : (((x == 9) && (decide (y > z))) && (decide (y ≤ u))) = true) : x = 9 ∧ y > z ∧ y ≤ u := by simpa [and_assoc] using h
theorem nbr3 {x y z u : Int} (h : (((x == 9) && (decide (y > z))) && (decide (y ≤ u))) = false) : ¬ (x = 9 ∧ y > z ∧ y ≤ u) := fun ⟨h1, h2, h3⟩ => by simp [h1, h2, h3] at h
theorem path_len (cs : List In) (k : Nat) : ∀ p ∈ pths cs k, p.length ≤ cs.length - k := by
  intro p hp
  by_cases h : k < cs.length
  · by_cases h2 : brQ cs k
    · have h3 := h2.2.1; have h4 := h2.2.2
      rw [pths_br h h2, List.mem_append, List.mem_map, List.mem_map] at hp
      rcases hp with ⟨q, hq, rfl⟩ | ⟨q, hq, rfl⟩
      · have := path_len cs (k + 1) q hq; simp; omega
      · have := path_len cs _ q hq; rw [List.length_cons]; omega
    · rw [pths_go h h2, List.mem_map] at hp
      obtain ⟨q, hq, rfl⟩ := hp
      have := path_len cs (k + 1) q hq; simp; omega
  · rw [pths_end h] at hp; simp at hp; subst hp; simp
termination_by cs.length - k
decreasing_by all_goals omega
theorem len_ps {L : List Pt} {cs : List In} {k : Nat} (hn : cs.length ≤ 8) (h : L.map Pt.ps = pths cs k) : ∀ p ∈ L, p.ps.length ≤ 1000 := fun p hp => by
  have := path_len cs k p.ps (by rw [← h]; exact List.mem_map_of_mem hp)
  omega
theorem OutP.some_of {lo cp : Nat} {w : World} {ao : Option Addr} {L : List Pt} (h : OutP lo w ao cp L) (hn : 0 < L.length) : ∃ b, ao = some ⟨b, 0, none⟩ ∧ Pths lo w b cp L := by
  rcases h with ⟨_, _, rfl⟩ | h
  · simp at hn
  · exact h
theorem from_ (cs : List In) (c : Nat) (hn : cs.length ≤ 8) (hB : Brs cs) : ∀ (m at_ : Nat), cs.length - at_ < m → at_ ≤ cs.length →
    FnW Try.prog 31 [.sl 0 cs.length c, .int .i64 ((at_ : Nat) : Int)] [lsC cs] [] (fun _ => True) (PaJ (pths cs at_)) := by
  intro m
  induction m with
  | zero => intro at_ h; omega
  | succ m ih =>
  intro at_ hm hle
  refine enterW (n := 57) (by kernel_rfl) Try.func31 rfl rfl rfl (fun i e h => by cases i with | zero => cases h; rfl | succ i => cases h) fun G w a h0 ho hp B0 => ?_
  have A := B0.base
  refine N hX 19 A rfl rfl fun {G1 a1 w1} A => forkD 9 A rfl (fun h1 A => ?_) (fun h1 A => ?_)
  · refine N hX 5 A rfl rfl fun {G2 a2 w2} A => ?_
    have hw2 := A.mix.size
    refine APW1 (e := 29) (b := 24) hX (B0.trans A) rfl rfl rfl rfl rfl rfl rfl rfl rfl rfl rfl (World.ownsRow_nil _ _ _ _) (by omega) Off.nil (fun b hb => by cases hb) fun {a3 w3} ao1 cp1 hR1 _ m1 hb1 B => ?_
    have hO : OutP w.heap.size w3 ao1 cp1 ([] ++ [⟨none, 0, []⟩]) := OutP.snoc (ao := none) (cp := 0) (q := ⟨none, 0, []⟩) (.inl ⟨rfl, rfl, rfl⟩) (World.ownsRow_nil _ _ _ _) (fun k hk => by cases hk) hw2 m1 hR1 hb1
    obtain ⟨b, rfl, hP⟩ := hO.some_of (by simp)
    have B := (B.cut [12] rfl).trunc 1 rfl rfl rfl (by simp at h0; omega)
    have A := B.base
    refine N hX 4 A rfl rfl fun {G5 a5 w5} A => ?_
    refine RETW hX (B.trans A) rfl rfl rfl rfl ⟨b, cp1, [⟨none, 0, []⟩], rfl, hP.mix A.mix Mix.lt0, ?_⟩
    rw [pths_end (by omega)]; rfl
  · have hlt : at_ < cs.length := by omega
    have hr1 : -9223372036854775808 ≤ ((at_ : Nat) : Int) + 1 ∧ ((at_ : Nat) : Int) + 1 ≤ 9223372036854775807 := by clear ih; omega
    refine N hX 10 A rfl (ok_d hr1 <| okE_nil) fun {G2 a2 w2} A => ?_
    have hw2 := A.mix.size
    refine CALLW [0] (ih (at_ + 1) (by omega) (by omega)) (B0.trans A) trivial (fun i e L _ _ _ => rfl) (fun b hb => by cases hb) rfl rfl rfl rfl rfl fun {x a3 w3} m1 J1 B => ?_
    obtain ⟨b5, cp5, L5, rfl, hP5, hl5⟩ := J1
    have hw3 := m1.size
    have hL5 : 0 < L5.length := by rw [len_of hl5]; exact pths_pos _ _
    have hn5 : L5.length ≤ 256 := by rw [len_of hl5]; exact pths_few hn _
    have B := B.seat hP5 (keys1 _) 18 rfl
    refine CALLW [1] (more_ w.heap.size none 0 [] ((at_ : Nat) : Int) L5 cp5 (by simp; omega) (len_ps hn hl5)) B ⟨by omega, .inl ⟨rfl, rfl, rfl⟩, hP5.lie (fun k _ => rfl)⟩ Off.nil (fun b hb => by cases hb) rfl rfl rfl rfl rfl fun {x a4 w4} m2 J2 B => ?_
    obtain ⟨ao6, cp6, L6, rfl, hO6, hl6⟩ := J2
    have hl6' : L6.map Pt.ps = (pths cs (at_ + 1)).map fun p => ((at_ : Nat) : Int) :: p := by rw [hl6, ← hl5, List.map_map]; rfl
    have hn6 : L6.length ≤ 256 := by rw [len_of hl6', List.length_map]; exact pths_few hn _
    obtain ⟨b6, rfl, hP6⟩ := hO6.some_of (by rw [len_of hl6', List.length_map]; exact pths_pos _ _)
    have hw4 := m2.size
    have B := (B.cut [0, 1, 4, 19] rfl).trunc 1 rfl rfl rfl (by simp at h0; omega)
    have A := B.base
    refine N hX 13 A rfl (ok_d (by omega) <| ok_d (by omega) <| ok_d (by omega) <| okE_nil) fun A => forkE 26 A rfl (fun h2 A => N hX 6 A rfl (ok_d (by omega) <| ok_d (by omega) <| ok_d (by omega) <| okE_nil) fun A => N hX 1 A rfl (ok_d hr1 <| okE_nil) fun A => N hX 3 A rfl rfl fun A => forkD 36 A rfl (fun h3 A => N hX 11 A rfl (ok_d (by omega) <| ok_d (by omega) <| ok_d (by omega) <| okE_nil) fun A => forkD 45 A rfl (fun h4 A => ?_) (fun h4 A => ?_)) (fun h3 A => ?_)) (fun h2 A => ?_)
    · refine N hX 10 A rfl (ok_d (by omega) <| ok_d (by omega) <| ok_d (by omega) <| okE_nil) fun {G6 a6 w6} A => ?_
      have hb : brQ cs at_ := by
        rw [Int.toNat_natCast] at h2 h3 h4
        exact ⟨h2, by omega, h4⟩
      have hb2 := hb.2.1
      have hb3 := hb.2.2
      have hP6a := hP6.mix A.mix Mix.lt0
      have hw6 := A.mix.size
      have B3 := (B.trans A).say 53 (.int .i64 (((cs.getD at_ In.z).to_.toNat : Nat) : Int)) rfl (by rw [Int.toNat_natCast, Int.toNat_of_nonneg (show 0 ≤ (cs.getD at_ In.z).to_ by omega)])
      refine CALLW [0] (ih (cs.getD at_ In.z).to_.toNat (by omega) (by omega)) B3 trivial (fun i e L _ _ _ => rfl) (fun b hb => by cases hb) rfl rfl rfl rfl rfl fun {x a7 w7} m4 J4 B => ?_
      obtain ⟨b7, cp7, L7, rfl, hP7, hl7⟩ := J4
      have hw7 := m4.size
      have hP6b := hP6a.mix m4 (fun k hk => by cases hk)
      have hn7 : L7.length ≤ 256 := by rw [len_of hl7]; exact pths_few hn _
      have hlt6 := hP6.lt
      have hlb7 := hP7.lb
      have hlb6 := hP6.lb
      have hO6 : Off [lsC cs] _ [b6] := off_sub (Off.one B0 hlb6) h0 ⟨[], by simp⟩ (fun i e h => h)
      have hOB : Off _ _ [b6] := offRO h0 hO6 B.pre
      have hlen := B.mem.len
      have B := B.seat hP7 (keys1 _) 54 rfl
      refine CALLW [1] (more_ w.heap.size (some ⟨b6, 0, none⟩) cp6 L6 ((at_ : Nat) : Int) L7 cp7 (by omega) (len_ps hn hl7)) B ⟨by omega, .inr ⟨b6, rfl, hP6b⟩, hP7.lie (fun k hk => bl_no (by omega))⟩ (off_add hlen hOB (bl_no (by omega))) (fun b hb => by right; rw [bl_some] at hb; omega) rfl rfl rfl rfl rfl fun {x a8 w8} m5 J5 B => ?_
      obtain ⟨ao8, cp8, L8, rfl, hO8, hl8⟩ := J5
      have hl8' : L8.map Pt.ps = pths cs at_ := by rw [hl8, hl6', pths_br hlt hb, ← hl7, List.map_map]; rfl
      obtain ⟨b8, rfl, hP8⟩ := hO8.some_of (by rw [len_of hl8']; exact pths_pos _ _)
      have B := (B.cut [55] rfl).trunc 1 rfl rfl rfl (by simp at h0; omega)
      have A := B.base
      refine N hX 10 A rfl rfl fun {G9 a9 w9} A => ?_
      exact RETW hX (B.trans A) rfl rfl rfl rfl ⟨b8, cp8, L8, rfl, hP8.mix A.mix Mix.lt0, hl8'⟩
    · refine N hX 10 A rfl rfl fun {G6 a6 w6} A => ?_
      exact RETW hX (B.trans A) rfl rfl rfl rfl ⟨b6, cp6, L6, rfl, hP6.mix A.mix Mix.lt0, by rw [hl6', pths_go hlt (fun hb => h4 (by have := hb.2.2; rw [Int.toNat_natCast]; exact this))]⟩
    · refine N hX 21 A rfl rfl fun {G6 a6 w6} A => ?_
      exact RETW hX (B.trans A) rfl rfl rfl rfl ⟨b6, cp6, L6, rfl, hP6.mix A.mix Mix.lt0, by rw [hl6', pths_go hlt (fun hb => h3 (by have := hb.2.1; rw [Int.toNat_natCast]; omega))]⟩
    · refine N hX 31 A rfl rfl fun {G6 a6 w6} A => ?_
      exact RETW hX (B.trans A) rfl rfl rfl rfl ⟨b6, cp6, L6, rfl, hP6.mix A.mix Mix.lt0, by rw [hl6', pths_go hlt (fun hb => h2 (by rw [Int.toNat_natCast]; exact hb.1))]⟩
theorem rPaths_ (cs : List In) (c : Nat) (hn : cs.length ≤ 8) (hB : Brs cs) : FnW Try.prog 12 [.sl 0 cs.length c] [lsC cs] [] (fun _ => True) (PaJ (pths cs 0)) := by
  refine enterW (n := 5) (by kernel_rfl) Try.func12 rfl rfl rfl (fun i e h => by cases i with | zero => cases h; rfl | succ i => cases h) fun G w a h0 ho hp A => ?_
  refine N hX 8 A rfl rfl fun {G2 a2 w2} A => ?_
  refine CALLW [0] (from_ cs c hn hB (cs.length + 1) 0 (by omega) (by omega)) A trivial (fun i e L _ _ _ => rfl) (fun b hb => by cases hb) rfl rfl rfl rfl rfl fun {x a3 w3} m1 J1 B => ?_
  obtain ⟨b, cp, L, rfl, hP, hl⟩ := J1
  have hw := A.mix.size
  have A := B.base
  refine N hX 4 A rfl rfl fun {G4 a4 w4} A => ?_
  exact RETW hX (B.trans A) rfl rfl rfl rfl ⟨b, cp, L, rfl, (hP.mix A.mix Mix.lt0).le hw, hl⟩
end Go.Proofs.Ytmieaninmidelaa
/- Is a code right. -/
namespace Go.Proofs.Ytmieaninmidelaa
open Go.RowKit
set_option linter.unusedVariables false
set_option linter.unusedSimpArgs false
set_option maxRecDepth 100000
set_option maxHeartbeats 2000000
set_option simprocs false
theorem bytes49 : (Try.prog.info? 49).map (·.bytes) = some 120 := by kernel_rfl
theorem b49 {ie : TypeInfo} (h : Try.prog.info? 49 = some ie) : ie.bytes = 120 := by have := bytes49; rw [h] at this; exact Option.some.inj this
theorem right_ (cs : List In) (c : Nat) (hb : cs.length * 120 ≤ 140737488355328) : Fn Try.prog 10 [.sl 0 cs.length c] [some (.lst 17 cs.length (fun zz => insS (cs.getD zz In.z)))] (Rt (.bool (chkE cs == 0)) [some (.lst 17 cs.length (fun zz => insS (cs.getD zz In.z)))]) :=
 enterM (n := 17) (by kernel_rfl) Try.func10 rfl rfl rfl fun G w a h0 A => N hX 9 A rfl rfl fun A => APPB hX (cs.length) (fun zz => insS (cs.getD zz In.z)) A rfl rfl rfl rfl (Nat.le_refl _) (fun ie h => by rw [b49 h, Nat.zero_add]; exact hb) (by have := hb; omega) (by rw [Nat.zero_add]) (fun k hk => by omega) (fun k hk => by show insS _ = insS _; rw [Nat.zero_add]) (fun z => ⟨_, rfl, rfl⟩) (fun k hk => ⟨_, rfl, okE_nil⟩) fun A => N hX 1 A rfl rfl fun A => have A := A.freeze 2 rfl; CALL1 [3, 2] (Check_ cs 0) A rfl rfl rfl rfl rfl rfl rfl fun A => N hX 17 A rfl rfl fun A => RETN hX A rfl rfl rfl h0 rfl rfl rfl rfl rfl rfl
end Go.Proofs.Ytmieaninmidelaa
/- One of a code's paths. -/
namespace Go.Proofs.Ytmieaninmidelaa
open Go.RowKit
set_option linter.unusedVariables false
set_option linter.unusedSimpArgs false
set_option maxRecDepth 100000
set_option maxHeartbeats 2000000
set_option simprocs false
theorem tmod_in (k : Int) (n : Nat) (hn : 0 < n) : -(n : Int) < Int.tmod k ((n : Nat) : Int) ∧ Int.tmod k ((n : Nat) : Int) < (n : Int) := by
  rw [Int.tmod_eq_emod]
  have h1 := Int.emod_nonneg k (b := (n : Int)) (by omega)
  have h2 := Int.emod_lt_of_pos k (b := (n : Int)) (by omega)
  have h3 : ((n : Nat) : Int).natAbs = n := by simp
  split <;> omega
theorem tmod_ix (k : Int) (n : Nat) (hn : 0 < n) : 0 ≤ Int.tmod (Int.tmod k ((n : Nat) : Int) + ((n : Nat) : Int)) ((n : Nat) : Int) ∧ Int.tmod (Int.tmod k ((n : Nat) : Int) + ((n : Nat) : Int)) ((n : Nat) : Int) < ((n : Nat) : Int) := by
  have h := tmod_in k n hn
  rw [Int.tmod_eq_emod_of_nonneg (by omega)]
  exact ⟨Int.emod_nonneg _ (by omega), Int.emod_lt_of_pos _ (by omega)⟩
/-- a path in new memory -/
def OneJ (cs : List In) : SV → World → World → Prop := fun x w w' => ∃ p : Pt, x = .sla p.ao p.ps.length p.cp ∧ Ro 3 w' p.ao p.ps.length p.cp (iv p.ps) ∧ (∀ k, (bl p.ao).contains k = true → w.heap.size ≤ k) ∧ p.ps ∈ pths cs 0
theorem keysCP {cs : List In} {L : List Pt} {G : Gr} (b : Nat) : (keys [lsC cs, lsP L] G).contains b = false := by
  cases hz : (keys [lsC cs, lsP L] G).contains b with
  | false => rfl
  | true =>
    obtain ⟨i, e, M, h1, h2, _⟩ := mem_keys.1 hz
    match i, h1 with
    | 0, h1 => cases h1; cases h2
    | 1, h1 => cases h1; cases h2
    | i + 2, h1 => cases h1
theorem path_ (cs : List In) (c : Nat) (kk : Int) (hn : cs.length ≤ 8) (hB : Brs cs) : FnW Try.prog 14 [.sl 0 cs.length c, .int .i64 kk] [lsC cs] [] (fun _ => True) (OneJ cs) := by
  refine enterW (n := 21) (by kernel_rfl) Try.func14 rfl rfl rfl (fun i e h => by cases i with | zero => cases h; rfl | succ i => cases h) fun G w a h0 ho hp A => ?_
  refine N hX 8 A rfl rfl fun {G2 a2 w2} A => ?_
  have hw := A.mix.size
  refine CALLW [0] (rPaths_ cs c hn hB) A trivial (fun i e L _ _ _ => rfl) (fun b hb => by cases hb) rfl rfl rfl rfl rfl fun {x a3 w3} m1 J1 B => ?_
  obtain ⟨b, cp, L, rfl, hP, hl⟩ := J1
  have hL : 0 < L.length := by rw [len_of hl]; exact pths_pos _ _
  have hL2 : L.length ≤ 256 := by rw [len_of hl]; exact pths_few hn _
  have ht := tmod_in kk L.length hL
  have hi := tmod_ix kk L.length hL
  have B := B.seat hP (keys1 _) 7 rfl
  have A := B.base
  refine N hX 12 A rfl (ok_d (by omega) <| okE_nil) fun A => N hX 1 A rfl (ok_d (by omega) <| okE_nil) fun A => N hX 9 A rfl (ok_d (by omega) <| ok_d (by omega) <| ok_d (by omega) <| okE_nil) fun {G4 a4 w4} A => ?_
  have hpm : L.getD ((Int.tmod ((Int.tmod kk ((L.length : Nat) : Int)) + ((L.length : Nat) : Int)) ((L.length : Nat) : Int)).toNat) Pt.z ∈ L := by
    have hlt : (Int.tmod ((Int.tmod kk ((L.length : Nat) : Int)) + ((L.length : Nat) : Int)) ((L.length : Nat) : Int)).toNat < L.length := by omega
    rw [List.getD_eq_getElem?_getD, List.getElem?_eq_getElem hlt]; exact List.getElem_mem hlt
  refine RETW hX (B.trans A) rfl rfl rfl rfl ⟨_, rfl, (hP.el _ hpm).ro.mix A.mix (fun k _ => keysCP k), fun k hk => Nat.le_trans hw ((hP.el _ hpm).lo k hk).1, ?_⟩
  rw [← hl]; exact List.mem_map_of_mem hpm
end Go.Proofs.Ytmieaninmidelaa
/- The laws can tell. -/
namespace Go.Proofs.Ytmieaninmidelaa
open Go.RowKit
set_option linter.unusedVariables false
set_option linter.unusedSimpArgs false
set_option maxRecDepth 100000
set_option maxHeartbeats 2000000
set_option simprocs false
def ac : List In := [⟨4, 1, -1, -1, 0, 0, 0, -1, 8, 0, false, false, false, 0, 0, 0, false⟩, ⟨9, -1, 1, -1, 0, 0, 0, -1, 0, 0, false, false, false, 0, 0, 3, true⟩, ⟨5, -1, 1, -1, 0, 1, 0, -1, 8, 0, false, false, false, 0, 0, 0, false⟩]
theorem ac_right : chkE ac = 0 := by decide +kernel
theorem ac_p3 : pths ac 3 = [[]] := pths_end (by decide)
theorem ac_p2 : pths ac 2 = [[2]] := by rw [pths_go (by decide) (by decide), ac_p3]; rfl
theorem ac_p1 : pths ac 1 = [[1, 2], [1]] := by rw [pths_br (by decide) (by decide), ac_p2]; show _ ++ (pths ac 3).map _ = _; rw [ac_p3]; rfl
theorem ac_p0 : pths ac 0 = [[0, 1, 2], [0, 1]] := by rw [pths_go (by decide) (by decide), ac_p1]; rfl
theorem ac_data : vB (dataB ac [0, 1, 2] 2) = 1 := by decide +kernel
theorem ac_ctrl : vB (ctrlB ac [0, 1, 2] 2) = 1 := by decide +kernel
theorem ac_def : defA ac [0, 1, 2] 2 1 = 0 := by decide +kernel
theorem tyI : (∀ x : In, (insS x).length = 17) ∧ (∀ x : In, inL 0 (insS x) = true) ∧ ∀ x : In, ∃ vs, denL [] (insS x) = some vs := ⟨fun _ => rfl, fun _ => rfl, fun _ => ⟨_, rfl⟩⟩
theorem two_of {L : List Pt} (h : L.map Pt.ps = [[0, 1, 2], [0, 1]]) : ∃ p q, L = [p, q] ∧ p.ps = [0, 1, 2] ∧ q.ps = [0, 1] := by
  rcases L with _ | ⟨p, _ | ⟨q, _ | ⟨r, L⟩⟩⟩
  · cases h
  · have := congrArg List.length h; simp at this
  · simp at h; exact ⟨p, q, rfl, h.1, h.2⟩
  · have := congrArg List.length h; simp at this
def TtJ : SV → World → World → Prop := fun x _ _ => x = .tt
theorem Ro.liesK {g : List Int} {b n cp : Nat} {w : World} {ks : List Nat} (h : Ro 3 w (some ⟨b, 0, none⟩) n cp (iv g)) (hk : ks.contains b = false) : LiesAt (some ⟨b, 0, none⟩) g w ks := .inr ⟨b, rfl, h.lt (bl_some.2 rfl), hk, h.range⟩
theorem able_p {lo b cp : Nat} {w : World} {p q : Pt} (h : Pths lo w b cp [p, q]) (e : p.ps = [0, 1, 2]) : ∃ b1, p.ao = some ⟨b1, 0, none⟩ ∧ Ro 3 w (some ⟨b1, 0, none⟩) 3 p.cp (iv [0, 1, 2]) := by
  have := (h.el p (by simp)).ro
  rw [e] at this
  rcases this.addr with ⟨_, h1, _⟩ | ⟨b1, h1⟩
  · cases h1
  · rw [h1] at this; exact ⟨b1, h1, this⟩
theorem able_v {p q : Pt} {b1 : Nat} {G : Gr} (e3 : p.ao = some ⟨b1, 0, none⟩) (e1 : p.ps = [0, 1, 2]) : den G (.sla ([p, q].getD ((0 : Int)).toNat Pt.z).ao ([p, q].getD ((0 : Int)).toNat Pt.z).ps.length ([p, q].getD ((0 : Int)).toNat Pt.z).cp) = den G (.sla (some ⟨b1, 0, none⟩) 3 p.cp) := by
  show den G (.sla p.ao p.ps.length p.cp) = _
  rw [e3, e1]; rfl
theorem able_w {p q : Pt} {G : Gr} (e : q.ps = [0, 1]) : den G (.sla ([p, q].getD ((1 : Int)).toNat Pt.z).ao ([p, q].getD ((1 : Int)).toNat Pt.z).ps.length ([p, q].getD ((1 : Int)).toNat Pt.z).cp) = den G (.sla q.ao 2 q.cp) := by
  show den G (.sla q.ao q.ps.length q.cp) = _
  rw [e]; rfl
theorem able_   : FnW Try.prog 9 [] [] [] (fun _ => True) (TtJ) :=
 enterW (n := 50) (by kernel_rfl) Try.func9 rfl rfl rfl (fun i e h => by cases h) fun G w a h0 ho hp A => N hX 17 A rfl rfl fun A => have A := A.asH (H' := [some (.blk (ac.flatMap insS))]) rfl; have A := A.asT In.z insS 17 tyI.1 tyI.2.1 tyI.2.2 ac 0 rfl; CALLW [0] (Paths_ ac 3 ac_right) A trivial Off.nil (fun b hb => by cases hb) rfl rfl rfl rfl rfl fun {x a w3} m1 J1 B => match J1 with | ⟨b, cp, L, hx, hP, hl⟩ => match two_of (hl.trans ac_p0) with | ⟨p, q, hL, e1, e2⟩ => by subst hx; subst hL; exact match able_p hP e1 with | ⟨b1, e3, hR⟩ => have B := (B.seat hP (keys1 _) 8 rfl).say 8 (.sl 1 2 cp) rfl rfl; have A := B.base; have hLi := hR.liesK (keysCP b1); N hX 8 A rfl rfl fun A => have A := sy_sayD A 11 (.tt) rfl (fun _ => rfl); N hX 4 A rfl (ok_d (by first | decide | (simp only [List.length_cons, List.length_nil]; decide)) <| ok_d (by first | decide | (simp only [List.length_cons, List.length_nil]; decide)) <| okE_nil) fun A => have A := sy_sayD A 15 (.sla (some ⟨b1, 0, none⟩) 3 p.cp) rfl (fun _ => able_v e3 e1); N hX 2 A rfl rfl fun A => have A := sy_sayD A 17 (.tt) rfl (fun _ => rfl); N hX 5 A rfl (ok_d (by first | decide | (simp only [List.length_cons, List.length_nil]; decide)) <| ok_d (by first | decide | (simp only [List.length_cons, List.length_nil]; decide)) <| okE_nil) fun A => have A := sy_sayD A 22 (.sla q.ao 2 q.cp) rfl (fun _ => able_w e2); N hX 2 A rfl rfl fun A => have A := sy_sayD A 24 (.tt) rfl (fun _ => rfl); N hX 6 A rfl (ok_d (by first | decide | (simp only [List.length_cons, List.length_nil]; decide)) <| ok_d (by first | decide | (simp only [List.length_cons, List.length_nil]; decide)) <| okE_nil) fun A => have A := sy_sayD A 30 (.sla (some ⟨b1, 0, none⟩) 3 p.cp) rfl (fun _ => able_v e3 e1); ADOPT 30 hLi A rfl rfl rfl rfl fun A => CALL1 [0, 2] (Data_ ac 3 ([0, 1, 2] : List Int) p.cp 2 (by first | decide | (simp only [List.length_cons, List.length_nil]; decide))) A rfl rfl rfl rfl rfl rfl rfl fun A => N hX 1 A rfl rfl fun A => have A := sy_sayD A 32 (.tt) rfl (fun _ => by rw [ac_data]; rfl); N hX 6 A rfl (ok_d (by first | decide | (simp only [List.length_cons, List.length_nil]; decide)) <| ok_d (by first | decide | (simp only [List.length_cons, List.length_nil]; decide)) <| okE_nil) fun A => have A := sy_sayD A 38 (.sla (some ⟨b1, 0, none⟩) 3 p.cp) rfl (fun _ => able_v e3 e1); ADOPT 38 hLi A rfl rfl rfl rfl fun A => CALL1 [0, 3] (Ctrl_ ac 3 ([0, 1, 2] : List Int) p.cp 2 (by first | decide | (simp only [List.length_cons, List.length_nil]; decide))) A rfl rfl rfl rfl rfl rfl rfl fun A => N hX 1 A rfl rfl fun A => have A := sy_sayD A 40 (.tt) rfl (fun _ => by rw [ac_ctrl]; rfl); N hX 6 A rfl (ok_d (by first | decide | (simp only [List.length_cons, List.length_nil]; decide)) <| ok_d (by first | decide | (simp only [List.length_cons, List.length_nil]; decide)) <| okE_nil) fun A => have A := sy_sayD A 46 (.sla (some ⟨b1, 0, none⟩) 3 p.cp) rfl (fun _ => able_v e3 e1); ADOPT 46 hLi A rfl rfl rfl rfl fun A => CALL1 [0, 4] (Def_ ac 3 ([0, 1, 2] : List Int) p.cp 2 1 (by first | decide | (simp only [List.length_cons, List.length_nil]; decide))) A rfl rfl rfl rfl rfl rfl rfl fun A => N hX 1 A rfl rfl fun A => have A := sy_sayD A 48 (.tt) rfl (fun _ => by rw [ac_def]; rfl); N hX 5 A rfl rfl fun A => RETW hX (B.trans A) rfl rfl rfl rfl rfl
end Go.Proofs.Ytmieaninmidelaa
/- The reference: what hangs on what. -/
namespace Go.Proofs.Ytmieaninmidelaa
open Go.RowKit
set_option linter.unusedVariables false
set_option linter.unusedSimpArgs false
set_option maxRecDepth 100000
set_option maxHeartbeats 2000000
set_option simprocs false
/-- the indices of a path lie in its code -/
def POK (cs : List In) (ps : List Int) : Prop := ∀ j, j < ps.length → 0 ≤ ps.getD j 0 ∧ ps.getD j 0 < ((cs.length : Nat) : Int)
abbrev rI (cs : List In) (ps : List Int) (p : Int) : In := cs.getD ((ps.getD (p.toNat) 0)).toNat In.z
theorem rI_eq {cs : List In} {ps : List Int} {p : Int} (hP : POK cs ps) (h0 : 0 ≤ p) (h1 : p < ((ps.length : Nat) : Int)) : rI cs ps p = insA cs ps p := by
  have := hP p.toNat (by omega)
  unfold insA
  rw [if_neg (by simp only [Bool.or_eq_true, decide_eq_true_eq]; omega)]
theorem gv_eq (i : In) : rGives0 i = plain0 i := by
  unfold rGives0 plain0
  by_cases h1 : i.op = 1
  · simp [h1]
  by_cases h2 : i.op = 2
  · simp [h2]
  by_cases h3 : i.op = 3
  · simp [h3]
  by_cases h4 : i.op = 4
  · simp [h4]
  by_cases h5 : i.op = 5
  · rw [h5]; rfl
  simp [h1, h2, h3, h4, h5]
theorem rg {cs : List In} {ps : List Int} {m : Nat} (hP : POK cs ps) (h1 : (m : Int) - 1 ≥ 0) (hm : m ≤ ps.length) : rGives0 (rI cs ps ((m : Int) - 1)) = plain0 (insA cs ps ((m : Int) - 1)) := by rw [gv_eq, rI_eq hP (by omega) (by omega)]
def rdefA (cs : List In) (ps : List Int) (at_ r : Int) : Int := if r < 0 then -1 else defN cs ps r (cutN ps at_)
theorem cut2 (ps : List Int) (at_ : Int) : min (max at_ 0) ((ps.length : Nat) : Int) = ((cutN ps at_ : Nat) : Int) := by unfold cutN; omega
theorem and2 {p q : Prop} [Decidable p] [Decidable q] (h : ((decide p) && (decide q)) = true) : p ∧ q := by simpa using h
theorem nand2 {p q : Prop} [Decidable p] [Decidable q] (h : ((decide p) && (decide q)) = false) : ¬ (p ∧ q) := by simpa using h
theorem rDef_ (cs : List In) (c : Nat) (ps : List Int) (d : Nat) (at_ : Int) (r : Int) (hn : ps.length ≤ 1000000) (hP : POK cs ps) : Fn Try.prog 18 [.sl 0 cs.length c, .sl 1 ps.length d, .int .i64 at_, .int .i64 r] [some (.lst 17 cs.length (fun zz => insS (cs.getD zz In.z))), some (.lst 1 ps.length (fun j => [.int .i64 (ps.getD j 0)]))] (Rt (.int .i64 (rdefA cs ps at_ r)) [some (.lst 17 cs.length (fun zz => insS (cs.getD zz In.z))), some (.lst 1 ps.length (fun j => [.int .i64 (ps.getD j 0)]))]) :=
 enterM (n := 35) (by kernel_rfl) Try.func18 rfl rfl rfl fun G w a h0 A => N hX 9 A rfl rfl fun A => MAXI A rfl rfl rfl rfl rfl fun A => N hX 2 A rfl rfl fun A => MINI A rfl rfl rfl rfl rfl fun A => have A := sy_sayD A 14 (.int .i64 ((cutN ps at_ : Nat) : Int)) rfl (fun _ => by rw [cut2]); N hX 1 A rfl (ok_d (by have := cutN_le ps at_; omega) <| okE_nil) fun A => N hX 4 A rfl rfl fun A => LOOP1 (fun (m : Nat) => [(0, .sl 0 cs.length c), (1, .sl 1 ps.length d), (3, .int .i64 r), (8, .int .i64 0), (9, .int .i64 ((m : Int) - 1))]) (fun (m : Nat) => [some (.lst 17 cs.length (fun zz => insS (cs.getD zz In.z))), some (.lst 1 ps.length (fun j => [.int .i64 (ps.getD j 0)]))]) (fun (m : Nat) => DfI cs ps r (cutN ps at_) m) (fun (m : Nat) => m) (cutN ps at_) DfI.i0 ((A.cut [0, 1, 3, 8, 9] rfl).trunc 2 rfl rfl rfl (by simp only [List.length_cons, List.length_nil] at h0; omega)) fun m hI {G a w} A => N hX 11 A rfl rfl fun A => fork 21 A rfl
   (fun h1 A => N hX 14 A rfl (ok_d (by have := hI.le; have := cutN_le ps at_; have hq := and2 h1; have hpp := hP (((m : Int) - 1)).toNat (by omega); omega) <| ok_d (by have := hI.le; have := cutN_le ps at_; have hq := and2 h1; have hpp := hP (((m : Int) - 1)).toNat (by omega); omega) <| ok_d (by have := hI.le; have := cutN_le ps at_; have hq := and2 h1; have hpp := hP (((m : Int) - 1)).toNat (by omega); omega) <| ok_d (by have := hI.le; have := cutN_le ps at_; have hq := and2 h1; have hpp := hP (((m : Int) - 1)).toNat (by omega); omega) <| okE_nil) fun A => CALL1 [] (rGives_ (cs.getD (((ps.getD (((m : Int) - 1).toNat) 0)).toNat) In.z) ) A rfl rfl rfl rfl rfl rfl rfl fun A => N hX 4 A rfl rfl fun A => forkE 33 A rfl
    (fun h2 A => N hX 8 A rfl rfl fun A => RETN hX A rfl rfl rfl h0 rfl rfl rfl rfl (by have hq := and2 h1; unfold rdefA; rw [if_neg (by omega), hI.y hq.1 (by rw [← rg hP hq.1 (by have := hI.le; have := cutN_le ps at_; omega)]; exact h2)] <;> rfl) rfl)
    (fun h2 A => N hX 7 A rfl (ok_d (by have := hI.le; have := cutN_le ps at_; have hq := and2 h1; have hpp := hP (((m : Int) - 1)).toNat (by omega); omega) <| okE_nil) fun A => N hX 2 A rfl rfl fun A => ⟨m - 1, _, (by have := (and2 h1).1; omega), (hI.nx (and2 h1).1 (by rw [← rg hP (and2 h1).1 (by have := hI.le; have := cutN_le ps at_; omega)]; exact h2)), ((A.cut [0, 1, 3, 8, 9] rfl).trunc 2 rfl rfl rfl (by simp only [List.length_cons, List.length_nil] at h0; omega)).sayT (by have := (and2 h1).1; rw [show ((m - 1 : Nat) : Int) = (m : Int) - 1 by omega])⟩))
   (fun h1 A => N hX 9 A rfl rfl fun A => RETN hX A rfl rfl rfl h0 rfl rfl rfl rfl (by have hq := nand2 h1; unfold rdefA; by_cases hr : r < 0; (rw [if_pos hr] <;> rfl); (rw [if_neg hr, hI.n (by omega)] <;> rfl)) rfl)
def rhg (cs : List In) (ps : List Int) : Nat → Int → BV
  | 0, _ => 0
  | m + 1, r => if plain0 (insA cs ps (m : Int)) = r ∧ 0 ≤ r then (if (insA cs ps (m : Int)).op = 2 then rhg cs ps m (insA cs ps (m : Int)).ra else if (insA cs ps (m : Int)).op = 3 then rhg cs ps m (insA cs ps (m : Int)).ra ||| rhg cs ps m (insA cs ps (m : Int)).rb else if (insA cs ps (m : Int)).op = 4 ∨ (insA cs ps (m : Int)).op = 6 then bit m else 0) else rhg cs ps m r
/-- what a register hangs on that the instruction at a place gives -/
def rhv (cs : List In) (ps : List Int) (m : Nat) : BV := if (insA cs ps (m : Int)).op = 2 then rhg cs ps m (insA cs ps (m : Int)).ra else if (insA cs ps (m : Int)).op = 3 then rhg cs ps m (insA cs ps (m : Int)).ra ||| rhg cs ps m (insA cs ps (m : Int)).rb else if (insA cs ps (m : Int)).op = 4 ∨ (insA cs ps (m : Int)).op = 6 then bit m else 0
theorem rhg_s {cs : List In} {ps : List Int} {m : Nat} {r : Int} : rhg cs ps (m + 1) r = if plain0 (insA cs ps (m : Int)) = r ∧ 0 ≤ r then rhv cs ps m else rhg cs ps m r := rfl
theorem rhg_neg {cs : List In} {ps : List Int} {r : Int} (h : r < 0) : ∀ m, rhg cs ps m r = 0
  | 0 => rfl
  | m + 1 => by rw [rhg_s, if_neg (by omega), rhg_neg h m]
theorem def_cases {cs : List In} {ps : List Int} {r : Int} : ∀ m, (defN cs ps r m = -1 ∧ (0 ≤ r → rhg cs ps m r = 0)) ∨ ∃ p : Nat, p < m ∧ defN cs ps r m = (p : Int) ∧ (0 ≤ r → rhg cs ps m r = rhv cs ps p) ∧ plain0 (insA cs ps (p : Int)) = r
  | 0 => .inl ⟨rfl, fun _ => rfl⟩
  | m + 1 => by
    by_cases h : plain0 (insA cs ps (m : Int)) = r
    · exact .inr ⟨m, by omega, by unfold defN; rw [if_pos h], fun h0 => by rw [rhg_s, if_pos ⟨h, h0⟩], h⟩
    · have e : defN cs ps r (m + 1) = defN cs ps r m := by unfold defN; rw [if_neg h]; cases m <;> rfl
      have e2 : rhg cs ps (m + 1) r = rhg cs ps m r := by rw [rhg_s, if_neg (fun q => h q.1)]
      rw [e, e2]
      rcases def_cases m with h1 | ⟨p, h1, h2⟩
      · exact .inl h1
      · exact .inr ⟨p, by omega, h2⟩
section
variable {cs : List In} {ps : List Int} {at_ r : Int}
theorem rd_no (h : rdefA cs ps at_ r < 0) : rhg cs ps (cutN ps at_) r = 0 := by
  unfold rdefA at h
  by_cases hr : r < 0
  · exact rhg_neg hr _
  · rw [if_neg hr] at h
    rcases def_cases (cs := cs) (ps := ps) (r := r) (cutN ps at_) with h1 | ⟨p, h1, h2, _⟩
    · exact h1.2 (by omega)
    · omega
theorem rd_yes (h : ¬ rdefA cs ps at_ r < 0) : ∃ p : Nat, rdefA cs ps at_ r = (p : Int) ∧ p < cutN ps at_ ∧ cutN ps (rdefA cs ps at_ r) = p ∧ rhg cs ps (cutN ps at_) r = rhv cs ps p := by
  by_cases hr : r < 0
  · unfold rdefA at h; rw [if_pos hr] at h; omega
  · have e : rdefA cs ps at_ r = defN cs ps r (cutN ps at_) := by unfold rdefA; rw [if_neg hr]
    rcases def_cases (cs := cs) (ps := ps) (r := r) (cutN ps at_) with h1 | ⟨p, h1, h2, h3, _⟩
    · omega
    · refine ⟨p, by omega, h1, ?_, h3 (by omega)⟩
      have := cutN_le ps at_
      rw [e, h2]; unfold cutN; omega
theorem rd_lt (h : ¬ rdefA cs ps at_ r < 0) : 0 ≤ rdefA cs ps at_ r ∧ rdefA cs ps at_ r < ((ps.length : Nat) : Int) ∧ cutN ps (rdefA cs ps at_ r) < cutN ps at_ := by
  obtain ⟨p, h1, h2, h3, _⟩ := rd_yes h
  have := cutN_le ps at_
  omega
theorem hg_eq (hP : POK cs ps) (h : ¬ rdefA cs ps at_ r < 0) : rhg cs ps (cutN ps at_) r = (if (rI cs ps (rdefA cs ps at_ r)).op = 2 then rhg cs ps (cutN ps (rdefA cs ps at_ r)) (rI cs ps (rdefA cs ps at_ r)).ra else if (rI cs ps (rdefA cs ps at_ r)).op = 3 then rhg cs ps (cutN ps (rdefA cs ps at_ r)) (rI cs ps (rdefA cs ps at_ r)).ra ||| rhg cs ps (cutN ps (rdefA cs ps at_ r)) (rI cs ps (rdefA cs ps at_ r)).rb else if (rI cs ps (rdefA cs ps at_ r)).op = 4 ∨ (rI cs ps (rdefA cs ps at_ r)).op = 6 then bit (rdefA cs ps at_ r).toNat else 0) := by
  have hl := rd_lt h
  rw [rI_eq hP hl.1 hl.2.1]
  obtain ⟨p, h1, h2, h3, h4⟩ := rd_yes h
  rw [h4, h3, h1, Int.toNat_natCast]; rfl
end
theorem rhangs0 (M : Nat) (cs : List In) (c : Nat) (ps : List Int) (d : Nat) (at_ : Int) (r : Int) (hn : ps.length ≤ 60) (hP : POK cs ps) (ih : ∀ (at_ r : Int), cutN ps at_ < M → Fn Try.prog 44 [.sl 0 cs.length c, .sl 1 ps.length d, .int .i64 at_, .int .i64 r] [lsC cs, some (.lst 1 ps.length fun j => [.int .i64 (ps.getD j 0)])] (Rt (.int .i64 (vB (rhg cs ps (cutN ps at_) r))) [lsC cs, some (.lst 1 ps.length fun j => [.int .i64 (ps.getD j 0)])])) (hM : cutN ps at_ ≤ M) : Fn Try.prog 44 [.sl 0 cs.length c, .sl 1 ps.length d, .int .i64 at_, .int .i64 r] [some (.lst 17 cs.length (fun zz => insS (cs.getD zz In.z))), some (.lst 1 ps.length (fun j => [.int .i64 (ps.getD j 0)]))] (Rt (.int .i64 (vB (rhg cs ps (cutN ps at_) r))) [some (.lst 17 cs.length (fun zz => insS (cs.getD zz In.z))), some (.lst 1 ps.length (fun j => [.int .i64 (ps.getD j 0)]))]) :=
 enterM (n := 55) (by kernel_rfl) Try.func44 rfl rfl rfl fun G w a h0 A => N hX 11 A rfl rfl fun A => CALL1 [0, 1] (rDef_ cs c ps d at_ r (by omega) hP) A rfl rfl rfl rfl rfl rfl rfl fun A => N hX 10 A rfl rfl fun A => forkD 17 A rfl
  (fun h1 A => N hX 7 A rfl rfl fun A => RETN hX A rfl rfl rfl h0 rfl rfl rfl rfl (by rw [rd_no h1, vB_0]; rfl) rfl)
  (fun h1 A => N hX 18 A rfl (ok_d (by have := rd_lt h1; have hpp := hP (rdefA cs ps at_ r).toNat (by omega); omega) <| ok_d (by have := rd_lt h1; have hpp := hP (rdefA cs ps at_ r).toNat (by omega); omega) <| ok_d (by have := rd_lt h1; have hpp := hP (rdefA cs ps at_ r).toNat (by omega); omega) <| ok_d (by have := rd_lt h1; have hpp := hP (rdefA cs ps at_ r).toNat (by omega); omega) <| okE_nil) fun A => N hX 12 A rfl rfl fun A => forkE 27 A rfl
   (fun h2 A => N hX 8 A rfl rfl fun A => CALL1 [0, 1] (ih (rdefA cs ps at_ r) ((cs.getD (((ps.getD ((rdefA cs ps at_ r).toNat) 0)).toNat) In.z).ra) (by have := rd_lt h1; omega)) A rfl rfl rfl rfl rfl rfl rfl fun A => N hX 4 A rfl rfl fun A => RETN hX A rfl rfl rfl h0 rfl rfl rfl rfl (by rw [hg_eq hP h1, if_pos h2] <;> rfl) rfl)
   (fun h2 A => N hX 7 A rfl rfl fun A => forkE 35 A rfl
    (fun h3 A => N hX 2 A rfl rfl fun A => DRAWN hX hmo [] [(5, .int .i64 (vB (rhg cs ps (cutN ps (rdefA cs ps at_ r)) ((cs.getD (((ps.getD ((rdefA cs ps at_ r).toNat) 0)).toNat) In.z).ra))), [some (.lst 17 cs.length (fun zz => insS (cs.getD zz In.z))), some (.lst 1 ps.length (fun j => [.int .i64 (ps.getD j 0)])), some (.blk [.int .i64 ((cs.getD (((ps.getD ((rdefA cs ps at_ r).toNat) 0)).toNat) In.z).op), .int .i64 ((cs.getD (((ps.getD ((rdefA cs ps at_ r).toNat) 0)).toNat) In.z).dst), .int .i64 ((cs.getD (((ps.getD ((rdefA cs ps at_ r).toNat) 0)).toNat) In.z).ra), .int .i64 ((cs.getD (((ps.getD ((rdefA cs ps at_ r).toNat) 0)).toNat) In.z).rb), .int .i64 ((cs.getD (((ps.getD ((rdefA cs ps at_ r).toNat) 0)).toNat) In.z).imm), .int .i64 ((cs.getD (((ps.getD ((rdefA cs ps at_ r).toNat) 0)).toNat) In.z).loc), .int .i64 ((cs.getD (((ps.getD ((rdefA cs ps at_ r).toNat) 0)).toNat) In.z).off), .int .i64 ((cs.getD (((ps.getD ((rdefA cs ps at_ r).toNat) 0)).toNat) In.z).ix), .int .i64 ((cs.getD (((ps.getD ((rdefA cs ps at_ r).toNat) 0)).toNat) In.z).sz), .int .i64 ((cs.getD (((ps.getD ((rdefA cs ps at_ r).toNat) 0)).toNat) In.z).fn), .bool ((cs.getD (((ps.getD ((rdefA cs ps at_ r).toNat) 0)).toNat) In.z).acq), .bool ((cs.getD (((ps.getD ((rdefA cs ps at_ r).toNat) 0)).toNat) In.z).weak), .bool ((cs.getD (((ps.getD ((rdefA cs ps at_ r).toNat) 0)).toNat) In.z).rel), .int .i64 ((cs.getD (((ps.getD ((rdefA cs ps at_ r).toNat) 0)).toNat) In.z).pred), .int .i64 ((cs.getD (((ps.getD ((rdefA cs ps at_ r).toNat) 0)).toNat) In.z).succ), .int .i64 ((cs.getD (((ps.getD ((rdefA cs ps at_ r).toNat) 0)).toNat) In.z).to_), .bool ((cs.getD (((ps.getD ((rdefA cs ps at_ r).toNat) 0)).toNat) In.z).zero)])]), (11, .int .i64 (vB (rhg cs ps (cutN ps (rdefA cs ps at_ r)) ((cs.getD (((ps.getD ((rdefA cs ps at_ r).toNat) 0)).toNat) In.z).rb))), [some (.lst 17 cs.length (fun zz => insS (cs.getD zz In.z))), some (.lst 1 ps.length (fun j => [.int .i64 (ps.getD j 0)])), some (.blk [.int .i64 ((cs.getD (((ps.getD ((rdefA cs ps at_ r).toNat) 0)).toNat) In.z).op), .int .i64 ((cs.getD (((ps.getD ((rdefA cs ps at_ r).toNat) 0)).toNat) In.z).dst), .int .i64 ((cs.getD (((ps.getD ((rdefA cs ps at_ r).toNat) 0)).toNat) In.z).ra), .int .i64 ((cs.getD (((ps.getD ((rdefA cs ps at_ r).toNat) 0)).toNat) In.z).rb), .int .i64 ((cs.getD (((ps.getD ((rdefA cs ps at_ r).toNat) 0)).toNat) In.z).imm), .int .i64 ((cs.getD (((ps.getD ((rdefA cs ps at_ r).toNat) 0)).toNat) In.z).loc), .int .i64 ((cs.getD (((ps.getD ((rdefA cs ps at_ r).toNat) 0)).toNat) In.z).off), .int .i64 ((cs.getD (((ps.getD ((rdefA cs ps at_ r).toNat) 0)).toNat) In.z).ix), .int .i64 ((cs.getD (((ps.getD ((rdefA cs ps at_ r).toNat) 0)).toNat) In.z).sz), .int .i64 ((cs.getD (((ps.getD ((rdefA cs ps at_ r).toNat) 0)).toNat) In.z).fn), .bool ((cs.getD (((ps.getD ((rdefA cs ps at_ r).toNat) 0)).toNat) In.z).acq), .bool ((cs.getD (((ps.getD ((rdefA cs ps at_ r).toNat) 0)).toNat) In.z).weak), .bool ((cs.getD (((ps.getD ((rdefA cs ps at_ r).toNat) 0)).toNat) In.z).rel), .int .i64 ((cs.getD (((ps.getD ((rdefA cs ps at_ r).toNat) 0)).toNat) In.z).pred), .int .i64 ((cs.getD (((ps.getD ((rdefA cs ps at_ r).toNat) 0)).toNat) In.z).succ), .int .i64 ((cs.getD (((ps.getD ((rdefA cs ps at_ r).toNat) 0)).toNat) In.z).to_), .bool ((cs.getD (((ps.getD ((rdefA cs ps at_ r).toNat) 0)).toNat) In.z).zero)])])] A rfl rfl rfl rfl (by kernel_rfl) ⟨callE [0, 1] (ih (rdefA cs ps at_ r) ((cs.getD (((ps.getD ((rdefA cs ps at_ r).toNat) 0)).toNat) In.z).ra) (by have := rd_lt h1; omega)) rfl rfl rfl rfl rfl rfl rfl, ⟨callE [0, 1] (ih (rdefA cs ps at_ r) ((cs.getD (((ps.getD ((rdefA cs ps at_ r).toNat) 0)).toNat) In.z).rb) (by have := rd_lt h1; omega)) rfl rfl rfl rfl rfl rfl rfl, trivial⟩⟩ trivial fun A => N hX 2 A rfl rfl fun A => RETN hX A rfl rfl rfl h0 rfl rfl rfl rfl (by rw [hg_eq hP h1, if_neg h2, if_pos h3, vB_or] <;> rfl) rfl)
    (fun h3 A => N hX 8 A rfl rfl fun A => forkE 50 A rfl
     (fun h4 A => N hX 12 A rfl (ok_d (by have := rd_lt h1; have hpp := hP (rdefA cs ps at_ r).toNat (by omega); omega) <| okE_nil) fun A => RETN hX A rfl rfl rfl h0 rfl rfl rfl rfl (by rw [hg_eq hP h1, if_neg h2, if_neg h3, if_pos (.inl h4), ← vB_bit (by have := rd_lt h1; omega)] <;> rfl) rfl)
     (fun h4 A => N hX 6 A rfl rfl fun A => forkE 50 A rfl
      (fun h5 A => N hX 9 A rfl (ok_d (by have := rd_lt h1; have hpp := hP (rdefA cs ps at_ r).toNat (by omega); omega) <| okE_nil) fun A => RETN hX A rfl rfl rfl h0 rfl rfl rfl rfl (by rw [hg_eq hP h1, if_neg h2, if_neg h3, if_pos (.inr h5), ← vB_bit (by have := rd_lt h1; omega)] <;> rfl) rfl)
      (fun h5 A => N hX 10 A rfl rfl fun A => RETN hX A rfl rfl rfl h0 rfl rfl rfl rfl (by rw [hg_eq hP h1, if_neg h2, if_neg h3, if_neg (by intro q; rcases q with q | q; exact h4 q; exact h5 q), vB_0] <;> rfl) rfl)))))
theorem rhangs_ (cs : List In) (c : Nat) (ps : List Int) (d : Nat) (hn : ps.length ≤ 60) (hP : POK cs ps) (at_ r : Int) : Fn Try.prog 44 [.sl 0 cs.length c, .sl 1 ps.length d, .int .i64 at_, .int .i64 r] [lsC cs, some (.lst 1 ps.length fun j => [.int .i64 (ps.getD j 0)])] (Rt (.int .i64 (vB (rhg cs ps (cutN ps at_) r))) [lsC cs, some (.lst 1 ps.length fun j => [.int .i64 (ps.getD j 0)])]) := by
  have h : ∀ M, ∀ (at_ r : Int), cutN ps at_ < M → Fn Try.prog 44 [.sl 0 cs.length c, .sl 1 ps.length d, .int .i64 at_, .int .i64 r] [lsC cs, some (.lst 1 ps.length fun j => [.int .i64 (ps.getD j 0)])] (Rt (.int .i64 (vB (rhg cs ps (cutN ps at_) r))) [lsC cs, some (.lst 1 ps.length fun j => [.int .i64 (ps.getD j 0)])]) := by
    intro M
    induction M with
    | zero => intro at_ r h; omega
    | succ M ih => intro at_ r h; exact rhangs0 M cs c ps d at_ r hn hP ih (by omega)
  exact h _ at_ r (Nat.lt_succ_self _)
end Go.Proofs.Ytmieaninmidelaa
/- The reference: Addr, Data, Ctrl. -/
namespace Go.Proofs.Ytmieaninmidelaa
open Go.RowKit
set_option linter.unusedVariables false
set_option linter.unusedSimpArgs false
set_option maxRecDepth 100000
set_option maxHeartbeats 2000000
set_option simprocs false
theorem nor2 {p q : Prop} [Decidable p] [Decidable q] (h : ((decide p) || (decide q)) = false) : ¬ p ∧ ¬ q := by simpa using h
def raddr0 (cs : List In) (c : Nat) (ps : List Int) (d : Nat) (at_ : Int) : Int := if at_ < 0 then 0 else if at_ ≥ ((ps.length : Nat) : Int) then 0 else if (!((((cs.getD (((ps.getD ((at_).toNat) 0)).toNat) In.z).op == 4) || ((cs.getD (((ps.getD ((at_).toNat) 0)).toNat) In.z).op == 5)) || ((cs.getD (((ps.getD ((at_).toNat) 0)).toNat) In.z).op == 6))) = true then 0 else vB (rhg cs ps (cutN ps at_) ((cs.getD (((ps.getD ((at_).toNat) 0)).toNat) In.z).ix))
theorem raddr_ (cs : List In) (c : Nat) (ps : List Int) (d : Nat) (at_ : Int) (hn : ps.length ≤ 60) (hP : POK cs ps) : Fn Try.prog 20 [.sl 0 cs.length c, .sl 1 ps.length d, .int .i64 at_] [some (.lst 17 cs.length (fun zz => insS (cs.getD zz In.z))), some (.lst 1 ps.length (fun j => [.int .i64 (ps.getD j 0)]))] (Rt (.int .i64 (raddr0 cs c ps d at_)) [some (.lst 17 cs.length (fun zz => insS (cs.getD zz In.z))), some (.lst 1 ps.length (fun j => [.int .i64 (ps.getD j 0)]))]) :=
 enterM (n := 38) (by kernel_rfl) Try.func20 rfl rfl rfl fun G w a h0 A => N hX 11 A rfl rfl fun A => forkD 9 A rfl
  (fun h1 A => N hX 25 A rfl rfl fun A => RETN hX A rfl rfl rfl h0 rfl rfl rfl rfl (by unfold raddr0; rw [if_pos h1] <;> rfl) rfl)
  (fun h1 A => N hX 6 A rfl rfl fun A => forkD 15 A rfl
   (fun h2 A => N hX 19 A rfl rfl fun A => RETN hX A rfl rfl rfl h0 rfl rfl rfl rfl (by unfold raddr0; rw [if_neg h1, if_pos h2] <;> rfl) rfl)
   (fun h2 A => N hX 7 A rfl (ok_d (by have hpp := hP at_.toNat; omega) <| ok_d (by have hpp := hP at_.toNat; omega) <| ok_d (by have hpp := hP at_.toNat; omega) <| ok_d (by have hpp := hP at_.toNat; omega) <| okE_nil) fun A => CALL1 [] (rMemory_ (cs.getD (((ps.getD ((at_).toNat) 0)).toNat) In.z) ) A rfl rfl rfl rfl rfl rfl rfl fun A => N hX 4 A rfl rfl fun A => fork 25 A rfl
    (fun h3 A => N hX 7 A rfl rfl fun A => RETN hX A rfl rfl rfl h0 rfl rfl rfl rfl (by unfold raddr0; rw [if_neg h1, if_neg h2, if_pos h3] <;> rfl) rfl)
    (fun h3 A => N hX 16 A rfl (ok_d (by have hpp := hP at_.toNat; omega) <| ok_d (by have hpp := hP at_.toNat; omega) <| ok_d (by have hpp := hP at_.toNat; omega) <| ok_d (by have hpp := hP at_.toNat; omega) <| ok_d (by have hpp := hP at_.toNat; omega) <| okE_nil) fun A => CALL1 [0, 1] (rhangs_ cs c ps d (by have hpp := hP at_.toNat; omega) hP at_ ((cs.getD (((ps.getD ((at_).toNat) 0)).toNat) In.z).ix)) A rfl rfl rfl rfl rfl rfl rfl fun A => N hX 4 A rfl rfl fun A => RETN hX A rfl rfl rfl h0 rfl rfl rfl rfl (by unfold raddr0; rw [if_neg h1, if_neg h2, if_neg (ne_true_of_eq_false h3)] <;> rfl) rfl)))
def rdata0 (cs : List In) (c : Nat) (ps : List Int) (d : Nat) (at_ : Int) : Int := if at_ < 0 then 0 else if at_ ≥ ((ps.length : Nat) : Int) then 0 else if (!(((cs.getD (((ps.getD ((at_).toNat) 0)).toNat) In.z).op == 5) || ((cs.getD (((ps.getD ((at_).toNat) 0)).toNat) In.z).op == 6))) = true then 0 else vB (rhg cs ps (cutN ps at_) ((cs.getD (((ps.getD ((at_).toNat) 0)).toNat) In.z).ra))
theorem rdata_ (cs : List In) (c : Nat) (ps : List Int) (d : Nat) (at_ : Int) (hn : ps.length ≤ 60) (hP : POK cs ps) : Fn Try.prog 22 [.sl 0 cs.length c, .sl 1 ps.length d, .int .i64 at_] [some (.lst 17 cs.length (fun zz => insS (cs.getD zz In.z))), some (.lst 1 ps.length (fun j => [.int .i64 (ps.getD j 0)]))] (Rt (.int .i64 (rdata0 cs c ps d at_)) [some (.lst 17 cs.length (fun zz => insS (cs.getD zz In.z))), some (.lst 1 ps.length (fun j => [.int .i64 (ps.getD j 0)]))]) :=
 enterM (n := 38) (by kernel_rfl) Try.func22 rfl rfl rfl fun G w a h0 A => N hX 11 A rfl rfl fun A => forkD 9 A rfl
  (fun h1 A => N hX 25 A rfl rfl fun A => RETN hX A rfl rfl rfl h0 rfl rfl rfl rfl (by unfold rdata0; rw [if_pos h1] <;> rfl) rfl)
  (fun h1 A => N hX 6 A rfl rfl fun A => forkD 15 A rfl
   (fun h2 A => N hX 19 A rfl rfl fun A => RETN hX A rfl rfl rfl h0 rfl rfl rfl rfl (by unfold rdata0; rw [if_neg h1, if_pos h2] <;> rfl) rfl)
   (fun h2 A => N hX 7 A rfl (ok_d (by have hpp := hP at_.toNat; omega) <| ok_d (by have hpp := hP at_.toNat; omega) <| ok_d (by have hpp := hP at_.toNat; omega) <| ok_d (by have hpp := hP at_.toNat; omega) <| okE_nil) fun A => CALL1 [] (rWrites_ (cs.getD (((ps.getD ((at_).toNat) 0)).toNat) In.z) ) A rfl rfl rfl rfl rfl rfl rfl fun A => N hX 4 A rfl rfl fun A => fork 25 A rfl
    (fun h3 A => N hX 7 A rfl rfl fun A => RETN hX A rfl rfl rfl h0 rfl rfl rfl rfl (by unfold rdata0; rw [if_neg h1, if_neg h2, if_pos h3] <;> rfl) rfl)
    (fun h3 A => N hX 16 A rfl (ok_d (by have hpp := hP at_.toNat; omega) <| ok_d (by have hpp := hP at_.toNat; omega) <| ok_d (by have hpp := hP at_.toNat; omega) <| ok_d (by have hpp := hP at_.toNat; omega) <| ok_d (by have hpp := hP at_.toNat; omega) <| okE_nil) fun A => CALL1 [0, 1] (rhangs_ cs c ps d (by have hpp := hP at_.toNat; omega) hP at_ ((cs.getD (((ps.getD ((at_).toNat) 0)).toNat) In.z).ra)) A rfl rfl rfl rfl rfl rfl rfl fun A => N hX 4 A rfl rfl fun A => RETN hX A rfl rfl rfl h0 rfl rfl rfl rfl (by unfold rdata0; rw [if_neg h1, if_neg h2, if_neg (ne_true_of_eq_false h3)] <;> rfl) rfl)))
def rctN (cs : List In) (ps : List Int) : Nat → BV
  | 0 => 0
  | m + 1 => if (insA cs ps (m : Int)).op = 9 then rctN cs ps m ||| rhg cs ps m (insA cs ps (m : Int)).ra else rctN cs ps m
structure RcI (cs : List In) (ps : List Int) (at_ : Int) (x : BV) (k : Nat) : Prop where
  le : k ≤ cutN ps at_
  eq : x = rctN cs ps k
section
variable {cs : List In} {ps : List Int} {at_ : Int} {x : BV} {k : Nat}
theorem RcI.i0 : RcI cs ps at_ 0 0 := ⟨Nat.zero_le _, rfl⟩
theorem cut_lt (h : (k : Int) < at_ ∧ (k : Int) < ((ps.length : Nat) : Int)) : k < cutN ps at_ := by unfold cutN; omega
theorem cut_nat (h : k ≤ ps.length) : cutN ps ((k : Nat) : Int) = k := by unfold cutN; omega
theorem RcI.yes (hP : POK cs ps) (hI : RcI cs ps at_ x k) (h : (k : Int) < at_ ∧ (k : Int) < ((ps.length : Nat) : Int)) (h9 : (rI cs ps (k : Int)).op = 9) : RcI cs ps at_ (x ||| rhg cs ps (cutN ps (k : Int)) (rI cs ps (k : Int)).ra) (k + 1) := by
  rw [rI_eq hP (by omega) h.2] at h9 ⊢
  exact ⟨cut_lt h, by rw [hI.eq, cut_nat (by omega)]; unfold rctN; rw [if_pos h9]; cases k <;> rfl⟩
theorem RcI.no (hP : POK cs ps) (hI : RcI cs ps at_ x k) (h : (k : Int) < at_ ∧ (k : Int) < ((ps.length : Nat) : Int)) (h9 : (rI cs ps (k : Int)).op ≠ 9) : RcI cs ps at_ x (k + 1) := by
  rw [rI_eq hP (by omega) h.2] at h9
  exact ⟨cut_lt h, by rw [hI.eq]; conv => rhs; unfold rctN; rw [if_neg h9]⟩
theorem RcI.fi (hI : RcI cs ps at_ x k) (h : ¬ ((k : Int) < at_ ∧ (k : Int) < ((ps.length : Nat) : Int))) : x = rctN cs ps (cutN ps at_) := by
  have := hI.le
  have e : k = cutN ps at_ := by unfold cutN at this ⊢; omega
  rw [← e]; exact hI.eq
end
theorem rCtrl_ (cs : List In) (c : Nat) (ps : List Int) (d : Nat) (at_ : Int) (hn : ps.length ≤ 60) (hP : POK cs ps) : Fn Try.prog 24 [.sl 0 cs.length c, .sl 1 ps.length d, .int .i64 at_] [some (.lst 17 cs.length (fun zz => insS (cs.getD zz In.z))), some (.lst 1 ps.length (fun j => [.int .i64 (ps.getD j 0)]))] (Rt (.int .i64 (vB (rctN cs ps (cutN ps at_)))) [some (.lst 17 cs.length (fun zz => insS (cs.getD zz In.z))), some (.lst 1 ps.length (fun j => [.int .i64 (ps.getD j 0)]))]) :=
 enterM (n := 44) (by kernel_rfl) Try.func24 rfl rfl rfl fun G w a h0 A => N hX 12 A rfl rfl fun A => have A := A.say 7 (.int .i64 (vB 0)) rfl (by rw [vB_0]); N hX 5 A rfl rfl fun A => LOOP2 (fun (x : BV) (k : Nat) => [(0, .sl 0 cs.length c), (1, .sl 1 ps.length d), (2, .int .i64 at_), (6, .int .i64 0), (7, .int .i64 (vB x)), (8, .int .i64 (k : Int))]) (fun (x : BV) (k : Nat) => [some (.lst 17 cs.length (fun zz => insS (cs.getD zz In.z))), some (.lst 1 ps.length (fun j => [.int .i64 (ps.getD j 0)]))]) (fun (x : BV) (k : Nat) => RcI cs ps at_ x k) (fun (x : BV) (k : Nat) => cutN ps at_ - k) 0 0 RcI.i0 ((A.cut [0, 1, 2, 6, 7, 8] rfl).trunc 2 rfl rfl rfl (by simp only [List.length_cons, List.length_nil] at h0; omega)) fun x k hI {G a w} A => N hX 14 A rfl rfl fun A => fork 17 A rfl
   (fun h1 A => N hX 18 A rfl (ok_d (by have hq := and2 h1; have hpp := hP ((k : Int)).toNat (by omega); have := hI.le; have := cutN_le ps at_; omega) <| ok_d (by have hq := and2 h1; have hpp := hP ((k : Int)).toNat (by omega); have := hI.le; have := cutN_le ps at_; omega) <| ok_d (by have hq := and2 h1; have hpp := hP ((k : Int)).toNat (by omega); have := hI.le; have := cutN_le ps at_; omega) <| ok_d (by have hq := and2 h1; have hpp := hP ((k : Int)).toNat (by omega); have := hI.le; have := cutN_le ps at_; omega) <| ok_d (by have hq := and2 h1; have hpp := hP ((k : Int)).toNat (by omega); have := hI.le; have := cutN_le ps at_; omega) <| okE_nil) fun A => forkE 28 A rfl
    (fun h2 A => N hX 14 A rfl (ok_d (by have hq := and2 h1; have hpp := hP ((k : Int)).toNat (by omega); have := hI.le; have := cutN_le ps at_; omega) <| ok_d (by have hq := and2 h1; have hpp := hP ((k : Int)).toNat (by omega); have := hI.le; have := cutN_le ps at_; omega) <| ok_d (by have hq := and2 h1; have hpp := hP ((k : Int)).toNat (by omega); have := hI.le; have := cutN_le ps at_; omega) <| ok_d (by have hq := and2 h1; have hpp := hP ((k : Int)).toNat (by omega); have := hI.le; have := cutN_le ps at_; omega) <| ok_d (by have hq := and2 h1; have hpp := hP ((k : Int)).toNat (by omega); have := hI.le; have := cutN_le ps at_; omega) <| okE_nil) fun A => CALL1 [0, 1] (rhangs_ cs c ps d (by have hq := and2 h1; have hpp := hP ((k : Int)).toNat (by omega); have := hI.le; have := cutN_le ps at_; omega) hP (k : Int) ((cs.getD (((ps.getD (((k : Int)).toNat) 0)).toNat) In.z).ra)) A rfl rfl rfl rfl rfl rfl rfl fun A => N hX 1 A rfl rfl fun A => have A := sy_sayD A 42 (.int .i64 (vB (x ||| rhg cs ps (cutN ps (k : Int)) (rI cs ps (k : Int)).ra))) rfl (fun _ => by rw [vB_or]); N hX 7 A rfl (ok_d (by have hq := and2 h1; have hpp := hP ((k : Int)).toNat (by omega); have := hI.le; have := cutN_le ps at_; omega) <| okE_nil) fun A => N hX 2 A rfl rfl fun A => ⟨(x ||| rhg cs ps (cutN ps (k : Int)) (rI cs ps (k : Int)).ra), k + 1, _, (by have := cut_lt (and2 h1); omega), (hI.yes hP (and2 h1) h2), ((A.cut [0, 1, 2, 6, 7, 8] rfl).trunc 2 rfl rfl rfl (by simp only [List.length_cons, List.length_nil] at h0; omega))⟩)
    (fun h2 A => N hX 7 A rfl (ok_d (by have hq := and2 h1; have hpp := hP ((k : Int)).toNat (by omega); have := hI.le; have := cutN_le ps at_; omega) <| okE_nil) fun A => N hX 2 A rfl rfl fun A => ⟨x, k + 1, _, (by have := cut_lt (and2 h1); omega), (hI.no hP (and2 h1) h2), ((A.cut [0, 1, 2, 6, 7, 8] rfl).trunc 2 rfl rfl rfl (by simp only [List.length_cons, List.length_nil] at h0; omega))⟩))
   (fun h1 A => N hX 10 A rfl rfl fun A => RETN hX A rfl rfl rfl h0 rfl rfl rfl rfl (by rw [hI.fi (nand2 h1)] <;> rfl) rfl)
end Go.Proofs.Ytmieaninmidelaa
/- Theory: the walk back comes to what the document says. -/
namespace Go.Proofs.Ytmieaninmidelaa
open Go.RowKit
set_option linter.unusedVariables false
set_option linter.unusedSimpArgs false
set_option maxRecDepth 100000
set_option maxHeartbeats 2000000
theorem bit_get {k j : Nat} (hk : k < 64) : (bit k).getLsbD j = decide (j = k) := by
  unfold bit
  rw [BitVec.getLsbD_shiftLeft]
  by_cases h : j = k
  · subst h; simp [hk]
  · by_cases h2 : j < k
    · simp [h2, h]
    · have : j - k ≠ 0 := by omega
      simp [h2, h, this]
theorem zero_get (j : Nat) : (0 : BV).getLsbD j = false := BitVec.getLsbD_zero
theorem ask_get {x : BV} {r : Int} {j : Nat} (hj : j < 64) : (askB x r).getLsbD j = true ↔ x.getLsbD j = true ∨ (regQ r = true ∧ j = r.toNat) := by
  unfold askB
  by_cases h : regQ r = true
  · rw [if_pos h, BitVec.getLsbD_or]
    have : 0 ≤ r ∧ r < 8 := by simpa [regQ] using h
    rw [bit_get (by omega)]
    simp [h]
  · rw [if_neg h]; simp [h]
theorem asks_get {j : Nat} (hj : j < 64) : ∀ (u : List Int) (x : BV), (u.foldl askB x).getLsbD j = true ↔ x.getLsbD j = true ∨ ∃ r ∈ u, regQ r = true ∧ j = r.toNat
  | [], x => by simp
  | r :: u, x => by
    rw [List.foldl_cons, asks_get hj u, ask_get hj]
    simp [or_assoc]
theorem off_get {x : BV} {d j : Nat} (hd : d < 64) : (x &&& ~~~ bit d).getLsbD j = true ↔ x.getLsbD j = true ∧ j ≠ d := by
  rw [BitVec.getLsbD_and, BitVec.getLsbD_not]
  by_cases hj : j < 64
  · rw [bit_get hd]; simp [hj]
  · have : x.getLsbD j = false := BitVec.getLsbD_of_ge x j (by omega)
    simp [this]
/-- registers are named as they may be, all along a path -/
def SOK (cs : List In) (ps : List Int) : Prop := ∀ m : Nat, m < ps.length → Snd (insA cs ps (m : Int))
theorem uses_mv {i : In} (h : i.op = 2) : usesL i = [i.ra].filter fun r => !(r == -1) := by
  unfold usesL plain1 plain2 plain6 isOp0; simp [h, List.filter]
theorem uses_al {i : In} (h : i.op = 3) : usesL i = [i.ra, i.rb].filter fun r => !(r == -1) := by
  unfold usesL plain1 plain2 plain6 isOp0; simp [h, List.filter]
theorem uses_co {i : In} (h : i.op = 1) : usesL i = [] := by
  unfold usesL plain1 plain2 plain6 isOp0; simp [h, List.filter]
theorem gives_op {i : In} (h : 0 ≤ plain0 i) : (i.op = 1 ∨ i.op = 2 ∨ i.op = 3 ∨ i.op = 4 ∨ i.op = 6) ∧ plain0 i = i.dst := by
  unfold plain0 at h ⊢
  by_cases h1 : i.op = 1
  · simp [h1]
  by_cases h2 : i.op = 2
  · simp [h2]
  by_cases h3 : i.op = 3
  · simp [h3]
  by_cases h4 : i.op = 4
  · simp [h4]
  by_cases h5 : i.op = 5
  · simp [h5] at h
  by_cases h6 : i.op = 6
  · simp [h6]
  simp [h1, h2, h3, h4, h5, h6] at h
theorem walk_get {cs : List In} {ps : List Int} {j : Nat} (hn : ps.length ≤ 60) (hS : SOK cs ps) : ∀ (m : Nat) (x y : BV), m ≤ ps.length → ((walkN cs ps x y m).getLsbD j = true ↔ y.getLsbD j = true ∨ ∃ r : Nat, r < 8 ∧ x.getLsbD r = true ∧ (rhg cs ps m (r : Int)).getLsbD j = true)
  | 0, x, y, _ => by
    unfold walkN
    simp [rhg, zero_get]
  | m + 1, x, y, hm => by
    unfold walkN
    have ih := walk_get (j := j) hn hS m
    have hs := hS m (by omega)
    generalize hi : insA cs ps (m : Int) = i at hs
    rw [ih _ _ (by omega)]
    have hstep : ∀ r : Nat, rhg cs ps (m + 1) (r : Int) = if plain0 i = (r : Int) then rhv cs ps m else rhg cs ps m (r : Int) := fun r => by
      rw [rhg_s, hi]
      by_cases h : plain0 i = (r : Int)
      · rw [if_pos ⟨h, by omega⟩, if_pos h]
      · rw [if_neg (fun q => h q.1), if_neg h]
    by_cases hc : passC x i = true
    · rw [pass_n hc]
      rw [passC_eq] at hc
      have hno : ∀ r : Nat, r < 8 → x.getLsbD r = true → plain0 i ≠ (r : Int) := fun r hr hx e => by
        rw [e] at hc
        simp [regQ, hx] at hc
        omega
      constructor
      · rintro (h | ⟨r, h1, h2, h3⟩)
        · exact .inl h
        · exact .inr ⟨r, h1, h2, by rw [hstep, if_neg (hno r h1 h2)]; exact h3⟩
      · rintro (h | ⟨r, h1, h2, h3⟩)
        · exact .inl h
        · exact .inr ⟨r, h1, h2, by rw [hstep, if_neg (hno r h1 h2)] at h3; exact h3⟩
    · have hcf : passC x i = false := by simpa using hc
      have hlt := passC_lt hcf
      have hbit : x.getLsbD (plain0 i).toNat = true ∧ 0 ≤ plain0 i ∧ plain0 i < 8 := by
        rw [passC_eq] at hcf
        simp [regQ] at hcf
        exact ⟨hcf.2, by omega, by omega⟩
      obtain ⟨hx, h0, h8⟩ := hbit
      obtain ⟨hop, hdst⟩ := gives_op h0
      obtain ⟨d, hd⟩ : ∃ d : Nat, plain0 i = (d : Int) := ⟨(plain0 i).toNat, by omega⟩
      have hdn : (plain0 i).toNat = d := by omega
      have hd8 : d < 8 := by omega
      rw [hdn] at hx
      by_cases hr : ((i.op == 4) || (i.op == 6)) = true
      · rw [pass_r hcf hr]
        have hr' : i.op = 4 ∨ i.op = 6 := by simpa using hr
        have hv : rhv cs ps m = bit m := by
          unfold rhv; rw [hi, if_neg (by omega), if_neg (by omega), if_pos hr']
        simp only [Int.toNat_natCast]
        rw [BitVec.getLsbD_or, bit_get (by omega), Bool.or_eq_true, decide_eq_true_eq, hdn]
        constructor
        · rintro ((h | h) | ⟨r, h1, h2, h3⟩)
          · exact .inl h
          · exact .inr ⟨d, hd8, hx, by rw [hstep, if_pos hd, hv, bit_get (by omega)]; simp [h]⟩
          · rw [off_get (by omega)] at h2
            exact .inr ⟨r, h1, h2.1, by rw [hstep, if_neg (by omega)]; exact h3⟩
        · rintro (h | ⟨r, h1, h2, h3⟩)
          · exact .inl (.inl h)
          · by_cases e : r = d
            · subst e
              rw [hstep, if_pos hd, hv, bit_get (by omega)] at h3
              exact .inl (.inr (by simpa using h3))
            · rw [hstep, if_neg (by omega)] at h3
              exact .inr ⟨r, h1, by rw [off_get (by omega)]; exact ⟨h2, e⟩, h3⟩
      · have hrf : ((i.op == 4) || (i.op == 6)) = false := by simpa using hr
        have hr' : i.op ≠ 4 ∧ i.op ≠ 6 := by simpa using hrf
        rw [pass_u hcf hrf]
        simp only [hdn]
        -- what its registers hang on
        have hu : (rhv cs ps m).getLsbD j = true ↔ ∃ r : Nat, r < 8 ∧ (∃ q ∈ usesL i, regQ q = true ∧ r = q.toNat) ∧ (rhg cs ps m (r : Int)).getLsbD j = true := by
          have one : ∀ q : Int, -1 ≤ q → q < 8 → ((rhg cs ps m q).getLsbD j = true ↔ ∃ r : Nat, r < 8 ∧ (q ≠ -1 ∧ regQ q = true ∧ r = q.toNat) ∧ (rhg cs ps m (r : Int)).getLsbD j = true) := fun q h1 h2 => by
            by_cases e : q = -1
            · subst e
              rw [rhg_neg (by omega)]
              simp [zero_get]
            · constructor
              · intro h
                exact ⟨q.toNat, by omega, ⟨e, by simp [regQ]; omega, rfl⟩, by rw [Int.toNat_of_nonneg (by omega)]; exact h⟩
              · rintro ⟨r, h3, ⟨_, _, h4⟩, h5⟩
                subst h4
                rw [Int.toNat_of_nonneg (by omega)] at h5; exact h5
          unfold rhv
          rw [hi]
          rcases hop with h | h | h | h | h
          · rw [if_neg (by omega), if_neg (by omega), if_neg (by omega), uses_co h]; simp [zero_get]
          · rw [if_pos h, one _ (by have := hs.a (by omega); omega) (by have := hs.a (by omega); omega), uses_mv h]
            constructor
            · rintro ⟨r, q1, ⟨q2, q3, q4⟩, q5⟩
              exact ⟨r, q1, ⟨i.ra, by simp [List.mem_filter, q2], q3, q4⟩, q5⟩
            · rintro ⟨r, q1, ⟨q, q2, q3, q4⟩, q5⟩
              simp [List.mem_filter] at q2
              obtain ⟨rfl, q6⟩ := q2
              exact ⟨r, q1, ⟨q6, q3, q4⟩, q5⟩
          · rw [if_neg (by omega), if_pos h, BitVec.getLsbD_or, Bool.or_eq_true, one _ (by have := hs.a (by omega); omega) (by have := hs.a (by omega); omega), one _ (hs.b h).1 (hs.b h).2, uses_al h]
            constructor
            · rintro (⟨r, q1, ⟨q2, q3, q4⟩, q5⟩ | ⟨r, q1, ⟨q2, q3, q4⟩, q5⟩)
              · exact ⟨r, q1, ⟨i.ra, by simp [List.mem_filter, q2], q3, q4⟩, q5⟩
              · exact ⟨r, q1, ⟨i.rb, by simp [List.mem_filter, q2], q3, q4⟩, q5⟩
            · rintro ⟨r, q1, ⟨q, q2, q3, q4⟩, q5⟩
              simp [List.mem_filter] at q2
              rcases q2 with ⟨rfl | rfl, q6⟩
              · exact .inl ⟨r, q1, ⟨q6, q3, q4⟩, q5⟩
              · exact .inr ⟨r, q1, ⟨q6, q3, q4⟩, q5⟩
          · omega
          · omega
        constructor
        · rintro (h | ⟨r, h1, h2, h3⟩)
          · exact .inl h
          · rw [asks_get (by omega), off_get (by omega)] at h2
            rcases h2 with ⟨h2, h4⟩ | h2
            · exact .inr ⟨r, h1, h2, by rw [hstep, if_neg (by omega)]; exact h3⟩
            · exact .inr ⟨d, hd8, hx, by rw [hstep, if_pos hd, hu]; exact ⟨r, h1, h2, h3⟩⟩
        · rintro (h | ⟨r, h1, h2, h3⟩)
          · exact .inl h
          · by_cases e : r = d
            · subst e
              rw [hstep, if_pos hd, hu] at h3
              obtain ⟨r', q1, q2, q3⟩ := h3
              exact .inr ⟨r', q1, by rw [asks_get (by omega)]; exact .inr q2, q3⟩
            · rw [hstep, if_neg (by omega)] at h3
              exact .inr ⟨r, h1, by rw [asks_get (by omega), off_get (by omega)]; exact .inl ⟨h2, e⟩, h3⟩
theorem bv_ext {x y : BV} (h : ∀ j, x.getLsbD j = true ↔ y.getLsbD j = true) : x = y := by
  apply BitVec.eq_of_getLsbD_eq
  intro j hj
  have := h j
  cases hx : x.getLsbD j <;> cases hy : y.getLsbD j <;> simp_all
theorem hang_eq {cs : List In} {ps : List Int} (hn : ps.length ≤ 60) (hS : SOK cs ps) (at_ r : Int) (h1 : -1 ≤ r) (h2 : r < 8) : hangB cs ps at_ r = rhg cs ps (cutN ps at_) r := by
  refine bv_ext fun j => ?_
  unfold hangB
  rw [walk_get hn hS _ _ _ (cutN_le _ _)]
  by_cases e : r = -1
  · subst e
    rw [rhg_neg (by omega)]
    have : askB 0 (-1) = 0 := by decide
    rw [this]
    simp [zero_get]
  · constructor
    · rintro (h | ⟨q, q1, q2, q3⟩)
      · rw [zero_get] at h; cases h
      · rw [ask_get (by omega), zero_get] at q2
        rcases q2 with q2 | ⟨_, q2⟩
        · cases q2
        · subst q2; rw [Int.toNat_of_nonneg (by omega)] at q3; exact q3
    · intro h
      exact .inr ⟨r.toNat, by omega, by rw [ask_get (by omega)]; exact .inr ⟨by simp [regQ]; omega, rfl⟩, by rw [Int.toNat_of_nonneg (by omega)]; exact h⟩
end Go.Proofs.Ytmieaninmidelaa
/- Theory: what addresses, data, branches hang on; the indices of paths. -/
namespace Go.Proofs.Ytmieaninmidelaa
open Go.RowKit
set_option linter.unusedVariables false
set_option linter.unusedSimpArgs false
set_option maxRecDepth 100000
set_option maxHeartbeats 2000000
theorem path_in (cs : List In) (k : Nat) : ∀ p ∈ pths cs k, ∀ v ∈ p, (k : Int) ≤ v ∧ v < ((cs.length : Nat) : Int) := by
  intro p hp v hv
  by_cases h : k < cs.length
  · by_cases h2 : brQ cs k
    · have h3 := h2.2.1; have h4 := h2.2.2
      rw [pths_br h h2, List.mem_append, List.mem_map, List.mem_map] at hp
      rcases hp with ⟨q, hq, rfl⟩ | ⟨q, hq, rfl⟩
      · rcases List.mem_cons.1 hv with rfl | hv
        · omega
        · have := path_in cs (k + 1) q hq v hv; omega
      · rcases List.mem_cons.1 hv with rfl | hv
        · omega
        · have := path_in cs _ q hq v hv; omega
    · rw [pths_go h h2, List.mem_map] at hp
      obtain ⟨q, hq, rfl⟩ := hp
      rcases List.mem_cons.1 hv with rfl | hv
      · omega
      · have := path_in cs (k + 1) q hq v hv; omega
  · rw [pths_end h] at hp; simp at hp; subst hp; cases hv
termination_by cs.length - k
decreasing_by all_goals omega
theorem pok_of {cs : List In} {p : List Int} (h : p ∈ pths cs 0) : POK cs p := fun j hj => by
  have e : p.getD j 0 = p[j] := by simp [List.getD, hj]
  have := path_in cs 0 p h p[j] (List.getElem_mem hj)
  rw [e]; omega
theorem len8 {cs : List In} {p : List Int} (hn : cs.length ≤ 8) (h : p ∈ pths cs 0) : p.length ≤ 8 := by have := path_len cs 0 p h; omega
theorem sok_of {cs : List In} {p : List Int} (hc : RC cs) (h : p ∈ pths cs 0) : SOK cs p := fun m hm => by
  have := pok_of h m hm
  rw [← rI_eq (pok_of h) (by omega) (by omega)]
  exact hc.sn (by rw [Int.toNat_natCast]; omega)
theorem insA_out {cs : List In} {ps : List Int} {p : Int} (h : p < 0 ∨ p ≥ ((ps.length : Nat) : Int)) : insA cs ps p = In.z := by
  unfold insA
  rw [if_pos (by simp only [Bool.or_eq_true, decide_eq_true_eq]; rcases h with h | h <;> simp [h])]
section
variable {cs : List In} {ps : List Int} {j : Nat}
theorem pass_get (hn : ps.length ≤ 60) (hS : SOK cs ps) (m : Nat) (x y : BV) (hm : m + 1 ≤ ps.length) : ((passB x y (m : Int) (insA cs ps (m : Int))).2.getLsbD j = true ∨ ∃ r : Nat, r < 8 ∧ (passB x y (m : Int) (insA cs ps (m : Int))).1.getLsbD r = true ∧ (rhg cs ps m (r : Int)).getLsbD j = true) ↔ (y.getLsbD j = true ∨ ∃ r : Nat, r < 8 ∧ x.getLsbD r = true ∧ (rhg cs ps (m + 1) (r : Int)).getLsbD j = true) :=
  (walk_get hn hS m _ _ (by omega)).symm.trans (walk_get hn hS (m + 1) x y hm)
theorem ctrl_get (hn : ps.length ≤ 60) (hS : SOK cs ps) : ∀ (m : Nat) (x y : BV), m ≤ ps.length → ((ctrlN cs ps x y m).getLsbD j = true ↔ (y.getLsbD j = true ∨ ∃ r : Nat, r < 8 ∧ x.getLsbD r = true ∧ (rhg cs ps m (r : Int)).getLsbD j = true) ∨ (rctN cs ps m).getLsbD j = true)
  | 0, x, y, _ => by
    unfold ctrlN rctN
    simp [rhg, zero_get]
  | m + 1, x, y, hm => by
    unfold ctrlN
    simp only
    rw [ctrl_get hn hS m _ _ (by omega), pass_get hn hS m _ _ hm]
    have hs := hS m (by omega)
    conv => rhs; rw [show rctN cs ps (m + 1) = if (insA cs ps (m : Int)).op = 9 then rctN cs ps m ||| rhg cs ps m (insA cs ps (m : Int)).ra else rctN cs ps m from rfl]
    by_cases h9 : (insA cs ps (m : Int)).op = 9
    · rw [if_pos h9, if_pos h9, BitVec.getLsbD_or, Bool.or_eq_true]
      have ha := hs.a (by omega)
      have hp : plain0 (insA cs ps (m : Int)) = -1 := by unfold plain0; simp [h9]
      have hst : ∀ r : Nat, rhg cs ps (m + 1) (r : Int) = rhg cs ps m (r : Int) := fun r => by rw [rhg_s, if_neg (by rw [hp]; omega)]
      constructor
      · rintro ((h | ⟨r, h1, h2, h3⟩) | h)
        · exact .inl (.inl h)
        · rw [ask_get (by omega)] at h2
          rcases h2 with h2 | ⟨_, h2⟩
          · exact .inl (.inr ⟨r, h1, h2, h3⟩)
          · subst h2
            rw [hst, Int.toNat_of_nonneg ha.1] at h3
            exact .inr (.inr h3)
        · exact .inr (.inl h)
      · rintro ((h | ⟨r, h1, h2, h3⟩) | h | h)
        · exact .inl (.inl h)
        · exact .inl (.inr ⟨r, h1, by rw [ask_get (by omega)]; exact .inl h2, h3⟩)
        · exact .inr h
        · exact .inl (.inr ⟨(insA cs ps (m : Int)).ra.toNat, by omega, by rw [ask_get (by omega)]; exact .inr ⟨by simp [regQ]; omega, rfl⟩, by rw [hst, Int.toNat_of_nonneg ha.1]; exact h⟩)
    · rw [if_neg h9, if_neg h9]
end
section
variable {cs : List In} {ps : List Int}
theorem ctrl_eq (hn : ps.length ≤ 60) (hS : SOK cs ps) (at_ : Int) : ctrlB cs ps at_ = rctN cs ps (cutN ps at_) := by
  refine bv_ext fun j => ?_
  unfold ctrlB
  rw [ctrl_get hn hS _ _ _ (cutN_le _ _)]
  simp [zero_get]
theorem addr_eq (hn : ps.length ≤ 60) (hP : POK cs ps) (hS : SOK cs ps) (c d : Nat) (at_ : Int) : raddr0 cs c ps d at_ = vB (addrB cs ps at_) := by
  unfold raddr0 addrB
  by_cases h1 : at_ < 0
  · rw [if_pos h1, insA_out (.inl h1), if_pos (by decide)]; exact vB_0.symm
  rw [if_neg h1]
  by_cases h2 : at_ ≥ ((ps.length : Nat) : Int)
  · rw [if_pos h2, insA_out (.inr h2), if_pos (by decide)]; exact vB_0.symm
  rw [if_neg h2, show (cs.getD (((ps.getD ((at_).toNat) 0)).toNat) In.z) = insA cs ps at_ from rI_eq hP (by omega) (by omega)]
  have hs := hS at_.toNat (by omega)
  rw [Int.toNat_of_nonneg (by omega)] at hs
  by_cases h4 : (insA cs ps at_).op = 4 ∨ (insA cs ps at_).op = 5 ∨ (insA cs ps at_).op = 6
  · have hx := hs.x h4
    rw [hang_eq hn hS _ _ hx.1 hx.2]
    rcases h4 with h | h | h <;> simp [h]
  · have : (insA cs ps at_).op ≠ 4 ∧ (insA cs ps at_).op ≠ 5 ∧ (insA cs ps at_).op ≠ 6 := by omega
    simp [this]
    exact vB_0.symm
theorem data_eq (hn : ps.length ≤ 60) (hP : POK cs ps) (hS : SOK cs ps) (c d : Nat) (at_ : Int) : rdata0 cs c ps d at_ = vB (dataB cs ps at_) := by
  unfold rdata0 dataB
  by_cases h1 : at_ < 0
  · rw [if_pos h1, insA_out (.inl h1), if_pos (by decide)]; exact vB_0.symm
  rw [if_neg h1]
  by_cases h2 : at_ ≥ ((ps.length : Nat) : Int)
  · rw [if_pos h2, insA_out (.inr h2), if_pos (by decide)]; exact vB_0.symm
  rw [if_neg h2, show (cs.getD (((ps.getD ((at_).toNat) 0)).toNat) In.z) = insA cs ps at_ from rI_eq hP (by omega) (by omega)]
  have hs := hS at_.toNat (by omega)
  rw [Int.toNat_of_nonneg (by omega)] at hs
  by_cases h4 : (insA cs ps at_).op = 5 ∨ (insA cs ps at_).op = 6
  · have hx : -1 ≤ (insA cs ps at_).ra ∧ (insA cs ps at_).ra < 8 := by
      rcases h4 with h | h
      · exact hs.a5 h
      · have := hs.a (by omega); omega
    rw [hang_eq hn hS _ _ hx.1 hx.2]
    rcases h4 with h | h <;> simp [h]
  · have : (insA cs ps at_).op ≠ 5 ∧ (insA cs ps at_).op ≠ 6 := by omega
    simp [this]
    exact vB_0.symm
end
theorem fn_asX {P : Program} {f : Nat} {az : List SV} {H H2 : Hp} {x y : SV} (h : Fn P f az H (Rt x H2)) (e : ∀ G, den G x = den G y) : Fn P f az H (Rt y H2) :=
  ⟨h.1, fun G w vs hM hv => Calls.mono (h.2 G w vs hM hv) fun e' w' ⟨x', H', F, v, ⟨q1, q2⟩, r⟩ => by subst q1; subst q2; exact ⟨y, _, F, v, ⟨rfl, rfl⟩, by rw [← e]; exact r.1, r.2⟩⟩
end Go.Proofs.Ytmieaninmidelaa
/- FlowHangs' walk. -/
namespace Go.Proofs.Ytmieaninmidelaa
open Go.RowKit
set_option linter.unusedVariables false
set_option linter.unusedSimpArgs false
set_option maxRecDepth 100000
set_option maxHeartbeats 2000000
set_option simprocs false
theorem Ro.liesG {g : List Int} {ao : Option Addr} {cp : Nat} {w : World} {ks : List Nat} (h : Ro 3 w ao g.length cp (iv g)) (hk : ∀ k, (bl ao).contains k = true → ks.contains k = false) : LiesAt ao g w ks := by
  rcases h.addr with ⟨h1, h2, _⟩ | ⟨b, rfl⟩
  · exact .inl ⟨h1, List.eq_nil_of_length_eq_zero h2⟩
  · exact h.liesK (hk b (bl_some.2 rfl))
theorem same_tt {x : Int} : ∀ G, den G (.bool (x == x)) = den G .tt := fun G => by rw [beq_self_eq_true]; rfl
section
variable {n : Nat} {ks : List Nat} {G0 : Gr} {w0 : World} {T : List (Nat × SV)} {H : Hp} {G : Gr} {a : Act} {w : World} {Q : Exit → Act → World → Prop} {K : List Fr} {ops : Array Oper} {o : Oper} {rest : List Oper}
theorem CALLT {f : Nat} (hf : FnW Try.prog f [] [] [] (fun _ => True) TtJ) (A : Sy n T H ks G0 w0 G a w) (h1 : callS n ops T o = some (f, []))
    (k : ∀ {a' w'}, Sy n (extS T o.dst .tt) H ks G0 w0 G a' w' → Goal Try.prog Q K (.ops ops rest) a' w') : Goal Try.prog Q K (.ops ops (o :: rest)) a w :=
  CALLW [] hf A trivial Off.nil (fun b hb => by cases hb) h1 rfl rfl rfl rfl fun m J A => by
    cases J
    exact k A
theorem CALLPATH {f : Nat} {args az : List SV} {H' l : Hp} {cs : List In} (m : List Nat) (hf : FnW Try.prog f args H' [] (fun _ => True) (OneJ cs)) (A : Sy n T H ks G0 w0 G a w) (h1 : callS n ops T o = some (f, az)) (h2 : renL m args = some az) (h3 : renH m H' = some l) (h4 : pickH H m = some l) (h5 : ndB m = true)
    (k : ∀ {a' w'} (p : Pt), Ro 3 w' p.ao p.ps.length p.cp (iv p.ps) → (∀ b, (bl p.ao).contains b = true → (keys H G).contains b = false) → p.ps ∈ pths cs 0 → Sy n (extS T o.dst (.sla p.ao p.ps.length p.cp)) H ks G0 w0 G a' w' → Goal Try.prog Q K (.ops ops rest) a' w') : Goal Try.prog Q K (.ops ops (o :: rest)) a w :=
  CALLW m hf A trivial Off.nil (fun b hb => by cases hb) h1 h2 h3 h4 h5 fun m J A' => by
    obtain ⟨p, rfl, hR, hN, hm⟩ := J
    refine k p hR (fun b hb => ?_) hm A'
    cases hz : (keys H G).contains b with
    | false => rfl
    | true =>
      obtain ⟨i, e, L, q1, q2, q3, q4⟩ := mem_keys.1 hz
      have h6 := A.mem.ent i e q1
      rw [q3] at h6
      have h7 := EntOK.lt h6 (mut_full q2)
      have h8 := hN b hb
      omega
end
theorem hangs_law (cs : List In) (c : Nat) (k : Int) (at_ : Int) (hb : cs.length * 120 ≤ 140737488355328) : FnW Try.prog 5 [.sl 0 cs.length c, .int .i64 k, .int .i64 at_] [some (.lst 17 cs.length (fun zz => insS (cs.getD zz In.z)))] [] (fun _ => True) (TtJ) :=
 enterW (n := 55) (by kernel_rfl) Try.func5 rfl rfl rfl (fun i e h => by cases i with | zero => cases h; rfl | succ i => cases h) fun G w a h0 ho hp A => N hX 8 A rfl rfl fun A => CALLT able_ A rfl fun A => N hX 10 A rfl rfl fun A => CALL1 [0] (right_ cs c hb) A rfl rfl rfl rfl rfl rfl rfl fun A => N hX 3 A rfl rfl fun A => forkN 14 A rfl
  (fun h1 A => N hX 7 A rfl rfl fun A => RETW hX A rfl rfl rfl rfl rfl)
  (fun h1 A => N hX 7 A rfl rfl fun A => have hr : chkE cs = 0 := h1; have hc := rc_of hr; CALLPATH [0] (path_ cs c k hc.n hc.brs) A rfl rfl rfl rfl rfl fun p hR hK hm B => have hL8 := len8 hc.n hm; have hP := pok_of hm; have hS := sok_of hc hm; have A := B.base; have h0 := B.mem.len; ADOPT 17 (hR.liesG hK) A rfl rfl rfl rfl fun A => N hX 7 A rfl rfl fun A => APPB hX (cs.length) (fun zz => insS (cs.getD zz In.z)) A rfl rfl rfl rfl (Nat.le_refl _) (fun ie h => by rw [b49 h, Nat.zero_add]; exact (by have := hc.n; omega)) (by have := (by have := hc.n; omega); omega) (by rw [Nat.zero_add]) (fun k hk => by omega) (fun k hk => by show insS _ = insS _; rw [Nat.zero_add]) (fun z => ⟨_, rfl, rfl⟩) (fun k hk => ⟨_, rfl, okE_nil⟩) fun A => N hX 2 A rfl rfl fun A => APPL hX (p.ps.length) (fun j => [.int .i64 (p.ps.getD j 0)]) A rfl rfl rfl rfl (Nat.le_refl _) (by omega) (by omega) (by rw [Nat.zero_add]) (fun k hk => by omega) (fun k hk => by show [SV.int .i64 _] = [SV.int .i64 _]; rw [Nat.zero_add]) (fun z => ⟨_, rfl, rfl⟩) (fun k hk => ⟨_, rfl, okE_nil⟩) fun A => N hX 9 A rfl rfl fun A => have A := A.freeze 3 rfl; have A := A.freeze 5 rfl; CALL1 [3, 5] (Addr_ cs 0 p.ps 0 at_ (by omega)) A rfl rfl rfl rfl rfl rfl rfl fun A => N hX 3 A rfl rfl fun A => CALL1 [0, 1] (fn_asX (raddr_ cs c p.ps p.cp at_ (by omega) hP) (y := .int .i64 (vB (addrB cs p.ps at_))) (fun _ => by rw [addr_eq (by omega) hP hS])) A rfl rfl rfl rfl rfl rfl rfl fun A => N hX 1 A rfl rfl fun A => have A := sy_sayD A 32 (.tt) rfl same_tt; N hX 4 A rfl rfl fun A => CALL1 [3, 5] (Data_ cs 0 p.ps 0 at_ (by omega)) A rfl rfl rfl rfl rfl rfl rfl fun A => N hX 3 A rfl rfl fun A => CALL1 [0, 1] (fn_asX (rdata_ cs c p.ps p.cp at_ (by omega) hP) (y := .int .i64 (vB (dataB cs p.ps at_))) (fun _ => by rw [data_eq (by omega) hP hS])) A rfl rfl rfl rfl rfl rfl rfl fun A => N hX 1 A rfl rfl fun A => have A := sy_sayD A 42 (.tt) rfl same_tt; N hX 5 A rfl rfl fun A => CALL1 [3, 5] (Ctrl_ cs 0 p.ps 0 at_ (by omega)) A rfl rfl rfl rfl rfl rfl rfl fun A => N hX 3 A rfl rfl fun A => CALL1 [0, 1] (fn_asX (rCtrl_ cs c p.ps p.cp at_ (by omega) hP) (y := .int .i64 (vB (ctrlB cs p.ps at_))) (fun _ => by rw [ctrl_eq (by omega) hS])) A rfl rfl rfl rfl rfl rfl rfl fun A => N hX 1 A rfl rfl fun A => have A := sy_sayD A 53 (.tt) rfl same_tt; N hX 5 A rfl rfl fun A => RETW hX (B.trans A) rfl rfl rfl rfl rfl)
end Go.Proofs.Ytmieaninmidelaa
/- Theory: how many paths there are, how they go, that no two are the same. -/
namespace Go.Proofs.Ytmieaninmidelaa
open Go.RowKit
set_option linter.unusedVariables false
set_option linter.unusedSimpArgs false
set_option maxRecDepth 100000
set_option maxHeartbeats 2000000
/-- a path from an index on: what comes first -/
theorem pth_cases {cs : List In} {k : Nat} {p : List Int} (h : p ∈ pths cs k) : (¬ k < cs.length ∧ p = []) ∨ (k < cs.length ∧ ∃ q, p = (k : Int) :: q ∧ (q ∈ pths cs (k + 1) ∨ (brQ cs k ∧ q ∈ pths cs (cs.getD k In.z).to_.toNat))) := by
  by_cases hk : k < cs.length
  · right
    refine ⟨hk, ?_⟩
    by_cases h2 : brQ cs k
    · rw [pths_br hk h2, List.mem_append, List.mem_map, List.mem_map] at h
      rcases h with ⟨q, hq, rfl⟩ | ⟨q, hq, rfl⟩
      · exact ⟨q, rfl, .inl hq⟩
      · exact ⟨q, rfl, .inr ⟨h2, hq⟩⟩
    · rw [pths_go hk h2, List.mem_map] at h
      obtain ⟨q, hq, rfl⟩ := h
      exact ⟨q, rfl, .inl hq⟩
  · left
    rw [pths_end hk] at h
    exact ⟨hk, by simpa using h⟩
theorem pth_head {cs : List In} {k : Nat} {p : List Int} (h : p ∈ pths cs k) (hk : k < cs.length) : p.getD 0 0 = (k : Int) ∧ 0 < p.length := by
  rcases pth_cases h with ⟨h1, _⟩ | ⟨_, q, rfl, _⟩
  · exact absurd hk h1
  · exact ⟨rfl, by simp⟩
theorem pths_nodup (cs : List In) (k : Nat) : (pths cs k).Nodup := by
  have inj : ∀ l : List (List Int), l.Nodup → (l.map (fun p => (k : Int) :: p)).Nodup := fun l hl => by
    rw [List.nodup_iff_pairwise_ne] at *
    rw [List.pairwise_map]
    exact hl.imp fun hab e => hab (List.cons.inj e).2
  by_cases h : k < cs.length
  · by_cases h2 : brQ cs k
    · have h3 := h2.2.1; have h4 := h2.2.2
      rw [pths_br h h2, List.nodup_append]
      refine ⟨inj _ (pths_nodup cs (k + 1)), inj _ (pths_nodup cs _), ?_⟩
      intro a ha b hb e
      rw [List.mem_map] at ha hb
      obtain ⟨q, hq, rfl⟩ := ha
      obtain ⟨q', hq', e'⟩ := hb
      have e2 : q' = q := by rw [← e'] at e; exact (List.cons.inj e.symm).2
      subst e2
      have a1 := pth_head hq (by omega)
      rcases pth_cases hq' with ⟨_, b2⟩ | ⟨b1, r, b2, _⟩
      · rw [b2] at a1; simp at a1
      · rw [b2] at a1
        have a2 : (((cs.getD k In.z).to_.toNat : Nat) : Int) = ((k + 1 : Nat) : Int) := a1.1
        omega
    · rw [pths_go h h2]; exact inj _ (pths_nodup cs (k + 1))
  · rw [pths_end h]; simp
termination_by cs.length - k
decreasing_by all_goals omega
/-- branches from an index on -/
theorem pths_cnt (cs : List In) (k : Nat) : (pths cs k).length ≤ 2 ^ cntP (fun i => i.op == 9) (cs.drop k) := by
  by_cases h : k < cs.length
  · have hat := CnI.at (p := fun i => i.op == 9) (c := cs) (k := k) (by omega)
    rw [Int.toNat_natCast] at hat
    have ih := pths_cnt cs (k + 1)
    by_cases h2 : brQ cs k
    · have h3 := h2.2.1; have h4 := h2.2.2
      have ih2 := pths_cnt cs (cs.getD k In.z).to_.toNat
      have hmon : cntP (fun i => i.op == 9) (cs.drop (cs.getD k In.z).to_.toNat) ≤ cntP (fun i => i.op == 9) (cs.drop (k + 1)) := by
        unfold cntP
        have e : cs.drop (cs.getD k In.z).to_.toNat = (cs.drop (k + 1)).drop ((cs.getD k In.z).to_.toNat - (k + 1)) := by rw [List.drop_drop]; congr 1; omega
        rw [e]
        exact ((List.drop_sublist _ _).filter _).length_le
      have hpow := Nat.pow_le_pow_right (n := 2) (by omega) hmon
      have h9 : (cs.getD k In.z).op = 9 := h2.1
      rw [if_pos (by rw [h9]; rfl)] at hat
      rw [hat, Nat.add_comm, Nat.pow_succ, pths_br h h2, List.length_append, List.length_map, List.length_map]; omega
    · rw [pths_go h h2, List.length_map]
      refine Nat.le_trans ih (Nat.pow_le_pow_right (by omega) ?_)
      rw [hat]; omega
  · rw [pths_end h]; exact Nat.pow_pos (by omega)
termination_by cs.length - k
decreasing_by all_goals omega
/-- how a path goes from each index to the next -/
theorem pth_step {cs : List In} (k : Nat) (p : List Int) (h : p ∈ pths cs k) (j : Nat) (hj : j + 1 < p.length) : p.getD (j + 1) 0 = p.getD j 0 + 1 ∨ ((cs.getD (p.getD j 0).toNat In.z).op = 9 ∧ (cs.getD (p.getD j 0).toNat In.z).to_ = p.getD (j + 1) 0) := by
  rcases pth_cases h with ⟨_, rfl⟩ | ⟨hk, q, rfl, hq⟩
  · simp at hj
  · cases j with
    | zero =>
      have hql : 0 < q.length := by simp at hj; omega
      show q.getD 0 0 = (k : Int) + 1 ∨ ((cs.getD ((k : Int)).toNat In.z).op = 9 ∧ (cs.getD ((k : Int)).toNat In.z).to_ = q.getD 0 0)
      rw [Int.toNat_natCast]
      rcases hq with hq | ⟨hb, hq⟩
      · rcases pth_cases hq with ⟨_, rfl⟩ | ⟨_, r, rfl, _⟩
        · simp at hql
        · left; simp
      · have h3 := hb.2.1
        rcases pth_cases hq with ⟨_, rfl⟩ | ⟨_, r, rfl, _⟩
        · simp at hql
        · right; refine ⟨hb.1, ?_⟩; show _ = (((cs.getD k In.z).to_.toNat : Nat) : Int); omega
    | succ j =>
      show q.getD (j + 1) 0 = q.getD j 0 + 1 ∨ _
      have hj' : j + 1 < q.length := by simp at hj; omega
      rcases hq with hq | ⟨hb, hq⟩
      · exact pth_step _ q hq j hj'
      · exact pth_step _ q hq j hj'
termination_by p.length
decreasing_by all_goals (simp_all)
/-- how a path ends -/
theorem pth_last {cs : List In} (k : Nat) (p : List Int) (h : p ∈ pths cs k) (hp : 0 < p.length) (hk : k ≤ cs.length) : p.getD (p.length - 1) 0 + 1 = ((cs.length : Nat) : Int) ∨ ((cs.getD (p.getD (p.length - 1) 0).toNat In.z).op = 9 ∧ (cs.getD (p.getD (p.length - 1) 0).toNat In.z).to_ = ((cs.length : Nat) : Int)) := by
  rcases pth_cases h with ⟨_, rfl⟩ | ⟨hk, q, rfl, hq⟩
  · simp at hp
  · cases hql : q.length with
    | zero =>
      have hq0 : q = [] := List.eq_nil_of_length_eq_zero hql
      subst hq0
      show (k : Int) + 1 = _ ∨ ((cs.getD ((k : Int)).toNat In.z).op = 9 ∧ (cs.getD ((k : Int)).toNat In.z).to_ = _)
      rw [Int.toNat_natCast]
      rcases hq with hq | ⟨hb, hq⟩
      · rcases pth_cases hq with ⟨h1, _⟩ | ⟨_, r, h1, _⟩
        · left; omega
        · cases h1
      · have h3 := hb.2.1; have h4 := hb.2.2
        rcases pth_cases hq with ⟨h1, _⟩ | ⟨_, r, h1, _⟩
        · right; exact ⟨hb.1, by omega⟩
        · cases h1
    | succ n =>
      have e : ((k : Int) :: q).getD (((k : Int) :: q).length - 1) 0 = q.getD (q.length - 1) 0 := by
        rw [List.length_cons, Nat.add_sub_cancel, hql]; rfl
      rw [e]
      rcases hq with hq | ⟨hb, hq⟩
      · exact pth_last _ q hq (by omega) (by omega)
      · have := hb.2.2; exact pth_last _ q hq (by omega) (by omega)
termination_by p.length
decreasing_by all_goals (simp_all)
end Go.Proofs.Ytmieaninmidelaa
/- FlowCounts' walk. -/
namespace Go.Proofs.Ytmieaninmidelaa
open Go.RowKit
set_option linter.unusedVariables false
set_option linter.unusedSimpArgs false
set_option maxRecDepth 100000
set_option maxHeartbeats 2000000
set_option simprocs false
def TwoL (a1 : Option Addr) (l1 : List Int) (a2 : Option Addr) (l2 : List Int) : Amb := fun w ks => LiesAt a1 l1 w ks ∧ LiesAt a2 l2 w ks
theorem TwoL.ok {a1 a2 : Option Addr} {l1 l2 : List Int} : Amb.OK (TwoL a1 l1 a2 l2) := fun w ks w' ks' h m hk => ⟨h.1.go m hk, h.2.go m hk⟩
structure IqI (l1 l2 : List Int) (k : Nat) : Prop where
  le : k ≤ l1.length
  eq : ∀ j, j < k → l1.getD j 0 = l2.getD j 0
section
variable {l1 l2 : List Int} {k : Nat}
theorem IqI.i0 : IqI l1 l2 0 := ⟨Nat.zero_le _, fun j hj => by omega⟩
theorem IqI.nx (hI : IqI l1 l2 k) (h : (k : Int) < ((l1.length : Nat) : Int)) (h2 : l1.getD ((k : Int)).toNat 0 = l2.getD ((k : Int)).toNat 0) : IqI l1 l2 (k + 1) := ⟨by omega, fun j hj => by
  by_cases e : j = k
  · subst e; simpa using h2
  · exact hI.eq j (by omega)⟩
theorem IqI.no (h : (k : Int) < ((l1.length : Nat) : Int)) (h2 : l1.getD ((k : Int)).toNat 0 ≠ l2.getD ((k : Int)).toNat 0) : decide (l1 = l2) = false := by
  rw [decide_eq_false_iff_not]; intro e; rw [e] at h2; exact h2 rfl
theorem IqI.yes (hI : IqI l1 l2 k) (hl : ((l1.length : Nat) : Int) = ((l2.length : Nat) : Int)) (h : ¬ (k : Int) < ((l1.length : Nat) : Int)) : decide (l1 = l2) = true := by
  rw [decide_eq_true_iff]
  apply List.ext_getElem?
  intro j
  by_cases hj : j < l1.length
  · have e := hI.eq j (by omega)
    have hj2 : j < l2.length := by omega
    rw [List.getElem?_eq_getElem hj, List.getElem?_eq_getElem hj2]
    simp [List.getD, hj, hj2] at e
    rw [e]
  · rw [List.getElem?_eq_none (by omega), List.getElem?_eq_none (by omega)]
theorem len_ne (h : ((l1.length : Nat) : Int) ≠ ((l2.length : Nat) : Int)) : decide (l1 = l2) = false := by
  rw [decide_eq_false_iff_not]; intro e; rw [e] at h; exact h rfl
end
theorem ints_ (a1 : Option Addr) (l1 : List Int) (c1 : Nat) (a2 : Option Addr) (l2 : List Int) (c2 : Nat) (h1n : l1.length ≤ 1000000) : FnI (TwoL a1 l1 a2 l2) Try.prog 13 [.sla a1 l1.length c1, .sla a2 l2.length c2] [] (Rt (.bool (decide (l1 = l2))) []) :=
 enterI (n := 26) (by kernel_rfl) Try.func13 rfl rfl rfl fun G w a h0 hI A => ADOPT 0 hI.1 A rfl rfl rfl rfl fun A => ADOPT 1 hI.2 A rfl rfl rfl rfl fun A => N hX 15 A rfl rfl fun A => forkN 10 A rfl
  (fun h1 A => N hX 7 A rfl rfl fun A => RETN hX A rfl rfl rfl h0 rfl rfl rfl rfl (by rw [len_ne h1]; rfl) rfl)
  (fun h1 A => N hX 10 A rfl rfl fun A => LOOP1 (fun (k : Nat) => [(0, .sl 0 l1.length c1), (1, .sl 1 l2.length c2), (4, .ff), (5, .int .i64 (k : Int))]) (fun (k : Nat) => [some (.lst 1 l1.length (fun j => [.int .i64 (l1.getD j 0)])), some (.lst 1 l2.length (fun j => [.int .i64 (l2.getD j 0)]))]) (fun (k : Nat) => IqI l1 l2 k) (fun (k : Nat) => l1.length - k) 0 IqI.i0 ((A.cut [0, 1, 4, 5] rfl).trunc 2 rfl rfl rfl (by simp only [List.length_cons, List.length_nil] at h0; omega)) fun k hK {G a w} A => N hX 9 A rfl rfl fun A => forkD 14 A rfl
    (fun h2 A => N hX 6 A rfl rfl fun A => DRAWN hX hmo [] [] A rfl (ok_d (by have := hK.le; omega) <| ok_d (by have := hK.le; omega) <| ok_d (by have := hK.le; omega) <| ok_d (by have := hK.le; omega) <| okE_nil) rfl rfl (by kernel_rfl) (effAll_nil _ _) trivial fun A => N hX 1 A rfl rfl fun A => forkN 25 A rfl
     (fun h3 A => N hX 7 A rfl rfl fun A => RETN hX A rfl rfl rfl h0 rfl rfl rfl rfl (by rw [IqI.no h2 h3]; rfl) rfl)
     (fun h3 A => N hX 9 A rfl (ok_d (by have := hK.le; omega) <| okE_nil) fun A => ⟨k + 1, _, (by omega), (hK.nx h2 h3), ((A.cut [0, 1, 4, 5] rfl).trunc 2 rfl rfl rfl (by simp only [List.length_cons, List.length_nil] at h0; omega))⟩))
    (fun h2 A => N hX 9 A rfl rfl fun A => RETN hX A rfl rfl rfl h0 rfl rfl rfl rfl (by rw [hK.yes h1 h2]; rfl) rfl))
section
variable {n : Nat} {ks : List Nat} {G0 : Gr} {w0 : World} {T : List (Nat × SV)} {H : Hp} {G : Gr} {a : Act} {w : World} {Q : Exit → Act → World → Prop} {K : List Fr} {ops : Array Oper} {o : Oper} {rest : List Oper}
theorem keys_seat {L : List Pt} {G : Gr} {M : Option Loc} (hlen : H.length = G.length) {b : Nat} (h : (keys (H ++ [lsP L]) (G ++ [M])).contains b = true) : (keys H G).contains b = true := by
  obtain ⟨i, e, N, q1, q2, q3, q4⟩ := mem_keys.1 h
  by_cases hi : i < H.length
  · rw [List.getElem?_append_left hi] at q1
    rw [List.getElem?_append_left (by omega)] at q3
    exact mem_keys.2 ⟨i, e, N, q1, q2, q3, q4⟩
  · rw [List.getElem?_append_right (by omega)] at q1
    cases hz : i - H.length with
    | zero => rw [hz] at q1; cases q1; cases q2
    | succ j => rw [hz] at q1; cases q1
theorem CALLPS {f : Nat} {args az : List SV} {H' l : Hp} {ls : List (List Int)} (m : List Nat) (hf : FnW Try.prog f args H' [] (fun _ => True) (PaJ ls)) (A : Sy n T H ks G0 w0 G a w) {d : Nat} (hd : o.dst = some d) (h1 : callS n ops T o = some (f, az)) (h2 : renL m args = some az) (h3 : renH m H' = some l) (h4 : pickH H m = some l) (h5 : ndB m = true)
    (k : ∀ {a' w' G'} (b cp : Nat) (L : List Pt), L.map Pt.ps = ls → (∀ q, LiesAt (L.getD q Pt.z).ao (L.getD q Pt.z).ps w' (keys (H ++ [lsP L]) G')) → Sy n ((d, .sl H.length L.length cp) :: extS T o.dst (.sla (some ⟨b, 0, none⟩) L.length cp)) (H ++ [lsP L]) ks G0 w0 G' a' w' → Goal Try.prog Q K (.ops ops rest) a' w') : Goal Try.prog Q K (.ops ops (o :: rest)) a w :=
  CALLW m hf A trivial Off.nil (fun b hb => by cases hb) h1 h2 h3 h4 h5 fun mx J B => by
    obtain ⟨b, cp, L, rfl, hP, hl⟩ := J
    have hK : ∀ c, w.heap.size ≤ c → (keys H G).contains c = false := fun c hc => by
      cases hz : (keys H G).contains c with
      | false => rfl
      | true =>
        obtain ⟨i, e, M, q1, q2, q3, q4⟩ := mem_keys.1 hz
        have h6 := A.mem.ent i e q1
        rw [q3] at h6
        have h7 := EntOK.lt h6 (mut_full q2)
        omega
    have hlen := A.mem.len
    refine k b cp L hl (fun q => ?_) (B.seat hP (hK b hP.lb) d (by rw [hd]; simp [extS, look, Nat.beq_refl]))
    by_cases hq : q < L.length
    · have hm : L.getD q Pt.z ∈ L := by rw [List.getD_eq_getElem?_getD, List.getElem?_eq_getElem hq]; exact List.getElem_mem hq
      refine (hP.el _ hm).ro.liesG fun c hc => ?_
      cases hz : (keys (H ++ [lsP L]) (G ++ [some ⟨b, [], [], 0⟩])).contains c with
      | false => rfl
      | true => have := keys_seat hlen hz; rw [hK c ((hP.el _ hm).lo c hc).1] at this; cases this
    · rw [List.getD_eq_getElem?_getD, List.getElem?_eq_none (by omega)]; exact .inl ⟨rfl, rfl⟩
end
def atF (p : List Int) (k : Nat) : Int := if k = 0 then 0 else p.getD (k - 1) 0 + 1
theorem atF_s (p : List Int) (k : Nat) : atF p (k + 1) = p.getD ((k : Int)).toNat 0 + 1 := by unfold atF; rw [if_neg (by omega), Int.toNat_natCast]; rfl
section
variable {cs : List In} {L : List Pt}
theorem memP {i : Nat} (hl : L.map Pt.ps = pths cs 0) (h : (i : Int) < ((L.length : Nat) : Int)) : (L.getD ((i : Int)).toNat Pt.z).ps ∈ pths cs 0 := by
  rw [← hl, Int.toNat_natCast, List.getD_eq_getElem?_getD, List.getElem?_eq_getElem (show i < L.length by omega)]
  exact List.mem_map_of_mem (List.getElem_mem _)
theorem ndP {i j : Nat} (hl : L.map Pt.ps = pths cs 0) (h : (i : Int) < ((L.length : Nat) : Int)) (hj : (j : Int) < (i : Int)) : (L.getD ((i : Int)).toNat Pt.z).ps ≠ (L.getD ((j : Int)).toNat Pt.z).ps := by
  have hn := pths_nodup cs 0
  rw [← hl, List.nodup_iff_pairwise_ne, List.pairwise_iff_getElem] at hn
  have := hn j i (by simp; omega) (by simp; omega) (by omega)
  intro e
  apply this
  rw [Int.toNat_natCast, Int.toNat_natCast, List.getD_eq_getElem?_getD, List.getD_eq_getElem?_getD, List.getElem?_eq_getElem (show i < L.length by omega), List.getElem?_eq_getElem (show j < L.length by omega)] at e
  simpa using e.symm
theorem cnt_ok {p : List Int} {k : Nat} (hm : p ∈ pths cs 0) (hk : (k : Int) < ((p.length : Nat) : Int)) : (0 ≤ p.getD ((k : Int)).toNat 0 ∧ p.getD ((k : Int)).toNat 0 < ((cs.length : Nat) : Int)) ∧ ((k : Int) = 0 → p.getD ((k : Int)).toNat 0 = 0) ∧ ((k : Int) > 0 → p.getD ((k : Int)).toNat 0 = atF p k ∨ ((cs.getD ((p.getD (((k : Int) - 1).toNat) 0)).toNat In.z).op = 9 ∧ (cs.getD ((p.getD (((k : Int) - 1).toNat) 0)).toNat In.z).to_ = p.getD ((k : Int)).toNat 0)) := by
  refine ⟨pok_of hm _ (by omega), fun h => ?_, fun h => ?_⟩
  · have : k = 0 := by omega
    subst this
    by_cases hc : 0 < cs.length
    · exact (pth_head hm hc).1
    · rcases pth_cases hm with ⟨_, rfl⟩ | ⟨h1, _⟩
      · simp at hk
      · exact absurd h1 hc
  · have e : ((k : Int) - 1).toNat = k - 1 := by omega
    have hst := pth_step 0 p hm (k - 1) (by omega)
    rw [show k - 1 + 1 = k by omega] at hst
    rw [e, Int.toNat_natCast]
    rcases hst with h1 | h1
    · left; unfold atF; rw [if_neg (by omega)]; exact h1
    · exact .inr h1
theorem end_ok {p : List Int} {k : Nat} (hm : p ∈ pths cs 0) (h1 : k ≤ p.length) (hk : ¬ (k : Int) < ((p.length : Nat) : Int)) : (((p.length : Nat) : Int) = 0 → ((cs.length : Nat) : Int) = 0) ∧ (((p.length : Nat) : Int) > 0 → atF p k = ((cs.length : Nat) : Int) ∨ ((cs.getD ((p.getD ((((p.length : Nat) : Int) - 1).toNat) 0)).toNat In.z).op = 9 ∧ (cs.getD ((p.getD ((((p.length : Nat) : Int) - 1).toNat) 0)).toNat In.z).to_ = ((cs.length : Nat) : Int))) := by
  have hkn : k = p.length := by omega
  refine ⟨fun h => ?_, fun h => ?_⟩
  · by_cases hc : 0 < cs.length
    · have := (pth_head hm hc).2; omega
    · omega
  · have e : (((p.length : Nat) : Int) - 1).toNat = p.length - 1 := by omega
    have := pth_last 0 p hm (by omega) (by omega)
    rw [e, hkn]
    rcases this with h1 | h1
    · left; unfold atF; rw [if_neg (by omega)]; exact h1
    · exact .inr h1
theorem cnt_le {cs : List In} {L : List Pt} (hc : RC cs) (hl : L.map Pt.ps = pths cs 0) : ((L.length : Nat) : Int) ≤ IntKind.wrap .i64 (1 * 2 ^ min ((((cntP (fun i => i.op == 9) cs : Nat) : Int)).toNat) (IntKind.bits .i64)) := by
  have h1 := pths_cnt cs 0
  rw [List.drop_zero, ← hl, List.length_map] at h1
  have h3 := hc.b
  rw [Int.toNat_natCast]
  generalize cntP (fun i => i.op == 9) cs = n at h1 h3
  have : n = 0 ∨ n = 1 ∨ n = 2 ∨ n = 3 := by omega
  rcases this with rfl | rfl | rfl | rfl
  · rw [show IntKind.wrap .i64 (1 * 2 ^ min 0 (IntKind.bits .i64)) = 1 by decide]; omega
  · rw [show IntKind.wrap .i64 (1 * 2 ^ min 1 (IntKind.bits .i64)) = 2 by decide]; omega
  · rw [show IntKind.wrap .i64 (1 * 2 ^ min 2 (IntKind.bits .i64)) = 4 by decide]; omega
  · rw [show IntKind.wrap .i64 (1 * 2 ^ min 3 (IntKind.bits .i64)) = 8 by decide]; omega
end
theorem counts_law (cs : List In) (c : Nat) (hb : cs.length * 120 ≤ 140737488355328) : FnW Try.prog 8 [.sl 0 cs.length c] [some (.lst 17 cs.length (fun zz => insS (cs.getD zz In.z)))] [] (fun _ => True) (TtJ) :=
 enterW (n := 180) (by kernel_rfl) Try.func8 rfl rfl rfl (fun i e h => by cases i with | zero => cases h; rfl | succ i => cases h) fun G w a h0 ho hp A => N hX 8 A rfl rfl fun A => CALLT able_ A rfl fun A => N hX 10 A rfl rfl fun A => CALL1 [0] (right_ cs c hb) A rfl rfl rfl rfl rfl rfl rfl fun A => N hX 3 A rfl rfl fun A => forkN 14 A rfl
  (fun h1 A => N hX 7 A rfl rfl fun A => RETW hX A rfl rfl rfl rfl rfl)
  (fun h1 A => N hX 7 A rfl rfl fun A => APPB hX (cs.length) (fun zz => insS (cs.getD zz In.z)) A rfl rfl rfl rfl (Nat.le_refl _) (fun ie h => by rw [b49 h, Nat.zero_add]; exact (by have := (rc_of h1).n; omega)) (by have := (by have := (rc_of h1).n; omega); omega) (by rw [Nat.zero_add]) (fun k hk => by omega) (fun k hk => by show insS _ = insS _; rw [Nat.zero_add]) (fun z => ⟨_, rfl, rfl⟩) (fun k hk => ⟨_, rfl, okE_nil⟩) fun A => have hr : chkE cs = 0 := h1; have hc := rc_of hr; have A := A.freeze 2 rfl; CALLPS [2] (Paths_ cs 0 hr) A rfl rfl rfl rfl rfl rfl fun b0 cp L hl hAll B => have A := B.base; have h0 : List.length [0, 0, 0, 0] = _ := B.mem.len; have hcn := hc.n; have hLn : L.length ≤ 256 := (by rw [len_of hl]; exact pths_few hc.n 0); have hLp : 0 < L.length := (by rw [len_of hl]; exact pths_pos cs 0); N hX 10 A rfl rfl fun A => forkD 22 A rfl
   (fun h2 A => N hX 16 A rfl rfl fun A => False.elim (by have hz := cnt_le hc hl; omega))
   (fun h2 A => N hX 3 A rfl rfl fun A => CALL1 [0] (Branches_ cs c (by omega)) A rfl rfl rfl rfl rfl rfl rfl fun A => N hX 5 A rfl (ok_d (by have hcn := hc.n; omega) <| okE_nil) fun A => forkD 29 A rfl
    (fun h3 A => N hX 7 A rfl rfl fun A => False.elim (by have hz := cnt_le hc hl; omega))
    (fun h3 A => N hX 10 A rfl rfl fun A => LOOP1 (fun (qi : Nat) => [(0, .sl 0 cs.length c), (2, .ff), (3, .sl 3 L.length cp), (4, .int .i64 (qi : Int))]) (fun (qi : Nat) => [some (.lst 17 cs.length (fun zz => insS (cs.getD zz In.z))), none, some (.lst 17 cs.length (fun zz => insS (cs.getD zz In.z))), some (.lst 1 L.length (fun zz => Pt.c (L.getD zz Pt.z)))]) (fun (qi : Nat) => qi ≤ L.length) (fun (qi : Nat) => L.length - qi) 0 (Nat.zero_le _) ((A.cut [0, 2, 3, 4] rfl).trunc 4 rfl rfl rfl (by simp only [List.length_cons, List.length_nil] at h0; omega)) fun qi hI1 {G a w} A => N hX 9 A rfl rfl fun A => forkD 33 A rfl
      (fun h4 A => N hX 17 A rfl rfl fun A => LOOP1 (fun (qk : Nat) => [(0, .sl 0 cs.length c), (2, .ff), (3, .sl 3 L.length cp), (4, .int .i64 (qi : Int)), (5, .int .i64 (atF (L.getD (((qi : Int)).toNat) Pt.z).ps qk)), (6, .int .i64 (qk : Int))]) (fun (qk : Nat) => [some (.lst 17 cs.length (fun zz => insS (cs.getD zz In.z))), none, some (.lst 17 cs.length (fun zz => insS (cs.getD zz In.z))), some (.lst 1 L.length (fun zz => Pt.c (L.getD zz Pt.z)))]) (fun (qk : Nat) => qk ≤ (L.getD (((qi : Int)).toNat) Pt.z).ps.length) (fun (qk : Nat) => (L.getD (((qi : Int)).toNat) Pt.z).ps.length - qk) 0 (Nat.zero_le _) ((A.cut [0, 2, 3, 4, 5, 6] rfl).trunc 4 rfl rfl rfl (by simp only [List.length_cons, List.length_nil] at h0; omega)) fun qk hI2 {G a w} A => N hX 12 A rfl (ok_d (by have hcn := hc.n; have hm := memP hl h4; have z0 := len8 hc.n hm; have z1 := pok_of hm ((qk : Int)).toNat; have z2 := pok_of hm (((qk : Int) - 1)).toNat; have z3 := pok_of hm (((((L.getD (((qi : Int)).toNat) Pt.z).ps.length : Nat) : Int) - 1)).toNat; omega) <| ok_d (by have hcn := hc.n; have hm := memP hl h4; have z0 := len8 hc.n hm; have z1 := pok_of hm ((qk : Int)).toNat; have z2 := pok_of hm (((qk : Int) - 1)).toNat; have z3 := pok_of hm (((((L.getD (((qi : Int)).toNat) Pt.z).ps.length : Nat) : Int) - 1)).toNat; omega) <| okE_nil) fun A => forkD 42 A rfl
        (fun h5 A => N hX 11 A rfl (ok_d (by have hcn := hc.n; have hm := memP hl h4; have z0 := len8 hc.n hm; have z1 := pok_of hm ((qk : Int)).toNat; have z2 := pok_of hm (((qk : Int) - 1)).toNat; have z3 := pok_of hm (((((L.getD (((qi : Int)).toNat) Pt.z).ps.length : Nat) : Int) - 1)).toNat; omega) <| ok_d (by have hcn := hc.n; have hm := memP hl h4; have z0 := len8 hc.n hm; have z1 := pok_of hm ((qk : Int)).toNat; have z2 := pok_of hm (((qk : Int) - 1)).toNat; have z3 := pok_of hm (((((L.getD (((qi : Int)).toNat) Pt.z).ps.length : Nat) : Int) - 1)).toNat; omega) <| okE_nil) fun A => ADOPT 48 (hAll _) A rfl rfl rfl rfl fun A => N hX 8 A rfl (ok_d (by have hcn := hc.n; have hm := memP hl h4; have z0 := len8 hc.n hm; have z1 := pok_of hm ((qk : Int)).toNat; have z2 := pok_of hm (((qk : Int) - 1)).toNat; have z3 := pok_of hm (((((L.getD (((qi : Int)).toNat) Pt.z).ps.length : Nat) : Int) - 1)).toNat; omega) <| ok_d (by have hcn := hc.n; have hm := memP hl h4; have z0 := len8 hc.n hm; have z1 := pok_of hm ((qk : Int)).toNat; have z2 := pok_of hm (((qk : Int) - 1)).toNat; have z3 := pok_of hm (((((L.getD (((qi : Int)).toNat) Pt.z).ps.length : Nat) : Int) - 1)).toNat; omega) <| okE_nil) fun A => N hX 4 A rfl rfl fun A => forkD 54 A rfl
         (fun h6 A => N hX 27 A rfl rfl fun A => N hX 14 A rfl rfl fun A => N hX 22 A rfl rfl fun A => False.elim (by have hm := memP hl h4; have hz := cnt_ok hm h5; omega))
         (fun h6 A => N hX 6 A rfl rfl fun A => forkD 60 A rfl
          (fun h7 A => N hX 21 A rfl rfl fun A => N hX 14 A rfl rfl fun A => N hX 22 A rfl rfl fun A => False.elim (by have hm := memP hl h4; have hz := cnt_ok hm h5; omega))
          (fun h7 A => N hX 3 A rfl rfl fun A => forkE 63 A rfl
           (fun h8 A => N hX 5 A rfl rfl fun A => forkN 68 A rfl
            (fun h9 A => N hX 13 A rfl rfl fun A => N hX 14 A rfl rfl fun A => N hX 22 A rfl rfl fun A => False.elim (by have hm := memP hl h4; have hz := cnt_ok hm h5; omega))
            (fun h9 A => N hX 3 A rfl rfl fun A => forkD 71 A rfl
             (fun h10 A => N hX 5 A rfl rfl fun A => forkN 76 A rfl
              (fun h11 A => N hX 5 A rfl (ok_d (by have hcn := hc.n; have hm := memP hl h4; have z0 := len8 hc.n hm; have z1 := pok_of hm ((qk : Int)).toNat; have z2 := pok_of hm (((qk : Int) - 1)).toNat; have z3 := pok_of hm (((((L.getD (((qi : Int)).toNat) Pt.z).ps.length : Nat) : Int) - 1)).toNat; omega) <| ok_d (by have hcn := hc.n; have hm := memP hl h4; have z0 := len8 hc.n hm; have z1 := pok_of hm ((qk : Int)).toNat; have z2 := pok_of hm (((qk : Int) - 1)).toNat; have z3 := pok_of hm (((((L.getD (((qi : Int)).toNat) Pt.z).ps.length : Nat) : Int) - 1)).toNat; omega) <| okE_nil) fun A => ADOPT 81 (hAll _) A rfl rfl rfl rfl fun A => N hX 2 A rfl (ok_d (by have hcn := hc.n; have hm := memP hl h4; have z0 := len8 hc.n hm; have z1 := pok_of hm ((qk : Int)).toNat; have z2 := pok_of hm (((qk : Int) - 1)).toNat; have z3 := pok_of hm (((((L.getD (((qi : Int)).toNat) Pt.z).ps.length : Nat) : Int) - 1)).toNat; omega) <| okE_nil) fun A => N hX 7 A rfl (ok_d (by have hcn := hc.n; have hm := memP hl h4; have z0 := len8 hc.n hm; have z1 := pok_of hm ((qk : Int)).toNat; have z2 := pok_of hm (((qk : Int) - 1)).toNat; have z3 := pok_of hm (((((L.getD (((qi : Int)).toNat) Pt.z).ps.length : Nat) : Int) - 1)).toNat; omega) <| ok_d (by have hcn := hc.n; have hm := memP hl h4; have z0 := len8 hc.n hm; have z1 := pok_of hm ((qk : Int)).toNat; have z2 := pok_of hm (((qk : Int) - 1)).toNat; have z3 := pok_of hm (((((L.getD (((qi : Int)).toNat) Pt.z).ps.length : Nat) : Int) - 1)).toNat; omega) <| ok_d (by have hcn := hc.n; have hm := memP hl h4; have z0 := len8 hc.n hm; have z1 := pok_of hm ((qk : Int)).toNat; have z2 := pok_of hm (((qk : Int) - 1)).toNat; have z3 := pok_of hm (((((L.getD (((qi : Int)).toNat) Pt.z).ps.length : Nat) : Int) - 1)).toNat; omega) <| ok_d (by have hcn := hc.n; have hm := memP hl h4; have z0 := len8 hc.n hm; have z1 := pok_of hm ((qk : Int)).toNat; have z2 := pok_of hm (((qk : Int) - 1)).toNat; have z3 := pok_of hm (((((L.getD (((qi : Int)).toNat) Pt.z).ps.length : Nat) : Int) - 1)).toNat; omega) <| ok_d (by have hcn := hc.n; have hm := memP hl h4; have z0 := len8 hc.n hm; have z1 := pok_of hm ((qk : Int)).toNat; have z2 := pok_of hm (((qk : Int) - 1)).toNat; have z3 := pok_of hm (((((L.getD (((qi : Int)).toNat) Pt.z).ps.length : Nat) : Int) - 1)).toNat; omega) <| okE_nil) fun A => forkE 90 A rfl
               (fun h12 A => N hX 5 A rfl (ok_d (by have hcn := hc.n; have hm := memP hl h4; have z0 := len8 hc.n hm; have z1 := pok_of hm ((qk : Int)).toNat; have z2 := pok_of hm (((qk : Int) - 1)).toNat; have z3 := pok_of hm (((((L.getD (((qi : Int)).toNat) Pt.z).ps.length : Nat) : Int) - 1)).toNat; omega) <| ok_d (by have hcn := hc.n; have hm := memP hl h4; have z0 := len8 hc.n hm; have z1 := pok_of hm ((qk : Int)).toNat; have z2 := pok_of hm (((qk : Int) - 1)).toNat; have z3 := pok_of hm (((((L.getD (((qi : Int)).toNat) Pt.z).ps.length : Nat) : Int) - 1)).toNat; omega) <| okE_nil) fun A => ADOPT 95 (hAll _) A rfl rfl rfl rfl fun A => N hX 2 A rfl (ok_d (by have hcn := hc.n; have hm := memP hl h4; have z0 := len8 hc.n hm; have z1 := pok_of hm ((qk : Int)).toNat; have z2 := pok_of hm (((qk : Int) - 1)).toNat; have z3 := pok_of hm (((((L.getD (((qi : Int)).toNat) Pt.z).ps.length : Nat) : Int) - 1)).toNat; omega) <| okE_nil) fun A => N hX 13 A rfl (ok_d (by have hcn := hc.n; have hm := memP hl h4; have z0 := len8 hc.n hm; have z1 := pok_of hm ((qk : Int)).toNat; have z2 := pok_of hm (((qk : Int) - 1)).toNat; have z3 := pok_of hm (((((L.getD (((qi : Int)).toNat) Pt.z).ps.length : Nat) : Int) - 1)).toNat; omega) <| ok_d (by have hcn := hc.n; have hm := memP hl h4; have z0 := len8 hc.n hm; have z1 := pok_of hm ((qk : Int)).toNat; have z2 := pok_of hm (((qk : Int) - 1)).toNat; have z3 := pok_of hm (((((L.getD (((qi : Int)).toNat) Pt.z).ps.length : Nat) : Int) - 1)).toNat; omega) <| ok_d (by have hcn := hc.n; have hm := memP hl h4; have z0 := len8 hc.n hm; have z1 := pok_of hm ((qk : Int)).toNat; have z2 := pok_of hm (((qk : Int) - 1)).toNat; have z3 := pok_of hm (((((L.getD (((qi : Int)).toNat) Pt.z).ps.length : Nat) : Int) - 1)).toNat; omega) <| ok_d (by have hcn := hc.n; have hm := memP hl h4; have z0 := len8 hc.n hm; have z1 := pok_of hm ((qk : Int)).toNat; have z2 := pok_of hm (((qk : Int) - 1)).toNat; have z3 := pok_of hm (((((L.getD (((qi : Int)).toNat) Pt.z).ps.length : Nat) : Int) - 1)).toNat; omega) <| ok_d (by have hcn := hc.n; have hm := memP hl h4; have z0 := len8 hc.n hm; have z1 := pok_of hm ((qk : Int)).toNat; have z2 := pok_of hm (((qk : Int) - 1)).toNat; have z3 := pok_of hm (((((L.getD (((qi : Int)).toNat) Pt.z).ps.length : Nat) : Int) - 1)).toNat; omega) <| okE_nil) fun A => forkN 108 A rfl
                (fun h13 A => N hX 7 A rfl rfl fun A => False.elim (by have hm := memP hl h4; have hz := cnt_ok hm h5; omega))
                (fun h13 A => N hX 6 A rfl (ok_d (by have hcn := hc.n; have hm := memP hl h4; have z0 := len8 hc.n hm; have z1 := pok_of hm ((qk : Int)).toNat; have z2 := pok_of hm (((qk : Int) - 1)).toNat; have z3 := pok_of hm (((((L.getD (((qi : Int)).toNat) Pt.z).ps.length : Nat) : Int) - 1)).toNat; omega) <| okE_nil) fun A => N hX 7 A rfl (ok_d (by have hcn := hc.n; have hm := memP hl h4; have z0 := len8 hc.n hm; have z1 := pok_of hm ((qk : Int)).toNat; have z2 := pok_of hm (((qk : Int) - 1)).toNat; have z3 := pok_of hm (((((L.getD (((qi : Int)).toNat) Pt.z).ps.length : Nat) : Int) - 1)).toNat; omega) <| okE_nil) fun A => N hX 2 A rfl rfl fun A => ⟨qk + 1, _, (by omega), (by omega), ((A.cut [0, 2, 3, 4, 5, 6] rfl).trunc 4 rfl rfl rfl (by simp only [List.length_cons, List.length_nil] at h0; omega)).sayT (by rw [atF_s] <;> rfl)⟩))
               (fun h12 A => N hX 5 A rfl rfl fun A => N hX 22 A rfl rfl fun A => False.elim (by have hm := memP hl h4; have hz := cnt_ok hm h5; omega)))
              (fun h11 A => N hX 5 A rfl rfl fun A => N hX 14 A rfl rfl fun A => N hX 21 A rfl (ok_d (by have hcn := hc.n; have hm := memP hl h4; have z0 := len8 hc.n hm; have z1 := pok_of hm ((qk : Int)).toNat; have z2 := pok_of hm (((qk : Int) - 1)).toNat; have z3 := pok_of hm (((((L.getD (((qi : Int)).toNat) Pt.z).ps.length : Nat) : Int) - 1)).toNat; omega) <| okE_nil) fun A => N hX 7 A rfl (ok_d (by have hcn := hc.n; have hm := memP hl h4; have z0 := len8 hc.n hm; have z1 := pok_of hm ((qk : Int)).toNat; have z2 := pok_of hm (((qk : Int) - 1)).toNat; have z3 := pok_of hm (((((L.getD (((qi : Int)).toNat) Pt.z).ps.length : Nat) : Int) - 1)).toNat; omega) <| okE_nil) fun A => N hX 2 A rfl rfl fun A => ⟨qk + 1, _, (by omega), (by omega), ((A.cut [0, 2, 3, 4, 5, 6] rfl).trunc 4 rfl rfl rfl (by simp only [List.length_cons, List.length_nil] at h0; omega)).sayT (by rw [atF_s] <;> rfl)⟩))
             (fun h10 A => N hX 10 A rfl rfl fun A => N hX 14 A rfl rfl fun A => N hX 21 A rfl (ok_d (by have hcn := hc.n; have hm := memP hl h4; have z0 := len8 hc.n hm; have z1 := pok_of hm ((qk : Int)).toNat; have z2 := pok_of hm (((qk : Int) - 1)).toNat; have z3 := pok_of hm (((((L.getD (((qi : Int)).toNat) Pt.z).ps.length : Nat) : Int) - 1)).toNat; omega) <| okE_nil) fun A => N hX 7 A rfl (ok_d (by have hcn := hc.n; have hm := memP hl h4; have z0 := len8 hc.n hm; have z1 := pok_of hm ((qk : Int)).toNat; have z2 := pok_of hm (((qk : Int) - 1)).toNat; have z3 := pok_of hm (((((L.getD (((qi : Int)).toNat) Pt.z).ps.length : Nat) : Int) - 1)).toNat; omega) <| okE_nil) fun A => N hX 2 A rfl rfl fun A => ⟨qk + 1, _, (by omega), (by omega), ((A.cut [0, 2, 3, 4, 5, 6] rfl).trunc 4 rfl rfl rfl (by simp only [List.length_cons, List.length_nil] at h0; omega)).sayT (by rw [atF_s] <;> rfl)⟩)))
           (fun h8 A => N hX 8 A rfl rfl fun A => forkD 71 A rfl
            (fun h14 A => N hX 5 A rfl rfl fun A => forkN 76 A rfl
             (fun h15 A => N hX 5 A rfl (ok_d (by have hcn := hc.n; have hm := memP hl h4; have z0 := len8 hc.n hm; have z1 := pok_of hm ((qk : Int)).toNat; have z2 := pok_of hm (((qk : Int) - 1)).toNat; have z3 := pok_of hm (((((L.getD (((qi : Int)).toNat) Pt.z).ps.length : Nat) : Int) - 1)).toNat; omega) <| ok_d (by have hcn := hc.n; have hm := memP hl h4; have z0 := len8 hc.n hm; have z1 := pok_of hm ((qk : Int)).toNat; have z2 := pok_of hm (((qk : Int) - 1)).toNat; have z3 := pok_of hm (((((L.getD (((qi : Int)).toNat) Pt.z).ps.length : Nat) : Int) - 1)).toNat; omega) <| okE_nil) fun A => ADOPT 81 (hAll _) A rfl rfl rfl rfl fun A => N hX 2 A rfl (ok_d (by have hcn := hc.n; have hm := memP hl h4; have z0 := len8 hc.n hm; have z1 := pok_of hm ((qk : Int)).toNat; have z2 := pok_of hm (((qk : Int) - 1)).toNat; have z3 := pok_of hm (((((L.getD (((qi : Int)).toNat) Pt.z).ps.length : Nat) : Int) - 1)).toNat; omega) <| okE_nil) fun A => N hX 7 A rfl (ok_d (by have hcn := hc.n; have hm := memP hl h4; have z0 := len8 hc.n hm; have z1 := pok_of hm ((qk : Int)).toNat; have z2 := pok_of hm (((qk : Int) - 1)).toNat; have z3 := pok_of hm (((((L.getD (((qi : Int)).toNat) Pt.z).ps.length : Nat) : Int) - 1)).toNat; omega) <| ok_d (by have hcn := hc.n; have hm := memP hl h4; have z0 := len8 hc.n hm; have z1 := pok_of hm ((qk : Int)).toNat; have z2 := pok_of hm (((qk : Int) - 1)).toNat; have z3 := pok_of hm (((((L.getD (((qi : Int)).toNat) Pt.z).ps.length : Nat) : Int) - 1)).toNat; omega) <| ok_d (by have hcn := hc.n; have hm := memP hl h4; have z0 := len8 hc.n hm; have z1 := pok_of hm ((qk : Int)).toNat; have z2 := pok_of hm (((qk : Int) - 1)).toNat; have z3 := pok_of hm (((((L.getD (((qi : Int)).toNat) Pt.z).ps.length : Nat) : Int) - 1)).toNat; omega) <| ok_d (by have hcn := hc.n; have hm := memP hl h4; have z0 := len8 hc.n hm; have z1 := pok_of hm ((qk : Int)).toNat; have z2 := pok_of hm (((qk : Int) - 1)).toNat; have z3 := pok_of hm (((((L.getD (((qi : Int)).toNat) Pt.z).ps.length : Nat) : Int) - 1)).toNat; omega) <| ok_d (by have hcn := hc.n; have hm := memP hl h4; have z0 := len8 hc.n hm; have z1 := pok_of hm ((qk : Int)).toNat; have z2 := pok_of hm (((qk : Int) - 1)).toNat; have z3 := pok_of hm (((((L.getD (((qi : Int)).toNat) Pt.z).ps.length : Nat) : Int) - 1)).toNat; omega) <| okE_nil) fun A => forkE 90 A rfl
              (fun h16 A => N hX 5 A rfl (ok_d (by have hcn := hc.n; have hm := memP hl h4; have z0 := len8 hc.n hm; have z1 := pok_of hm ((qk : Int)).toNat; have z2 := pok_of hm (((qk : Int) - 1)).toNat; have z3 := pok_of hm (((((L.getD (((qi : Int)).toNat) Pt.z).ps.length : Nat) : Int) - 1)).toNat; omega) <| ok_d (by have hcn := hc.n; have hm := memP hl h4; have z0 := len8 hc.n hm; have z1 := pok_of hm ((qk : Int)).toNat; have z2 := pok_of hm (((qk : Int) - 1)).toNat; have z3 := pok_of hm (((((L.getD (((qi : Int)).toNat) Pt.z).ps.length : Nat) : Int) - 1)).toNat; omega) <| okE_nil) fun A => ADOPT 95 (hAll _) A rfl rfl rfl rfl fun A => N hX 2 A rfl (ok_d (by have hcn := hc.n; have hm := memP hl h4; have z0 := len8 hc.n hm; have z1 := pok_of hm ((qk : Int)).toNat; have z2 := pok_of hm (((qk : Int) - 1)).toNat; have z3 := pok_of hm (((((L.getD (((qi : Int)).toNat) Pt.z).ps.length : Nat) : Int) - 1)).toNat; omega) <| okE_nil) fun A => N hX 13 A rfl (ok_d (by have hcn := hc.n; have hm := memP hl h4; have z0 := len8 hc.n hm; have z1 := pok_of hm ((qk : Int)).toNat; have z2 := pok_of hm (((qk : Int) - 1)).toNat; have z3 := pok_of hm (((((L.getD (((qi : Int)).toNat) Pt.z).ps.length : Nat) : Int) - 1)).toNat; omega) <| ok_d (by have hcn := hc.n; have hm := memP hl h4; have z0 := len8 hc.n hm; have z1 := pok_of hm ((qk : Int)).toNat; have z2 := pok_of hm (((qk : Int) - 1)).toNat; have z3 := pok_of hm (((((L.getD (((qi : Int)).toNat) Pt.z).ps.length : Nat) : Int) - 1)).toNat; omega) <| ok_d (by have hcn := hc.n; have hm := memP hl h4; have z0 := len8 hc.n hm; have z1 := pok_of hm ((qk : Int)).toNat; have z2 := pok_of hm (((qk : Int) - 1)).toNat; have z3 := pok_of hm (((((L.getD (((qi : Int)).toNat) Pt.z).ps.length : Nat) : Int) - 1)).toNat; omega) <| ok_d (by have hcn := hc.n; have hm := memP hl h4; have z0 := len8 hc.n hm; have z1 := pok_of hm ((qk : Int)).toNat; have z2 := pok_of hm (((qk : Int) - 1)).toNat; have z3 := pok_of hm (((((L.getD (((qi : Int)).toNat) Pt.z).ps.length : Nat) : Int) - 1)).toNat; omega) <| ok_d (by have hcn := hc.n; have hm := memP hl h4; have z0 := len8 hc.n hm; have z1 := pok_of hm ((qk : Int)).toNat; have z2 := pok_of hm (((qk : Int) - 1)).toNat; have z3 := pok_of hm (((((L.getD (((qi : Int)).toNat) Pt.z).ps.length : Nat) : Int) - 1)).toNat; omega) <| okE_nil) fun A => forkN 108 A rfl
               (fun h17 A => N hX 7 A rfl rfl fun A => False.elim (by have hm := memP hl h4; have hz := cnt_ok hm h5; omega))
               (fun h17 A => N hX 6 A rfl (ok_d (by have hcn := hc.n; have hm := memP hl h4; have z0 := len8 hc.n hm; have z1 := pok_of hm ((qk : Int)).toNat; have z2 := pok_of hm (((qk : Int) - 1)).toNat; have z3 := pok_of hm (((((L.getD (((qi : Int)).toNat) Pt.z).ps.length : Nat) : Int) - 1)).toNat; omega) <| okE_nil) fun A => N hX 7 A rfl (ok_d (by have hcn := hc.n; have hm := memP hl h4; have z0 := len8 hc.n hm; have z1 := pok_of hm ((qk : Int)).toNat; have z2 := pok_of hm (((qk : Int) - 1)).toNat; have z3 := pok_of hm (((((L.getD (((qi : Int)).toNat) Pt.z).ps.length : Nat) : Int) - 1)).toNat; omega) <| okE_nil) fun A => N hX 2 A rfl rfl fun A => ⟨qk + 1, _, (by omega), (by omega), ((A.cut [0, 2, 3, 4, 5, 6] rfl).trunc 4 rfl rfl rfl (by simp only [List.length_cons, List.length_nil] at h0; omega)).sayT (by rw [atF_s] <;> rfl)⟩))
              (fun h16 A => N hX 5 A rfl rfl fun A => N hX 22 A rfl rfl fun A => False.elim (by have hm := memP hl h4; have hz := cnt_ok hm h5; omega)))
             (fun h15 A => N hX 5 A rfl rfl fun A => N hX 14 A rfl rfl fun A => N hX 21 A rfl (ok_d (by have hcn := hc.n; have hm := memP hl h4; have z0 := len8 hc.n hm; have z1 := pok_of hm ((qk : Int)).toNat; have z2 := pok_of hm (((qk : Int) - 1)).toNat; have z3 := pok_of hm (((((L.getD (((qi : Int)).toNat) Pt.z).ps.length : Nat) : Int) - 1)).toNat; omega) <| okE_nil) fun A => N hX 7 A rfl (ok_d (by have hcn := hc.n; have hm := memP hl h4; have z0 := len8 hc.n hm; have z1 := pok_of hm ((qk : Int)).toNat; have z2 := pok_of hm (((qk : Int) - 1)).toNat; have z3 := pok_of hm (((((L.getD (((qi : Int)).toNat) Pt.z).ps.length : Nat) : Int) - 1)).toNat; omega) <| okE_nil) fun A => N hX 2 A rfl rfl fun A => ⟨qk + 1, _, (by omega), (by omega), ((A.cut [0, 2, 3, 4, 5, 6] rfl).trunc 4 rfl rfl rfl (by simp only [List.length_cons, List.length_nil] at h0; omega)).sayT (by rw [atF_s] <;> rfl)⟩))
            (fun h14 A => N hX 10 A rfl rfl fun A => N hX 14 A rfl rfl fun A => N hX 21 A rfl (ok_d (by have hcn := hc.n; have hm := memP hl h4; have z0 := len8 hc.n hm; have z1 := pok_of hm ((qk : Int)).toNat; have z2 := pok_of hm (((qk : Int) - 1)).toNat; have z3 := pok_of hm (((((L.getD (((qi : Int)).toNat) Pt.z).ps.length : Nat) : Int) - 1)).toNat; omega) <| okE_nil) fun A => N hX 7 A rfl (ok_d (by have hcn := hc.n; have hm := memP hl h4; have z0 := len8 hc.n hm; have z1 := pok_of hm ((qk : Int)).toNat; have z2 := pok_of hm (((qk : Int) - 1)).toNat; have z3 := pok_of hm (((((L.getD (((qi : Int)).toNat) Pt.z).ps.length : Nat) : Int) - 1)).toNat; omega) <| okE_nil) fun A => N hX 2 A rfl rfl fun A => ⟨qk + 1, _, (by omega), (by omega), ((A.cut [0, 2, 3, 4, 5, 6] rfl).trunc 4 rfl rfl rfl (by simp only [List.length_cons, List.length_nil] at h0; omega)).sayT (by rw [atF_s] <;> rfl)⟩)))))
        (fun h5 A => N hX 15 A rfl (ok_d (by have hcn := hc.n; have hm := memP hl h4; have z0 := len8 hc.n hm; have z1 := pok_of hm ((qk : Int)).toNat; have z2 := pok_of hm (((qk : Int) - 1)).toNat; have z3 := pok_of hm (((((L.getD (((qi : Int)).toNat) Pt.z).ps.length : Nat) : Int) - 1)).toNat; omega) <| ok_d (by have hcn := hc.n; have hm := memP hl h4; have z0 := len8 hc.n hm; have z1 := pok_of hm ((qk : Int)).toNat; have z2 := pok_of hm (((qk : Int) - 1)).toNat; have z3 := pok_of hm (((((L.getD (((qi : Int)).toNat) Pt.z).ps.length : Nat) : Int) - 1)).toNat; omega) <| okE_nil) fun A => N hX 4 A rfl rfl fun A => forkE 118 A rfl
         (fun h18 A => N hX 5 A rfl rfl fun A => forkD 123 A rfl
          (fun h19 A => N hX 14 A rfl rfl fun A => N hX 14 A rfl rfl fun A => N hX 23 A rfl rfl fun A => False.elim (by have hm := memP hl h4; have hz := end_ok hm hI2 h5; omega))
          (fun h19 A => N hX 3 A rfl rfl fun A => forkD 126 A rfl
           (fun h20 A => N hX 6 A rfl rfl fun A => forkN 132 A rfl
            (fun h21 A => N hX 5 A rfl (ok_d (by have hcn := hc.n; have hm := memP hl h4; have z0 := len8 hc.n hm; have z1 := pok_of hm ((qk : Int)).toNat; have z2 := pok_of hm (((qk : Int) - 1)).toNat; have z3 := pok_of hm (((((L.getD (((qi : Int)).toNat) Pt.z).ps.length : Nat) : Int) - 1)).toNat; omega) <| ok_d (by have hcn := hc.n; have hm := memP hl h4; have z0 := len8 hc.n hm; have z1 := pok_of hm ((qk : Int)).toNat; have z2 := pok_of hm (((qk : Int) - 1)).toNat; have z3 := pok_of hm (((((L.getD (((qi : Int)).toNat) Pt.z).ps.length : Nat) : Int) - 1)).toNat; omega) <| okE_nil) fun A => ADOPT 137 (hAll _) A rfl rfl rfl rfl fun A => N hX 2 A rfl (ok_d (by have hcn := hc.n; have hm := memP hl h4; have z0 := len8 hc.n hm; have z1 := pok_of hm ((qk : Int)).toNat; have z2 := pok_of hm (((qk : Int) - 1)).toNat; have z3 := pok_of hm (((((L.getD (((qi : Int)).toNat) Pt.z).ps.length : Nat) : Int) - 1)).toNat; omega) <| okE_nil) fun A => N hX 7 A rfl (ok_d (by have hcn := hc.n; have hm := memP hl h4; have z0 := len8 hc.n hm; have z1 := pok_of hm ((qk : Int)).toNat; have z2 := pok_of hm (((qk : Int) - 1)).toNat; have z3 := pok_of hm (((((L.getD (((qi : Int)).toNat) Pt.z).ps.length : Nat) : Int) - 1)).toNat; omega) <| ok_d (by have hcn := hc.n; have hm := memP hl h4; have z0 := len8 hc.n hm; have z1 := pok_of hm ((qk : Int)).toNat; have z2 := pok_of hm (((qk : Int) - 1)).toNat; have z3 := pok_of hm (((((L.getD (((qi : Int)).toNat) Pt.z).ps.length : Nat) : Int) - 1)).toNat; omega) <| ok_d (by have hcn := hc.n; have hm := memP hl h4; have z0 := len8 hc.n hm; have z1 := pok_of hm ((qk : Int)).toNat; have z2 := pok_of hm (((qk : Int) - 1)).toNat; have z3 := pok_of hm (((((L.getD (((qi : Int)).toNat) Pt.z).ps.length : Nat) : Int) - 1)).toNat; omega) <| ok_d (by have hcn := hc.n; have hm := memP hl h4; have z0 := len8 hc.n hm; have z1 := pok_of hm ((qk : Int)).toNat; have z2 := pok_of hm (((qk : Int) - 1)).toNat; have z3 := pok_of hm (((((L.getD (((qi : Int)).toNat) Pt.z).ps.length : Nat) : Int) - 1)).toNat; omega) <| ok_d (by have hcn := hc.n; have hm := memP hl h4; have z0 := len8 hc.n hm; have z1 := pok_of hm ((qk : Int)).toNat; have z2 := pok_of hm (((qk : Int) - 1)).toNat; have z3 := pok_of hm (((((L.getD (((qi : Int)).toNat) Pt.z).ps.length : Nat) : Int) - 1)).toNat; omega) <| okE_nil) fun A => forkE 146 A rfl
             (fun h22 A => N hX 5 A rfl (ok_d (by have hcn := hc.n; have hm := memP hl h4; have z0 := len8 hc.n hm; have z1 := pok_of hm ((qk : Int)).toNat; have z2 := pok_of hm (((qk : Int) - 1)).toNat; have z3 := pok_of hm (((((L.getD (((qi : Int)).toNat) Pt.z).ps.length : Nat) : Int) - 1)).toNat; omega) <| ok_d (by have hcn := hc.n; have hm := memP hl h4; have z0 := len8 hc.n hm; have z1 := pok_of hm ((qk : Int)).toNat; have z2 := pok_of hm (((qk : Int) - 1)).toNat; have z3 := pok_of hm (((((L.getD (((qi : Int)).toNat) Pt.z).ps.length : Nat) : Int) - 1)).toNat; omega) <| okE_nil) fun A => ADOPT 151 (hAll _) A rfl rfl rfl rfl fun A => N hX 2 A rfl (ok_d (by have hcn := hc.n; have hm := memP hl h4; have z0 := len8 hc.n hm; have z1 := pok_of hm ((qk : Int)).toNat; have z2 := pok_of hm (((qk : Int) - 1)).toNat; have z3 := pok_of hm (((((L.getD (((qi : Int)).toNat) Pt.z).ps.length : Nat) : Int) - 1)).toNat; omega) <| okE_nil) fun A => N hX 14 A rfl (ok_d (by have hcn := hc.n; have hm := memP hl h4; have z0 := len8 hc.n hm; have z1 := pok_of hm ((qk : Int)).toNat; have z2 := pok_of hm (((qk : Int) - 1)).toNat; have z3 := pok_of hm (((((L.getD (((qi : Int)).toNat) Pt.z).ps.length : Nat) : Int) - 1)).toNat; omega) <| ok_d (by have hcn := hc.n; have hm := memP hl h4; have z0 := len8 hc.n hm; have z1 := pok_of hm ((qk : Int)).toNat; have z2 := pok_of hm (((qk : Int) - 1)).toNat; have z3 := pok_of hm (((((L.getD (((qi : Int)).toNat) Pt.z).ps.length : Nat) : Int) - 1)).toNat; omega) <| ok_d (by have hcn := hc.n; have hm := memP hl h4; have z0 := len8 hc.n hm; have z1 := pok_of hm ((qk : Int)).toNat; have z2 := pok_of hm (((qk : Int) - 1)).toNat; have z3 := pok_of hm (((((L.getD (((qi : Int)).toNat) Pt.z).ps.length : Nat) : Int) - 1)).toNat; omega) <| ok_d (by have hcn := hc.n; have hm := memP hl h4; have z0 := len8 hc.n hm; have z1 := pok_of hm ((qk : Int)).toNat; have z2 := pok_of hm (((qk : Int) - 1)).toNat; have z3 := pok_of hm (((((L.getD (((qi : Int)).toNat) Pt.z).ps.length : Nat) : Int) - 1)).toNat; omega) <| ok_d (by have hcn := hc.n; have hm := memP hl h4; have z0 := len8 hc.n hm; have z1 := pok_of hm ((qk : Int)).toNat; have z2 := pok_of hm (((qk : Int) - 1)).toNat; have z3 := pok_of hm (((((L.getD (((qi : Int)).toNat) Pt.z).ps.length : Nat) : Int) - 1)).toNat; omega) <| okE_nil) fun A => forkN 165 A rfl
              (fun h23 A => N hX 7 A rfl rfl fun A => False.elim (by have hm := memP hl h4; have hz := end_ok hm hI2 h5; omega))
              (fun h23 A => N hX 9 A rfl rfl fun A => LOOP1 (fun (qj : Nat) => [(0, .sl 0 cs.length c), (2, .ff), (3, .sl 3 L.length cp), (4, .int .i64 (qi : Int)), (9, .int .i64 (qj : Int))]) (fun (qj : Nat) => [some (.lst 17 cs.length (fun zz => insS (cs.getD zz In.z))), none, some (.lst 17 cs.length (fun zz => insS (cs.getD zz In.z))), some (.lst 1 L.length (fun zz => Pt.c (L.getD zz Pt.z))), some (.lst 1 (((L.getD (((qi : Int)).toNat) Pt.z).ps).length) (fun j => [.int .i64 (((L.getD (((qi : Int)).toNat) Pt.z).ps).getD j 0)])), some (.lst 1 (((L.getD (((qi : Int)).toNat) Pt.z).ps).length) (fun j => [.int .i64 (((L.getD (((qi : Int)).toNat) Pt.z).ps).getD j 0)]))]) (fun (qj : Nat) => qj ≤ qi) (fun (qj : Nat) => qi - qj) 0 (Nat.zero_le _) ((A.cut [0, 2, 3, 4, 9] rfl).trunc 6 rfl rfl rfl (by simp only [List.length_cons, List.length_nil] at h0; omega)) fun qj hI3 {G a w} A => N hX 8 A rfl rfl fun A => forkD 168 A rfl
                (fun h24 A => N hX 6 A rfl rfl fun A => ANY hmo [.sl 3 L.length cp, .int .i64 (qi : Int), .el 3 1 (qi : Int) 0, .sla ((L.getD (((qi : Int)).toNat) Pt.z).ao) ((L.getD (((qi : Int)).toNat) Pt.z).ps.length) ((L.getD (((qi : Int)).toNat) Pt.z).cp), .sl 3 L.length cp, .int .i64 (qj : Int), .el 3 1 (qj : Int) 0, .sla ((L.getD (((qj : Int)).toNat) Pt.z).ao) ((L.getD (((qj : Int)).toNat) Pt.z).ps.length) ((L.getD (((qj : Int)).toNat) Pt.z).cp), .bool (decide ((L.getD (((qi : Int)).toNat) Pt.z).ps = (L.getD (((qj : Int)).toNat) Pt.z).ps))] [] [] 0 [([], [], [some (.lst 17 cs.length (fun zz => insS (cs.getD zz In.z))), none, some (.lst 17 cs.length (fun zz => insS (cs.getD zz In.z))), some (.lst 1 L.length (fun zz => Pt.c (L.getD zz Pt.z))), some (.lst 1 (((L.getD (((qi : Int)).toNat) Pt.z).ps).length) (fun j => [.int .i64 (((L.getD (((qi : Int)).toNat) Pt.z).ps).getD j 0)])), some (.lst 1 (((L.getD (((qi : Int)).toNat) Pt.z).ps).length) (fun j => [.int .i64 (((L.getD (((qi : Int)).toNat) Pt.z).ps).getD j 0)]))])] [[true, true, true, true, true, true, true, true, true]] A rfl rfl rfl rfl (by kernel_rfl) rfl (by kernel_rfl) ⟨⟨⟨_, _, _, _, 0, rfl, rfl, rfl, rfl, eff_at (eff_auto (X := ⟨_, true⟩) (out := .val _ _) hX rfl rfl) rfl⟩, ⟨⟨_, _, _, _, 0, rfl, rfl, rfl, rfl, eff_at (eff_auto (X := ⟨_, true⟩) (out := .val _ _) hX rfl rfl) rfl⟩, ⟨⟨_, _, _, _, 0, rfl, rfl, rfl, rfl, eff_at (eff_auto (X := ⟨_, true⟩) (out := .val _ _) hX rfl (ok_d (by have hcn := hc.n; have hm := memP hl h4; have z0 := len8 hc.n hm; have z1 := pok_of hm ((qk : Int)).toNat; have z2 := pok_of hm (((qk : Int) - 1)).toNat; have z3 := pok_of hm (((((L.getD (((qi : Int)).toNat) Pt.z).ps.length : Nat) : Int) - 1)).toNat; omega) <| okE_nil)) rfl⟩, ⟨⟨_, _, _, _, 0, rfl, rfl, rfl, rfl, eff_at (eff_auto (X := ⟨_, true⟩) (out := .val _ _) hX rfl (ok_d (by have hcn := hc.n; have hm := memP hl h4; have z0 := len8 hc.n hm; have z1 := pok_of hm ((qk : Int)).toNat; have z2 := pok_of hm (((qk : Int) - 1)).toNat; have z3 := pok_of hm (((((L.getD (((qi : Int)).toNat) Pt.z).ps.length : Nat) : Int) - 1)).toNat; omega) <| okE_nil)) rfl⟩, ⟨⟨_, _, _, _, 0, rfl, rfl, rfl, rfl, eff_at (eff_auto (X := ⟨_, true⟩) (out := .val _ _) hX rfl rfl) rfl⟩, ⟨⟨_, _, _, _, 0, rfl, rfl, rfl, rfl, eff_at (eff_auto (X := ⟨_, true⟩) (out := .val _ _) hX rfl rfl) rfl⟩, ⟨⟨_, _, _, _, 0, rfl, rfl, rfl, rfl, eff_at (eff_auto (X := ⟨_, true⟩) (out := .val _ _) hX rfl (ok_d (by have hcn := hc.n; have hm := memP hl h4; have z0 := len8 hc.n hm; have z1 := pok_of hm ((qk : Int)).toNat; have z2 := pok_of hm (((qk : Int) - 1)).toNat; have z3 := pok_of hm (((((L.getD (((qi : Int)).toNat) Pt.z).ps.length : Nat) : Int) - 1)).toNat; omega) <| okE_nil)) rfl⟩, ⟨⟨_, _, _, _, 0, rfl, rfl, rfl, rfl, eff_at (eff_auto (X := ⟨_, true⟩) (out := .val _ _) hX rfl (ok_d (by have hcn := hc.n; have hm := memP hl h4; have z0 := len8 hc.n hm; have z1 := pok_of hm ((qk : Int)).toNat; have z2 := pok_of hm (((qk : Int) - 1)).toNat; have z3 := pok_of hm (((((L.getD (((qi : Int)).toNat) Pt.z).ps.length : Nat) : Int) - 1)).toNat; omega) <| okE_nil)) rfl⟩, ⟨⟨_, _, _, _, 0, rfl, rfl, rfl, rfl, eff_at (callIE [] TwoL.ok ⟨hAll _, hAll _⟩ (ints_ (L.getD (((qi : Int)).toNat) Pt.z).ao (L.getD (((qi : Int)).toNat) Pt.z).ps (L.getD (((qi : Int)).toNat) Pt.z).cp (L.getD (((qj : Int)).toNat) Pt.z).ao (L.getD (((qj : Int)).toNat) Pt.z).ps (L.getD (((qj : Int)).toNat) Pt.z).cp (by have := len8 hc.n (memP hl h4); omega)) rfl rfl rfl rfl rfl rfl rfl) rfl⟩, trivial⟩⟩⟩⟩⟩⟩⟩⟩⟩, trivial⟩ fun A => N hX 1 A rfl rfl fun A => forkD 179 A rfl
                 (fun h25 A => N hX 7 A rfl rfl fun A => False.elim (by exact absurd h25 (ndP hl h4 h24)))
                 (fun h25 A => N hX 7 A rfl (ok_d (by have hcn := hc.n; have hm := memP hl h4; have z0 := len8 hc.n hm; have z1 := pok_of hm ((qk : Int)).toNat; have z2 := pok_of hm (((qk : Int) - 1)).toNat; have z3 := pok_of hm (((((L.getD (((qi : Int)).toNat) Pt.z).ps.length : Nat) : Int) - 1)).toNat; omega) <| okE_nil) fun A => N hX 2 A rfl rfl fun A => ⟨qj + 1, _, (by omega), (by omega), ((A.cut [0, 2, 3, 4, 9] rfl).trunc 6 rfl rfl rfl (by simp only [List.length_cons, List.length_nil] at h0; omega))⟩))
                (fun h24 A => N hX 7 A rfl (ok_d (by have hcn := hc.n; have hm := memP hl h4; have z0 := len8 hc.n hm; have z1 := pok_of hm ((qk : Int)).toNat; have z2 := pok_of hm (((qk : Int) - 1)).toNat; have z3 := pok_of hm (((((L.getD (((qi : Int)).toNat) Pt.z).ps.length : Nat) : Int) - 1)).toNat; omega) <| okE_nil) fun A => N hX 2 A rfl rfl fun A => ⟨qi + 1, _, (by omega), (by omega), ((A.cut [0, 2, 3, 4] rfl).trunc 4 rfl rfl rfl (by simp only [List.length_cons, List.length_nil] at h0; omega))⟩)))
             (fun h22 A => N hX 5 A rfl rfl fun A => N hX 23 A rfl rfl fun A => False.elim (by have hm := memP hl h4; have hz := end_ok hm hI2 h5; omega)))
            (fun h21 A => N hX 5 A rfl rfl fun A => N hX 14 A rfl rfl fun A => N hX 25 A rfl rfl fun A => LOOP1 (fun (qj : Nat) => [(0, .sl 0 cs.length c), (2, .ff), (3, .sl 3 L.length cp), (4, .int .i64 (qi : Int)), (9, .int .i64 (qj : Int))]) (fun (qj : Nat) => [some (.lst 17 cs.length (fun zz => insS (cs.getD zz In.z))), none, some (.lst 17 cs.length (fun zz => insS (cs.getD zz In.z))), some (.lst 1 L.length (fun zz => Pt.c (L.getD zz Pt.z)))]) (fun (qj : Nat) => qj ≤ qi) (fun (qj : Nat) => qi - qj) 0 (Nat.zero_le _) ((A.cut [0, 2, 3, 4, 9] rfl).trunc 4 rfl rfl rfl (by simp only [List.length_cons, List.length_nil] at h0; omega)) fun qj hI3 {G a w} A => N hX 8 A rfl rfl fun A => forkD 168 A rfl
              (fun h26 A => N hX 6 A rfl rfl fun A => ANY hmo [.sl 3 L.length cp, .int .i64 (qi : Int), .el 3 1 (qi : Int) 0, .sla ((L.getD (((qi : Int)).toNat) Pt.z).ao) ((L.getD (((qi : Int)).toNat) Pt.z).ps.length) ((L.getD (((qi : Int)).toNat) Pt.z).cp), .sl 3 L.length cp, .int .i64 (qj : Int), .el 3 1 (qj : Int) 0, .sla ((L.getD (((qj : Int)).toNat) Pt.z).ao) ((L.getD (((qj : Int)).toNat) Pt.z).ps.length) ((L.getD (((qj : Int)).toNat) Pt.z).cp), .bool (decide ((L.getD (((qi : Int)).toNat) Pt.z).ps = (L.getD (((qj : Int)).toNat) Pt.z).ps))] [] [] 0 [([], [], [some (.lst 17 cs.length (fun zz => insS (cs.getD zz In.z))), none, some (.lst 17 cs.length (fun zz => insS (cs.getD zz In.z))), some (.lst 1 L.length (fun zz => Pt.c (L.getD zz Pt.z)))])] [[true, true, true, true, true, true, true, true, true]] A rfl rfl rfl rfl (by kernel_rfl) rfl (by kernel_rfl) ⟨⟨⟨_, _, _, _, 0, rfl, rfl, rfl, rfl, eff_at (eff_auto (X := ⟨_, true⟩) (out := .val _ _) hX rfl rfl) rfl⟩, ⟨⟨_, _, _, _, 0, rfl, rfl, rfl, rfl, eff_at (eff_auto (X := ⟨_, true⟩) (out := .val _ _) hX rfl rfl) rfl⟩, ⟨⟨_, _, _, _, 0, rfl, rfl, rfl, rfl, eff_at (eff_auto (X := ⟨_, true⟩) (out := .val _ _) hX rfl (ok_d (by have hcn := hc.n; have hm := memP hl h4; have z0 := len8 hc.n hm; have z1 := pok_of hm ((qk : Int)).toNat; have z2 := pok_of hm (((qk : Int) - 1)).toNat; have z3 := pok_of hm (((((L.getD (((qi : Int)).toNat) Pt.z).ps.length : Nat) : Int) - 1)).toNat; omega) <| okE_nil)) rfl⟩, ⟨⟨_, _, _, _, 0, rfl, rfl, rfl, rfl, eff_at (eff_auto (X := ⟨_, true⟩) (out := .val _ _) hX rfl (ok_d (by have hcn := hc.n; have hm := memP hl h4; have z0 := len8 hc.n hm; have z1 := pok_of hm ((qk : Int)).toNat; have z2 := pok_of hm (((qk : Int) - 1)).toNat; have z3 := pok_of hm (((((L.getD (((qi : Int)).toNat) Pt.z).ps.length : Nat) : Int) - 1)).toNat; omega) <| okE_nil)) rfl⟩, ⟨⟨_, _, _, _, 0, rfl, rfl, rfl, rfl, eff_at (eff_auto (X := ⟨_, true⟩) (out := .val _ _) hX rfl rfl) rfl⟩, ⟨⟨_, _, _, _, 0, rfl, rfl, rfl, rfl, eff_at (eff_auto (X := ⟨_, true⟩) (out := .val _ _) hX rfl rfl) rfl⟩, ⟨⟨_, _, _, _, 0, rfl, rfl, rfl, rfl, eff_at (eff_auto (X := ⟨_, true⟩) (out := .val _ _) hX rfl (ok_d (by have hcn := hc.n; have hm := memP hl h4; have z0 := len8 hc.n hm; have z1 := pok_of hm ((qk : Int)).toNat; have z2 := pok_of hm (((qk : Int) - 1)).toNat; have z3 := pok_of hm (((((L.getD (((qi : Int)).toNat) Pt.z).ps.length : Nat) : Int) - 1)).toNat; omega) <| okE_nil)) rfl⟩, ⟨⟨_, _, _, _, 0, rfl, rfl, rfl, rfl, eff_at (eff_auto (X := ⟨_, true⟩) (out := .val _ _) hX rfl (ok_d (by have hcn := hc.n; have hm := memP hl h4; have z0 := len8 hc.n hm; have z1 := pok_of hm ((qk : Int)).toNat; have z2 := pok_of hm (((qk : Int) - 1)).toNat; have z3 := pok_of hm (((((L.getD (((qi : Int)).toNat) Pt.z).ps.length : Nat) : Int) - 1)).toNat; omega) <| okE_nil)) rfl⟩, ⟨⟨_, _, _, _, 0, rfl, rfl, rfl, rfl, eff_at (callIE [] TwoL.ok ⟨hAll _, hAll _⟩ (ints_ (L.getD (((qi : Int)).toNat) Pt.z).ao (L.getD (((qi : Int)).toNat) Pt.z).ps (L.getD (((qi : Int)).toNat) Pt.z).cp (L.getD (((qj : Int)).toNat) Pt.z).ao (L.getD (((qj : Int)).toNat) Pt.z).ps (L.getD (((qj : Int)).toNat) Pt.z).cp (by have := len8 hc.n (memP hl h4); omega)) rfl rfl rfl rfl rfl rfl rfl) rfl⟩, trivial⟩⟩⟩⟩⟩⟩⟩⟩⟩, trivial⟩ fun A => N hX 1 A rfl rfl fun A => forkD 179 A rfl
               (fun h27 A => N hX 7 A rfl rfl fun A => False.elim (by exact absurd h27 (ndP hl h4 h26)))
               (fun h27 A => N hX 7 A rfl (ok_d (by have hcn := hc.n; have hm := memP hl h4; have z0 := len8 hc.n hm; have z1 := pok_of hm ((qk : Int)).toNat; have z2 := pok_of hm (((qk : Int) - 1)).toNat; have z3 := pok_of hm (((((L.getD (((qi : Int)).toNat) Pt.z).ps.length : Nat) : Int) - 1)).toNat; omega) <| okE_nil) fun A => N hX 2 A rfl rfl fun A => ⟨qj + 1, _, (by omega), (by omega), ((A.cut [0, 2, 3, 4, 9] rfl).trunc 4 rfl rfl rfl (by simp only [List.length_cons, List.length_nil] at h0; omega))⟩))
              (fun h26 A => N hX 7 A rfl (ok_d (by have hcn := hc.n; have hm := memP hl h4; have z0 := len8 hc.n hm; have z1 := pok_of hm ((qk : Int)).toNat; have z2 := pok_of hm (((qk : Int) - 1)).toNat; have z3 := pok_of hm (((((L.getD (((qi : Int)).toNat) Pt.z).ps.length : Nat) : Int) - 1)).toNat; omega) <| okE_nil) fun A => N hX 2 A rfl rfl fun A => ⟨qi + 1, _, (by omega), (by omega), ((A.cut [0, 2, 3, 4] rfl).trunc 4 rfl rfl rfl (by simp only [List.length_cons, List.length_nil] at h0; omega))⟩)))
           (fun h20 A => N hX 11 A rfl rfl fun A => N hX 14 A rfl rfl fun A => N hX 25 A rfl rfl fun A => LOOP1 (fun (qj : Nat) => [(0, .sl 0 cs.length c), (2, .ff), (3, .sl 3 L.length cp), (4, .int .i64 (qi : Int)), (9, .int .i64 (qj : Int))]) (fun (qj : Nat) => [some (.lst 17 cs.length (fun zz => insS (cs.getD zz In.z))), none, some (.lst 17 cs.length (fun zz => insS (cs.getD zz In.z))), some (.lst 1 L.length (fun zz => Pt.c (L.getD zz Pt.z)))]) (fun (qj : Nat) => qj ≤ qi) (fun (qj : Nat) => qi - qj) 0 (Nat.zero_le _) ((A.cut [0, 2, 3, 4, 9] rfl).trunc 4 rfl rfl rfl (by simp only [List.length_cons, List.length_nil] at h0; omega)) fun qj hI3 {G a w} A => N hX 8 A rfl rfl fun A => forkD 168 A rfl
             (fun h28 A => N hX 6 A rfl rfl fun A => ANY hmo [.sl 3 L.length cp, .int .i64 (qi : Int), .el 3 1 (qi : Int) 0, .sla ((L.getD (((qi : Int)).toNat) Pt.z).ao) ((L.getD (((qi : Int)).toNat) Pt.z).ps.length) ((L.getD (((qi : Int)).toNat) Pt.z).cp), .sl 3 L.length cp, .int .i64 (qj : Int), .el 3 1 (qj : Int) 0, .sla ((L.getD (((qj : Int)).toNat) Pt.z).ao) ((L.getD (((qj : Int)).toNat) Pt.z).ps.length) ((L.getD (((qj : Int)).toNat) Pt.z).cp), .bool (decide ((L.getD (((qi : Int)).toNat) Pt.z).ps = (L.getD (((qj : Int)).toNat) Pt.z).ps))] [] [] 0 [([], [], [some (.lst 17 cs.length (fun zz => insS (cs.getD zz In.z))), none, some (.lst 17 cs.length (fun zz => insS (cs.getD zz In.z))), some (.lst 1 L.length (fun zz => Pt.c (L.getD zz Pt.z)))])] [[true, true, true, true, true, true, true, true, true]] A rfl rfl rfl rfl (by kernel_rfl) rfl (by kernel_rfl) ⟨⟨⟨_, _, _, _, 0, rfl, rfl, rfl, rfl, eff_at (eff_auto (X := ⟨_, true⟩) (out := .val _ _) hX rfl rfl) rfl⟩, ⟨⟨_, _, _, _, 0, rfl, rfl, rfl, rfl, eff_at (eff_auto (X := ⟨_, true⟩) (out := .val _ _) hX rfl rfl) rfl⟩, ⟨⟨_, _, _, _, 0, rfl, rfl, rfl, rfl, eff_at (eff_auto (X := ⟨_, true⟩) (out := .val _ _) hX rfl (ok_d (by have hcn := hc.n; have hm := memP hl h4; have z0 := len8 hc.n hm; have z1 := pok_of hm ((qk : Int)).toNat; have z2 := pok_of hm (((qk : Int) - 1)).toNat; have z3 := pok_of hm (((((L.getD (((qi : Int)).toNat) Pt.z).ps.length : Nat) : Int) - 1)).toNat; omega) <| okE_nil)) rfl⟩, ⟨⟨_, _, _, _, 0, rfl, rfl, rfl, rfl, eff_at (eff_auto (X := ⟨_, true⟩) (out := .val _ _) hX rfl (ok_d (by have hcn := hc.n; have hm := memP hl h4; have z0 := len8 hc.n hm; have z1 := pok_of hm ((qk : Int)).toNat; have z2 := pok_of hm (((qk : Int) - 1)).toNat; have z3 := pok_of hm (((((L.getD (((qi : Int)).toNat) Pt.z).ps.length : Nat) : Int) - 1)).toNat; omega) <| okE_nil)) rfl⟩, ⟨⟨_, _, _, _, 0, rfl, rfl, rfl, rfl, eff_at (eff_auto (X := ⟨_, true⟩) (out := .val _ _) hX rfl rfl) rfl⟩, ⟨⟨_, _, _, _, 0, rfl, rfl, rfl, rfl, eff_at (eff_auto (X := ⟨_, true⟩) (out := .val _ _) hX rfl rfl) rfl⟩, ⟨⟨_, _, _, _, 0, rfl, rfl, rfl, rfl, eff_at (eff_auto (X := ⟨_, true⟩) (out := .val _ _) hX rfl (ok_d (by have hcn := hc.n; have hm := memP hl h4; have z0 := len8 hc.n hm; have z1 := pok_of hm ((qk : Int)).toNat; have z2 := pok_of hm (((qk : Int) - 1)).toNat; have z3 := pok_of hm (((((L.getD (((qi : Int)).toNat) Pt.z).ps.length : Nat) : Int) - 1)).toNat; omega) <| okE_nil)) rfl⟩, ⟨⟨_, _, _, _, 0, rfl, rfl, rfl, rfl, eff_at (eff_auto (X := ⟨_, true⟩) (out := .val _ _) hX rfl (ok_d (by have hcn := hc.n; have hm := memP hl h4; have z0 := len8 hc.n hm; have z1 := pok_of hm ((qk : Int)).toNat; have z2 := pok_of hm (((qk : Int) - 1)).toNat; have z3 := pok_of hm (((((L.getD (((qi : Int)).toNat) Pt.z).ps.length : Nat) : Int) - 1)).toNat; omega) <| okE_nil)) rfl⟩, ⟨⟨_, _, _, _, 0, rfl, rfl, rfl, rfl, eff_at (callIE [] TwoL.ok ⟨hAll _, hAll _⟩ (ints_ (L.getD (((qi : Int)).toNat) Pt.z).ao (L.getD (((qi : Int)).toNat) Pt.z).ps (L.getD (((qi : Int)).toNat) Pt.z).cp (L.getD (((qj : Int)).toNat) Pt.z).ao (L.getD (((qj : Int)).toNat) Pt.z).ps (L.getD (((qj : Int)).toNat) Pt.z).cp (by have := len8 hc.n (memP hl h4); omega)) rfl rfl rfl rfl rfl rfl rfl) rfl⟩, trivial⟩⟩⟩⟩⟩⟩⟩⟩⟩, trivial⟩ fun A => N hX 1 A rfl rfl fun A => forkD 179 A rfl
              (fun h29 A => N hX 7 A rfl rfl fun A => False.elim (by exact absurd h29 (ndP hl h4 h28)))
              (fun h29 A => N hX 7 A rfl (ok_d (by have hcn := hc.n; have hm := memP hl h4; have z0 := len8 hc.n hm; have z1 := pok_of hm ((qk : Int)).toNat; have z2 := pok_of hm (((qk : Int) - 1)).toNat; have z3 := pok_of hm (((((L.getD (((qi : Int)).toNat) Pt.z).ps.length : Nat) : Int) - 1)).toNat; omega) <| okE_nil) fun A => N hX 2 A rfl rfl fun A => ⟨qj + 1, _, (by omega), (by omega), ((A.cut [0, 2, 3, 4, 9] rfl).trunc 4 rfl rfl rfl (by simp only [List.length_cons, List.length_nil] at h0; omega))⟩))
             (fun h28 A => N hX 7 A rfl (ok_d (by have hcn := hc.n; have hm := memP hl h4; have z0 := len8 hc.n hm; have z1 := pok_of hm ((qk : Int)).toNat; have z2 := pok_of hm (((qk : Int) - 1)).toNat; have z3 := pok_of hm (((((L.getD (((qi : Int)).toNat) Pt.z).ps.length : Nat) : Int) - 1)).toNat; omega) <| okE_nil) fun A => N hX 2 A rfl rfl fun A => ⟨qi + 1, _, (by omega), (by omega), ((A.cut [0, 2, 3, 4] rfl).trunc 4 rfl rfl rfl (by simp only [List.length_cons, List.length_nil] at h0; omega))⟩))))
         (fun h18 A => N hX 8 A rfl rfl fun A => forkD 126 A rfl
          (fun h30 A => N hX 6 A rfl rfl fun A => forkN 132 A rfl
           (fun h31 A => N hX 5 A rfl (ok_d (by have hcn := hc.n; have hm := memP hl h4; have z0 := len8 hc.n hm; have z1 := pok_of hm ((qk : Int)).toNat; have z2 := pok_of hm (((qk : Int) - 1)).toNat; have z3 := pok_of hm (((((L.getD (((qi : Int)).toNat) Pt.z).ps.length : Nat) : Int) - 1)).toNat; omega) <| ok_d (by have hcn := hc.n; have hm := memP hl h4; have z0 := len8 hc.n hm; have z1 := pok_of hm ((qk : Int)).toNat; have z2 := pok_of hm (((qk : Int) - 1)).toNat; have z3 := pok_of hm (((((L.getD (((qi : Int)).toNat) Pt.z).ps.length : Nat) : Int) - 1)).toNat; omega) <| okE_nil) fun A => ADOPT 137 (hAll _) A rfl rfl rfl rfl fun A => N hX 2 A rfl (ok_d (by have hcn := hc.n; have hm := memP hl h4; have z0 := len8 hc.n hm; have z1 := pok_of hm ((qk : Int)).toNat; have z2 := pok_of hm (((qk : Int) - 1)).toNat; have z3 := pok_of hm (((((L.getD (((qi : Int)).toNat) Pt.z).ps.length : Nat) : Int) - 1)).toNat; omega) <| okE_nil) fun A => N hX 7 A rfl (ok_d (by have hcn := hc.n; have hm := memP hl h4; have z0 := len8 hc.n hm; have z1 := pok_of hm ((qk : Int)).toNat; have z2 := pok_of hm (((qk : Int) - 1)).toNat; have z3 := pok_of hm (((((L.getD (((qi : Int)).toNat) Pt.z).ps.length : Nat) : Int) - 1)).toNat; omega) <| ok_d (by have hcn := hc.n; have hm := memP hl h4; have z0 := len8 hc.n hm; have z1 := pok_of hm ((qk : Int)).toNat; have z2 := pok_of hm (((qk : Int) - 1)).toNat; have z3 := pok_of hm (((((L.getD (((qi : Int)).toNat) Pt.z).ps.length : Nat) : Int) - 1)).toNat; omega) <| ok_d (by have hcn := hc.n; have hm := memP hl h4; have z0 := len8 hc.n hm; have z1 := pok_of hm ((qk : Int)).toNat; have z2 := pok_of hm (((qk : Int) - 1)).toNat; have z3 := pok_of hm (((((L.getD (((qi : Int)).toNat) Pt.z).ps.length : Nat) : Int) - 1)).toNat; omega) <| ok_d (by have hcn := hc.n; have hm := memP hl h4; have z0 := len8 hc.n hm; have z1 := pok_of hm ((qk : Int)).toNat; have z2 := pok_of hm (((qk : Int) - 1)).toNat; have z3 := pok_of hm (((((L.getD (((qi : Int)).toNat) Pt.z).ps.length : Nat) : Int) - 1)).toNat; omega) <| ok_d (by have hcn := hc.n; have hm := memP hl h4; have z0 := len8 hc.n hm; have z1 := pok_of hm ((qk : Int)).toNat; have z2 := pok_of hm (((qk : Int) - 1)).toNat; have z3 := pok_of hm (((((L.getD (((qi : Int)).toNat) Pt.z).ps.length : Nat) : Int) - 1)).toNat; omega) <| okE_nil) fun A => forkE 146 A rfl
            (fun h32 A => N hX 5 A rfl (ok_d (by have hcn := hc.n; have hm := memP hl h4; have z0 := len8 hc.n hm; have z1 := pok_of hm ((qk : Int)).toNat; have z2 := pok_of hm (((qk : Int) - 1)).toNat; have z3 := pok_of hm (((((L.getD (((qi : Int)).toNat) Pt.z).ps.length : Nat) : Int) - 1)).toNat; omega) <| ok_d (by have hcn := hc.n; have hm := memP hl h4; have z0 := len8 hc.n hm; have z1 := pok_of hm ((qk : Int)).toNat; have z2 := pok_of hm (((qk : Int) - 1)).toNat; have z3 := pok_of hm (((((L.getD (((qi : Int)).toNat) Pt.z).ps.length : Nat) : Int) - 1)).toNat; omega) <| okE_nil) fun A => ADOPT 151 (hAll _) A rfl rfl rfl rfl fun A => N hX 2 A rfl (ok_d (by have hcn := hc.n; have hm := memP hl h4; have z0 := len8 hc.n hm; have z1 := pok_of hm ((qk : Int)).toNat; have z2 := pok_of hm (((qk : Int) - 1)).toNat; have z3 := pok_of hm (((((L.getD (((qi : Int)).toNat) Pt.z).ps.length : Nat) : Int) - 1)).toNat; omega) <| okE_nil) fun A => N hX 14 A rfl (ok_d (by have hcn := hc.n; have hm := memP hl h4; have z0 := len8 hc.n hm; have z1 := pok_of hm ((qk : Int)).toNat; have z2 := pok_of hm (((qk : Int) - 1)).toNat; have z3 := pok_of hm (((((L.getD (((qi : Int)).toNat) Pt.z).ps.length : Nat) : Int) - 1)).toNat; omega) <| ok_d (by have hcn := hc.n; have hm := memP hl h4; have z0 := len8 hc.n hm; have z1 := pok_of hm ((qk : Int)).toNat; have z2 := pok_of hm (((qk : Int) - 1)).toNat; have z3 := pok_of hm (((((L.getD (((qi : Int)).toNat) Pt.z).ps.length : Nat) : Int) - 1)).toNat; omega) <| ok_d (by have hcn := hc.n; have hm := memP hl h4; have z0 := len8 hc.n hm; have z1 := pok_of hm ((qk : Int)).toNat; have z2 := pok_of hm (((qk : Int) - 1)).toNat; have z3 := pok_of hm (((((L.getD (((qi : Int)).toNat) Pt.z).ps.length : Nat) : Int) - 1)).toNat; omega) <| ok_d (by have hcn := hc.n; have hm := memP hl h4; have z0 := len8 hc.n hm; have z1 := pok_of hm ((qk : Int)).toNat; have z2 := pok_of hm (((qk : Int) - 1)).toNat; have z3 := pok_of hm (((((L.getD (((qi : Int)).toNat) Pt.z).ps.length : Nat) : Int) - 1)).toNat; omega) <| ok_d (by have hcn := hc.n; have hm := memP hl h4; have z0 := len8 hc.n hm; have z1 := pok_of hm ((qk : Int)).toNat; have z2 := pok_of hm (((qk : Int) - 1)).toNat; have z3 := pok_of hm (((((L.getD (((qi : Int)).toNat) Pt.z).ps.length : Nat) : Int) - 1)).toNat; omega) <| okE_nil) fun A => forkN 165 A rfl
             (fun h33 A => N hX 7 A rfl rfl fun A => False.elim (by have hm := memP hl h4; have hz := end_ok hm hI2 h5; omega))
             (fun h33 A => N hX 9 A rfl rfl fun A => LOOP1 (fun (qj : Nat) => [(0, .sl 0 cs.length c), (2, .ff), (3, .sl 3 L.length cp), (4, .int .i64 (qi : Int)), (9, .int .i64 (qj : Int))]) (fun (qj : Nat) => [some (.lst 17 cs.length (fun zz => insS (cs.getD zz In.z))), none, some (.lst 17 cs.length (fun zz => insS (cs.getD zz In.z))), some (.lst 1 L.length (fun zz => Pt.c (L.getD zz Pt.z))), some (.lst 1 (((L.getD (((qi : Int)).toNat) Pt.z).ps).length) (fun j => [.int .i64 (((L.getD (((qi : Int)).toNat) Pt.z).ps).getD j 0)])), some (.lst 1 (((L.getD (((qi : Int)).toNat) Pt.z).ps).length) (fun j => [.int .i64 (((L.getD (((qi : Int)).toNat) Pt.z).ps).getD j 0)]))]) (fun (qj : Nat) => qj ≤ qi) (fun (qj : Nat) => qi - qj) 0 (Nat.zero_le _) ((A.cut [0, 2, 3, 4, 9] rfl).trunc 6 rfl rfl rfl (by simp only [List.length_cons, List.length_nil] at h0; omega)) fun qj hI3 {G a w} A => N hX 8 A rfl rfl fun A => forkD 168 A rfl
               (fun h34 A => N hX 6 A rfl rfl fun A => ANY hmo [.sl 3 L.length cp, .int .i64 (qi : Int), .el 3 1 (qi : Int) 0, .sla ((L.getD (((qi : Int)).toNat) Pt.z).ao) ((L.getD (((qi : Int)).toNat) Pt.z).ps.length) ((L.getD (((qi : Int)).toNat) Pt.z).cp), .sl 3 L.length cp, .int .i64 (qj : Int), .el 3 1 (qj : Int) 0, .sla ((L.getD (((qj : Int)).toNat) Pt.z).ao) ((L.getD (((qj : Int)).toNat) Pt.z).ps.length) ((L.getD (((qj : Int)).toNat) Pt.z).cp), .bool (decide ((L.getD (((qi : Int)).toNat) Pt.z).ps = (L.getD (((qj : Int)).toNat) Pt.z).ps))] [] [] 0 [([], [], [some (.lst 17 cs.length (fun zz => insS (cs.getD zz In.z))), none, some (.lst 17 cs.length (fun zz => insS (cs.getD zz In.z))), some (.lst 1 L.length (fun zz => Pt.c (L.getD zz Pt.z))), some (.lst 1 (((L.getD (((qi : Int)).toNat) Pt.z).ps).length) (fun j => [.int .i64 (((L.getD (((qi : Int)).toNat) Pt.z).ps).getD j 0)])), some (.lst 1 (((L.getD (((qi : Int)).toNat) Pt.z).ps).length) (fun j => [.int .i64 (((L.getD (((qi : Int)).toNat) Pt.z).ps).getD j 0)]))])] [[true, true, true, true, true, true, true, true, true]] A rfl rfl rfl rfl (by kernel_rfl) rfl (by kernel_rfl) ⟨⟨⟨_, _, _, _, 0, rfl, rfl, rfl, rfl, eff_at (eff_auto (X := ⟨_, true⟩) (out := .val _ _) hX rfl rfl) rfl⟩, ⟨⟨_, _, _, _, 0, rfl, rfl, rfl, rfl, eff_at (eff_auto (X := ⟨_, true⟩) (out := .val _ _) hX rfl rfl) rfl⟩, ⟨⟨_, _, _, _, 0, rfl, rfl, rfl, rfl, eff_at (eff_auto (X := ⟨_, true⟩) (out := .val _ _) hX rfl (ok_d (by have hcn := hc.n; have hm := memP hl h4; have z0 := len8 hc.n hm; have z1 := pok_of hm ((qk : Int)).toNat; have z2 := pok_of hm (((qk : Int) - 1)).toNat; have z3 := pok_of hm (((((L.getD (((qi : Int)).toNat) Pt.z).ps.length : Nat) : Int) - 1)).toNat; omega) <| okE_nil)) rfl⟩, ⟨⟨_, _, _, _, 0, rfl, rfl, rfl, rfl, eff_at (eff_auto (X := ⟨_, true⟩) (out := .val _ _) hX rfl (ok_d (by have hcn := hc.n; have hm := memP hl h4; have z0 := len8 hc.n hm; have z1 := pok_of hm ((qk : Int)).toNat; have z2 := pok_of hm (((qk : Int) - 1)).toNat; have z3 := pok_of hm (((((L.getD (((qi : Int)).toNat) Pt.z).ps.length : Nat) : Int) - 1)).toNat; omega) <| okE_nil)) rfl⟩, ⟨⟨_, _, _, _, 0, rfl, rfl, rfl, rfl, eff_at (eff_auto (X := ⟨_, true⟩) (out := .val _ _) hX rfl rfl) rfl⟩, ⟨⟨_, _, _, _, 0, rfl, rfl, rfl, rfl, eff_at (eff_auto (X := ⟨_, true⟩) (out := .val _ _) hX rfl rfl) rfl⟩, ⟨⟨_, _, _, _, 0, rfl, rfl, rfl, rfl, eff_at (eff_auto (X := ⟨_, true⟩) (out := .val _ _) hX rfl (ok_d (by have hcn := hc.n; have hm := memP hl h4; have z0 := len8 hc.n hm; have z1 := pok_of hm ((qk : Int)).toNat; have z2 := pok_of hm (((qk : Int) - 1)).toNat; have z3 := pok_of hm (((((L.getD (((qi : Int)).toNat) Pt.z).ps.length : Nat) : Int) - 1)).toNat; omega) <| okE_nil)) rfl⟩, ⟨⟨_, _, _, _, 0, rfl, rfl, rfl, rfl, eff_at (eff_auto (X := ⟨_, true⟩) (out := .val _ _) hX rfl (ok_d (by have hcn := hc.n; have hm := memP hl h4; have z0 := len8 hc.n hm; have z1 := pok_of hm ((qk : Int)).toNat; have z2 := pok_of hm (((qk : Int) - 1)).toNat; have z3 := pok_of hm (((((L.getD (((qi : Int)).toNat) Pt.z).ps.length : Nat) : Int) - 1)).toNat; omega) <| okE_nil)) rfl⟩, ⟨⟨_, _, _, _, 0, rfl, rfl, rfl, rfl, eff_at (callIE [] TwoL.ok ⟨hAll _, hAll _⟩ (ints_ (L.getD (((qi : Int)).toNat) Pt.z).ao (L.getD (((qi : Int)).toNat) Pt.z).ps (L.getD (((qi : Int)).toNat) Pt.z).cp (L.getD (((qj : Int)).toNat) Pt.z).ao (L.getD (((qj : Int)).toNat) Pt.z).ps (L.getD (((qj : Int)).toNat) Pt.z).cp (by have := len8 hc.n (memP hl h4); omega)) rfl rfl rfl rfl rfl rfl rfl) rfl⟩, trivial⟩⟩⟩⟩⟩⟩⟩⟩⟩, trivial⟩ fun A => N hX 1 A rfl rfl fun A => forkD 179 A rfl
                (fun h35 A => N hX 7 A rfl rfl fun A => False.elim (by exact absurd h35 (ndP hl h4 h34)))
                (fun h35 A => N hX 7 A rfl (ok_d (by have hcn := hc.n; have hm := memP hl h4; have z0 := len8 hc.n hm; have z1 := pok_of hm ((qk : Int)).toNat; have z2 := pok_of hm (((qk : Int) - 1)).toNat; have z3 := pok_of hm (((((L.getD (((qi : Int)).toNat) Pt.z).ps.length : Nat) : Int) - 1)).toNat; omega) <| okE_nil) fun A => N hX 2 A rfl rfl fun A => ⟨qj + 1, _, (by omega), (by omega), ((A.cut [0, 2, 3, 4, 9] rfl).trunc 6 rfl rfl rfl (by simp only [List.length_cons, List.length_nil] at h0; omega))⟩))
               (fun h34 A => N hX 7 A rfl (ok_d (by have hcn := hc.n; have hm := memP hl h4; have z0 := len8 hc.n hm; have z1 := pok_of hm ((qk : Int)).toNat; have z2 := pok_of hm (((qk : Int) - 1)).toNat; have z3 := pok_of hm (((((L.getD (((qi : Int)).toNat) Pt.z).ps.length : Nat) : Int) - 1)).toNat; omega) <| okE_nil) fun A => N hX 2 A rfl rfl fun A => ⟨qi + 1, _, (by omega), (by omega), ((A.cut [0, 2, 3, 4] rfl).trunc 4 rfl rfl rfl (by simp only [List.length_cons, List.length_nil] at h0; omega))⟩)))
            (fun h32 A => N hX 5 A rfl rfl fun A => N hX 23 A rfl rfl fun A => False.elim (by have hm := memP hl h4; have hz := end_ok hm hI2 h5; omega)))
           (fun h31 A => N hX 5 A rfl rfl fun A => N hX 14 A rfl rfl fun A => N hX 25 A rfl rfl fun A => LOOP1 (fun (qj : Nat) => [(0, .sl 0 cs.length c), (2, .ff), (3, .sl 3 L.length cp), (4, .int .i64 (qi : Int)), (9, .int .i64 (qj : Int))]) (fun (qj : Nat) => [some (.lst 17 cs.length (fun zz => insS (cs.getD zz In.z))), none, some (.lst 17 cs.length (fun zz => insS (cs.getD zz In.z))), some (.lst 1 L.length (fun zz => Pt.c (L.getD zz Pt.z)))]) (fun (qj : Nat) => qj ≤ qi) (fun (qj : Nat) => qi - qj) 0 (Nat.zero_le _) ((A.cut [0, 2, 3, 4, 9] rfl).trunc 4 rfl rfl rfl (by simp only [List.length_cons, List.length_nil] at h0; omega)) fun qj hI3 {G a w} A => N hX 8 A rfl rfl fun A => forkD 168 A rfl
             (fun h36 A => N hX 6 A rfl rfl fun A => ANY hmo [.sl 3 L.length cp, .int .i64 (qi : Int), .el 3 1 (qi : Int) 0, .sla ((L.getD (((qi : Int)).toNat) Pt.z).ao) ((L.getD (((qi : Int)).toNat) Pt.z).ps.length) ((L.getD (((qi : Int)).toNat) Pt.z).cp), .sl 3 L.length cp, .int .i64 (qj : Int), .el 3 1 (qj : Int) 0, .sla ((L.getD (((qj : Int)).toNat) Pt.z).ao) ((L.getD (((qj : Int)).toNat) Pt.z).ps.length) ((L.getD (((qj : Int)).toNat) Pt.z).cp), .bool (decide ((L.getD (((qi : Int)).toNat) Pt.z).ps = (L.getD (((qj : Int)).toNat) Pt.z).ps))] [] [] 0 [([], [], [some (.lst 17 cs.length (fun zz => insS (cs.getD zz In.z))), none, some (.lst 17 cs.length (fun zz => insS (cs.getD zz In.z))), some (.lst 1 L.length (fun zz => Pt.c (L.getD zz Pt.z)))])] [[true, true, true, true, true, true, true, true, true]] A rfl rfl rfl rfl (by kernel_rfl) rfl (by kernel_rfl) ⟨⟨⟨_, _, _, _, 0, rfl, rfl, rfl, rfl, eff_at (eff_auto (X := ⟨_, true⟩) (out := .val _ _) hX rfl rfl) rfl⟩, ⟨⟨_, _, _, _, 0, rfl, rfl, rfl, rfl, eff_at (eff_auto (X := ⟨_, true⟩) (out := .val _ _) hX rfl rfl) rfl⟩, ⟨⟨_, _, _, _, 0, rfl, rfl, rfl, rfl, eff_at (eff_auto (X := ⟨_, true⟩) (out := .val _ _) hX rfl (ok_d (by have hcn := hc.n; have hm := memP hl h4; have z0 := len8 hc.n hm; have z1 := pok_of hm ((qk : Int)).toNat; have z2 := pok_of hm (((qk : Int) - 1)).toNat; have z3 := pok_of hm (((((L.getD (((qi : Int)).toNat) Pt.z).ps.length : Nat) : Int) - 1)).toNat; omega) <| okE_nil)) rfl⟩, ⟨⟨_, _, _, _, 0, rfl, rfl, rfl, rfl, eff_at (eff_auto (X := ⟨_, true⟩) (out := .val _ _) hX rfl (ok_d (by have hcn := hc.n; have hm := memP hl h4; have z0 := len8 hc.n hm; have z1 := pok_of hm ((qk : Int)).toNat; have z2 := pok_of hm (((qk : Int) - 1)).toNat; have z3 := pok_of hm (((((L.getD (((qi : Int)).toNat) Pt.z).ps.length : Nat) : Int) - 1)).toNat; omega) <| okE_nil)) rfl⟩, ⟨⟨_, _, _, _, 0, rfl, rfl, rfl, rfl, eff_at (eff_auto (X := ⟨_, true⟩) (out := .val _ _) hX rfl rfl) rfl⟩, ⟨⟨_, _, _, _, 0, rfl, rfl, rfl, rfl, eff_at (eff_auto (X := ⟨_, true⟩) (out := .val _ _) hX rfl rfl) rfl⟩, ⟨⟨_, _, _, _, 0, rfl, rfl, rfl, rfl, eff_at (eff_auto (X := ⟨_, true⟩) (out := .val _ _) hX rfl (ok_d (by have hcn := hc.n; have hm := memP hl h4; have z0 := len8 hc.n hm; have z1 := pok_of hm ((qk : Int)).toNat; have z2 := pok_of hm (((qk : Int) - 1)).toNat; have z3 := pok_of hm (((((L.getD (((qi : Int)).toNat) Pt.z).ps.length : Nat) : Int) - 1)).toNat; omega) <| okE_nil)) rfl⟩, ⟨⟨_, _, _, _, 0, rfl, rfl, rfl, rfl, eff_at (eff_auto (X := ⟨_, true⟩) (out := .val _ _) hX rfl (ok_d (by have hcn := hc.n; have hm := memP hl h4; have z0 := len8 hc.n hm; have z1 := pok_of hm ((qk : Int)).toNat; have z2 := pok_of hm (((qk : Int) - 1)).toNat; have z3 := pok_of hm (((((L.getD (((qi : Int)).toNat) Pt.z).ps.length : Nat) : Int) - 1)).toNat; omega) <| okE_nil)) rfl⟩, ⟨⟨_, _, _, _, 0, rfl, rfl, rfl, rfl, eff_at (callIE [] TwoL.ok ⟨hAll _, hAll _⟩ (ints_ (L.getD (((qi : Int)).toNat) Pt.z).ao (L.getD (((qi : Int)).toNat) Pt.z).ps (L.getD (((qi : Int)).toNat) Pt.z).cp (L.getD (((qj : Int)).toNat) Pt.z).ao (L.getD (((qj : Int)).toNat) Pt.z).ps (L.getD (((qj : Int)).toNat) Pt.z).cp (by have := len8 hc.n (memP hl h4); omega)) rfl rfl rfl rfl rfl rfl rfl) rfl⟩, trivial⟩⟩⟩⟩⟩⟩⟩⟩⟩, trivial⟩ fun A => N hX 1 A rfl rfl fun A => forkD 179 A rfl
              (fun h37 A => N hX 7 A rfl rfl fun A => False.elim (by exact absurd h37 (ndP hl h4 h36)))
              (fun h37 A => N hX 7 A rfl (ok_d (by have hcn := hc.n; have hm := memP hl h4; have z0 := len8 hc.n hm; have z1 := pok_of hm ((qk : Int)).toNat; have z2 := pok_of hm (((qk : Int) - 1)).toNat; have z3 := pok_of hm (((((L.getD (((qi : Int)).toNat) Pt.z).ps.length : Nat) : Int) - 1)).toNat; omega) <| okE_nil) fun A => N hX 2 A rfl rfl fun A => ⟨qj + 1, _, (by omega), (by omega), ((A.cut [0, 2, 3, 4, 9] rfl).trunc 4 rfl rfl rfl (by simp only [List.length_cons, List.length_nil] at h0; omega))⟩))
             (fun h36 A => N hX 7 A rfl (ok_d (by have hcn := hc.n; have hm := memP hl h4; have z0 := len8 hc.n hm; have z1 := pok_of hm ((qk : Int)).toNat; have z2 := pok_of hm (((qk : Int) - 1)).toNat; have z3 := pok_of hm (((((L.getD (((qi : Int)).toNat) Pt.z).ps.length : Nat) : Int) - 1)).toNat; omega) <| okE_nil) fun A => N hX 2 A rfl rfl fun A => ⟨qi + 1, _, (by omega), (by omega), ((A.cut [0, 2, 3, 4] rfl).trunc 4 rfl rfl rfl (by simp only [List.length_cons, List.length_nil] at h0; omega))⟩)))
          (fun h30 A => N hX 11 A rfl rfl fun A => N hX 14 A rfl rfl fun A => N hX 25 A rfl rfl fun A => LOOP1 (fun (qj : Nat) => [(0, .sl 0 cs.length c), (2, .ff), (3, .sl 3 L.length cp), (4, .int .i64 (qi : Int)), (9, .int .i64 (qj : Int))]) (fun (qj : Nat) => [some (.lst 17 cs.length (fun zz => insS (cs.getD zz In.z))), none, some (.lst 17 cs.length (fun zz => insS (cs.getD zz In.z))), some (.lst 1 L.length (fun zz => Pt.c (L.getD zz Pt.z)))]) (fun (qj : Nat) => qj ≤ qi) (fun (qj : Nat) => qi - qj) 0 (Nat.zero_le _) ((A.cut [0, 2, 3, 4, 9] rfl).trunc 4 rfl rfl rfl (by simp only [List.length_cons, List.length_nil] at h0; omega)) fun qj hI3 {G a w} A => N hX 8 A rfl rfl fun A => forkD 168 A rfl
            (fun h38 A => N hX 6 A rfl rfl fun A => ANY hmo [.sl 3 L.length cp, .int .i64 (qi : Int), .el 3 1 (qi : Int) 0, .sla ((L.getD (((qi : Int)).toNat) Pt.z).ao) ((L.getD (((qi : Int)).toNat) Pt.z).ps.length) ((L.getD (((qi : Int)).toNat) Pt.z).cp), .sl 3 L.length cp, .int .i64 (qj : Int), .el 3 1 (qj : Int) 0, .sla ((L.getD (((qj : Int)).toNat) Pt.z).ao) ((L.getD (((qj : Int)).toNat) Pt.z).ps.length) ((L.getD (((qj : Int)).toNat) Pt.z).cp), .bool (decide ((L.getD (((qi : Int)).toNat) Pt.z).ps = (L.getD (((qj : Int)).toNat) Pt.z).ps))] [] [] 0 [([], [], [some (.lst 17 cs.length (fun zz => insS (cs.getD zz In.z))), none, some (.lst 17 cs.length (fun zz => insS (cs.getD zz In.z))), some (.lst 1 L.length (fun zz => Pt.c (L.getD zz Pt.z)))])] [[true, true, true, true, true, true, true, true, true]] A rfl rfl rfl rfl (by kernel_rfl) rfl (by kernel_rfl) ⟨⟨⟨_, _, _, _, 0, rfl, rfl, rfl, rfl, eff_at (eff_auto (X := ⟨_, true⟩) (out := .val _ _) hX rfl rfl) rfl⟩, ⟨⟨_, _, _, _, 0, rfl, rfl, rfl, rfl, eff_at (eff_auto (X := ⟨_, true⟩) (out := .val _ _) hX rfl rfl) rfl⟩, ⟨⟨_, _, _, _, 0, rfl, rfl, rfl, rfl, eff_at (eff_auto (X := ⟨_, true⟩) (out := .val _ _) hX rfl (ok_d (by have hcn := hc.n; have hm := memP hl h4; have z0 := len8 hc.n hm; have z1 := pok_of hm ((qk : Int)).toNat; have z2 := pok_of hm (((qk : Int) - 1)).toNat; have z3 := pok_of hm (((((L.getD (((qi : Int)).toNat) Pt.z).ps.length : Nat) : Int) - 1)).toNat; omega) <| okE_nil)) rfl⟩, ⟨⟨_, _, _, _, 0, rfl, rfl, rfl, rfl, eff_at (eff_auto (X := ⟨_, true⟩) (out := .val _ _) hX rfl (ok_d (by have hcn := hc.n; have hm := memP hl h4; have z0 := len8 hc.n hm; have z1 := pok_of hm ((qk : Int)).toNat; have z2 := pok_of hm (((qk : Int) - 1)).toNat; have z3 := pok_of hm (((((L.getD (((qi : Int)).toNat) Pt.z).ps.length : Nat) : Int) - 1)).toNat; omega) <| okE_nil)) rfl⟩, ⟨⟨_, _, _, _, 0, rfl, rfl, rfl, rfl, eff_at (eff_auto (X := ⟨_, true⟩) (out := .val _ _) hX rfl rfl) rfl⟩, ⟨⟨_, _, _, _, 0, rfl, rfl, rfl, rfl, eff_at (eff_auto (X := ⟨_, true⟩) (out := .val _ _) hX rfl rfl) rfl⟩, ⟨⟨_, _, _, _, 0, rfl, rfl, rfl, rfl, eff_at (eff_auto (X := ⟨_, true⟩) (out := .val _ _) hX rfl (ok_d (by have hcn := hc.n; have hm := memP hl h4; have z0 := len8 hc.n hm; have z1 := pok_of hm ((qk : Int)).toNat; have z2 := pok_of hm (((qk : Int) - 1)).toNat; have z3 := pok_of hm (((((L.getD (((qi : Int)).toNat) Pt.z).ps.length : Nat) : Int) - 1)).toNat; omega) <| okE_nil)) rfl⟩, ⟨⟨_, _, _, _, 0, rfl, rfl, rfl, rfl, eff_at (eff_auto (X := ⟨_, true⟩) (out := .val _ _) hX rfl (ok_d (by have hcn := hc.n; have hm := memP hl h4; have z0 := len8 hc.n hm; have z1 := pok_of hm ((qk : Int)).toNat; have z2 := pok_of hm (((qk : Int) - 1)).toNat; have z3 := pok_of hm (((((L.getD (((qi : Int)).toNat) Pt.z).ps.length : Nat) : Int) - 1)).toNat; omega) <| okE_nil)) rfl⟩, ⟨⟨_, _, _, _, 0, rfl, rfl, rfl, rfl, eff_at (callIE [] TwoL.ok ⟨hAll _, hAll _⟩ (ints_ (L.getD (((qi : Int)).toNat) Pt.z).ao (L.getD (((qi : Int)).toNat) Pt.z).ps (L.getD (((qi : Int)).toNat) Pt.z).cp (L.getD (((qj : Int)).toNat) Pt.z).ao (L.getD (((qj : Int)).toNat) Pt.z).ps (L.getD (((qj : Int)).toNat) Pt.z).cp (by have := len8 hc.n (memP hl h4); omega)) rfl rfl rfl rfl rfl rfl rfl) rfl⟩, trivial⟩⟩⟩⟩⟩⟩⟩⟩⟩, trivial⟩ fun A => N hX 1 A rfl rfl fun A => forkD 179 A rfl
             (fun h39 A => N hX 7 A rfl rfl fun A => False.elim (by exact absurd h39 (ndP hl h4 h38)))
             (fun h39 A => N hX 7 A rfl (ok_d (by have hcn := hc.n; have hm := memP hl h4; have z0 := len8 hc.n hm; have z1 := pok_of hm ((qk : Int)).toNat; have z2 := pok_of hm (((qk : Int) - 1)).toNat; have z3 := pok_of hm (((((L.getD (((qi : Int)).toNat) Pt.z).ps.length : Nat) : Int) - 1)).toNat; omega) <| okE_nil) fun A => N hX 2 A rfl rfl fun A => ⟨qj + 1, _, (by omega), (by omega), ((A.cut [0, 2, 3, 4, 9] rfl).trunc 4 rfl rfl rfl (by simp only [List.length_cons, List.length_nil] at h0; omega))⟩))
            (fun h38 A => N hX 7 A rfl (ok_d (by have hcn := hc.n; have hm := memP hl h4; have z0 := len8 hc.n hm; have z1 := pok_of hm ((qk : Int)).toNat; have z2 := pok_of hm (((qk : Int) - 1)).toNat; have z3 := pok_of hm (((((L.getD (((qi : Int)).toNat) Pt.z).ps.length : Nat) : Int) - 1)).toNat; omega) <| okE_nil) fun A => N hX 2 A rfl rfl fun A => ⟨qi + 1, _, (by omega), (by omega), ((A.cut [0, 2, 3, 4] rfl).trunc 4 rfl rfl rfl (by simp only [List.length_cons, List.length_nil] at h0; omega))⟩)))))
      (fun h4 A => N hX 9 A rfl rfl fun A => RETW hX (B.trans A) rfl rfl rfl rfl rfl))))
end Go.Proofs.Ytmieaninmidelaa
/- Bits that a walk uses. -/
namespace Go.Proofs.Ytmieaninmidelaa
open Go.RowKit
set_option linter.unusedVariables false
set_option linter.unusedSimpArgs false
set_option maxRecDepth 100000
set_option maxHeartbeats 2000000
set_option simprocs false
theorem okM {a b : Bool} {o1 : Int} {c : Bool} (h : (!(((a && (decide (o1 ≥ 0))) && b) && c)) = false) : 0 ≤ o1 := by
  simp at h; exact h.1.1.2
theorem blow_ (s1 : Int) (hs : s1 = 1 ∨ s1 = 2 ∨ s1 = 4 ∨ s1 = 8) : Fn Try.prog 78 [.int .i64 s1] [] (Rt (.int .i64 (IntKind.wrap .i64 ((IntKind.wrap .i64 (1 * 2 ^ min ((IntKind.wrap .i64 (8 * s1))).toNat (IntKind.bits .i64))) - 1))) []) :=
 enterM (n := 7) (by kernel_rfl) Try.func78 rfl rfl rfl fun G w a h0 A => M hX 15 A rfl (ok_d (by first | omega | (rcases hs with rfl | rfl | rfl | rfl <;> decide)) <| okE_nil) fun A => RETN hX A rfl rfl rfl h0 rfl rfl rfl rfl rfl rfl
def bplace0 (o1 : Int) (x1 : Int) (s1 : Int) : Int := if (!((((s1 == 1) || (s1 == 2)) || (s1 == 4)) || (s1 == 8))) = true then (-1) else IntKind.wrap .i64 ((((BitVec.ofInt (IntKind.bits .i64) (IntKind.wrap .i64 ((((BitVec.ofInt (IntKind.bits .i64) (IntKind.wrap .i64 (o1 + x1))) &&& (BitVec.ofInt (IntKind.bits .i64) 7)).toNat : Nat) : Int))) &&& ~~~ (BitVec.ofInt (IntKind.bits .i64) (IntKind.wrap .i64 (s1 - 1)))).toNat : Nat) : Int)
theorem bplace_ (o1 : Int) (x1 : Int) (s1 : Int)  : Fn Try.prog 68 [.int .i64 o1, .int .i64 x1, .int .i64 s1] [] (Rt (.int .i64 (bplace0 o1 x1 s1)) []) :=
 enterM (n := 19) (by kernel_rfl) Try.func68 rfl rfl rfl fun G w a h0 A => M hX 9 A rfl rfl fun A => CALL1 [] (isSize_ s1) A rfl rfl rfl rfl rfl rfl rfl fun A => M hX 3 A rfl rfl fun A => fork 10 A rfl
  (fun h1 A => M hX 7 A rfl rfl fun A => RETN hX A rfl rfl rfl h0 rfl rfl rfl rfl (by simp only [oneS, nb, nbL, nbH, bplace0, if_pos h1]) rfl)
  (fun h1 A => M hX 22 A rfl rfl fun A => RETN hX A rfl rfl rfl h0 rfl rfl rfl rfl (by simp only [oneS, nb, nbL, nbH, bplace0, if_neg (ne_true_of_eq_false h1)]) rfl)
def bmask0 (o1 : Int) (s1 : Int) : Int := if (!(((((((s1 == 1) || (s1 == 2)) || (s1 == 4)) || (s1 == 8)) && (decide (o1 ≥ 0))) && (decide (o1 ≤ (IntKind.wrap .i64 (8 - s1))))) && ((Int.tmod o1 s1) == 0))) = true then 0 else IntKind.wrap .i64 ((IntKind.wrap .i64 ((IntKind.wrap .i64 (1 * 2 ^ min (s1).toNat (IntKind.bits .i64))) - 1)) * 2 ^ min (o1).toNat (IntKind.bits .i64))
theorem bmask_ (o1 : Int) (s1 : Int) (hs : s1 = 1 ∨ s1 = 2 ∨ s1 = 4 ∨ s1 = 8) : Fn Try.prog 69 [.int .i64 o1, .int .i64 s1] [] (Rt (.int .i64 (bmask0 o1 s1)) []) :=
 enterM (n := 14) (by kernel_rfl) Try.func69 rfl rfl rfl fun G w a h0 A => M hX 10 A rfl rfl fun A => CALL1 [] (bfits_ o1 s1) A rfl rfl rfl rfl rfl rfl rfl fun A => M hX 3 A rfl rfl fun A => fork 8 A rfl
  (fun h1 A => M hX 7 A rfl rfl fun A => RETN hX A rfl rfl rfl h0 rfl rfl rfl rfl (by simp only [oneS, nb, nbL, nbH, bmask0, if_pos h1]) rfl)
  (fun h1 A => M hX 14 A rfl (ok_d (by have := okM h1; omega) <| ok_d (by have := okM h1; omega) <| okE_nil) fun A => RETN hX A rfl rfl rfl h0 rfl rfl rfl rfl (by simp only [oneS, nb, nbL, nbH, bmask0, if_neg (ne_true_of_eq_false h1)]) rfl)
def bget0 (v1 : Int) (s1 : Int) : Int := if (!(((((((s1 == 1) || (s1 == 2)) || (s1 == 4)) || (s1 == 8)) && (decide ((0 : Int) ≥ 0))) && (decide (0 ≤ (IntKind.wrap .i64 (8 - s1))))) && ((Int.tmod 0 s1) == 0))) = true then 0 else IntKind.wrap .i64 ((((BitVec.ofInt (IntKind.bits .i64) (Int.fdiv v1 (2 ^ min ((IntKind.wrap .i64 (8 * 0))).toNat (IntKind.bits .i64)))) &&& (BitVec.ofInt (IntKind.bits .i64) (IntKind.wrap .i64 ((IntKind.wrap .i64 (1 * 2 ^ min ((IntKind.wrap .i64 (8 * s1))).toNat (IntKind.bits .i64))) - 1)))).toNat : Nat) : Int)
theorem bget_ (v1 : Int) (s1 : Int) (hs : s1 = 1 ∨ s1 = 2 ∨ s1 = 4 ∨ s1 = 8) : Fn Try.prog 70 [.int .i64 v1, .int .i64 0, .int .i64 s1] [] (Rt (.int .i64 (bget0 v1 s1)) []) :=
 enterM (n := 18) (by kernel_rfl) Try.func70 rfl rfl rfl fun G w a h0 A => M hX 10 A rfl rfl fun A => CALL1 [] (bfits_ 0 s1) A rfl rfl rfl rfl rfl rfl rfl fun A => M hX 3 A rfl rfl fun A => fork 10 A rfl
  (fun h1 A => M hX 7 A rfl rfl fun A => RETN hX A rfl rfl rfl h0 rfl rfl rfl rfl (by simp only [oneS, nb, nbL, nbH, bget0, if_pos h1]) rfl)
  (fun h1 A => M hX 4 A rfl rfl fun A => DRAW hX hmo [(5, .int .i64 (IntKind.wrap .i64 ((IntKind.wrap .i64 (1 * 2 ^ min ((IntKind.wrap .i64 (8 * s1))).toNat (IntKind.bits .i64))) - 1)))] [] A rfl (ok_d (by first | decide | omega) <| okE_nil) rfl rfl (by kernel_rfl) (effAll_nil _ _) ⟨.inl ⟨_, _, rfl, rfl, blow_ s1 hs⟩, trivial⟩ fun A => M hX 2 A rfl rfl fun A => RETN hX A rfl rfl rfl h0 rfl rfl rfl rfl (by simp only [oneS, nb, nbL, nbH, bget0, if_neg (ne_true_of_eq_false h1)]) rfl)
def brmw0 (fn : Int) (v1 : Int) (a1 : Int) (s1 : Int) : Int := if fn = 6 then bget0 a1 s1 else if fn = 1 then bget0 (IntKind.wrap .i64 (v1 + a1)) s1 else 0
theorem brmw_ (fn : Int) (v1 : Int) (a1 : Int) (s1 : Int) (hs : s1 = 1 ∨ s1 = 2 ∨ s1 = 4 ∨ s1 = 8) : Fn Try.prog 79 [.int .i64 fn, .int .i64 v1, .int .i64 a1, .int .i64 s1] [] (Rt (.int .i64 (brmw0 fn v1 a1 s1)) []) :=
 enterM (n := 22) (by kernel_rfl) Try.func79 rfl rfl rfl fun G w a h0 A => M hX 18 A rfl rfl fun A => forkE 10 A rfl
  (fun h1 A => M hX 5 A rfl rfl fun A => CALL1 [] (bget_ a1 s1 hs) A rfl rfl rfl rfl rfl rfl rfl fun A => M hX 4 A rfl rfl fun A => RETN hX A rfl rfl rfl h0 rfl rfl rfl rfl (by simp only [oneS, nb, nbL, nbH, brmw0, if_pos h1]) rfl)
  (fun h1 A => M hX 7 A rfl rfl fun A => forkE 15 A rfl
   (fun h2 A => M hX 7 A rfl rfl fun A => CALL1 [] (bget_ (IntKind.wrap .i64 (v1 + a1)) s1 hs) A rfl rfl rfl rfl rfl rfl rfl fun A => M hX 4 A rfl rfl fun A => RETN hX A rfl rfl rfl h0 rfl rfl rfl rfl (by simp only [oneS, nb, nbL, nbH, brmw0, if_neg (h1), if_pos h2]) rfl)
   (fun h2 A => M hX 10 A rfl rfl fun A => RETN hX A rfl rfl rfl h0 rfl rfl rfl rfl (by simp only [oneS, nb, nbL, nbH, brmw0, if_neg (h1), if_neg (h2)]) rfl))
end Go.Proofs.Ytmieaninmidelaa
/- Arrays of eight pairs (a number, a truth) in one block: read and written at a place that is not known. -/
namespace Go.Proofs.Ytmieaninmidelaa
open Go.RowKit
set_option linter.unusedVariables false
set_option linter.unusedSimpArgs false
set_option linter.unusedSectionVars false
abbrev Fl := Nat → Int × Bool
def updF (f : Fl) (k : Nat) (x : Int × Bool) : Fl := fun j => if j = k then x else f j
abbrev fileS (f : Fl) : List SV := [.int .i64 (f 0).1, .bool (f 0).2, .int .i64 (f 1).1, .bool (f 1).2, .int .i64 (f 2).1, .bool (f 2).2, .int .i64 (f 3).1, .bool (f 3).2, .int .i64 (f 4).1, .bool (f 4).2, .int .i64 (f 5).1, .bool (f 5).2, .int .i64 (f 6).1, .bool (f 6).2, .int .i64 (f 7).1, .bool (f 7).2]
theorem lt8 {j : Int} (h : 0 ≤ j ∧ j < 8) : j = 0 ∨ j = 1 ∨ j = 2 ∨ j = 3 ∨ j = 4 ∨ j = 5 ∨ j = 6 ∨ j = 7 := by omega
section
variable {P : Program} {Y : Tb} {n : Nat} {ks : List Nat} {G0 : Gr} {w0 : World} {T : List (Nat × SV)} {H : Hp} {ops : Array Oper} {o : Oper} {rest : List Oper} {Q : Exit → Act → World → Prop} {K : List Fr}
theorem stxE {x y : Operand} {ty i : Nat} {j v : Int} {b : Bool} {f : Fl} {ti : TI} {yv : SV} (hX : Y.ok P = true) (hop : o.op = .store ty x y) (hg : guardS ops T o.guard = some .run) (hx : evS T x = some (.ix (.ptr i 0) 2 8 j 0)) (hy : evS T y = some yv) (hyv : ∀ G, den G yv = den G (.agg [.int .i64 v, .bool b])) (hH : lg H i = some (some (.blk (fileS f)))) (hti : Y.get ty = some ti) (hrow : ti.row = some 2) (hj : 0 ≤ j ∧ j < 8) :
    EffOK P n ops ks G0 w0 T H o (.tup []) (stH H i (some (.blk (fileS (updF f j.toNat (v, b)))))) := fun G a w A => by
  have hw := gd_run (gd := none) A hg
  obtain ⟨d, op, ty', pos, af, gd⟩ := o
  simp only at hop
  subst hop
  have hvx := A.ev hx
  have hvy := A.ev hy
  rw [hyv] at hvy
  have key : ∀ k : Nat, j = (k : Int) → (∀ r : List SV, sp (2 * k) (fileS f) [.int .i64 v, .bool b] = some r → r = fileS (updF f j.toNat (v, b)) → Does P ops { dst := d, op := .store ty x y, type := ty', pos := pos, after := af, guard := gd } a w fun v' w' => ∃ F, den (G ++ F) (.tup []) = some v' ∧ Ms (stH H i (some (.blk (fileS (updF f j.toNat (v, b)))))) ks G0 w0 (G ++ F) w') := by
    intro k hk r hr e
    rw [hk, ix_ptr (q := 2 * k) k (by omega)] at hvx
    have hs : storeS ⟨Y, true⟩ H ty (.ptr i (2 * k)) (.agg [.int .i64 v, .bool b]) = some (i, r, []) := by
      have ht : Tx.get ⟨Y, true⟩ ty = some ti := hti
      simp only [storeS, hH, ht, hrow, hr]
      rfl
    refine storeS_do (X := ⟨Y, true⟩) hX A hs okE_nil hvx hvy rfl rfl hw fun cs L vs' w' a1 a2 a3 a4 a5 => ⟨[], rfl, ?_⟩
    subst e
    simpa using (A.turn a1 a2 a3 a4 a5).ms
  rcases lt8 hj with rfl | rfl | rfl | rfl | rfl | rfl | rfl | rfl
  · exact key 0 rfl _ rfl rfl
  · exact key 1 rfl _ rfl rfl
  · exact key 2 rfl _ rfl rfl
  · exact key 3 rfl _ rfl rfl
  · exact key 4 rfl _ rfl rfl
  · exact key 5 rfl _ rfl rfl
  · exact key 6 rfl _ rfl rfl
  · exact key 7 rfl _ rfl rfl
theorem ldxE {x : Operand} {ty i : Nat} {j : Int} {f : Fl} {ti : TI} (hX : Y.ok P = true) (hop : o.op = .load ty x) (hg : guardS ops T o.guard = some .run) (hx : evS T x = some (.ix (.ptr i 0) 2 8 j 0)) (hH : lg H i = some (some (.blk (fileS f)))) (hti : Y.get ty = some ti) (hrow : ti.row = some 2) (hj : 0 ≤ j ∧ j < 8) :
    EffOK P n ops ks G0 w0 T H o (.agg [.int .i64 (f j.toNat).1, .bool (f j.toNat).2]) H := fun G a w A => by
  have hw := gd_run (gd := none) A hg
  obtain ⟨d, op, ty', pos, af, gd⟩ := o
  simp only at hop
  subst hop
  have hvx := A.ev hx
  have key : ∀ k : Nat, j = (k : Int) → (tk 2 (dp (2 * k) (fileS f)) = some [.int .i64 (f j.toNat).1, .bool (f j.toNat).2]) → Does P ops { dst := d, op := .load ty x, type := ty', pos := pos, after := af, guard := gd } a w fun v' w' => ∃ F, den (G ++ F) (.agg [.int .i64 (f j.toNat).1, .bool (f j.toNat).2]) = some v' ∧ Ms H ks G0 w0 (G ++ F) w' := by
    intro k hk hr
    rw [hk, ix_ptr (q := 2 * k) k (by omega)] at hvx
    have hs : loadS ⟨Y, true⟩ H ty (.ptr i (2 * k)) = some (.agg [.int .i64 (f j.toNat).1, .bool (f j.toNat).2], []) := by
      have ht : Tx.get ⟨Y, true⟩ ty = some ti := hti
      simp only [loadS, baseS, hH, selL, cellS, ht, hrow, hr]
    obtain ⟨z, hz, h3⟩ := loadS_do (X := ⟨Y, true⟩) (P := P) (ops := ops) (d := d) (ty := ty') (pos := pos) (af := af) (gd := gd) (x := x) hX A hs hvx
    exact h3 (fun p hp => by cases hp) rfl hw _ ⟨[], by simpa using hz, by simpa using A.ms⟩
  rcases lt8 hj with rfl | rfl | rfl | rfl | rfl | rfl | rfl | rfl
  · exact key 0 rfl rfl
  · exact key 1 rfl rfl
  · exact key 2 rfl rfl
  · exact key 3 rfl rfl
  · exact key 4 rfl rfl
  · exact key 5 rfl rfl
  · exact key 6 rfl rfl
  · exact key 7 rfl rfl
end
end Go.Proofs.Ytmieaninmidelaa
/- Eight numbers inside a block of twelve cells: read and written at a place that is not known. -/
namespace Go.Proofs.Ytmieaninmidelaa
open Go.RowKit
set_option linter.unusedVariables false
set_option linter.unusedSimpArgs false
set_option linter.unusedSectionVars false
abbrev Rg := Nat → Int
def updR (r : Rg) (k : Nat) (x : Int) : Rg := fun j => if j = k then x else r j
abbrev wkS (at_ : Int) (r : Rg) (x y z : SV) : List SV := [.int .i64 at_, .int .i64 (r 0), .int .i64 (r 1), .int .i64 (r 2), .int .i64 (r 3), .int .i64 (r 4), .int .i64 (r 5), .int .i64 (r 6), .int .i64 (r 7), x, y, z]
section
variable {P : Program} {Y : Tb} {n : Nat} {ks : List Nat} {G0 : Gr} {w0 : World} {T : List (Nat × SV)} {H : Hp} {ops : Array Oper} {o : Oper} {rest : List Oper} {Q : Exit → Act → World → Prop} {K : List Fr}
theorem stwE {x y : Operand} {ty i : Nat} {j v at_ : Int} {r : Rg} {s1 s2 s3 : SV} {ti : TI} (hX : Y.ok P = true) (hop : o.op = .store ty x y) (hg : guardS ops T o.guard = some .run) (hx : evS T x = some (.ix (.ptr i 1) 1 8 j 0)) (hy : evS T y = some (.int .i64 v)) (hH : lg H i = some (some (.blk (wkS at_ r s1 s2 s3)))) (hti : Y.get ty = some ti) (hrow : ti.row = none) (hone : ti.one = true) (hj : 0 ≤ j ∧ j < 8) :
    EffOK P n ops ks G0 w0 T H o (.tup []) (stH H i (some (.blk (wkS at_ (updR r j.toNat v) s1 s2 s3)))) := fun G a w A => by
  have hw := gd_run (gd := none) A hg
  obtain ⟨d, op, ty', pos, af, gd⟩ := o
  simp only at hop
  subst hop
  have hvx := A.ev hx
  have hvy := A.ev hy
  have key : ∀ k : Nat, j = (k : Int) → (∀ q : List SV, sp (1 + k) (wkS at_ r s1 s2 s3) [.int .i64 v] = some q → q = wkS at_ (updR r j.toNat v) s1 s2 s3 → Does P ops { dst := d, op := .store ty x y, type := ty', pos := pos, after := af, guard := gd } a w fun v' w' => ∃ F, den (G ++ F) (.tup []) = some v' ∧ Ms (stH H i (some (.blk (wkS at_ (updR r j.toNat v) s1 s2 s3)))) ks G0 w0 (G ++ F) w') := by
    intro k hk q hr e
    rw [hk, ix_ptr (q := 1 + k) k (by omega)] at hvx
    have hs : storeS ⟨Y, true⟩ H ty (.ptr i (1 + k)) (.int .i64 v) = some (i, q, []) := by
      have ht : Tx.get ⟨Y, true⟩ ty = some ti := hti
      simp only [storeS, hH, ht, hrow, hone, hr]
      rfl
    refine storeS_do (X := ⟨Y, true⟩) hX A hs okE_nil hvx hvy rfl rfl hw fun cs L vs' w' a1 a2 a3 a4 a5 => ⟨[], rfl, ?_⟩
    subst e
    simpa using (A.turn a1 a2 a3 a4 a5).ms
  rcases lt8 hj with rfl | rfl | rfl | rfl | rfl | rfl | rfl | rfl
  · exact key 0 rfl _ rfl rfl
  · exact key 1 rfl _ rfl rfl
  · exact key 2 rfl _ rfl rfl
  · exact key 3 rfl _ rfl rfl
  · exact key 4 rfl _ rfl rfl
  · exact key 5 rfl _ rfl rfl
  · exact key 6 rfl _ rfl rfl
  · exact key 7 rfl _ rfl rfl
theorem ldwE {x : Operand} {ty i : Nat} {j at_ : Int} {r : Rg} {s1 s2 s3 : SV} {ti : TI} (hX : Y.ok P = true) (hop : o.op = .load ty x) (hg : guardS ops T o.guard = some .run) (hx : evS T x = some (.ix (.ptr i 1) 1 8 j 0)) (hH : lg H i = some (some (.blk (wkS at_ r s1 s2 s3)))) (hti : Y.get ty = some ti) (hrow : ti.row = none) (hone : ti.one = true) (hj : 0 ≤ j ∧ j < 8) :
    EffOK P n ops ks G0 w0 T H o (.int .i64 (r j.toNat)) H := fun G a w A => by
  have hw := gd_run (gd := none) A hg
  obtain ⟨d, op, ty', pos, af, gd⟩ := o
  simp only at hop
  subst hop
  have hvx := A.ev hx
  have key : ∀ k : Nat, j = (k : Int) → (lg (wkS at_ r s1 s2 s3) (1 + k) = some (.int .i64 (r j.toNat))) → Does P ops { dst := d, op := .load ty x, type := ty', pos := pos, after := af, guard := gd } a w fun v' w' => ∃ F, den (G ++ F) (.int .i64 (r j.toNat)) = some v' ∧ Ms H ks G0 w0 (G ++ F) w' := by
    intro k hk hr
    rw [hk, ix_ptr (q := 1 + k) k (by omega)] at hvx
    have hs : loadS ⟨Y, true⟩ H ty (.ptr i (1 + k)) = some (.int .i64 (r j.toNat), []) := by
      have ht : Tx.get ⟨Y, true⟩ ty = some ti := hti
      simp only [loadS, baseS, hH, selL, cellS, ht, hrow, hone, hr, cond_true]
    obtain ⟨z, hz, h3⟩ := loadS_do (X := ⟨Y, true⟩) (P := P) (ops := ops) (d := d) (ty := ty') (pos := pos) (af := af) (gd := gd) (x := x) hX A hs hvx
    exact h3 (fun p hp => by cases hp) rfl hw _ ⟨[], by simpa using hz, by simpa using A.ms⟩
  rcases lt8 hj with rfl | rfl | rfl | rfl | rfl | rfl | rfl | rfl
  · exact key 0 rfl rfl
  · exact key 1 rfl rfl
  · exact key 2 rfl rfl
  · exact key 3 rfl rfl
  · exact key 4 rfl rfl
  · exact key 5 rfl rfl
  · exact key 6 rfl rfl
  · exact key 7 rfl rfl
end
end Go.Proofs.Ytmieaninmidelaa
/- uir's walk: regOr, event, written. -/
namespace Go.Proofs.Ytmieaninmidelaa
open Go.RowKit
set_option linter.unusedVariables false
set_option linter.unusedSimpArgs false
set_option maxRecDepth 100000
set_option maxHeartbeats 2000000
set_option simprocs false
structure Ev where
  pos : Int
  at_ : Int
  op : Int
  loc : Int
  mask : Int
  rd : Bool
  wr : Bool
  old : Int
  new : Int
  acq : Bool
  weak : Bool
  rel : Bool
  pred : Int
  succ : Int
def Ev.z : Ev := ⟨0, 0, 0, 0, 0, false, false, 0, 0, false, false, false, 0, 0⟩
abbrev evtS (e : Ev) : List SV := [.int .i64 0, .int .i64 e.pos, .int .i64 e.at_, .int .i64 e.op, .int .i64 e.loc, .int .i64 e.mask, .bool e.rd, .bool e.wr, .int .i64 e.old, .int .i64 e.new, .bool e.acq, .bool e.weak, .bool e.rel, .int .i64 e.pred, .int .i64 e.succ]
def rgO (r : Rg) (g o1 : Int) : Int := if g = -1 then o1 else r g.toNat
theorem regOr_ (at_ : Int) (r : Rg) (ra : Option Addr) (rn : Nat) (rc : Nat) (es : List Ev) (ps : List Int) (g : Int) (o1 : Int) (hg : -1 ≤ g ∧ g < 8) : Fn Try.prog 60 [.ptr 0 0, .int .i64 g, .int .i64 o1] [some (.blk [.int .i64 at_, .int .i64 (r 0), .int .i64 (r 1), .int .i64 (r 2), .int .i64 (r 3), .int .i64 (r 4), .int .i64 (r 5), .int .i64 (r 6), .int .i64 (r 7), .sla ra rn rc, .sl 1 es.length 0, .sl 2 ps.length 0]), some (.row 45 15 es.length 0 (fun j => evtS (es.getD j Ev.z))), some (.row 3 1 ps.length 0 (fun j => [.int .i64 (ps.getD j 0)]))] (Rt (.int .i64 (rgO r g o1)) [some (.blk [.int .i64 at_, .int .i64 (r 0), .int .i64 (r 1), .int .i64 (r 2), .int .i64 (r 3), .int .i64 (r 4), .int .i64 (r 5), .int .i64 (r 6), .int .i64 (r 7), .sla ra rn rc, .sl 1 es.length 0, .sl 2 ps.length 0]), some (.row 45 15 es.length 0 (fun j => evtS (es.getD j Ev.z))), some (.row 3 1 ps.length 0 (fun j => [.int .i64 (ps.getD j 0)]))]) :=
 enterM (n := 16) (by kernel_rfl) Try.func60 rfl rfl rfl fun G w a h0 A => N hX 12 A rfl rfl fun A => forkE 8 A rfl
  (fun h1 A => N hX 8 A rfl rfl fun A => RETN hX A rfl rfl rfl h0 rfl rfl rfl rfl (by unfold rgO; rw [if_pos h1] <;> rfl) rfl)
  (fun h1 A => N hX 10 A rfl (ok_d (by omega) <| okE_nil) fun A => q_eff A rfl (ldwE (r := r) hX rfl rfl rfl rfl rfl rfl rfl (by omega)) fun A => N hX 4 A rfl rfl fun A => RETN hX A rfl rfl rfl h0 rfl rfl rfl rfl (by unfold rgO; rw [if_neg h1] <;> rfl) rfl)
theorem event_ (at_ : Int) (r : Rg) (ra : Option Addr) (rn : Nat) (rc : Nat) (es : List Ev) (ps : List Int) (i : In)  : Fn Try.prog 62 [.ptr 0 0, .agg [.int .i64 i.op, .int .i64 i.dst, .int .i64 i.ra, .int .i64 i.rb, .int .i64 i.imm, .int .i64 i.loc, .int .i64 i.off, .int .i64 i.ix, .int .i64 i.sz, .int .i64 i.fn, .bool i.acq, .bool i.weak, .bool i.rel, .int .i64 i.pred, .int .i64 i.succ, .int .i64 i.to_, .bool i.zero]] [some (.blk [.int .i64 at_, .int .i64 (r 0), .int .i64 (r 1), .int .i64 (r 2), .int .i64 (r 3), .int .i64 (r 4), .int .i64 (r 5), .int .i64 (r 6), .int .i64 (r 7), .sla ra rn rc, .sl 1 es.length 0, .sl 2 ps.length 0]), some (.row 45 15 es.length 0 (fun j => evtS (es.getD j Ev.z))), some (.row 3 1 ps.length 0 (fun j => [.int .i64 (ps.getD j 0)]))] (Rt (.agg [.int .i64 0, .int .i64 ((ps.length : Nat) : Int), .int .i64 at_, .int .i64 i.op, .int .i64 0, .int .i64 0, .bool ((i.op == 4) || (i.op == 6)), .bool ((i.op == 5) || (i.op == 6)), .int .i64 0, .int .i64 0, .bool i.acq, .bool i.weak, .bool i.rel, .int .i64 i.pred, .int .i64 i.succ]) [some (.blk [.int .i64 at_, .int .i64 (r 0), .int .i64 (r 1), .int .i64 (r 2), .int .i64 (r 3), .int .i64 (r 4), .int .i64 (r 5), .int .i64 (r 6), .int .i64 (r 7), .sla ra rn rc, .sl 1 es.length 0, .sl 2 ps.length 0]), some (.row 45 15 es.length 0 (fun j => evtS (es.getD j Ev.z))), some (.row 3 1 ps.length 0 (fun j => [.int .i64 (ps.getD j 0)]))]) :=
 enterM (n := 31) (by kernel_rfl) Try.func62 rfl rfl rfl fun G w a h0 A => N hX 7 A rfl rfl fun A => DRAWN hX hmo [(12, .bool ((i.op == 4) || (i.op == 6))), (14, .bool ((i.op == 5) || (i.op == 6)))] [] A rfl rfl rfl rfl (by kernel_rfl) (effAll_nil _ _) ⟨.inl ⟨_, _, rfl, rfl, Reads_ i ⟩, ⟨.inl ⟨_, _, rfl, rfl, Writes_ i ⟩, trivial⟩⟩ fun A => N hX 2 A rfl rfl fun A => RETN hX A rfl rfl rfl h0 rfl rfl rfl rfl rfl rfl
def wrF (r : Rg) (i : In) (old : Int) : Int := if i.op = 6 then brmw0 i.fn old (r i.ra.toNat) i.sz else bget0 (rgO r i.ra i.imm) i.sz
theorem written_ (at_ : Int) (r : Rg) (ra : Option Addr) (rn : Nat) (rc : Nat) (es : List Ev) (ps : List Int) (i : In) (old : Int) (hs : i.sz = 1 ∨ i.sz = 2 ∨ i.sz = 4 ∨ i.sz = 8) (ha : -1 ≤ i.ra ∧ i.ra < 8) (hw : i.op = 6 → 0 ≤ i.ra ∧ i.ra < 8) : Fn Try.prog 71 [.ptr 0 0, .agg [.int .i64 i.op, .int .i64 i.dst, .int .i64 i.ra, .int .i64 i.rb, .int .i64 i.imm, .int .i64 i.loc, .int .i64 i.off, .int .i64 i.ix, .int .i64 i.sz, .int .i64 i.fn, .bool i.acq, .bool i.weak, .bool i.rel, .int .i64 i.pred, .int .i64 i.succ, .int .i64 i.to_, .bool i.zero], .int .i64 old] [some (.blk [.int .i64 at_, .int .i64 (r 0), .int .i64 (r 1), .int .i64 (r 2), .int .i64 (r 3), .int .i64 (r 4), .int .i64 (r 5), .int .i64 (r 6), .int .i64 (r 7), .sla ra rn rc, .sl 1 es.length 0, .sl 2 ps.length 0]), some (.row 45 15 es.length 0 (fun j => evtS (es.getD j Ev.z))), some (.row 3 1 ps.length 0 (fun j => [.int .i64 (ps.getD j 0)]))] (Rt (.int .i64 (wrF r i old)) [some (.blk [.int .i64 at_, .int .i64 (r 0), .int .i64 (r 1), .int .i64 (r 2), .int .i64 (r 3), .int .i64 (r 4), .int .i64 (r 5), .int .i64 (r 6), .int .i64 (r 7), .sla ra rn rc, .sl 1 es.length 0, .sl 2 ps.length 0]), some (.row 45 15 es.length 0 (fun j => evtS (es.getD j Ev.z))), some (.row 3 1 ps.length 0 (fun j => [.int .i64 (ps.getD j 0)]))]) :=
 enterM (n := 32) (by kernel_rfl) Try.func71 rfl rfl rfl fun G w a h0 A => N hX 14 A rfl rfl fun A => forkE 9 A rfl
  (fun h1 A => N hX 2 A rfl rfl fun A => ANY hmo [.ptr 3 9, .int .i64 i.fn, .int .i64 old, .ptr 0 0, .ptr 3 2, .int .i64 i.ra, .ptr 0 0, .ptr 0 1, .ix (.ptr 0 1) 1 8 i.ra 0, .int .i64 (r (i.ra).toNat), .ptr 3 8, .int .i64 i.sz, .int .i64 (brmw0 i.fn old (r (i.ra).toNat) i.sz), .int .i64 (brmw0 i.fn old (r (i.ra).toNat) i.sz)] [] [] 0 [([], [], [some (.blk [.int .i64 at_, .int .i64 (r 0), .int .i64 (r 1), .int .i64 (r 2), .int .i64 (r 3), .int .i64 (r 4), .int .i64 (r 5), .int .i64 (r 6), .int .i64 (r 7), .sla ra rn rc, .sl 1 es.length 0, .sl 2 ps.length 0]), some (.row 45 15 es.length 0 (fun j => evtS (es.getD j Ev.z))), some (.row 3 1 ps.length 0 (fun j => [.int .i64 (ps.getD j 0)])), some (.blk [.int .i64 i.op, .int .i64 i.dst, .int .i64 i.ra, .int .i64 i.rb, .int .i64 i.imm, .int .i64 i.loc, .int .i64 i.off, .int .i64 i.ix, .int .i64 i.sz, .int .i64 i.fn, .bool i.acq, .bool i.weak, .bool i.rel, .int .i64 i.pred, .int .i64 i.succ, .int .i64 i.to_, .bool i.zero])])] [[true, true, true, true, true, true, true, true, true, true, true, true, true, true]] A rfl rfl rfl rfl (by kernel_rfl) rfl (by kernel_rfl) ⟨⟨⟨_, _, _, _, 0, rfl, rfl, rfl, rfl, eff_at (eff_auto (X := ⟨_, true⟩) (out := .val _ _) hX rfl rfl) rfl⟩, ⟨⟨_, _, _, _, 0, rfl, rfl, rfl, rfl, eff_at (eff_auto (X := ⟨_, true⟩) (out := .val _ _) hX rfl rfl) rfl⟩, ⟨⟨_, _, _, _, 0, rfl, rfl, rfl, rfl, eff_at (eff_auto (X := ⟨_, true⟩) (out := .val _ _) hX rfl rfl) rfl⟩, ⟨⟨_, _, _, _, 0, rfl, rfl, rfl, rfl, eff_at (eff_auto (X := ⟨_, true⟩) (out := .val _ _) hX rfl rfl) rfl⟩, ⟨⟨_, _, _, _, 0, rfl, rfl, rfl, rfl, eff_at (eff_auto (X := ⟨_, true⟩) (out := .val _ _) hX rfl rfl) rfl⟩, ⟨⟨_, _, _, _, 0, rfl, rfl, rfl, rfl, eff_at (eff_auto (X := ⟨_, true⟩) (out := .val _ _) hX rfl rfl) rfl⟩, ⟨⟨_, _, _, _, 0, rfl, rfl, rfl, rfl, eff_at (eff_auto (X := ⟨_, true⟩) (out := .val _ _) hX rfl rfl) rfl⟩, ⟨⟨_, _, _, _, 0, rfl, rfl, rfl, rfl, eff_at (eff_auto (X := ⟨_, true⟩) (out := .val _ _) hX rfl rfl) rfl⟩, ⟨⟨_, _, _, _, 0, rfl, rfl, rfl, rfl, eff_at (eff_auto (X := ⟨_, true⟩) (out := .val _ _) hX rfl (ok_d (by omega) <| okE_nil)) rfl⟩, ⟨⟨_, _, _, _, 0, rfl, rfl, rfl, rfl, eff_at (ldwE (r := r) hX rfl rfl rfl rfl rfl rfl rfl (hw h1)) rfl⟩, ⟨⟨_, _, _, _, 0, rfl, rfl, rfl, rfl, eff_at (eff_auto (X := ⟨_, true⟩) (out := .val _ _) hX rfl rfl) rfl⟩, ⟨⟨_, _, _, _, 0, rfl, rfl, rfl, rfl, eff_at (eff_auto (X := ⟨_, true⟩) (out := .val _ _) hX rfl rfl) rfl⟩, ⟨⟨_, _, _, _, 0, rfl, rfl, rfl, rfl, eff_at (eff_pure rfl rfl (brmw_ i.fn old (r (i.ra).toNat) i.sz hs)) rfl⟩, ⟨⟨_, _, _, _, 0, rfl, rfl, rfl, rfl, eff_at (eff_auto (X := ⟨_, true⟩) (out := .val _ _) hX rfl rfl) rfl⟩, trivial⟩⟩⟩⟩⟩⟩⟩⟩⟩⟩⟩⟩⟩⟩, trivial⟩ fun A => N hX 2 A rfl rfl fun A => RETN hX A rfl rfl rfl h0 rfl rfl rfl rfl (by unfold wrF; rw [if_pos h1] <;> rfl) rfl)
  (fun h1 A => N hX 4 A rfl rfl fun A => DRAWN hX hmo [(8, .int .i64 (bget0 (rgO r i.ra i.imm) i.sz))] [(5, .int .i64 (rgO r i.ra i.imm), [some (.blk [.int .i64 at_, .int .i64 (r 0), .int .i64 (r 1), .int .i64 (r 2), .int .i64 (r 3), .int .i64 (r 4), .int .i64 (r 5), .int .i64 (r 6), .int .i64 (r 7), .sla ra rn rc, .sl 1 es.length 0, .sl 2 ps.length 0]), some (.row 45 15 es.length 0 (fun j => evtS (es.getD j Ev.z))), some (.row 3 1 ps.length 0 (fun j => [.int .i64 (ps.getD j 0)])), some (.blk [.int .i64 i.op, .int .i64 i.dst, .int .i64 i.ra, .int .i64 i.rb, .int .i64 i.imm, .int .i64 i.loc, .int .i64 i.off, .int .i64 i.ix, .int .i64 i.sz, .int .i64 i.fn, .bool i.acq, .bool i.weak, .bool i.rel, .int .i64 i.pred, .int .i64 i.succ, .int .i64 i.to_, .bool i.zero])])] A rfl rfl rfl rfl (by kernel_rfl) ⟨callE [0, 1, 2] (regOr_ at_ r ra rn rc es ps i.ra i.imm ha) rfl rfl rfl rfl rfl rfl rfl, trivial⟩ ⟨.inl ⟨_, _, rfl, rfl, bget_ (rgO r i.ra i.imm) i.sz hs⟩, trivial⟩ fun A => N hX 2 A rfl rfl fun A => RETN hX A rfl rfl rfl h0 rfl rfl rfl rfl (by unfold wrF; rw [if_neg h1] <;> rfl) rfl)
end Go.Proofs.Ytmieaninmidelaa
/- Rows at addresses: an element's address, what lies there, what is written there. -/
namespace Go.Proofs.Ytmieaninmidelaa
open Go.RowKit
set_option linter.unusedVariables false
set_option linter.unusedSimpArgs false
set_option linter.unusedSectionVars false
section
variable {P : Program} {n : Nat} {ks : List Nat} {G0 : Gr} {w0 : World} {T : List (Nat × SV)} {H : Hp} {G : Gr} {a : Act} {w w' : World} {ops : Array Oper} {o : Oper} {rest : List Oper} {Q : Exit → Act → World → Prop} {K : List Fr}
/-- an element's address -/
theorem IXW {x y : Operand} {t e b nn cp : Nat} {i : Int} {ao : Option Addr} (j : Nat) (A : Sy n T H ks G0 w0 G a w) (hg : guardS ops T o.guard = some .run) (hd : fitsD n o.dst = true) (hop : o.op = .indexAddr t x y) (hx : evS T x = some (.sla ao nn cp)) (hy : evS T y = some (.int .i64 i)) (hao : ao = some ⟨b, 0, none⟩) (hi : i = (j : Int)) (ht : sliceB P t e 1 = true) (hj : j < nn)
    (k : ∀ {a}, Sy n (extS T o.dst (.v (.pointer (some ⟨b, j, none⟩)))) H ks G0 w0 G a w → Goal P Q K (.ops ops rest) a w) : Goal P Q K (.ops ops (o :: rest)) a w := by
  subst hi; subst hao
  have hw := gd_run (gd := none) A hg
  obtain ⟨d, op, ty, pos, af, gd⟩ := o
  simp only at hop
  subst hop
  have hvx := A.ev hx
  have hvy := A.ev hy
  unfold den at hvx hvy
  simp only [Option.some.injEq] at hvx hvy
  exact q_does (Q := wpK P Q K) (d_indexAt (n := nn) (b := b) (o := j) hw hvx.symm hvy.symm ht ⟨0, cp, rfl, by simp⟩ hj (k (Sy.put A hd (by rfl))))
/-- what lies there -/
theorem LDW {x : Operand} {t e b nn cp j : Nat} {xs : List Value} {u : Value} (sv : SV) (A : Sy n T H ks G0 w0 G a w) (hg : guardS ops T o.guard = some .run) (hd : fitsD n o.dst = true) (hop : o.op = .load t x) (hx : evS T x = some (.v (.pointer (some ⟨b, j, none⟩)))) (h1 : oneB P t = true) (hr : Ro e w (some ⟨b, 0, none⟩) nn cp xs) (hj : xs[j]? = some u) (hu : den [] sv = some u)
    (k : ∀ {a}, Sy n (extS T o.dst sv) H ks G0 w0 G a w → Goal P Q K (.ops ops rest) a w) : Goal P Q K (.ops ops (o :: rest)) a w := by
  have hw := gd_run (gd := none) A hg
  obtain ⟨d, op, ty, pos, af, gd⟩ := o
  simp only at hop
  subst hop
  have hvx := A.ev hx
  unfold den at hvx
  simp only [Option.some.injEq] at hvx
  have hc := hr.cell j u hj
  rw [Addr.add_mid, Nat.zero_add] at hc
  exact q_does (Q := wpK P Q K) (d_load hw hvx.symm h1 hc (k (Sy.put A hd (by simpa using den_mono G sv hu))))
theorem upd_mix {b : Nat} (h : Upd b w w') : Mix [b] w w' := ⟨h.os, h.tape, h.output, Nat.le_of_eq h.size.symm, fun k hk hc => h.block k (fun e => by subst e; simp at hc)⟩
/-- what is written there -/
theorem STW {x y : Operand} {t e b nn cp j : Nat} {ao : Option Addr} {xs : List Value} {u : Value} {sy : SV} (A : Sy n T H ks G0 w0 G a w) (hg : guardS ops T o.guard = some .run) (hd : o.dst = none) (hop : o.op = .store t x y) (hx : evS T x = some (.v (.pointer (some ⟨b, j, none⟩)))) (hy : evS T y = some sy) (hsy : den [] sy = some u) (h1 : oneB P t = true) (hu1 : u.oneCell' = true) (hao : ao = some ⟨b, 0, none⟩) (hr : Ro e w ao nn cp xs) (hj : j < nn) (hoff : Off H G (bl ao)) (hk : ∀ b, (bl ao).contains b = true → ks.contains b = true ∨ w0.heap.size ≤ b)
    (k : ∀ {a w'}, Ro e w' ao nn cp (xs.set j u) → Mix (bl ao) w w' → Sy n T H ks G0 w0 G a w' → Goal P Q K (.ops ops rest) a w') : Goal P Q K (.ops ops (o :: rest)) a w := by
  have hw := gd_run (gd := none) A hg
  obtain ⟨d, op, ty, pos, af, gd⟩ := o
  simp only at hop hd
  subst hop; subst hd; subst hao
  have hvx := A.ev hx
  have hvy := A.ev hy
  rw [show den G sy = some u by simpa using den_mono G sy hsy] at hvy
  unfold den at hvx
  simp only [Option.some.injEq] at hvx hvy
  obtain ⟨q0, q⟩ := hr
  rcases q with ⟨q1, _⟩ | ⟨g, cap, cur, q1, q2, q3, q4, q5, q6, q7⟩
  · cases q1
  · cases q1
    refine q_does (Q := wpK P Q K) (d_store (cs := cur) hw hvx.symm hvy.symm h1 hu1 q3 (by omega) fun w' hU hB => ?_)
    refine k ⟨by simpa using q0, .inr ⟨b, cp, _, rfl, q2, hB, q4, q5, by simpa using q6, ?_⟩⟩ (upd_mix hU) (A.mixed (upd_mix hU) hoff hk)
    rw [Nat.mul_one] at q7 ⊢
    rw [← q7]
    simp [List.take_set]
end
end Go.Proofs.Ytmieaninmidelaa
/- Numbers that lie from a place of a block on: the first one, the others. -/
namespace Go.Proofs.Ytmieaninmidelaa
open Go.RowKit
set_option linter.unusedVariables false
set_option linter.unusedSimpArgs false
set_option linter.unusedSectionVars false
def RdAt (ao : Option Addr) (l : List Int) (w : World) (ks : List Nat) : Prop :=
  l = [] ∨ ∃ b o, ao = some ⟨b, o, none⟩ ∧ b < w.heap.size ∧ ks.contains b = false ∧ w.rangeAt b o (l.map (Value.int .i64))
theorem RdAt.go {ao : Option Addr} {l : List Int} {w w' : World} {ks ks' : List Nat} (h : RdAt ao l w ks) (m : Mix ks w w') (hk : ∀ b, ks'.contains b = true → ks.contains b = true ∨ w.heap.size ≤ b) : RdAt ao l w' ks' := by
  rcases h with h | ⟨b, o, h1, h2, h3, h4⟩
  · exact .inl h
  · refine .inr ⟨b, o, h1, Nat.lt_of_lt_of_le h2 m.size, ?_, range_mix h4 m h2 h3⟩
    cases hc : ks'.contains b with
    | false => rfl
    | true =>
      rcases hk b hc with h | h
      · rw [h] at h3; cases h3
      · omega
/-- the address of what stands behind the first one -/
def tlA (ao : Option Addr) (c : Nat) : Option Addr := ao.map fun a => if c = 1 then a else ⟨a.block, a.off + 1, none⟩
theorem RdAt.tl {ao : Option Addr} {x : Int} {l : List Int} {w : World} {ks : List Nat} {c : Nat} (h : RdAt ao (x :: l) w ks) (hc : (x :: l).length ≤ c) : RdAt (tlA ao c) l w ks := by
  rcases h with h | ⟨b, o, h1, h2, h3, h4⟩
  · cases h
  · cases l with
    | nil => exact .inl rfl
    | cons y l =>
      right
      subst h1
      refine ⟨b, o + 1, by simp at hc; simp [tlA]; omega, h2, h3, fun j u hu => ?_⟩
      have := h4 (j + 1) u (by simpa using hu)
      rw [show o + 1 + j = o + (j + 1) by omega]
      exact this
theorem RdAt.at {ao : Option Addr} {x : Int} {l : List Int} {w : World} {ks : List Nat} (h : RdAt ao (x :: l) w ks) : ∃ b o, ao = some ⟨b, o, none⟩ := by
  rcases h with h | ⟨b, o, h1, _⟩
  · cases h
  · exact ⟨b, o, h1⟩
section
variable {P : Program} {Y : Tb} {n : Nat} {ks : List Nat} {G0 : Gr} {w0 : World} {T : List (Nat × SV)} {H : Hp} {ops : Array Oper} {o : Oper} {rest : List Oper} {Q : Exit → Act → World → Prop} {K : List Fr}
theorem ix0E {x y : Operand} {t e nn cp : Nat} {ao : Option Addr} (hop : o.op = .indexAddr t x y) (hg : guardS ops T o.guard = some .run) (hx : evS T x = some (.sla ao nn cp)) (hy : evS T y = some (.int .i64 0)) (hao : ∃ b q, ao = some ⟨b, q, none⟩) (ht : sliceB P t e 1 = true) (hn : 0 < nn) :
    EffOK P n ops ks G0 w0 T H o (.v (.pointer ao)) H := fun G a w A => by
  obtain ⟨b, q, rfl⟩ := hao
  have hw := gd_run (gd := none) A hg
  obtain ⟨d, op, ty, pos, af, gd⟩ := o
  simp only at hop
  subst hop
  have hvx := A.ev hx
  have hvy := A.ev hy
  unfold den at hvx hvy
  simp only [Option.some.injEq] at hvx hvy
  exact d_indexAt (n := nn) (b := b) (o := q) (j := 0) hw hvx.symm hvy.symm ht ⟨q, cp, rfl, by simp⟩ hn ⟨[], rfl, by simpa using A.ms⟩
theorem ld0E {x : Operand} {t : Nat} {ao : Option Addr} {z : Int} {l : List Int} (hop : o.op = .load t x) (hg : guardS ops T o.guard = some .run) (hx : evS T x = some (.v (.pointer ao))) (h1 : oneB P t = true) (hr : RdAt ao (z :: l) w0 ks) :
    EffOK P n ops ks G0 w0 T H o (.int .i64 z) H := fun G a w A => by
  have hw := gd_run (gd := none) A hg
  obtain ⟨d, op, ty, pos, af, gd⟩ := o
  simp only at hop
  subst hop
  have hvx := A.ev hx
  unfold den at hvx
  simp only [Option.some.injEq] at hvx
  rcases hr.go A.mix (ks' := ks) (fun b hb => .inl hb) with h | ⟨b, q, rfl, h2, h3, h4⟩
  · cases h
  · have hc := h4 0 (.int .i64 z) rfl
    exact d_load hw hvx.symm h1 hc ⟨[], rfl, by simpa using A.ms⟩
theorem tlE {x y : Operand} {t e nn cp : Nat} {ao : Option Addr} (hop : o.op = .slice t x (some y) none none) (hg : guardS ops T o.guard = some .run) (hx : evS T x = some (.sla ao nn cp)) (hy : evS T y = some (.int .i64 1)) (hao : ∃ b q, ao = some ⟨b, q, none⟩) (ht : sliceB P t e 1 = true) (hn : 1 ≤ nn) (hc : nn ≤ cp) :
    EffOK P n ops ks G0 w0 T H o (.sla (tlA ao cp) (nn - 1) (cp - 1)) H := fun G a w A => by
  obtain ⟨b, q, rfl⟩ := hao
  have hw := gd_run (gd := none) A hg
  obtain ⟨d, op, ty, pos, af, gd⟩ := o
  simp only at hop
  subst hop
  have hvx := A.ev hx
  have hvy := A.ev hy
  unfold den at hvx hvy
  simp only [Option.some.injEq] at hvx hvy
  obtain ⟨f1, f2⟩ := slice_facts ht
  refine does_val (v := .slice (tlA (some ⟨b, q, none⟩) cp) (nn - 1) (cp - 1)) (w' := w) hw ?_ ⟨[], rfl, by simpa using A.ms⟩
  have hsb : (Instr.sliceBounds true nn cp (some (.int .i64 1)) none none).run P w = .ok (1, nn, cp) w := by
    simp [Instr.sliceBounds, run_sliceBound (P := P) w .i64 1 nn _ (by omega) (by omega)]
  unfold execOp
  simp only [← hvx, ← hvy, Option.map_some, Option.map_none, Instr.sliceAt, Instr.slice, Sem.run_bind, run_underlying f1, hsb, Result.andThen_ok, run_size f2, Sem.run_pure]
  by_cases hc : cp = 1 <;> simp [hc, tlA, Addr.add_mid]
end
end Go.Proofs.Ytmieaninmidelaa
/- uir's walk: access. -/
namespace Go.Proofs.Ytmieaninmidelaa
open Go.RowKit
set_option linter.unusedVariables false
set_option linter.unusedSimpArgs false
set_option maxRecDepth 100000
set_option maxHeartbeats 2000000
set_option simprocs false
def RdA (ra : Option Addr) (lr : List Int) : Amb := fun w ks => RdAt ra lr w ks
theorem RdA.ok {ra : Option Addr} {lr : List Int} : Amb.OK (RdA ra lr) := fun w ks w' ks' h m hk => RdAt.go h m hk
theorem rdH {ra : Option Addr} {lr : List Int} {w : World} {ks : List Nat} (h : RdA ra lr w ks) (hn : lr.length ≠ 0) : RdAt ra (lr.headD 0 :: lr.tail) w ks := by
  cases lr with
  | nil => exact absurd rfl hn
  | cons x l => exact h
theorem getD_lE {l : List Ev} {e : Ev} {k : Nat} (h : k < l.length) : (l ++ [e]).getD k Ev.z = l.getD k Ev.z := by
  rw [List.getD_eq_getElem?_getD, List.getD_eq_getElem?_getD, List.getElem?_append_left h]
theorem getD_1E {l : List Ev} {e : Ev} : (l ++ [e]).getD l.length Ev.z = e := by
  rw [List.getD_eq_getElem?_getD, List.getElem?_append_right (Nat.le_refl _)]; simp
abbrev rdB (i : In) : Bool := (i.op == 4) || (i.op == 6)
abbrev wrB (i : In) : Bool := (i.op == 5) || (i.op == 6)
def acOld (i : In) (lr : List Int) : Int := if ((i.op == 4) || (i.op == 6)) = true then bget0 (lr.headD 0) i.sz else 0
def acNew (r : Rg) (i : In) (lr : List Int) : Int := if ((i.op == 5) || (i.op == 6)) = true then wrF r i (acOld i lr) else 0
def acR (r : Rg) (i : In) (lr : List Int) : Rg := if ((i.op == 4) || (i.op == 6)) = true then updR r i.dst.toNat (acOld i lr) else r
def acA (ra : Option Addr) (rc : Nat) (i : In) : Option Addr := if ((i.op == 4) || (i.op == 6)) = true then tlA ra rc else ra
def acN (n : Nat) (i : In) : Nat := if ((i.op == 4) || (i.op == 6)) = true then n - 1 else n
def acE (at_ : Int) (r : Rg) (pn : Int) (i : In) (lr : List Int) : Ev := ⟨pn, at_, i.op, i.loc, bmask0 (bplace0 i.off (rgO r i.ix 0) i.sz) i.sz, (i.op == 4) || (i.op == 6), (i.op == 5) || (i.op == 6), acOld i lr, acNew r i lr, i.acq, i.weak, i.rel, i.pred, i.succ⟩
theorem access_ (at_ : Int) (r : Rg) (ra : Option Addr) (lr : List Int) (rc : Nat) (es : List Ev) (ps : List Int) (i : In) (hs : i.sz = 1 ∨ i.sz = 2 ∨ i.sz = 4 ∨ i.sz = 8) (hx : -1 ≤ i.ix ∧ i.ix < 8) (ha : ((i.op == 5) || (i.op == 6)) = true → -1 ≤ i.ra ∧ i.ra < 8) (hw : i.op = 6 → 0 ≤ i.ra ∧ i.ra < 8) (hd : ((i.op == 4) || (i.op == 6)) = true → 0 ≤ i.dst ∧ i.dst < 8) (hrd : ((i.op == 4) || (i.op == 6)) = true → lr.length ≠ 0) (hlc : lr.length ≤ rc) (hln : lr.length ≤ 1000000) (hes : es.length ≤ 1000000) : FnI (RdA ra lr) Try.prog 61 [.ptr 0 0, .agg [.int .i64 i.op, .int .i64 i.dst, .int .i64 i.ra, .int .i64 i.rb, .int .i64 i.imm, .int .i64 i.loc, .int .i64 i.off, .int .i64 i.ix, .int .i64 i.sz, .int .i64 i.fn, .bool i.acq, .bool i.weak, .bool i.rel, .int .i64 i.pred, .int .i64 i.succ, .int .i64 i.to_, .bool i.zero]] [some (.blk [.int .i64 at_, .int .i64 (r 0), .int .i64 (r 1), .int .i64 (r 2), .int .i64 (r 3), .int .i64 (r 4), .int .i64 (r 5), .int .i64 (r 6), .int .i64 (r 7), .sla ra lr.length rc, .sl 1 es.length 0, .sl 2 ps.length 0]), some (.row 45 15 es.length 0 (fun j => evtS (es.getD j Ev.z))), some (.row 3 1 ps.length 0 (fun j => [.int .i64 (ps.getD j 0)]))] (Rt (.tt) [some (.blk [.int .i64 at_, .int .i64 ((acR r i lr) 0), .int .i64 ((acR r i lr) 1), .int .i64 ((acR r i lr) 2), .int .i64 ((acR r i lr) 3), .int .i64 ((acR r i lr) 4), .int .i64 ((acR r i lr) 5), .int .i64 ((acR r i lr) 6), .int .i64 ((acR r i lr) 7), .sla (acA ra rc i) (acN lr.length i) (acN rc i), .sl 3 (es.length + 1) 0, .sl 2 ps.length 0]), none, some (.row 3 1 ps.length 0 (fun j => [.int .i64 (ps.getD j 0)])), some (.row 45 15 (es.length + 1) 0 (fun j => evtS ((es ++ [acE at_ r ((ps.length : Nat) : Int) i lr]).getD j Ev.z)))]) :=
 enterI (n := 81) (by kernel_rfl) Try.func61 rfl rfl rfl fun G w a h0 hI A => N hX 10 A rfl rfl fun A => CALL1 [0, 1, 2] (event_ at_ r ra lr.length rc es ps i) A rfl rfl rfl rfl rfl rfl rfl fun A => N hX 5 A rfl rfl fun A => DRAWN hX hmo [(8, .int .i64 (bplace0 i.off (rgO r i.ix 0) i.sz))] [(5, .int .i64 (rgO r i.ix 0), [some (.blk [.int .i64 at_, .int .i64 (r 0), .int .i64 (r 1), .int .i64 (r 2), .int .i64 (r 3), .int .i64 (r 4), .int .i64 (r 5), .int .i64 (r 6), .int .i64 (r 7), .sla ra lr.length rc, .sl 1 es.length 0, .sl 2 ps.length 0]), some (.row 45 15 es.length 0 (fun j => evtS (es.getD j Ev.z))), some (.row 3 1 ps.length 0 (fun j => [.int .i64 (ps.getD j 0)])), some (.blk [.int .i64 i.op, .int .i64 i.dst, .int .i64 i.ra, .int .i64 i.rb, .int .i64 i.imm, .int .i64 i.loc, .int .i64 i.off, .int .i64 i.ix, .int .i64 i.sz, .int .i64 i.fn, .bool i.acq, .bool i.weak, .bool i.rel, .int .i64 i.pred, .int .i64 i.succ, .int .i64 i.to_, .bool i.zero]), some (.blk [.int .i64 0, .int .i64 ((ps.length : Nat) : Int), .int .i64 at_, .int .i64 i.op, .int .i64 0, .int .i64 0, .bool ((i.op == 4) || (i.op == 6)), .bool ((i.op == 5) || (i.op == 6)), .int .i64 0, .int .i64 0, .bool i.acq, .bool i.weak, .bool i.rel, .int .i64 i.pred, .int .i64 i.succ])])] A rfl rfl rfl rfl (by kernel_rfl) ⟨callE [0, 1, 2] (regOr_ at_ r ra lr.length rc es ps i.ix 0 (by omega)) rfl rfl rfl rfl rfl rfl rfl, trivial⟩ ⟨.inl ⟨_, _, rfl, rfl, bplace_ i.off (rgO r i.ix 0) i.sz⟩, trivial⟩ fun A => N hX 2 A rfl rfl fun A => DRAWN hX hmo [(5, .int .i64 (bmask0 (bplace0 i.off (rgO r i.ix 0) i.sz) i.sz))] [] A rfl rfl rfl rfl (by kernel_rfl) (effAll_nil _ _) ⟨.inl ⟨_, _, rfl, rfl, bmask_ (bplace0 i.off (rgO r i.ix 0) i.sz) i.sz hs⟩, trivial⟩ fun A => N hX 8 A rfl rfl fun A => fork 28 A rfl
  (fun h1 A => N hX 12 A rfl rfl fun A => forkE 34 A rfl
   (fun h2 A => N hX 7 A rfl rfl fun A => absurd (by omega) (hrd h1))
   (fun h2 A => N hX 4 A rfl rfl fun A => ANY hmo [.ptr 0 0, .ptr 0 0, .ptr 0 9, .sla ra lr.length rc, .v (.pointer ra), .int .i64 (lr.headD 0), .ptr 3 8, .int .i64 i.sz, .int .i64 (bget0 (lr.headD 0) i.sz), .ptr 4 8, .tup []] [10] [] 0 [([], [], [some (.blk [.int .i64 at_, .int .i64 (r 0), .int .i64 (r 1), .int .i64 (r 2), .int .i64 (r 3), .int .i64 (r 4), .int .i64 (r 5), .int .i64 (r 6), .int .i64 (r 7), .sla ra lr.length rc, .sl 1 es.length 0, .sl 2 ps.length 0]), some (.row 45 15 es.length 0 (fun j => evtS (es.getD j Ev.z))), some (.row 3 1 ps.length 0 (fun j => [.int .i64 (ps.getD j 0)])), some (.blk [.int .i64 i.op, .int .i64 i.dst, .int .i64 i.ra, .int .i64 i.rb, .int .i64 i.imm, .int .i64 i.loc, .int .i64 i.off, .int .i64 i.ix, .int .i64 i.sz, .int .i64 i.fn, .bool i.acq, .bool i.weak, .bool i.rel, .int .i64 i.pred, .int .i64 i.succ, .int .i64 i.to_, .bool i.zero]), some (.blk [.int .i64 0, .int .i64 ((ps.length : Nat) : Int), .int .i64 at_, .int .i64 i.op, .int .i64 i.loc, .int .i64 (bmask0 (bplace0 i.off (rgO r i.ix 0) i.sz) i.sz), .bool ((i.op == 4) || (i.op == 6)), .bool ((i.op == 5) || (i.op == 6)), .int .i64 0, .int .i64 0, .bool i.acq, .bool i.weak, .bool i.rel, .int .i64 i.pred, .int .i64 i.succ])]), ([10], [], [some (.blk [.int .i64 at_, .int .i64 (r 0), .int .i64 (r 1), .int .i64 (r 2), .int .i64 (r 3), .int .i64 (r 4), .int .i64 (r 5), .int .i64 (r 6), .int .i64 (r 7), .sla ra lr.length rc, .sl 1 es.length 0, .sl 2 ps.length 0]), some (.row 45 15 es.length 0 (fun j => evtS (es.getD j Ev.z))), some (.row 3 1 ps.length 0 (fun j => [.int .i64 (ps.getD j 0)])), some (.blk [.int .i64 i.op, .int .i64 i.dst, .int .i64 i.ra, .int .i64 i.rb, .int .i64 i.imm, .int .i64 i.loc, .int .i64 i.off, .int .i64 i.ix, .int .i64 i.sz, .int .i64 i.fn, .bool i.acq, .bool i.weak, .bool i.rel, .int .i64 i.pred, .int .i64 i.succ, .int .i64 i.to_, .bool i.zero]), some (.blk [.int .i64 0, .int .i64 ((ps.length : Nat) : Int), .int .i64 at_, .int .i64 i.op, .int .i64 i.loc, .int .i64 (bmask0 (bplace0 i.off (rgO r i.ix 0) i.sz) i.sz), .bool ((i.op == 4) || (i.op == 6)), .bool ((i.op == 5) || (i.op == 6)), .int .i64 (bget0 (lr.headD 0) i.sz), .int .i64 0, .bool i.acq, .bool i.weak, .bool i.rel, .int .i64 i.pred, .int .i64 i.succ])])] [[true, true, true, true, true, true, true, true, true, true, true], [false, false, false, false, false, false, false, false, false, false, false]] A rfl rfl rfl rfl (by kernel_rfl) rfl (by kernel_rfl) ⟨⟨⟨_, _, _, _, 0, rfl, rfl, rfl, rfl, eff_at (eff_auto (X := ⟨_, true⟩) (out := .val _ _) hX rfl rfl) rfl⟩, ⟨⟨_, _, _, _, 0, rfl, rfl, rfl, rfl, eff_at (eff_auto (X := ⟨_, true⟩) (out := .val _ _) hX rfl rfl) rfl⟩, ⟨⟨_, _, _, _, 0, rfl, rfl, rfl, rfl, eff_at (eff_auto (X := ⟨_, true⟩) (out := .val _ _) hX rfl rfl) rfl⟩, ⟨⟨_, _, _, _, 0, rfl, rfl, rfl, rfl, eff_at (eff_auto (X := ⟨_, true⟩) (out := .val _ _) hX rfl rfl) rfl⟩, ⟨⟨_, _, _, _, 0, rfl, rfl, rfl, rfl, eff_at (ix0E (e := 3) rfl rfl rfl rfl (rdH hI (by omega)).at (by kernel_rfl) (by omega)) rfl⟩, ⟨⟨_, _, _, _, 0, rfl, rfl, rfl, rfl, eff_at (ld0E rfl rfl rfl (by kernel_rfl) (rdH hI (by omega))) rfl⟩, ⟨⟨_, _, _, _, 0, rfl, rfl, rfl, rfl, eff_at (eff_auto (X := ⟨_, true⟩) (out := .val _ _) hX rfl rfl) rfl⟩, ⟨⟨_, _, _, _, 0, rfl, rfl, rfl, rfl, eff_at (eff_auto (X := ⟨_, true⟩) (out := .val _ _) hX rfl rfl) rfl⟩, ⟨⟨_, _, _, _, 0, rfl, rfl, rfl, rfl, eff_at (eff_pure rfl rfl (bget_ (lr.headD 0) i.sz hs)) rfl⟩, ⟨⟨_, _, _, _, 0, rfl, rfl, rfl, rfl, eff_at (eff_auto (X := ⟨_, true⟩) (out := .val _ _) hX rfl rfl) rfl⟩, ⟨⟨_, _, _, _, 1, rfl, rfl, rfl, rfl, eff_at (eff_auto (X := ⟨_, true⟩) (out := .upd 4 [.int .i64 0, .int .i64 ((ps.length : Nat) : Int), .int .i64 at_, .int .i64 i.op, .int .i64 i.loc, .int .i64 (bmask0 (bplace0 i.off (rgO r i.ix 0) i.sz) i.sz), .bool ((i.op == 4) || (i.op == 6)), .bool ((i.op == 5) || (i.op == 6)), .int .i64 (bget0 (lr.headD 0) i.sz), .int .i64 0, .bool i.acq, .bool i.weak, .bool i.rel, .int .i64 i.pred, .int .i64 i.succ] _) hX rfl rfl) rfl⟩, trivial⟩⟩⟩⟩⟩⟩⟩⟩⟩⟩⟩, ⟨trivial, trivial⟩⟩ fun A => N hX 7 A rfl rfl fun A => q_eff A rfl (tlE (e := 3) rfl rfl rfl rfl (rdH hI (by omega)).at (by kernel_rfl) (by omega) hlc) fun A => N hX 12 A rfl rfl fun A => fork 54 A rfl
    (fun h3 A => N hX 6 A rfl rfl fun A => CALL1 [0, 1, 2] (written_ at_ r (tlA ra rc) (lr.length - 1) (rc - 1) es ps i (bget0 (lr.headD 0) i.sz) hs (ha h3) hw) A rfl rfl rfl rfl rfl rfl rfl fun A => N hX 11 A rfl rfl fun A => fork 62 A rfl
     (fun h4 A => N hX 1 A rfl rfl fun A => DRAWN hX hmo [] [(8, .tup [], [some (.blk [.int .i64 at_, .int .i64 ((updR r (i.dst).toNat (bget0 (lr.headD 0) i.sz)) 0), .int .i64 ((updR r (i.dst).toNat (bget0 (lr.headD 0) i.sz)) 1), .int .i64 ((updR r (i.dst).toNat (bget0 (lr.headD 0) i.sz)) 2), .int .i64 ((updR r (i.dst).toNat (bget0 (lr.headD 0) i.sz)) 3), .int .i64 ((updR r (i.dst).toNat (bget0 (lr.headD 0) i.sz)) 4), .int .i64 ((updR r (i.dst).toNat (bget0 (lr.headD 0) i.sz)) 5), .int .i64 ((updR r (i.dst).toNat (bget0 (lr.headD 0) i.sz)) 6), .int .i64 ((updR r (i.dst).toNat (bget0 (lr.headD 0) i.sz)) 7), .sla (tlA ra rc) (lr.length - 1) (rc - 1), .sl 1 es.length 0, .sl 2 ps.length 0]), some (.row 45 15 es.length 0 (fun j => evtS (es.getD j Ev.z))), some (.row 3 1 ps.length 0 (fun j => [.int .i64 (ps.getD j 0)])), some (.blk [.int .i64 i.op, .int .i64 i.dst, .int .i64 i.ra, .int .i64 i.rb, .int .i64 i.imm, .int .i64 i.loc, .int .i64 i.off, .int .i64 i.ix, .int .i64 i.sz, .int .i64 i.fn, .bool i.acq, .bool i.weak, .bool i.rel, .int .i64 i.pred, .int .i64 i.succ, .int .i64 i.to_, .bool i.zero]), some (.blk [.int .i64 0, .int .i64 ((ps.length : Nat) : Int), .int .i64 at_, .int .i64 i.op, .int .i64 i.loc, .int .i64 (bmask0 (bplace0 i.off (rgO r i.ix 0) i.sz) i.sz), .bool ((i.op == 4) || (i.op == 6)), .bool ((i.op == 5) || (i.op == 6)), .int .i64 (bget0 (lr.headD 0) i.sz), .int .i64 (wrF r i (bget0 (lr.headD 0) i.sz)), .bool i.acq, .bool i.weak, .bool i.rel, .int .i64 i.pred, .int .i64 i.succ])])] A rfl (ok_d (by have := hd h1; omega) <| okE_nil) rfl rfl (by kernel_rfl) ⟨stwE (i := 0) (r := r) hX rfl rfl rfl rfl rfl rfl rfl rfl (hd h1), trivial⟩ trivial fun A => N hX 2 A rfl rfl fun A => DRAWN hX hmo [] [(7, .sl 6 (es.length + 1) 0, [some (.blk [.int .i64 at_, .int .i64 ((updR r (i.dst).toNat (bget0 (lr.headD 0) i.sz)) 0), .int .i64 ((updR r (i.dst).toNat (bget0 (lr.headD 0) i.sz)) 1), .int .i64 ((updR r (i.dst).toNat (bget0 (lr.headD 0) i.sz)) 2), .int .i64 ((updR r (i.dst).toNat (bget0 (lr.headD 0) i.sz)) 3), .int .i64 ((updR r (i.dst).toNat (bget0 (lr.headD 0) i.sz)) 4), .int .i64 ((updR r (i.dst).toNat (bget0 (lr.headD 0) i.sz)) 5), .int .i64 ((updR r (i.dst).toNat (bget0 (lr.headD 0) i.sz)) 6), .int .i64 ((updR r (i.dst).toNat (bget0 (lr.headD 0) i.sz)) 7), .sla (tlA ra rc) (lr.length - 1) (rc - 1), .sl 1 es.length 0, .sl 2 ps.length 0]), none, some (.row 3 1 ps.length 0 (fun j => [.int .i64 (ps.getD j 0)])), some (.blk [.int .i64 i.op, .int .i64 i.dst, .int .i64 i.ra, .int .i64 i.rb, .int .i64 i.imm, .int .i64 i.loc, .int .i64 i.off, .int .i64 i.ix, .int .i64 i.sz, .int .i64 i.fn, .bool i.acq, .bool i.weak, .bool i.rel, .int .i64 i.pred, .int .i64 i.succ, .int .i64 i.to_, .bool i.zero]), some (.blk [.int .i64 0, .int .i64 ((ps.length : Nat) : Int), .int .i64 at_, .int .i64 i.op, .int .i64 i.loc, .int .i64 (bmask0 (bplace0 i.off (rgO r i.ix 0) i.sz) i.sz), .bool ((i.op == 4) || (i.op == 6)), .bool ((i.op == 5) || (i.op == 6)), .int .i64 (bget0 (lr.headD 0) i.sz), .int .i64 (wrF r i (bget0 (lr.headD 0) i.sz)), .bool i.acq, .bool i.weak, .bool i.rel, .int .i64 i.pred, .int .i64 i.succ]), some (.blk [.int .i64 0, .int .i64 ((ps.length : Nat) : Int), .int .i64 at_, .int .i64 i.op, .int .i64 i.loc, .int .i64 (bmask0 (bplace0 i.off (rgO r i.ix 0) i.sz) i.sz), .bool ((i.op == 4) || (i.op == 6)), .bool ((i.op == 5) || (i.op == 6)), .int .i64 (bget0 (lr.headD 0) i.sz), .int .i64 (wrF r i (bget0 (lr.headD 0) i.sz)), .bool i.acq, .bool i.weak, .bool i.rel, .int .i64 i.pred, .int .i64 i.succ]), some (.row 45 15 (es.length + 1) 0 (fun j => evtS ((es ++ [(⟨((ps.length : Nat) : Int), at_, i.op, i.loc, bmask0 (bplace0 i.off (rgO r i.ix 0) i.sz) i.sz, (i.op == 4) || (i.op == 6), (i.op == 5) || (i.op == 6), bget0 (lr.headD 0) i.sz, wrF r i (bget0 (lr.headD 0) i.sz), i.acq, i.weak, i.rel, i.pred, i.succ⟩ : Ev)]).getD j Ev.z)))])] A rfl rfl rfl rfl (by kernel_rfl) ⟨trivial, ⟨appE (i := 1) hX (es.length + 1) (fun j => evtS ((es ++ [(⟨((ps.length : Nat) : Int), at_, i.op, i.loc, bmask0 (bplace0 i.off (rgO r i.ix 0) i.sz) i.sz, (i.op == 4) || (i.op == 6), (i.op == 5) || (i.op == 6), bget0 (lr.headD 0) i.sz, wrF r i (bget0 (lr.headD 0) i.sz), i.acq, i.weak, i.rel, i.pred, i.succ⟩ : Ev)]).getD j Ev.z)) rfl rfl rfl rfl hes rfl (fun k hk => by show evtS _ = evtS _; rw [getD_lE hk]) (by show evtS _ = _; rw [getD_1E]) (fun z => ⟨_, rfl, rfl⟩), ⟨trivial, trivial⟩⟩⟩ trivial fun A => N hX 7 A rfl rfl fun A => RET hX [6] A ⟨rfl, (by simp only [acE, acNew, acOld, acR, acA, acN, if_pos h1, if_pos h3] <;> rfl)⟩ rfl rfl rfl rfl rfl rfl rfl rfl h0)
     (fun h4 A => absurd (h1.symm.trans h4) (by decide)))
    (fun h3 A => N hX 10 A rfl rfl fun A => fork 62 A rfl
     (fun h5 A => N hX 1 A rfl rfl fun A => DRAWN hX hmo [] [(8, .tup [], [some (.blk [.int .i64 at_, .int .i64 ((updR r (i.dst).toNat (bget0 (lr.headD 0) i.sz)) 0), .int .i64 ((updR r (i.dst).toNat (bget0 (lr.headD 0) i.sz)) 1), .int .i64 ((updR r (i.dst).toNat (bget0 (lr.headD 0) i.sz)) 2), .int .i64 ((updR r (i.dst).toNat (bget0 (lr.headD 0) i.sz)) 3), .int .i64 ((updR r (i.dst).toNat (bget0 (lr.headD 0) i.sz)) 4), .int .i64 ((updR r (i.dst).toNat (bget0 (lr.headD 0) i.sz)) 5), .int .i64 ((updR r (i.dst).toNat (bget0 (lr.headD 0) i.sz)) 6), .int .i64 ((updR r (i.dst).toNat (bget0 (lr.headD 0) i.sz)) 7), .sla (tlA ra rc) (lr.length - 1) (rc - 1), .sl 1 es.length 0, .sl 2 ps.length 0]), some (.row 45 15 es.length 0 (fun j => evtS (es.getD j Ev.z))), some (.row 3 1 ps.length 0 (fun j => [.int .i64 (ps.getD j 0)])), some (.blk [.int .i64 i.op, .int .i64 i.dst, .int .i64 i.ra, .int .i64 i.rb, .int .i64 i.imm, .int .i64 i.loc, .int .i64 i.off, .int .i64 i.ix, .int .i64 i.sz, .int .i64 i.fn, .bool i.acq, .bool i.weak, .bool i.rel, .int .i64 i.pred, .int .i64 i.succ, .int .i64 i.to_, .bool i.zero]), some (.blk [.int .i64 0, .int .i64 ((ps.length : Nat) : Int), .int .i64 at_, .int .i64 i.op, .int .i64 i.loc, .int .i64 (bmask0 (bplace0 i.off (rgO r i.ix 0) i.sz) i.sz), .bool ((i.op == 4) || (i.op == 6)), .bool ((i.op == 5) || (i.op == 6)), .int .i64 (bget0 (lr.headD 0) i.sz), .int .i64 0, .bool i.acq, .bool i.weak, .bool i.rel, .int .i64 i.pred, .int .i64 i.succ])])] A rfl (ok_d (by have := hd h1; omega) <| okE_nil) rfl rfl (by kernel_rfl) ⟨stwE (i := 0) (r := r) hX rfl rfl rfl rfl rfl rfl rfl rfl (hd h1), trivial⟩ trivial fun A => N hX 2 A rfl rfl fun A => DRAWN hX hmo [] [(7, .sl 6 (es.length + 1) 0, [some (.blk [.int .i64 at_, .int .i64 ((updR r (i.dst).toNat (bget0 (lr.headD 0) i.sz)) 0), .int .i64 ((updR r (i.dst).toNat (bget0 (lr.headD 0) i.sz)) 1), .int .i64 ((updR r (i.dst).toNat (bget0 (lr.headD 0) i.sz)) 2), .int .i64 ((updR r (i.dst).toNat (bget0 (lr.headD 0) i.sz)) 3), .int .i64 ((updR r (i.dst).toNat (bget0 (lr.headD 0) i.sz)) 4), .int .i64 ((updR r (i.dst).toNat (bget0 (lr.headD 0) i.sz)) 5), .int .i64 ((updR r (i.dst).toNat (bget0 (lr.headD 0) i.sz)) 6), .int .i64 ((updR r (i.dst).toNat (bget0 (lr.headD 0) i.sz)) 7), .sla (tlA ra rc) (lr.length - 1) (rc - 1), .sl 1 es.length 0, .sl 2 ps.length 0]), none, some (.row 3 1 ps.length 0 (fun j => [.int .i64 (ps.getD j 0)])), some (.blk [.int .i64 i.op, .int .i64 i.dst, .int .i64 i.ra, .int .i64 i.rb, .int .i64 i.imm, .int .i64 i.loc, .int .i64 i.off, .int .i64 i.ix, .int .i64 i.sz, .int .i64 i.fn, .bool i.acq, .bool i.weak, .bool i.rel, .int .i64 i.pred, .int .i64 i.succ, .int .i64 i.to_, .bool i.zero]), some (.blk [.int .i64 0, .int .i64 ((ps.length : Nat) : Int), .int .i64 at_, .int .i64 i.op, .int .i64 i.loc, .int .i64 (bmask0 (bplace0 i.off (rgO r i.ix 0) i.sz) i.sz), .bool ((i.op == 4) || (i.op == 6)), .bool ((i.op == 5) || (i.op == 6)), .int .i64 (bget0 (lr.headD 0) i.sz), .int .i64 0, .bool i.acq, .bool i.weak, .bool i.rel, .int .i64 i.pred, .int .i64 i.succ]), some (.blk [.int .i64 0, .int .i64 ((ps.length : Nat) : Int), .int .i64 at_, .int .i64 i.op, .int .i64 i.loc, .int .i64 (bmask0 (bplace0 i.off (rgO r i.ix 0) i.sz) i.sz), .bool ((i.op == 4) || (i.op == 6)), .bool ((i.op == 5) || (i.op == 6)), .int .i64 (bget0 (lr.headD 0) i.sz), .int .i64 0, .bool i.acq, .bool i.weak, .bool i.rel, .int .i64 i.pred, .int .i64 i.succ]), some (.row 45 15 (es.length + 1) 0 (fun j => evtS ((es ++ [(⟨((ps.length : Nat) : Int), at_, i.op, i.loc, bmask0 (bplace0 i.off (rgO r i.ix 0) i.sz) i.sz, (i.op == 4) || (i.op == 6), (i.op == 5) || (i.op == 6), bget0 (lr.headD 0) i.sz, 0, i.acq, i.weak, i.rel, i.pred, i.succ⟩ : Ev)]).getD j Ev.z)))])] A rfl rfl rfl rfl (by kernel_rfl) ⟨trivial, ⟨appE (i := 1) hX (es.length + 1) (fun j => evtS ((es ++ [(⟨((ps.length : Nat) : Int), at_, i.op, i.loc, bmask0 (bplace0 i.off (rgO r i.ix 0) i.sz) i.sz, (i.op == 4) || (i.op == 6), (i.op == 5) || (i.op == 6), bget0 (lr.headD 0) i.sz, 0, i.acq, i.weak, i.rel, i.pred, i.succ⟩ : Ev)]).getD j Ev.z)) rfl rfl rfl rfl hes rfl (fun k hk => by show evtS _ = evtS _; rw [getD_lE hk]) (by show evtS _ = _; rw [getD_1E]) (fun z => ⟨_, rfl, rfl⟩), ⟨trivial, trivial⟩⟩⟩ trivial fun A => N hX 7 A rfl rfl fun A => RET hX [6] A ⟨rfl, (by simp only [acE, acNew, acOld, acR, acA, acN, if_pos h1, if_neg (ne_true_of_eq_false h3)] <;> rfl)⟩ rfl rfl rfl rfl rfl rfl rfl rfl h0)
     (fun h5 A => absurd (h1.symm.trans h5) (by decide)))))
  (fun h1 A => N hX 10 A rfl rfl fun A => fork 54 A rfl
   (fun h6 A => N hX 6 A rfl rfl fun A => CALL1 [0, 1, 2] (written_ at_ r ra lr.length rc es ps i 0 hs (ha h6) hw) A rfl rfl rfl rfl rfl rfl rfl fun A => N hX 11 A rfl rfl fun A => fork 62 A rfl
    (fun h7 A => absurd (h1.symm.trans h7) (by decide))
    (fun h7 A => N hX 4 A rfl rfl fun A => DRAWN hX hmo [] [(7, .sl 6 (es.length + 1) 0, [some (.blk [.int .i64 at_, .int .i64 (r 0), .int .i64 (r 1), .int .i64 (r 2), .int .i64 (r 3), .int .i64 (r 4), .int .i64 (r 5), .int .i64 (r 6), .int .i64 (r 7), .sla ra lr.length rc, .sl 1 es.length 0, .sl 2 ps.length 0]), none, some (.row 3 1 ps.length 0 (fun j => [.int .i64 (ps.getD j 0)])), some (.blk [.int .i64 i.op, .int .i64 i.dst, .int .i64 i.ra, .int .i64 i.rb, .int .i64 i.imm, .int .i64 i.loc, .int .i64 i.off, .int .i64 i.ix, .int .i64 i.sz, .int .i64 i.fn, .bool i.acq, .bool i.weak, .bool i.rel, .int .i64 i.pred, .int .i64 i.succ, .int .i64 i.to_, .bool i.zero]), some (.blk [.int .i64 0, .int .i64 ((ps.length : Nat) : Int), .int .i64 at_, .int .i64 i.op, .int .i64 i.loc, .int .i64 (bmask0 (bplace0 i.off (rgO r i.ix 0) i.sz) i.sz), .bool ((i.op == 4) || (i.op == 6)), .bool ((i.op == 5) || (i.op == 6)), .int .i64 0, .int .i64 (wrF r i 0), .bool i.acq, .bool i.weak, .bool i.rel, .int .i64 i.pred, .int .i64 i.succ]), some (.blk [.int .i64 0, .int .i64 ((ps.length : Nat) : Int), .int .i64 at_, .int .i64 i.op, .int .i64 i.loc, .int .i64 (bmask0 (bplace0 i.off (rgO r i.ix 0) i.sz) i.sz), .bool ((i.op == 4) || (i.op == 6)), .bool ((i.op == 5) || (i.op == 6)), .int .i64 0, .int .i64 (wrF r i 0), .bool i.acq, .bool i.weak, .bool i.rel, .int .i64 i.pred, .int .i64 i.succ]), some (.row 45 15 (es.length + 1) 0 (fun j => evtS ((es ++ [(⟨((ps.length : Nat) : Int), at_, i.op, i.loc, bmask0 (bplace0 i.off (rgO r i.ix 0) i.sz) i.sz, (i.op == 4) || (i.op == 6), (i.op == 5) || (i.op == 6), 0, wrF r i 0, i.acq, i.weak, i.rel, i.pred, i.succ⟩ : Ev)]).getD j Ev.z)))])] A rfl rfl rfl rfl (by kernel_rfl) ⟨trivial, ⟨appE (i := 1) hX (es.length + 1) (fun j => evtS ((es ++ [(⟨((ps.length : Nat) : Int), at_, i.op, i.loc, bmask0 (bplace0 i.off (rgO r i.ix 0) i.sz) i.sz, (i.op == 4) || (i.op == 6), (i.op == 5) || (i.op == 6), 0, wrF r i 0, i.acq, i.weak, i.rel, i.pred, i.succ⟩ : Ev)]).getD j Ev.z)) rfl rfl rfl rfl hes rfl (fun k hk => by show evtS _ = evtS _; rw [getD_lE hk]) (by show evtS _ = _; rw [getD_1E]) (fun z => ⟨_, rfl, rfl⟩), ⟨trivial, trivial⟩⟩⟩ trivial fun A => N hX 7 A rfl rfl fun A => RET hX [6] A ⟨rfl, (by simp only [acE, acNew, acOld, acR, acA, acN, if_neg (ne_true_of_eq_false h1), if_pos h6] <;> rfl)⟩ rfl rfl rfl rfl rfl rfl rfl rfl h0))
   (fun h6 A => N hX 10 A rfl rfl fun A => fork 62 A rfl
    (fun h8 A => absurd (h1.symm.trans h8) (by decide))
    (fun h8 A => N hX 4 A rfl rfl fun A => DRAWN hX hmo [] [(7, .sl 6 (es.length + 1) 0, [some (.blk [.int .i64 at_, .int .i64 (r 0), .int .i64 (r 1), .int .i64 (r 2), .int .i64 (r 3), .int .i64 (r 4), .int .i64 (r 5), .int .i64 (r 6), .int .i64 (r 7), .sla ra lr.length rc, .sl 1 es.length 0, .sl 2 ps.length 0]), none, some (.row 3 1 ps.length 0 (fun j => [.int .i64 (ps.getD j 0)])), some (.blk [.int .i64 i.op, .int .i64 i.dst, .int .i64 i.ra, .int .i64 i.rb, .int .i64 i.imm, .int .i64 i.loc, .int .i64 i.off, .int .i64 i.ix, .int .i64 i.sz, .int .i64 i.fn, .bool i.acq, .bool i.weak, .bool i.rel, .int .i64 i.pred, .int .i64 i.succ, .int .i64 i.to_, .bool i.zero]), some (.blk [.int .i64 0, .int .i64 ((ps.length : Nat) : Int), .int .i64 at_, .int .i64 i.op, .int .i64 i.loc, .int .i64 (bmask0 (bplace0 i.off (rgO r i.ix 0) i.sz) i.sz), .bool ((i.op == 4) || (i.op == 6)), .bool ((i.op == 5) || (i.op == 6)), .int .i64 0, .int .i64 0, .bool i.acq, .bool i.weak, .bool i.rel, .int .i64 i.pred, .int .i64 i.succ]), some (.blk [.int .i64 0, .int .i64 ((ps.length : Nat) : Int), .int .i64 at_, .int .i64 i.op, .int .i64 i.loc, .int .i64 (bmask0 (bplace0 i.off (rgO r i.ix 0) i.sz) i.sz), .bool ((i.op == 4) || (i.op == 6)), .bool ((i.op == 5) || (i.op == 6)), .int .i64 0, .int .i64 0, .bool i.acq, .bool i.weak, .bool i.rel, .int .i64 i.pred, .int .i64 i.succ]), some (.row 45 15 (es.length + 1) 0 (fun j => evtS ((es ++ [(⟨((ps.length : Nat) : Int), at_, i.op, i.loc, bmask0 (bplace0 i.off (rgO r i.ix 0) i.sz) i.sz, (i.op == 4) || (i.op == 6), (i.op == 5) || (i.op == 6), 0, 0, i.acq, i.weak, i.rel, i.pred, i.succ⟩ : Ev)]).getD j Ev.z)))])] A rfl rfl rfl rfl (by kernel_rfl) ⟨trivial, ⟨appE (i := 1) hX (es.length + 1) (fun j => evtS ((es ++ [(⟨((ps.length : Nat) : Int), at_, i.op, i.loc, bmask0 (bplace0 i.off (rgO r i.ix 0) i.sz) i.sz, (i.op == 4) || (i.op == 6), (i.op == 5) || (i.op == 6), 0, 0, i.acq, i.weak, i.rel, i.pred, i.succ⟩ : Ev)]).getD j Ev.z)) rfl rfl rfl rfl hes rfl (fun k hk => by show evtS _ = evtS _; rw [getD_lE hk]) (by show evtS _ = _; rw [getD_1E]) (fun z => ⟨_, rfl, rfl⟩), ⟨trivial, trivial⟩⟩⟩ trivial fun A => N hX 7 A rfl rfl fun A => RET hX [6] A ⟨rfl, (by simp only [acE, acNew, acOld, acR, acA, acN, if_neg (ne_true_of_eq_false h1), if_neg (ne_true_of_eq_false h6)] <;> rfl)⟩ rfl rfl rfl rfl rfl rfl rfl rfl h0)))
end Go.Proofs.Ytmieaninmidelaa
