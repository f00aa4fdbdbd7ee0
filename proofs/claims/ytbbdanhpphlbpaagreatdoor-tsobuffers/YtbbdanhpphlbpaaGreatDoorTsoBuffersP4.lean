/- TsoBuffers, part 4: the engine, contracts, theory. -/
import Derived.Test.YtbbdanhpphlbpaaGreatDoorTsoBuffersP3
import Derived.WalkKit
import Derived.Shelf.Small.Strs
import Derived.Shelf.Strings.Search3
import Derived.Lib.IndexMore
import Derived.Shelf.Pu.ParseUintPublic10
import Derived.Ground.MpProg
import Derived.Shelf.Strconv.Itoa3
import Derived.Shelf.Strings.Replace
import Derived.Lib.ItoaLen
import Derived.Shelf.Strings.Cut
import Derived.Shelf.Strings.OnBuilder
namespace Go.Proofs.YtbbdanhpphlbpaaGreatDoor.Mc
open Go.RowKit
set_option linter.unusedVariables false
set_option linter.unusedSimpArgs false
set_option maxRecDepth 100000
set_option maxHeartbeats 2000000
set_option simprocs false
abbrev ngQ9 (x0 : Int) (nm : List UInt8) (y0 y1 y2 : Int) (rg : Nat → Nat → Int) (c : SV) (x1 : Int) (k : SV) : List SV := [.int .i64 x0, .str nm, .int .i64 y0, .int .i64 y1, .int .i64 y2, .int .i64 (rg 0 0), .int .i64 (rg 0 1), .int .i64 (rg 0 2), .int .i64 (rg 0 3), .int .i64 (rg 0 4), .int .i64 (rg 0 5), .int .i64 (rg 0 6), .int .i64 (rg 0 7), .int .i64 (rg 1 0), .int .i64 (rg 1 1), .int .i64 (rg 1 2), .int .i64 (rg 1 3), .int .i64 (rg 1 4), .int .i64 (rg 1 5), .int .i64 (rg 1 6), .int .i64 (rg 1 7), .int .i64 (rg 2 0), .int .i64 (rg 2 1), .int .i64 (rg 2 2), .int .i64 (rg 2 3), .int .i64 (rg 2 4), .int .i64 (rg 2 5), .int .i64 (rg 2 6), .int .i64 (rg 2 7), c, .int .i64 x1, k]
def iniL (cs : List Cde) (rg : Nat → Rg) : List Th := (List.range cs.length).map fun k => setl (cs.getD k Cde.z).l ⟨0, rg k⟩
theorem iniL_len {cs : List Cde} {rg : Nat → Rg} : (iniL cs rg).length = cs.length := by unfold iniL; simp
theorem iniL_at {cs : List Cde} {rg : Nat → Rg} {k : Nat} (h : k < cs.length) : (iniL cs rg).getD k Th.z = setl (cs.getD k Cde.z).l ⟨0, rg k⟩ := by
 unfold iniL
 rw [List.getD_eq_getElem?_getD, List.getElem?_map, List.getElem?_range h]
 rfl
theorem rcAt {cs : List Cde} (h : ∀ c ∈ cs, RCd c.l) {k : Nat} (hk : k < cs.length) : RCd (cs.getD k Cde.z).l := h _ (by rw [List.getD_eq_getElem?_getD, List.getElem?_eq_getElem hk]; exact List.getElem_mem hk)
theorem tcell {cs : List Cde} {ao co : Option Addr} {cx cn cc : Nat} {rg : Nat → Rg} {x0 x1 y0 y1 y2 : Int} {nm : List UInt8} {k : Nat} (h : k < 3) : cellS ⟨X, true⟩ 23 (ngQ9 x0 nm y0 y1 y2 rg (.sla ao cs.length cx) x1 (.sla co cn cc)) (5 + k * 8) = some (.agg [.int .i64 (rg k 0), .int .i64 (rg k 1), .int .i64 (rg k 2), .int .i64 (rg k 3), .int .i64 (rg k 4), .int .i64 (rg k 5), .int .i64 (rg k 6), .int .i64 (rg k 7)]) := by
 match k, h with
 | 0, _ => rfl
 | 1, _ => rfl
 | 2, _ => rfl
theorem gd_l {l : List Cde} {x : Cde} {m k : Nat} (hm : l.length = m) (h : k < m) : (l ++ [x]).getD k Cde.z = l.getD k Cde.z := by rw [List.getD_eq_getElem?_getD, List.getD_eq_getElem?_getD, List.getElem?_append_left (by omega)]
theorem gd_1 {l : List Cde} {x : Cde} {m : Nat} (hm : l.length = m) : (l ++ [x]).getD m Cde.z = x := by subst hm; simp [List.getD]
structure NJ (cs : List Cde) (N : Nat) (z : List Cde × Nat) (w : World) (ks : List Nat) : Prop where
 m : z.1.length = z.2
 le : z.2 ≤ cs.length
 eq : ∀ k, k < z.2 → (z.1.getD k Cde.z).l = (cs.getD k Cde.z).l
 at_ : ∀ c ∈ z.1, c.lies w ks ∧ ∀ q : Addr, c.ao = some q → N ≤ q.block
theorem NJ.ok {cs : List Cde} {N : Nat} {z : List Cde × Nat} : Amb.OK (NJ cs N z) := fun w ks w' ks' h m hk => ⟨h.m, h.le, h.eq, fun c hc => ⟨LstAt.ok _ _ _ _ (h.at_ c hc).1 m hk, (h.at_ c hc).2⟩⟩
theorem NJ.i0 {cs : List Cde} {N : Nat} {w : World} {ks : List Nat} : NJ cs N ([], 0) w ks := ⟨rfl, Nat.zero_le _, fun k hk => (by cases hk), fun c hc => (by cases hc)⟩
theorem NJ.nx {cs : List Cde} {N : Nat} {z : List Cde × Nat} {w : World} {ks : List Nat} {ao : Option Addr} {cp : Nat} (h : NJ cs N z w ks) (hlt : z.2 < cs.length) (hl : LstAt ao 17 (cs.getD (((z.2 : Nat) : Int)).toNat Cde.z).l.length (fun zz => insS ((cs.getD (((z.2 : Nat) : Int)).toNat Cde.z).l.getD zz In.z)) w ks) (hf : ∀ q : Addr, ao = some q → N ≤ q.block) : NJ cs N (z.1 ++ [(⟨ao, (cs.getD (((z.2 : Nat) : Int)).toNat Cde.z).l, cp⟩ : Cde)], z.2 + 1) w ks := by
 refine ⟨by simp [h.m], by show z.2 + 1 ≤ _; omega, fun k hk => ?_, fun c hc => ?_⟩
 ·by_cases e : k = z.2
  ·subst e; show ((z.1 ++ [_]).getD z.2 Cde.z).l = _; rw [gd_1 h.m]; rfl
  ·have hk' : k < z.2 := by have : k < z.2 + 1 := hk; omega
   show ((z.1 ++ [_]).getD k Cde.z).l = _; rw [gd_l h.m hk']; exact h.eq k hk'
 ·rcases List.mem_append.1 hc with hc | hc
  ·exact h.at_ c hc
  ·rw [List.mem_singleton] at hc; subst hc; exact ⟨hl, hf⟩
theorem NJ.mv {cs : List Cde} {N : Nat} {z : List Cde × Nat} {w : World} {H H' l : Hp} {G : Gr} {m : List Nat} (h : NJ cs N z w (keys H G)) (hlen : H.length = G.length) (h1 : pickH H m = some l) (h2 : renH m H' = some l) : NJ cs N z w (keys H' (pickG m G)) := NJ.ok _ _ _ _ h (Mix.refl _ _) (fun b hb => .inl (keys_pick hlen h1 h2 b hb))
def CoreJ (cs : List Cde) (rg : Nat → Rg) : SV → World → World → Prop := fun x w w' => ∃ (L : Loc) (bt cp : Nat) (cs' : List Cde), x = adr L.b L.pre.length ∧ OutC 125 10 cs.length (fun zz => rnT (cs'.getD zz Cde.z) ((iniL cs rg).getD zz Th.z)) L bt cp w.heap.size w' ∧ CoreOK cs' (iniL cs rg) cs.length ∧ (∀ k, k < cs.length → (cs'.getD k Cde.z).l = (cs.getD k Cde.z).l) ∧ ∀ ks, (∀ b, ks.contains b = true → b < w.heap.size ∨ b = L.b ∨ b = bt) → CodesAt cs' w' ks
theorem coreJ_of {cs : List Cde} {rg : Nat → Rg} {z : List Cde × Nat} {w w' : World} {ks : List Nat} {L : Loc} {bt cp : Nat} (hrc : ∀ c ∈ cs, RCd c.l) (hz : NJ cs w.heap.size z w' ks) (hz2 : z.2 = cs.length) (ho : OutC 125 10 z.2 (fun zz => rnT (z.1.getD zz Cde.z) ((iniL cs rg).getD zz Th.z)) L bt cp w.heap.size w') (h1 : ks.contains L.b = true) (h2 : ks.contains bt = true) : CoreJ cs rg (adr L.b L.pre.length) w w' := by
 have hm := hz.m
 refine ⟨L, bt, cp, z.1, rfl, by rw [← hz2]; exact ho, ⟨by rw [iniL_len]; omega, by omega, fun k hk => ?_, fun k hk => ?_⟩, fun k hk => hz.eq k (by omega), fun ks' hk c hc => ?_⟩
 ·rw [hz.eq k (by omega)]; exact rcAt hrc (by omega)
 ·rw [iniL_at (by omega), hz.eq k (by omega)]; exact setl_le (rcAt hrc (by omega)) (Nat.zero_le _)
 ·obtain ⟨h3, h4⟩ := hz.at_ c hc
  refine ⟨h3.1, ?_⟩
  rcases h3.2 with h | ⟨b, o, e1, e2, e3, e4⟩
  ·exact .inl h
  ·refine .inr ⟨b, o, e1, e2, ?_, e4⟩
   have hb := h4 _ e1
   cases hq : ks'.contains b with
   | false => rfl
   | true =>
    rcases hk b hq with h | h | h
    ·have : w.heap.size ≤ b := hb; omega
    ·subst h; rw [h1] at e3; cases e3
    ·subst h; rw [h2] at e3; cases e3
theorem newCore_ (cs : List Cde) (ao : Option Addr) (cx : Nat) (rg : Nat → Rg) (x0 x1 y0 y1 y2 : Int) (nm : List UInt8) (co : Option Addr) (cn cc : Nat) (hck : ckE cs = 0) : FnW Tryz.prog 53 [.agg (ngQ9 x0 nm y0 y1 y2 rg (.sla ao cs.length cx) x1 (.sla co cn cc))] [] [] (fun w => LstAt ao 1 cs.length (fun zz => cdc (cs.getD zz Cde.z)) w [] ∧ CodesAt cs w []) (CoreJ cs rg) :=
 enterW (n := 50) (by kernel_rfl) Tryz.func53 rfl rfl rfl (fun i e h => by rw [List.getElem?_nil] at h; cases h) fun G w a h0 ho hp A => have hrc := rcd_of hck; N9 18 A rfl rfl fun A => ADOPTD 14 hp.1 (by omega) A rfl rfl rfl rfl fun _ A => I9 [2] CodesAt.ok hp.2 (uCheck_ cs cx (fun c hc => Nat.le_trans (hrc.2 c hc).n (by decide)) (fun hG hn => ucc_ cs cx (fun c hc => Nat.le_trans (bad1_le hG c hc) (by decide)) (by omega))) A rfl fun A => N9 15 A rfl rfl fun A => forkN 20 A rfl
  (fun h1 A => absurd hck h1)
  (fun h1 A => N9 13 A rfl rfl fun A => ADOPTD 23 hp.1 (by omega) A rfl rfl rfl rfl fun _ A => NILC 1 125 10 (fun zz => rnT (([] : List Cde).getD zz Cde.z) ((iniL cs rg).getD zz Th.z)) A rfl (fun z => ⟨_, rfl, rfl⟩) rfl fun A => LOOPJ (fun (z : List Cde × Nat) => [(1, .ptr 0 0), (3, .ptr 1 0), (23, .sl 2 cs.length cx), (24, .int .i64 ((cs.length : Nat) : Int)), (25, .int .i64 ((z.2 : Nat) : Int))]) (fun (z : List Cde × Nat) => [some (.blk (ngQ9 x0 nm y0 y1 y2 rg (.sla ao cs.length cx) x1 (.sla co cn cc))), some (.blk [.sl 3 z.2 0]), some (cdL9 cs), some (coR9 z.1 (iniL cs rg) z.2)]) (fun z w' ks => NJ cs w.heap.size z w' ks) (fun z => cs.length - z.2) ([], 0) ((A.cut [1, 3, 23, 24, 25] rfl).mv 0 [0, 1, 3, 4] rfl rfl rfl rfl h0.symm) NJ.i0 fun z G a w hz hGl A B => have h00 := h0; have h0 := B.mem.len; N9 6 A rfl rfl fun A => forkD 26 A rfl
    (fun h2 A => N9 6 A rfl rfl fun A => have hlt : z.2 < cs.length := (by omega); have hlt3 : z.2 < 3 := (by omega); have hcd := (CodesAt.ok.now B hp.2).at hlt; N9 9 A rfl (ok_d (by have := hz.le; omega) <| ok_d (by have := hz.le; omega) <| okE_nil) fun A => ANY hmo [.sla ((cs.getD ((((z.2 : Nat) : Int)).toNat) Cde.z).ao) ((cs.getD ((((z.2 : Nat) : Int)).toNat) Cde.z).l.length) ((cs.getD ((((z.2 : Nat) : Int)).toNat) Cde.z).cp), .sl 4 ((cs.getD ((((z.2 : Nat) : Int)).toNat) Cde.z).l.length) 0, .int .i64 ((z.2 : Nat) : Int), .ptr 0 5, .ix (.ptr 0 5) 8 3 ((z.2 : Nat) : Int) 0, .agg [.int .i64 (rg z.2 0), .int .i64 (rg z.2 1), .int .i64 (rg z.2 2), .int .i64 (rg z.2 3), .int .i64 (rg z.2 4), .int .i64 (rg z.2 5), .int .i64 (rg z.2 6), .int .i64 (rg z.2 7)], .agg [.sl 4 ((cs.getD ((((z.2 : Nat) : Int)).toNat) Cde.z).l.length) 0, .z9, .int .i64 (rg z.2 0), .int .i64 (rg z.2 1), .int .i64 (rg z.2 2), .int .i64 (rg z.2 3), .int .i64 (rg z.2 4), .int .i64 (rg z.2 5), .int .i64 (rg z.2 6), .int .i64 (rg z.2 7)], .ptr 5 0, .tup []] [1, 7, 8] [4, 5] 2 [([], [4, 5], [some (.blk (ngQ9 x0 nm y0 y1 y2 rg (.sla ao cs.length cx) x1 (.sla co cn cc))), some (.blk [.sl 3 z.2 0]), some (cdL9 cs), some (coR9 z.1 (iniL cs rg) z.2), none, none]), ([1], [5], [some (.blk (ngQ9 x0 nm y0 y1 y2 rg (.sla ao cs.length cx) x1 (.sla co cn cc))), some (.blk [.sl 3 z.2 0]), some (cdL9 cs), some (coR9 z.1 (iniL cs rg) z.2), some (.row 63 17 ((cs.getD ((((z.2 : Nat) : Int)).toNat) Cde.z).l.length) 0 (fun zz => insS ((cs.getD ((((z.2 : Nat) : Int)).toNat) Cde.z).l.getD zz In.z))), none]), ([7], [4], [some (.blk (ngQ9 x0 nm y0 y1 y2 rg (.sla ao cs.length cx) x1 (.sla co cn cc))), some (.blk [.sl 3 z.2 0]), some (cdL9 cs), some (coR9 z.1 (iniL cs rg) z.2), none, some (.blk [.sla none 0 0, .z9, .z9, .z9, .z9, .z9, .z9, .z9, .z9, .z9])]), ([1, 7], [], [some (.blk (ngQ9 x0 nm y0 y1 y2 rg (.sla ao cs.length cx) x1 (.sla co cn cc))), some (.blk [.sl 3 z.2 0]), some (cdL9 cs), some (coR9 z.1 (iniL cs rg) z.2), some (.row 63 17 ((cs.getD ((((z.2 : Nat) : Int)).toNat) Cde.z).l.length) 0 (fun zz => insS ((cs.getD ((((z.2 : Nat) : Int)).toNat) Cde.z).l.getD zz In.z))), some (.blk [.sla none 0 0, .z9, .z9, .z9, .z9, .z9, .z9, .z9, .z9, .z9])]), ([1, 7, 8], [], [some (.blk (ngQ9 x0 nm y0 y1 y2 rg (.sla ao cs.length cx) x1 (.sla co cn cc))), some (.blk [.sl 3 z.2 0]), some (cdL9 cs), some (coR9 z.1 (iniL cs rg) z.2), some (.row 63 17 ((cs.getD ((((z.2 : Nat) : Int)).toNat) Cde.z).l.length) 0 (fun zz => insS ((cs.getD ((((z.2 : Nat) : Int)).toNat) Cde.z).l.getD zz In.z))), some (.blk [.sl 4 ((cs.getD ((((z.2 : Nat) : Int)).toNat) Cde.z).l.length) 0, .z9, .int .i64 (rg z.2 0), .int .i64 (rg z.2 1), .int .i64 (rg z.2 2), .int .i64 (rg z.2 3), .int .i64 (rg z.2 4), .int .i64 (rg z.2 5), .int .i64 (rg z.2 6), .int .i64 (rg z.2 7)])])] [[true, true, true, true, true, true, false, true, false], [false, false, true, true, true, true, true, true, false], [true, true, true, true, true, true, false, false, false], [false, false, true, true, true, true, true, false, true], [false, false, false, false, false, false, false, false, false]] A rfl rfl rfl rfl (by kernel_rfl) rfl (by kernel_rfl) ⟨⟨oV9 0 rfl rfl, ⟨⟨_, _, _, _, 1, rfl, rfl, rfl, rfl, put_at 4 (callIE [] LstAt.ok hcd (clone_ ((cs.getD ((((z.2 : Nat) : Int)).toNat) Cde.z).l) ((cs.getD ((((z.2 : Nat) : Int)).toNat) Cde.z).ao) ((cs.getD ((((z.2 : Nat) : Int)).toNat) Cde.z).cp) (Nat.le_trans (rcAt hrc.2 hlt).n (by decide))) rfl rfl rfl rfl rfl rfl rfl) rfl rfl (le0 h0 rfl) rfl rfl rfl rfl⟩, ⟨oV9 0 rfl rfl, ⟨oV9 0 rfl rfl, ⟨oV9 0 rfl (ok_d (by have := hz.le; omega) <| okE_nil), ⟨oE9 0 rfl (ldixE (k := z.2) hX rfl rfl rfl rfl (tcell hlt3)), ⟨⟨_, _, _, _, 2, rfl, rfl, rfl, rfl, new_at 5 (X := ⟨_, true⟩) hX rfl rfl (le0 h0 rfl) rfl rfl rfl rfl⟩, trivial⟩⟩⟩⟩⟩⟩⟩, ⟨⟨oV9 1 rfl rfl, ⟨oV9 1 rfl rfl, ⟨oV9 1 rfl (ok_d (by have := hz.le; omega) <| okE_nil), ⟨oE9 1 rfl (ldixE (k := z.2) hX rfl rfl rfl rfl (tcell hlt3)), ⟨oV9 1 rfl rfl, ⟨⟨_, _, _, _, 3, rfl, rfl, rfl, rfl, new_at 5 (X := ⟨_, true⟩) hX rfl rfl (le0 h0 rfl) rfl rfl rfl rfl⟩, trivial⟩⟩⟩⟩⟩⟩, ⟨⟨oV9 2 rfl rfl, ⟨⟨_, _, _, _, 3, rfl, rfl, rfl, rfl, put_at 4 (callIE [] LstAt.ok hcd (clone_ ((cs.getD ((((z.2 : Nat) : Int)).toNat) Cde.z).l) ((cs.getD ((((z.2 : Nat) : Int)).toNat) Cde.z).ao) ((cs.getD ((((z.2 : Nat) : Int)).toNat) Cde.z).cp) (Nat.le_trans (rcAt hrc.2 hlt).n (by decide))) rfl rfl rfl rfl rfl rfl rfl) rfl rfl (le0 h0 rfl) rfl rfl rfl rfl⟩, ⟨oV9 2 rfl rfl, ⟨oV9 2 rfl rfl, ⟨oV9 2 rfl (ok_d (by have := hz.le; omega) <| okE_nil), ⟨oE9 2 rfl (ldixE (k := z.2) hX rfl rfl rfl rfl (tcell hlt3)), trivial⟩⟩⟩⟩⟩⟩, ⟨⟨oV9 3 rfl rfl, ⟨oV9 3 rfl rfl, ⟨oV9 3 rfl (ok_d (by have := hz.le; omega) <| okE_nil), ⟨oE9 3 rfl (ldixE (k := z.2) hX rfl rfl rfl rfl (tcell hlt3)), ⟨oV9 3 rfl rfl, ⟨oE9 4 rfl (eff_auto (X := ⟨_, true⟩) (out := .upd 5 [.sl 4 ((cs.getD ((((z.2 : Nat) : Int)).toNat) Cde.z).l.length) 0, .z9, .int .i64 (rg z.2 0), .int .i64 (rg z.2 1), .int .i64 (rg z.2 2), .int .i64 (rg z.2 3), .int .i64 (rg z.2 4), .int .i64 (rg z.2 5), .int .i64 (rg z.2 6), .int .i64 (rg z.2 7)] _) hX rfl rfl), trivial⟩⟩⟩⟩⟩⟩, ⟨trivial, trivial⟩⟩⟩⟩⟩ fun A => N9 2 A rfl rfl fun A => LAYC 4 5 (fun ao' cp' => [some (.blk (ngQ9 x0 nm y0 y1 y2 rg (.sla ao cs.length cx) x1 (.sla co cn cc))), some (.blk [.sl 3 z.2 0]), some (cdL9 cs), some (coR9 z.1 (iniL cs rg) z.2), none, some (.blk (rQ9 (.sla ao' ((cs.getD ((((z.2 : Nat) : Int)).toNat) Cde.z).l.length) cp') 0 (rg z.2)))]) A rfl rfl rfl (fun _ _ => rfl) fun ao' cp' A hl hfr => have hz := NJ.ok.now A hz; have hfr : ∀ q : Addr, ao' = some q → _ ≤ q.block := fun q hq => (hfr q hq).elim (fun h => (B.keys_own _ h).elim (fun h => by cases h) id) (fun h => Nat.le_trans B.mix.size h); have B := B.trans A; have A := B.base; have h0 := B.mem.len; N9 1 A rfl rfl fun A => I9 [5] LstAt.ok hl (settle_ ((cs.getD ((((z.2 : Nat) : Int)).toNat) Cde.z).l) ao' cp' (0 : Int) (rg z.2) (rcAt hrc.2 hlt) (by omega)) A rfl fun A => N9 2 A rfl rfl fun A => DRAWN hX hmo [] [(7, .sl 7 (z.2 + 1) 0, [some (.blk (ngQ9 x0 nm y0 y1 y2 rg (.sla ao cs.length cx) x1 (.sla co cn cc))), some (.blk [.sl 3 z.2 0]), some (cdL9 cs), none, none, some (.blk (rQ9 (.sla ao' ((cs.getD ((((z.2 : Nat) : Int)).toNat) Cde.z).l.length) cp') (((setl (cs.getD ((((z.2 : Nat) : Int)).toNat) Cde.z).l ⟨((0 : Int)).toNat, rg z.2⟩).at_ : Nat) : Int) ((setl (cs.getD ((((z.2 : Nat) : Int)).toNat) Cde.z).l ⟨((0 : Int)).toNat, rg z.2⟩).r))), some (.blk (rQ9 (.sla ao' ((cs.getD ((((z.2 : Nat) : Int)).toNat) Cde.z).l.length) cp') (((setl (cs.getD ((((z.2 : Nat) : Int)).toNat) Cde.z).l ⟨((0 : Int)).toNat, rg z.2⟩).at_ : Nat) : Int) ((setl (cs.getD ((((z.2 : Nat) : Int)).toNat) Cde.z).l ⟨((0 : Int)).toNat, rg z.2⟩).r))), some (.row 125 10 (z.2 + 1) 0 (fun zz => rnT ((z.1 ++ [(⟨ao', (cs.getD (((z.2 : Nat) : Int)).toNat Cde.z).l, cp'⟩ : Cde)]).getD zz Cde.z) ((iniL cs rg).getD zz Th.z)))])] A rfl rfl rfl rfl (by kernel_rfl) ⟨trivial, ⟨appE (i := 3) hX (z.2 + 1) (fun zz => rnT ((z.1 ++ [(⟨ao', (cs.getD (((z.2 : Nat) : Int)).toNat Cde.z).l, cp'⟩ : Cde)]).getD zz Cde.z) ((iniL cs rg).getD zz Th.z)) rfl rfl rfl rfl (by omega) rfl (fun k hk => by show rnT _ _ = rnT _ _; rw [gd_l hz.m hk]) (by show rnT _ _ = _; rw [gd_1 hz.m, iniL_at hlt] <;> rfl) (fun z => ⟨_, rfl, rfl⟩), ⟨trivial, trivial⟩⟩⟩ trivial fun A => N9 6 A rfl (ok_d (by have := hz.le; omega) <| okE_nil) fun A => ⟨((z.1 ++ [(⟨ao', (cs.getD (((z.2 : Nat) : Int)).toNat Cde.z).l, cp'⟩ : Cde)]), z.2 + 1), _, (by show cs.length - (z.2 + 1) < cs.length - z.2; omega), ((NJ.ok.now A hz).nx hlt (LstAt.ok.now A hl) hfr).mv (m := [0, 1, 2, 7]) A.mem.len rfl rfl, (((B.trans A).cut [1, 3, 23, 24, 25] rfl).mv 0 [0, 1, 2, 7] rfl rfl rfl rfl h00.symm)⟩)
    (fun h2 A => N9 10 A rfl rfl fun A => have hz2 : z.2 = cs.length := (by have := hz.le; omega); match (B.trans A).giveCore 1 3 2 (by omega) rfl rfl rfl rfl with | ⟨L, bt, cp, A', ho, hk1, hk2⟩ => RETW hX A' rfl rfl rfl rfl (coreJ_of hrc.2 (NJ.ok.now A hz) hz2 ho hk1 hk2)))
end Go.Proofs.YtbbdanhpphlbpaaGreatDoor.Mc
namespace Go.Proofs.YtbbdanhpphlbpaaGreatDoor.Mc
open Go.RowKit
set_option linter.unusedVariables false
set_option linter.unusedSimpArgs false
set_option maxRecDepth 100000
set_option maxHeartbeats 2000000
set_option simprocs false
theorem lstL_of {α : Type} (d : α) (cf : α → List SV) (s : Nat) (hs : ∀ x, (cf x).length = s) (hin : ∀ x, inL 0 (cf x) = true) (htot : ∀ x, ∃ vs, denL [] (cf x) = some vs) (L : List α) {b : Nat} {vs : List Value} {w : World} {ks : List Nat} (hl : Lies b 0 vs w ks) (hv : denL [] (L.flatMap cf) = some vs) : LstAt (some ⟨b, 0, none⟩) s L.length (fun zz => cf (L.getD zz d)) w ks := by
 refine ⟨fun k => htot _, .inr ⟨b, 0, rfl, hl.1, hl.2.1, fun k hk => ?_⟩⟩
 obtain ⟨r1, r2⟩ := blk_parts d cf s hs hin L k hk
 obtain ⟨r3, r4⟩ := tk_is r1
 rw [dp_is] at r3 r4
 have hd : denL [] (cf (L.getD k d)) = some ((vs.drop (k * s)).take s) := by rw [r3]; exact denL_take s (denL_drop _ hv)
 refine ⟨_, hd, fun q v hq => ?_⟩
 have hlt := (List.getElem?_eq_some_iff.1 hq).1
 simp only [List.length_take, List.length_drop] at hlt
 rw [List.getElem?_take_of_lt (by omega), List.getElem?_drop] at hq
 have := hl.2.2 _ v hq
 rwa [← Nat.add_assoc] at this
theorem fnI_ff {I : Amb} {P : Program} {f : Nat} {args : List SV} {H H2 : Hp} {x y : SV} (h : FnI I P f args H (Rt x H2)) (e : ∀ {G}, den G x = den G y) : FnI I P f args H (Rt y H2) := ⟨h.1, fun G w vs hM hI hv => Calls.mono (h.2 G w vs hM hI hv) fun e' w' ⟨x', H', F, v, ⟨q1, q2⟩, r⟩ => by subst q1; subst q2; exact ⟨y, _, F, v, ⟨rfl, rfl⟩, by rw [← e]; exact r.1, r.2⟩⟩
end Go.Proofs.YtbbdanhpphlbpaaGreatDoor.Mc
namespace Go.Proofs.YtbbdanhpphlbpaaGreatDoor.Mc
open Go.RowKit
set_option linter.unusedVariables false
set_option linter.unusedSimpArgs false
set_option maxRecDepth 100000
set_option maxHeartbeats 2000000
set_option simprocs false
theorem isT {a b : Nat} (h : a < b) : (!(((a : Nat) : Int) == ((b : Nat) : Int))) = true := by simp; omega
theorem pass0_ (cs : List Cde) (ts : List Th) (nn : Nat) (old : Int) (hC : CoreOK cs ts nn) (h0n : 0 < nn) (hst : (sk0 ts).at_ < (cs.getD ((0 : Int).toNat) Cde.z).l.length) : FnI (CodesAt cs) Tryz.prog 58 [.ptr 0 0, .z9, .int .i64 old] [some (.blk [.sl 1 nn 0]), some (coR9 cs ts nn)] (Rt .tt [some (.blk [.sl 1 nn 0]), some (coR9 cs (setTh cs ts 0 old) nn)]) :=
 fnI_ff (cPassI_ cs ts nn 0 old hC ⟨by decide, by omega⟩) (fun {G} => congrArg (fun b => some (Value.bool b)) (isT hst))
theorem doS_ (m : Nat → Int) (cs : List Cde) (ts : List Th) (nn : Nat) (lc o s v i : Int) (hC : CoreOK cs ts nn) (hn3 : nn ≤ 3) (h0n : 0 < nn) (hl : 0 ≤ lc ∧ lc < 3) (hO : OS o s) (hst : (sk0 ts).at_ < (cs.getD ((0 : Int).toNat) Cde.z).l.length) (hop : (ik0 cs ts).op = 5) (hq1 : spL (ik0 cs ts) = lc) (hq2 : spM (sk0 ts).r (ik0 cs ts) = mskN o s) (hq3 : spD (sk0 ts).r (ik0 cs ts) = v) (hi : 0 ≤ i ∧ i < (((mvL cs ts bnA nn).length : Nat) : Int)) (hm1 : ((mvL cs ts bnA nn).getD (i).toNat (0, 0, 0)).1 = 2) (hm2 : ((mvL cs ts bnA nn).getD (i).toNat (0, 0, 0)).2.1 = 0) : FnI (TI cs) Tryz.prog 30 [.ptr 0 0, .int .i64 i] [some (.blk [.ptr 1 0, .int .i64 (m 0), .int .i64 (m 1), .int .i64 (m 2), .sla none 0 0, .sla none 0 0, .sla none 0 0]), some (.blk [.sl 2 nn 0]), some (coR9 cs ts nn)] (Rt (.tt) [some (.blk [.ptr 1 0, .int .i64 (m 0), .int .i64 (m 1), .int .i64 (m 2), .sl 3 1 0, .sla none 0 0, .sla none 0 0]), some (.blk [.sl 2 nn 0]), some (coR9 cs (setTh cs ts 0 0) nn), some (.row 123 3 1 0 (fun _ => [.int .i64 lc, .int .i64 (mskN o s), .int .i64 v]))]) :=
 enterI (n := 40) (by kernel_rfl) Tryz.func30 rfl rfl rfl fun G w a h0 hI A => N9 8 A rfl rfl fun A => I9 [0, 1, 2] CodesAt.ok hI.1 (mvA_ m cs ts nn hC hn3) A rfl fun A => N9 16 A rfl rfl fun A => fork 16 A rfl
  (fun h1 A => absurd h1 (by simp; omega))
  (fun h1 A => N9 10 A rfl (ok_d (by omega) <| ok_d (by omega) <| ok_d (by omega) <| okE_nil) fun A => have A := sy_sayD A 21 (.int .i64 0) rfl (fun _ => congrArg (fun z => some (Value.int .i64 z)) hm2); N9 11 A rfl (ok_d (by omega) <| ok_d (by omega) <| ok_d (by omega) <| okE_nil) fun A => have A := sy_sayD A 26 (.int .i64 2) rfl (fun _ => congrArg (fun z => some (Value.int .i64 z)) hm1); N9 3 A rfl rfl fun A => forkE 27 A rfl
   (fun h2 A => absurd h2 (by decide))
   (fun h2 A => N9 4 A rfl rfl fun A => DRAWN hX hmo [] [(7, .int .i64 0, [some (.blk [.ptr 1 0, .int .i64 (m 0), .int .i64 (m 1), .int .i64 (m 2), .sl 4 1 0, .sla none 0 0, .sla none 0 0]), some (.blk [.sl 2 nn 0]), some (coR9 cs ts nn), some (.row 44 4 ((mvL cs ts bnA nn).length) 0 (mvF (mvL cs ts bnA nn))), some (.row 123 3 1 0 (fun _ => [.int .i64 lc, .int .i64 (mskN o s), .int .i64 v]))]), (8, .tt, [some (.blk [.ptr 1 0, .int .i64 (m 0), .int .i64 (m 1), .int .i64 (m 2), .sl 4 1 0, .sla none 0 0, .sla none 0 0]), some (.blk [.sl 2 nn 0]), some (coR9 cs (setTh cs ts 0 0) nn), some (.row 44 4 ((mvL cs ts bnA nn).length) 0 (mvF (mvL cs ts bnA nn))), some (.row 123 3 1 0 (fun _ => [.int .i64 lc, .int .i64 (mskN o s), .int .i64 v]))])] A rfl rfl rfl rfl (by kernel_rfl) ⟨callIE [0, 1, 2] TI.ok hI (touchS_ m cs ts nn lc o s v hC h0n hl hO hop hq1 hq2 hq3) rfl rfl rfl rfl rfl rfl rfl, ⟨callIE [1, 2] CodesAt.ok hI.1 (pass0_ cs ts nn 0 hC h0n hst) rfl rfl rfl rfl rfl rfl rfl, trivial⟩⟩ trivial fun A => N9 2 A rfl rfl fun A => RET hX [4] A ⟨rfl, rfl⟩ rfl rfl rfl rfl rfl rfl rfl rfl h0))
theorem doL_ (m : Nat → Int) (cs : List Cde) (ts : List Th) (nn : Nat) (lc o s v d i : Int) (hC : CoreOK cs ts nn) (hn3 : nn ≤ 3) (h0n : 0 < nn) (hl : 0 ≤ lc ∧ lc < 3) (hO : OS o s) (hst : (sk0 ts).at_ < (cs.getD ((0 : Int).toNat) Cde.z).l.length) (hop : (ik0 cs ts).op = 4) (hq1 : spL (ik0 cs ts) = lc) (hq2 : spM (sk0 ts).r (ik0 cs ts) = mskN o s) (hq3 : spD (sk0 ts).r (ik0 cs ts) = d) (hi : 0 ≤ i ∧ i < (((mvL cs ts bnB nn).length : Nat) : Int)) (hm1 : ((mvL cs ts bnB nn).getD (i).toNat (0, 0, 0)).1 = 2) (hm2 : ((mvL cs ts bnB nn).getD (i).toNat (0, 0, 0)).2.1 = 0) : FnI (TI cs) Tryz.prog 30 [.ptr 0 0, .int .i64 i] [some (.blk [.ptr 1 0, .int .i64 (m 0), .int .i64 (m 1), .int .i64 (m 2), .sl 3 1 0, .sla none 0 0, .sla none 0 0]), some (.blk [.sl 2 nn 0]), some (coR9 cs ts nn), some (.row 123 3 1 0 (fun _ => [.int .i64 lc, .int .i64 (mskN o s), .int .i64 v]))] (Rt (.tt) [some (.blk [.ptr 1 0, .int .i64 (m 0), .int .i64 (m 1), .int .i64 (m 2), .sl 3 1 0, .sla none 0 0, .sla none 0 0]), some (.blk [.sl 2 nn 0]), some (.row 125 10 nn 0 (fun zz => rnT (cs.getD zz Cde.z) ((setTh cs ts 0 (bgeta0 ((updR m lc.toNat (bputa0 (m lc.toNat) o s v)) lc.toNat) o s)).getD zz Th.z))), some (.row 123 3 1 0 (fun _ => [.int .i64 lc, .int .i64 (mskN o s), .int .i64 v]))]) :=
 enterI (n := 40) (by kernel_rfl) Tryz.func30 rfl rfl rfl fun G w a h0 hI A => N9 8 A rfl rfl fun A => I9 [0, 1, 2, 3] CodesAt.ok hI.1 (mvB_ m cs ts nn lc o s v hC hn3) A rfl fun A => N9 16 A rfl rfl fun A => fork 16 A rfl
  (fun h1 A => absurd h1 (by simp; omega))
  (fun h1 A => N9 10 A rfl (ok_d (by omega) <| ok_d (by omega) <| ok_d (by omega) <| okE_nil) fun A => have A := sy_sayD A 21 (.int .i64 0) rfl (fun _ => congrArg (fun z => some (Value.int .i64 z)) hm2); N9 11 A rfl (ok_d (by omega) <| ok_d (by omega) <| ok_d (by omega) <| okE_nil) fun A => have A := sy_sayD A 26 (.int .i64 2) rfl (fun _ => congrArg (fun z => some (Value.int .i64 z)) hm1); N9 3 A rfl rfl fun A => forkE 27 A rfl
   (fun h2 A => absurd h2 (by decide))
   (fun h2 A => N9 4 A rfl rfl fun A => DRAWN hX hmo [] [(7, .int .i64 (bgeta0 ((updR m lc.toNat (bputa0 (m lc.toNat) o s v)) lc.toNat) o s), [some (.blk [.ptr 1 0, .int .i64 (m 0), .int .i64 (m 1), .int .i64 (m 2), .sl 3 1 0, .sla none 0 0, .sla none 0 0]), some (.blk [.sl 2 nn 0]), some (coR9 cs ts nn), some (.row 123 3 1 0 (fun _ => [.int .i64 lc, .int .i64 (mskN o s), .int .i64 v])), some (.row 44 4 ((mvL cs ts bnB nn).length) 0 (mvF (mvL cs ts bnB nn)))]), (8, .tt, [some (.blk [.ptr 1 0, .int .i64 (m 0), .int .i64 (m 1), .int .i64 (m 2), .sl 3 1 0, .sla none 0 0, .sla none 0 0]), some (.blk [.sl 2 nn 0]), some (.row 125 10 nn 0 (fun zz => rnT (cs.getD zz Cde.z) ((setTh cs ts 0 (bgeta0 ((updR m lc.toNat (bputa0 (m lc.toNat) o s v)) lc.toNat) o s)).getD zz Th.z))), some (.row 123 3 1 0 (fun _ => [.int .i64 lc, .int .i64 (mskN o s), .int .i64 v])), some (.row 44 4 ((mvL cs ts bnB nn).length) 0 (mvF (mvL cs ts bnB nn)))])] A rfl rfl rfl rfl (by kernel_rfl) ⟨callIE [0, 1, 2, 3] TI.ok hI (touchL_ m cs ts nn lc o s v d hC h0n hl hO hop hq1 hq2 hq3) rfl rfl rfl rfl rfl rfl rfl, ⟨callIE [1, 2] CodesAt.ok hI.1 (pass0_ cs ts nn (bgeta0 ((updR m lc.toNat (bputa0 (m lc.toNat) o s v)) lc.toNat) o s) hC h0n hst) rfl rfl rfl rfl rfl rfl rfl, trivial⟩⟩ trivial fun A => N9 2 A rfl rfl fun A => R9 A rfl h0 rfl rfl rfl))
theorem doD_ (m : Nat → Int) (cs : List Cde) (ts : List Th) (nn : Nat) (lc o s v i : Int) (hC : CoreOK cs ts nn) (hn3 : nn ≤ 3) (hl : 0 ≤ lc ∧ lc < 3) (hO : OS o s) (hi : 0 ≤ i ∧ i < (((mvL cs ts bnB nn).length : Nat) : Int)) (hm1 : ((mvL cs ts bnB nn).getD (i).toNat (0, 0, 0)).1 = 3) (hm2 : ((mvL cs ts bnB nn).getD (i).toNat (0, 0, 0)).2.1 = 0) : FnI (TI cs) Tryz.prog 30 [.ptr 0 0, .int .i64 i] [some (.blk [.ptr 1 0, .int .i64 (m 0), .int .i64 (m 1), .int .i64 (m 2), .sl 3 1 0, .sla none 0 0, .sla none 0 0]), some (.blk [.sl 2 nn 0]), some (coR9 cs ts nn), some (.row 123 3 1 0 (fun _ => [.int .i64 lc, .int .i64 (mskN o s), .int .i64 v]))] (Rt (.tt) [some (.blk [.ptr 1 0, .int .i64 ((updR m lc.toNat (bputa0 (m lc.toNat) o s v)) 0), .int .i64 ((updR m lc.toNat (bputa0 (m lc.toNat) o s v)) 1), .int .i64 ((updR m lc.toNat (bputa0 (m lc.toNat) o s v)) 2), .st 3 3 1 0 0, .sla none 0 0, .sla none 0 0]), some (.blk [.sl 2 nn 0]), some (coR9 cs ts nn), some (.row 123 3 1 0 (fun _ => [.int .i64 lc, .int .i64 (mskN o s), .int .i64 v]))]) :=
 enterI (n := 40) (by kernel_rfl) Tryz.func30 rfl rfl rfl fun G w a h0 hI A => N9 8 A rfl rfl fun A => I9 [0, 1, 2, 3] CodesAt.ok hI.1 (mvB_ m cs ts nn lc o s v hC hn3) A rfl fun A => N9 16 A rfl rfl fun A => fork 16 A rfl
  (fun h1 A => absurd h1 (by simp; omega))
  (fun h1 A => N9 10 A rfl (ok_d (by omega) <| ok_d (by omega) <| ok_d (by omega) <| okE_nil) fun A => have A := sy_sayD A 21 (.int .i64 0) rfl (fun _ => congrArg (fun z => some (Value.int .i64 z)) hm2); N9 11 A rfl (ok_d (by omega) <| ok_d (by omega) <| ok_d (by omega) <| okE_nil) fun A => have A := sy_sayD A 26 (.int .i64 3) rfl (fun _ => congrArg (fun z => some (Value.int .i64 z)) hm1); N9 3 A rfl rfl fun A => forkE 27 A rfl
   (fun h2 A => N9 5 A rfl rfl fun A => I9 [0, 1, 2, 3] LstAt.ok hI.2 (drain_ m cs ts nn lc o s v hl hO) A rfl fun A => N9 8 A rfl rfl fun A => R9 A rfl h0 rfl rfl rfl)
   (fun h2 A => absurd rfl h2))
theorem doF_ (m : Nat → Int) (cs : List Cde) (ts : List Th) (nn : Nat) (lc o s v i : Int) (hC : CoreOK cs ts nn) (hn3 : nn ≤ 3) (hi : ¬ (0 ≤ i ∧ i < (((mvL cs ts bnB nn).length : Nat) : Int))) : FnI (TI cs) Tryz.prog 30 [.ptr 0 0, .int .i64 i] [some (.blk [.ptr 1 0, .int .i64 (m 0), .int .i64 (m 1), .int .i64 (m 2), .sl 3 1 0, .sla none 0 0, .sla none 0 0]), some (.blk [.sl 2 nn 0]), some (coR9 cs ts nn), some (.row 123 3 1 0 (fun _ => [.int .i64 lc, .int .i64 (mskN o s), .int .i64 v]))] (Rt (.ff) [some (.blk [.ptr 1 0, .int .i64 (m 0), .int .i64 (m 1), .int .i64 (m 2), .sl 3 1 0, .sla none 0 0, .sla none 0 0]), some (.blk [.sl 2 nn 0]), some (coR9 cs ts nn), some (.row 123 3 1 0 (fun _ => [.int .i64 lc, .int .i64 (mskN o s), .int .i64 v]))]) :=
 enterI (n := 40) (by kernel_rfl) Tryz.func30 rfl rfl rfl fun G w a h0 hI A => N9 8 A rfl rfl fun A => I9 [0, 1, 2, 3] CodesAt.ok hI.1 (mvB_ m cs ts nn lc o s v hC hn3) A rfl fun A => N9 16 A rfl rfl fun A => fork 16 A rfl
  (fun h1 A => N9 7 A rfl rfl fun A => R9 A rfl h0 rfl rfl rfl)
  (fun h1 A => absurd h1 (by simp; omega))
theorem doneC_ (m : Nat → Int) (cs : List Cde) (ts : List Th) (nn : Nat) (lc o s v : Int) (hC : CoreOK cs ts nn) (hn3 : nn ≤ 3)  : FnI (TI cs) Tryz.prog 36 [.ptr 0 0] [some (.blk [.ptr 1 0, .int .i64 (m 0), .int .i64 (m 1), .int .i64 (m 2), .st 3 3 1 0 0, .sla none 0 0, .sla none 0 0]), some (.blk [.sl 2 nn 0]), some (coR9 cs ts nn), some (.row 123 3 1 0 (fun _ => [.int .i64 lc, .int .i64 (mskN o s), .int .i64 v]))] (Rt (.bool ((((mvL cs ts bnA nn).length : Nat) : Int) == 0)) [some (.blk [.ptr 1 0, .int .i64 (m 0), .int .i64 (m 1), .int .i64 (m 2), .st 3 3 1 0 0, .sla none 0 0, .sla none 0 0]), some (.blk [.sl 2 nn 0]), some (coR9 cs ts nn), some (.row 123 3 1 0 (fun _ => [.int .i64 lc, .int .i64 (mskN o s), .int .i64 v]))]) :=
 enterI (n := 7) (by kernel_rfl) Tryz.func36 rfl rfl rfl fun G w a h0 hI A => N9 8 A rfl rfl fun A => I9 [0, 1, 2, 3] CodesAt.ok hI.1 (mvC_ m cs ts nn lc o s v hC hn3) A rfl fun A => N9 6 A rfl rfl fun A => R9 A rfl h0 rfl rfl rfl
end Go.Proofs.YtbbdanhpphlbpaaGreatDoor.Mc
namespace Go.Proofs.YtbbdanhpphlbpaaGreatDoor.Mc
open Go.RowKit
set_option linter.unusedVariables false
set_option linter.unusedSimpArgs false
set_option maxRecDepth 100000
set_option maxHeartbeats 2000000
set_option simprocs false
theorem memB_ (m : Nat → Int) (cs : List Cde) (ts : List Th) (nn : Nat) (lc o s v q : Int) (hq : 0 ≤ q ∧ q < 3) : Fn Tryz.prog 40 [.ptr 0 0, .int .i64 q] [some (.blk [.ptr 1 0, .int .i64 (m 0), .int .i64 (m 1), .int .i64 (m 2), .sl 3 1 0, .sla none 0 0, .sla none 0 0]), some (.blk [.sl 2 nn 0]), some (coR9 cs ts nn), some (.row 123 3 1 0 (fun _ => [.int .i64 lc, .int .i64 (mskN o s), .int .i64 v]))] (Rt (.int .i64 (m (q).toNat)) [some (.blk [.ptr 1 0, .int .i64 (m 0), .int .i64 (m 1), .int .i64 (m 2), .sl 3 1 0, .sla none 0 0, .sla none 0 0]), some (.blk [.sl 2 nn 0]), some (coR9 cs ts nn), some (.row 123 3 1 0 (fun _ => [.int .i64 lc, .int .i64 (mskN o s), .int .i64 v]))]) :=
 enterM (n := 10) (by kernel_rfl) Tryz.func40 rfl rfl rfl fun G w a h0 A => N9 11 A rfl rfl fun A => q_eff A rfl (subE (l := [.ptr 1 0]) (r := [.sl 3 1 0, .sla none 0 0, .sla none 0 0]) (I := fun _ _ => True) (fun _ _ _ _ _ _ _ => trivial) trivial (mAt_ m q hq).toI rfl rfl rfl rfl rfl) fun A => N9 4 A rfl rfl fun A => R9 A rfl h0 rfl rfl rfl
theorem memC_ (m : Nat → Int) (cs : List Cde) (ts : List Th) (nn : Nat) (lc o s v q : Int) (hq : 0 ≤ q ∧ q < 3) : Fn Tryz.prog 40 [.ptr 0 0, .int .i64 q] [some (.blk [.ptr 1 0, .int .i64 (m 0), .int .i64 (m 1), .int .i64 (m 2), .st 3 3 1 0 0, .sla none 0 0, .sla none 0 0]), some (.blk [.sl 2 nn 0]), some (coR9 cs ts nn), some (.row 123 3 1 0 (fun _ => [.int .i64 lc, .int .i64 (mskN o s), .int .i64 v]))] (Rt (.int .i64 (m (q).toNat)) [some (.blk [.ptr 1 0, .int .i64 (m 0), .int .i64 (m 1), .int .i64 (m 2), .st 3 3 1 0 0, .sla none 0 0, .sla none 0 0]), some (.blk [.sl 2 nn 0]), some (coR9 cs ts nn), some (.row 123 3 1 0 (fun _ => [.int .i64 lc, .int .i64 (mskN o s), .int .i64 v]))]) :=
 enterM (n := 10) (by kernel_rfl) Tryz.func40 rfl rfl rfl fun G w a h0 A => N9 11 A rfl rfl fun A => q_eff A rfl (subE (l := [.ptr 1 0]) (r := [.st 3 3 1 0 0, .sla none 0 0, .sla none 0 0]) (I := fun _ _ => True) (fun _ _ _ _ _ _ _ => trivial) trivial (mAt_ m q hq).toI rfl rfl rfl rfl rfl) fun A => N9 4 A rfl rfl fun A => R9 A rfl h0 rfl rfl rfl
abbrev codS0 : List In := [(⟨5, -1, 7, -1, 0, 0, 0, -1, 8, 0, false, false, false, 0, 0, 0, false⟩ : In), (⟨4, 0, -1, -1, 0, 1, 0, -1, 8, 0, false, false, false, 0, 0, 0, false⟩ : In)]
abbrev codS1 : List In := [(⟨5, -1, 7, -1, 0, 1, 0, -1, 8, 0, false, false, false, 0, 0, 0, false⟩ : In), (⟨4, 0, -1, -1, 0, 0, 0, -1, 8, 0, false, false, false, 0, 0, 0, false⟩ : In)]
abbrev csS (b1 b2 : Nat) : List Cde := [⟨some ⟨b1, 0, none⟩, codS0, 2⟩, ⟨some ⟨b2, 0, none⟩, codS1, 2⟩]
abbrev rgS : Nat → Rg := fun t k => if k = 7 then (if t = 2 then 0 else 1) else 0
abbrev mZ : Nat → Int := fun _ => 0
theorem ckS_ (b1 b2 : Nat) : ckE (csS b1 b2) = 0 := by rfl
theorem preS {b1 b2 b3 b4 lo : Nat} {cz c1 c2 : List SV} {w : World} {ks : List Nat} (hA : Acc lo [(b4, cz), (b3, [.sla (some ⟨b1, 0, none⟩) 2 2, .sla (some ⟨b2, 0, none⟩) 2 2]), (b2, c2), (b1, c1)] w ks) (hc1 : denL [] c1 = denL [] (codS0.flatMap insS)) (hc2 : denL [] c2 = denL [] (codS1.flatMap insS)) : LstAt (some ⟨b3, 0, none⟩) 1 (csS b1 b2).length (fun zz => cdc ((csS b1 b2).getD zz Cde.z)) w [] ∧ CodesAt (csS b1 b2) w [] := by
 have hA := hA.bare
 obtain ⟨_, v3, d3, l3⟩ := hA (b3, _) (.tail _ (.head _))
 obtain ⟨_, v2, d2, l2⟩ := hA (b2, _) (.tail _ (.tail _ (.head _)))
 obtain ⟨_, v1, d1, l1⟩ := hA (b1, _) (.tail _ (.tail _ (.tail _ (.head _))))
 refine ⟨lstL_of Cde.z cdc 1 (fun _ => rfl) (fun _ => rfl) (fun x => ⟨_, rfl⟩) (csS b1 b2) l3 d3, fun c hc => ?_⟩
 rcases List.mem_cons.1 hc with rfl | hc
 ·exact lstL_of In.z insS 17 (fun _ => rfl) (fun _ => rfl) (fun x => ⟨_, rfl⟩) codS0 l1 (hc1.symm.trans d1)
 ·rw [List.mem_singleton] at hc
  subst hc
  exact lstL_of In.z insS 17 (fun _ => rfl) (fun _ => rfl) (fun x => ⟨_, rfl⟩) codS1 l2 (hc2.symm.trans d2)
def SbJ : SV → World → World → Prop := fun x w w' => ∃ b1 b2 b3 b4 : Nat, x = .agg [.int .i64 1, .str [83, 66], .z9, .z9, .z9, .z9, .z9, .z9, .z9, .z9, .z9, .z9, .int .i64 1, .z9, .z9, .z9, .z9, .z9, .z9, .z9, .int .i64 1, .z9, .z9, .z9, .z9, .z9, .z9, .z9, .z9, .sla (some ⟨b3, 0, none⟩) 2 2, .int .i64 1, .sla (some ⟨b4, 0, none⟩) 1 1] ∧ LstAt (some ⟨b3, 0, none⟩) 1 (csS b1 b2).length (fun zz => cdc ((csS b1 b2).getD zz Cde.z)) w' [] ∧ CodesAt (csS b1 b2) w' []
theorem sb_ : FnW Tryz.prog 72 [.int .i64 1] [] [] (fun _ => True) SbJ :=
 enterW (n := 32) (by kernel_rfl) Tryz.func72 rfl rfl rfl (fun i e h => by rw [List.getElem?_nil] at h; cases h) fun G w a h0 ho hp A => have B := A; have hA := Acc.nil (lo := w.heap.size) (w := w) (ks := keys [] G); have A := A.base; N9 20 A rfl rfl fun A => ANY hmo [.agg [.int .i64 5, .int .i64 (-1), .int .i64 7, .int .i64 (-1), .z9, .z9, .z9, .int .i64 (-1), .int .i64 8, .z9, .ff, .ff, .ff, .z9, .z9, .z9, .ff], .agg [.int .i64 4, .z9, .int .i64 (-1), .int .i64 (-1), .z9, .z9, .z9, .int .i64 (-1), .int .i64 8, .z9, .ff, .ff, .ff, .z9, .z9, .z9, .ff], .ptr 3 0, .ptr 4 0, .tup [], .tup []] [2, 3, 4, 5] [3, 4] 2 [([], [3, 4], [some (.blk [.z9, .str [], .z9, .z9, .z9, .z9, .z9, .z9, .z9, .z9, .z9, .z9, .z9, .z9, .z9, .z9, .z9, .z9, .z9, .z9, .z9, .z9, .z9, .z9, .z9, .z9, .z9, .z9, .z9, .sla none 0 0, .z9, .sla none 0 0]), some (.blk [.int .i64 5, .int .i64 (-1), .int .i64 7, .int .i64 (-1), .z9, .z9, .z9, .int .i64 (-1), .int .i64 8, .z9, .ff, .ff, .ff, .z9, .z9, .z9, .ff]), some (.blk [.int .i64 4, .z9, .int .i64 (-1), .int .i64 (-1), .z9, .z9, .z9, .int .i64 (-1), .int .i64 8, .z9, .ff, .ff, .ff, .z9, .z9, .z9, .ff]), none, none]), ([2], [4], [some (.blk [.z9, .str [], .z9, .z9, .z9, .z9, .z9, .z9, .z9, .z9, .z9, .z9, .z9, .z9, .z9, .z9, .z9, .z9, .z9, .z9, .z9, .z9, .z9, .z9, .z9, .z9, .z9, .z9, .z9, .sla none 0 0, .z9, .sla none 0 0]), some (.blk [.int .i64 5, .int .i64 (-1), .int .i64 7, .int .i64 (-1), .z9, .z9, .z9, .int .i64 (-1), .int .i64 8, .z9, .ff, .ff, .ff, .z9, .z9, .z9, .ff]), some (.blk [.int .i64 4, .z9, .int .i64 (-1), .int .i64 (-1), .z9, .z9, .z9, .int .i64 (-1), .int .i64 8, .z9, .ff, .ff, .ff, .z9, .z9, .z9, .ff]), some (.blk [.z9, .z9, .z9, .z9, .z9, .z9, .z9, .z9, .z9, .z9, .ff, .ff, .ff, .z9, .z9, .z9, .ff]), none]), ([3], [3], [some (.blk [.z9, .str [], .z9, .z9, .z9, .z9, .z9, .z9, .z9, .z9, .z9, .z9, .z9, .z9, .z9, .z9, .z9, .z9, .z9, .z9, .z9, .z9, .z9, .z9, .z9, .z9, .z9, .z9, .z9, .sla none 0 0, .z9, .sla none 0 0]), some (.blk [.int .i64 5, .int .i64 (-1), .int .i64 7, .int .i64 (-1), .z9, .z9, .z9, .int .i64 (-1), .int .i64 8, .z9, .ff, .ff, .ff, .z9, .z9, .z9, .ff]), some (.blk [.int .i64 4, .z9, .int .i64 (-1), .int .i64 (-1), .z9, .z9, .z9, .int .i64 (-1), .int .i64 8, .z9, .ff, .ff, .ff, .z9, .z9, .z9, .ff]), none, some (.blk [.z9, .z9, .z9, .z9, .z9, .z9, .z9, .z9, .z9, .z9, .ff, .ff, .ff, .z9, .z9, .z9, .ff])]), ([2, 3], [], [some (.blk [.z9, .str [], .z9, .z9, .z9, .z9, .z9, .z9, .z9, .z9, .z9, .z9, .z9, .z9, .z9, .z9, .z9, .z9, .z9, .z9, .z9, .z9, .z9, .z9, .z9, .z9, .z9, .z9, .z9, .sla none 0 0, .z9, .sla none 0 0]), some (.blk [.int .i64 5, .int .i64 (-1), .int .i64 7, .int .i64 (-1), .z9, .z9, .z9, .int .i64 (-1), .int .i64 8, .z9, .ff, .ff, .ff, .z9, .z9, .z9, .ff]), some (.blk [.int .i64 4, .z9, .int .i64 (-1), .int .i64 (-1), .z9, .z9, .z9, .int .i64 (-1), .int .i64 8, .z9, .ff, .ff, .ff, .z9, .z9, .z9, .ff]), some (.blk [.z9, .z9, .z9, .z9, .z9, .z9, .z9, .z9, .z9, .z9, .ff, .ff, .ff, .z9, .z9, .z9, .ff]), some (.blk [.z9, .z9, .z9, .z9, .z9, .z9, .z9, .z9, .z9, .z9, .ff, .ff, .ff, .z9, .z9, .z9, .ff])]), ([2, 3, 4], [], [some (.blk [.z9, .str [], .z9, .z9, .z9, .z9, .z9, .z9, .z9, .z9, .z9, .z9, .z9, .z9, .z9, .z9, .z9, .z9, .z9, .z9, .z9, .z9, .z9, .z9, .z9, .z9, .z9, .z9, .z9, .sla none 0 0, .z9, .sla none 0 0]), some (.blk [.int .i64 5, .int .i64 (-1), .int .i64 7, .int .i64 (-1), .z9, .z9, .z9, .int .i64 (-1), .int .i64 8, .z9, .ff, .ff, .ff, .z9, .z9, .z9, .ff]), some (.blk [.int .i64 4, .z9, .int .i64 (-1), .int .i64 (-1), .z9, .z9, .z9, .int .i64 (-1), .int .i64 8, .z9, .ff, .ff, .ff, .z9, .z9, .z9, .ff]), some (.blk [.int .i64 5, .int .i64 (-1), .int .i64 7, .int .i64 (-1), .z9, .z9, .z9, .int .i64 (-1), .int .i64 8, .z9, .ff, .ff, .ff, .z9, .z9, .z9, .ff]), some (.blk [.z9, .z9, .z9, .z9, .z9, .z9, .z9, .z9, .z9, .z9, .ff, .ff, .ff, .z9, .z9, .z9, .ff])]), ([2, 3, 4, 5], [], [some (.blk [.z9, .str [], .z9, .z9, .z9, .z9, .z9, .z9, .z9, .z9, .z9, .z9, .z9, .z9, .z9, .z9, .z9, .z9, .z9, .z9, .z9, .z9, .z9, .z9, .z9, .z9, .z9, .z9, .z9, .sla none 0 0, .z9, .sla none 0 0]), some (.blk [.int .i64 5, .int .i64 (-1), .int .i64 7, .int .i64 (-1), .z9, .z9, .z9, .int .i64 (-1), .int .i64 8, .z9, .ff, .ff, .ff, .z9, .z9, .z9, .ff]), some (.blk [.int .i64 4, .z9, .int .i64 (-1), .int .i64 (-1), .z9, .z9, .z9, .int .i64 (-1), .int .i64 8, .z9, .ff, .ff, .ff, .z9, .z9, .z9, .ff]), some (.blk [.int .i64 5, .int .i64 (-1), .int .i64 7, .int .i64 (-1), .z9, .z9, .z9, .int .i64 (-1), .int .i64 8, .z9, .ff, .ff, .ff, .z9, .z9, .z9, .ff]), some (.blk [.int .i64 4, .z9, .int .i64 (-1), .int .i64 (-1), .z9, .z9, .z9, .int .i64 (-1), .int .i64 8, .z9, .ff, .ff, .ff, .z9, .z9, .z9, .ff])])] [[true, true, true, true, false, false], [true, true, false, true, false, false], [true, true, true, false, false, false], [true, true, false, false, true, false], [false, true, false, false, false, true], [false, false, false, false, false, false]] A rfl rfl rfl rfl (by kernel_rfl) rfl (by kernel_rfl) ⟨⟨oV9 0 rfl rfl, ⟨oV9 0 rfl rfl, ⟨⟨_, _, _, _, 1, rfl, rfl, rfl, rfl, new_at 3 (X := ⟨_, true⟩) hX rfl rfl (le0 h0 rfl) rfl rfl rfl rfl⟩, ⟨⟨_, _, _, _, 2, rfl, rfl, rfl, rfl, new_at 4 (X := ⟨_, true⟩) hX rfl rfl (le0 h0 rfl) rfl rfl rfl rfl⟩, trivial⟩⟩⟩⟩, ⟨⟨oV9 1 rfl rfl, ⟨oV9 1 rfl rfl, ⟨⟨_, _, _, _, 3, rfl, rfl, rfl, rfl, new_at 4 (X := ⟨_, true⟩) hX rfl rfl (le0 h0 rfl) rfl rfl rfl rfl⟩, trivial⟩⟩⟩, ⟨⟨oV9 2 rfl rfl, ⟨oV9 2 rfl rfl, ⟨⟨_, _, _, _, 3, rfl, rfl, rfl, rfl, new_at 3 (X := ⟨_, true⟩) hX rfl rfl (le0 h0 rfl) rfl rfl rfl rfl⟩, trivial⟩⟩⟩, ⟨⟨oV9 3 rfl rfl, ⟨oV9 3 rfl rfl, ⟨oE9 4 rfl (eff_auto (X := ⟨_, true⟩) (out := .upd 3 [.int .i64 5, .int .i64 (-1), .int .i64 7, .int .i64 (-1), .z9, .z9, .z9, .int .i64 (-1), .int .i64 8, .z9, .ff, .ff, .ff, .z9, .z9, .z9, .ff] _) hX rfl rfl), trivial⟩⟩⟩, ⟨⟨oV9 4 rfl rfl, ⟨oE9 5 rfl (eff_auto (X := ⟨_, true⟩) (out := .upd 4 [.int .i64 4, .z9, .int .i64 (-1), .int .i64 (-1), .z9, .z9, .z9, .int .i64 (-1), .int .i64 8, .z9, .ff, .ff, .ff, .z9, .z9, .z9, .ff] _) hX rfl rfl), trivial⟩⟩, ⟨trivial, trivial⟩⟩⟩⟩⟩⟩ fun A => N9 14 A rfl rfl fun A => BSCA [.int .i64 5, .int .i64 (-1), .int .i64 7, .int .i64 (-1), .z9, .z9, .z9, .int .i64 (-1), .int .i64 8, .z9, .ff, .ff, .ff, .z9, .z9, .z9, .ff, .int .i64 4, .z9, .int .i64 (-1), .int .i64 (-1), .z9, .int .i64 1, .z9, .int .i64 (-1), .int .i64 8, .z9, .ff, .ff, .ff, .z9, .z9, .z9, .ff] (X := ⟨_, true⟩) hX B hA A rfl rfl rfl rfl fun b1 B hA A =>
 N9 2 A rfl rfl fun A => BSCA [.int .i64 5, .int .i64 (-1), .int .i64 7, .int .i64 (-1), .z9, .int .i64 1, .z9, .int .i64 (-1), .int .i64 8, .z9, .ff, .ff, .ff, .z9, .z9, .z9, .ff, .int .i64 4, .z9, .int .i64 (-1), .int .i64 (-1), .z9, .z9, .z9, .int .i64 (-1), .int .i64 8, .z9, .ff, .ff, .ff, .z9, .z9, .z9, .ff] (X := ⟨_, true⟩) hX B hA A rfl rfl rfl rfl fun b2 B hA A =>
 BSCA [.sla (some ⟨b1, 0, none⟩) 2 2, .sla (some ⟨b2, 0, none⟩) 2 2] (X := ⟨_, true⟩) hX B hA A rfl rfl rfl rfl fun b3 B hA A =>
 N9 1 A rfl rfl fun A => BSCA [.int .i64 2, .z9, .z9, .z9, .z9] (X := ⟨_, true⟩) hX B hA A rfl rfl rfl rfl fun b4 B hA A =>
 N9 9 A rfl (ok_d (by omega) <| okE_nil) fun A => have A := sy_sayD A 26 (.ptr 5 5) rfl (ix_ptr 0 rfl); N9 1 A rfl (ok_d (by omega) <| okE_nil) fun A => have A := sy_sayD A 27 (.ptr 5 12) rfl (ix_ptr 7 rfl); N9 3 A rfl (ok_d (by omega) <| okE_nil) fun A => have A := sy_sayD A 29 (.ptr 5 13) rfl (ix_ptr 1 rfl); N9 1 A rfl (ok_d (by omega) <| okE_nil) fun A => have A := sy_sayD A 30 (.ptr 5 20) rfl (ix_ptr 7 rfl); N9 10 A rfl rfl fun A => RETW (J := SbJ) hX (B.trans A) rfl rfl rfl rfl ⟨b1, b2, b3, b4, rfl, preS (hA.now A) rfl rfl⟩
end Go.Proofs.YtbbdanhpphlbpaaGreatDoor.Mc
namespace Go.Proofs.YtbbdanhpphlbpaaGreatDoor
open Go.RowKit
set_option linter.unusedVariables false
abbrev BV := BitVec 64
def vB (b : BV) : Int := b.toInt
theorem wrap_vB (b : BV) : IntKind.wrap .i64 ((b.toNat : Nat) : Int) = vB b := by
 unfold vB
 rw [IntKind.wrap_i64, BitVec.toInt_eq_toNat_bmod, Int.bmod_def]
 have := b.isLt
 simp only [Nat.reducePow] at *
 omega
theorem ofInt_vB (b : BV) : BitVec.ofInt (IntKind.bits .i64) (vB b) = b := BitVec.ofInt_toInt
theorem vB_or (x y : BV) : IntKind.wrap .i64 ((((BitVec.ofInt (IntKind.bits .i64) (vB x)) ||| (BitVec.ofInt (IntKind.bits .i64) (vB y))).toNat : Nat) : Int) = vB (x ||| y) := by
 rw [ofInt_vB, ofInt_vB]; exact wrap_vB _
theorem vB_and (x y : BV) : IntKind.wrap .i64 ((((BitVec.ofInt (IntKind.bits .i64) (vB x)) &&& (BitVec.ofInt (IntKind.bits .i64) (vB y))).toNat : Nat) : Int) = vB (x &&& y) := by
 rw [ofInt_vB, ofInt_vB]; exact wrap_vB _
theorem vB_andNot (x y : BV) : IntKind.wrap .i64 ((((BitVec.ofInt (IntKind.bits .i64) (vB x)) &&& ~~~ (BitVec.ofInt (IntKind.bits .i64) (vB y))).toNat : Nat) : Int) = vB (x &&& ~~~y) := by
 rw [ofInt_vB, ofInt_vB]; exact wrap_vB _
theorem vB_ofInt {x : Int} (h : -9223372036854775808 ≤ x ∧ x ≤ 9223372036854775807) : vB (BitVec.ofInt 64 x) = x := by
 unfold vB
 rw [BitVec.toInt_ofInt, Int.bmod_def]
 simp only [Nat.reducePow]
 omega
theorem vB_shr (m : BV) (k : Nat) (hk : k < 64) : Int.fdiv (vB m) (2 ^ min k (IntKind.bits .i64)) = vB (m.sshiftRight k) := by
 have hr : min k (IntKind.bits .i64) = k := by show min k 64 = _; omega
 rw [hr]
 unfold vB
 rw [BitVec.toInt_sshiftRight, Int.shiftRight_eq_div_pow, Int.fdiv_eq_ediv_of_nonneg _ (by exact Int.le_of_lt (Int.pow_pos (by decide)))]
 push_cast; rfl
end Go.Proofs.YtbbdanhpphlbpaaGreatDoor
namespace Go.Proofs.YtbbdanhpphlbpaaGreatDoor.Mc
open Go.RowKit
set_option linter.unusedVariables false
set_option linter.unusedSimpArgs false
set_option maxRecDepth 100000
set_option maxHeartbeats 2000000
set_option simprocs false
def mask0 (v1 s1 : Int) : Int := if s1 = 8 then v1 else IntKind.wrap .i64 ((((BitVec.ofInt (IntKind.bits .i64) v1) &&& (BitVec.ofInt (IntKind.bits .i64) (IntKind.wrap .i64 ((IntKind.wrap .i64 (1 * 2 ^ min ((IntKind.wrap .i64 (8 * s1))).toNat (IntKind.bits .i64))) - 1)))).toNat : Nat) : Int)
theorem mask_ (v1 s1 : Int) (hs : s1 = 1 ∨ s1 = 2 ∨ s1 = 4 ∨ s1 = 8) : Fn Tryz.prog 42 [.int .i64 v1, .int .i64 s1] [] (Rt (.int .i64 (mask0 v1 s1)) []) :=
 enterM (n := 14) (by kernel_rfl) Tryz.func42 rfl rfl rfl fun G w a h0 A => M hX 12 A rfl rfl fun A => forkE 6 A rfl
  (fun h1 A => M hX 8 A rfl rfl fun A => R9 A rfl h0 rfl (by simp only [oneS, nb, nbL, nbH, mask0, if_pos h1]) rfl)
  (fun h1 A => M hX 15 A rfl (ok_d (by rw [wrap_in (by omega)]; omega) <| okE_nil) fun A => R9 A rfl h0 rfl (by simp only [oneS, nb, nbL, nbH, mask0, if_neg (h1)]) rfl)
set_option simprocs true in
theorem vB_shl (m : BV) (k : Nat) (hk : k < 64) : IntKind.wrap .i64 (vB m * 2 ^ min k (IntKind.bits .i64)) = vB (m <<< k) := by
 have hr : min k (IntKind.bits .i64) = k := by show min k 64 = _; omega
 rw [hr, IntKind.wrap_i64]
 have h2 : BitVec.ofInt 64 (vB m * 2 ^ k) = m <<< k := by
  rw [BitVec.ofInt_mul, BitVec.shiftLeft_eq_mul_twoPow]
  congr 1
  ·exact BitVec.ofInt_toInt
  ·exact BitVec.eq_of_toNat_eq (by
    rw [show ((2 : Int) ^ k) = ((2 ^ k : Nat) : Int) by push_cast; rfl, BitVec.ofInt_natCast]
    simp)
 rw [← h2]
 unfold vB
 rw [BitVec.toInt_ofInt, Int.bmod_def]
 simp only [Nat.reducePow]
 omega
theorem lay_bits (A X L : BV) (k n : Nat) (hL : ∀ i, i < 64 → L.getLsbD i = decide (i < n)) (hk : k + n ≤ 64) : ((A &&& ~~~(L <<< k)) ||| ((X <<< k) &&& (L <<< k))).sshiftRight k &&& L = X &&& L := by
 apply BitVec.eq_of_getLsbD_eq
 intro i hi
 rw [BitVec.getLsbD_and, BitVec.getLsbD_and, hL i hi]
 by_cases h : i < n
 ·rw [decide_eq_true h, Bool.and_true, Bool.and_true, BitVec.getLsbD_sshiftRight, if_pos (by omega), BitVec.getLsbD_or, BitVec.getLsbD_and, BitVec.getLsbD_and, BitVec.getLsbD_not, BitVec.getLsbD_shiftLeft, BitVec.getLsbD_shiftLeft]
  have e : k + i - k = i := by omega
  rw [e, hL i hi, decide_eq_true h]
  have h1 : k + i < 64 := by omega
  have h2 : ¬ 64 ≤ i := by omega
  have h3 : ¬ (k + i < k) := by omega
  simp [h1, h2, h3]
 ·rw [decide_eq_false h, Bool.and_false, Bool.and_false]
structure FP (o s : Int) (k n : Nat) (L : BV) : Prop where
 c : (!(((((((s == 1) || (s == 2)) || (s == 4)) || (s == 8)) && (decide (o ≥ 0))) && (decide (o ≤ (IntKind.wrap .i64 (8 - s))))) && ((Int.tmod o s) == 0))) = false
 sh : (IntKind.wrap .i64 (8 * o)).toNat = k
 m : IntKind.wrap .i64 ((IntKind.wrap .i64 (1 * 2 ^ min ((IntKind.wrap .i64 (8 * s))).toNat (IntKind.bits .i64))) - 1) = vB L
 b : ∀ i, i < 64 → L.getLsbD i = decide (i < n)
 h : k + n ≤ 64
 p : 0 < n
theorem FP.get {o s : Int} {k n : Nat} {L : BV} (h : FP o s k n L) (X : BV) : bgeta0 (vB X) o s = vB (X.sshiftRight k &&& L) := by
 have := h.h; have := h.p
 unfold bgeta0
 rw [if_neg (by rw [h.c]; decide), h.sh, vB_shr X k (by omega), h.m, vB_and]
theorem FP.put {o s : Int} {k n : Nat} {L : BV} (h : FP o s k n L) (a : Int) (X : BV) : bputa0 a o s (vB X) = vB ((BitVec.ofInt 64 a &&& ~~~(L <<< k)) ||| ((X <<< k) &&& (L <<< k))) := by
 have := h.h; have := h.p
 unfold bputa0
 rw [if_neg (by rw [h.c]; decide), h.sh, h.m, vB_shl L k (by omega), vB_shl X k (by omega), vB_and, show BitVec.ofInt (IntKind.bits .i64) a = BitVec.ofInt (IntKind.bits .i64) (vB (BitVec.ofInt 64 a)) from (ofInt_vB _).symm, vB_andNot, vB_or]
theorem FP.lay {o s : Int} {k n : Nat} {L : BV} (h : FP o s k n L) (a : Int) (X : BV) : bgeta0 (bputa0 a o s (vB X)) o s = vB (X &&& L) := by
 rw [h.put, h.get, lay_bits _ X L k n h.b h.h]
theorem FP.low {s : Int} {n : Nat} {L : BV} (h : FP 0 s 0 n L) (X : BV) : bget0 (vB X) s = vB (X &&& L) := by
 have e := h.get X
 rw [BitVec.sshiftRight_zero] at e
 exact e
theorem FP.fin {o s : Int} {k n : Nat} {L : BV} (h : FP o s k n L) (h0 : FP 0 s 0 n L) (a v : Int) (hv : -9223372036854775808 ≤ v ∧ v ≤ 9223372036854775807) : bget0 (bgeta0 (bputa0 a o s (bget0 v s)) o s) s = vB (BitVec.ofInt 64 v &&& L) := by
 conv => lhs; rw [← vB_ofInt hv]
 rw [h0.low, h.lay, h0.low, BitVec.and_assoc, BitVec.and_self, BitVec.and_assoc, BitVec.and_self]
abbrev L1 : BV := 255#64
abbrev L2 : BV := 65535#64
abbrev L4 : BV := 4294967295#64
abbrev L8 : BV := BitVec.allOnes 64
theorem FP.mk1 {o : Int} (k : Nat) (h : (!(((((((1 : Int) == 1) || ((1 : Int) == 2)) || ((1 : Int) == 4)) || ((1 : Int) == 8)) && (decide (o ≥ 0))) && (decide (o ≤ (IntKind.wrap .i64 (8 - 1)))) && ((Int.tmod o 1) == 0))) = false) (hk : (IntKind.wrap .i64 (8 * o)).toNat = k) (h2 : k ≤ 56) : FP o 1 k 8 L1 := ⟨h, hk, by decide +kernel, by decide +kernel, by omega, by decide⟩
theorem FP.mk2 {o : Int} (k : Nat) (h : (!(((((((2 : Int) == 1) || ((2 : Int) == 2)) || ((2 : Int) == 4)) || ((2 : Int) == 8)) && (decide (o ≥ 0))) && (decide (o ≤ (IntKind.wrap .i64 (8 - 2)))) && ((Int.tmod o 2) == 0))) = false) (hk : (IntKind.wrap .i64 (8 * o)).toNat = k) (h2 : k ≤ 48) : FP o 2 k 16 L2 := ⟨h, hk, by decide +kernel, by decide +kernel, by omega, by decide⟩
theorem FP.mk4 {o : Int} (k : Nat) (h : (!(((((((4 : Int) == 1) || ((4 : Int) == 2)) || ((4 : Int) == 4)) || ((4 : Int) == 8)) && (decide (o ≥ 0))) && (decide (o ≤ (IntKind.wrap .i64 (8 - 4)))) && ((Int.tmod o 4) == 0))) = false) (hk : (IntKind.wrap .i64 (8 * o)).toNat = k) (h2 : k ≤ 32) : FP o 4 k 32 L4 := ⟨h, hk, by decide +kernel, by decide +kernel, by omega, by decide⟩
theorem fp8 : FP 0 8 0 64 L8 := ⟨by decide, by decide, by decide +kernel, by decide +kernel, by omega, by decide⟩
theorem and_all (x : BV) : x &&& L8 = x := BitVec.and_allOnes
theorem fin_mask {o s v : Int} (a : Int) (hO : OS o s) (hv : -9223372036854775808 ≤ v ∧ v ≤ 9223372036854775807) : bget0 (bgeta0 (bputa0 a o s (bget0 v s)) o s) s = if s = 8 then v else if s = 4 then vB (BitVec.ofInt 64 v &&& L4) else if s = 2 then vB (BitVec.ofInt 64 v &&& L2) else vB (BitVec.ofInt 64 v &&& L1) := by
 rcases hO with ⟨rfl, rfl⟩ | ⟨rfl, rfl⟩ | ⟨rfl, rfl⟩ | ⟨rfl, rfl⟩ | ⟨rfl, rfl⟩ | ⟨rfl, rfl⟩ | ⟨rfl, rfl⟩ | ⟨rfl, rfl⟩ | ⟨rfl, rfl⟩ | ⟨rfl, rfl⟩ | ⟨rfl, rfl⟩ | ⟨rfl, rfl⟩ | ⟨rfl, rfl⟩ | ⟨rfl, rfl⟩ | ⟨rfl, rfl⟩
 ·exact (FP.mk1 0 (by decide) (by decide) (by decide)).fin (FP.mk1 0 (by decide) (by decide) (by decide)) a v hv
 ·exact (FP.mk1 8 (by decide) (by decide) (by decide)).fin (FP.mk1 0 (by decide) (by decide) (by decide)) a v hv
 ·exact (FP.mk1 16 (by decide) (by decide) (by decide)).fin (FP.mk1 0 (by decide) (by decide) (by decide)) a v hv
 ·exact (FP.mk1 24 (by decide) (by decide) (by decide)).fin (FP.mk1 0 (by decide) (by decide) (by decide)) a v hv
 ·exact (FP.mk1 32 (by decide) (by decide) (by decide)).fin (FP.mk1 0 (by decide) (by decide) (by decide)) a v hv
 ·exact (FP.mk1 40 (by decide) (by decide) (by decide)).fin (FP.mk1 0 (by decide) (by decide) (by decide)) a v hv
 ·exact (FP.mk1 48 (by decide) (by decide) (by decide)).fin (FP.mk1 0 (by decide) (by decide) (by decide)) a v hv
 ·exact (FP.mk1 56 (by decide) (by decide) (by decide)).fin (FP.mk1 0 (by decide) (by decide) (by decide)) a v hv
 ·exact (FP.mk2 0 (by decide) (by decide) (by decide)).fin (FP.mk2 0 (by decide) (by decide) (by decide)) a v hv
 ·exact (FP.mk2 16 (by decide) (by decide) (by decide)).fin (FP.mk2 0 (by decide) (by decide) (by decide)) a v hv
 ·exact (FP.mk2 32 (by decide) (by decide) (by decide)).fin (FP.mk2 0 (by decide) (by decide) (by decide)) a v hv
 ·exact (FP.mk2 48 (by decide) (by decide) (by decide)).fin (FP.mk2 0 (by decide) (by decide) (by decide)) a v hv
 ·exact (FP.mk4 0 (by decide) (by decide) (by decide)).fin (FP.mk4 0 (by decide) (by decide) (by decide)) a v hv
 ·exact (FP.mk4 32 (by decide) (by decide) (by decide)).fin (FP.mk4 0 (by decide) (by decide) (by decide)) a v hv
 ·have := fp8.fin fp8 a v hv
  rw [and_all, vB_ofInt hv] at this
  exact this
theorem mask_fin {o s v : Int} (a : Int) (hO : OS o s) (hv : -9223372036854775808 ≤ v ∧ v ≤ 9223372036854775807) : bget0 (bgeta0 (bputa0 a o s (bget0 v s)) o s) s = mask0 v s := by
 rw [fin_mask a hO hv]
 have key : ∀ {n : Nat} {L : BV}, FP 0 s 0 n L → s ≠ 8 → vB (BitVec.ofInt 64 v &&& L) = mask0 v s := fun h hs => by
  unfold mask0
  rw [if_neg hs, h.m, show BitVec.ofInt (IntKind.bits .i64) v = BitVec.ofInt (IntKind.bits .i64) (vB (BitVec.ofInt 64 v)) from (ofInt_vB _).symm, vB_and]
 rcases os_s hO with rfl | rfl | rfl | rfl
 ·rw [if_neg (by decide), if_neg (by decide), if_neg (by decide)]
  exact key (FP.mk1 0 (by decide) (by decide) (by decide)) (by decide)
 ·rw [if_neg (by decide), if_neg (by decide), if_pos (by decide)]
  exact key (FP.mk2 0 (by decide) (by decide) (by decide)) (by decide)
 ·rw [if_neg (by decide), if_pos (by decide)]
  exact key (FP.mk4 0 (by decide) (by decide) (by decide)) (by decide)
 ·rw [if_pos (by decide)]
  unfold mask0
  rw [if_pos (by decide)]
end Go.Proofs.YtbbdanhpphlbpaaGreatDoor.Mc
namespace Go.Proofs.YtbbdanhpphlbpaaGreatDoor.Mc
open Go.RowKit
set_option linter.unusedVariables false
set_option linter.unusedSimpArgs false
set_option maxRecDepth 100000
set_option maxHeartbeats 2000000
set_option simprocs false
theorem cRegI_ (cs : List Cde) (ts : List Th) (nn : Nat) (th g : Int) (hth : 0 ≤ th ∧ th < ((nn : Nat) : Int)) (hg : 0 ≤ g ∧ g < 8) : Fn Tryz.prog 41 [.ptr 0 0, .int .i64 th, .int .i64 g] [some (.blk [.sl 1 nn 0]), some (coR9 cs ts nn)] (Rt (.int .i64 ([((ts.getD ((th).toNat) Th.z).r 0), ((ts.getD ((th).toNat) Th.z).r 1), ((ts.getD ((th).toNat) Th.z).r 2), ((ts.getD ((th).toNat) Th.z).r 3), ((ts.getD ((th).toNat) Th.z).r 4), ((ts.getD ((th).toNat) Th.z).r 5), ((ts.getD ((th).toNat) Th.z).r 6), ((ts.getD ((th).toNat) Th.z).r 7)].getD (g).toNat 0)) [some (.blk [.sl 1 nn 0]), some (coR9 cs ts nn)]) :=
 enterM (n := 21) (by kernel_rfl) Tryz.func41 rfl rfl rfl fun G w a h0 A => N9 16 A rfl rfl fun A => fork 12 A rfl
  (fun h1 A => absurd h1 (by simp; omega))
  (fun h1 A => N9 7 A rfl rfl fun A => C9 [0, 1] (ofI_ cs ts nn th hth) A rfl fun A => N9 1 A rfl rfl fun A => q_eff A rfl (nckE rfl rfl rfl rfl (by omega)) fun A => N9 7 A rfl (ok_d (by omega) <| ok_d (by omega) <| ok_d (by omega) <| ok_d (by omega) <| ok_d (by omega) <| okE_nil) fun A => R9 A rfl h0 rfl rfl rfl)
end Go.Proofs.YtbbdanhpphlbpaaGreatDoor.Mc
namespace Go.Proofs.YtbbdanhpphlbpaaGreatDoor
open Go.RowKit
set_option linter.unusedVariables false
set_option linter.unusedSimpArgs false
set_option linter.unusedSectionVars false
section
variable {P : Program} {Y : Tb} {n : Nat} {ks : List Nat} {G0 : Gr} {w0 : World} {T : List (Nat × SV)} {H : Hp} {G : Gr} {a : Act} {w : World} {ops : Array Oper} {o : Oper} {Q : Exit → Act → World → Prop} {K : List Fr} {pos : Pos}
end
section
variable {P : Program} {n : Nat} {ks : List Nat} {G0 : Gr} {w0 : World} {T : List (Nat × SV)} {H : Hp} {G : Gr} {a : Act} {w : World} {ops : Array Oper} {o : Oper} {Q : Exit → Act → World → Prop} {pre : World → Prop} {i fuel : Nat} {listed : Array Bool}
theorem any_callW {f : Nat} {args az : List SV} {H' l : Hp} {ks' : List Nat} {J : SV → World → World → Prop} (m : List Nat) (ho : ops[i]? = some o) (hf : FnW P f args H' ks' pre J) (A : Sy n T H ks G0 w0 G a w) (hp : pre w) (hoff : Off H G ks') (hk : ∀ b, ks'.contains b = true → ks.contains b = true ∨ w0.heap.size ≤ b) (h1 : callS n ops T o = some (f, az)) (h2 : renL m args = some az) (h3 : renH m H' = some l) (h4 : pickH H m = some l) (h5 : ndB m = true)
  (k : ∀ {x a' w'}, Mix ks' w w' → J x w w' → Sy n (extS T o.dst x) H ks G0 w0 G a' w' → wpAny P .any ops Q fuel (listed.setIfInBounds i true) a' w') : wpOp P ops Q i (wpAny P .any ops Q fuel (listed.setIfInBounds i true)) a w := by
 obtain ⟨hd, us, hu, hdo⟩ := callS_do (P := P) (ops := ops) A h1 hf.1
 obtain ⟨p1, p2, p3⟩ := pickH_at h4
 obtain ⟨r1, r2⟩ := renH_at h3
 have hm : ∀ j ∈ m, j < G.length := fun j hj => by rw [← A.mem.len]; exact p2 j hj
 have hM := A.mem.sub h4 h3 h5
 have hv' : denL (pickG m G) args = some us := by rw [denL_ren hm args h2]; exact hu
 have ho' : Off H' (pickG m G) ks' := fun i e L q1 q2 q3 => by
  obtain ⟨f, s1, s2⟩ := r2 i _ q1
  obtain ⟨f', rfl⟩ := renE_some s2
  have hi : i < m.length := by rw [← p1]; exact (List.getElem?_eq_some_iff.1 s1).1
  have hj : m[i]? = some m[i] := by simp [hi]
  rw [pickG_at hm hj] at q2
  rw [p3 i _ hj] at s1
  exact hoff _ f' L s1 q2 fun h => q3 ((renE_mut s2).2.1 h)
 refine any_does ho (hdo (hf.2.2 _ w us hM ho' hp hv') fun e w' he => ?_)
 obtain ⟨x, v, e1, rfl, hg, hJ⟩ := he
 exact ⟨v, rfl, k hg hJ (Sy.put (A.mixed hg hoff hk) hd (by simpa using den_mono G x e1))⟩
end
end Go.Proofs.YtbbdanhpphlbpaaGreatDoor
namespace Go.Proofs.YtbbdanhpphlbpaaGreatDoor.Mc
open Go.RowKit
set_option linter.unusedVariables false
set_option linter.unusedSimpArgs false
set_option linter.unusedSectionVars false
set_option maxRecDepth 100000
def CDm (cs : List Cde) (N : Nat) : Amb := fun w ks => ∀ ks', (∀ b, ks'.contains b = true → b < N ∨ ks.contains b = true) → CodesAt cs w ks'
theorem mixW {ks ks' : List Nat} {w w' : World} (m : Mix ks w w') (h : ∀ b, ks.contains b = true → ks'.contains b = true) : Mix ks' w w' := ⟨m.os, m.tape, m.output, m.size, fun k hk hc => m.block k hk (by
 cases hz : ks.contains k with
 | false => rfl
 | true => rw [h k hz] at hc; cases hc)⟩
theorem CDm.ok {cs : List Cde} {N : Nat} : Amb.OK (CDm cs N) := fun w ks w' ks' h m hk ks2 h2 c hc => by
 have h3 := h (ks ++ ks2.filter (fun b => decide (b < w.heap.size))) (fun b hb => by
  rw [List.contains_iff_mem, List.mem_append] at hb
  rcases hb with hb | hb
  ·exact .inr (List.contains_iff_mem.2 hb)
  ·rw [List.mem_filter, decide_eq_true_eq] at hb
   rcases h2 b (List.contains_iff_mem.2 hb.1) with q | q
   ·exact .inl q
   ·rcases hk b q with q | q
    ·exact .inr q
    ·omega) c hc
 refine LstAt.ok _ _ _ _ h3 (mixW m fun b hb => by rw [List.contains_iff_mem] at hb ⊢; exact List.mem_append_left _ hb) fun b hb => ?_
 by_cases hl : b < w.heap.size
 ·refine .inl ?_
  rw [List.contains_iff_mem] at hb ⊢
  exact List.mem_append_right _ (List.mem_filter.2 ⟨hb, decide_eq_true hl⟩)
 ·exact .inr (by omega)
section
variable {P : Program} {n : Nat} {ks : List Nat} {G0 : Gr} {w0 : World} {T : List (Nat × SV)} {H : Hp} {G : Gr} {a : Act} {w : World} {ops : Array Oper} {o : Oper} {rest : List Oper} {Q : Exit → Act → World → Prop} {K : List Fr} {pre : World → Prop} {i fuel : Nat} {listed : Array Bool}
theorem any_newC {f : Nat} {args az : List SV} {cs : List Cde} {rg : Nat → Rg} {t : Nat} {H' : List Cde → Hp} (ho : ops[i]? = some o) (hf : FnW P f args [] [] pre (CoreJ cs rg)) (A : Sy n T H ks G0 w0 G a w) (hp : pre w) (h1 : callS n ops T o = some (f, az)) (h2 : renL [] args = some az) (hd : o.dst = some t)
  (hH : ∀ cs' : List Cde, H ++ [some (coR9 cs' (iniL cs rg) cs.length)] ++ [some (.blk [.sl H.length cs.length 0])] = H' cs')
  (k : ∀ cs' {G a w'}, CoreOK cs' (iniL cs rg) cs.length → (∀ k, k < cs.length → (cs'.getD k Cde.z).l = (cs.getD k Cde.z).l) → CDm cs' w0.heap.size w' (keys (H' cs') G) → Sy n ((t, .ptr (H.length + 1) 0) :: T) (H' cs') ks G0 w0 G a w' → wpAny P .any ops Q fuel (listed.setIfInBounds i true) a w') : wpOp P ops Q i (wpAny P .any ops Q fuel (listed.setIfInBounds i true)) a w := by
 refine any_callW [] ho hf A hp Off.nil (fun b h => by cases h) h1 h2 rfl rfl rfl fun {x a' w'} hm hJ A' => ?_
 obtain ⟨L, bt, cp, cs', rfl, hoc, hok, heq, hcd⟩ := hJ
 rw [hd] at A'
 obtain ⟨G', A2, hk⟩ := A'.takeCore t hoc A.mix.size (fun i e M q1 q2 q3 => by
  have := A.mem.ent i e q1
  rw [q2] at this
  exact EntOK.lt this q3) (by simp [extS, look, Nat.beq_refl]) (hH cs')
 refine k cs' hok heq (fun ks' hk' => hcd ks' fun b hb => ?_) ⟨A2.size, A2.defers, fun q x hx => A2.get q x ?_, A2.mem, A2.pre, A2.own, A2.mix⟩
 ·rcases hk' b hb with q | q
  ·exact .inl (Nat.lt_of_lt_of_le q A.mix.size)
  ·exact hk b q
 ·unfold look at hx ⊢
  cases hb : Nat.beq t q with
  | true => rw [hb] at hx; exact hx
  | false =>
   rw [hb] at hx
   show look (extS T (some t) _) q = some x
   simp only [extS]
   unfold look
   rw [hb]
   exact hx
end
abbrev mcV (L : Loc) (m : Nat → Int) : List Value := [.pointer (some ⟨L.b, L.pre.length, none⟩), .int .i64 (m 0), .int .i64 (m 1), .int .i64 (m 2), .slice none 0 0, .slice none 0 0, .slice none 0 0]
def MachJ (cs : List Cde) (rg : Nat → Rg) (m : Nat → Int) : SV → World → World → Prop := fun x w w' => ∃ (M L : Loc) (bt cp : Nat) (cs' : List Cde), x = adr M.b M.pre.length ∧ w.heap.size ≤ M.b ∧ M.b ≠ L.b ∧ M.b ≠ bt ∧ Blk w' M.b (M.pre ++ (mcV L m) ++ M.post).toArray M.t ∧ OutC 125 10 cs.length (fun zz => rnT (cs'.getD zz Cde.z) ((iniL cs rg).getD zz Th.z)) L bt cp w.heap.size w' ∧ CoreOK cs' (iniL cs rg) cs.length ∧ (∀ k, k < cs.length → (cs'.getD k Cde.z).l = (cs.getD k Cde.z).l) ∧ ∀ ks, (∀ b, ks.contains b = true → b < w.heap.size ∨ b = L.b ∨ b = bt ∨ b = M.b) → CodesAt cs' w' ks
section
variable {n : Nat} {T : List (Nat × SV)} {H : Hp} {G0 : Gr} {w0 : World} {G : Gr} {a : Act} {w : World}
theorem machJ_of {cs cs' : List Cde} {rg : Nat → Rg} {m : Nat → Int} (p i q t : Nat) (A : Sy n T H [] G0 w0 G a w) (hn : 0 < cs.length) (hp : lg H p = some (some (.blk [.ptr i 0, .int .i64 (m 0), .int .i64 (m 1), .int .i64 (m 2), .sla none 0 0, .sla none 0 0, .sla none 0 0]))) (hi : lg H i = some (some (.blk [.sl q cs.length 0]))) (hq : lg H q = some (some (coR9 cs' (iniL cs rg) cs.length))) (hiq : Nat.beq i q = false) (hpi : Nat.beq p i = false) (hpq : Nat.beq p q = false) (ht : look T t = some (.ptr p 0)) (hok : CoreOK cs' (iniL cs rg) cs.length) (he : ∀ k, k < cs.length → (cs'.getD k Cde.z).l = (cs.getD k Cde.z).l) (hc : CDm cs' w0.heap.size w (keys H G)) :
  ∃ M : Loc, Sy n ((t, adr M.b M.pre.length) :: T) H [] G0 w0 G a w ∧ MachJ cs rg m (adr M.b M.pre.length) w0 w := by
 have A0 : Sy n ((t + 1, .ptr i 0) :: ((t, .ptr p 0) :: T)) H [] G0 w0 G a w → True := fun _ => trivial
 rw [lg_is] at hp hi hq
 obtain ⟨M, vs, p1, p2, p3⟩ := A.mem.ent p _ hp
 have hGp : G[p]? = some (some M) := by
  cases hz : G[p]? with
  | none => rw [hz] at p1; cases p1
  | some z => rw [hz] at p1; simp only [Option.getD_some] at p1; rw [p1]
 obtain ⟨L, us, q1, q2, q3⟩ := A.mem.ent i _ hi
 have hGi : G[i]? = some (some L) := by
  cases hz : G[i]? with
  | none => rw [hz] at q1; cases q1
  | some z => rw [hz] at q1; simp only [Option.getD_some] at q1; rw [q1]
 obtain ⟨h1, h2, xs, h3, h4⟩ := A.mem.ent q _ hq
 obtain ⟨R, _, r1, _⟩ := row_range (A.mem.ent q _ hq) (k := 0) hn
 have hGq : G[q]? = some (some R) := by
  cases hz : G[q]? with
  | none => rw [hz] at r1; cases r1
  | some z => rw [hz] at r1; simp only [Option.getD_some] at r1; rw [r1]
 rw [hGq] at h2 h4
 have hpre : R.pre = [] := h2 R rfl
 have h4' : w.ownsRow 0 125 10 (.slice (some ⟨R.b, 0, none⟩) cs.length (0 + rm (some R))) cs.length xs := by
  have : (Option.map (fun L : Loc => (⟨L.b, L.pre.length, none⟩ : Addr)) (some R)) = some ⟨R.b, 0, none⟩ := by simp [hpre]
  rw [← this]; exact h4
 have hus : us = [.slice (some ⟨R.b, 0, none⟩) cs.length (0 + rm (some R))] := by
  have : denL G [.sl q cs.length 0] = some [.slice (some ⟨R.b, 0, none⟩) cs.length (0 + rm (some R))] := by
   unfold denL den
   rw [hGq]
   simp [hpre, denL]
  rw [this] at q2; exact (Option.some.inj q2).symm
 subst hus
 have hvs : vs = (mcV L m) := by
  have e1 : den G (.ptr i 0) = some (.pointer (some ⟨L.b, L.pre.length, none⟩)) := by unfold den; rw [hGi]; rfl
  have e2 : denL G [.ptr i 0, .int .i64 (m 0), .int .i64 (m 1), .int .i64 (m 2), .sla none 0 0, .sla none 0 0, .sla none 0 0] = some (mcV L m) := denL_mk e1 (by simpa using denL_mono (G := []) G [.int .i64 (m 0), .int .i64 (m 1), .int .i64 (m 2), .sla none 0 0, .sla none 0 0, .sla none 0 0] rfl)
  rw [e2] at p2; exact (Option.some.inj p2).symm
 subst hvs
 have ne : ∀ {x y : Nat}, Nat.beq x y = false → x ≠ y := fun h e => by subst e; rw [Nat.beq_refl] at h; cases h
 have own : ∀ {k : Nat} {en : Ent} {L : Loc}, H[k]? = some (some en) → en.mut = true → G[k]? = some (some L) → w0.heap.size ≤ L.b := fun h1 h2 h3 => (A.own _ _ _ h1 h2 h3).elim (fun h => by cases h) id
 refine ⟨M, A.slotEq t ht (by unfold den; rw [hGp]; rfl), M, L, R.b, 0 + rm (some R), cs', rfl, own hp rfl hGp, A.mem.sep p i _ _ M L (ne hpi) hp hi rfl hGp hGi (fun h => h), A.mem.sep p q _ _ M R (ne hpq) hp hq rfl hGp hGq (fun h => h), p3, ⟨q3, ⟨h1, xs, h3, h4'⟩, A.mem.sep i q _ _ L R (ne hiq) hi hq rfl hGi hGq (fun h => h), own hi rfl hGi, own hq rfl hGq⟩, hok, he, fun ks hk => hc ks fun b hb => ?_⟩
 rcases hk b hb with z | rfl | rfl | rfl
 ·exact .inl z
 ·exact .inr (mem_keys.2 ⟨i, _, L, hi, rfl, hGi, rfl⟩)
 ·exact .inr (mem_keys.2 ⟨q, _, R, hq, rfl, hGq, rfl⟩)
 ·exact .inr (mem_keys.2 ⟨p, _, M, hp, rfl, hGp, rfl⟩)
end
end Go.Proofs.YtbbdanhpphlbpaaGreatDoor.Mc
namespace Go.Proofs.YtbbdanhpphlbpaaGreatDoor.Mc
open Go.RowKit
set_option linter.unusedVariables false
set_option linter.unusedSimpArgs false
set_option maxRecDepth 100000
set_option maxHeartbeats 2000000
set_option simprocs false
theorem new_ (cs : List Cde) (ao : Option Addr) (cx : Nat) (rg : Nat → Rg) (m : Nat → Int) (x0 x1 : Int) (nm : List UInt8) (co : Option Addr) (cn cc : Nat) (hck : ckE cs = 0) (hcn : 0 < cs.length) : FnW Tryz.prog 27 [.agg [.int .i64 x0, .str nm, .int .i64 (m 0), .int .i64 (m 1), .int .i64 (m 2), .int .i64 (rg 0 0), .int .i64 (rg 0 1), .int .i64 (rg 0 2), .int .i64 (rg 0 3), .int .i64 (rg 0 4), .int .i64 (rg 0 5), .int .i64 (rg 0 6), .int .i64 (rg 0 7), .int .i64 (rg 1 0), .int .i64 (rg 1 1), .int .i64 (rg 1 2), .int .i64 (rg 1 3), .int .i64 (rg 1 4), .int .i64 (rg 1 5), .int .i64 (rg 1 6), .int .i64 (rg 1 7), .int .i64 (rg 2 0), .int .i64 (rg 2 1), .int .i64 (rg 2 2), .int .i64 (rg 2 3), .int .i64 (rg 2 4), .int .i64 (rg 2 5), .int .i64 (rg 2 6), .int .i64 (rg 2 7), .sla ao cs.length cx, .int .i64 x1, .sla co cn cc]] [] [] (fun w => LstAt ao 1 cs.length (fun zz => cdc (cs.getD zz Cde.z)) w [] ∧ CodesAt cs w []) (MachJ cs rg m) :=
 enterW (n := 9) (by kernel_rfl) Tryz.func27 rfl rfl rfl (fun i e h => by rw [List.getElem?_nil] at h; cases h) fun G w a h0 ho hp A => N9 7 A rfl rfl fun A => any_in 7 hmo rfl A fun {w2} A => any_cut (fun (tail : ∀ (cs' : List Cde) {G1 : Gr} {a1 : Act} {w1 : World}, CoreOK cs' (iniL cs rg) cs.length → (∀ k, k < cs.length → (cs'.getD k Cde.z).l = (cs.getD k Cde.z).l) → CDm cs' w.heap.size w1 (keys [some (.blk [.int .i64 x0, .str nm, .int .i64 (m 0), .int .i64 (m 1), .int .i64 (m 2), .int .i64 (rg 0 0), .int .i64 (rg 0 1), .int .i64 (rg 0 2), .int .i64 (rg 0 3), .int .i64 (rg 0 4), .int .i64 (rg 0 5), .int .i64 (rg 0 6), .int .i64 (rg 0 7), .int .i64 (rg 1 0), .int .i64 (rg 1 1), .int .i64 (rg 1 2), .int .i64 (rg 1 3), .int .i64 (rg 1 4), .int .i64 (rg 1 5), .int .i64 (rg 1 6), .int .i64 (rg 1 7), .int .i64 (rg 2 0), .int .i64 (rg 2 1), .int .i64 (rg 2 2), .int .i64 (rg 2 3), .int .i64 (rg 2 4), .int .i64 (rg 2 5), .int .i64 (rg 2 6), .int .i64 (rg 2 7), .sla ao cs.length cx, .int .i64 x1, .sla co cn cc]), some (coR9 cs' (iniL cs rg) cs.length), some (.blk [.sl 1 cs.length 0])] G1) → Sy 9 [(4, .ptr 2 0), (6, .agg [.int .i64 (m 0), .int .i64 (m 1), .int .i64 (m 2)])] [some (.blk [.int .i64 x0, .str nm, .int .i64 (m 0), .int .i64 (m 1), .int .i64 (m 2), .int .i64 (rg 0 0), .int .i64 (rg 0 1), .int .i64 (rg 0 2), .int .i64 (rg 0 3), .int .i64 (rg 0 4), .int .i64 (rg 0 5), .int .i64 (rg 0 6), .int .i64 (rg 0 7), .int .i64 (rg 1 0), .int .i64 (rg 1 1), .int .i64 (rg 1 2), .int .i64 (rg 1 3), .int .i64 (rg 1 4), .int .i64 (rg 1 5), .int .i64 (rg 1 6), .int .i64 (rg 1 7), .int .i64 (rg 2 0), .int .i64 (rg 2 1), .int .i64 (rg 2 2), .int .i64 (rg 2 3), .int .i64 (rg 2 4), .int .i64 (rg 2 5), .int .i64 (rg 2 6), .int .i64 (rg 2 7), .sla ao cs.length cx, .int .i64 x1, .sla co cn cc]), some (coR9 cs' (iniL cs rg) cs.length), some (.blk [.sl 1 cs.length 0])] [] G w G1 a1 w1 → wpAny Tryz.prog .any _ _ _ _ a1 w1) => any_at (rs := [0, 2]) (by kernel_rfl) (by decide) (fc9 ⟨aV9 (.agg [.int .i64 x0, .str nm, .int .i64 (m 0), .int .i64 (m 1), .int .i64 (m 2), .int .i64 (rg 0 0), .int .i64 (rg 0 1), .int .i64 (rg 0 2), .int .i64 (rg 0 3), .int .i64 (rg 0 4), .int .i64 (rg 0 5), .int .i64 (rg 0 6), .int .i64 (rg 0 7), .int .i64 (rg 1 0), .int .i64 (rg 1 1), .int .i64 (rg 1 2), .int .i64 (rg 1 3), .int .i64 (rg 1 4), .int .i64 (rg 1 5), .int .i64 (rg 1 6), .int .i64 (rg 1 7), .int .i64 (rg 2 0), .int .i64 (rg 2 1), .int .i64 (rg 2 2), .int .i64 (rg 2 3), .int .i64 (rg 2 4), .int .i64 (rg 2 5), .int .i64 (rg 2 6), .int .i64 (rg 2 7), .sla ao cs.length cx, .int .i64 x1, .sla co cn cc]) rfl A rfl rfl fun A => any_at (rs := [1, 2]) (by kernel_rfl) (by decide) (fc9 ⟨any_newC (H' := fun cs' => [some (.blk [.int .i64 x0, .str nm, .int .i64 (m 0), .int .i64 (m 1), .int .i64 (m 2), .int .i64 (rg 0 0), .int .i64 (rg 0 1), .int .i64 (rg 0 2), .int .i64 (rg 0 3), .int .i64 (rg 0 4), .int .i64 (rg 0 5), .int .i64 (rg 0 6), .int .i64 (rg 0 7), .int .i64 (rg 1 0), .int .i64 (rg 1 1), .int .i64 (rg 1 2), .int .i64 (rg 1 3), .int .i64 (rg 1 4), .int .i64 (rg 1 5), .int .i64 (rg 1 6), .int .i64 (rg 1 7), .int .i64 (rg 2 0), .int .i64 (rg 2 1), .int .i64 (rg 2 2), .int .i64 (rg 2 3), .int .i64 (rg 2 4), .int .i64 (rg 2 5), .int .i64 (rg 2 6), .int .i64 (rg 2 7), .sla ao cs.length cx, .int .i64 x1, .sla co cn cc]), some (coR9 cs' (iniL cs rg) cs.length), some (.blk [.sl 1 cs.length 0])]) rfl (newCore_ cs ao cx rg x0 x1 (m 0) (m 1) (m 2) nm co cn cc hck) A ⟨LstAt.ok _ _ _ _ hp.1 A.mix (fun b hb => .inl hb), CodesAt.ok _ _ _ _ hp.2 A.mix (fun b hb => .inl hb)⟩ rfl rfl rfl (fun _ => rfl) fun cs' {_ _ _} hok he hcd A => have B := A; have A := B.base; any_at (rs := [2]) (by kernel_rfl) (by decide) (fc9 ⟨aV9 (.ptr 0 2) rfl A rfl rfl fun A => any_at (rs := [3]) (by kernel_rfl) (by decide) (fc9 ⟨aV9 (.agg [.int .i64 (m 0), .int .i64 (m 1), .int .i64 (m 2)]) rfl A rfl rfl fun A => tail cs' hok he (CDm.ok.now A hcd) ((B.trans A).cut [4, 6] rfl),
     (fn9)⟩),
    (fn9)⟩),
   (fc9 ⟨aV9 (.ptr 0 2) rfl A rfl rfl fun A => any_at (rs := [1, 3]) (by kernel_rfl) (by decide) (fc9 ⟨any_newC (H' := fun cs' => [some (.blk [.int .i64 x0, .str nm, .int .i64 (m 0), .int .i64 (m 1), .int .i64 (m 2), .int .i64 (rg 0 0), .int .i64 (rg 0 1), .int .i64 (rg 0 2), .int .i64 (rg 0 3), .int .i64 (rg 0 4), .int .i64 (rg 0 5), .int .i64 (rg 0 6), .int .i64 (rg 0 7), .int .i64 (rg 1 0), .int .i64 (rg 1 1), .int .i64 (rg 1 2), .int .i64 (rg 1 3), .int .i64 (rg 1 4), .int .i64 (rg 1 5), .int .i64 (rg 1 6), .int .i64 (rg 1 7), .int .i64 (rg 2 0), .int .i64 (rg 2 1), .int .i64 (rg 2 2), .int .i64 (rg 2 3), .int .i64 (rg 2 4), .int .i64 (rg 2 5), .int .i64 (rg 2 6), .int .i64 (rg 2 7), .sla ao cs.length cx, .int .i64 x1, .sla co cn cc]), some (coR9 cs' (iniL cs rg) cs.length), some (.blk [.sl 1 cs.length 0])]) rfl (newCore_ cs ao cx rg x0 x1 (m 0) (m 1) (m 2) nm co cn cc hck) A ⟨LstAt.ok _ _ _ _ hp.1 A.mix (fun b hb => .inl hb), CodesAt.ok _ _ _ _ hp.2 A.mix (fun b hb => .inl hb)⟩ rfl rfl rfl (fun _ => rfl) fun cs' {_ _ _} hok he hcd A => have B := A; have A := B.base; any_at (rs := [3]) (by kernel_rfl) (by decide) (fc9 ⟨aV9 (.agg [.int .i64 (m 0), .int .i64 (m 1), .int .i64 (m 2)]) rfl A rfl rfl fun A => tail cs' hok he (CDm.ok.now A hcd) ((B.trans A).cut [4, 6] rfl),
     (fn9)⟩),
    (fc9 ⟨aV9 (.agg [.int .i64 (m 0), .int .i64 (m 1), .int .i64 (m 2)]) rfl A rfl rfl fun A => any_at (rs := [1]) (by kernel_rfl) (by decide) (fc9 ⟨any_newC (H' := fun cs' => [some (.blk [.int .i64 x0, .str nm, .int .i64 (m 0), .int .i64 (m 1), .int .i64 (m 2), .int .i64 (rg 0 0), .int .i64 (rg 0 1), .int .i64 (rg 0 2), .int .i64 (rg 0 3), .int .i64 (rg 0 4), .int .i64 (rg 0 5), .int .i64 (rg 0 6), .int .i64 (rg 0 7), .int .i64 (rg 1 0), .int .i64 (rg 1 1), .int .i64 (rg 1 2), .int .i64 (rg 1 3), .int .i64 (rg 1 4), .int .i64 (rg 1 5), .int .i64 (rg 1 6), .int .i64 (rg 1 7), .int .i64 (rg 2 0), .int .i64 (rg 2 1), .int .i64 (rg 2 2), .int .i64 (rg 2 3), .int .i64 (rg 2 4), .int .i64 (rg 2 5), .int .i64 (rg 2 6), .int .i64 (rg 2 7), .sla ao cs.length cx, .int .i64 x1, .sla co cn cc]), some (coR9 cs' (iniL cs rg) cs.length), some (.blk [.sl 1 cs.length 0])]) rfl (newCore_ cs ao cx rg x0 x1 (m 0) (m 1) (m 2) nm co cn cc hck) A ⟨LstAt.ok _ _ _ _ hp.1 A.mix (fun b hb => .inl hb), CodesAt.ok _ _ _ _ hp.2 A.mix (fun b hb => .inl hb)⟩ rfl rfl rfl (fun _ => rfl) fun cs' {_ _ _} hok he hcd A => have B := A; have A := B.base; tail cs' hok he (CDm.ok.now A hcd) ((B.trans A).cut [4, 6] rfl),
     (fn9)⟩),
    (fn9)⟩)⟩),
   (fn9)⟩)⟩),
  (fc9 ⟨aV9 (.ptr 0 2) rfl A rfl rfl fun A => any_at (rs := [0, 3]) (by kernel_rfl) (by decide) (fc9 ⟨aV9 (.agg [.int .i64 x0, .str nm, .int .i64 (m 0), .int .i64 (m 1), .int .i64 (m 2), .int .i64 (rg 0 0), .int .i64 (rg 0 1), .int .i64 (rg 0 2), .int .i64 (rg 0 3), .int .i64 (rg 0 4), .int .i64 (rg 0 5), .int .i64 (rg 0 6), .int .i64 (rg 0 7), .int .i64 (rg 1 0), .int .i64 (rg 1 1), .int .i64 (rg 1 2), .int .i64 (rg 1 3), .int .i64 (rg 1 4), .int .i64 (rg 1 5), .int .i64 (rg 1 6), .int .i64 (rg 1 7), .int .i64 (rg 2 0), .int .i64 (rg 2 1), .int .i64 (rg 2 2), .int .i64 (rg 2 3), .int .i64 (rg 2 4), .int .i64 (rg 2 5), .int .i64 (rg 2 6), .int .i64 (rg 2 7), .sla ao cs.length cx, .int .i64 x1, .sla co cn cc]) rfl A rfl rfl fun A => any_at (rs := [1, 3]) (by kernel_rfl) (by decide) (fc9 ⟨any_newC (H' := fun cs' => [some (.blk [.int .i64 x0, .str nm, .int .i64 (m 0), .int .i64 (m 1), .int .i64 (m 2), .int .i64 (rg 0 0), .int .i64 (rg 0 1), .int .i64 (rg 0 2), .int .i64 (rg 0 3), .int .i64 (rg 0 4), .int .i64 (rg 0 5), .int .i64 (rg 0 6), .int .i64 (rg 0 7), .int .i64 (rg 1 0), .int .i64 (rg 1 1), .int .i64 (rg 1 2), .int .i64 (rg 1 3), .int .i64 (rg 1 4), .int .i64 (rg 1 5), .int .i64 (rg 1 6), .int .i64 (rg 1 7), .int .i64 (rg 2 0), .int .i64 (rg 2 1), .int .i64 (rg 2 2), .int .i64 (rg 2 3), .int .i64 (rg 2 4), .int .i64 (rg 2 5), .int .i64 (rg 2 6), .int .i64 (rg 2 7), .sla ao cs.length cx, .int .i64 x1, .sla co cn cc]), some (coR9 cs' (iniL cs rg) cs.length), some (.blk [.sl 1 cs.length 0])]) rfl (newCore_ cs ao cx rg x0 x1 (m 0) (m 1) (m 2) nm co cn cc hck) A ⟨LstAt.ok _ _ _ _ hp.1 A.mix (fun b hb => .inl hb), CodesAt.ok _ _ _ _ hp.2 A.mix (fun b hb => .inl hb)⟩ rfl rfl rfl (fun _ => rfl) fun cs' {_ _ _} hok he hcd A => have B := A; have A := B.base; any_at (rs := [3]) (by kernel_rfl) (by decide) (fc9 ⟨aV9 (.agg [.int .i64 (m 0), .int .i64 (m 1), .int .i64 (m 2)]) rfl A rfl rfl fun A => tail cs' hok he (CDm.ok.now A hcd) ((B.trans A).cut [4, 6] rfl),
     (fn9)⟩),
    (fc9 ⟨aV9 (.agg [.int .i64 (m 0), .int .i64 (m 1), .int .i64 (m 2)]) rfl A rfl rfl fun A => any_at (rs := [1]) (by kernel_rfl) (by decide) (fc9 ⟨any_newC (H' := fun cs' => [some (.blk [.int .i64 x0, .str nm, .int .i64 (m 0), .int .i64 (m 1), .int .i64 (m 2), .int .i64 (rg 0 0), .int .i64 (rg 0 1), .int .i64 (rg 0 2), .int .i64 (rg 0 3), .int .i64 (rg 0 4), .int .i64 (rg 0 5), .int .i64 (rg 0 6), .int .i64 (rg 0 7), .int .i64 (rg 1 0), .int .i64 (rg 1 1), .int .i64 (rg 1 2), .int .i64 (rg 1 3), .int .i64 (rg 1 4), .int .i64 (rg 1 5), .int .i64 (rg 1 6), .int .i64 (rg 1 7), .int .i64 (rg 2 0), .int .i64 (rg 2 1), .int .i64 (rg 2 2), .int .i64 (rg 2 3), .int .i64 (rg 2 4), .int .i64 (rg 2 5), .int .i64 (rg 2 6), .int .i64 (rg 2 7), .sla ao cs.length cx, .int .i64 x1, .sla co cn cc]), some (coR9 cs' (iniL cs rg) cs.length), some (.blk [.sl 1 cs.length 0])]) rfl (newCore_ cs ao cx rg x0 x1 (m 0) (m 1) (m 2) nm co cn cc hck) A ⟨LstAt.ok _ _ _ _ hp.1 A.mix (fun b hb => .inl hb), CodesAt.ok _ _ _ _ hp.2 A.mix (fun b hb => .inl hb)⟩ rfl rfl rfl (fun _ => rfl) fun cs' {_ _ _} hok he hcd A => have B := A; have A := B.base; tail cs' hok he (CDm.ok.now A hcd) ((B.trans A).cut [4, 6] rfl),
     (fn9)⟩),
    (fn9)⟩)⟩),
   (fc9 ⟨aV9 (.agg [.int .i64 (m 0), .int .i64 (m 1), .int .i64 (m 2)]) rfl A rfl rfl fun A => any_at (rs := [0]) (by kernel_rfl) (by decide) (fc9 ⟨aV9 (.agg [.int .i64 x0, .str nm, .int .i64 (m 0), .int .i64 (m 1), .int .i64 (m 2), .int .i64 (rg 0 0), .int .i64 (rg 0 1), .int .i64 (rg 0 2), .int .i64 (rg 0 3), .int .i64 (rg 0 4), .int .i64 (rg 0 5), .int .i64 (rg 0 6), .int .i64 (rg 0 7), .int .i64 (rg 1 0), .int .i64 (rg 1 1), .int .i64 (rg 1 2), .int .i64 (rg 1 3), .int .i64 (rg 1 4), .int .i64 (rg 1 5), .int .i64 (rg 1 6), .int .i64 (rg 1 7), .int .i64 (rg 2 0), .int .i64 (rg 2 1), .int .i64 (rg 2 2), .int .i64 (rg 2 3), .int .i64 (rg 2 4), .int .i64 (rg 2 5), .int .i64 (rg 2 6), .int .i64 (rg 2 7), .sla ao cs.length cx, .int .i64 x1, .sla co cn cc]) rfl A rfl rfl fun A => any_at (rs := [1]) (by kernel_rfl) (by decide) (fc9 ⟨any_newC (H' := fun cs' => [some (.blk [.int .i64 x0, .str nm, .int .i64 (m 0), .int .i64 (m 1), .int .i64 (m 2), .int .i64 (rg 0 0), .int .i64 (rg 0 1), .int .i64 (rg 0 2), .int .i64 (rg 0 3), .int .i64 (rg 0 4), .int .i64 (rg 0 5), .int .i64 (rg 0 6), .int .i64 (rg 0 7), .int .i64 (rg 1 0), .int .i64 (rg 1 1), .int .i64 (rg 1 2), .int .i64 (rg 1 3), .int .i64 (rg 1 4), .int .i64 (rg 1 5), .int .i64 (rg 1 6), .int .i64 (rg 1 7), .int .i64 (rg 2 0), .int .i64 (rg 2 1), .int .i64 (rg 2 2), .int .i64 (rg 2 3), .int .i64 (rg 2 4), .int .i64 (rg 2 5), .int .i64 (rg 2 6), .int .i64 (rg 2 7), .sla ao cs.length cx, .int .i64 x1, .sla co cn cc]), some (coR9 cs' (iniL cs rg) cs.length), some (.blk [.sl 1 cs.length 0])]) rfl (newCore_ cs ao cx rg x0 x1 (m 0) (m 1) (m 2) nm co cn cc hck) A ⟨LstAt.ok _ _ _ _ hp.1 A.mix (fun b hb => .inl hb), CodesAt.ok _ _ _ _ hp.2 A.mix (fun b hb => .inl hb)⟩ rfl rfl rfl (fun _ => rfl) fun cs' {_ _ _} hok he hcd A => have B := A; have A := B.base; tail cs' hok he (CDm.ok.now A hcd) ((B.trans A).cut [4, 6] rfl),
     (fn9)⟩),
    (fn9)⟩),
   (fn9)⟩)⟩),
  (fn9)⟩)⟩)) (fun cs' {G1 a1 w1} hok he hcd A => have B := A; have A := B.base; any_at (rs := [4]) (by kernel_rfl) (by decide) (fc9 ⟨aV9 (.agg [.ptr 2 0, .int .i64 (m 0), .int .i64 (m 1), .int .i64 (m 2), .sla none 0 0, .sla none 0 0, .sla none 0 0]) rfl A rfl rfl fun A => any_at (rs := [5]) (by kernel_rfl) (by decide) (fc9 ⟨any_eff (x := .ptr 3 0) (H' := [some (.blk [.int .i64 x0, .str nm, .int .i64 (m 0), .int .i64 (m 1), .int .i64 (m 2), .int .i64 (rg 0 0), .int .i64 (rg 0 1), .int .i64 (rg 0 2), .int .i64 (rg 0 3), .int .i64 (rg 0 4), .int .i64 (rg 0 5), .int .i64 (rg 0 6), .int .i64 (rg 0 7), .int .i64 (rg 1 0), .int .i64 (rg 1 1), .int .i64 (rg 1 2), .int .i64 (rg 1 3), .int .i64 (rg 1 4), .int .i64 (rg 1 5), .int .i64 (rg 1 6), .int .i64 (rg 1 7), .int .i64 (rg 2 0), .int .i64 (rg 2 1), .int .i64 (rg 2 2), .int .i64 (rg 2 3), .int .i64 (rg 2 4), .int .i64 (rg 2 5), .int .i64 (rg 2 6), .int .i64 (rg 2 7), .sla ao cs.length cx, .int .i64 x1, .sla co cn cc]), some (coR9 cs' (iniL cs rg) cs.length), some (.blk [.sl 1 cs.length 0]), some (.blk [.ptr 2 0, .int .i64 (m 0), .int .i64 (m 1), .int .i64 (m 2), .sla none 0 0, .sla none 0 0, .sla none 0 0])]) rfl A rfl (eff_auto (X := ⟨_, true⟩) (out := .new _ _ _) hX rfl rfl) fun A => any_at (rs := [6]) (by kernel_rfl) (by decide) (fc9 ⟨aV9 (.ptr 3 0) rfl A rfl rfl fun A => any_end (by kernel_rfl) (N9 2 A rfl rfl fun A => Exists.elim (machJ_of (m := m) 3 2 1 2 (B.trans A) hcn rfl rfl rfl rfl rfl rfl rfl hok he (CDm.ok.now A hcd)) fun M ⟨A, hJ⟩ => RETW (J := MachJ cs rg m) hX A rfl rfl rfl rfl hJ),
    (fn9)⟩),
   (fn9)⟩),
  (fn9)⟩))
theorem _root_.Go.Proofs.YtbbdanhpphlbpaaGreatDoor.Sy.takeCoreG {n : Nat} {ks : List Nat} {G0 : Gr} {w0 : World} {T : List (Nat × SV)} {H : Hp} {G : Gr} {a : Act} {w : World} (A : Sy n T H ks G0 w0 G a w) {e s m bt cp N : Nat} {f : Nat → List SV} {L : Loc} (ho : OutC e s m f L bt cp N w) (hN : w0.heap.size ≤ N) (hold : ∀ (i : Nat) (e : Ent) (M : Loc), H[i]? = some (some e) → G[i]? = some (some M) → ¬ e.empty → M.b < N) :
  ∃ R : Loc, R.b = bt ∧ Sy n T (H ++ [some (.row e s m 0 f)] ++ [some (.blk [.sl H.length m 0])]) ks G0 w0 (G ++ [some R] ++ [some L]) a w := by
 have hlen := A.mem.len
 obtain ⟨p1, xs, p2, p3⟩ := ho.row
 have A1 := A.takeEnt (L := ⟨bt, [], List.replicate cp undef, e⟩) (en := .row e s m 0 f) ⟨p1, fun L hL => by cases hL; rfl, xs, p2, by simpa [rm] using p3⟩ rfl (fun i e M h1 h2 h3 => by have := hold i e M h1 h2 h3; have := ho.lt; show M.b ≠ bt; omega) (Nat.le_trans hN ho.lt)
 have hG1 : (G ++ [some (⟨bt, [], List.replicate cp undef, e⟩ : Loc)])[H.length]? = some (some ⟨bt, [], List.replicate cp undef, e⟩) := by rw [List.getElem?_append_right (by omega), hlen]; simp
 have hd : denL (G ++ [some (⟨bt, [], List.replicate cp undef, e⟩ : Loc)]) [.sl H.length m 0] = some [.slice (some ⟨bt, 0, none⟩) m cp] := by
  unfold denL den
  rw [hG1]
  simp [rm, denL]
 exact ⟨_, rfl, A1.takeEnt (L := L) (en := .blk [.sl H.length m 0]) ⟨L, _, rfl, hd, ho.blk⟩ rfl (fun i e' M h1 h2 h3 => by
  by_cases hi : i < H.length
  ·rw [List.getElem?_append_left hi] at h1
   rw [List.getElem?_append_left (by omega)] at h2
   have := hold i e' M h1 h2 h3; have := ho.lo; omega
  ·have hi2 : i = H.length := by
    have := (List.getElem?_eq_some_iff.1 h1).1
    simp at this; omega
   subst hi2
   rw [hG1] at h2
   cases h2
   exact fun z => ho.ne z.symm) (Nat.le_trans hN ho.lo)⟩
abbrev mcS (i : Nat) (m : Nat → Int) : List SV := [.ptr i 0, .int .i64 (m 0), .int .i64 (m 1), .int .i64 (m 2), .sla none 0 0, .sla none 0 0, .sla none 0 0]
theorem NEWM {P : Program} {n : Nat} {ks : List Nat} {G0 : Gr} {w0 : World} {T : List (Nat × SV)} {H : Hp} {G : Gr} {a : Act} {w : World} {Q : Exit → Act → World → Prop} {K : List Fr} {ops : Array Oper} {o : Oper} {rest : List Oper} {f : Nat} {args az : List SV} {pre : World → Prop} {cs : List Cde} {rg : Nat → Rg} {m : Nat → Int} {t : Nat} {H' : List Cde → Hp} (hf : FnW P f args [] [] pre (MachJ cs rg m)) (A : Sy n T H ks G0 w0 G a w) (hp : pre w) (h1 : callS n ops T o = some (f, az)) (h2 : renL [] args = some az) (hd : o.dst = some t)
  (hH : ∀ cs' : List Cde, H ++ [some (coR9 cs' (iniL cs rg) cs.length)] ++ [some (.blk [.sl H.length cs.length 0])] ++ [some (.blk (mcS (H.length + 1) m))] = H' cs')
  (k : ∀ cs' {G a w}, CoreOK cs' (iniL cs rg) cs.length → (∀ k, k < cs.length → (cs'.getD k Cde.z).l = (cs.getD k Cde.z).l) → CodesAt cs' w (keys (H' cs') G) → Sy n ((t, .ptr (H.length + 2) 0) :: (extS T (some t) (.v .nilFunc))) (H' cs') ks G0 w0 G a w → Goal P Q K (.ops ops rest) a w) : Goal P Q K (.ops ops (o :: rest)) a w := by
 refine CALLW [] hf A hp Off.nil (fun b h => by cases h) h1 h2 rfl rfl rfl fun {x a' w'} hm hJ A' => ?_
 obtain ⟨M, L, bt, cp, cs', rfl, hMlo, hML, hMb, hMblk, hoc, hok, heq, hcd⟩ := hJ
 rw [hd] at A'
 have hlen := A.mem.len
 have hold : ∀ (i : Nat) (e : Ent) (M : Loc), H[i]? = some (some e) → G[i]? = some (some M) → ¬ e.empty → M.b < w.heap.size := fun i e M q1 q2 q3 => by
  have := A.mem.ent i e q1
  rw [q2] at this
  exact EntOK.lt this q3
 obtain ⟨R, hR, A2⟩ := A'.takeCoreG hoc A.mix.size hold
 have hGL : (G ++ [some R] ++ [some L])[H.length + 1]? = some (some L) := by
  rw [List.getElem?_append_right (by simp; omega)]; simp [hlen]
 have hcell : denL (G ++ [some R] ++ [some L]) (mcS (H.length + 1) m) = some (mcV L m) :=
  denL_mk (by unfold den; rw [hGL]; rfl) (by simpa using denL_mono (G := []) (G ++ [some R] ++ [some L]) [.int .i64 (m 0), .int .i64 (m 1), .int .i64 (m 2), .sla none 0 0, .sla none 0 0, .sla none 0 0] rfl)
 have hloc : ∀ (i : Nat) (e : Ent) (Z : Loc), (H ++ [some (coR9 cs' (iniL cs rg) cs.length)] ++ [some (.blk [.sl H.length cs.length 0])])[i]? = some (some e) → (G ++ [some R] ++ [some L])[i]? = some (some Z) → ¬ e.empty → Z.b < w.heap.size ∨ Z.b = L.b ∨ Z.b = bt := fun i e Z q1 q2 q3 => by
  by_cases hi : i < H.length
  ·rw [List.append_assoc, List.getElem?_append_left hi] at q1
   rw [List.append_assoc, List.getElem?_append_left (by omega)] at q2
   exact .inl (hold i e Z q1 q2 q3)
  ·by_cases hi2 : i = H.length
   ·subst hi2
    rw [List.append_assoc, List.getElem?_append_right (by omega)] at q2
    simp [hlen] at q2
    subst q2; exact .inr (.inr hR)
   ·have hi3 : i = H.length + 1 := by
     have := (List.getElem?_eq_some_iff.1 q1).1
     simp at this; omega
    subst hi3
    rw [hGL] at q2; cases q2
    exact .inr (.inl rfl)
 have A3 := A2.takeEnt (L := M) (en := .blk (mcS (H.length + 1) m)) ⟨M, _, rfl, hcell, hMblk⟩ rfl (fun i e Z q1 q2 q3 => by
  rcases hloc i e Z q1 q2 q3 with q | q | q
  ·omega
  ·rw [q]; exact fun h => hML h.symm
  ·rw [q]; exact fun h => hMb h.symm) (Nat.le_trans A.mix.size hMlo)
 rw [hH cs'] at A3
 have hkey : ∀ b, (keys (H' cs') (G ++ [some R] ++ [some L] ++ [some M])).contains b = true → b < w.heap.size ∨ b = L.b ∨ b = bt ∨ b = M.b := fun b hb => by
  rw [← hH cs'] at hb
  obtain ⟨i, en, Z, g1, g2, g3, g4⟩ := mem_keys.1 hb
  by_cases hi : i < H.length + 2
  ·rw [List.getElem?_append_left (by simp; omega)] at g1
   rw [List.getElem?_append_left (by simp; omega)] at g3
   rw [← g4]
   rcases hloc i en Z g1 g3 (mut_full g2) with q | q | q
   ·exact .inl q
   ·exact .inr (.inl q)
   ·exact .inr (.inr (.inl q))
  ·have hi3 : i = H.length + 2 := by
    have := (List.getElem?_eq_some_iff.1 g1).1
    simp at this; omega
   subst hi3
   rw [List.getElem?_append_right (by simp; omega)] at g3
   simp [hlen] at g3
   subst g3
   exact .inr (.inr (.inr g4.symm))
 refine k cs' hok heq (hcd _ hkey) ?_
 have A4 := A3.slotEq t (x := adr M.b M.pre.length) (y := .ptr (H.length + 2) 0) (by simp [extS, look, Nat.beq_refl]) (by
  unfold den
  rw [List.getElem?_append_right (by simp; omega)]
  simp [hlen])
 refine ⟨A4.size, A4.defers, fun q x hx => A4.get q x ?_, A4.mem, A4.pre, A4.own, A4.mix⟩
 unfold look at hx ⊢
 cases hb : Nat.beq t q with
 | true => rw [hb] at hx; exact hx
 | false =>
  rw [hb] at hx
  simp only [extS, cond_false] at hx ⊢
  unfold look at hx ⊢
  rw [hb] at hx ⊢
  exact hx
end Go.Proofs.YtbbdanhpphlbpaaGreatDoor.Mc
namespace Go.Proofs.YtbbdanhpphlbpaaGreatDoor.Mc
open Go.RowKit
set_option linter.unusedVariables false
set_option linter.unusedSimpArgs false
set_option maxRecDepth 100000
set_option maxHeartbeats 2000000
set_option simprocs false
abbrev codB (o s : Int) : List In := [(⟨5, -1, 7, -1, 0, 2, o, -1, s, 0, false, false, false, 0, 0, 0, false⟩ : In), (⟨4, 6, -1, -1, 0, 2, o, -1, s, 0, false, false, false, 0, 0, 0, false⟩ : In)]
abbrev csB (b1 : Nat) (o s : Int) : List Cde := [⟨some ⟨b1, 0, none⟩, codB o s, 2⟩]
abbrev rgB (r : Rg) (v0 : Int) : Nat → Rg := fun t k => if t = 0 then (if k = 7 then v0 else r k) else 0
theorem hyB {cs : List Cde} {ts : List Th} {s0 : Th} {l : List In} (hs : ts.getD 0 Th.z = s0) (hl : (cs.getD 0 Cde.z).l = l) : sk0 ts = s0 ∧ ik0 cs ts = l.getD s0.at_ In.z ∧ (cs.getD ((0 : Int).toNat) Cde.z).l = l := by subst hs; subst hl; exact ⟨rfl, rfl, rfl⟩
abbrev mvP (i : In) (a n k : Nat) (q : Int) : List Mv := (if cgB i (!(((a : Nat) : Int) == ((n : Nat) : Int))) q = true then [(2, (k : Int), (a : Int))] else []) ++ (if q > 0 then [(3, (k : Int), 0)] else [])
theorem mvL1 {cs : List Cde} {ts : List Th} {bn : Int → Int} {s0 : Th} {l : List In} (hs : ts.getD 0 Th.z = s0) (hl : (cs.getD 0 Cde.z).l = l) : mvL cs ts bn 1 = mvP (l.getD s0.at_ In.z) s0.at_ l.length 0 (bn 0) := by subst hs; subst hl; rfl
theorem mvL2 {cs : List Cde} {ts : List Th} {bn : Int → Int} {s0 s1 : Th} {l l1 : List In} (hs : ts.getD 0 Th.z = s0) (hl : (cs.getD 0 Cde.z).l = l) (hs1 : ts.getD 1 Th.z = s1) (hl1 : (cs.getD 1 Cde.z).l = l1) : mvL cs ts bn 2 = mvP (l.getD s0.at_ In.z) s0.at_ l.length 0 (bn 0) ++ mvP (l1.getD s1.at_ In.z) s1.at_ l1.length 1 (bn 1) := by subst hs; subst hl; subst hs1; subst hl1; exact List.append_assoc _ _ _
theorem stB0 {b1 : Nat} {o s v0 : Int} {r : Rg} : (iniL (csB b1 o s) (rgB r v0)).getD 0 Th.z = ⟨0, rgB r v0 0⟩ := rfl
theorem stP {cs : List Cde} {ts : List Th} {old : Int} {s0 : Th} {l : List In} (hn : 0 < ts.length) (hs : ts.getD 0 Th.z = s0) (hl : (cs.getD 0 Cde.z).l = l) : (setTh cs ts 0 old).getD 0 Th.z = paT l s0 old := by
 subst hs; subst hl
 match ts, hn with
 | x :: _, _ => rfl
theorem stB1 {b1 : Nat} {o s v0 : Int} {r : Rg} {cs' : List Cde} (he : (cs'.getD 0 Cde.z).l = codB o s) : (setTh cs' (iniL (csB b1 o s) (rgB r v0)) 0 0).getD 0 Th.z = ⟨1, rgB r v0 0⟩ := (stP (by rw [iniL_len]; exact Nat.zero_lt_succ _) stB0 he).trans rfl
theorem stB2 {b1 : Nat} {o s v0 v lc : Int} {r : Rg} {m : Nat → Int} {cs' : List Cde} (he : (cs'.getD 0 Cde.z).l = codB o s) : (setTh cs' (setTh cs' (iniL (csB b1 o s) (rgB r v0)) 0 0) 0 (bgeta0 ((updR m lc.toNat (bputa0 (m lc.toNat) o s v)) lc.toNat) o s)).getD 0 Th.z = ⟨2, updR (rgB r v0 0) 6 (bget0 (bgeta0 ((updR m lc.toNat (bputa0 (m lc.toNat) o s v)) lc.toNat) o s) s)⟩ := (stP (by rw [setTh_len, iniL_len]; exact Nat.zero_lt_succ _) (stB1 he) he).trans rfl
theorem stS0 {b1 b2 : Nat} : (iniL (csS b1 b2) rgS).getD 0 Th.z = ⟨0, rgS 0⟩ := rfl
theorem stS1 {b1 b2 : Nat} {cs' : List Cde} (he : (cs'.getD 0 Cde.z).l = codS0) : (setTh cs' (iniL (csS b1 b2) rgS) 0 0).getD 0 Th.z = ⟨1, rgS 0⟩ := (stP (by rw [iniL_len]; exact Nat.zero_lt_succ _) stS0 he).trans rfl
theorem stS0' {b1 b2 : Nat} : (iniL (csS b1 b2) rgS).getD 1 Th.z = ⟨0, rgS 1⟩ := rfl
theorem stS1' {b1 b2 : Nat} {cs' : List Cde} : (setTh cs' (iniL (csS b1 b2) rgS) 0 0).getD 1 Th.z = ⟨0, rgS 1⟩ := rfl
theorem mvB0 {b1 : Nat} {o s v0 : Int} {r : Rg} {cs' : List Cde} (he : (cs'.getD 0 Cde.z).l = codB o s) : mvL cs' (iniL (csB b1 o s) (rgB r v0)) bnA 1 = [(2, 0, 0)] := (mvL1 stB0 he).trans rfl
theorem mvB1 {b1 : Nat} {o s v0 : Int} {r : Rg} {cs' : List Cde} (he : (cs'.getD 0 Cde.z).l = codB o s) : mvL cs' (setTh cs' (iniL (csB b1 o s) (rgB r v0)) 0 0) bnB 1 = [(2, 0, 1), (3, 0, 0)] := (mvL1 (stB1 he) he).trans rfl
theorem mvB2 {b1 : Nat} {o s v0 v lc : Int} {r : Rg} {m : Nat → Int} {cs' : List Cde} (he : (cs'.getD 0 Cde.z).l = codB o s) : mvL cs' (setTh cs' (setTh cs' (iniL (csB b1 o s) (rgB r v0)) 0 0) 0 (bgeta0 ((updR m lc.toNat (bputa0 (m lc.toNat) o s v)) lc.toNat) o s)) bnB 1 = [(3, 0, 0)] := (mvL1 (stB2 he) he).trans rfl
theorem mvB3 {b1 : Nat} {o s v0 v lc : Int} {r : Rg} {m : Nat → Int} {cs' : List Cde} (he : (cs'.getD 0 Cde.z).l = codB o s) : mvL cs' (setTh cs' (setTh cs' (iniL (csB b1 o s) (rgB r v0)) 0 0) 0 (bgeta0 ((updR m lc.toNat (bputa0 (m lc.toNat) o s v)) lc.toNat) o s)) bnA 1 = [] := (mvL1 (stB2 he) he).trans rfl
theorem mvS0 {b1 b2 : Nat} {cs' : List Cde} (he : (cs'.getD 0 Cde.z).l = codS0) (he1 : (cs'.getD 1 Cde.z).l = codS1) : mvL cs' (iniL (csS b1 b2) rgS) bnA 2 = [(2, 0, 0), (2, 1, 0)] := (mvL2 stS0 he stS0' he1).trans rfl
theorem mvS1 {b1 b2 : Nat} {cs' : List Cde} (he : (cs'.getD 0 Cde.z).l = codS0) (he1 : (cs'.getD 1 Cde.z).l = codS1) : mvL cs' (setTh cs' (iniL (csS b1 b2) rgS) 0 0) bnB 2 = [(2, 0, 1), (3, 0, 0), (2, 1, 0)] := (mvL2 (stS1 he) he stS1' he1).trans rfl
abbrev okB1 {b1 : Nat} {o s v0 : Int} {r : Rg} {cs' : List Cde} (hok : CoreOK cs' (iniL (csB b1 o s) (rgB r v0)) 1) : CoreOK cs' (setTh cs' (iniL (csB b1 o s) (rgB r v0)) 0 0) 1 := hok.set ⟨by decide, by decide⟩ 0
abbrev okB2 {b1 : Nat} {o s v0 v lc : Int} {r : Rg} {m : Nat → Int} {cs' : List Cde} (hok : CoreOK cs' (iniL (csB b1 o s) (rgB r v0)) 1) : CoreOK cs' (setTh cs' (setTh cs' (iniL (csB b1 o s) (rgB r v0)) 0 0) 0 (bgeta0 ((updR m lc.toNat (bputa0 (m lc.toNat) o s v)) lc.toNat) o s)) 1 := (hok.set ⟨by decide, by decide⟩ 0).set ⟨by decide, by decide⟩ _
abbrev okS1 {b1 b2 : Nat} {cs' : List Cde} (hok : CoreOK cs' (iniL (csS b1 b2) rgS) 2) : CoreOK cs' (setTh cs' (iniL (csS b1 b2) rgS) 0 0) 2 := hok.set ⟨by decide, by decide⟩ 0
theorem lD0_ {b1 : Nat} {o s v0 v lc : Int} {r : Rg} {m : Nat → Int} {cs' : List Cde} (hok : CoreOK cs' (iniL (csB b1 o s) (rgB r v0)) 1) (he : (cs'.getD 0 Cde.z).l = codB o s) (hO : OS o s) (hlc : lc = 2) (hv : v = bget0 v0 s) : FnI (TI cs') Tryz.prog 30 [.ptr 0 0, .z9] [some (.blk [.ptr 1 0, .int .i64 (m 0), .int .i64 (m 1), .int .i64 (m 2), .sla none 0 0, .sla none 0 0, .sla none 0 0]), some (.blk [.sl 2 1 0]), some (coR9 cs' (iniL (csB b1 o s) (rgB r v0)) 1)] (Rt (.tt) [some (.blk [.ptr 1 0, .int .i64 (m 0), .int .i64 (m 1), .int .i64 (m 2), .sl 3 1 0, .sla none 0 0, .sla none 0 0]), some (.blk [.sl 2 1 0]), some (coR9 cs' (setTh cs' (iniL (csB b1 o s) (rgB r v0)) 0 0) 1), some (.row 123 3 1 0 (fun _ => [.int .i64 lc, .int .i64 (mskN o s), .int .i64 v]))]) := have h := hyB (cs := cs') (ts := (iniL (csB b1 o s) (rgB r v0))) stB0 he; doS_ m cs' (iniL (csB b1 o s) (rgB r v0)) 1 lc o s v 0 hok (by decide) (by decide) (by omega) hO (by rw [h.1, h.2.2]; exact (by decide : 0 < 2)) (by rw [h.2.1]; rfl) (by rw [h.2.1, hlc]; rfl) (by rw [h.1, h.2.1]; rfl) (by rw [h.1, h.2.1, hv]; rfl) ⟨by decide, by rw [mvB0 he]; decide⟩ (by rw [mvB0 he]; rfl) (by rw [mvB0 he]; rfl)
theorem lD1_ {b1 : Nat} {o s v0 v lc : Int} {r : Rg} {m : Nat → Int} {cs' : List Cde} (hok : CoreOK cs' (iniL (csB b1 o s) (rgB r v0)) 1) (he : (cs'.getD 0 Cde.z).l = codB o s) (hO : OS o s) (hlc : lc = 2) (hv : v = bget0 v0 s) : FnI (TI cs') Tryz.prog 30 [.ptr 0 0, .z9] [some (.blk [.ptr 1 0, .int .i64 (m 0), .int .i64 (m 1), .int .i64 (m 2), .sl 3 1 0, .sla none 0 0, .sla none 0 0]), some (.blk [.sl 2 1 0]), some (coR9 cs' (setTh cs' (iniL (csB b1 o s) (rgB r v0)) 0 0) 1), some (.row 123 3 1 0 (fun _ => [.int .i64 lc, .int .i64 (mskN o s), .int .i64 v]))] (Rt (.tt) [some (.blk [.ptr 1 0, .int .i64 (m 0), .int .i64 (m 1), .int .i64 (m 2), .sl 3 1 0, .sla none 0 0, .sla none 0 0]), some (.blk [.sl 2 1 0]), some (.row 125 10 1 0 (fun zz => rnT (cs'.getD zz Cde.z) ((setTh cs' (setTh cs' (iniL (csB b1 o s) (rgB r v0)) 0 0) 0 (bgeta0 ((updR m lc.toNat (bputa0 (m lc.toNat) o s v)) lc.toNat) o s)).getD zz Th.z))), some (.row 123 3 1 0 (fun _ => [.int .i64 lc, .int .i64 (mskN o s), .int .i64 v]))]) := have h := hyB (cs := cs') (ts := (setTh cs' (iniL (csB b1 o s) (rgB r v0)) 0 0)) (stB1 he) he; doL_ m cs' (setTh cs' (iniL (csB b1 o s) (rgB r v0)) 0 0) 1 lc o s v 0 0 (okB1 hok) (by decide) (by decide) (by omega) hO (by rw [h.1, h.2.2]; exact (by decide : 1 < 2)) (by rw [h.2.1]; rfl) (by rw [h.2.1, hlc]; rfl) (by rw [h.1, h.2.1]; rfl) (by rw [h.1, h.2.1]; rfl) ⟨by decide, by rw [mvB1 he]; decide⟩ (by rw [mvB1 he]; rfl) (by rw [mvB1 he]; rfl)
theorem lD2_ {b1 : Nat} {o s v0 v lc : Int} {r : Rg} {m : Nat → Int} {cs' : List Cde} (hok : CoreOK cs' (iniL (csB b1 o s) (rgB r v0)) 1) (he : (cs'.getD 0 Cde.z).l = codB o s) (hO : OS o s) (hlc : lc = 2) (hv : v = bget0 v0 s) : FnI (TI cs') Tryz.prog 30 [.ptr 0 0, .z9] [some (.blk [.ptr 1 0, .int .i64 (m 0), .int .i64 (m 1), .int .i64 (m 2), .sl 3 1 0, .sla none 0 0, .sla none 0 0]), some (.blk [.sl 2 1 0]), some (.row 125 10 1 0 (fun zz => rnT (cs'.getD zz Cde.z) ((setTh cs' (setTh cs' (iniL (csB b1 o s) (rgB r v0)) 0 0) 0 (bgeta0 ((updR m lc.toNat (bputa0 (m lc.toNat) o s v)) lc.toNat) o s)).getD zz Th.z))), some (.row 123 3 1 0 (fun _ => [.int .i64 lc, .int .i64 (mskN o s), .int .i64 v]))] (Rt (.tt) [some (.blk [.ptr 1 0, .int .i64 ((updR m lc.toNat (bputa0 (m lc.toNat) o s v)) 0), .int .i64 ((updR m lc.toNat (bputa0 (m lc.toNat) o s v)) 1), .int .i64 ((updR m lc.toNat (bputa0 (m lc.toNat) o s v)) 2), .st 3 3 1 0 0, .sla none 0 0, .sla none 0 0]), some (.blk [.sl 2 1 0]), some (.row 125 10 1 0 (fun zz => rnT (cs'.getD zz Cde.z) ((setTh cs' (setTh cs' (iniL (csB b1 o s) (rgB r v0)) 0 0) 0 (bgeta0 ((updR m lc.toNat (bputa0 (m lc.toNat) o s v)) lc.toNat) o s)).getD zz Th.z))), some (.row 123 3 1 0 (fun _ => [.int .i64 lc, .int .i64 (mskN o s), .int .i64 v]))]) := doD_ m cs' (setTh cs' (setTh cs' (iniL (csB b1 o s) (rgB r v0)) 0 0) 0 (bgeta0 ((updR m lc.toNat (bputa0 (m lc.toNat) o s v)) lc.toNat) o s)) 1 lc o s v 0 (okB2 hok) (by decide) (by omega) hO ⟨by decide, by rw [mvB2 he]; decide⟩ (by rw [mvB2 he]; rfl) (by rw [mvB2 he]; rfl)
theorem lD3_ {b1 : Nat} {o s v0 v lc : Int} {r : Rg} {m : Nat → Int} {cs' : List Cde} (hok : CoreOK cs' (iniL (csB b1 o s) (rgB r v0)) 1) (he : (cs'.getD 0 Cde.z).l = codB o s) (hO : OS o s) (hlc : lc = 2) (hv : v = bget0 v0 s) : FnI (TI cs') Tryz.prog 30 [.ptr 0 0, .int .i64 1] [some (.blk [.ptr 1 0, .int .i64 (m 0), .int .i64 (m 1), .int .i64 (m 2), .sl 3 1 0, .sla none 0 0, .sla none 0 0]), some (.blk [.sl 2 1 0]), some (coR9 cs' (setTh cs' (iniL (csB b1 o s) (rgB r v0)) 0 0) 1), some (.row 123 3 1 0 (fun _ => [.int .i64 lc, .int .i64 (mskN o s), .int .i64 v]))] (Rt (.tt) [some (.blk [.ptr 1 0, .int .i64 ((updR m lc.toNat (bputa0 (m lc.toNat) o s v)) 0), .int .i64 ((updR m lc.toNat (bputa0 (m lc.toNat) o s v)) 1), .int .i64 ((updR m lc.toNat (bputa0 (m lc.toNat) o s v)) 2), .st 3 3 1 0 0, .sla none 0 0, .sla none 0 0]), some (.blk [.sl 2 1 0]), some (coR9 cs' (setTh cs' (iniL (csB b1 o s) (rgB r v0)) 0 0) 1), some (.row 123 3 1 0 (fun _ => [.int .i64 lc, .int .i64 (mskN o s), .int .i64 v]))]) := doD_ m cs' (setTh cs' (iniL (csB b1 o s) (rgB r v0)) 0 0) 1 lc o s v 1 (okB1 hok) (by decide) (by omega) hO ⟨by decide, by rw [mvB1 he]; decide⟩ (by rw [mvB1 he]; rfl) (by rw [mvB1 he]; rfl)
theorem lDn_ {b1 : Nat} {o s v0 v lc : Int} {r : Rg} {m : Nat → Int} {cs' : List Cde} (hok : CoreOK cs' (iniL (csB b1 o s) (rgB r v0)) 1) (he : (cs'.getD 0 Cde.z).l = codB o s) : FnI (TI cs') Tryz.prog 36 [.ptr 0 0] [some (.blk [.ptr 1 0, .int .i64 ((updR m lc.toNat (bputa0 (m lc.toNat) o s v)) 0), .int .i64 ((updR m lc.toNat (bputa0 (m lc.toNat) o s v)) 1), .int .i64 ((updR m lc.toNat (bputa0 (m lc.toNat) o s v)) 2), .st 3 3 1 0 0, .sla none 0 0, .sla none 0 0]), some (.blk [.sl 2 1 0]), some (.row 125 10 1 0 (fun zz => rnT (cs'.getD zz Cde.z) ((setTh cs' (setTh cs' (iniL (csB b1 o s) (rgB r v0)) 0 0) 0 (bgeta0 ((updR m lc.toNat (bputa0 (m lc.toNat) o s v)) lc.toNat) o s)).getD zz Th.z))), some (.row 123 3 1 0 (fun _ => [.int .i64 lc, .int .i64 (mskN o s), .int .i64 v]))] (Rt (.tt) [some (.blk [.ptr 1 0, .int .i64 ((updR m lc.toNat (bputa0 (m lc.toNat) o s v)) 0), .int .i64 ((updR m lc.toNat (bputa0 (m lc.toNat) o s v)) 1), .int .i64 ((updR m lc.toNat (bputa0 (m lc.toNat) o s v)) 2), .st 3 3 1 0 0, .sla none 0 0, .sla none 0 0]), some (.blk [.sl 2 1 0]), some (.row 125 10 1 0 (fun zz => rnT (cs'.getD zz Cde.z) ((setTh cs' (setTh cs' (iniL (csB b1 o s) (rgB r v0)) 0 0) 0 (bgeta0 ((updR m lc.toNat (bputa0 (m lc.toNat) o s v)) lc.toNat) o s)).getD zz Th.z))), some (.row 123 3 1 0 (fun _ => [.int .i64 lc, .int .i64 (mskN o s), .int .i64 v]))]) := fnI_ff (doneC_ (updR m lc.toNat (bputa0 (m lc.toNat) o s v)) cs' (setTh cs' (setTh cs' (iniL (csB b1 o s) (rgB r v0)) 0 0) 0 (bgeta0 ((updR m lc.toNat (bputa0 (m lc.toNat) o s v)) lc.toNat) o s)) 1 lc o s v (okB2 hok) (by decide)) (fun {G} => by rw [mvB3 he]; rfl)
theorem lRg_ {b1 : Nat} {o s v0 v lc : Int} {r : Rg} {m : Nat → Int} {cs' : List Cde} (hok : CoreOK cs' (iniL (csB b1 o s) (rgB r v0)) 1) (he : (cs'.getD 0 Cde.z).l = codB o s) (hO : OS o s) (hlc : lc = 2) (hv : v = bget0 v0 s) (hv0 : -9223372036854775808 ≤ v0 ∧ v0 ≤ 9223372036854775807) : FnI (TI cs') Tryz.prog 41 [.ptr 0 0, .z9, .int .i64 6] [some (.blk [.sl 1 1 0]), some (.row 125 10 1 0 (fun zz => rnT (cs'.getD zz Cde.z) ((setTh cs' (setTh cs' (iniL (csB b1 o s) (rgB r v0)) 0 0) 0 (bgeta0 ((updR m lc.toNat (bputa0 (m lc.toNat) o s v)) lc.toNat) o s)).getD zz Th.z)))] (Rt (.int .i64 (mask0 v0 s)) [some (.blk [.sl 1 1 0]), some (.row 125 10 1 0 (fun zz => rnT (cs'.getD zz Cde.z) ((setTh cs' (setTh cs' (iniL (csB b1 o s) (rgB r v0)) 0 0) 0 (bgeta0 ((updR m lc.toNat (bputa0 (m lc.toNat) o s v)) lc.toNat) o s)).getD zz Th.z)))]) := fnI_ff (cRegI_ cs' (setTh cs' (setTh cs' (iniL (csB b1 o s) (rgB r v0)) 0 0) 0 (bgeta0 ((updR m lc.toNat (bputa0 (m lc.toNat) o s v)) lc.toNat) o s)) 1 0 6 ⟨by decide, by decide⟩ ⟨by decide, by decide⟩).toI (fun {G} => congrArg (fun z => some (Value.int .i64 z)) (show ((setTh cs' (setTh cs' (iniL (csB b1 o s) (rgB r v0)) 0 0) 0 (bgeta0 ((updR m lc.toNat (bputa0 (m lc.toNat) o s v)) lc.toNat) o s)).getD 0 Th.z).r 6 = _ by rw [stB2 he]; show bget0 (bgeta0 ((updR m lc.toNat (bputa0 (m lc.toNat) o s v)) lc.toNat) o s) s = _; subst hlc; subst hv; exact mask_fin _ hO hv0))
theorem aM0_ {b1 b2 : Nat} {cs' : List Cde} (hok : CoreOK cs' (iniL (csS b1 b2) rgS) 2) (he : (cs'.getD 0 Cde.z).l = codS0) (he1 : (cs'.getD 1 Cde.z).l = codS1) : FnI (CodesAt cs') Tryz.prog 35 [.ptr 0 0] [some (.blk [.ptr 1 0, .int .i64 (mZ 0), .int .i64 (mZ 1), .int .i64 (mZ 2), .sla none 0 0, .sla none 0 0, .sla none 0 0]), some (.blk [.sl 2 2 0]), some (coR9 cs' (iniL (csS b1 b2) rgS) 2)] (Rt (.sl 3 2 0) [some (.blk [.ptr 1 0, .int .i64 (mZ 0), .int .i64 (mZ 1), .int .i64 (mZ 2), .sla none 0 0, .sla none 0 0, .sla none 0 0]), some (.blk [.sl 2 2 0]), some (coR9 cs' (iniL (csS b1 b2) rgS) 2), some (.row 44 4 2 0 (mvF [(2, 0, 0), (2, 1, 0)]))]) := by have h := mvA_ mZ cs' (iniL (csS b1 b2) rgS) 2 hok (by decide); rw [mvS0 he he1] at h; exact h
theorem aM1_ {b1 b2 : Nat} {o s v lc : Int} {cs' : List Cde} (hok : CoreOK cs' (iniL (csS b1 b2) rgS) 2) (he : (cs'.getD 0 Cde.z).l = codS0) (he1 : (cs'.getD 1 Cde.z).l = codS1) : FnI (CodesAt cs') Tryz.prog 35 [.ptr 0 0] [some (.blk [.ptr 1 0, .int .i64 (mZ 0), .int .i64 (mZ 1), .int .i64 (mZ 2), .sl 3 1 0, .sla none 0 0, .sla none 0 0]), some (.blk [.sl 2 2 0]), some (coR9 cs' (setTh cs' (iniL (csS b1 b2) rgS) 0 0) 2), some (.row 123 3 1 0 (fun _ => [.int .i64 lc, .int .i64 (mskN o s), .int .i64 v]))] (Rt (.sl 4 3 0) [some (.blk [.ptr 1 0, .int .i64 (mZ 0), .int .i64 (mZ 1), .int .i64 (mZ 2), .sl 3 1 0, .sla none 0 0, .sla none 0 0]), some (.blk [.sl 2 2 0]), some (coR9 cs' (setTh cs' (iniL (csS b1 b2) rgS) 0 0) 2), some (.row 123 3 1 0 (fun _ => [.int .i64 lc, .int .i64 (mskN o s), .int .i64 v])), some (.row 44 4 3 0 (mvF [(2, 0, 1), (3, 0, 0), (2, 1, 0)]))]) := by have h := mvB_ mZ cs' (setTh cs' (iniL (csS b1 b2) rgS) 0 0) 2 lc o s v (okS1 hok) (by decide); rw [mvS1 he he1] at h; exact h
theorem aD0_ {b1 b2 : Nat} {o s v lc : Int} {cs' : List Cde} (hok : CoreOK cs' (iniL (csS b1 b2) rgS) 2) (he : (cs'.getD 0 Cde.z).l = codS0) (he1 : (cs'.getD 1 Cde.z).l = codS1) (hlc : lc = 0) (ho : o = 0) (hs : s = 8) (hv : v = bget0 1 8) : FnI (TI cs') Tryz.prog 30 [.ptr 0 0, .z9] [some (.blk [.ptr 1 0, .int .i64 (mZ 0), .int .i64 (mZ 1), .int .i64 (mZ 2), .sla none 0 0, .sla none 0 0, .sla none 0 0]), some (.blk [.sl 2 2 0]), some (coR9 cs' (iniL (csS b1 b2) rgS) 2)] (Rt (.tt) [some (.blk [.ptr 1 0, .int .i64 (mZ 0), .int .i64 (mZ 1), .int .i64 (mZ 2), .sl 3 1 0, .sla none 0 0, .sla none 0 0]), some (.blk [.sl 2 2 0]), some (coR9 cs' (setTh cs' (iniL (csS b1 b2) rgS) 0 0) 2), some (.row 123 3 1 0 (fun _ => [.int .i64 lc, .int .i64 (mskN o s), .int .i64 v]))]) := have h := hyB (cs := cs') (ts := (iniL (csS b1 b2) rgS)) stS0 he; doS_ mZ cs' (iniL (csS b1 b2) rgS) 2 lc o s v 0 hok (by decide) (by decide) (by omega) (by subst ho; subst hs; unfold OS; omega) (by rw [h.1, h.2.2]; exact (by decide : 0 < 2)) (by rw [h.2.1]; rfl) (by rw [h.2.1, hlc]; rfl) (by rw [h.1, h.2.1, ho, hs]; rfl) (by rw [h.1, h.2.1, hv]; rfl) ⟨by decide, by rw [mvS0 he he1]; decide⟩ (by rw [mvS0 he he1]; rfl) (by rw [mvS0 he he1]; rfl)
theorem aD9_ {b1 b2 : Nat} {o s v lc : Int} {cs' : List Cde} (hok : CoreOK cs' (iniL (csS b1 b2) rgS) 2) (he : (cs'.getD 0 Cde.z).l = codS0) (he1 : (cs'.getD 1 Cde.z).l = codS1) : FnI (TI cs') Tryz.prog 30 [.ptr 0 0, .int .i64 9] [some (.blk [.ptr 1 0, .int .i64 (mZ 0), .int .i64 (mZ 1), .int .i64 (mZ 2), .sl 3 1 0, .sla none 0 0, .sla none 0 0]), some (.blk [.sl 2 2 0]), some (coR9 cs' (setTh cs' (iniL (csS b1 b2) rgS) 0 0) 2), some (.row 123 3 1 0 (fun _ => [.int .i64 lc, .int .i64 (mskN o s), .int .i64 v]))] (Rt (.ff) [some (.blk [.ptr 1 0, .int .i64 (mZ 0), .int .i64 (mZ 1), .int .i64 (mZ 2), .sl 3 1 0, .sla none 0 0, .sla none 0 0]), some (.blk [.sl 2 2 0]), some (coR9 cs' (setTh cs' (iniL (csS b1 b2) rgS) 0 0) 2), some (.row 123 3 1 0 (fun _ => [.int .i64 lc, .int .i64 (mskN o s), .int .i64 v]))]) := doF_ mZ cs' (setTh cs' (iniL (csS b1 b2) rgS) 0 0) 2 lc o s v 9 (okS1 hok) (by decide) (by rw [mvS1 he he1]; decide)
theorem aAt_ {b1 b2 : Nat} {cs' : List Cde} (hok : CoreOK cs' (iniL (csS b1 b2) rgS) 2) (he : (cs'.getD 0 Cde.z).l = codS0) (he1 : (cs'.getD 1 Cde.z).l = codS1) : FnI (CodesAt cs') Tryz.prog 45 [.ptr 0 0, .z9] [some (.blk [.sl 1 2 0]), some (coR9 cs' (setTh cs' (iniL (csS b1 b2) rgS) 0 0) 2)] (Rt (.int .i64 1) [some (.blk [.sl 1 2 0]), some (coR9 cs' (setTh cs' (iniL (csS b1 b2) rgS) 0 0) 2)]) := fnI_ff (cAtI_ cs' (setTh cs' (iniL (csS b1 b2) rgS) 0 0) 2 0 ⟨by decide, by decide⟩).toI (fun {G} => congrArg (fun z => some (Value.int .i64 z)) (show ((((setTh cs' (iniL (csS b1 b2) rgS) 0 0).getD 0 Th.z).at_ : Nat) : Int) = _ by rw [stS1 he]; rfl))
theorem preB {b1 b2 b3 lo : Nat} {o s : Int} {cz c1 : List SV} {w : World} {ks : List Nat} (hA : Acc lo [(b3, cz), (b2, [.sla (some ⟨b1, 0, none⟩) 2 2]), (b1, c1)] w ks) (hc1 : denL [] c1 = denL [] ((codB o s).flatMap insS)) : LstAt (some ⟨b2, 0, none⟩) 1 (csB b1 o s).length (fun zz => cdc ((csB b1 o s).getD zz Cde.z)) w [] ∧ CodesAt (csB b1 o s) w [] := by
 have hA := hA.bare
 obtain ⟨_, v2, d2, l2⟩ := hA (b2, _) (.tail _ (.head _))
 obtain ⟨_, v1, d1, l1⟩ := hA (b1, _) (.tail _ (.tail _ (.head _)))
 refine ⟨lstL_of Cde.z cdc 1 (fun _ => rfl) (fun _ => rfl) (fun x => ⟨_, rfl⟩) (csB b1 o s) l2 d2, fun c hc => ?_⟩
 rw [List.mem_singleton] at hc
 subst hc
 exact lstL_of In.z insS 17 (fun _ => rfl) (fun _ => rfl) (fun x => ⟨_, rfl⟩) (codB o s) l1 (hc1.symm.trans d1)
end Go.Proofs.YtbbdanhpphlbpaaGreatDoor.Mc
namespace Go.Proofs.YtbbdanhpphlbpaaGreatDoor.Mc
open Go.RowKit
set_option linter.unusedVariables false
set_option linter.unusedSimpArgs false
set_option maxRecDepth 100000
set_option maxHeartbeats 2000000
set_option simprocs false
theorem CALLSB {n : Nat} {ks : List Nat} {G0 : Gr} {w0 : World} {T : List (Nat × SV)} {H : Hp} {G : Gr} {a : Act} {w : World} {Q : Exit → Act → World → Prop} {K : List Fr} {ops : Array Oper} {o : Oper} {rest : List Oper} {t : Nat} (A : Sy n T H ks G0 w0 G a w) (h1 : callS n ops T o = some (72, [.int .i64 1])) (hd : o.dst = some t)
  (k : ∀ (b1 b2 b3 b4 : Nat) {a w}, LstAt (some ⟨b3, 0, none⟩) 1 (csS b1 b2).length (fun zz => cdc ((csS b1 b2).getD zz Cde.z)) w [] ∧ CodesAt (csS b1 b2) w [] → Sy n ((t, .agg [.int .i64 1, .str [83, 66], .z9, .z9, .z9, .z9, .z9, .z9, .z9, .z9, .z9, .z9, .int .i64 1, .z9, .z9, .z9, .z9, .z9, .z9, .z9, .int .i64 1, .z9, .z9, .z9, .z9, .z9, .z9, .z9, .z9, .sla (some ⟨b3, 0, none⟩) 2 2, .int .i64 1, .sla (some ⟨b4, 0, none⟩) 1 1]) :: T) H ks G0 w0 G a w → Goal Tryz.prog Q K (.ops ops rest) a w) : Goal Tryz.prog Q K (.ops ops (o :: rest)) a w := by
 refine CALLW [] sb_ A trivial Off.nil (fun b h => by cases h) h1 rfl rfl rfl rfl fun {x a' w'} hm hJ A' => ?_
 obtain ⟨b1, b2, b3, b4, rfl, hp⟩ := hJ
 rw [hd] at A'
 exact k b1 b2 b3 b4 hp A'
theorem able_ : FnI DbAt Tryz.prog 26 [] [] (Rt .tt []) :=
 enterI (n := 47) (by kernel_rfl) Tryz.func26 rfl rfl rfl fun G w a h0 hD A => have B := A; have hD := LstAt.ok.now A hD; have A := A.base; N9 7 A rfl rfl fun A => CALLSB A rfl rfl fun b1 b2 b3 b4 {_ _} hp A =>
 NEWM (H' := fun cs' => [some (coR9 cs' (iniL (csS b1 b2) rgS) 2), some (.blk [.sl 0 2 0]), some (.blk [.ptr 1 0, .int .i64 (mZ 0), .int .i64 (mZ 1), .int .i64 (mZ 2), .sla none 0 0, .sla none 0 0, .sla none 0 0])]) (new_ (csS b1 b2) (some ⟨b3, 0, none⟩) 2 rgS mZ 1 1 [83, 66] (some ⟨b4, 0, none⟩) 1 1 (ckS_ b1 b2) (show 0 < 2 by decide)) A hp rfl rfl rfl (fun _ => rfl) fun cs' {_ _ _} hok he hC A => have hD := LstAt.ok.now A hD; have B := B.trans A; have A := B.base; have he1 := he 1 (show 1 < 2 by decide); have he := he 0 (show 0 < 2 by decide); have hI := (⟨hC, hD⟩ : TI cs' _ _);
 Exists.elim (⟨0, rfl⟩ : ∃ lc : Int, lc = 0) fun lc hlc => Exists.elim (⟨0, rfl⟩ : ∃ o : Int, o = 0) fun o ho => Exists.elim (⟨8, rfl⟩ : ∃ s : Int, s = 8) fun s hs => Exists.elim (⟨_, rfl⟩ : ∃ v : Int, v = bget0 1 8) fun v hv =>
 N9 7 A rfl rfl fun A => q_eff A rfl (pnilE rfl rfl rfl rfl rfl (by kernel_rfl)) fun A => N9 5 A rfl rfl fun A => q_eff A rfl (pnilE rfl rfl rfl rfl rfl (by kernel_rfl)) fun A => N9 9 A rfl rfl fun A => I9 [2, 1, 0] CodesAt.ok hI.1 (aM0_ hok he he1) A rfl fun A => N9 9 A rfl rfl fun A => forkE 19 A rfl
  (fun h1 A => N9 1 A rfl rfl fun A => I9 [2, 1, 0] TI.ok hI (aD0_ hok he he1 hlc ho hs hv) A rfl fun A => N9 3 A rfl rfl fun A => I9 [2, 1, 0, 4] TI.ok hI (aD9_ hok he he1) A rfl fun A => N9 4 A rfl rfl fun A => I9 [2, 1, 0, 4] CodesAt.ok hI.1 (aM1_ hok he he1) A rfl fun A => N9 4 A rfl rfl fun A => forkE 34 A rfl
   (fun h2 A => N9 1 A rfl rfl fun A => C9 [2, 1, 0, 4] (memB_ mZ cs' (setTh cs' (iniL (csS b1 b2) rgS) 0 0) 2 lc o s v 0 (by decide)) A rfl fun A => N9 3 A rfl rfl fun A => forkE 39 A rfl
    (fun h3 A => N9 4 A rfl rfl fun A => I9 [1, 0] CodesAt.ok hI.1 (aAt_ hok he he1) A rfl fun A => N9 6 A rfl rfl fun A => R9 (B.trans A) rfl h0 rfl rfl rfl)
    (fun h3 A => absurd h3 (by decide)))
   (fun h2 A => absurd h2 (by decide)))
  (fun h1 A => absurd h1 (by decide))
end Go.Proofs.YtbbdanhpphlbpaaGreatDoor.Mc
namespace Go.Proofs.YtbbdanhpphlbpaaGreatDoor
open Go.Shelf Go.RowKit
set_option linter.unusedVariables false
def lays137_ren : Go.Shelf.Ren := ⟨fun | 137 => 207 | 217 => 233 | 266 => 264 | n => n, fun | 9 => 9 | 5 => 5 | 3 => 3 | n => n, fun | n => n⟩
theorem lays137 : Go.Proofs.Lays.n137 Tryz.prog lays137_ren := {
 mixed := by kernel_rfl
 f137 := Tryz.func207.trans (congrArg some (by kernel_rfl))
 f217 := Tryz.func233.trans (congrArg some (by kernel_rfl))
 f266 := Tryz.func264.trans (congrArg some (by kernel_rfl))
 t3 := Tryz.underlying3
 a3 := Tryz.isAgg3
 z3 := Tryz.sizeOf3
 v3 := Tryz.zeroValue3
 t5 := Tryz.underlying5
 a5 := Tryz.isAgg5
 z5 := Tryz.sizeOf5
 v5 := Tryz.zeroValue5
 t9 := Tryz.underlying9
 a9 := Tryz.isAgg9
 z9 := Tryz.sizeOf9
 v9 := Tryz.zeroValue9 }
def lays143_ren : Go.Shelf.Ren := ⟨fun | 143 => 152 | 219 => 203 | 217 => 233 | 225 => 234 | 224 => 235 | 267 => 236 | 266 => 264 | 314 => 265 | n => n, fun | 9 => 9 | 3 => 3 | 4 => 4 | 5 => 5 | 46 => 188 | 146 => 278 | 51 => 226 | n => n, fun | 1 => 0 | n => n⟩
theorem lays143 : Go.Proofs.Lays.n143 Tryz.prog lays143_ren := {
 mixed := by kernel_rfl
 f143 := Tryz.func152.trans (congrArg some (by kernel_rfl))
 f217 := Tryz.func233.trans (congrArg some (by kernel_rfl))
 f219 := Tryz.func203.trans (congrArg some (by kernel_rfl))
 f224 := Tryz.func235.trans (congrArg some (by kernel_rfl))
 f225 := Tryz.func234.trans (congrArg some (by kernel_rfl))
 f266 := Tryz.func264.trans (congrArg some (by kernel_rfl))
 f267 := Tryz.func236.trans (congrArg some (by kernel_rfl))
 f314 := Tryz.func265.trans (congrArg some (by kernel_rfl))
 t3 := Tryz.underlying3
 a3 := Tryz.isAgg3
 z3 := Tryz.sizeOf3
 v3 := Tryz.zeroValue3
 t4 := Tryz.underlying4
 a4 := Tryz.isAgg4
 z4 := Tryz.sizeOf4
 v4 := Tryz.zeroValue4
 t5 := Tryz.underlying5
 a5 := Tryz.isAgg5
 z5 := Tryz.sizeOf5
 v5 := Tryz.zeroValue5
 t9 := Tryz.underlying9
 a9 := Tryz.isAgg9
 z9 := Tryz.sizeOf9
 v9 := Tryz.zeroValue9
 t46 := Tryz.underlying188
 a46 := Tryz.isAgg188
 z46 := Tryz.sizeOf188
 v46 := Tryz.zeroValue188
 t51 := Tryz.underlying226
 a51 := Tryz.isAgg226
 z51 := Tryz.sizeOf226
 v51 := Tryz.zeroValue226
 t146 := Tryz.underlying278
 a146 := Tryz.isAgg278
 z146 := Tryz.sizeOf278
 v146 := Tryz.zeroValue278
 g1 := by kernel_rfl }
def marksL : List UInt8 := [123, 125, 40, 41, 91, 93, 59, 124, 44, 58, 61, 43, 45, 35, 36, 126, 42, 47, 92, 38, 63, 94]
def mrkB (b : UInt8) : Bool := marksL.contains b
theorem indexByte_mark (l : List UInt8) (b : UInt8) : decide (Lib.indexByte l b ≥ 0) = l.contains b := by
 induction l with
 | nil => rfl
 | cons x l ih =>
  unfold Lib.indexByte
  rw [List.contains_cons]
  by_cases h : x = b
  ·subst h; simp
  ·have h1 : (x == b) = false := by simp [h]
   have h2 : (b == x) = false := by simp [Ne.symm h]
   rw [h1, h2]
   simp only [Bool.false_eq_true, if_false, Bool.false_or]
   rw [← ih]
   have h3 := Lib.indexByte_ge l b
   by_cases h4 : Lib.indexByte l b = -1
   ·simp [h4]
   ·have h5 : (Lib.indexByte l b == -1) = false := by simp [h4]
    rw [h5]
    simp only [Bool.false_eq_true, if_false]
    exact decide_eq_decide.2 (by omega)
theorem indexByte_any (b : UInt8) (w : World) : Calls Tryz.prog 207 #[.string (S marksL), .int .u8 ((b.toNat : Nat) : Int)] w fun e w' => e = .returned (.int .i64 (Lib.indexByte marksL b)) ∧ Grow w w' := by
 refine (Any.strings_IndexByte lays137 (S marksL) ((b.toNat : Nat) : Int) w).mono ?_
 rintro e w' ⟨rfl, rfl⟩
 refine ⟨?_, Grow.refl _⟩
 rw [S_data, Int.toNat_natCast]
 simp
theorem index_any (l q : List UInt8) (m : Int) (w : World) (hl : l.length ≤ 8192) (hm : w.cell? ⟨0, 0, none⟩ = some (.int .i64 m)) : Calls Tryz.prog 152 #[.string (S l), .string (S q)] w fun e w' => e = .returned (.int .i64 (Lib.index l q)) ∧ Grow w w' := by
 refine (Any.strings_Index lays143 (S l) (S q) m w (by rw [S_size]; omega) hm).mono ?_
 rintro e w' ⟨rfl, rfl⟩
 exact ⟨by rw [S_data, S_data], Grow.refl _⟩
end Go.Proofs.YtbbdanhpphlbpaaGreatDoor
namespace Go.Proofs.YtbbdanhpphlbpaaGreatDoor
set_option linter.unusedVariables false
def preB (l q : List UInt8) : Bool := decide (q.length ≤ l.length) && (l.take q.length == q)
def mkN (l : List UInt8) : Nat := if preB l [47, 92] || preB l [92, 47] then 2 else if (match l[0]? with | some b => mrkB b | none => false) then 1 else 0
theorem mkN_two {l : List UInt8} (h : preB l [47, 92] = true) : mkN l = 2 := by unfold mkN; simp [h]
theorem mkN_two' {l : List UInt8} (h : preB l [92, 47] = true) : mkN l = 2 := by unfold mkN; simp [h]
theorem mkN_one {l : List UInt8} {b : UInt8} (h1 : preB l [47, 92] = false) (h2 : preB l [92, 47] = false) (hb : l[0]? = some b) (h : decide (Lib.indexByte marksL b ≥ 0) = true) : mkN l = 1 := by
 have : mrkB b = true := by unfold mrkB; rw [← indexByte_mark]; exact h
 unfold mkN; simp [h1, h2, hb, this]
theorem mkN_no {l : List UInt8} {b : UInt8} (h1 : preB l [47, 92] = false) (h2 : preB l [92, 47] = false) (hb : l[0]? = some b) (h : decide (Lib.indexByte marksL b ≥ 0) = false) : mkN l = 0 := by
 have : mrkB b = false := by unfold mrkB; rw [← indexByte_mark]; exact h
 unfold mkN; simp [h1, h2, hb, this]
def endR (l : List UInt8) : Int := Lib.index l [42, 41]
theorem endR_ge (l : List UInt8) : -1 ≤ endR l := Lib.index_ge l _
theorem drop_lt {l : List UInt8} (n : Nat) (h : 0 < l.length) (hn : 0 < n) : (l.drop n).length < l.length := by rw [List.length_drop]; omega
def skipL (l : List UInt8) : Nat × Bool :=
 match l with
 | [] => (0, false)
 | b :: r =>
  if blkB b then ((skipL r).1 + 1, (skipL r).2)
  else if preB (b :: r) [40, 42] then
   if endR ((b :: r).drop 2) < 0 then (0, true)
   else ((skipL ((b :: r).drop (endR ((b :: r).drop 2)).toNat.succ.succ.succ.succ)).1 + ((endR ((b :: r).drop 2)).toNat + 4), (skipL ((b :: r).drop (endR ((b :: r).drop 2)).toNat.succ.succ.succ.succ)).2)
  else (0, false)
termination_by l.length
decreasing_by
 ·simp
 all_goals exact drop_lt _ (by simp) (by omega)
theorem skip_nil : skipL [] = (0, false) := by rw [skipL]
theorem skip_end {l : List UInt8} {n : Nat} (h : l.length ≤ n) : skipL (l.drop n) = (0, false) := by rw [List.drop_eq_nil_of_le h, skip_nil]
theorem skip_blank {l : List UInt8} {n : Nat} {b : UInt8} (hb : l[n]? = some b) (h : blkB b = true) : skipL (l.drop n) = ((skipL (l.drop (n + 1))).1 + 1, (skipL (l.drop (n + 1))).2) := by
 rw [drop_at hb, skipL, if_pos h]
theorem skip_word {l : List UInt8} {n : Nat} {b : UInt8} (hb : l[n]? = some b) (h : blkB b = false) (hp : preB (l.drop n) [40, 42] = false) : skipL (l.drop n) = (0, false) := by
 rw [drop_at hb] at hp ⊢
 rw [skipL, if_neg (by simp [h]), if_neg (by simp [hp])]
theorem skip_open {l : List UInt8} {n : Nat} {b : UInt8} (hb : l[n]? = some b) (h : blkB b = false) (hp : preB (l.drop n) [40, 42] = true) (he : endR (l.drop (n + 2)) < 0) : skipL (l.drop n) = (0, true) := by
 have e : l.drop (n + 2) = (l.drop n).drop 2 := by rw [List.drop_drop]
 rw [e] at he
 rw [drop_at hb] at hp he ⊢
 rw [skipL, if_neg (by simp [h]), if_pos hp, if_pos he]
theorem skip_remark {l : List UInt8} {n : Nat} {b : UInt8} (hb : l[n]? = some b) (h : blkB b = false) (hp : preB (l.drop n) [40, 42] = true) (he : ¬ endR (l.drop (n + 2)) < 0) :
  skipL (l.drop n) = ((skipL (l.drop (n + 2 + (endR (l.drop (n + 2))).toNat + 2))).1 + ((endR (l.drop (n + 2))).toNat + 4), (skipL (l.drop (n + 2 + (endR (l.drop (n + 2))).toNat + 2))).2) := by
 have e : l.drop (n + 2) = (l.drop n).drop 2 := by rw [List.drop_drop]
 have e2 : l.drop (n + 2 + (endR (l.drop (n + 2))).toNat + 2) = (l.drop n).drop (endR (l.drop (n + 2))).toNat.succ.succ.succ.succ := by
  rw [List.drop_drop]; congr 1; omega
 rw [e2, e]
 rw [e] at he
 rw [drop_at hb] at hp he ⊢
 rw [skipL, if_neg (by simp [h]), if_pos hp, if_neg he]
theorem endR_nil : endR [] = -1 := rfl
theorem endR_cons (b : UInt8) (l : List UInt8) : endR (b :: l) = if [42, 41].isPrefixOf (b :: l) then 0 else if endR l == -1 then -1 else endR l + 1 := by
 unfold endR; rw [Lib.index]
theorem endR_le (l : List UInt8) : endR l < 0 ∨ (endR l).toNat + 2 ≤ l.length := by
 induction l with
 | nil => exact .inl (by rw [endR_nil]; omega)
 | cons b l ih =>
  rw [endR_cons]
  split
  ·next h =>
   right
   match l, h with
   | [], h => simp at h
   | c :: l, h => simp
  ·split
   ·left; omega
   ·next h =>
    have h1 : endR l ≠ -1 := by simpa using h
    have h2 := endR_ge l
    rcases ih with h3 | h3
    ·omega
    ·right; simp only [List.length_cons]; omega
end Go.Proofs.YtbbdanhpphlbpaaGreatDoor
namespace Go.Proofs.YtbbdanhpphlbpaaGreatDoor
def cutF (l q : List UInt8) : List UInt8 := if preB l q then l.drop q.length else l
theorem pre_len {l q : List UInt8} (h : preB l q = true) : q.length ≤ l.length := by unfold preB at h; rw [Bool.and_eq_true] at h; exact of_decide_eq_true h.1
end Go.Proofs.YtbbdanhpphlbpaaGreatDoor
namespace Go.Proofs.YtbbdanhpphlbpaaGreatDoor
open Go.RowKit
set_option linter.unusedVariables false
set_option linter.unusedSimpArgs false
set_option maxRecDepth 100000
set_option maxHeartbeats 2000000
set_option simprocs false
theorem preB_is (l q : List UInt8) : ((decide ((l.length : Int) ≥ (q.length : Int))) && ((l.take ((q.length : Int)).toNat) == q)) = preB l q := by
 unfold preB; rw [Int.toNat_natCast]; congr 1; exact decide_eq_decide.2 (by omega)
theorem hpre_ (l q : List UInt8)  : Fn Tryz.prog 202 [.str l, .str q] [] (Rt (.bool (preB l q)) []) :=
 enterM (n := 18) (by kernel_rfl) Tryz.func202 rfl rfl rfl fun G w a h0 A => N9 24 A rfl (ok_r <| ok_r <| ok_r <| ok_g (fun hg => (by have := of_decide_eq_true hg; omega)) <| ok_r <| ok_r <| ok_r <| okE_nil) fun A => R9 A rfl h0 rfl (congrArg SV.bool (preB_is l q)) rfl
theorem hasp_ (l q : List UInt8)  : Fn Tryz.prog 151 [.str l, .str q] [] (Rt (.bool (preB l q)) []) :=
 enterM (n := 8) (by kernel_rfl) Tryz.func151 rfl rfl rfl fun G w a h0 A => N9 9 A rfl rfl fun A => C9 [] (hpre_ l q) A rfl fun A => N9 4 A rfl rfl fun A => R9 A rfl h0 rfl rfl rfl
theorem cutpl_ (l q : List UInt8)  : Fn Tryz.prog 237 [.str l, .str q] [] (Rt (.tup [.str (cutF l q), .bool (preB l q)]) []) :=
 enterM (n := 15) (by kernel_rfl) Tryz.func237 rfl rfl rfl fun G w a h0 A => N9 11 A rfl rfl fun A => C9 [] (hpre_ l q) A rfl fun A => N9 3 A rfl rfl fun A => fork 9 A rfl
  (fun h1 A => N9 9 A rfl rfl fun A => R9 A rfl h0 rfl (by have e : preB l q = false := (by have := h1; revert this; cases preB l q <;> simp); unfold cutF; rw [e]; simp [oneS, nb, nbL]) rfl)
  (fun h1 A => N9 14 A rfl (ok_d (by have e : preB l q = true := (by have := h1; revert this; cases preB l q <;> simp); have := pre_len e; omega) <| okE_nil) fun A => R9 A rfl h0 rfl (by have e : preB l q = true := (by have := h1; revert this; cases preB l q <;> simp); unfold cutF; rw [e]; simp [oneS, nb, nbL]) rfl)
theorem cutp_ (l q : List UInt8)  : Fn Tryz.prog 204 [.str l, .str q] [] (Rt (.tup [.str (cutF l q), .bool (preB l q)]) []) :=
 enterM (n := 11) (by kernel_rfl) Tryz.func204 rfl rfl rfl fun G w a h0 A => N9 10 A rfl rfl fun A => C9 [] (cutpl_ l q) A rfl fun A => N9 7 A rfl rfl fun A => R9 A rfl h0 rfl rfl rfl
theorem ixb_ (b : UInt8) : Fn Tryz.prog 207 [.str marksL, .int .u8 ((b.toNat : Nat) : Int)] [] (Rt (.int .i64 (Lib.indexByte marksL b)) []) := fn_grow (by kernel_rfl) rfl rfl (indexByte_any b)
theorem at0 {l : List UInt8} (h : 0 < l.length) : l[0]? = some (l.getD (0 : Int).toNat 0) := by simp [List.getD, h]
theorem markl_ (l : List UInt8) (hl : 0 < l.length) : Fn Tryz.prog 159 [.str l] [] (Rt (.int .i64 ((mkN l : Nat) : Int)) []) :=
 enterM (n := 13) (by kernel_rfl) Tryz.func159 rfl rfl rfl fun G w a h0 A => N9 11 A rfl rfl fun A => C9 [] (hasp_ l [47, 92]) A rfl fun A => N9 3 A rfl rfl fun A => fork 3 A rfl
  (fun h1 A => N9 10 A rfl rfl fun A => R9 A rfl h0 rfl (by rw [mkN_two h1]; rfl) rfl)
  (fun h1 A => N9 3 A rfl rfl fun A => C9 [] (hasp_ l [92, 47]) A rfl fun A => N9 3 A rfl rfl fun A => fork 3 A rfl
   (fun h2 A => N9 7 A rfl rfl fun A => R9 A rfl h0 rfl (by rw [mkN_two' h2]; rfl) rfl)
   (fun h2 A => N9 5 A rfl (ok_d (by omega) <| okE_nil) fun A => C9 [] (ixb_ (l.getD (0 : Int).toNat 0)) A rfl fun A => N9 4 A rfl rfl fun A => forkD 8 A rfl
    (fun h3 A => N9 7 A rfl rfl fun A => R9 A rfl h0 rfl (by rw [mkN_one h1 h2 (at0 hl) (decide_eq_true h3)]; rfl) rfl)
    (fun h3 A => N9 10 A rfl rfl fun A => R9 A rfl h0 rfl (by rw [mkN_no h1 h2 (at0 hl) (decide_eq_false h3)]; rfl) rfl)))
theorem ix_ (l q : List UInt8) (os : List (Nat × Obj)) (hM : ∀ w ks, Gl os w ks → ∃ m, w.cell? ⟨0, 0, none⟩ = some (.int .i64 m)) (hl : l.length ≤ 8192) : FnI (Gl os) Tryz.prog 152 [.str l, .str q] [] (Rt (.int .i64 (Lib.index l q)) []) := fnI_grow (by kernel_rfl) rfl rfl fun w ks h => by
 obtain ⟨m, hm⟩ := hM w ks h
 exact index_any l q m w hl hm
structure KI (l : List UInt8) (a k : Nat) : Prop where
 le : k ≤ l.length
 ge : a ≤ k
 eq : (skipL (l.drop a)) = ((skipL (l.drop k)).1 + (k - a), (skipL (l.drop k)).2)
section
variable {l : List UInt8} {a k : Nat}
theorem KI.i0 (h : a ≤ l.length) : KI l a a := ⟨h, Nat.le_refl _, by simp⟩
theorem KI.bl (hI : KI l a k) (h1 : (k : Int) < (l.length : Int)) (h : blkB (l.getD ((k : Int)).toNat 0) = true) : KI l a (k + 1) := by
 have := hI.ge
 refine ⟨by omega, by omega, ?_⟩
 rw [hI.eq, skip_blank (at_of h1) h]
 simp; omega
theorem KI.rm (hI : KI l a k) (h1 : (k : Int) < (l.length : Int)) (h : blkB (l.getD ((k : Int)).toNat 0) = false) (hp : preB (l.drop ((k : Int)).toNat) [40, 42] = true) (he : ¬ endR (l.drop (((k : Int) + 2)).toNat) < 0) : KI l a (k + 2 + (endR (l.drop (k + 2))).toNat + 2) := by
 have hg := hI.ge
 have hk : ((k : Int)).toNat = k := by omega
 have hk2 : (((k : Int) + 2)).toNat = k + 2 := by omega
 rw [hk] at hp
 rw [hk2] at he
 have hl := pre_len hp
 simp only [List.length_drop, List.length_cons, List.length_nil] at hl
 have hr := endR_le (l.drop (k + 2))
 rw [List.length_drop] at hr
 refine ⟨by omega, by omega, ?_⟩
 rw [hI.eq, skip_remark (at_of h1) h hp he]
 simp; omega
theorem KI.fi (hI : KI l a k) (h : ¬ (k : Int) < (l.length : Int)) : skipL (l.drop a) = (k - a, false) := by
 rw [hI.eq, skip_end (by omega)]; simp
theorem KI.wd (hI : KI l a k) (h1 : (k : Int) < (l.length : Int)) (h : blkB (l.getD ((k : Int)).toNat 0) = false) (hp : preB (l.drop ((k : Int)).toNat) [40, 42] = false) : skipL (l.drop a) = (k - a, false) := by
 have hk : ((k : Int)).toNat = k := by omega
 rw [hk] at hp
 rw [hI.eq, skip_word (at_of h1) h hp]; simp
theorem KI.op (hI : KI l a k) (h1 : (k : Int) < (l.length : Int)) (h : blkB (l.getD ((k : Int)).toNat 0) = false) (hp : preB (l.drop ((k : Int)).toNat) [40, 42] = true) (he : endR (l.drop (((k : Int) + 2)).toNat) < 0) : skipL (l.drop a) = (k - a, true) := by
 have hk : ((k : Int)).toNat = k := by omega
 have hk2 : (((k : Int) + 2)).toNat = k + 2 := by omega
 rw [hk] at hp
 rw [hk2] at he
 rw [hI.eq, skip_open (at_of h1) h hp he]; simp
end
def skE (l : List UInt8) (a : Nat) : Int := if (skipL (l.drop a)).2 then 24 else 0
theorem skip_ (l : List UInt8) (s0 : Nat) (os : List (Nat × Obj)) (hM : ∀ w ks, Gl os w ks → ∃ m, w.cell? ⟨0, 0, none⟩ = some (.int .i64 m)) (ha : s0 ≤ l.length) (hl : l.length ≤ 8192) : FnI (Gl os) Tryz.prog 118 [.str l, .int .i64 (s0 : Int)] [] (Rt (.tup [.int .i64 ((s0 + (skipL (l.drop s0)).1 : Nat) : Int), .int .i64 (skE l s0)]) []) :=
 enterI (n := 39) (by kernel_rfl) Tryz.func118 rfl rfl rfl fun G w a h0 hI A => N9 8 A rfl rfl fun A => LOOP1 (fun (k : Nat) => [(0, .str l), (1, .int .i64 (k : Int)), (4, .int .i64 0), (5, .int .i64 0)]) (fun (k : Nat) => []) (fun (k : Nat) => KI l s0 k) (fun (k : Nat) => l.length - k) s0 (KI.i0 ha) ((A.cut [0, 1, 4, 5] rfl).trunc 0 rfl rfl rfl (by simp only [List.length_cons, List.length_nil] at h0; omega)) fun k hI2 {G a w} A => N9 9 A rfl rfl fun A => forkD 11 A rfl
   (fun h1 A => N9 10 A rfl (ok_d (by have hle := hI2.le; (try simp only [List.length_drop]); omega) <| okE_nil) fun A => C9 [] (isBlank_b (l.getD ((k : Int)).toNat 0)) A rfl fun A => N9 3 A rfl rfl fun A => fork 13 A rfl
    (fun h2 A => N9 8 A rfl (ok_d (by have hle := hI2.le; (try simp only [List.length_drop]); omega) <| okE_nil) fun A => ⟨k + 1, _, (by omega), (hI2.bl h1 h2), ((A.cut [0, 1, 4, 5] rfl).trunc 0 rfl rfl rfl (by simp only [List.length_cons, List.length_nil] at h0; omega)).sayT (by simp)⟩)
    (fun h2 A => N9 6 A rfl (ok_d (by have hle := hI2.le; (try simp only [List.length_drop]); omega) <| okE_nil) fun A => C9 [] (hasp_ (l.drop ((k : Int)).toNat) [40, 42]) A rfl fun A => N9 3 A rfl rfl fun A => fork 20 A rfl
     (fun h3 A => N9 9 A rfl (ok_d (by have hle := hI2.le; have hpl := pre_len h3; simp only [List.length_drop, List.length_cons, List.length_nil] at hpl; have hrl := endR_le (l.drop (((k : Int) + 2)).toNat); rw [List.length_drop] at hrl; (try simp only [List.length_drop]); omega) <| okE_nil) fun A => N9 4 A rfl (ok_d (by have hle := hI2.le; have hpl := pre_len h3; simp only [List.length_drop, List.length_cons, List.length_nil] at hpl; have hrl := endR_le (l.drop (((k : Int) + 2)).toNat); rw [List.length_drop] at hrl; (try simp only [List.length_drop]); omega) <| okE_nil) fun A => I9 [] Gl.ok hI (fnI_asX (ix_ (l.drop ((k : Int) + 2).toNat) [42, 41] os hM (by have hle := hI2.le; have hpl := pre_len h3; simp only [List.length_drop, List.length_cons, List.length_nil] at hpl; have hrl := endR_le (l.drop (((k : Int) + 2)).toNat); rw [List.length_drop] at hrl; (try simp only [List.length_drop]); omega)) (y := .int .i64 (endR (l.drop ((k : Int) + 2).toNat))) fun _ => rfl) A rfl fun A => N9 10 A rfl rfl fun A => forkD 32 A rfl
      (fun h4 A => N9 9 A rfl rfl fun A => R9 A rfl h0 rfl (by have e := hI2.op h1 h2 h3 h4; have hg := hI2.ge; unfold skE; rw [e]; simp [oneS, nb, nbL]; omega) rfl)
      (fun h4 A => N9 12 A rfl (ok_d (by have hle := hI2.le; have hpl := pre_len h3; simp only [List.length_drop, List.length_cons, List.length_nil] at hpl; have hrl := endR_le (l.drop (((k : Int) + 2)).toNat); rw [List.length_drop] at hrl; (try simp only [List.length_drop]); omega) <| ok_d (by have hle := hI2.le; have hpl := pre_len h3; simp only [List.length_drop, List.length_cons, List.length_nil] at hpl; have hrl := endR_le (l.drop (((k : Int) + 2)).toNat); rw [List.length_drop] at hrl; (try simp only [List.length_drop]); omega) <| okE_nil) fun A => ⟨k + 2 + (endR (l.drop (k + 2))).toNat + 2, _, (by omega), (hI2.rm h1 h2 h3 h4), ((A.cut [0, 1, 4, 5] rfl).trunc 0 rfl rfl rfl (by simp only [List.length_cons, List.length_nil] at h0; omega)).sayT (by have e2 : (((k : Int) + 2)).toNat = k + 2 := (by omega); simp only [e2] at h4 ⊢; congr 5; omega)⟩))
     (fun h3 A => N9 9 A rfl rfl fun A => R9 A rfl h0 rfl (by have e := hI2.wd h1 h2 h3; have hg := hI2.ge; unfold skE; rw [e]; simp [oneS, nb, nbL]; omega) rfl)))
   (fun h1 A => N9 11 A rfl rfl fun A => R9 A rfl h0 rfl (by have e := hI2.fi h1; have hg := hI2.ge; unfold skE; rw [e]; simp [oneS, nb, nbL]; omega) rfl)
end Go.Proofs.YtbbdanhpphlbpaaGreatDoor
namespace Go.Proofs.YtbbdanhpphlbpaaGreatDoor
set_option linter.unusedVariables false
def lwcB (b : UInt8) : Nat := (b ||| 32).toNat
theorem lowB_le (b : UInt8) : lwcB b ≤ 255 := by unfold lwcB; exact Nat.le_of_lt_succ (b ||| 32).toNat_lt
def dv (b : UInt8) : Nat := if 48 ≤ b.toNat ∧ b.toNat ≤ 57 then b.toNat - 48 else if 97 ≤ lwcB b ∧ lwcB b ≤ 122 then lwcB b - 97 + 10 else 99
theorem dv_dig {b : UInt8} (h1 : 48 ≤ b.toNat) (h2 : b.toNat ≤ 57) : dv b = b.toNat - 48 := if_pos ⟨h1, h2⟩
theorem dv_let {b : UInt8} (h : ¬ (48 ≤ b.toNat ∧ b.toNat ≤ 57)) (h1 : 97 ≤ lwcB b) (h2 : lwcB b ≤ 122) : dv b = lwcB b - 97 + 10 := by unfold dv; rw [if_neg h, if_pos ⟨h1, h2⟩]
theorem dv_bad {b : UInt8} (h : ¬ (48 ≤ b.toNat ∧ b.toNat ≤ 57)) (h1 : ¬ (97 ≤ lwcB b ∧ lwcB b ≤ 122)) : dv b = 99 := by unfold dv; rw [if_neg h, if_neg h1]
def nv (bs : Nat) (l : List UInt8) : Nat := l.foldl (fun n b => n * bs + dv b) 0
def allD (bs : Nat) (l : List UInt8) : Bool := l.all fun b => decide (dv b < bs)
def valL (bs : Nat) (l : List UInt8) : Option Nat := if l = [] ∨ allD bs l = false then none else some (nv bs l)
theorem nv_zero (bs : Nat) (l : List UInt8) : nv bs (l.take 0) = 0 := rfl
theorem take_at {l : List UInt8} {i : Nat} {y : UInt8} (h : l[i]? = some y) : l.take (i + 1) = l.take i ++ [y] := by
 rw [List.take_add_one, h]; rfl
theorem nv_go {bs : Nat} {l : List UInt8} {i : Nat} {y : UInt8} (h : l[i]? = some y) : nv bs (l.take (i + 1)) = nv bs (l.take i) * bs + dv y := by
 rw [take_at h]; unfold nv; rw [List.foldl_append]; rfl
theorem all_go {bs : Nat} {l : List UInt8} {i : Nat} {y : UInt8} (h : l[i]? = some y) (ha : allD bs (l.take i) = true) (hy : dv y < bs) : allD bs (l.take (i + 1)) = true := by
 rw [take_at h]; unfold allD at *; rw [List.all_append, ha]; simp [hy]
theorem val_bad {bs : Nat} {l : List UInt8} {i : Nat} {y : UInt8} (h : l[i]? = some y) (hy : bs ≤ dv y) : valL bs l = none := by
 unfold valL; rw [if_pos]; right
 cases ha : allD bs l
 ·rfl
 ·exfalso
  have := List.all_eq_true.1 ha y (List.mem_of_getElem? h)
  have := of_decide_eq_true this
  omega
theorem val_nil {bs : Nat} {l : List UInt8} (h : l = []) : valL bs l = none := by unfold valL; rw [if_pos (.inl h)]
theorem val_end {bs : Nat} {l : List UInt8} {i : Nat} (h : l ≠ []) (ha : allD bs (l.take i) = true) (hi : l.length ≤ i) : valL bs l = some (nv bs (l.take i)) := by
 rw [List.take_of_length_le hi] at *
 unfold valL; rw [if_neg (by simp [h, ha])]
theorem nv_pow {bs : Nat} (hb : 0 < bs) (l : List UInt8) (i : Nat) (ha : allD bs (l.take i) = true) : nv bs (l.take i) < bs ^ i := by
 induction i with
 | zero => rw [nv_zero]; simp
 | succ i ih =>
  cases hy : l[i]? with
  | none =>
   have hl : l.length ≤ i := by simpa using hy
   have e : l.take (i + 1) = l.take i := by rw [List.take_of_length_le hl, List.take_of_length_le (by omega)]
   rw [e] at ha ⊢
   exact Nat.lt_of_lt_of_le (ih ha) (Nat.pow_le_pow_right hb (by omega))
  | some y =>
   rw [take_at hy] at ha
   unfold allD at ha
   rw [List.all_append, Bool.and_eq_true] at ha
   have h1 := ih ha.1
   have h2 : dv y < bs := by simpa using ha.2
   rw [nv_go hy, Nat.pow_succ]
   calc nv bs (l.take i) * bs + dv y < nv bs (l.take i) * bs + bs := by omega
    _ = (nv bs (l.take i) + 1) * bs := by rw [Nat.add_mul, Nat.one_mul]
    _ ≤ bs ^ i * bs := Nat.mul_le_mul_right _ h1
theorem nv_10 {l : List UInt8} {i : Nat} (ha : allD 10 (l.take i) = true) (hi : i ≤ 18) : nv 10 (l.take i) < 1000000000000000000 :=
 Nat.lt_of_lt_of_le (nv_pow (by omega) l i ha) (Nat.pow_le_pow_right (n := 10) (by omega) hi)
theorem nv_16 {l : List UInt8} {i : Nat} (ha : allD 16 (l.take i) = true) (hi : i ≤ 15) : nv 16 (l.take i) < 1152921504606846976 :=
 Nat.lt_of_lt_of_le (nv_pow (by omega) l i ha) (Nat.pow_le_pow_right (n := 16) (by omega) hi)
end Go.Proofs.YtbbdanhpphlbpaaGreatDoor
namespace Go.Proofs.YtbbdanhpphlbpaaGreatDoor
open Go.RowKit
set_option linter.unusedVariables false
set_option linter.unusedSimpArgs false
set_option maxRecDepth 100000
set_option maxHeartbeats 2000000
set_option simprocs false
theorem lower_ (c : Int)  : Fn Tryz.prog 266 [.int .u8 c] [] (Rt (.int .u8 (IntKind.wrap .u8 ((((BitVec.ofInt (IntKind.bits .u8) c) ||| (BitVec.ofInt (IntKind.bits .u8) 32)).toNat : Nat) : Int))) []) :=
 enterM (n := 5) (by kernel_rfl) Tryz.func266 rfl rfl rfl fun G w a h0 A => N9 13 A rfl rfl fun A => R9 A rfl h0 rfl rfl rfl
theorem low_is (b : UInt8) : IntKind.wrap .u8 ((((BitVec.ofInt (IntKind.bits .u8) ((b.toNat : Nat) : Int)) ||| (BitVec.ofInt (IntKind.bits .u8) 32)).toNat : Nat) : Int) = ((lwcB b : Nat) : Int) := by
 have h : (BitVec.ofInt 8 ((b.toNat : Nat) : Int) ||| BitVec.ofInt 8 32).toNat = (b ||| 32).toNat := by
  have e1 : BitVec.ofInt 8 ((b.toNat : Nat) : Int) = b.toBitVec := by
   apply BitVec.eq_of_toNat_eq
   rw [BitVec.toNat_ofInt]
   have := b.toNat_lt
   simp; omega
  rw [e1]; rfl
 show IntKind.wrap .u8 (((BitVec.ofInt 8 ((b.toNat : Nat) : Int) ||| BitVec.ofInt 8 32).toNat : Nat) : Int) = _
 rw [h]
 have := lowB_le b
 unfold lwcB at this ⊢
 exact wrap8 (by omega) (by omega)
theorem low_b (b : UInt8) : Fn Tryz.prog 266 [.int .u8 ((b.toNat : Nat) : Int)] [] (Rt (.int .u8 ((lwcB b : Nat) : Int)) []) := fn_asX (lower_ _) (as_int (low_is b))
def puX (bs : Nat) (l : List UInt8) : SV := match valL bs l with | some n => .tup [.int .u64 (n : Int), .v .nilIface] | none => .tup [.int .u64 0, .v (.iface 280 (.int .i64 2))]
theorem puX_none {bs : Nat} {l : List UInt8} (h : valL bs l = none) : puX bs l = .tup [.int .u64 0, .v (.iface 280 (.int .i64 2))] := by unfold puX; rw [h]
theorem puX_some {bs : Nat} {l : List UInt8} {n : Nat} (h : valL bs l = some n) : puX bs l = .tup [.int .u64 (n : Int), .v .nilIface] := by unfold puX; rw [h]
structure NI (bs : Nat) (l : List UInt8) (j : Nat) : Prop where
 le : j ≤ l.length
 al : allD bs (l.take j) = true
theorem parse10_ (l : List UInt8) (hl : l.length ≤ 19) : Fn Tryz.prog 238 [.str l, .int .i64 10, .int .i64 64] [] (Rt (puX 10 l) []) :=
 enterM (n := 172) (by kernel_rfl) Tryz.func238 rfl rfl rfl fun G w a h0 A => N9 13 A rfl rfl fun A => forkE 19 A rfl
  (fun h1 A => N9 3 A rfl rfl fun A => q_eff A rfl (ifcE rfl rfl rfl rfl (by kernel_rfl)) fun A => N9 5 A rfl rfl fun A => R9 A rfl h0 rfl (by rw [puX_none (val_nil h1)]; rfl) rfl)
  (fun h1 A => N9 7 A rfl rfl fun A => have A := sy_sayD A 22 (.ff) rfl (fun _ => congrArg (fun b => some (Value.bool b)) (show (10 == 0) = false by decide)); N9 19 A rfl rfl fun A => have A := sy_sayD A 31 (.tt) rfl (fun _ => congrArg (fun b => some (Value.bool b)) (show ((decide (2 ≤ 10)) && (decide (10 ≤ 36))) = true by decide)); N9 14 A rfl rfl fun A => forkE 77 A rfl
   (fun h2 A => absurd h2 (by decide))
   (fun h2 A => N9 9 A rfl rfl fun A => have A := sy_sayD A 83 (.ff) rfl (fun _ => congrArg (fun b => some (Value.bool b)) (show ((decide (64 < 0)) || (decide (64 > 64))) = false by decide)); N9 23 A rfl rfl fun A => forkE 90 A rfl
    (fun h3 A => N9 10 A rfl rfl fun A => have A := sy_sayD A 95 (.int .u64 64) rfl (as_int (show IntKind.wrap .u64 64 = 64 by decide)); N9 1 A rfl (ok_d (by omega) <| okE_nil) fun A => have A := sy_sayD A 96 (.int .u64 0) rfl (as_int (show IntKind.wrap .u64 (1 * 2 ^ min (64 : Int).toNat (IntKind.bits .u64)) = 0 by decide)); N9 1 A rfl rfl fun A => have A := sy_sayD A 97 (.int .u64 18446744073709551615) rfl (as_int (show IntKind.wrap .u64 (0 - 1) = 18446744073709551615 by decide)); N9 17 A rfl rfl fun A => q_eff A rfl (bytesE (i := 0) (e := 5) rfl rfl rfl (by kernel_rfl) (by kernel_rfl) (by kernel_rfl) rfl) fun A => N9 5 A rfl rfl fun A => LOOP1 (fun (j : Nat) => [(1, .int .i64 10), (6, .int .u64 0), (7, .v .nilIface), (8, .ff), (9, .str l), (10, .int .u64 1844674407370955162), (11, .int .u64 18446744073709551615), (12, .ff), (13, .int .u64 ((nv 10 (l.take j) : Nat) : Int)), (99, .sl 0 l.length 0), (100, .int .i64 ((l.length : Nat) : Int)), (101, .int .i64 (j : Int))]) (fun (j : Nat) => [some (.lst 1 l.length (fun k => [.int .u8 (((l.getD k 0).toNat : Nat) : Int)]))]) (fun (j : Nat) => NI 10 l j) (fun (j : Nat) => l.length - j) 0 ⟨Nat.zero_le _, rfl⟩ ((A.cut [1, 6, 7, 8, 9, 10, 11, 12, 13, 99, 100, 101] rfl).trunc 1 rfl rfl rfl (by simp only [List.length_cons, List.length_nil] at h0; omega)) fun j hI {G a w} A => N9 6 A rfl rfl fun A => forkD 102 A rfl
      (fun h4 A => N9 13 A rfl (ok_d (by have := hI.le; omega) <| ok_d (by have := hI.le; omega) <| okE_nil) fun A => N9 13 A rfl rfl fun A => have A := sy_sayD A 111 (.ff) rfl (fun _ => congrArg (fun b => some (Value.bool b)) (show (bif (((l.getD (((j : Int)).toNat) 0).toNat : Nat) : Int) == 95 then false else false) = false by simp)); N9 15 A rfl rfl fun A => fork 112 A rfl
       (fun h5 A => N9 4 A rfl rfl fun A => have A := sy_sayD A 120 (.int .u8 ((dv (l.getD (((j : Int)).toNat) 0) : Nat) : Int)) rfl (as_int (show IntKind.wrap .u8 ((((l.getD (((j : Int)).toNat) 0).toNat : Nat) : Int) - 48) = ((dv (l.getD (((j : Int)).toNat) 0) : Nat) : Int) by have h := h5; simp only [Bool.and_eq_true, decide_eq_true_eq] at h; rw [dv_dig (by omega) (by omega), wrap8 (by omega) (by omega)]; omega)); N9 10 A rfl rfl fun A => have A := sy_sayD A 136 (.int .u8 10) rfl (as_int (show IntKind.wrap .u8 10 = 10 by decide)); N9 3 A rfl rfl fun A => forkD 137 A rfl
        (fun h6 A => N9 3 A rfl rfl fun A => q_eff A rfl (ifcE rfl rfl rfl rfl (by kernel_rfl)) fun A => N9 5 A rfl rfl fun A => R9 A rfl h0 rfl (by rw [puX_none (val_bad (at_of h4) (by have := h6; omega))]; rfl) rfl)
        (fun h6 A => N9 11 A rfl rfl fun A => forkD 141 A rfl
         (fun h7 A => absurd h7 (by have hp := nv_10 hI.al; have hle := hI.le; have hj := h4; omega))
         (fun h7 A => N9 8 A rfl rfl fun A => have A := sy_sayD A 146 (.int .u64 10) rfl (as_int (show IntKind.wrap .u64 10 = 10 by decide)); N9 1 A rfl rfl fun A => have A := sy_sayD A 147 (.int .u64 (((nv 10 (l.take j) : Nat) : Int) * 10)) rfl (as_int (show IntKind.wrap .u64 (((nv 10 (l.take j) : Nat) : Int) * 10) = ((nv 10 (l.take j) : Nat) : Int) * 10 by have hp := nv_10 hI.al; have hle := hI.le; have hj := h4; exact wrap64 (by omega) (by omega))); N9 8 A rfl rfl fun A => have A := sy_sayD A 150 (.int .u64 ((dv (l.getD (((j : Int)).toNat) 0) : Nat) : Int)) rfl (as_int (show IntKind.wrap .u64 ((dv (l.getD (((j : Int)).toNat) 0) : Nat) : Int) = ((dv (l.getD (((j : Int)).toNat) 0) : Nat) : Int) by have := h6; exact wrap64 (by omega) (by omega))); N9 1 A rfl rfl fun A => have A := sy_sayD A 151 (.int .u64 ((nv 10 (l.take (j + 1)) : Nat) : Int)) rfl (as_int (show IntKind.wrap .u64 ((((nv 10 (l.take j) : Nat) : Int) * 10) + ((dv (l.getD (((j : Int)).toNat) 0) : Nat) : Int)) = ((nv 10 (l.take (j + 1)) : Nat) : Int) by have hp := nv_10 hI.al; have hle := hI.le; have hj := h4; have hd : dv (l.getD (((j : Int)).toNat) 0) < 10 := (by have := h6; omega); rw [nv_go (at_of hj)]; have e0 : (((j : Int)).toNat) = ((j : Int)).toNat := rfl; rw [wrap64 (by omega) (by omega)]; omega)); N9 14 A rfl rfl fun A => have A := sy_sayD A 159 (.ff) rfl (fun _ => congrArg (fun b => some (Value.bool b)) (show ((decide (((nv 10 (l.take (j + 1)) : Nat) : Int) < (((nv 10 (l.take j) : Nat) : Int) * 10))) || (decide (((nv 10 (l.take (j + 1)) : Nat) : Int) > 18446744073709551615))) = false by have hp := nv_10 hI.al; have hle := hI.le; have hj := h4; have hd : dv (l.getD (((j : Int)).toNat) 0) < 10 := (by have := h6; omega); have hg := nv_go (bs := 10) (at_of hj); rw [Bool.eq_false_iff]; intro hc; simp only [Bool.or_eq_true, decide_eq_true_eq] at hc; omega)); N9 15 A rfl (ok_d (by have := hI.le; omega) <| okE_nil) fun A => ⟨j + 1, _, (by omega), ⟨by have := hI.le; omega, all_go (at_of h4) hI.al (by have := h6; omega)⟩, ((A.cut [1, 6, 7, 8, 9, 10, 11, 12, 13, 99, 100, 101] rfl).trunc 1 rfl rfl rfl (by simp only [List.length_cons, List.length_nil] at h0; omega))⟩)))
       (fun h5 A => N9 4 A rfl rfl fun A => C9 [] (low_b (l.getD (((j : Int)).toNat) 0)) A rfl fun A => N9 2 A rfl rfl fun A => forkD 125 A rfl
        (fun h8 A => N9 1 A rfl rfl fun A => C9 [] (low_b (l.getD (((j : Int)).toNat) 0)) A rfl fun A => N9 5 A rfl rfl fun A => forkD 121 A rfl
         (fun h9 A => N9 3 A rfl rfl fun A => C9 [] (low_b (l.getD (((j : Int)).toNat) 0)) A rfl fun A => N9 2 A rfl rfl fun A => have A := sy_sayD A 133 (.int .u8 ((dv (l.getD (((j : Int)).toNat) 0) : Nat) : Int)) rfl (as_int (show IntKind.wrap .u8 ((IntKind.wrap .u8 (((lwcB (l.getD (((j : Int)).toNat) 0) : Nat) : Int) - 97)) + 10) = ((dv (l.getD (((j : Int)).toNat) 0) : Nat) : Int) by have h := h5; simp only [Bool.and_eq_false_iff, decide_eq_false_iff_not] at h; have h2 := h8; have h3 := h9; rw [dv_let (by omega) (by omega) (by omega), wrap8 (n := ((lwcB (l.getD (((j : Int)).toNat) 0) : Nat) : Int) - 97) (by omega) (by omega), wrap8 (by omega) (by omega)]; omega)); N9 10 A rfl rfl fun A => have A := sy_sayD A 136 (.int .u8 10) rfl (as_int (show IntKind.wrap .u8 10 = 10 by decide)); N9 3 A rfl rfl fun A => forkD 137 A rfl
          (fun h10 A => N9 3 A rfl rfl fun A => q_eff A rfl (ifcE rfl rfl rfl rfl (by kernel_rfl)) fun A => N9 5 A rfl rfl fun A => R9 A rfl h0 rfl (by rw [puX_none (val_bad (at_of h4) (by have := h10; omega))]; rfl) rfl)
          (fun h10 A => N9 11 A rfl rfl fun A => forkD 141 A rfl
           (fun h11 A => absurd h11 (by have hp := nv_10 hI.al; have hle := hI.le; have hj := h4; omega))
           (fun h11 A => N9 8 A rfl rfl fun A => have A := sy_sayD A 146 (.int .u64 10) rfl (as_int (show IntKind.wrap .u64 10 = 10 by decide)); N9 1 A rfl rfl fun A => have A := sy_sayD A 147 (.int .u64 (((nv 10 (l.take j) : Nat) : Int) * 10)) rfl (as_int (show IntKind.wrap .u64 (((nv 10 (l.take j) : Nat) : Int) * 10) = ((nv 10 (l.take j) : Nat) : Int) * 10 by have hp := nv_10 hI.al; have hle := hI.le; have hj := h4; exact wrap64 (by omega) (by omega))); N9 8 A rfl rfl fun A => have A := sy_sayD A 150 (.int .u64 ((dv (l.getD (((j : Int)).toNat) 0) : Nat) : Int)) rfl (as_int (show IntKind.wrap .u64 ((dv (l.getD (((j : Int)).toNat) 0) : Nat) : Int) = ((dv (l.getD (((j : Int)).toNat) 0) : Nat) : Int) by have := h10; exact wrap64 (by omega) (by omega))); N9 1 A rfl rfl fun A => have A := sy_sayD A 151 (.int .u64 ((nv 10 (l.take (j + 1)) : Nat) : Int)) rfl (as_int (show IntKind.wrap .u64 ((((nv 10 (l.take j) : Nat) : Int) * 10) + ((dv (l.getD (((j : Int)).toNat) 0) : Nat) : Int)) = ((nv 10 (l.take (j + 1)) : Nat) : Int) by have hp := nv_10 hI.al; have hle := hI.le; have hj := h4; have hd : dv (l.getD (((j : Int)).toNat) 0) < 10 := (by have := h10; omega); rw [nv_go (at_of hj)]; have e0 : (((j : Int)).toNat) = ((j : Int)).toNat := rfl; rw [wrap64 (by omega) (by omega)]; omega)); N9 14 A rfl rfl fun A => have A := sy_sayD A 159 (.ff) rfl (fun _ => congrArg (fun b => some (Value.bool b)) (show ((decide (((nv 10 (l.take (j + 1)) : Nat) : Int) < (((nv 10 (l.take j) : Nat) : Int) * 10))) || (decide (((nv 10 (l.take (j + 1)) : Nat) : Int) > 18446744073709551615))) = false by have hp := nv_10 hI.al; have hle := hI.le; have hj := h4; have hd : dv (l.getD (((j : Int)).toNat) 0) < 10 := (by have := h10; omega); have hg := nv_go (bs := 10) (at_of hj); rw [Bool.eq_false_iff]; intro hc; simp only [Bool.or_eq_true, decide_eq_true_eq] at hc; omega)); N9 15 A rfl (ok_d (by have := hI.le; omega) <| okE_nil) fun A => ⟨j + 1, _, (by omega), ⟨by have := hI.le; omega, all_go (at_of h4) hI.al (by have := h10; omega)⟩, ((A.cut [1, 6, 7, 8, 9, 10, 11, 12, 13, 99, 100, 101] rfl).trunc 1 rfl rfl rfl (by simp only [List.length_cons, List.length_nil] at h0; omega))⟩)))
         (fun h9 A => N9 3 A rfl rfl fun A => q_eff A rfl (ifcE rfl rfl rfl rfl (by kernel_rfl)) fun A => N9 5 A rfl rfl fun A => R9 A rfl h0 rfl (by rw [puX_none (val_bad (at_of h4) (by have h := h5; simp only [Bool.and_eq_false_iff, decide_eq_false_iff_not] at h; have h0 := h8; have h1 := h9; rw [dv_bad (by omega) (by omega)]; omega))]; rfl) rfl))
        (fun h8 A => N9 10 A rfl rfl fun A => q_eff A rfl (ifcE rfl rfl rfl rfl (by kernel_rfl)) fun A => N9 5 A rfl rfl fun A => R9 A rfl h0 rfl (by rw [puX_none (val_bad (at_of h4) (by have h := h5; simp only [Bool.and_eq_false_iff, decide_eq_false_iff_not] at h; have h0 := h8; rw [dv_bad (by omega) (by omega)]; omega))]; rfl) rfl)))
      (fun h4 A => N9 25 A rfl rfl fun A => R9 A rfl h0 rfl (by rw [puX_some (val_end h1 hI.al (by have := h4; omega))]; rfl) rfl))
    (fun h3 A => absurd rfl h3)))
theorem parse10_s (l : List UInt8) (n : Nat) (hl : l.length ≤ 19) (h : valL 10 l = some n) : Fn Tryz.prog 238 [.str l, .int .i64 10, .int .i64 64] [] (Rt (.tup [.int .u64 (n : Int), .v .nilIface]) []) := by have := parse10_ l hl; rw [puX_some h] at this; exact this
theorem parse10_n (l : List UInt8) (hl : l.length ≤ 19) (h : valL 10 l = none) : Fn Tryz.prog 238 [.str l, .int .i64 10, .int .i64 64] [] (Rt (.tup [.int .u64 0, .v (.iface 280 (.int .i64 2))]) []) := by have := parse10_ l hl; rw [puX_none h] at this; exact this
theorem parse16_ (l : List UInt8) (hl : l.length ≤ 16) : Fn Tryz.prog 238 [.str l, .int .i64 16, .int .i64 64] [] (Rt (puX 16 l) []) :=
 enterM (n := 172) (by kernel_rfl) Tryz.func238 rfl rfl rfl fun G w a h0 A => N9 13 A rfl rfl fun A => forkE 19 A rfl
  (fun h1 A => N9 3 A rfl rfl fun A => q_eff A rfl (ifcE rfl rfl rfl rfl (by kernel_rfl)) fun A => N9 5 A rfl rfl fun A => R9 A rfl h0 rfl (by rw [puX_none (val_nil h1)]; rfl) rfl)
  (fun h1 A => N9 7 A rfl rfl fun A => have A := sy_sayD A 22 (.ff) rfl (fun _ => congrArg (fun b => some (Value.bool b)) (show (16 == 0) = false by decide)); N9 19 A rfl rfl fun A => have A := sy_sayD A 31 (.tt) rfl (fun _ => congrArg (fun b => some (Value.bool b)) (show ((decide (2 ≤ 16)) && (decide (16 ≤ 36))) = true by decide)); N9 14 A rfl rfl fun A => forkE 77 A rfl
   (fun h2 A => absurd h2 (by decide))
   (fun h2 A => N9 9 A rfl rfl fun A => have A := sy_sayD A 83 (.ff) rfl (fun _ => congrArg (fun b => some (Value.bool b)) (show ((decide (64 < 0)) || (decide (64 > 64))) = false by decide)); N9 23 A rfl rfl fun A => forkE 90 A rfl
    (fun h3 A => absurd h3 (by decide))
    (fun h3 A => N9 7 A rfl rfl fun A => forkE 92 A rfl
     (fun h4 A => N9 10 A rfl rfl fun A => have A := sy_sayD A 95 (.int .u64 64) rfl (as_int (show IntKind.wrap .u64 64 = 64 by decide)); N9 1 A rfl (ok_d (by omega) <| okE_nil) fun A => have A := sy_sayD A 96 (.int .u64 0) rfl (as_int (show IntKind.wrap .u64 (1 * 2 ^ min (64 : Int).toNat (IntKind.bits .u64)) = 0 by decide)); N9 1 A rfl rfl fun A => have A := sy_sayD A 97 (.int .u64 18446744073709551615) rfl (as_int (show IntKind.wrap .u64 (0 - 1) = 18446744073709551615 by decide)); N9 17 A rfl rfl fun A => q_eff A rfl (bytesE (i := 0) (e := 5) rfl rfl rfl (by kernel_rfl) (by kernel_rfl) (by kernel_rfl) rfl) fun A => N9 5 A rfl rfl fun A => LOOP1 (fun (j : Nat) => [(1, .int .i64 16), (6, .int .u64 0), (7, .v .nilIface), (8, .ff), (9, .str l), (10, .int .u64 1152921504606846976), (11, .int .u64 18446744073709551615), (12, .ff), (13, .int .u64 ((nv 16 (l.take j) : Nat) : Int)), (99, .sl 0 l.length 0), (100, .int .i64 ((l.length : Nat) : Int)), (101, .int .i64 (j : Int))]) (fun (j : Nat) => [some (.lst 1 l.length (fun k => [.int .u8 (((l.getD k 0).toNat : Nat) : Int)]))]) (fun (j : Nat) => NI 16 l j) (fun (j : Nat) => l.length - j) 0 ⟨Nat.zero_le _, rfl⟩ ((A.cut [1, 6, 7, 8, 9, 10, 11, 12, 13, 99, 100, 101] rfl).trunc 1 rfl rfl rfl (by simp only [List.length_cons, List.length_nil] at h0; omega)) fun j hI {G a w} A => N9 6 A rfl rfl fun A => forkD 102 A rfl
       (fun h5 A => N9 13 A rfl (ok_d (by have := hI.le; omega) <| ok_d (by have := hI.le; omega) <| okE_nil) fun A => N9 13 A rfl rfl fun A => have A := sy_sayD A 111 (.ff) rfl (fun _ => congrArg (fun b => some (Value.bool b)) (show (bif (((l.getD (((j : Int)).toNat) 0).toNat : Nat) : Int) == 95 then false else false) = false by simp)); N9 15 A rfl rfl fun A => fork 112 A rfl
        (fun h6 A => N9 4 A rfl rfl fun A => have A := sy_sayD A 120 (.int .u8 ((dv (l.getD (((j : Int)).toNat) 0) : Nat) : Int)) rfl (as_int (show IntKind.wrap .u8 ((((l.getD (((j : Int)).toNat) 0).toNat : Nat) : Int) - 48) = ((dv (l.getD (((j : Int)).toNat) 0) : Nat) : Int) by have h := h6; simp only [Bool.and_eq_true, decide_eq_true_eq] at h; rw [dv_dig (by omega) (by omega), wrap8 (by omega) (by omega)]; omega)); N9 10 A rfl rfl fun A => have A := sy_sayD A 136 (.int .u8 16) rfl (as_int (show IntKind.wrap .u8 16 = 16 by decide)); N9 3 A rfl rfl fun A => forkD 137 A rfl
         (fun h7 A => N9 3 A rfl rfl fun A => q_eff A rfl (ifcE rfl rfl rfl rfl (by kernel_rfl)) fun A => N9 5 A rfl rfl fun A => R9 A rfl h0 rfl (by rw [puX_none (val_bad (at_of h5) (by have := h7; omega))]; rfl) rfl)
         (fun h7 A => N9 11 A rfl rfl fun A => forkD 141 A rfl
          (fun h8 A => absurd h8 (by have hp := nv_16 hI.al; have hle := hI.le; have hj := h5; omega))
          (fun h8 A => N9 8 A rfl rfl fun A => have A := sy_sayD A 146 (.int .u64 16) rfl (as_int (show IntKind.wrap .u64 16 = 16 by decide)); N9 1 A rfl rfl fun A => have A := sy_sayD A 147 (.int .u64 (((nv 16 (l.take j) : Nat) : Int) * 16)) rfl (as_int (show IntKind.wrap .u64 (((nv 16 (l.take j) : Nat) : Int) * 16) = ((nv 16 (l.take j) : Nat) : Int) * 16 by have hp := nv_16 hI.al; have hle := hI.le; have hj := h5; exact wrap64 (by omega) (by omega))); N9 8 A rfl rfl fun A => have A := sy_sayD A 150 (.int .u64 ((dv (l.getD (((j : Int)).toNat) 0) : Nat) : Int)) rfl (as_int (show IntKind.wrap .u64 ((dv (l.getD (((j : Int)).toNat) 0) : Nat) : Int) = ((dv (l.getD (((j : Int)).toNat) 0) : Nat) : Int) by have := h7; exact wrap64 (by omega) (by omega))); N9 1 A rfl rfl fun A => have A := sy_sayD A 151 (.int .u64 ((nv 16 (l.take (j + 1)) : Nat) : Int)) rfl (as_int (show IntKind.wrap .u64 ((((nv 16 (l.take j) : Nat) : Int) * 16) + ((dv (l.getD (((j : Int)).toNat) 0) : Nat) : Int)) = ((nv 16 (l.take (j + 1)) : Nat) : Int) by have hp := nv_16 hI.al; have hle := hI.le; have hj := h5; have hd : dv (l.getD (((j : Int)).toNat) 0) < 16 := (by have := h7; omega); rw [nv_go (at_of hj)]; have e0 : (((j : Int)).toNat) = ((j : Int)).toNat := rfl; rw [wrap64 (by omega) (by omega)]; omega)); N9 14 A rfl rfl fun A => have A := sy_sayD A 159 (.ff) rfl (fun _ => congrArg (fun b => some (Value.bool b)) (show ((decide (((nv 16 (l.take (j + 1)) : Nat) : Int) < (((nv 16 (l.take j) : Nat) : Int) * 16))) || (decide (((nv 16 (l.take (j + 1)) : Nat) : Int) > 18446744073709551615))) = false by have hp := nv_16 hI.al; have hle := hI.le; have hj := h5; have hd : dv (l.getD (((j : Int)).toNat) 0) < 16 := (by have := h7; omega); have hg := nv_go (bs := 16) (at_of hj); rw [Bool.eq_false_iff]; intro hc; simp only [Bool.or_eq_true, decide_eq_true_eq] at hc; omega)); N9 15 A rfl (ok_d (by have := hI.le; omega) <| okE_nil) fun A => ⟨j + 1, _, (by omega), ⟨by have := hI.le; omega, all_go (at_of h5) hI.al (by have := h7; omega)⟩, ((A.cut [1, 6, 7, 8, 9, 10, 11, 12, 13, 99, 100, 101] rfl).trunc 1 rfl rfl rfl (by simp only [List.length_cons, List.length_nil] at h0; omega))⟩)))
        (fun h6 A => N9 4 A rfl rfl fun A => C9 [] (low_b (l.getD (((j : Int)).toNat) 0)) A rfl fun A => N9 2 A rfl rfl fun A => forkD 125 A rfl
         (fun h9 A => N9 1 A rfl rfl fun A => C9 [] (low_b (l.getD (((j : Int)).toNat) 0)) A rfl fun A => N9 5 A rfl rfl fun A => forkD 121 A rfl
          (fun h10 A => N9 3 A rfl rfl fun A => C9 [] (low_b (l.getD (((j : Int)).toNat) 0)) A rfl fun A => N9 2 A rfl rfl fun A => have A := sy_sayD A 133 (.int .u8 ((dv (l.getD (((j : Int)).toNat) 0) : Nat) : Int)) rfl (as_int (show IntKind.wrap .u8 ((IntKind.wrap .u8 (((lwcB (l.getD (((j : Int)).toNat) 0) : Nat) : Int) - 97)) + 10) = ((dv (l.getD (((j : Int)).toNat) 0) : Nat) : Int) by have h := h6; simp only [Bool.and_eq_false_iff, decide_eq_false_iff_not] at h; have h2 := h9; have h3 := h10; rw [dv_let (by omega) (by omega) (by omega), wrap8 (n := ((lwcB (l.getD (((j : Int)).toNat) 0) : Nat) : Int) - 97) (by omega) (by omega), wrap8 (by omega) (by omega)]; omega)); N9 10 A rfl rfl fun A => have A := sy_sayD A 136 (.int .u8 16) rfl (as_int (show IntKind.wrap .u8 16 = 16 by decide)); N9 3 A rfl rfl fun A => forkD 137 A rfl
           (fun h11 A => N9 3 A rfl rfl fun A => q_eff A rfl (ifcE rfl rfl rfl rfl (by kernel_rfl)) fun A => N9 5 A rfl rfl fun A => R9 A rfl h0 rfl (by rw [puX_none (val_bad (at_of h5) (by have := h11; omega))]; rfl) rfl)
           (fun h11 A => N9 11 A rfl rfl fun A => forkD 141 A rfl
            (fun h12 A => absurd h12 (by have hp := nv_16 hI.al; have hle := hI.le; have hj := h5; omega))
            (fun h12 A => N9 8 A rfl rfl fun A => have A := sy_sayD A 146 (.int .u64 16) rfl (as_int (show IntKind.wrap .u64 16 = 16 by decide)); N9 1 A rfl rfl fun A => have A := sy_sayD A 147 (.int .u64 (((nv 16 (l.take j) : Nat) : Int) * 16)) rfl (as_int (show IntKind.wrap .u64 (((nv 16 (l.take j) : Nat) : Int) * 16) = ((nv 16 (l.take j) : Nat) : Int) * 16 by have hp := nv_16 hI.al; have hle := hI.le; have hj := h5; exact wrap64 (by omega) (by omega))); N9 8 A rfl rfl fun A => have A := sy_sayD A 150 (.int .u64 ((dv (l.getD (((j : Int)).toNat) 0) : Nat) : Int)) rfl (as_int (show IntKind.wrap .u64 ((dv (l.getD (((j : Int)).toNat) 0) : Nat) : Int) = ((dv (l.getD (((j : Int)).toNat) 0) : Nat) : Int) by have := h11; exact wrap64 (by omega) (by omega))); N9 1 A rfl rfl fun A => have A := sy_sayD A 151 (.int .u64 ((nv 16 (l.take (j + 1)) : Nat) : Int)) rfl (as_int (show IntKind.wrap .u64 ((((nv 16 (l.take j) : Nat) : Int) * 16) + ((dv (l.getD (((j : Int)).toNat) 0) : Nat) : Int)) = ((nv 16 (l.take (j + 1)) : Nat) : Int) by have hp := nv_16 hI.al; have hle := hI.le; have hj := h5; have hd : dv (l.getD (((j : Int)).toNat) 0) < 16 := (by have := h11; omega); rw [nv_go (at_of hj)]; have e0 : (((j : Int)).toNat) = ((j : Int)).toNat := rfl; rw [wrap64 (by omega) (by omega)]; omega)); N9 14 A rfl rfl fun A => have A := sy_sayD A 159 (.ff) rfl (fun _ => congrArg (fun b => some (Value.bool b)) (show ((decide (((nv 16 (l.take (j + 1)) : Nat) : Int) < (((nv 16 (l.take j) : Nat) : Int) * 16))) || (decide (((nv 16 (l.take (j + 1)) : Nat) : Int) > 18446744073709551615))) = false by have hp := nv_16 hI.al; have hle := hI.le; have hj := h5; have hd : dv (l.getD (((j : Int)).toNat) 0) < 16 := (by have := h11; omega); have hg := nv_go (bs := 16) (at_of hj); rw [Bool.eq_false_iff]; intro hc; simp only [Bool.or_eq_true, decide_eq_true_eq] at hc; omega)); N9 15 A rfl (ok_d (by have := hI.le; omega) <| okE_nil) fun A => ⟨j + 1, _, (by omega), ⟨by have := hI.le; omega, all_go (at_of h5) hI.al (by have := h11; omega)⟩, ((A.cut [1, 6, 7, 8, 9, 10, 11, 12, 13, 99, 100, 101] rfl).trunc 1 rfl rfl rfl (by simp only [List.length_cons, List.length_nil] at h0; omega))⟩)))
          (fun h10 A => N9 3 A rfl rfl fun A => q_eff A rfl (ifcE rfl rfl rfl rfl (by kernel_rfl)) fun A => N9 5 A rfl rfl fun A => R9 A rfl h0 rfl (by rw [puX_none (val_bad (at_of h5) (by have h := h6; simp only [Bool.and_eq_false_iff, decide_eq_false_iff_not] at h; have h0 := h9; have h1 := h10; rw [dv_bad (by omega) (by omega)]; omega))]; rfl) rfl))
         (fun h9 A => N9 10 A rfl rfl fun A => q_eff A rfl (ifcE rfl rfl rfl rfl (by kernel_rfl)) fun A => N9 5 A rfl rfl fun A => R9 A rfl h0 rfl (by rw [puX_none (val_bad (at_of h5) (by have h := h6; simp only [Bool.and_eq_false_iff, decide_eq_false_iff_not] at h; have h0 := h9; rw [dv_bad (by omega) (by omega)]; omega))]; rfl) rfl)))
       (fun h5 A => N9 25 A rfl rfl fun A => R9 A rfl h0 rfl (by rw [puX_some (val_end h1 hI.al (by have := h5; omega))]; rfl) rfl))
     (fun h4 A => absurd rfl h4))))
theorem parse16_s (l : List UInt8) (n : Nat) (hl : l.length ≤ 16) (h : valL 16 l = some n) : Fn Tryz.prog 238 [.str l, .int .i64 16, .int .i64 64] [] (Rt (.tup [.int .u64 (n : Int), .v .nilIface]) []) := by have := parse16_ l hl; rw [puX_some h] at this; exact this
theorem parse16_n (l : List UInt8) (hl : l.length ≤ 16) (h : valL 16 l = none) : Fn Tryz.prog 238 [.str l, .int .i64 16, .int .i64 64] [] (Rt (.tup [.int .u64 0, .v (.iface 280 (.int .i64 2))]) []) := by have := parse16_ l hl; rw [puX_none h] at this; exact this
end Go.Proofs.YtbbdanhpphlbpaaGreatDoor
namespace Go.Proofs.YtbbdanhpphlbpaaGreatDoor
open Go.Shelf Go.RowKit
set_option linter.unusedVariables false
def laysPu_ren : Go.Shelf.Ren := ⟨fun | 14 => 205 | 16 => 238 | 17 => 239 | 19 => 266 | 20 => 267 | 21 => 268 | 22 => 269 | 23 => 270 | 24 => 271 | 25 => 287 | 27 => 125 | 26 => 288 | 28 => 167 | 29 => 208 | 30 => 210 | 31 => 211 | 32 => 212 | 33 => 213 | 35 => 241 | 34 => 240 | 36 => 242 | 37 => 243 | 38 => 179 | 39 => 214 | 40 => 215 | n => n, fun | 9 => 9 | 3 => 3 | 22 => 185 | 24 => 215 | 25 => 216 | 4 => 4 | 34 => 280 | 5 => 5 | 36 => 188 | 37 => 152 | 0 => 0 | 39 => 282 | 21 => 21 | 44 => 298 | 47 => 277 | 50 => 308 | 48 => 306 | 2 => 2 | 52 => 220 | 55 => 223 | 59 => 260 | 60 => 226 | 20 => 20 | 61 => 261 | 65 => 262 | 66 => 263 | 67 => 50 | n => n, fun | 0 => 4 | 1 => 5 | 2 => 1 | 3 => 2 | 4 => 3 | n => n⟩
theorem laysPu : Go.Proofs.LaysPu.n14 Tryz.prog laysPu_ren := {
 mixed := by kernel_rfl
 f14 := Tryz.func205.trans (congrArg some (by kernel_rfl))
 f16 := Tryz.func238.trans (congrArg some (by kernel_rfl))
 f17 := Tryz.func239.trans (congrArg some (by kernel_rfl))
 f19 := Tryz.func266.trans (congrArg some (by kernel_rfl))
 f20 := Tryz.func267.trans (congrArg some (by kernel_rfl))
 f21 := Tryz.func268.trans (congrArg some (by kernel_rfl))
 f22 := Tryz.func269.trans (congrArg some (by kernel_rfl))
 f23 := Tryz.func270.trans (congrArg some (by kernel_rfl))
 f24 := Tryz.func271.trans (congrArg some (by kernel_rfl))
 f25 := Tryz.func287.trans (congrArg some (by kernel_rfl))
 f26 := Tryz.func288.trans (congrArg some (by kernel_rfl))
 f27 := Tryz.func125.trans (congrArg some (by kernel_rfl))
 f28 := Tryz.func167.trans (congrArg some (by kernel_rfl))
 f29 := Tryz.func208.trans (congrArg some (by kernel_rfl))
 f30 := Tryz.func210.trans (congrArg some (by kernel_rfl))
 f31 := Tryz.func211.trans (congrArg some (by kernel_rfl))
 f32 := Tryz.func212.trans (congrArg some (by kernel_rfl))
 f33 := Tryz.func213.trans (congrArg some (by kernel_rfl))
 f34 := Tryz.func240.trans (congrArg some (by kernel_rfl))
 f35 := Tryz.func241.trans (congrArg some (by kernel_rfl))
 f36 := Tryz.func242.trans (congrArg some (by kernel_rfl))
 f37 := Tryz.func243.trans (congrArg some (by kernel_rfl))
 f38 := Tryz.func179.trans (congrArg some (by kernel_rfl))
 f39 := Tryz.func214.trans (congrArg some (by kernel_rfl))
 f40 := Tryz.func215.trans (congrArg some (by kernel_rfl))
 t0 := Tryz.underlying0
 a0 := Tryz.isAgg0
 z0 := Tryz.sizeOf0
 v0 := Tryz.zeroValue0
 i0 := by kernel_rfl
 t2 := Tryz.underlying2
 a2 := Tryz.isAgg2
 z2 := Tryz.sizeOf2
 v2 := Tryz.zeroValue2
 i2 := by kernel_rfl
 t3 := Tryz.underlying3
 a3 := Tryz.isAgg3
 z3 := Tryz.sizeOf3
 v3 := Tryz.zeroValue3
 i3 := by kernel_rfl
 t4 := Tryz.underlying4
 a4 := Tryz.isAgg4
 z4 := Tryz.sizeOf4
 v4 := Tryz.zeroValue4
 i4 := by kernel_rfl
 t5 := Tryz.underlying5
 a5 := Tryz.isAgg5
 z5 := Tryz.sizeOf5
 v5 := Tryz.zeroValue5
 i5 := by kernel_rfl
 t9 := Tryz.underlying9
 a9 := Tryz.isAgg9
 z9 := Tryz.sizeOf9
 v9 := Tryz.zeroValue9
 i9 := by kernel_rfl
 t20 := Tryz.underlying20
 a20 := Tryz.isAgg20
 z20 := Tryz.sizeOf20
 v20 := Tryz.zeroValue20
 i20 := by kernel_rfl
 t21 := Tryz.underlying21
 a21 := Tryz.isAgg21
 z21 := Tryz.sizeOf21
 v21 := Tryz.zeroValue21
 i21 := by kernel_rfl
 t22 := Tryz.underlying185
 a22 := Tryz.isAgg185
 z22 := Tryz.sizeOf185
 v22 := Tryz.zeroValue185
 i22 := by kernel_rfl
 t24 := Tryz.underlying215
 a24 := Tryz.isAgg215
 z24 := Tryz.sizeOf215
 v24 := Tryz.zeroValue215
 i24 := by kernel_rfl
 t25 := Tryz.underlying216
 a25 := Tryz.isAgg216
 z25 := Tryz.sizeOf216
 v25 := Tryz.zeroValue216
 i25 := by kernel_rfl
 t34 := Tryz.underlying280
 a34 := Tryz.isAgg280
 z34 := Tryz.sizeOf280
 v34 := Tryz.zeroValue280
 i34 := by kernel_rfl
 c34 := by kernel_rfl
 t36 := Tryz.underlying188
 a36 := Tryz.isAgg188
 z36 := Tryz.sizeOf188
 v36 := Tryz.zeroValue188
 i36 := by kernel_rfl
 t37 := Tryz.underlying152
 a37 := Tryz.isAgg152
 z37 := Tryz.sizeOf152
 v37 := Tryz.zeroValue152
 i37 := by kernel_rfl
 t39 := Tryz.underlying282
 a39 := Tryz.isAgg282
 z39 := Tryz.sizeOf282
 v39 := Tryz.zeroValue282
 i39 := by kernel_rfl
 t44 := Tryz.underlying298
 a44 := Tryz.isAgg298
 z44 := Tryz.sizeOf298
 v44 := Tryz.zeroValue298
 i44 := by kernel_rfl
 t47 := Tryz.underlying277
 a47 := Tryz.isAgg277
 z47 := Tryz.sizeOf277
 v47 := Tryz.zeroValue277
 i47 := by kernel_rfl
 t48 := Tryz.underlying306
 a48 := Tryz.isAgg306
 z48 := Tryz.sizeOf306
 v48 := Tryz.zeroValue306
 i48 := by kernel_rfl
 t50 := Tryz.underlying308
 a50 := Tryz.isAgg308
 z50 := Tryz.sizeOf308
 v50 := Tryz.zeroValue308
 i50 := by kernel_rfl
 t52 := Tryz.underlying220
 a52 := Tryz.isAgg220
 z52 := Tryz.sizeOf220
 v52 := Tryz.zeroValue220
 i52 := by kernel_rfl
 t55 := Tryz.underlying223
 a55 := Tryz.isAgg223
 z55 := Tryz.sizeOf223
 v55 := Tryz.zeroValue223
 i55 := by kernel_rfl
 t59 := Tryz.underlying260
 a59 := Tryz.isAgg260
 z59 := Tryz.sizeOf260
 v59 := Tryz.zeroValue260
 i59 := by kernel_rfl
 t60 := Tryz.underlying226
 a60 := Tryz.isAgg226
 z60 := Tryz.sizeOf226
 v60 := Tryz.zeroValue226
 i60 := by kernel_rfl
 t61 := Tryz.underlying261
 a61 := Tryz.isAgg261
 z61 := Tryz.sizeOf261
 t65 := Tryz.underlying262
 a65 := Tryz.isAgg262
 z65 := Tryz.sizeOf262
 v65 := Tryz.zeroValue262
 i65 := by kernel_rfl
 t66 := Tryz.underlying263
 a66 := Tryz.isAgg263
 z66 := Tryz.sizeOf263
 v66 := Tryz.zeroValue263
 i66 := by kernel_rfl
 t67 := Tryz.underlying50
 a67 := Tryz.isAgg50
 z67 := Tryz.sizeOf50
 v67 := Tryz.zeroValue50
 i67 := by kernel_rfl
 g0 := by kernel_rfl
 m0 := by kernel_rfl
 g1 := by kernel_rfl
 m1 := by kernel_rfl
 g2 := by kernel_rfl
 m2 := by kernel_rfl
 g3 := by kernel_rfl
 m3 := by kernel_rfl
 g4 := by kernel_rfl
 m4 := by kernel_rfl }
theorem toError_any (fn l : List UInt8) (base bits : Int) (ev : Value) (w : World) (hl : l.length ≤ 19) (hv : w.cell? ⟨4, 0, none⟩ = some ev) (hev : ev = .nilIface ∨ ∃ te pe, ev = .iface te pe) :
  Calls Tryz.prog 239 #[.string (S fn), .string (S l), .int .i64 base, .int .i64 bits, .iface 280 (.int .i64 2)] w fun e w' => (∃ N, e = .returned (.iface 282 (.pointer (some ⟨N, 0, none⟩)))) ∧ Grow w w' := by
 refine (AnyPu.strconv_toError_syntax { laysPu with } (S fn) (S l) base bits ev w (by rw [S_size]; omega) hv hev).mono ?_
 rintro e w' ⟨N, he, _, _, hb⟩
 exact ⟨⟨N, he⟩, hb⟩
end Go.Proofs.YtbbdanhpphlbpaaGreatDoor
namespace Go.Proofs.YtbbdanhpphlbpaaGreatDoor
open Go.RowKit
set_option linter.unusedVariables false
set_option linter.unusedSimpArgs false
set_option maxRecDepth 100000
set_option maxHeartbeats 2000000
set_option simprocs false
theorem toerr_ (fn l : List UInt8) (base bits : Int) (os : List (Nat × Obj)) (hE : ∀ w ks, Gl os w ks → ∃ ev, w.cell? ⟨4, 0, none⟩ = some ev ∧ (ev = .nilIface ∨ ∃ te pe, ev = .iface te pe)) (hl : l.length ≤ 19) : FnX (Gl os) Tryz.prog 239 [.str fn, .str l, .int .i64 base, .int .i64 bits, .v (.iface 280 (.int .i64 2))] (fun x => ∃ pN, x = .v (.iface 282 (.pointer (some ⟨pN, 0, none⟩)))) := by
 refine ⟨by kernel_rfl, fun w ks vs hv hI => ?_⟩
 cases hv
 obtain ⟨ev, h1, h2⟩ := hE w ks hI
 refine (toError_any fn l base bits ev w hl h1 h2).mono ?_
 rintro e w' ⟨⟨pN, rfl⟩, hg⟩
 exact ⟨_, _, ⟨pN, rfl⟩, rfl, rfl, hg⟩
theorem pu10_s (l : List UInt8) (n : Nat) (hl : l.length ≤ 19) (hv : valL 10 l = some n) : Fn Tryz.prog 205 [.str l, .int .i64 10, .int .i64 64] [] (Rt (.tup [.int .u64 (n : Int), .v .nilIface]) []) :=
 enterM (n := 26) (by kernel_rfl) Tryz.func205 rfl rfl rfl fun G w a h0 A => N9 11 A rfl rfl fun A => C9 [] (parse10_s l n hl hv) A rfl fun A => N9 11 A rfl rfl fun A => q_eff A rfl (nilneE rfl rfl rfl rfl (by kernel_rfl)) fun A => N9 13 A rfl rfl fun A => R9 A rfl h0 rfl rfl rfl
theorem pu10_n (l : List UInt8) (os : List (Nat × Obj)) (hE : ∀ w ks, Gl os w ks → ∃ ev, w.cell? ⟨4, 0, none⟩ = some ev ∧ (ev = .nilIface ∨ ∃ te pe, ev = .iface te pe)) (hl : l.length ≤ 19) (hv : valL 10 l = none) : FnX (Gl os) Tryz.prog 205 [.str l, .int .i64 10, .int .i64 64] (fun x => ∃ pN, x = .tup [.int .u64 0, .v (.iface 282 (.pointer (some ⟨pN, 0, none⟩)))]) :=
 enterX Gl.ok (n := 26) (by kernel_rfl) Tryz.func205 rfl rfl rfl fun w a hI A => N9 11 A rfl rfl fun A => C9 [] (parse10_n l hl hv) A rfl fun A => N9 11 A rfl rfl fun A => q_eff A rfl (ifneE rfl rfl rfl rfl (by kernel_rfl)) fun A => N9 10 A rfl rfl fun A => CALLN (fun pN => .v (.iface 282 (.pointer (some ⟨pN, 0, none⟩)))) Gl.ok hI (toerr_ [80, 97, 114, 115, 101, 85, 105, 110, 116] l 10 64 os hE (by omega)) A rfl rfl fun pN => fun A => N9 5 A rfl rfl fun A => RETX (J := fun x => ∃ pN, x = .tup [.int .u64 0, .v (.iface 282 (.pointer (some ⟨pN, 0, none⟩)))]) hX A rfl rfl rfl rfl ⟨pN, rfl⟩
theorem pu16_s (l : List UInt8) (n : Nat) (hl : l.length ≤ 16) (hv : valL 16 l = some n) : Fn Tryz.prog 205 [.str l, .int .i64 16, .int .i64 64] [] (Rt (.tup [.int .u64 (n : Int), .v .nilIface]) []) :=
 enterM (n := 26) (by kernel_rfl) Tryz.func205 rfl rfl rfl fun G w a h0 A => N9 11 A rfl rfl fun A => C9 [] (parse16_s l n hl hv) A rfl fun A => N9 11 A rfl rfl fun A => q_eff A rfl (nilneE rfl rfl rfl rfl (by kernel_rfl)) fun A => N9 13 A rfl rfl fun A => R9 A rfl h0 rfl rfl rfl
theorem pu16_n (l : List UInt8) (os : List (Nat × Obj)) (hE : ∀ w ks, Gl os w ks → ∃ ev, w.cell? ⟨4, 0, none⟩ = some ev ∧ (ev = .nilIface ∨ ∃ te pe, ev = .iface te pe)) (hl : l.length ≤ 16) (hv : valL 16 l = none) : FnX (Gl os) Tryz.prog 205 [.str l, .int .i64 16, .int .i64 64] (fun x => ∃ pN, x = .tup [.int .u64 0, .v (.iface 282 (.pointer (some ⟨pN, 0, none⟩)))]) :=
 enterX Gl.ok (n := 26) (by kernel_rfl) Tryz.func205 rfl rfl rfl fun w a hI A => N9 11 A rfl rfl fun A => C9 [] (parse16_n l hl hv) A rfl fun A => N9 11 A rfl rfl fun A => q_eff A rfl (ifneE rfl rfl rfl rfl (by kernel_rfl)) fun A => N9 10 A rfl rfl fun A => CALLN (fun pN => .v (.iface 282 (.pointer (some ⟨pN, 0, none⟩)))) Gl.ok hI (toerr_ [80, 97, 114, 115, 101, 85, 105, 110, 116] l 16 64 os hE (by omega)) A rfl rfl fun pN => fun A => N9 5 A rfl rfl fun A => RETX (J := fun x => ∃ pN, x = .tup [.int .u64 0, .v (.iface 282 (.pointer (some ⟨pN, 0, none⟩)))]) hX A rfl rfl rfl rfl ⟨pN, rfl⟩
end Go.Proofs.YtbbdanhpphlbpaaGreatDoor
namespace Go.Proofs.YtbbdanhpphlbpaaGreatDoor
set_option linter.unusedVariables false
structure Tk where
 kind : Int
 text : List UInt8
 n : Int
 at_ : Int
def tok0 : Tk := ⟨0, [], 0, 0⟩
def fits (o : Option Nat) : Option Int := match o with | some n => if n > 9223372036854775808 then none else some (IntKind.wrap .i64 (n : Int)) | none => none
def numR (l : List UInt8) : Option Int :=
 if preB l [48, 120] then (if (cutF l [48, 120]).length > 16 then none else fits (valL 16 (cutF l [48, 120]))) else (if l.length > 19 then none else fits (valL 10 l))
section
variable {l : List UInt8} {n : Nat}
theorem num_longx (h : preB l [48, 120] = true) (hl : (cutF l [48, 120]).length > 16) : numR l = none := by unfold numR; rw [if_pos h, if_pos hl]
theorem num_longd (h : preB l [48, 120] = false) (hl : l.length > 19) : numR l = none := by unfold numR; rw [if_neg (by simp [h]), if_pos hl]
theorem num_nonex (h : preB l [48, 120] = true) (hv : valL 16 (cutF l [48, 120]) = none) : numR l = none := by unfold numR; rw [if_pos h, hv]; simp [fits]
theorem num_noned (h : preB l [48, 120] = false) (hv : valL 10 l = none) : numR l = none := by unfold numR; rw [if_neg (by simp [h]), hv]; simp [fits]
theorem num_bigx (h : preB l [48, 120] = true) (hv : valL 16 (cutF l [48, 120]) = some n) (hn : n > 9223372036854775808) : numR l = none := by unfold numR; rw [if_pos h, hv]; simp [fits, hn]
theorem num_bigd (h : preB l [48, 120] = false) (hv : valL 10 l = some n) (hn : n > 9223372036854775808) : numR l = none := by unfold numR; rw [if_neg (by simp [h]), hv]; simp [fits, hn]
theorem num_okx (h : preB l [48, 120] = true) (hl : (cutF l [48, 120]).length ≤ 16) (hv : valL 16 (cutF l [48, 120]) = some n) (hn : n ≤ 9223372036854775808) : numR l = some (IntKind.wrap .i64 (n : Int)) := by
 unfold numR; rw [if_pos h, if_neg (by omega), hv]; simp only [fits]; rw [if_neg (by omega)]
theorem num_okd (h : preB l [48, 120] = false) (hl : l.length ≤ 19) (hv : valL 10 l = some n) (hn : n ≤ 9223372036854775808) : numR l = some (IntKind.wrap .i64 (n : Int)) := by
 unfold numR; rw [if_neg (by simp [h]), if_neg (by omega), hv]; simp only [fits]; rw [if_neg (by omega)]
end
end Go.Proofs.YtbbdanhpphlbpaaGreatDoor
namespace Go.Proofs.YtbbdanhpphlbpaaGreatDoor
open Go.RowKit
set_option linter.unusedVariables false
set_option linter.unusedSimpArgs false
set_option maxRecDepth 100000
set_option maxHeartbeats 2000000
set_option simprocs false
def nk (l : List UInt8) : Int := match numR l with | some _ => 2 | none => 0
def nt (l : List UInt8) : List UInt8 := match numR l with | some _ => l | none => []
def nn (l : List UInt8) : Int := match numR l with | some n => n | none => 0
def ne_ (l : List UInt8) : Int := match numR l with | some _ => 0 | none => 23
theorem n_none {l : List UInt8} (h : numR l = none) : nk l = 0 ∧ nt l = [] ∧ nn l = 0 ∧ ne_ l = 23 := by unfold nk nt nn ne_; rw [h]; exact ⟨rfl, rfl, rfl, rfl⟩
theorem n_some {l : List UInt8} {n : Int} (h : numR l = some n) : nk l = 2 ∧ nt l = l ∧ nn l = n ∧ ne_ l = 0 := by unfold nk nt nn ne_; rw [h]; exact ⟨rfl, rfl, rfl, rfl⟩
theorem number_ (l : List UInt8) (os : List (Nat × Obj)) (hE : ∀ w ks, Gl os w ks → ∃ ev, w.cell? ⟨4, 0, none⟩ = some ev ∧ (ev = .nilIface ∨ ∃ te pe, ev = .iface te pe)) (hlen : l.length ≤ 8192) : FnI (Gl os) Tryz.prog 154 [.str l] [] (Rt (.tup [.agg [.int .i64 (nk l), .str (nt l), .int .i64 (nn l), .z9], .int .i64 (ne_ l)]) []) :=
 enterI (n := 41) (by kernel_rfl) Tryz.func154 rfl rfl rfl fun G w a h0 hI A => N9 18 A rfl rfl fun A => C9 [] (cutp_ l [48, 120]) A rfl fun A => N9 12 A rfl rfl fun A => fork 17 A rfl
  (fun h1 A => N9 17 A rfl rfl fun A => forkD 22 A rfl
   (fun h2 A => N9 9 A rfl rfl fun A => R9 A rfl h0 rfl (by obtain ⟨e1, e2, e3, e4⟩ := n_none (num_longx h1 (by have := h2; omega)); rw [e1, e2, e3, e4]; rfl) rfl)
   (fun h2 A => N9 7 A rfl rfl fun A => optE (valL 16 (cutF l [48, 120]))
    (fun hv => CALLN (fun pN => .tup [.int .u64 0, .v (.iface 282 (.pointer (some ⟨pN, 0, none⟩)))]) Gl.ok hI (pu16_n (cutF l [48, 120]) os hE (by have := h2; omega) hv) A rfl rfl fun pN => fun A => N9 11 A rfl rfl fun A => q_eff A rfl (ifneE rfl rfl rfl rfl (by kernel_rfl)) fun A => N9 15 A rfl rfl fun A => R9 A rfl h0 rfl (by obtain ⟨e1, e2, e3, e4⟩ := n_none (num_nonex h1 hv); rw [e1, e2, e3, e4]; rfl) rfl)
    (fun n hv => C9 [] (pu16_s (cutF l [48, 120]) n (by have := h2; omega) hv) A rfl fun A => N9 11 A rfl rfl fun A => q_eff A rfl (nilneE rfl rfl rfl rfl (by kernel_rfl)) fun A => N9 6 A rfl rfl fun A => forkD 35 A rfl
     (fun h3 A => N9 9 A rfl rfl fun A => R9 A rfl h0 rfl (by obtain ⟨e1, e2, e3, e4⟩ := n_none (num_bigx h1 hv (by have := h3; omega)); rw [e1, e2, e3, e4]; rfl) rfl)
     (fun h3 A => N9 14 A rfl rfl fun A => R9 A rfl h0 rfl (by obtain ⟨e1, e2, e3, e4⟩ := n_some (num_okx h1 (by have := h2; omega) hv (by have := h3; omega)); rw [e1, e2, e3, e4]; rfl) rfl))))
  (fun h1 A => N9 12 A rfl rfl fun A => forkD 22 A rfl
   (fun h4 A => N9 9 A rfl rfl fun A => R9 A rfl h0 rfl (by obtain ⟨e1, e2, e3, e4⟩ := n_none (num_longd h1 (by have := h4; omega)); rw [e1, e2, e3, e4]; rfl) rfl)
   (fun h4 A => N9 7 A rfl rfl fun A => optE (valL 10 l)
    (fun hv => CALLN (fun pN => .tup [.int .u64 0, .v (.iface 282 (.pointer (some ⟨pN, 0, none⟩)))]) Gl.ok hI (pu10_n l os hE (by have := h4; omega) hv) A rfl rfl fun pN => fun A => N9 11 A rfl rfl fun A => q_eff A rfl (ifneE rfl rfl rfl rfl (by kernel_rfl)) fun A => N9 15 A rfl rfl fun A => R9 A rfl h0 rfl (by obtain ⟨e1, e2, e3, e4⟩ := n_none (num_noned h1 hv); rw [e1, e2, e3, e4]; rfl) rfl)
    (fun n hv => C9 [] (pu10_s l n (by have := h4; omega) hv) A rfl fun A => N9 11 A rfl rfl fun A => q_eff A rfl (nilneE rfl rfl rfl rfl (by kernel_rfl)) fun A => N9 6 A rfl rfl fun A => forkD 35 A rfl
     (fun h5 A => N9 9 A rfl rfl fun A => R9 A rfl h0 rfl (by obtain ⟨e1, e2, e3, e4⟩ := n_none (num_bigd h1 hv (by have := h5; omega)); rw [e1, e2, e3, e4]; rfl) rfl)
     (fun h5 A => N9 14 A rfl rfl fun A => R9 A rfl h0 rfl (by obtain ⟨e1, e2, e3, e4⟩ := n_some (num_okd h1 (by have := h4; omega) hv (by have := h5; omega)); rw [e1, e2, e3, e4]; rfl) rfl))))
end Go.Proofs.YtbbdanhpphlbpaaGreatDoor
namespace Go.Proofs.YtbbdanhpphlbpaaGreatDoor
set_option linter.unusedVariables false
theorem mkN_le {l : List UInt8} (h : 0 < l.length) : mkN l ≤ l.length := by
 unfold mkN
 split
 ·next h1 =>
  rw [Bool.or_eq_true] at h1
  rcases h1 with h1 | h1
  ·exact pre_len h1
  ·exact pre_len h1
 ·split <;> split <;> omega
def firstR (l : List UInt8) : Tk × Int :=
 match l[0]? with
 | none => (tok0, 20)
 | some b =>
  if digB b then (match numR (l.take (rn numB l)) with | some n => (⟨2, l.take (rn numB l), n, 0⟩, 0) | none => (tok0, 23))
  else if nbgB b then (⟨1, l.take (rn namB l), 0, 0⟩, 0)
  else if mkN l > 0 then (⟨3, l.take (mkN l), 0, 0⟩, 0) else (tok0, 20)
section
variable {l : List UInt8} {b : UInt8}
theorem first_num {n : Int} (hb : l[0]? = some b) (h : digB b = true) (hn : numR (l.take (rn numB l)) = some n) : firstR l = (⟨2, l.take (rn numB l), n, 0⟩, 0) := by unfold firstR; simp [hb, h, hn]
theorem first_bad (hb : l[0]? = some b) (h : digB b = true) (hn : numR (l.take (rn numB l)) = none) : firstR l = (tok0, 23) := by unfold firstR; simp [hb, h, hn]
theorem first_name (hb : l[0]? = some b) (h : digB b = false) (h2 : nbgB b = true) : firstR l = (⟨1, l.take (rn namB l), 0, 0⟩, 0) := by unfold firstR; simp [hb, h, h2]
theorem first_mark (hb : l[0]? = some b) (h : digB b = false) (h2 : nbgB b = false) (h3 : mkN l > 0) : firstR l = (⟨3, l.take (mkN l), 0, 0⟩, 0) := by unfold firstR; simp [hb, h, h2, h3]
theorem first_byte (hb : l[0]? = some b) (h : digB b = false) (h2 : nbgB b = false) (h3 : ¬ mkN l > 0) : firstR l = (tok0, 20) := by unfold firstR; simp [hb, h, h2, h3]
end
end Go.Proofs.YtbbdanhpphlbpaaGreatDoor
namespace Go.Proofs.YtbbdanhpphlbpaaGreatDoor
open Go.RowKit
set_option linter.unusedVariables false
set_option linter.unusedSimpArgs false
set_option maxRecDepth 100000
set_option maxHeartbeats 2000000
set_option simprocs false
theorem first_ (l : List UInt8) (os : List (Nat × Obj)) (hE : ∀ w ks, Gl os w ks → ∃ ev, w.cell? ⟨4, 0, none⟩ = some ev ∧ (ev = .nilIface ∨ ∃ te pe, ev = .iface te pe)) (hl : 0 < l.length) (hlen : l.length ≤ 8192) : FnI (Gl os) Tryz.prog 119 [.str l] [] (Rt (.tup [.agg [.int .i64 ((firstR l).1.kind), .str ((firstR l).1.text), .int .i64 ((firstR l).1.n), .int .i64 ((firstR l).1.at_)], .int .i64 ((firstR l).2)]) []) :=
 enterI (n := 35) (by kernel_rfl) Tryz.func119 rfl rfl rfl fun G w a h0 hI A => N9 16 A rfl (ok_d (by have h1 := rn_le numB l; have h2 := rn_le namB l; have h3 := mkN_le hl; (try simp only [List.length_take]); omega) <| okE_nil) fun A => N9 2 A rfl rfl fun A => C9 [] (isDigit_b (l.getD (0 : Int).toNat 0)) A rfl fun A => N9 3 A rfl rfl fun A => fork 8 A rfl
  (fun h1 A => N9 5 A rfl rfl fun A => C9 [] (run_ 156 numB l isNumberPart_b (by omega)) A rfl fun A => N9 1 A rfl (ok_d (by have h1 := rn_le numB l; have h2 := rn_le namB l; have h3 := mkN_le hl; (try simp only [List.length_take]); omega) <| okE_nil) fun A => I9 [] Gl.ok hI (number_ (l.take (((rn numB l : Nat) : Int)).toNat) os hE (by have h1 := rn_le numB l; have h2 := rn_le namB l; have h3 := mkN_le hl; (try simp only [List.length_take]); omega)) A rfl fun A => N9 7 A rfl rfl fun A => R9 A rfl h0 rfl (by cases hn : numR (l.take (rn numB l)) with | none => (obtain ⟨e1, e2, e3, e4⟩ := n_none hn; rw [first_bad (at0 hl) h1 hn]; simp only [Int.toNat_natCast, e1, e2, e3, e4]; rfl) | some n => (obtain ⟨e1, e2, e3, e4⟩ := n_some hn; rw [first_num (at0 hl) h1 hn]; simp only [Int.toNat_natCast, e1, e2, e3, e4]; rfl)) rfl)
  (fun h1 A => N9 4 A rfl rfl fun A => C9 [] (isNameBegin_b (l.getD (0 : Int).toNat 0)) A rfl fun A => N9 3 A rfl rfl fun A => fork 18 A rfl
   (fun h2 A => N9 5 A rfl rfl fun A => C9 [] (run_ 158 namB l isNamePart_b (by omega)) A rfl fun A => N9 7 A rfl (ok_d (by have h1 := rn_le numB l; have h2 := rn_le namB l; have h3 := mkN_le hl; (try simp only [List.length_take]); omega) <| okE_nil) fun A => R9 A rfl h0 rfl (by rw [first_name (at0 hl) h1 h2]; rfl) rfl)
   (fun h2 A => N9 8 A rfl rfl fun A => C9 [] (markl_ l (by have h1 := rn_le numB l; have h2 := rn_le namB l; have h3 := mkN_le hl; (try simp only [List.length_take]); omega)) A rfl fun A => N9 9 A rfl rfl fun A => forkD 29 A rfl
    (fun h3 A => N9 12 A rfl (ok_d (by have h1 := rn_le numB l; have h2 := rn_le namB l; have h3 := mkN_le hl; (try simp only [List.length_take]); omega) <| okE_nil) fun A => R9 A rfl h0 rfl (by rw [first_mark (at0 hl) h1 h2 (by have := h3; omega)]; rfl) rfl)
    (fun h3 A => N9 11 A rfl rfl fun A => R9 A rfl h0 rfl (by rw [first_byte (at0 hl) h1 h2 (by have := h3; omega)]; rfl) rfl)))
end Go.Proofs.YtbbdanhpphlbpaaGreatDoor
namespace Go.Proofs.YtbbdanhpphlbpaaGreatDoor
set_option linter.unusedVariables false
theorem skip_le (l : List UInt8) : (skipL l).1 ≤ l.length := by
 have go : ∀ n (l : List UInt8), l.length ≤ n → (skipL l).1 ≤ l.length := by
  intro n
  induction n with
  | zero => intro l hl; obtain rfl : l = [] := List.eq_nil_of_length_eq_zero (Nat.le_zero.1 hl); rw [skip_nil]; simp
  | succ n ih =>
   intro l hl
   match l, hl with
   | [], _ => rw [skip_nil]; simp
   | b :: r, hl =>
    have h0 : (b :: r)[0]? = some b := rfl
    rcases Bool.eq_false_or_eq_true (blkB b) with h1 | h1
    ·have e := skip_blank h0 h1
     rw [List.drop_zero] at e
     rw [e]
     have := ih r (by simpa using hl)
     simp only [List.length_cons, Nat.zero_add, List.drop_succ_cons, List.drop_zero]
     omega
    ·rcases Bool.eq_false_or_eq_true (preB (b :: r) [40, 42]) with h2 | h2
     ·by_cases h3 : endR ((b :: r).drop 2) < 0
      ·have e := skip_open (n := 0) h0 h1 (by rw [List.drop_zero]; exact h2) (by rw [Nat.zero_add]; exact h3)
       rw [List.drop_zero] at e; rw [e]; simp
      ·have e := skip_remark (n := 0) h0 h1 (by rw [List.drop_zero]; exact h2) (by rw [Nat.zero_add]; exact h3)
       rw [List.drop_zero] at e; rw [e]
       simp only [Nat.zero_add]
       have h4 := endR_le ((b :: r).drop 2)
       have h5 := ih ((b :: r).drop (2 + (endR ((b :: r).drop 2)).toNat + 2)) (by rw [List.length_drop]; omega)
       rw [List.length_drop] at h4 h5
       omega
     ·have e := skip_word (n := 0) h0 h1 (by rw [List.drop_zero]; exact h2)
      rw [List.drop_zero] at e; rw [e]; simp
 exact go l.length l (Nat.le_refl _)
theorem rn_pos {p : UInt8 → Bool} {l : List UInt8} {b : UInt8} (hb : l[0]? = some b) (h : p b = true) : 0 < rn p l := by
 have := rn_go (p := p) (n := 0) hb h
 rw [List.drop_zero] at this; omega
theorem first_len {l : List UInt8} (h : (firstR l).2 = 0) : 0 < (firstR l).1.text.length ∧ (firstR l).1.text.length ≤ l.length := by
 cases hb : l[0]? with
 | none => unfold firstR at h; simp [hb] at h
 | some b =>
  have hl : 0 < l.length := (List.getElem?_eq_some_iff.1 hb).1
  rcases Bool.eq_false_or_eq_true (digB b) with h1 | h1
  ·cases hn : numR (l.take (rn numB l)) with
   | none => rw [first_bad hb h1 hn] at h; simp at h
   | some n =>
    rw [first_num hb h1 hn]
    have h2 := rn_pos (p := numB) hb (by unfold numB; rw [h1, Bool.or_true])
    have h3 := rn_le numB l
    simp only [List.length_take]; omega
  ·rcases Bool.eq_false_or_eq_true (nbgB b) with h2 | h2
   ·rw [first_name hb h1 h2]
    have h3 := rn_pos (p := namB) hb (by unfold namB; rw [h2, Bool.true_or])
    have h4 := rn_le namB l
    simp only [List.length_take]; omega
   ·by_cases h3 : mkN l > 0
    ·rw [first_mark hb h1 h2 h3]
     have h4 := mkN_le hl
     simp only [List.length_take]; omega
    ·rw [first_byte hb h1 h2 h3] at h; simp at h
def toksF : Nat → List UInt8 → Nat → List Tk → List Tk × Int × Nat
 | 0, _, _, _ => ([], 0, 0)
 | f + 1, l, a, ws =>
  if (skipL (l.drop a)).2 then ([], 24, a + (skipL (l.drop a)).1)
  else if a + (skipL (l.drop a)).1 = l.length then (ws, 0, 0)
  else if (firstR (l.drop (a + (skipL (l.drop a)).1))).2 = 0 then
   toksF f l (a + (skipL (l.drop a)).1 + (firstR (l.drop (a + (skipL (l.drop a)).1))).1.text.length) (ws ++ [{ (firstR (l.drop (a + (skipL (l.drop a)).1))).1 with at_ := ((a + (skipL (l.drop a)).1 : Nat) : Int) }])
  else ([], (firstR (l.drop (a + (skipL (l.drop a)).1))).2, a + (skipL (l.drop a)).1)
def tokensR (l : List UInt8) : List Tk × Int × Nat := if l.length > 8192 then ([], 2, 0) else toksF (l.length + 1) l 0 []
section
variable {f a : Nat} {l : List UInt8} {ws : List Tk}
theorem tf_rem (h : (skipL (l.drop a)).2 = true) : toksF (f + 1) l a ws = ([], 24, a + (skipL (l.drop a)).1) := by rw [toksF, if_pos h]
theorem tf_end (h : (skipL (l.drop a)).2 = false) (h1 : a + (skipL (l.drop a)).1 = l.length) : toksF (f + 1) l a ws = (ws, 0, 0) := by rw [toksF, if_neg (by simp [h]), if_pos h1]
theorem tf_bad (h : (skipL (l.drop a)).2 = false) (h1 : ¬ a + (skipL (l.drop a)).1 = l.length) (h2 : ¬ (firstR (l.drop (a + (skipL (l.drop a)).1))).2 = 0) : toksF (f + 1) l a ws = ([], (firstR (l.drop (a + (skipL (l.drop a)).1))).2, a + (skipL (l.drop a)).1) := by
 rw [toksF, if_neg (by simp [h]), if_neg h1, if_neg h2]
theorem tf_go (h : (skipL (l.drop a)).2 = false) (h1 : ¬ a + (skipL (l.drop a)).1 = l.length) (h2 : (firstR (l.drop (a + (skipL (l.drop a)).1))).2 = 0) : toksF (f + 1) l a ws = toksF f l (a + (skipL (l.drop a)).1 + (firstR (l.drop (a + (skipL (l.drop a)).1))).1.text.length) (ws ++ [{ (firstR (l.drop (a + (skipL (l.drop a)).1))).1 with at_ := ((a + (skipL (l.drop a)).1 : Nat) : Int) }]) := by
 rw [toksF, if_neg (by simp [h]), if_neg h1, if_pos h2]
theorem tokens_long (h : l.length > 8192) : tokensR l = ([], 2, 0) := by unfold tokensR; rw [if_pos h]
theorem tokens_short (h : l.length ≤ 8192) : tokensR l = toksF (l.length + 1) l 0 [] := by unfold tokensR; rw [if_neg (by omega)]
end
end Go.Proofs.YtbbdanhpphlbpaaGreatDoor
namespace Go.Proofs.YtbbdanhpphlbpaaGreatDoor
open Go.RowKit
set_option linter.unusedVariables false
set_option linter.unusedSimpArgs false
set_option maxRecDepth 100000
set_option maxHeartbeats 2000000
set_option simprocs false
def tkc (t : Tk) : List SV := [.int .i64 t.kind, .str t.text, .int .i64 t.n, .int .i64 t.at_]
abbrev wQ9 (ws : List Tk) : Ent := .lst 4 ws.length (fun zz => tkc (ws.getD zz tok0))
structure TkI (l : List UInt8) (a : Nat) (ws : List Tk) : Prop where
 le : a ≤ l.length
 wl : ws.length ≤ a
 eq : ∃ f, l.length < f + a ∧ tokensR l = toksF f l a ws
section
variable {l : List UInt8} {a : Nat} {ws : List Tk}
def skp (l : List UInt8) (a : Nat) : Nat := a + (skipL (l.drop a)).1
theorem TkI.i0 (h : l.length ≤ 8192) : TkI l 0 [] := ⟨Nat.zero_le _, Nat.zero_le _, l.length + 1, by omega, tokens_short h⟩
theorem TkI.sk (hI : TkI l a ws) : skp l a ≤ l.length := by
 have h := skip_le (l.drop a); rw [List.length_drop] at h; have := hI.le; unfold skp; omega
theorem TkI.rem (hI : TkI l a ws) (h : skE l a ≠ 0) : tokensR l = ([], 24, skp l a) ∧ skE l a = 24 := by
 have hs : (skipL (l.drop a)).2 = true := by
  cases hc : (skipL (l.drop a)).2 with
  | true => rfl
  | false => unfold skE at h; rw [hc] at h; exact absurd rfl h
 obtain ⟨f, hf, he⟩ := hI.eq
 cases f with
 | zero => have := hI.le; omega
 | succ f => exact ⟨by rw [he, tf_rem hs]; rfl, by unfold skE; rw [hs]; rfl⟩
theorem skE_no (h : skE l a = 0) : (skipL (l.drop a)).2 = false := by
 cases hc : (skipL (l.drop a)).2 with
 | false => rfl
 | true => unfold skE at h; rw [hc] at h; exact absurd h (by decide)
theorem TkI.done (hI : TkI l a ws) (h : skE l a = 0) (h1 : skp l a = l.length) : tokensR l = (ws, 0, 0) := by
 obtain ⟨f, hf, he⟩ := hI.eq
 cases f with
 | zero => have := hI.le; omega
 | succ f => rw [he, tf_end (skE_no h) h1]
theorem TkI.bad (hI : TkI l a ws) (h : skE l a = 0) (h1 : skp l a ≠ l.length) (h2 : (firstR (l.drop (skp l a))).2 ≠ 0) : tokensR l = ([], (firstR (l.drop (skp l a))).2, skp l a) := by
 obtain ⟨f, hf, he⟩ := hI.eq
 cases f with
 | zero => have := hI.le; omega
 | succ f => rw [he, tf_bad (skE_no h) h1 h2]; rfl
theorem TkI.len (hI : TkI l a ws) (h1 : skp l a ≠ l.length) (h2 : (firstR (l.drop (skp l a))).2 = 0) : 0 < (firstR (l.drop (skp l a))).1.text.length ∧ (firstR (l.drop (skp l a))).1.text.length + skp l a ≤ l.length := by
 have h := first_len h2
 rw [List.length_drop] at h
 have := hI.sk
 omega
theorem TkI.nx (hI : TkI l a ws) (h : skE l a = 0) (h1 : skp l a ≠ l.length) (h2 : (firstR (l.drop (skp l a))).2 = 0) : TkI l (skp l a + (firstR (l.drop (skp l a))).1.text.length) (ws ++ [⟨(firstR (l.drop (skp l a))).1.kind, (firstR (l.drop (skp l a))).1.text, (firstR (l.drop (skp l a))).1.n, ((skp l a : Nat) : Int)⟩]) := by
 obtain ⟨f, hf, he⟩ := hI.eq
 have hn := hI.len h1 h2
 have hw := hI.wl
 have hs : a ≤ skp l a := by unfold skp; omega
 cases f with
 | zero => have := hI.le; omega
 | succ f => exact ⟨by omega, by simp; omega, f, by omega, by rw [he, tf_go (skE_no h) h1 h2]; rfl⟩
theorem tk_app {x : Tk} {k : Nat} (hk : k < ws.length) : (ws ++ [x]).getD k tok0 = ws.getD k tok0 := by simp [List.getD, List.getElem?_append_left hk]
theorem tk_new {x : Tk} : (ws ++ [x]).getD ws.length tok0 = x := by simp [List.getD]
end
def TkR (l : List UInt8) : SV → Hp → Prop := fun x H2 => ((tokensR l).2.1 = 0 ∧ x = .tup [.sl 0 (tokensR l).1.length 0, .z9, .z9] ∧ H2 = [some (.row 134 4 (tokensR l).1.length 0 fun zz => tkc ((tokensR l).1.getD zz tok0))]) ∨ ((tokensR l).2.1 ≠ 0 ∧ x = .tup [.sla none 0 0, .int .i64 (tokensR l).2.1, .int .i64 ((tokensR l).2.2 : Int)] ∧ H2 = [])
theorem tokens_ (l : List UInt8) (os : List (Nat × Obj)) (hM : ∀ w ks, Gl os w ks → ∃ m, w.cell? ⟨0, 0, none⟩ = some (.int .i64 m)) (hE : ∀ w ks, Gl os w ks → ∃ ev, w.cell? ⟨4, 0, none⟩ = some ev ∧ (ev = .nilIface ∨ ∃ te pe, ev = .iface te pe)) : FnI (Gl os) Tryz.prog 81 [.str l] [] (TkR l) :=
 enterI (n := 50) (by kernel_rfl) Tryz.func81 rfl rfl rfl fun G w a h0 hI A => N9 15 A rfl rfl fun A => forkD 12 A rfl
  (fun h1 A => N9 9 A rfl rfl fun A => RET (x := .tup [.sla none 0 0, .int .i64 2, .z9]) (H' := []) hX [] A (by have e := tokens_long (l := l) (by omega); unfold TkR; rw [e]; exact .inr ⟨(by show (2 : Int) ≠ 0; decide), rfl, rfl⟩) rfl rfl rfl rfl rfl rfl rfl rfl h0)
  (fun h1 A => N9 14 A rfl rfl fun A => have A := A.nilRow 5 134 4 (fun zz => tkc (([] : List Tk).getD zz tok0)) rfl (fun z => ⟨_, rfl, rfl⟩); LOOP2 (fun (e0 : Nat) (ws : List Tk) => [(0, .str l), (2, .sla none 0 0), (3, .int .i64 0), (4, .int .i64 0), (5, .sl 0 ws.length 0), (6, .int .i64 (e0 : Int))]) (fun (e0 : Nat) (ws : List Tk) => [some (.row 134 4 ws.length 0 (fun zz => tkc (ws.getD zz tok0)))]) (fun (e0 : Nat) (ws : List Tk) => TkI l e0 ws) (fun (e0 : Nat) (ws : List Tk) => l.length - e0) 0 [] (TkI.i0 (by omega)) ((A.cut [0, 2, 3, 4, 5, 6] rfl).trunc 1 rfl rfl rfl (by simp only [List.length_cons, List.length_nil] at h0; omega)) fun e0 ws hI2 {G a w} A => N9 5 A rfl rfl fun A => I9 [] Gl.ok hI (fnI_asX (skip_ l e0 os hM hI2.le (by omega)) (y := .tup [.int .i64 ((skp l e0 : Nat) : Int), .int .i64 (skE l e0)]) fun _ => rfl) A rfl fun A => N9 14 A rfl rfl fun A => forkN 20 A rfl
    (fun h2 A => N9 11 A rfl rfl fun A => RET (x := .tup [.sla none 0 0, .int .i64 (skE l e0), .int .i64 ((skp l e0 : Nat) : Int)]) (H' := []) hX [] A (by have e := (hI2.rem h2).1; unfold TkR; rw [e]; have e2 := (hI2.rem h2).2; rw [e2]; exact .inr ⟨(by show (24 : Int) ≠ 0; decide), rfl, rfl⟩) rfl rfl rfl rfl rfl rfl rfl rfl h0)
    (fun h2 A => N9 12 A rfl rfl fun A => forkE 26 A rfl
     (fun h3 A => N9 10 A rfl rfl fun A => RET (x := .tup [.sl 0 ws.length 0, .z9, .z9]) (H' := [some (.row 134 4 ws.length 0 (fun zz => tkc (ws.getD zz tok0)))]) hX [0] A (by have e := hI2.done h2 (by omega); unfold TkR; rw [e]; exact .inl ⟨rfl, rfl, rfl⟩) rfl rfl rfl rfl rfl rfl rfl rfl h0)
     (fun h3 A => N9 8 A rfl (ok_d (by have hs := hI2.sk; have hle := hI2.le; have hwl := hI2.wl; (try simp only [List.length_drop, Int.toNat_natCast]); omega) <| okE_nil) fun A => I9 [] Gl.ok hI (first_ (l.drop (((skp l e0 : Nat) : Int)).toNat) os hE (by have hs := hI2.sk; have hle := hI2.le; have hwl := hI2.wl; (try simp only [List.length_drop, Int.toNat_natCast]); omega) (by have hs := hI2.sk; have hle := hI2.le; have hwl := hI2.wl; (try simp only [List.length_drop, Int.toNat_natCast]); omega)) A rfl fun A => N9 15 A rfl rfl fun A => forkN 36 A rfl
      (fun h4 A => N9 11 A rfl rfl fun A => RET (x := .tup [.sla none 0 0, .int .i64 ((firstR (l.drop (((skp l e0 : Nat) : Int)).toNat)).2), .int .i64 ((skp l e0 : Nat) : Int)]) (H' := []) hX [] A (by have e := hI2.bad h2 (by intro e; apply h3; rw [e]) (by have := h4; rwa [Int.toNat_natCast] at this); unfold TkR; rw [e]; exact .inr ⟨(by have := h4; rwa [Int.toNat_natCast] at this), by simp only [Int.toNat_natCast], rfl⟩) rfl rfl rfl rfl rfl rfl rfl rfl h0)
      (fun h4 A => N9 15 A rfl rfl fun A => APP1 hX (ws.length + 1) (fun zz => tkc ((ws ++ [(⟨(firstR (l.drop (((skp l e0 : Nat) : Int)).toNat)).1.kind, (firstR (l.drop (((skp l e0 : Nat) : Int)).toNat)).1.text, (firstR (l.drop (((skp l e0 : Nat) : Int)).toNat)).1.n, ((skp l e0 : Nat) : Int)⟩ : Tk)]).getD zz tok0)) A rfl rfl rfl rfl (by have hs := hI2.sk; have hle := hI2.le; have hwl := hI2.wl; have hn := hI2.len (by intro e; apply h3; rw [e]) (by have := h4; rwa [Int.toNat_natCast] at this); (try simp only [List.length_drop, Int.toNat_natCast]); omega) rfl (fun k hk => by show tkc _ = tkc _; rw [tk_app hk]) (by show tkc _ = _; rw [tk_new]; rfl) (fun z => ⟨_, rfl, rfl⟩) fun A => have A := (A.rowAs 3 ((ws ++ [(⟨(firstR (l.drop (((skp l e0 : Nat) : Int)).toNat)).1.kind, (firstR (l.drop (((skp l e0 : Nat) : Int)).toNat)).1.text, (firstR (l.drop (((skp l e0 : Nat) : Int)).toNat)).1.n, ((skp l e0 : Nat) : Int)⟩ : Tk)]).length) (fun zz => tkc ((ws ++ [(⟨(firstR (l.drop (((skp l e0 : Nat) : Int)).toNat)).1.kind, (firstR (l.drop (((skp l e0 : Nat) : Int)).toNat)).1.text, (firstR (l.drop (((skp l e0 : Nat) : Int)).toNat)).1.n, ((skp l e0 : Nat) : Int)⟩ : Tk)]).getD zz tok0)) rfl (by rw [List.length_append]; rfl) (fun q hq => rfl) (fun z => ⟨_, rfl, rfl⟩)).say 44 (.sl 3 ((ws ++ [(⟨(firstR (l.drop (((skp l e0 : Nat) : Int)).toNat)).1.kind, (firstR (l.drop (((skp l e0 : Nat) : Int)).toNat)).1.text, (firstR (l.drop (((skp l e0 : Nat) : Int)).toNat)).1.n, ((skp l e0 : Nat) : Int)⟩ : Tk)]).length) 0) rfl (by rw [List.length_append] <;> rfl); N9 12 A rfl (ok_d (by have hs := hI2.sk; have hle := hI2.le; have hwl := hI2.wl; have hn := hI2.len (by intro e; apply h3; rw [e]) (by have := h4; rwa [Int.toNat_natCast] at this); (try simp only [List.length_drop, Int.toNat_natCast]); omega) <| okE_nil) fun A => ⟨skp l e0 + (firstR (l.drop (skp l e0))).1.text.length, ws ++ [(⟨(firstR (l.drop (((skp l e0 : Nat) : Int)).toNat)).1.kind, (firstR (l.drop (((skp l e0 : Nat) : Int)).toNat)).1.text, (firstR (l.drop (((skp l e0 : Nat) : Int)).toNat)).1.n, ((skp l e0 : Nat) : Int)⟩ : Tk)], _, (by have := hI2.len (by intro e; apply h3; rw [e]) (by have := h4; rwa [Int.toNat_natCast] at this); have := hI2.le; have hq : e0 ≤ skp l e0 := (by unfold skp; omega); omega), (hI2.nx h2 (by intro e; apply h3; rw [e]) (by have := h4; rwa [Int.toNat_natCast] at this)), ((A.cut [0, 2, 3, 4, 5, 6] rfl).mv 0 [3] rfl rfl rfl rfl (by simp only [List.length_cons, List.length_nil] at h0; omega)).sayT (by simp only [Int.toNat_natCast]; rfl)⟩))))
theorem fnI_mono {I : Amb} {P : Program} {f : Nat} {az : List SV} {H : Hp} {R R' : SV → Hp → Prop} (h : FnI I P f az H R) (e : ∀ x H2, R x H2 → R' x H2) : FnI I P f az H R' := ⟨h.1, fun G w vs hM hI hv => Calls.mono (h.2 G w vs hM hI hv) fun e' w' ⟨x', H', F, v, q, r⟩ => ⟨x', H', F, v, e _ _ q, r⟩⟩
theorem tokens_ok (l : List UInt8) (ws : List Tk) (os : List (Nat × Obj)) (hM : ∀ w ks, Gl os w ks → ∃ m, w.cell? ⟨0, 0, none⟩ = some (.int .i64 m)) (hE : ∀ w ks, Gl os w ks → ∃ ev, w.cell? ⟨4, 0, none⟩ = some ev ∧ (ev = .nilIface ∨ ∃ te pe, ev = .iface te pe)) (h : tokensR l = (ws, 0, 0)) : FnI (Gl os) Tryz.prog 81 [.str l] [] (Rt (.tup [.sl 0 ws.length 0, .z9, .z9]) [some (.row 134 4 ws.length 0 (fun zz => tkc (ws.getD zz tok0)))]) := fnI_mono (tokens_ l os hM hE) fun x H2 q => by
 unfold TkR at q
 rw [h] at q
 rcases q with ⟨_, q1, q2⟩ | ⟨q1, _⟩
 ·exact ⟨q1, q2⟩
 ·exact absurd rfl q1
theorem tokens_no (l : List UInt8) (e : Int) (k : Nat) (os : List (Nat × Obj)) (hM : ∀ w ks, Gl os w ks → ∃ m, w.cell? ⟨0, 0, none⟩ = some (.int .i64 m)) (hE : ∀ w ks, Gl os w ks → ∃ ev, w.cell? ⟨4, 0, none⟩ = some ev ∧ (ev = .nilIface ∨ ∃ te pe, ev = .iface te pe)) (h : tokensR l = ([], e, k)) (he : e ≠ 0) : FnI (Gl os) Tryz.prog 81 [.str l] [] (Rt (.tup [.sla none 0 0, .int .i64 e, .int .i64 (k : Int)]) []) := fnI_mono (tokens_ l os hM hE) fun x H2 q => by
 unfold TkR at q
 rw [h] at q
 rcases q with ⟨q1, _⟩ | ⟨_, q1, q2⟩
 ·exact absurd q1 he
 ·exact ⟨q1, q2⟩
def nxK (ws : List Tk) (k : Nat) : Nat := if k < ws.length then k + 1 else k
def tkB (ws : List Tk) (k : Nat) (m : List UInt8) : Bool := decide (k < ws.length) && (!((ws.getD k tok0).kind == 2) && ((ws.getD k tok0).text == m))
def tkK (ws : List Tk) (k : Nat) (m : List UInt8) : Nat := if tkB ws k m = true then k + 1 else k
def atW (ws : List Tk) (k : Nat) : Int := if k < ws.length then (ws.getD k tok0).at_ else if ws.length = 0 then 0 else (ws.getD (ws.length - 1) tok0).at_ + ((ws.getD (ws.length - 1) tok0).text.length : Int)
def nmB (ws : List Tk) (k : Nat) : Bool := decide (k < ws.length) && ((ws.getD k tok0).kind == 1)
def nmK (ws : List Tk) (k : Nat) : Nat := if nmB ws k = true then k + 1 else k
def nmT (ws : List Tk) (k : Nat) : List UInt8 := if nmB ws k = true then (ws.getD k tok0).text else []
def nuB (ws : List Tk) (k : Nat) : Bool := decide (k < ws.length) && ((ws.getD k tok0).kind == 2)
def mnB (ws : List Tk) (k : Nat) : Bool := ((decide (k < ws.length)) && ((ws.getD k tok0).kind == 3)) && ((ws.getD k tok0).text == [45])
def nbB (ws : List Tk) (k : Nat) : Bool := if mnB ws k = true then nuB ws (k + 1) else nuB ws k
def nbK (ws : List Tk) (k : Nat) : Nat := if mnB ws k = true then (if nuB ws (k + 1) = true then k + 1 + 1 else k) else (if nuB ws k = true then k + 1 else k)
def nbV (ws : List Tk) (k : Nat) : Int := if mnB ws k = true then IntKind.wrap .i64 (0 - (if nuB ws (k + 1) = true then (ws.getD (k + 1) tok0).n else 0)) else (if nuB ws k = true then (ws.getD k tok0).n else 0)
section
variable {ws : List Tk} {k : Nat} {m : List UInt8}
end
structure As where (p : Nat) (e a : Int)
def refAt (s : As) (x y : Int) : As := if s.e = 0 then ⟨s.p, x, y⟩ else s
def refA (ws : List Tk) (s : As) (x : Int) : As := refAt s (if s.p < ws.length then x else 24) (atW ws s.p)
def goA (s : As) (k : Nat) : As := ⟨k, s.e, s.a⟩
def mkA (ws : List Tk) (s : As) (m : List UInt8) : As := if tkB ws s.p m = true then goA s (tkK ws s.p m) else refA ws (goA s (tkK ws s.p m)) 22
def numA (ws : List Tk) (s : As) : As := if nbB ws s.p = true then goA s (nbK ws s.p) else refA ws (goA s (tkK ws (nbK ws s.p) [45])) 22
section
variable {ws : List Tk} {s : As} {x y : Int} {m : List UInt8}
end
structure Rw where (nm wd : List UInt8) (ins : In) (pa : Option Addr) (ps : List Int) (cp : Nat)
def Rw.z : Rw := ⟨[], [], ⟨0, 0, 0, 0, 0, 0, 0, 0, 0, 0, false, false, false, 0, 0, 0, false⟩, none, [], 0⟩
def Rw.lay (r : Rw) (i : In) : In := r.ps.foldl (wStep i) (bare r.ins)
def Tbl (L : List Rw) : Amb := fun w ks => ∀ r ∈ L, LiesAt r.pa r.ps w ks
theorem Tbl.ok {L : List Rw} : Amb.OK (Tbl L) := fun w ks w' ks' h m hk r hr => (h r hr).go m hk
theorem Tbl.at {L : List Rw} {w : World} {ks : List Nat} (h : Tbl L w ks) {k : Nat} (hk : k < L.length) : LiesAt (L.getD k Rw.z).pa (L.getD k Rw.z).ps w ks := by
 rw [List.getD_eq_getElem?_getD, List.getElem?_eq_getElem hk]; exact h _ (List.getElem_mem hk)
def rwc (r : Rw) : List SV := [.str r.nm, .str r.wd, .int .i64 r.ins.op, .int .i64 r.ins.dst, .int .i64 r.ins.ra, .int .i64 r.ins.rb, .int .i64 r.ins.imm, .int .i64 r.ins.loc, .int .i64 r.ins.off, .int .i64 r.ins.ix, .int .i64 r.ins.sz, .int .i64 r.ins.fn, .bool r.ins.acq, .bool r.ins.weak, .bool r.ins.rel, .int .i64 r.ins.pred, .int .i64 r.ins.succ, .int .i64 r.ins.to_, .bool r.ins.zero, .sla r.pa r.ps.length r.cp]
abbrev rwQ9 (r : Rw) : List SV := [.str r.nm, .str r.wd, .int .i64 r.ins.op, .int .i64 r.ins.dst, .int .i64 r.ins.ra, .int .i64 r.ins.rb, .int .i64 r.ins.imm, .int .i64 r.ins.loc, .int .i64 r.ins.off, .int .i64 r.ins.ix, .int .i64 r.ins.sz, .int .i64 r.ins.fn, .bool r.ins.acq, .bool r.ins.weak, .bool r.ins.rel, .int .i64 r.ins.pred, .int .i64 r.ins.succ, .int .i64 r.ins.to_, .bool r.ins.zero, .sla r.pa r.ps.length r.cp]
abbrev lQ9 (L : List Rw) : Ent := .lst 20 L.length (fun zz => rwc (L.getD zz Rw.z))
theorem nil_no {i : Nat} {e : Option Ent} {R : Prop} (h : ([] : Hp)[i]? = some e) : R := by rw [List.getElem?_nil] at h; cases h
theorem fnI_adopt {P : Program} {f : Nat} {az az' : List SV} {ao : Option Addr} {ps : List Int} {x : SV} (h : Fn P f az [some (lsI ps)] (Rt x [some (lsI ps)])) (ha : adL 0 az' = az) (hs : slaL az' = [ao]) (hx : inS 0 x = true) : FnI (LiesAt ao ps) P f az' [] (Rt x []) := by
 refine ⟨h.1, fun G w vs hM hI hv => ?_⟩
 have hG : G = [] := List.eq_nil_of_length_eq_zero hM.len.symm
 subst hG
 have hI0 : LiesAt ao ps w [] := LiesAt.ok _ _ _ _ hI (Mix.refl _ _) fun b hb => (by cases hb)
 have A1 : Sy 1 [(0, .tt)] [] [] [] w [] ⟨#[.bool true], []⟩ w := ⟨rfl, rfl, fun t x hx => (by
  unfold look at hx
  cases hb : Nat.beq 0 t with
  | true => rw [hb] at hx; cases hx; have := Nat.eq_of_beq_eq_true hb; subst this; rfl
  | false => rw [hb] at hx; cases hx), hM, ⟨[], by simp⟩, fun i e L h1 => nil_no h1, Mix.refl _ _⟩
 have A2 := A1.adopt hI0 0 (x := .tt) rfl (fun z hz => by cases hz)
 have ha0 : ∀ q, ao = some q → q = ⟨q.block, 0, none⟩ := by
  intro q hq
  rcases hI0 with ⟨h1, _⟩ | ⟨b, h1, _⟩
  ·rw [h1] at hq; cases hq
  ·rw [h1] at hq; cases hq; rfl
 have hd := adL_den (G := [locA ao]) (i := 0) ha0 rfl az' (fun z hz => by rw [hs] at hz; exact List.mem_singleton.1 hz)
 rw [ha] at hd
 have hv' : denL [locA ao] az' = some vs := by simpa using denL_mono [locA ao] az' hv
 rw [hv'] at hd
 refine (h.2 [locA ao] w vs (by simpa using A2.mem) hd).mono ?_
 rintro e w' ⟨y, H', F, v, ⟨rfl, rfl⟩, h1, rfl, h3, hmix, _⟩
 have hk : keys [some (lsI ps)] [locA ao] = [] := by cases ao <;> rfl
 rw [hk] at hmix
 refine ⟨y, [], [], v, ⟨rfl, rfl⟩, ?_, rfl, ⟨rfl, fun i e he => nil_no he, fun i j e f L M _ he => nil_no he⟩, by simpa [keys] using hmix, Nat.le_refl _, fun i e he _ => nil_no he, fun i e he => nil_no he⟩
 have := den_take (G := [locA ao] ++ F) (k := 0) y hx
 simp only [List.take_zero] at this
 rw [List.append_nil, this]; exact h1
theorem withI_ (r : Rw) (i : In) (hn : r.ps.length ≤ 1000000) : FnI (LiesAt r.pa r.ps) Tryz.prog 222 [.agg (rwQ9 r), .agg (inQ9 i)] [] (Rt (.agg (inQ9 (r.lay i))) []) := fnI_adopt (with_ r.nm r.wd r.ins r.ps r.cp i hn) rfl rfl rfl
theorem showsI_ (r : Rw) (i : In) (hn : r.ps.length ≤ 1000000) : FnI (LiesAt r.pa r.ps) Tryz.prog 225 [.agg (rwQ9 r), .agg (inQ9 i)] [] (Rt (.bool (showP r.ps i)) []) := fnI_adopt (shows_ r.nm r.wd r.ins r.ps r.cp i hn) rfl rfl rfl
structure Lg where (r0 r1 r2 r3 r4 r5 r6 r7 l0 l1 l2 l3 im f0 f1 f2 : List UInt8)
def eqIn (a b : In) : Bool := ((a.op == b.op) && ((a.dst == b.dst) && ((a.ra == b.ra) && ((a.rb == b.rb) && ((a.imm == b.imm) && ((a.loc == b.loc) && ((a.off == b.off) && ((a.ix == b.ix) && ((a.sz == b.sz) && ((a.fn == b.fn) && ((a.acq == b.acq) && ((a.weak == b.weak) && ((a.rel == b.rel) && ((a.pred == b.pred) && ((a.succ == b.succ) && ((a.to_ == b.to_) && (a.zero == b.zero)))))))))))))))))
def rowP (i : In) (r : Rw) : Bool := eqIn (r.lay i) i && showP r.ps i
def rowR (L : List Rw) (i : In) : Rw := (L.find? (rowP i)).getD Rw.z
def rowQ (L : List Rw) (i : In) : Bool := (L.find? (rowP i)).isSome
structure FI (L : List Rw) (i : In) (k : Nat) : Prop where
 le : k ≤ L.length
 eq : L.find? (rowP i) = (L.drop k).find? (rowP i)
section
variable {L : List Rw} {i : In} {k : Nat}
theorem FI.i0 : FI L i 0 := ⟨Nat.zero_le _, by simp⟩
theorem FI.at (hI : FI L i k) (h1 : (k : Int) < ((L.length : Nat) : Int)) : L.find? (rowP i) = if rowP i (L.getD ((k : Int)).toNat Rw.z) then some (L.getD ((k : Int)).toNat Rw.z) else (L.drop (k + 1)).find? (rowP i) := by
 have hk : k < L.length := by omega
 have e : L.getD ((k : Int)).toNat Rw.z = L[k] := by simp [List.getD, hk]
 rw [hI.eq, List.drop_eq_getElem_cons hk, List.find?_cons, e]
 cases rowP i L[k] <;> rfl
theorem FI.hit (hI : FI L i k) (h1 : (k : Int) < ((L.length : Nat) : Int)) (h : rowP i (L.getD ((k : Int)).toNat Rw.z) = true) : rowR L i = L.getD ((k : Int)).toNat Rw.z ∧ rowQ L i = true := by
 unfold rowR rowQ; rw [hI.at h1, h]; exact ⟨rfl, rfl⟩
theorem FI.nx (hI : FI L i k) (h1 : (k : Int) < ((L.length : Nat) : Int)) (h : rowP i (L.getD ((k : Int)).toNat Rw.z) = false) : FI L i (k + 1) := ⟨by omega, by rw [hI.at h1, h]; rfl⟩
theorem FI.fi (hI : FI L i k) (h1 : ¬ (k : Int) < ((L.length : Nat) : Int)) : rowR L i = Rw.z ∧ rowQ L i = false := by
 unfold rowR rowQ; rw [hI.eq, List.drop_eq_nil_of_le (by omega)]; exact ⟨rfl, rfl⟩
end
theorem rowOf_ (g : Lg) (L : List Rw) (c : Nat) (i : In) (hp : ∀ k, (L.getD k Rw.z).ps.length ≤ 1000000) (hn : L.length ≤ 1000000) : FnI (Tbl L) Tryz.prog 189 [.agg [.str g.r0, .str g.r1, .str g.r2, .str g.r3, .str g.r4, .str g.r5, .str g.r6, .str g.r7, .str g.l0, .str g.l1, .str g.l2, .str g.l3, .str g.im, .str g.f0, .str g.f1, .str g.f2, .sl 0 L.length c], .agg (inQ9 i)] [some (lQ9 L)] (Rt (.tup [.agg (rwQ9 (rowR L i)), .bool (rowQ L i)]) [some (lQ9 L)]) :=
 enterI (n := 28) (by kernel_rfl) Tryz.func189 rfl rfl rfl fun G w a h0 hI A => N9 18 A rfl rfl fun A => LOOP1 (fun (k : Nat) => [(3, .ptr 2 0), (4, .ptr 3 0), (5, .ff), (9, .sl 0 L.length c), (10, .int .i64 ((L.length : Nat) : Int)), (11, .int .i64 (k : Int))]) (fun (k : Nat) => [some (lQ9 L), some (.blk [.str g.r0, .str g.r1, .str g.r2, .str g.r3, .str g.r4, .str g.r5, .str g.r6, .str g.r7, .str g.l0, .str g.l1, .str g.l2, .str g.l3, .str g.im, .str g.f0, .str g.f1, .str g.f2, .sl 0 L.length c]), some (.blk (inQ9 i)), some (.blk [.str [], .str [], .z9, .z9, .z9, .z9, .z9, .z9, .z9, .z9, .z9, .z9, .ff, .ff, .ff, .z9, .z9, .z9, .ff, .sla none 0 0])]) (fun (k : Nat) => FI L i k) (fun (k : Nat) => L.length - k) 0 FI.i0 ((A.cut [3, 4, 5, 9, 10, 11] rfl).trunc 4 rfl rfl rfl (by simp only [List.length_cons, List.length_nil] at h0; omega)) fun k hI2 {G a w} A => N9 6 A rfl rfl fun A => forkD 12 A rfl
   (fun h1 A => N9 14 A rfl (ok_d (by have := hI2.le; omega) <| ok_d (by have := hI2.le; omega) <| okE_nil) fun A => ANY hmo [.agg (rwQ9 (L.getD (((k : Int)).toNat) Rw.z)), .agg (inQ9 i), .agg (inQ9 ((L.getD (((k : Int)).toNat) Rw.z).lay i)), .agg (inQ9 i), .bool (eqIn ((L.getD (((k : Int)).toNat) Rw.z).lay i) i), .bool (eqIn ((L.getD (((k : Int)).toNat) Rw.z).lay i) i), .opt (eqIn ((L.getD (((k : Int)).toNat) Rw.z).lay i) i) (.agg (rwQ9 (L.getD (((k : Int)).toNat) Rw.z))), .opt (eqIn ((L.getD (((k : Int)).toNat) Rw.z).lay i) i) (.agg (inQ9 i)), .opt (eqIn ((L.getD (((k : Int)).toNat) Rw.z).lay i) i) (.bool (showP (L.getD (((k : Int)).toNat) Rw.z).ps i)), .bool ((eqIn ((L.getD (((k : Int)).toNat) Rw.z).lay i) i) && (showP (L.getD (((k : Int)).toNat) Rw.z).ps i))] [] [] 0 [([], [], [some (lQ9 L), some (.blk [.str g.r0, .str g.r1, .str g.r2, .str g.r3, .str g.r4, .str g.r5, .str g.r6, .str g.r7, .str g.l0, .str g.l1, .str g.l2, .str g.l3, .str g.im, .str g.f0, .str g.f1, .str g.f2, .sl 0 L.length c]), some (.blk (inQ9 i)), some (.blk [.str [], .str [], .z9, .z9, .z9, .z9, .z9, .z9, .z9, .z9, .z9, .z9, .ff, .ff, .ff, .z9, .z9, .z9, .ff, .sla none 0 0]), some (.blk (rwQ9 (L.getD (((k : Int)).toNat) Rw.z)))])] [[true, true, true, true, true, true, true, true, true, true]] A rfl rfl rfl rfl (by kernel_rfl) rfl (by kernel_rfl) ⟨⟨oV9 0 rfl rfl, ⟨oV9 0 rfl rfl, ⟨oE9 0 rfl (callIE [] LiesAt.ok (hI.at (k := ((k : Int)).toNat) (by omega)) (withI_ (L.getD (((k : Int)).toNat) Rw.z) i (hp _)) rfl rfl rfl rfl rfl rfl rfl), ⟨oV9 0 rfl rfl, ⟨oE9 0 rfl (eff_say (x := .bool (((((L.getD (((k : Int)).toNat) Rw.z).lay i).op) == i.op) && (((((L.getD (((k : Int)).toNat) Rw.z).lay i).dst) == i.dst) && (((((L.getD (((k : Int)).toNat) Rw.z).lay i).ra) == i.ra) && (((((L.getD (((k : Int)).toNat) Rw.z).lay i).rb) == i.rb) && (((((L.getD (((k : Int)).toNat) Rw.z).lay i).imm) == i.imm) && (((((L.getD (((k : Int)).toNat) Rw.z).lay i).loc) == i.loc) && (((((L.getD (((k : Int)).toNat) Rw.z).lay i).off) == i.off) && (((((L.getD (((k : Int)).toNat) Rw.z).lay i).ix) == i.ix) && (((((L.getD (((k : Int)).toNat) Rw.z).lay i).sz) == i.sz) && (((((L.getD (((k : Int)).toNat) Rw.z).lay i).fn) == i.fn) && (((((L.getD (((k : Int)).toNat) Rw.z).lay i).acq) == i.acq) && (((((L.getD (((k : Int)).toNat) Rw.z).lay i).weak) == i.weak) && (((((L.getD (((k : Int)).toNat) Rw.z).lay i).rel) == i.rel) && (((((L.getD (((k : Int)).toNat) Rw.z).lay i).pred) == i.pred) && (((((L.getD (((k : Int)).toNat) Rw.z).lay i).succ) == i.succ) && (((((L.getD (((k : Int)).toNat) Rw.z).lay i).to_) == i.to_) && ((((L.getD (((k : Int)).toNat) Rw.z).lay i).zero) == i.zero)))))))))))))))))) (fun _ => rfl) (eff_auto (X := ⟨_, true⟩) (out := .val _ _) hX rfl rfl)), ⟨oV9 0 rfl rfl, ⟨oV9 0 rfl rfl, ⟨oV9 0 rfl rfl, ⟨oE9 0 rfl (eff_pureIG LiesAt.ok (hI.at (k := ((k : Int)).toNat) (by omega)) rfl rfl rfl rfl (fun hg => showsI_ (L.getD (((k : Int)).toNat) Rw.z) i (hp _))), ⟨oV9 0 rfl rfl, trivial⟩⟩⟩⟩⟩⟩⟩⟩⟩⟩, trivial⟩ fun A => N9 1 A rfl rfl fun A => fork 24 A rfl
    (fun h2 A => N9 9 A rfl rfl fun A => R9 A rfl h0 rfl (by obtain ⟨e1, e2⟩ := hI2.hit h1 h2; rw [e1, e2]; rfl) rfl)
    (fun h2 A => N9 8 A rfl (ok_d (by have := hI2.le; omega) <| okE_nil) fun A => ⟨k + 1, _, (by omega), (hI2.nx h1 h2), ((A.cut [3, 4, 5, 9, 10, 11] rfl).trunc 4 rfl rfl rfl (by simp only [List.length_cons, List.length_nil] at h0; omega))⟩))
   (fun h1 A => N9 11 A rfl rfl fun A => R9 A rfl h0 rfl (by obtain ⟨e1, e2⟩ := hI2.fi h1; rw [e1, e2]; rfl) rfl)
end Go.Proofs.YtbbdanhpphlbpaaGreatDoor
namespace Go.Proofs.YtbbdanhpphlbpaaGreatDoor
open Go.Shelf Go.RowKit
set_option linter.unusedVariables false
def laysItoa_ren : Go.Shelf.Ren := ⟨fun | 129 => 241 | 171 => 125 | 243 => 167 | 246 => 208 | 283 => 210 | 284 => 211 | 285 => 212 | 286 => 213 | 317 => 240 | 318 => 242 | 319 => 243 | 320 => 179 | 337 => 214 | 338 => 215 | n => n, fun | 0 => 0 | 2 => 2 | 3 => 3 | 4 => 4 | 5 => 5 | 9 => 9 | 20 => 20 | 37 => 152 | 46 => 188 | 51 => 226 | 53 => 185 | 171 => 220 | 173 => 223 | 212 => 260 | 213 => 261 | 232 => 262 | 233 => 263 | n => n, fun | 17 => 1 | 18 => 2 | 19 => 3 | n => n⟩
theorem laysItoa : Go.Proofs.LaysM.n171 Tryz.prog laysItoa_ren := {
 mixed := by kernel_rfl
 f129 := Tryz.func241.trans (congrArg some (by kernel_rfl))
 f171 := Tryz.func125.trans (congrArg some (by kernel_rfl))
 f243 := Tryz.func167.trans (congrArg some (by kernel_rfl))
 f246 := Tryz.func208.trans (congrArg some (by kernel_rfl))
 f283 := Tryz.func210.trans (congrArg some (by kernel_rfl))
 f284 := Tryz.func211.trans (congrArg some (by kernel_rfl))
 f285 := Tryz.func212.trans (congrArg some (by kernel_rfl))
 f286 := Tryz.func213.trans (congrArg some (by kernel_rfl))
 f317 := Tryz.func240.trans (congrArg some (by kernel_rfl))
 f318 := Tryz.func242.trans (congrArg some (by kernel_rfl))
 f319 := Tryz.func243.trans (congrArg some (by kernel_rfl))
 f320 := Tryz.func179.trans (congrArg some (by kernel_rfl))
 f337 := Tryz.func214.trans (congrArg some (by kernel_rfl))
 f338 := Tryz.func215.trans (congrArg some (by kernel_rfl))
 t0 := Tryz.underlying0
 a0 := Tryz.isAgg0
 z0 := Tryz.sizeOf0
 v0 := Tryz.zeroValue0
 t2 := Tryz.underlying2
 a2 := Tryz.isAgg2
 z2 := Tryz.sizeOf2
 v2 := Tryz.zeroValue2
 t3 := Tryz.underlying3
 a3 := Tryz.isAgg3
 z3 := Tryz.sizeOf3
 v3 := Tryz.zeroValue3
 t4 := Tryz.underlying4
 a4 := Tryz.isAgg4
 z4 := Tryz.sizeOf4
 v4 := Tryz.zeroValue4
 t5 := Tryz.underlying5
 a5 := Tryz.isAgg5
 z5 := Tryz.sizeOf5
 v5 := Tryz.zeroValue5
 t9 := Tryz.underlying9
 a9 := Tryz.isAgg9
 z9 := Tryz.sizeOf9
 v9 := Tryz.zeroValue9
 t20 := Tryz.underlying20
 a20 := Tryz.isAgg20
 z20 := Tryz.sizeOf20
 v20 := Tryz.zeroValue20
 t37 := Tryz.underlying152
 a37 := Tryz.isAgg152
 z37 := Tryz.sizeOf152
 v37 := Tryz.zeroValue152
 t46 := Tryz.underlying188
 a46 := Tryz.isAgg188
 z46 := Tryz.sizeOf188
 v46 := Tryz.zeroValue188
 t51 := Tryz.underlying226
 a51 := Tryz.isAgg226
 z51 := Tryz.sizeOf226
 v51 := Tryz.zeroValue226
 t53 := Tryz.underlying185
 a53 := Tryz.isAgg185
 z53 := Tryz.sizeOf185
 v53 := Tryz.zeroValue185
 t171 := Tryz.underlying220
 a171 := Tryz.isAgg220
 z171 := Tryz.sizeOf220
 v171 := Tryz.zeroValue220
 t173 := Tryz.underlying223
 a173 := Tryz.isAgg223
 z173 := Tryz.sizeOf223
 v173 := Tryz.zeroValue223
 t212 := Tryz.underlying260
 a212 := Tryz.isAgg260
 z212 := Tryz.sizeOf260
 v212 := Tryz.zeroValue260
 t213 := Tryz.underlying261
 a213 := Tryz.isAgg261
 z213 := Tryz.sizeOf261
 t232 := Tryz.underlying262
 a232 := Tryz.isAgg262
 z232 := Tryz.sizeOf262
 v232 := Tryz.zeroValue262
 t233 := Tryz.underlying263
 a233 := Tryz.isAgg263
 z233 := Tryz.sizeOf263
 v233 := Tryz.zeroValue263
 g17 := by kernel_rfl
 g18 := by kernel_rfl
 g19 := by kernel_rfl
 i0 := by kernel_rfl
 i2 := by kernel_rfl
 i3 := by kernel_rfl
 i4 := by kernel_rfl
 i5 := by kernel_rfl
 i9 := by kernel_rfl
 i20 := by kernel_rfl
 i37 := by kernel_rfl
 i46 := by kernel_rfl
 i51 := by kernel_rfl
 i53 := by kernel_rfl
 i171 := by kernel_rfl
 i173 := by kernel_rfl
 i212 := by kernel_rfl
 i232 := by kernel_rfl
 i233 := by kernel_rfl
 m17 := by kernel_rfl
 m18 := by kernel_rfl
 m19 := by kernel_rfl }
theorem itoa_any (n : Int) (h0 : -9223372036854775808 ≤ n) (h1 : n ≤ 9223372036854775807) (w : World) (htab : Lib.TabIs Tryz.prog w "internal/strconv.uint64pow10" .u64 Lib.pow10Tab) : Calls Tryz.prog 125 #[.int .i64 n] w fun e w' => e = .returned (.string (S (Lib.itoa n))) ∧ Grow w w' := by
 refine (Any.strconv_Itoa laysItoa n h0 h1 w htab).mono ?_
 rintro e w' ⟨rfl, k, os, rfl⟩
 refine ⟨rfl, ⟨rfl, rfl, rfl, ?_, fun j hj => ?_⟩⟩
 ·show w.heap.size ≤ ((w.drewN k).heap ++ os).size
  rw [Array.size_append]
  exact Nat.le_add_right _ _
 ·show ((w.drewN k).heap ++ os)[j]? = w.heap[j]?
  exact Array.getElem?_append_left hj
def laysRepl_ren : Go.Shelf.Ren := ⟨fun | 138 => 259 | 143 => 152 | 154 => 226 | 165 => 229 | 166 => 230 | 169 => 231 | 195 => 282 | 197 => 260 | 217 => 233 | 218 => 283 | 219 => 203 | 224 => 235 | 225 => 234 | 240 => 262 | 241 => 263 | 260 => 284 | 266 => 264 | 267 => 236 | 276 => 285 | 277 => 286 | 314 => 265 | n => n, fun | 0 => 0 | 3 => 3 | 4 => 4 | 5 => 5 | 9 => 9 | 20 => 20 | 21 => 21 | 37 => 152 | 46 => 188 | 51 => 226 | 70 => 242 | 72 => 244 | 75 => 215 | 76 => 245 | 105 => 274 | 119 => 302 | 127 => 277 | 138 => 304 | 139 => 305 | 146 => 278 | 164 => 293 | 80 => 50 | n => n, fun | 1 => 0 | 3 => 6 | 4 => 7 | n => n⟩
theorem laysRepl : Go.Proofs.Lays.n154 Tryz.prog laysRepl_ren := {
 mixed := by kernel_rfl
 f138 := Tryz.func259.trans (congrArg some (by kernel_rfl))
 f143 := Tryz.func152.trans (congrArg some (by kernel_rfl))
 f154 := Tryz.func226.trans (congrArg some (by kernel_rfl))
 f165 := Tryz.func229.trans (congrArg some (by kernel_rfl))
 f166 := Tryz.func230.trans (congrArg some (by kernel_rfl))
 f169 := Tryz.func231.trans (congrArg some (by kernel_rfl))
 f195 := Tryz.func282.trans (congrArg some (by kernel_rfl))
 f197 := Tryz.func260.trans (congrArg some (by kernel_rfl))
 f217 := Tryz.func233.trans (congrArg some (by kernel_rfl))
 f218 := Tryz.func283.trans (congrArg some (by kernel_rfl))
 f219 := Tryz.func203.trans (congrArg some (by kernel_rfl))
 f224 := Tryz.func235.trans (congrArg some (by kernel_rfl))
 f225 := Tryz.func234.trans (congrArg some (by kernel_rfl))
 f240 := Tryz.func262.trans (congrArg some (by kernel_rfl))
 f241 := Tryz.func263.trans (congrArg some (by kernel_rfl))
 f260 := Tryz.func284.trans (congrArg some (by kernel_rfl))
 f266 := Tryz.func264.trans (congrArg some (by kernel_rfl))
 f267 := Tryz.func236.trans (congrArg some (by kernel_rfl))
 f276 := Tryz.func285.trans (congrArg some (by kernel_rfl))
 f277 := Tryz.func286.trans (congrArg some (by kernel_rfl))
 f314 := Tryz.func265.trans (congrArg some (by kernel_rfl))
 t0 := Tryz.underlying0
 a0 := Tryz.isAgg0
 z0 := Tryz.sizeOf0
 v0 := Tryz.zeroValue0
 t3 := Tryz.underlying3
 a3 := Tryz.isAgg3
 z3 := Tryz.sizeOf3
 v3 := Tryz.zeroValue3
 t4 := Tryz.underlying4
 a4 := Tryz.isAgg4
 z4 := Tryz.sizeOf4
 v4 := Tryz.zeroValue4
 t5 := Tryz.underlying5
 a5 := Tryz.isAgg5
 z5 := Tryz.sizeOf5
 v5 := Tryz.zeroValue5
 t9 := Tryz.underlying9
 a9 := Tryz.isAgg9
 z9 := Tryz.sizeOf9
 v9 := Tryz.zeroValue9
 t20 := Tryz.underlying20
 a20 := Tryz.isAgg20
 z20 := Tryz.sizeOf20
 v20 := Tryz.zeroValue20
 t21 := Tryz.underlying21
 a21 := Tryz.isAgg21
 z21 := Tryz.sizeOf21
 v21 := Tryz.zeroValue21
 t37 := Tryz.underlying152
 a37 := Tryz.isAgg152
 z37 := Tryz.sizeOf152
 v37 := Tryz.zeroValue152
 t46 := Tryz.underlying188
 a46 := Tryz.isAgg188
 z46 := Tryz.sizeOf188
 v46 := Tryz.zeroValue188
 t51 := Tryz.underlying226
 a51 := Tryz.isAgg226
 z51 := Tryz.sizeOf226
 v51 := Tryz.zeroValue226
 t70 := Tryz.underlying242
 a70 := Tryz.isAgg242
 z70 := Tryz.sizeOf242
 v70 := Tryz.zeroValue242
 t72 := Tryz.underlying244
 a72 := Tryz.isAgg244
 z72 := Tryz.sizeOf244
 v72 := Tryz.zeroValue244
 t75 := Tryz.underlying215
 a75 := Tryz.isAgg215
 z75 := Tryz.sizeOf215
 v75 := Tryz.zeroValue215
 t76 := Tryz.underlying245
 a76 := Tryz.isAgg245
 z76 := Tryz.sizeOf245
 v76 := Tryz.zeroValue245
 t105 := Tryz.underlying274
 a105 := Tryz.isAgg274
 z105 := Tryz.sizeOf274
 v105 := Tryz.zeroValue274
 t119 := Tryz.underlying302
 a119 := Tryz.isAgg302
 z119 := Tryz.sizeOf302
 t127 := Tryz.underlying277
 a127 := Tryz.isAgg277
 z127 := Tryz.sizeOf277
 v127 := Tryz.zeroValue277
 t138 := Tryz.underlying304
 a138 := Tryz.isAgg304
 z138 := Tryz.sizeOf304
 v138 := Tryz.zeroValue304
 t139 := Tryz.underlying305
 a139 := Tryz.isAgg305
 z139 := Tryz.sizeOf305
 v139 := Tryz.zeroValue305
 t146 := Tryz.underlying278
 a146 := Tryz.isAgg278
 z146 := Tryz.sizeOf278
 v146 := Tryz.zeroValue278
 t164 := Tryz.underlying293
 a164 := Tryz.isAgg293
 z164 := Tryz.sizeOf293
 v164 := Tryz.zeroValue293
 g1 := by kernel_rfl
 g3 := by kernel_rfl
 g4 := by kernel_rfl }
theorem replExtra : Go.Proofs.Builder.Extra Tryz.prog laysRepl_ren where
 sizeBuilder := by kernel_rfl
 liesBuilder := by kernel_rfl
 t5 := Tryz.underlying5
 a5 := Tryz.isAgg5
 z5 := Tryz.sizeOf5
 v5 := Tryz.zeroValue5
 infoByte := by kernel_rfl
 cellsByte := by kernel_rfl
 sizeByte := by kernel_rfl
 neB5 := by decide
theorem replace_any (l o q : List UInt8) (n m : Int) (w : World) (hl : l.length ≤ 1000) (ho : 1 ≤ o.length) (hq : q.length ≤ 1000) (hc : Lib.countB (S l) (S o) ≤ 1000) (hm : w.cell? ⟨0, 0, none⟩ = some (.int .i64 m)) : Calls Tryz.prog 226 #[.string (S l), .string (S o), .string (S q), .int .i64 n] w fun e w' => e = .returned (.string (S (Lib.replace l o q n))) ∧ Grow w w' := by
 have hmul : Lib.countB (S l) (S o) * (S q).size ≤ 1000 * 1000 := Nat.mul_le_mul hc (by rw [S_size]; exact hq)
 refine (Any.strings_Replace laysRepl replExtra (S l) (S o) (S q) n m w (by rw [S_size]; omega) hm (by rw [S_size]; omega) (by rw [S_size]; omega)).mono ?_
 rintro e w' ⟨rfl, hb⟩
 exact ⟨by rw [S_data, S_data, S_data]; rfl, hb⟩
end Go.Proofs.YtbbdanhpphlbpaaGreatDoor
namespace Go.Proofs.YtbbdanhpphlbpaaGreatDoor
open Go.RowKit
set_option linter.unusedVariables false
set_option linter.unusedSimpArgs false
set_option maxRecDepth 100000
set_option maxHeartbeats 2000000
set_option simprocs false
theorem itoaI_ (v : Int) (os : List (Nat × Obj)) (hM : ∀ w ks, Gl os w ks → ∃ m, w.cell? ⟨0, 0, none⟩ = some (.int .i64 m)) (hT : ∀ w ks, Gl os w ks → Lib.TabIs Tryz.prog w "internal/strconv.uint64pow10" .u64 Lib.pow10Tab) (h0 : -9223372036854775808 ≤ v) (h1 : v ≤ 9223372036854775807) : FnI (Gl os) Tryz.prog 125 [.int .i64 v] [] (Rt (.str (Lib.itoa v)) []) := fnI_grow (by kernel_rfl) rfl rfl fun w ks h => itoa_any v h0 h1 w (hT w ks h)
theorem replI_ (l q r : List UInt8) (n : Int) (os : List (Nat × Obj)) (hM : ∀ w ks, Gl os w ks → ∃ m, w.cell? ⟨0, 0, none⟩ = some (.int .i64 m)) (hT : ∀ w ks, Gl os w ks → Lib.TabIs Tryz.prog w "internal/strconv.uint64pow10" .u64 Lib.pow10Tab) (hl : l.length ≤ 1000) (ho : 1 ≤ q.length) (hq : r.length ≤ 1000) (hc : Lib.countB (S l) (S q) ≤ 1000) : FnI (Gl os) Tryz.prog 226 [.str l, .str q, .str r, .int .i64 n] [] (Rt (.str (Lib.replace l q r n)) []) := fnI_grow (by kernel_rfl) rfl rfl fun w ks h => by
 obtain ⟨m, hm⟩ := hM w ks h
 exact replace_any l q r n m w hl ho hq hc hm
def regnm0 (s0 s1 s2 s3 s4 s5 s6 s7 : List UInt8) (r : Int) : List UInt8 := if ((decide (r < 0)) || (decide (r ≥ 8))) = true then [] else [s0, s1, s2, s3, s4, s5, s6, s7].getD (r).toNat []
theorem regnm_ (s0 s1 s2 s3 s4 s5 s6 s7 : List UInt8) (r : Int)  : Fn Tryz.prog 145 [.agg [.str s0, .str s1, .str s2, .str s3, .str s4, .str s5, .str s6, .str s7], .int .i64 r] [] (Rt (.str (regnm0 s0 s1 s2 s3 s4 s5 s6 s7 r)) []) :=
 enterM (n := 14) (by kernel_rfl) Tryz.func145 rfl rfl rfl fun G w a h0 A => N9 17 A rfl rfl fun A => fork 10 A rfl
  (fun h1 A => N9 7 A rfl rfl fun A => R9 A rfl h0 rfl (by simp only [oneS, nb, nbL, nbH, regnm0, if_pos h1]) rfl)
  (fun h1 A => N9 12 A rfl (ok_d (by have hz := h1; simp only [Bool.or_eq_false_iff, decide_eq_false_iff_not] at hz; omega) <| ok_d (by have hz := h1; simp only [Bool.or_eq_false_iff, decide_eq_false_iff_not] at hz; omega) <| okE_nil) fun A => R9 A rfl h0 rfl (by simp only [oneS, nb, nbL, nbH, regnm0, if_neg (ne_true_of_eq_false h1)]) rfl)
def szK (sz : Int) : Nat := if sz = 1 then 0 else if sz = 2 then 1 else if sz = 4 then 2 else if sz = 8 then 3 else 4
def Lg.let (g : Lg) : List (List UInt8) := [g.l0, g.l1, g.l2, g.l3]
def nameR (g : Lg) (nm : List UInt8) (sz : Int) : List UInt8 := if szK sz < 4 then Lib.replace nm [42] (g.let.getD (szK sz) []) 1 else nm
structure NK (sz : Int) (k : Nat) : Prop where
 le : k ≤ 4
 ge : k ≤ szK sz
section
variable {g : Lg} {nm : List UInt8} {sz : Int} {k : Nat}
theorem szK_is (k : Nat) (hk : k < 4) (h : sz = IntKind.wrap .i64 (1 * 2 ^ min ((k : Int)).toNat (IntKind.bits .i64))) : szK sz = k := by
 have : k = 0 ∨ k = 1 ∨ k = 2 ∨ k = 3 := by omega
 rcases this with rfl | rfl | rfl | rfl <;> (subst h; decide)
theorem NK.i0 : NK sz 0 := ⟨by omega, by omega⟩
theorem NK.nx (hI : NK sz k) (h1 : (k : Int) < 4) (h : sz ≠ IntKind.wrap .i64 (1 * 2 ^ min ((k : Int)).toNat (IntKind.bits .i64))) : NK sz (k + 1) := by
 have hg := hI.ge
 refine ⟨by omega, ?_⟩
 rcases Nat.lt_or_ge k (szK sz) with h2 | h2
 ·exact h2
 ·exfalso
  have he : szK sz = k := by omega
  have : k = 0 ∨ k = 1 ∨ k = 2 ∨ k = 3 := by omega
  apply h
  unfold szK at he
  rcases this with rfl | rfl | rfl | rfl
  all_goals
   split at he
   ·next e => first | (rw [e]; decide) | omega
   ·split at he
    ·next e => first | (rw [e]; decide) | omega
    ·split at he
     ·next e => first | (rw [e]; decide) | omega
     ·split at he
      ·next e => first | (rw [e]; decide) | omega
      ·omega
theorem NK.hit (hI : NK sz k) (h1 : (k : Int) < 4) (h : sz = IntKind.wrap .i64 (1 * 2 ^ min ((k : Int)).toNat (IntKind.bits .i64))) : nameR g nm sz = Lib.replace nm [42] ([g.l0, g.l1, g.l2, g.l3].getD ((k : Int)).toNat []) 1 := by
 have e := szK_is (sz := sz) k (by omega) h
 unfold nameR
 rw [e, if_pos (by omega), Int.toNat_natCast]; rfl
theorem NK.fi (hI : NK sz k) (h1 : ¬ (k : Int) < 4) : nameR g nm sz = nm := by
 unfold nameR; have := hI.ge; rw [if_neg (by omega)]
end
theorem nameOf_ (g : Lg) (L : List Rw) (c : Nat) (r : Rw) (sz : Int) (os : List (Nat × Obj)) (hM : ∀ w ks, Gl os w ks → ∃ m, w.cell? ⟨0, 0, none⟩ = some (.int .i64 m)) (hT : ∀ w ks, Gl os w ks → Lib.TabIs Tryz.prog w "internal/strconv.uint64pow10" .u64 Lib.pow10Tab) (hnm : r.nm.length ≤ 1000 ∧ Lib.countB (S r.nm) (S [42]) ≤ 1000) (hlet : ∀ k, ([g.l0, g.l1, g.l2, g.l3].getD k []).length ≤ 1000) : FnI (Gl os) Tryz.prog 190 [.agg [.str g.r0, .str g.r1, .str g.r2, .str g.r3, .str g.r4, .str g.r5, .str g.r6, .str g.r7, .str g.l0, .str g.l1, .str g.l2, .str g.l3, .str g.im, .str g.f0, .str g.f1, .str g.f2, .sl 0 L.length c], .agg (rwQ9 r), .int .i64 sz] [some (lQ9 L)] (Rt (.str (nameR g r.nm sz)) [some (lQ9 L)]) :=
 enterI (n := 26) (by kernel_rfl) Tryz.func190 rfl rfl rfl fun G w a h0 hI A => N9 16 A rfl rfl fun A => LOOP1 (fun (k : Nat) => [(2, .int .i64 sz), (4, .ptr 2 0), (6, .str []), (10, .agg [.str g.l0, .str g.l1, .str g.l2, .str g.l3]), (11, .int .i64 (k : Int))]) (fun (k : Nat) => [some (lQ9 L), some (.blk [.str g.r0, .str g.r1, .str g.r2, .str g.r3, .str g.r4, .str g.r5, .str g.r6, .str g.r7, .str g.l0, .str g.l1, .str g.l2, .str g.l3, .str g.im, .str g.f0, .str g.f1, .str g.f2, .sl 0 L.length c]), some (.blk (rwQ9 r))]) (fun (k : Nat) => NK sz k) (fun (k : Nat) => 4 - k) 0 NK.i0 ((A.cut [2, 4, 6, 10, 11] rfl).trunc 3 rfl rfl rfl (by simp only [List.length_cons, List.length_nil] at h0; omega)) fun k hI2 {G a w} A => N9 6 A rfl rfl fun A => forkD 12 A rfl
   (fun h1 A => N9 14 A rfl (ok_d (by have := hI2.le; omega) <| okE_nil) fun A => N9 7 A rfl (ok_d (by have := hI2.le; omega) <| okE_nil) fun A => forkE 18 A rfl
    (fun h2 A => N9 6 A rfl rfl fun A => I9 [] Gl.ok hI (replI_ r.nm [42] ([g.l0, g.l1, g.l2, g.l3].getD ((k : Int)).toNat []) 1 os hM hT hnm.1 (by decide) (hlet _) hnm.2) A rfl fun A => N9 4 A rfl rfl fun A => R9 A rfl h0 rfl (by rw [hI2.hit h1 h2]; rfl) rfl)
    (fun h2 A => N9 8 A rfl (ok_d (by have := hI2.le; omega) <| okE_nil) fun A => ⟨k + 1, _, (by omega), (hI2.nx h1 h2), ((A.cut [2, 4, 6, 10, 11] rfl).trunc 3 rfl rfl rfl (by simp only [List.length_cons, List.length_nil] at h0; omega))⟩))
   (fun h1 A => N9 11 A rfl rfl fun A => R9 A rfl h0 rfl (by rw [hI2.fi h1]; rfl) rfl)
theorem locs_   : Fn Tryz.prog 261 [] [] (Rt (.sl 0 3 3) [some (.blk [.str [120], .str [121], .str [122]])]) :=
 enterM (n := 2) (by kernel_rfl) Tryz.func261 rfl rfl rfl fun G w a h0 A => N9 12 A rfl rfl fun A => RET hX [0] A ⟨rfl, rfl⟩ rfl rfl rfl rfl rfl rfl rfl rfl h0
def memA (i : In) : List UInt8 := [91] ++ ([[120], [121], [122]].getD (i.loc).toNat [])
def memB (i : In) : List UInt8 := if i.off ≠ 0 then memA i ++ ([43] ++ Lib.itoa i.off) else memA i
def memT (g : Lg) (i : In) : List UInt8 := (if i.ix ≠ -1 then memB i ++ ([43] ++ regnm0 g.r0 g.r1 g.r2 g.r3 g.r4 g.r5 g.r6 g.r7 i.ix) else memB i) ++ [93]
def opdT (g : Lg) (r : Rw) (p : Int) (i : In) (lb : List UInt8) : List UInt8 :=
 if (regP p i).2 = true then regnm0 g.r0 g.r1 g.r2 g.r3 g.r4 g.r5 g.r6 g.r7 (regP p i).1 else
 if p = 5 then g.im ++ Lib.itoa i.imm else
 if p = 6 then memT g i else
 if p = 8 then [g.f0, g.f1, g.f2].getD (i.pred - 1).toNat [] else
 if p = 9 then [g.f0, g.f1, g.f2].getD (i.succ - 1).toNat [] else
 if p = 10 then r.wd else lb
structure LgOK (g : Lg) : Prop where
 rg : ∀ r, (regnm0 g.r0 g.r1 g.r2 g.r3 g.r4 g.r5 g.r6 g.r7 r).length ≤ 1000
 im : g.im.length ≤ 1000
structure InOK (i : In) : Prop where
 lc : 0 ≤ i.loc ∧ i.loc < 3
 of_ : -9223372036854775808 ≤ i.off ∧ i.off ≤ 9223372036854775807
theorem loc_le (g : Int) (h : 0 ≤ g ∧ g < 3) : ([[120], [121], [122]].getD (g).toNat ([] : List UInt8)).length ≤ 1 := by
 have : (g).toNat = 0 ∨ (g).toNat = 1 ∨ (g).toNat = 2 := by omega
 rcases this with e | e | e <;> rw [e] <;> decide
theorem lmem_ (g : Lg) (L : List Rw) (c : Nat) (i : In) (os : List (Nat × Obj)) (hM : ∀ w ks, Gl os w ks → ∃ m, w.cell? ⟨0, 0, none⟩ = some (.int .i64 m)) (hT : ∀ w ks, Gl os w ks → Lib.TabIs Tryz.prog w "internal/strconv.uint64pow10" .u64 Lib.pow10Tab) (hg : LgOK g) (hi : InOK i) : FnI (Gl os) Tryz.prog 228 [.agg [.str g.r0, .str g.r1, .str g.r2, .str g.r3, .str g.r4, .str g.r5, .str g.r6, .str g.r7, .str g.l0, .str g.l1, .str g.l2, .str g.l3, .str g.im, .str g.f0, .str g.f1, .str g.f2, .sl 0 L.length c], .agg (inQ9 i)] [some (lQ9 L)] (Rt (.str (memT g i)) [some (lQ9 L)]) :=
 enterI (n := 34) (by kernel_rfl) Tryz.func228 rfl rfl rfl fun G w a h0 hI A => N9 8 A rfl rfl fun A => DRAWN hX hmo [] [(0, .sl 3 3 3, [some (lQ9 L), some (.blk [.str g.r0, .str g.r1, .str g.r2, .str g.r3, .str g.r4, .str g.r5, .str g.r6, .str g.r7, .str g.l0, .str g.l1, .str g.l2, .str g.l3, .str g.im, .str g.f0, .str g.f1, .str g.f2, .sl 0 L.length c]), some (.blk (inQ9 i)), some (.blk [.str [120], .str [121], .str [122]])])] A rfl (ok_d (by have q1 := hi.lc; have q2 := hi.of_; omega) <| ok_d (by have q1 := hi.lc; have q2 := hi.of_; omega) <| ok_d (by have q1 := hg.rg i.ix; have q2 := Lib.itoa_length_le i.off hi.of_.1 hi.of_.2; have q3 := loc_le i.loc hi.lc; (try simp only [List.length_append, List.length_cons, List.length_nil]); omega) <| okE_nil) rfl rfl (by kernel_rfl) ⟨callE [] locs_ rfl rfl rfl rfl rfl rfl rfl, trivial⟩ trivial fun A => N9 9 A rfl rfl fun A => forkN 14 A rfl
  (fun h1 A => N9 5 A rfl rfl fun A => I9 [] Gl.ok hI (itoaI_ i.off os hM hT (by have q1 := hi.lc; have q2 := hi.of_; omega) (by have q1 := hi.lc; have q2 := hi.of_; omega)) A rfl fun A => N9 7 A rfl (ok_d (by have q1 := hg.rg i.ix; have q2 := Lib.itoa_length_le i.off hi.of_.1 hi.of_.2; have q3 := loc_le i.loc hi.lc; (try simp only [List.length_append, List.length_cons, List.length_nil]); omega) <| ok_d (by have q1 := hg.rg i.ix; have q2 := Lib.itoa_length_le i.off hi.of_.1 hi.of_.2; have q3 := loc_le i.loc hi.lc; (try simp only [List.length_append, List.length_cons, List.length_nil]); omega) <| okE_nil) fun A => N9 6 A rfl rfl fun A => forkN 23 A rfl
   (fun h2 A => N9 7 A rfl rfl fun A => C9 [] (regnm_ g.r0 g.r1 g.r2 g.r3 g.r4 g.r5 g.r6 g.r7 i.ix) A rfl fun A => N9 6 A rfl (ok_d (by have q1 := hg.rg i.ix; have q2 := Lib.itoa_length_le i.off hi.of_.1 hi.of_.2; have q3 := loc_le i.loc hi.lc; (try simp only [List.length_append, List.length_cons, List.length_nil]); omega) <| ok_d (by have q1 := hg.rg i.ix; have q2 := Lib.itoa_length_le i.off hi.of_.1 hi.of_.2; have q3 := loc_le i.loc hi.lc; (try simp only [List.length_append, List.length_cons, List.length_nil]); omega) <| okE_nil) fun A => N9 7 A rfl (ok_d (by have q1 := hg.rg i.ix; have q2 := Lib.itoa_length_le i.off hi.of_.1 hi.of_.2; have q3 := loc_le i.loc hi.lc; (try simp only [List.length_append, List.length_cons, List.length_nil]); omega) <| okE_nil) fun A => R9 A rfl h0 rfl (by unfold memT memB; rw [if_pos h2, if_pos h1]; rfl) rfl)
   (fun h2 A => N9 11 A rfl (ok_d (by have q1 := hg.rg i.ix; have q2 := Lib.itoa_length_le i.off hi.of_.1 hi.of_.2; have q3 := loc_le i.loc hi.lc; (try simp only [List.length_append, List.length_cons, List.length_nil]); omega) <| okE_nil) fun A => R9 A rfl h0 rfl (by unfold memT memB; rw [if_neg (fun z => z h2), if_pos h1]; rfl) rfl))
  (fun h1 A => N9 11 A rfl rfl fun A => forkN 23 A rfl
   (fun h3 A => N9 7 A rfl rfl fun A => C9 [] (regnm_ g.r0 g.r1 g.r2 g.r3 g.r4 g.r5 g.r6 g.r7 i.ix) A rfl fun A => N9 6 A rfl (ok_d (by have q1 := hg.rg i.ix; have q2 := Lib.itoa_length_le i.off hi.of_.1 hi.of_.2; have q3 := loc_le i.loc hi.lc; (try simp only [List.length_append, List.length_cons, List.length_nil]); omega) <| ok_d (by have q1 := hg.rg i.ix; have q2 := Lib.itoa_length_le i.off hi.of_.1 hi.of_.2; have q3 := loc_le i.loc hi.lc; (try simp only [List.length_append, List.length_cons, List.length_nil]); omega) <| okE_nil) fun A => N9 7 A rfl (ok_d (by have q1 := hg.rg i.ix; have q2 := Lib.itoa_length_le i.off hi.of_.1 hi.of_.2; have q3 := loc_le i.loc hi.lc; (try simp only [List.length_append, List.length_cons, List.length_nil]); omega) <| okE_nil) fun A => R9 A rfl h0 rfl (by unfold memT memB; rw [if_pos h3, if_neg (fun z => z h1)]; rfl) rfl)
   (fun h3 A => N9 11 A rfl (ok_d (by have q1 := hg.rg i.ix; have q2 := Lib.itoa_length_le i.off hi.of_.1 hi.of_.2; have q3 := loc_le i.loc hi.lc; (try simp only [List.length_append, List.length_cons, List.length_nil]); omega) <| okE_nil) fun A => R9 A rfl h0 rfl (by unfold memT memB; rw [if_neg (fun z => z h3), if_neg (fun z => z h1)]; rfl) rfl))
theorem opd_ (g : Lg) (L : List Rw) (c : Nat) (r : Rw) (p : Int) (i : In) (lb : List UInt8) (os : List (Nat × Obj)) (hM : ∀ w ks, Gl os w ks → ∃ m, w.cell? ⟨0, 0, none⟩ = some (.int .i64 m)) (hT : ∀ w ks, Gl os w ks → Lib.TabIs Tryz.prog w "internal/strconv.uint64pow10" .u64 Lib.pow10Tab) (hg : LgOK g) (hv : -9223372036854775808 ≤ i.imm ∧ i.imm ≤ 9223372036854775807) (hi6 : p = 6 → InOK i) (hi8 : p = 8 → 1 ≤ i.pred ∧ i.pred ≤ 3) (hi9 : p = 9 → 1 ≤ i.succ ∧ i.succ ≤ 3) : FnI (Gl os) Tryz.prog 191 [.agg [.str g.r0, .str g.r1, .str g.r2, .str g.r3, .str g.r4, .str g.r5, .str g.r6, .str g.r7, .str g.l0, .str g.l1, .str g.l2, .str g.l3, .str g.im, .str g.f0, .str g.f1, .str g.f2, .sl 0 L.length c], .agg (rwQ9 r), .int .i64 p, .agg (inQ9 i), .str lb] [some (lQ9 L)] (Rt (.str (opdT g r p i lb)) [some (lQ9 L)]) :=
 enterI (n := 59) (by kernel_rfl) Tryz.func191 rfl rfl rfl fun G w a h0 hI A => N9 13 A rfl rfl fun A => C9 [] (preg_ p i) A rfl fun A => N9 12 A rfl rfl fun A => fork 19 A rfl
  (fun h1 A => N9 6 A rfl rfl fun A => C9 [] (regnm_ g.r0 g.r1 g.r2 g.r3 g.r4 g.r5 g.r6 g.r7 ((regP p i).1)) A rfl fun A => N9 4 A rfl rfl fun A => R9 A rfl h0 rfl (by unfold opdT; rw [if_pos h1]; rfl) rfl)
  (fun h1 A => N9 16 A rfl rfl fun A => forkE 25 A rfl
   (fun h2 A => N9 2 A rfl rfl fun A => ANY hmo [.ptr 1 12, .str g.im, .ptr 3 4, .int .i64 i.imm, .str (Lib.itoa i.imm), .str (g.im ++ (Lib.itoa i.imm)), .str (g.im ++ (Lib.itoa i.imm))] [] [] 0 [([], [], [some (lQ9 L), some (.blk [.str g.r0, .str g.r1, .str g.r2, .str g.r3, .str g.r4, .str g.r5, .str g.r6, .str g.r7, .str g.l0, .str g.l1, .str g.l2, .str g.l3, .str g.im, .str g.f0, .str g.f1, .str g.f2, .sl 0 L.length c]), some (.blk (rwQ9 r)), some (.blk (inQ9 i))])] [[true, true, true, true, true, true, true]] A rfl rfl rfl rfl (by kernel_rfl) rfl (by kernel_rfl) ⟨⟨oV9 0 rfl rfl, ⟨oV9 0 rfl rfl, ⟨oV9 0 rfl rfl, ⟨oV9 0 rfl rfl, ⟨oE9 0 rfl (callIE [] Gl.ok hI (itoaI_ i.imm os hM hT (by have q0 := hv; omega) (by have q0 := hv; omega)) rfl rfl rfl rfl rfl rfl rfl), ⟨oV9 0 rfl (ok_d (by have q0 := hv; have q1 := hg.im; have q2 := Lib.itoa_length_le i.imm hv.1 hv.2; (try simp only [List.length_append, List.length_cons, List.length_nil]); omega) <| okE_nil), ⟨oV9 0 rfl rfl, trivial⟩⟩⟩⟩⟩⟩⟩, trivial⟩ fun A => N9 2 A rfl rfl fun A => R9 A rfl h0 rfl (by unfold opdT; rw [if_neg (by rw [h1]; decide), if_pos h2]; rfl) rfl)
   (fun h2 A => N9 7 A rfl rfl fun A => forkE 33 A rfl
    (fun h3 A => N9 5 A rfl rfl fun A => I9 [0] Gl.ok hI (lmem_ g L c i os hM hT hg (hi6 h3)) A rfl fun A => N9 4 A rfl rfl fun A => R9 A rfl h0 rfl (by unfold opdT; rw [if_neg (by rw [h1]; decide), if_neg h2, if_pos h3]; rfl) rfl)
    (fun h3 A => N9 7 A rfl rfl fun A => forkE 38 A rfl
     (fun h4 A => N9 13 A rfl (ok_d (by have q0 := hv; have q8 := hi8 h4; omega) <| ok_d (by have q0 := hv; have q8 := hi8 h4; omega) <| ok_d (by have q0 := hv; have q8 := hi8 h4; omega) <| okE_nil) fun A => R9 A rfl h0 rfl (by unfold opdT; rw [if_neg (by rw [h1]; decide), if_neg h2, if_neg h3, if_pos h4]; rfl) rfl)
     (fun h4 A => N9 7 A rfl rfl fun A => forkE 46 A rfl
      (fun h5 A => N9 13 A rfl (ok_d (by have q0 := hv; have q9 := hi9 h5; omega) <| ok_d (by have q0 := hv; have q9 := hi9 h5; omega) <| ok_d (by have q0 := hv; have q9 := hi9 h5; omega) <| okE_nil) fun A => R9 A rfl h0 rfl (by unfold opdT; rw [if_neg (by rw [h1]; decide), if_neg h2, if_neg h3, if_neg h4, if_pos h5]; rfl) rfl)
      (fun h5 A => N9 7 A rfl rfl fun A => forkE 54 A rfl
       (fun h6 A => N9 9 A rfl rfl fun A => R9 A rfl h0 rfl (by unfold opdT; rw [if_neg (by rw [h1]; decide), if_neg h2, if_neg h3, if_neg h4, if_neg h5, if_pos h6]; rfl) rfl)
       (fun h6 A => N9 11 A rfl rfl fun A => R9 A rfl h0 rfl (by unfold opdT; rw [if_neg (by rw [h1]; decide), if_neg h2, if_neg h3, if_neg h4, if_neg h5, if_neg h6]; rfl) rfl))))))
structure Ps where (ins : In) (lab : List UInt8) (e a : Int) (p : Nat)
def Ps.as (s : Ps) : As := ⟨s.p, s.e, s.a⟩
def Ps.wa (s : Ps) (t : As) : Ps := ⟨s.ins, s.lab, t.e, t.a, t.p⟩
def idxS (ls : List (List UInt8)) (q : List UInt8) : Int := match (List.range ls.length).find? (fun j => q == ls.getD j []) with | some j => (j : Int) | none => -1
section
variable {ls : List (List UInt8)} {q : List UInt8} {k : Nat}
end
def knI (ws : List Tk) (s : As) (ls : List (List UInt8)) : Int := if (ws.getD s.p tok0).kind = 1 then (if idxS ls (ws.getD s.p tok0).text < 0 then -1 else idxS ls (ws.getD s.p tok0).text) else -1
def knA (ws : List Tk) (s : As) (ls : List (List UInt8)) : As := if (ws.getD s.p tok0).kind = 1 then (if idxS ls (ws.getD s.p tok0).text < 0 then refA ws s 21 else goA s (nxK ws s.p)) else refA ws s 22
section
variable {ws : List Tk} {s : As} {ls : List (List UInt8)}
end
def immA (g : Lg) (ws : List Tk) (s : As) : As := if g.im = [] then numA ws s else numA ws (mkA ws s g.im)
def immV (g : Lg) (ws : List Tk) (s : As) : Int := if g.im = [] then nbV ws s.p else nbV ws (mkA ws s g.im).p
structure Cn where (k t r l v : Int)
def Cn.z : Cn := ⟨0, 0, 0, 0, 0⟩
def cc (c : Cn) : List SV := [.int .i64 c.k, .int .i64 c.t, .int .i64 c.r, .int .i64 c.l, .int .i64 c.v]
def setF (k : Int) (wf : Nat → Int) : Nat → List Cn → Nat × List Cn
 | 0, ns => (0, ns)
 | n + 1, ns => if wf n ≤ k then setF k wf n (ns ++ [⟨wf n, 0, 0, 0, 0⟩]) else (n + 1, ns)
section
variable {k : Int} {wf : Nat → Int} {m : Nat} {ns cur : List Cn} {j : Nat}
end
end Go.Proofs.YtbbdanhpphlbpaaGreatDoor
namespace Go.Proofs.YtbbdanhpphlbpaaGreatDoor.Mc
open Go.RowKit
set_option linter.unusedVariables false
set_option linter.unusedSimpArgs false
set_option maxRecDepth 100000
set_option maxHeartbeats 2000000
set_option simprocs false
end Go.Proofs.YtbbdanhpphlbpaaGreatDoor.Mc
namespace Go.Proofs.YtbbdanhpphlbpaaGreatDoor
open Go.RowKit
set_option linter.unusedVariables false
set_option linter.unusedSimpArgs false
set_option maxRecDepth 100000
set_option maxHeartbeats 2000000
set_option simprocs false
def m1 (ws : List Tk) (s : Ps) : Ps := s.wa (mkA ws s.as [91])
def m2 (ws : List Tk) (s : Ps) : Ps := ⟨{ s.ins with loc := knI ws s.as [[120], [121], [122]], ix := -1 }, s.lab, (knA ws s.as [[120], [121], [122]]).e, (knA ws s.as [[120], [121], [122]]).a, (knA ws s.as [[120], [121], [122]]).p⟩
def psB (ws : List Tk) (s : Ps) : Bool := tkB ws s.p [43]
def m3 (ws : List Tk) (s : Ps) : Ps := ⟨s.ins, s.lab, s.e, s.a, tkK ws s.p [43]⟩
def nuQ (ws : List Tk) (s : Ps) : Bool := (ws.getD s.p tok0).kind == 2
def offI (ws : List Tk) (s : Ps) : Ps := ⟨{ s.ins with off := nbV ws s.p }, s.lab, s.e, s.a, nbK ws s.p⟩
def regI (g : Lg) (ws : List Tk) (s : Ps) : Ps := ⟨{ s.ins with ix := knI ws s.as [g.r0, g.r1, g.r2, g.r3, g.r4, g.r5, g.r6, g.r7] }, s.lab, (knA ws s.as [g.r0, g.r1, g.r2, g.r3, g.r4, g.r5, g.r6, g.r7]).e, (knA ws s.as [g.r0, g.r1, g.r2, g.r3, g.r4, g.r5, g.r6, g.r7]).a, (knA ws s.as [g.r0, g.r1, g.r2, g.r3, g.r4, g.r5, g.r6, g.r7]).p⟩
def m5 (ws : List Tk) (s : Ps) : Ps := s.wa (mkA ws s.as [93])
def mem3 (ws : List Tk) (s : Ps) : Ps := m3 ws (m2 ws (m1 ws s))
def memS (g : Lg) (ws : List Tk) (s : Ps) : Ps := m5 ws (if psB ws (m2 ws (m1 ws s)) = true then (if nuQ ws (mem3 ws s) = true then (if psB ws (offI ws (mem3 ws s)) = true then regI g ws (m3 ws (offI ws (mem3 ws s))) else m3 ws (offI ws (mem3 ws s))) else regI g ws (mem3 ws s)) else mem3 ws s)
section
variable {g : Lg} {ws : List Tk} {s : Ps}
end
def begI (g : Lg) (t : Tk) : Bool := if g.im = [] then ((t.kind == 2) || ((t.kind == 3) && (t.text == [45]))) else ((t.kind == 3) && (t.text == g.im))
def begQ (g : Lg) (r : Rw) (p : Int) (t : Tk) : Bool := if p = 5 then begI g t else if p = 6 then ((t.kind == 3) && (t.text == [91])) else if p = 10 then ((t.kind == 1) && (t.text == r.wd)) else (t.kind == 1)
def ptS (g : Lg) (ws : List Tk) (p : Int) (s : Ps) : Ps :=
 if p = 1 then ⟨{ s.ins with dst := knI ws s.as [g.r0, g.r1, g.r2, g.r3, g.r4, g.r5, g.r6, g.r7] }, s.lab, (knA ws s.as [g.r0, g.r1, g.r2, g.r3, g.r4, g.r5, g.r6, g.r7]).e, (knA ws s.as [g.r0, g.r1, g.r2, g.r3, g.r4, g.r5, g.r6, g.r7]).a, (knA ws s.as [g.r0, g.r1, g.r2, g.r3, g.r4, g.r5, g.r6, g.r7]).p⟩ else
 if p = 4 then ⟨{ s.ins with dst := knI ws s.as [g.r0, g.r1, g.r2, g.r3, g.r4, g.r5, g.r6, g.r7] }, s.lab, (knA ws s.as [g.r0, g.r1, g.r2, g.r3, g.r4, g.r5, g.r6, g.r7]).e, (knA ws s.as [g.r0, g.r1, g.r2, g.r3, g.r4, g.r5, g.r6, g.r7]).a, (knA ws s.as [g.r0, g.r1, g.r2, g.r3, g.r4, g.r5, g.r6, g.r7]).p⟩ else
 if p = 2 then ⟨{ s.ins with ra := knI ws s.as [g.r0, g.r1, g.r2, g.r3, g.r4, g.r5, g.r6, g.r7] }, s.lab, (knA ws s.as [g.r0, g.r1, g.r2, g.r3, g.r4, g.r5, g.r6, g.r7]).e, (knA ws s.as [g.r0, g.r1, g.r2, g.r3, g.r4, g.r5, g.r6, g.r7]).a, (knA ws s.as [g.r0, g.r1, g.r2, g.r3, g.r4, g.r5, g.r6, g.r7]).p⟩ else
 if p = 3 then ⟨{ s.ins with rb := knI ws s.as [g.r0, g.r1, g.r2, g.r3, g.r4, g.r5, g.r6, g.r7] }, s.lab, (knA ws s.as [g.r0, g.r1, g.r2, g.r3, g.r4, g.r5, g.r6, g.r7]).e, (knA ws s.as [g.r0, g.r1, g.r2, g.r3, g.r4, g.r5, g.r6, g.r7]).a, (knA ws s.as [g.r0, g.r1, g.r2, g.r3, g.r4, g.r5, g.r6, g.r7]).p⟩ else
 if p = 5 then ⟨{ s.ins with imm := immV g ws s.as }, s.lab, (immA g ws s.as).e, (immA g ws s.as).a, (immA g ws s.as).p⟩ else
 if p = 6 then memS g ws s else
 if p = 7 then ⟨s.ins, nmT ws s.p, s.e, s.a, nmK ws s.p⟩ else
 if p = 8 then ⟨{ s.ins with pred := knI ws s.as [g.f0, g.f1, g.f2] + 1 }, s.lab, (knA ws s.as [g.f0, g.f1, g.f2]).e, (knA ws s.as [g.f0, g.f1, g.f2]).a, (knA ws s.as [g.f0, g.f1, g.f2]).p⟩ else
 if p = 9 then ⟨{ s.ins with succ := knI ws s.as [g.f0, g.f1, g.f2] + 1 }, s.lab, (knA ws s.as [g.f0, g.f1, g.f2]).e, (knA ws s.as [g.f0, g.f1, g.f2]).a, (knA ws s.as [g.f0, g.f1, g.f2]).p⟩ else
 if p = 10 then ⟨s.ins, s.lab, s.e, s.a, nxK ws s.p⟩ else
 s
end Go.Proofs.YtbbdanhpphlbpaaGreatDoor
namespace Go.Proofs.YtbbdanhpphlbpaaGreatDoor
open Go.Shelf Go.RowKit
set_option linter.unusedVariables false

end Go.Proofs.YtbbdanhpphlbpaaGreatDoor
namespace Go.Proofs.YtbbdanhpphlbpaaGreatDoor
open Go.RowKit
set_option linter.unusedVariables false
set_option linter.unusedSimpArgs false
set_option maxRecDepth 100000
set_option maxHeartbeats 2000000
set_option simprocs false

section
variable {g : Lg} {q : List UInt8} {L : List Rw} {z : Int} {k : Nat}
end
def stk (g : Lg) (k : Nat) (t : Tk) (r : Rw) : Bool := !(begQ g r (r.ps.getD k 0) t)
def ask10 (k : Nat) (r : Rw) : Bool := r.ps.getD k 0 == 10
def fstX (f : Rw → Bool) (R : List Rw) : Int := match (List.range R.length).find? (fun j => f (R.getD j Rw.z)) with | some j => (j : Int) | none => -1
section
variable {f : Rw → Bool} {R cur : List Rw} {k i j : Nat}
structure Hlf (f : Rw → Bool) (R cur : List Rw) (i j : Nat) : Prop where
 len : cur.length = R.length
 ij : i < j
 jl : j ≤ R.length
 pre : cur.take i = (R.take j).filter (fun r => !f r)
 post : ∀ m, j ≤ m → cur[m]? = R[m]?
theorem Hlf.at (h : Hlf f R cur i j) : cur.getD j Rw.z = R.getD j Rw.z := by
 rw [List.getD_eq_getElem?_getD, List.getD_eq_getElem?_getD, h.post j (Nat.le_refl _)]
end
def mfV (kk : Nat) (t : Tk) (R : List Rw) : Int := if ((decide (fstX (ask10 kk) R ≥ 0)) && (t.kind == 1)) = true then 21 else 22
def lft (g : Lg) (kk : Nat) (t : Tk) (R : List Rw) : List Rw := R.filter (fun r => !stk g kk t r)
def beS (g : Lg) (ws : List Tk) (kk : Nat) (R : List Rw) (s : Ps) : Ps := if (lft g kk (ws.getD s.p tok0) R).length = 0 then s.wa (refA ws s.as (mfV kk (ws.getD s.p tok0) R)) else s
section
variable {f : Rw → Bool} {R cur : List Rw} {i j kk : Nat} {w : World} {ks : List Nat} {x : Rw}
end
end Go.Proofs.YtbbdanhpphlbpaaGreatDoor
namespace Go.Proofs.YtbbdanhpphlbpaaGreatDoor
open Go.Shelf Go.RowKit
set_option linter.unusedVariables false
def strV (l : List UInt8) : List Value := [.string (S l)]
def laysJoin_ren : Go.Shelf.Ren := ⟨fun | 156 => 192 | 165 => 229 | 166 => 230 | 169 => 231 | 240 => 262 | 241 => 263 | 276 => 285 | 277 => 286 | n => n, fun | 0 => 0 | 3 => 3 | 4 => 4 | 9 => 9 | 20 => 20 | 31 => 207 | 37 => 152 | 70 => 242 | 72 => 244 | 75 => 215 | 76 => 245 | 127 => 277 | 164 => 293 | 5 => 5 | 80 => 50 | n => n, fun | n => n⟩
theorem laysJoin : Go.Proofs.Lays.n156 Tryz.prog laysJoin_ren := {
 mixed := by kernel_rfl
 f156 := Tryz.func192.trans (congrArg some (by kernel_rfl))
 f165 := Tryz.func229.trans (congrArg some (by kernel_rfl))
 f166 := Tryz.func230.trans (congrArg some (by kernel_rfl))
 f169 := Tryz.func231.trans (congrArg some (by kernel_rfl))
 f240 := Tryz.func262.trans (congrArg some (by kernel_rfl))
 f241 := Tryz.func263.trans (congrArg some (by kernel_rfl))
 f276 := Tryz.func285.trans (congrArg some (by kernel_rfl))
 f277 := Tryz.func286.trans (congrArg some (by kernel_rfl))
 t0 := Tryz.underlying0
 a0 := Tryz.isAgg0
 z0 := Tryz.sizeOf0
 v0 := Tryz.zeroValue0
 t3 := Tryz.underlying3
 a3 := Tryz.isAgg3
 z3 := Tryz.sizeOf3
 v3 := Tryz.zeroValue3
 t4 := Tryz.underlying4
 a4 := Tryz.isAgg4
 z4 := Tryz.sizeOf4
 v4 := Tryz.zeroValue4
 t9 := Tryz.underlying9
 a9 := Tryz.isAgg9
 z9 := Tryz.sizeOf9
 v9 := Tryz.zeroValue9
 t20 := Tryz.underlying20
 a20 := Tryz.isAgg20
 z20 := Tryz.sizeOf20
 v20 := Tryz.zeroValue20
 t31 := Tryz.underlying207
 a31 := Tryz.isAgg207
 z31 := Tryz.sizeOf207
 v31 := Tryz.zeroValue207
 t37 := Tryz.underlying152
 a37 := Tryz.isAgg152
 z37 := Tryz.sizeOf152
 v37 := Tryz.zeroValue152
 t70 := Tryz.underlying242
 a70 := Tryz.isAgg242
 z70 := Tryz.sizeOf242
 v70 := Tryz.zeroValue242
 t72 := Tryz.underlying244
 a72 := Tryz.isAgg244
 z72 := Tryz.sizeOf244
 v72 := Tryz.zeroValue244
 t75 := Tryz.underlying215
 a75 := Tryz.isAgg215
 z75 := Tryz.sizeOf215
 v75 := Tryz.zeroValue215
 t76 := Tryz.underlying245
 a76 := Tryz.isAgg245
 z76 := Tryz.sizeOf245
 v76 := Tryz.zeroValue245
 t127 := Tryz.underlying277
 a127 := Tryz.isAgg277
 z127 := Tryz.sizeOf277
 v127 := Tryz.zeroValue277
 t164 := Tryz.underlying293
 a164 := Tryz.isAgg293
 z164 := Tryz.sizeOf293
 v164 := Tryz.zeroValue293 }
theorem joinExtra : Go.Proofs.Builder.Extra Tryz.prog laysJoin_ren where
 sizeBuilder := by kernel_rfl
 liesBuilder := by kernel_rfl
 t5 := Tryz.underlying5
 a5 := Tryz.isAgg5
 z5 := Tryz.sizeOf5
 v5 := Tryz.zeroValue5
 infoByte := by kernel_rfl
 cellsByte := by kernel_rfl
 sizeByte := by kernel_rfl
 neB5 := by decide
theorem join_any (mv : Value) (ls : List (List UInt8)) (q : List UInt8) (w : World) (hM : Sl strV 1 w.heap.size w mv ls) (h0 : ls ≠ []) (hn : ls.length ≤ 1000) (hl : (Lib.join ls q).length ≤ 1000000) : Calls Tryz.prog 192 #[mv, .string (S q)] w fun e w' => e = .returned (.string (S (Lib.join ls q))) ∧ Grow w w' := by
 obtain ⟨ao, cap, rfl, hlc, hel⟩ := hM
 obtain ⟨x, r, rfl⟩ : ∃ x r, ls = x :: r := by cases ls with
  | nil => exact absurd rfl h0
  | cons x r => exact ⟨x, r, rfl⟩
 obtain ⟨b, o, rfl, hb, _⟩ := hel 0 x rfl
 have hmap : ((x :: r).map S).map (fun s => s.data.toList) = x :: r := by
  rw [List.map_map]
  conv => rhs; rw [← List.map_id (x :: r)]
  exact List.map_congr_left fun y _ => S_data y
 have hlen : ((x :: r).map S).length = (x :: r).length := List.length_map _
 have hc := Any.strings_Join laysJoin joinExtra b o cap ((x :: r).map S) (S q) w (fun j y hy => by
   rw [List.getElem?_map] at hy
   cases hz : (x :: r)[j]? with
   | none => rw [hz] at hy; cases hy
   | some z =>
    rw [hz] at hy
    simp only [Option.map_some, Option.some.injEq] at hy
    subst hy
    obtain ⟨b', o', h1, _, h3⟩ := hel j z hz
    simp only [Option.some.injEq, Addr.mk.injEq] at h1
    obtain ⟨rfl, rfl, _⟩ := h1
    have := h3 0 (.string (S z)) rfl
    rw [Nat.mul_one, Nat.add_zero] at this
    exact this) hb (by rw [hlen]; omega) (by rw [hlen]; exact hlc) (by rw [hmap, S_data]; omega)
 rw [hlen, hmap, S_data] at hc
 exact hc.mono fun e w' h => ⟨h.1, h.2⟩
end Go.Proofs.YtbbdanhpphlbpaaGreatDoor
namespace Go.Proofs.YtbbdanhpphlbpaaGreatDoor
open Go.RowKit
set_option linter.unusedVariables false
set_option linter.unusedSimpArgs false
theorem mem_ro {H : Hp} {G : Gr} {w : World} (hl : H.length = G.length) (h : ∀ (i : Nat) (e : Ent), H[i]? = some (some e) → e.mut = false ∧ EntOK G w ((G[i]?).getD none) e) : Mem H G w :=
 ⟨hl, fun i e he => (h i e he).2, fun i j e f L M _ he _ hm => by rw [(h i e he).1] at hm; cases hm⟩
theorem lst_of {α : Type} {enc : α → List Value} {f : Nat → List SV} {s B n cap : Nat} {w : World} {l : List α} {bo : Option (Nat × Nat)} (h : Sl enc s B w (.slice (bo.map fun x => ⟨x.1, x.2, none⟩) n cap) l) (hB : B ≤ w.heap.size)
  (hf : ∀ k x, l[k]? = some x → denL [] (f k) = some (enc x)) (htot : ∀ k, ∃ vs, denL [] (f k) = some vs) :
  n = l.length ∧ ∀ (G F : Gr), den (G ++ (bo.map fun x => (⟨x.1, List.replicate x.2 undef, [], 0⟩ : Loc)) :: F) (.sl G.length l.length cap) = some (.slice (bo.map fun x => ⟨x.1, x.2, none⟩) n cap) ∧ EntOK (G ++ (bo.map fun x => (⟨x.1, List.replicate x.2 undef, [], 0⟩ : Loc)) :: F) w (bo.map fun x => (⟨x.1, List.replicate x.2 undef, [], 0⟩ : Loc)) (.lst s l.length f) := by
 obtain ⟨ao, cap', hv, hlc, he⟩ := h
 simp only [Value.slice.injEq] at hv
 obtain ⟨rfl, rfl, rfl⟩ := hv
 refine ⟨rfl, fun G F => ⟨?_, htot, ?_⟩⟩
 ·unfold den
  rw [List.getElem?_append_right (Nat.le_refl _)]
  cases bo <;> simp [rm]
 ·cases bo with
  | none =>
   left
   cases l with
   | nil => rfl
   | cons x l => obtain ⟨b, o, h1, _⟩ := he 0 x rfl; cases h1
  | some x =>
   obtain ⟨b, o⟩ := x
   cases hl : l with
   | nil => left; rfl
   | cons y l' =>
    right
    have hb : b < B := by
     obtain ⟨b', o', h1, h2, _⟩ := he 0 y (by rw [hl]; rfl)
     cases h1; exact h2
    refine ⟨_, rfl, (by show b < _; omega), fun k hk => ?_⟩
    have hk' : k < l.length := by rw [hl]; exact hk
    obtain ⟨b', o', h1, h2, h3⟩ := he k l[k] (by simp [hk'])
    cases h1
    exact ⟨_, hf k l[k] (by simp [hk']), by simpa using h3⟩
theorem post_ro {x : SV} {H H2 : Hp} {G : Gr} {w w' : World} {e : Ending} (h : Post (Rt x H2) H G w e w') (hro : ∀ (i : Nat) (e : Ent), H[i]? = some (some e) → e.mut = false) : ∃ v F, den (G ++ F) x = some v ∧ e = .returned v ∧ Mem H2 (G ++ F) w' ∧ Grow w w' := by
 obtain ⟨y, H', F, v, ⟨rfl, rfl⟩, h1, h2, h3, hmix, _⟩ := h
 have hk : ∀ k, (keys H G).contains k = false := fun k => by
  cases hc : (keys H G).contains k with
  | false => rfl
  | true =>
   obtain ⟨i, e', L, q1, q2, _⟩ := mem_keys.1 hc
   rw [hro i e' q1] at q2; cases q2
 exact ⟨v, F, h1, h2, h3, ⟨hmix.os, hmix.tape, hmix.output, hmix.size, fun k hk' => hmix.block k hk' (hk k)⟩⟩
abbrev lstS (ls : List (List UInt8)) : Ent := .lst 1 ls.length fun k => [.str (ls.getD k [])]
theorem join_ (ls : List (List UInt8)) (q : List UInt8) (h0 : ls ≠ []) (hn : ls.length ≤ 1000) (hl : (Lib.join ls q).length ≤ 1000000) : Fn Tryz.prog 192 [.sl 0 ls.length ls.length, .str q] [some (lstS ls)] (Rt (.str (Lib.join ls q)) [some (lstS ls)]) := by
 refine ⟨by kernel_rfl, fun G w vs hM hv => ?_⟩
 obtain ⟨p, rfl⟩ : ∃ p, G = [p] := List.length_eq_one_iff.1 hM.len.symm
 have he := hM.ent 0 _ rfl
 obtain ⟨hd, h | ⟨L, hp, hb, hr⟩⟩ := he
 ·exact absurd (List.eq_nil_of_length_eq_zero h) h0
 have hp' : p = some L := hp
 subst hp'
 have hv' : some [Value.slice (some ⟨L.b, L.pre.length, none⟩) ls.length (ls.length + rm (some L)), .string (S q)] = some vs := hv
 cases hv'
 have hS : Sl strV 1 w.heap.size w (.slice (some ⟨L.b, L.pre.length, none⟩) ls.length (ls.length + rm (some L))) ls := ⟨_, _, rfl, Nat.le_add_right _ _, fun j x hx => by
  obtain ⟨hj, rfl⟩ := List.getElem?_eq_some_iff.1 hx
  obtain ⟨us, q1, q2⟩ := hr j hj
  have e : ls.getD j [] = ls[j] := by simp [List.getD, hj]
  have q3 : some [Value.string (S (ls.getD j []))] = some us := q1
  cases q3
  rw [e] at q2
  exact ⟨_, _, rfl, hb, q2⟩⟩
 refine (join_any _ ls q w hS h0 hn hl).mono ?_
 rintro e w' ⟨rfl, hg⟩
 have hk : ∀ k, (keys [some (lstS ls)] [some L]).contains k = false := fun k => by
  cases hc : (keys [some (lstS ls)] [some L]).contains k with
  | false => rfl
  | true =>
   obtain ⟨i, e', M, q1, q2, _⟩ := mem_keys.1 hc
   cases i with
   | zero => cases q1; cases q2
   | succ i => cases q1
 refine ⟨.str (Lib.join ls q), [some (lstS ls)], [], _, ⟨rfl, rfl⟩, rfl, rfl, ?_, (Mix.refl _ w).grow hg, Nat.le_refl _, fun i e he _ => he, fun i e he hm => ?_⟩
 ·refine mem_ro rfl fun i e he => ?_
  cases i with
  | zero =>
   cases he
   refine ⟨rfl, hd, .inr ⟨L, rfl, Nat.lt_of_lt_of_le hb hg.size, fun k hk => ?_⟩⟩
   obtain ⟨us, q1, q2⟩ := hr k hk
   exact ⟨us, q1, fun j x hx => by
    have := q2 j x hx
    unfold World.cell? at this ⊢
    rw [hg.block _ hb]; exact this⟩
  | succ i => cases he
 ·cases i with
  | zero => cases he; cases hm
  | succ i => cases he
end Go.Proofs.YtbbdanhpphlbpaaGreatDoor
namespace Go.Proofs.YtbbdanhpphlbpaaGreatDoor
open Go.RowKit
set_option linter.unusedVariables false
set_option linter.unusedSimpArgs false
set_option maxRecDepth 100000
set_option maxHeartbeats 2000000
set_option simprocs false
theorem toksF_end : ∀ (f : Nat) (l : List UInt8) (a : Nat) (ws : List Tk), l.length < f + a → a ≤ l.length → (∃ vs, toksF f l a ws = (vs, 0, 0)) ∨ ∃ e k, e ≠ 0 ∧ toksF f l a ws = ([], e, k)
 | 0, l, a, ws, h, h2 => by omega
 | f + 1, l, a, ws, h, h2 => by
  cases hs : (skipL (l.drop a)).2 with
  | true => exact .inr ⟨24, _, by decide, tf_rem hs⟩
  | false =>
   by_cases h1 : a + (skipL (l.drop a)).1 = l.length
   ·exact .inl ⟨ws, tf_end hs h1⟩
   ·by_cases h3 : (firstR (l.drop (a + (skipL (l.drop a)).1))).2 = 0
    ·rw [tf_go hs h1 h3]
     have hk := skip_le (l.drop a); rw [List.length_drop] at hk
     have hn := first_len h3
     rw [List.length_drop] at hn
     exact toksF_end f l _ _ (by omega) (by omega)
    ·exact .inr ⟨_, _, h3, tf_bad hs h1 h3⟩
theorem tokSp {l : List UInt8} {R : Prop} (h1 : ∀ ws, tokensR l = (ws, 0, 0) → R) (h2 : ∀ e k, e ≠ 0 → tokensR l = ([], e, k) → R) : R := by
 by_cases h : l.length > 8192
 ·exact h2 2 0 (by decide) (tokens_long h)
 ·rcases toksF_end (l.length + 1) l 0 [] (by omega) (by omega) with ⟨vs, h3⟩ | ⟨e, k, h3, h4⟩
  ·exact h1 vs (by rw [tokens_short (by omega), h3])
  ·exact h2 e k h3 (by rw [tokens_short (by omega), h4])
theorem one_is (ws : List Tk) (l : List UInt8) : (((((ws.length : Nat) : Int) == 1) && ((ws.getD (0 : Int).toNat tok0).kind == 1)) && ((ws.getD (0 : Int).toNat tok0).text == l)) = (((0 : Int) == 0) && (ws.length == 1 && ((ws.getD 0 tok0).kind == 1 && (ws.getD 0 tok0).text == l))) := by
 have h : (((ws.length : Nat) : Int) == 1) = (ws.length == 1) := by rw [Bool.eq_iff_iff, beq_iff_eq, beq_iff_eq]; omega
 rw [h, Bool.and_assoc]; rfl
def oneN (l : List UInt8) : Bool := (tokensR l).2.1 == 0 && ((tokensR l).1.length == 1 && (((tokensR l).1.getD 0 tok0).kind == 1 && ((tokensR l).1.getD 0 tok0).text == l))
theorem isName_ (l : List UInt8) (os : List (Nat × Obj)) (hM : ∀ w ks, Gl os w ks → ∃ m, w.cell? ⟨0, 0, none⟩ = some (.int .i64 m)) (hE : ∀ w ks, Gl os w ks → ∃ ev, w.cell? ⟨4, 0, none⟩ = some ev ∧ (ev = .nilIface ∨ ∃ te pe, ev = .iface te pe)) : FnI (Gl os) Tryz.prog 47 [.str l] [] (Rt (.bool (oneN l)) []) :=
 enterI (n := 34) (by kernel_rfl) Tryz.func47 rfl rfl rfl fun G w a h0 hI A => N9 8 A rfl rfl fun A => tokSp (l := l)
  (fun ws ht => I9 [] Gl.ok hI (tokens_ok l ws os hM hE ht) A rfl fun A => N9 13 A rfl rfl fun A => have A := sy_sayD A 13 (.tt) rfl (fun _ => congrArg (fun b => some (Value.bool b)) (show (0 == 0) = true by decide)); N9 24 A rfl (ok_r <| ok_g (fun hg => (by have h := hg; simp at h; omega)) <| ok_r <| ok_g (fun hg => (by have h := hg; simp at h; omega)) <| ok_r <| ok_g (fun hg => (by have h := hg; simp at h; omega)) <| ok_r <| ok_r <| ok_r <| ok_g (fun hg => (by have h := hg; simp at h; omega)) <| ok_r <| ok_g (fun hg => (by have h := hg; simp at h; omega)) <| ok_r <| ok_g (fun hg => (by have h := hg; simp at h; omega)) <| ok_r <| ok_r <| ok_r <| okE_nil) fun A => R9 A rfl h0 rfl (by unfold oneN; rw [ht]; exact congrArg SV.bool (one_is ws l)) rfl)
  (fun e k he ht => I9 [] Gl.ok hI (tokens_no l e k os hM hE ht he) A rfl fun A => N9 13 A rfl rfl fun A => have A := sy_sayD A 13 (.ff) rfl (fun _ => congrArg (fun b => some (Value.bool b)) (show (e == 0) = false by simpa using he)); N9 24 A rfl rfl fun A => R9 A rfl h0 rfl (by unfold oneN; rw [ht]; simp [he, oneS, nb]) rfl)
abbrev wrongI (i : In) : Bool := (Right0 i.op i.dst i.ra i.rb i.imm i.loc i.off i.ix i.sz i.fn i.acq i.weak i.rel i.pred i.succ i.to_ i.zero 0 0) == 34
def opA (g : Lg) (r : Rw) (i : In) (lb : List UInt8) (k j : Nat) : List UInt8 := if j < k ∧ j < r.ps.length then opdT g r (r.ps.getD j 0) i lb else []
def opsT (g : Lg) (r : Rw) (i : In) (lb : List UInt8) : List (List UInt8) := r.ps.map fun p => opdT g r p i lb
def prP (g : Lg) (L : List Rw) (i : In) (lb : List UInt8) : List UInt8 × Int :=
 if wrongI i = true then ([], 34) else
 if rowQ L i = false then ([], 36) else
 if i.op = 9 ∧ oneN lb = false then ([], 37) else
 if (rowR L i).ps.length = 0 then (nameR g (rowR L i).nm i.sz, 0) else
 ((nameR g (rowR L i).nm i.sz ++ [32]) ++ Lib.join (opsT g (rowR L i) i lb) [44], 0)
structure PrOK (g : Lg) (L : List Rw) (i : In) (lb : List UInt8) : Prop where
 lg : LgOK g
 lt : ∀ k, ([g.l0, g.l1, g.l2, g.l3].getD k []).length ≤ 1000
 ps : ∀ k, (L.getD k Rw.z).ps.length ≤ 1000
 n : L.length ≤ 1000000
 im : -9223372036854775808 ≤ i.imm ∧ i.imm ≤ 9223372036854775807
 nm : (rowR L i).nm.length ≤ 1000 ∧ Lib.countB (S (rowR L i).nm) (S [42]) ≤ 1000
 p : wrongI i = false → rowQ L i = true → ∀ k, k < (rowR L i).ps.length → ((rowR L i).ps.getD k 0 = 6 → InOK i) ∧ ((rowR L i).ps.getD k 0 = 8 → 1 ≤ i.pred ∧ i.pred ≤ 3) ∧ ((rowR L i).ps.getD k 0 = 9 → 1 ≤ i.succ ∧ i.succ ≤ 3)
 nl : (nameR g (rowR L i).nm i.sz).length ≤ 1000000
 jl : (Lib.join (opsT g (rowR L i) i lb) [44]).length ≤ 1000000
theorem row_mem {L : List Rw} {i : In} (h : rowQ L i = true) : rowR L i ∈ L := by
 unfold rowQ at h; unfold rowR
 cases hf : L.find? (rowP i) with
 | none => rw [hf] at h; cases h
 | some r => exact List.mem_of_find?_eq_some hf
theorem PrOK.len {g : Lg} {L : List Rw} {i : In} {lb : List UInt8} (h : PrOK g L i lb) (hq : rowQ L i = true) : (rowR L i).ps.length ≤ 1000 := by
 obtain ⟨k, hk, e⟩ := List.getElem_of_mem (row_mem hq)
 have := h.ps k
 rw [List.getD_eq_getElem?_getD, List.getElem?_eq_getElem hk] at this
 rw [← e]; exact this
def PrI (os : List (Nat × Obj)) (L : List Rw) : Amb := fun w ks => Tbl L w ks ∧ Gl os w ks
theorem PrI.ok {os : List (Nat × Obj)} {L : List Rw} : Amb.OK (PrI os L) := fun w ks w' ks' h m hk => ⟨Tbl.ok _ _ _ _ h.1 m hk, Gl.ok _ _ _ _ h.2 m hk⟩
theorem join_r (ls : List (List UInt8)) (n : Nat) (f : Nat → List SV) (hn' : n = ls.length) (hf : ∀ j, f j = [.str (ls.getD j [])]) (q : List UInt8) (h0 : n ≠ 0) (hn : n ≤ 1000) (hl : (Lib.join ls q).length ≤ 1000000) : Fn Tryz.prog 192 [.sl 0 n n, .str q] [some (.lst 1 n f)] (Rt (.str (Lib.join ls q)) [some (.lst 1 n f)]) := by
 have : f = fun j => [.str (ls.getD j [])] := funext hf
 subst this; subst hn'
 exact join_ ls q (fun e => h0 (by rw [e]; rfl)) hn hl
theorem opA_end (g : Lg) (r : Rw) (i : In) (lb : List UInt8) (k j : Nat) (h : r.ps.length ≤ k) : opA g r i lb k j = (opsT g r i lb).getD j [] := by
 unfold opA opsT
 by_cases hj : j < r.ps.length
 ·rw [if_pos ⟨by omega, hj⟩]; simp [List.getD, hj]
 ·rw [if_neg (by omega)]; simp [List.getD, Nat.le_of_not_lt hj]
theorem strInfo : ∃ ti, Tryz.prog.info? 9 = some ti ∧ ti.zero = some (.string (S [])) ∧ ti.size = 1 ∧ ti.bytes ≤ 1000 := by
 have h : (Tryz.prog.info? 9).map (fun ti => (ti.zero, ti.size, ti.bytes)) = some (some (.string (S [])), 1, 16) := by kernel_rfl
 cases e : Tryz.prog.info? 9 with
 | none => rw [e] at h; cases h
 | some ti =>
  rw [e] at h
  simp only [Option.map_some, Option.some.injEq, Prod.mk.injEq] at h
  exact ⟨ti, rfl, h.1, h.2.1, by omega⟩
theorem nb_f {b : Bool} (h : (!b) = false) : b = true := by cases b <;> first | rfl | cases h
theorem nb_t {b : Bool} (h : (!b) = true) : b = false := by cases b <;> first | rfl | cases h
theorem opA_ne {g : Lg} {r : Rw} {i : In} {lb : List UInt8} {k j : Nat} (h : j ≠ k) : opA g r i lb (k + 1) j = opA g r i lb k j := by
 unfold opA
 by_cases hj : j < k ∧ j < r.ps.length
 ·rw [if_pos hj, if_pos ⟨by omega, hj.2⟩]
 ·rw [if_neg hj, if_neg (by omega)]
theorem opA_at {g : Lg} {r : Rw} {i : In} {lb : List UInt8} {k : Nat} (h : k < r.ps.length) : opA g r i lb (k + 1) k = opdT g r (r.ps.getD k 0) i lb := by
 unfold opA; rw [if_pos ⟨by omega, h⟩]
theorem lprint_ (g : Lg) (L : List Rw) (c : Nat) (i : In) (lb : List UInt8) (os : List (Nat × Obj)) (hM : ∀ w ks, Gl os w ks → ∃ m, w.cell? ⟨0, 0, none⟩ = some (.int .i64 m)) (hT : ∀ w ks, Gl os w ks → Lib.TabIs Tryz.prog w "internal/strconv.uint64pow10" .u64 Lib.pow10Tab) (hE : ∀ w ks, Gl os w ks → ∃ ev, w.cell? ⟨4, 0, none⟩ = some ev ∧ (ev = .nilIface ∨ ∃ te pe, ev = .iface te pe)) (h : PrOK g L i lb) : FnI (PrI os L) Tryz.prog 143 [.agg [.str g.r0, .str g.r1, .str g.r2, .str g.r3, .str g.r4, .str g.r5, .str g.r6, .str g.r7, .str g.l0, .str g.l1, .str g.l2, .str g.l3, .str g.im, .str g.f0, .str g.f1, .str g.f2, .sl 0 L.length c], .agg (inQ9 i), .str lb] [some (lQ9 L)] (Rt (.tup [.str ((prP g L i lb).1), .int .i64 ((prP g L i lb).2)]) [some (lQ9 L)]) :=
 enterI (n := 69) (by kernel_rfl) Tryz.func143 rfl rfl rfl fun G w a h0 hI A => N9 12 A rfl rfl fun A => C9 [] (isWrong_ i.op i.dst i.ra i.rb i.imm i.loc i.off i.ix i.sz i.fn i.acq i.weak i.rel i.pred i.succ i.to_ i.zero) A rfl fun A => N9 2 A rfl rfl fun A => fork 15 A rfl
  (fun h1 A => N9 8 A rfl rfl fun A => R9 A rfl h0 rfl (by unfold prP; rw [if_pos h1]; rfl) rfl)
  (fun h1 A => N9 7 A rfl rfl fun A => I9 [0] Tbl.ok hI.1 (rowOf_ g L c i (fun k => Nat.le_trans (h.ps k) (by decide)) h.n) A rfl fun A => N9 15 A rfl rfl fun A => fork 23 A rfl
   (fun h2 A => N9 8 A rfl rfl fun A => R9 A rfl h0 rfl (by unfold prP; rw [if_neg (show ¬ wrongI i = true from fun z => Bool.noConfusion (h1.symm.trans z)), if_pos (nb_t h2)]; rfl) rfl)
   (fun h2 A => N9 10 A rfl rfl fun A => forkE 27 A rfl
    (fun h3 A => N9 1 A rfl rfl fun A => I9 [] Gl.ok hI.2 (isName_ lb os hM hE) A rfl fun A => N9 4 A rfl rfl fun A => fork 31 A rfl
     (fun h4 A => N9 8 A rfl rfl fun A => R9 A rfl h0 rfl (by unfold prP; rw [if_neg (show ¬ wrongI i = true from fun z => Bool.noConfusion (h1.symm.trans z)), if_neg (show ¬ rowQ L i = false by rw [nb_f h2]; decide), if_pos ⟨h3, nb_t h4⟩]; rfl) rfl)
     (fun h4 A => N9 9 A rfl rfl fun A => I9 [0] Gl.ok hI.2 (nameOf_ g L c (rowR L i) i.sz os hM hT h.nm h.lt) A rfl fun A => N9 12 A rfl rfl fun A => forkE 40 A rfl
      (fun h5 A => N9 9 A rfl rfl fun A => R9 A rfl h0 rfl (by unfold prP; rw [if_neg (show ¬ wrongI i = true from fun z => Bool.noConfusion (h1.symm.trans z)), if_neg (show ¬ rowQ L i = false by rw [nb_f h2]; decide), if_neg (show ¬ (i.op = 9 ∧ oneN lb = false) from fun z => by rw [nb_f h4] at z; cases z.2), if_pos (show (rowR L i).ps.length = 0 by omega)]; rfl) rfl)
      (fun h5 A => N9 8 A rfl rfl fun A => q_eff A rfl (mkE' (m := (rowR L i).ps.length) (fun j => [.str (opA g (rowR L i) i lb 0 j)]) (fun j => by show [SV.str (opA g (rowR L i) i lb 0 j)] = _; unfold opA; rw [if_neg (by omega)]) rfl rfl rfl rfl (by kernel_rfl) strInfo (by have := h.len (nb_f h2); omega) rfl) fun A => N9 8 A rfl rfl fun A => ADOPT (y := .sl 5 ((rowR L i).ps.length) ((rowR L i).cp)) (H' := [some (lQ9 L), some (.blk [.str g.r0, .str g.r1, .str g.r2, .str g.r3, .str g.r4, .str g.r5, .str g.r6, .str g.r7, .str g.l0, .str g.l1, .str g.l2, .str g.l3, .str g.im, .str g.f0, .str g.f1, .str g.f2, .sl 0 L.length c]), some (.blk (inQ9 i)), some (.blk (rwQ9 (rowR L i))), some (.row 9 1 ((rowR L i).ps.length) ((rowR L i).ps.length) (fun j => [.str (opA g (rowR L i) i lb 0 j)])), some (.lst 1 (((rowR L i).ps).length) (fun j => [.int .i64 (((rowR L i).ps).getD j 0)]))]) 47 (hI.1 _ (row_mem (nb_f h2))) A rfl rfl rfl rfl fun A => N9 5 A rfl rfl fun A => LOOP1 (fun (k : Nat) => [(2, .str lb), (3, .ptr 1 0), (4, .ptr 2 0), (6, .str []), (7, .int .i64 0), (8, .ptr 3 0), (10, .str (nameR g (rowR L i).nm i.sz)), (11, .sl 4 ((rowR L i).ps.length) ((rowR L i).ps.length)), (47, .sl 5 ((rowR L i).ps.length) ((rowR L i).cp)), (48, .int .i64 (((rowR L i).ps.length : Nat) : Int)), (49, .int .i64 (k : Int))]) (fun (k : Nat) => [some (lQ9 L), some (.blk [.str g.r0, .str g.r1, .str g.r2, .str g.r3, .str g.r4, .str g.r5, .str g.r6, .str g.r7, .str g.l0, .str g.l1, .str g.l2, .str g.l3, .str g.im, .str g.f0, .str g.f1, .str g.f2, .sl 0 L.length c]), some (.blk (inQ9 i)), some (.blk (rwQ9 (rowR L i))), some (.row 9 1 ((rowR L i).ps.length) ((rowR L i).ps.length) (fun j => [.str (opA g (rowR L i) i lb k j)])), some (.lst 1 (((rowR L i).ps).length) (fun j => [.int .i64 (((rowR L i).ps).getD j 0)]))]) (fun (k : Nat) => k ≤ (rowR L i).ps.length) (fun (k : Nat) => (rowR L i).ps.length - k) 0 (Nat.zero_le _) ((A.cut [2, 3, 4, 6, 7, 8, 10, 11, 47, 48, 49] rfl).trunc 6 rfl rfl rfl (by simp only [List.length_cons, List.length_nil] at h0; omega)) fun k hI2 {G a w} A => N9 6 A rfl rfl fun A => forkD 50 A rfl
        (fun h6 A => N9 14 A rfl (ok_d (by have q1 := h.len (nb_f h2); omega) <| ok_d (by have q1 := h.len (nb_f h2); omega) <| okE_nil) fun A => N9 8 A rfl rfl fun A => I9 [0] Gl.ok hI.2 (opd_ g L c (rowR L i) (((rowR L i).ps).getD (((k : Int)).toNat) 0) i lb os hM hT h.lg h.im (h.p h1 (nb_f h2) ((k : Int)).toNat (by have := h6; omega)).1 (h.p h1 (nb_f h2) ((k : Int)).toNat (by have := h6; omega)).2.1 (h.p h1 (nb_f h2) ((k : Int)).toNat (by have := h6; omega)).2.2) A rfl fun A => N9 1 A rfl (ok_d (by have q1 := h.len (nb_f h2); omega) <| okE_nil) fun A => STR (i := 4) (e := 9) (s := 1) (m := (rowR L i).ps.length) (c := (rowR L i).ps.length) hX k (fun j => [.str (opA g (rowR L i) i lb (k + 1) j)]) A rfl rfl (Int.toNat_natCast k) (by omega) (fun z hz => by show [SV.str _] = [SV.str _]; rw [opA_ne hz]) (by show _ = some [SV.str _]; rw [opA_at (by omega)]; rfl) fun A => N9 7 A rfl (ok_d (by have q1 := h.len (nb_f h2); omega) <| okE_nil) fun A => ⟨k + 1, _, (by omega), (by show k + 1 ≤ _; omega), ((A.cut [2, 3, 4, 6, 7, 8, 10, 11, 47, 48, 49] rfl).trunc 6 rfl rfl rfl (by simp only [List.length_cons, List.length_nil] at h0; omega))⟩)
        (fun h6 A => N9 8 A rfl (ok_d (by have q1 := h.nl; have q2 := h.jl; (try simp only [List.length_append, List.length_cons, List.length_nil]); omega) <| okE_nil) fun A => have A := A.freeze 4 rfl; C9 [4] (join_r (opsT g (rowR L i) i lb) ((rowR L i).ps.length) (fun j => [.str (opA g (rowR L i) i lb k j)]) (by unfold opsT; rw [List.length_map]) (fun j => by show [SV.str _] = [SV.str _]; rw [opA_end _ _ _ _ _ _ (by have := hI2; omega)]) [44] (by omega) (h.len (nb_f h2)) h.jl) A rfl fun A => N9 6 A rfl (ok_d (by have q1 := h.nl; have q2 := h.jl; (try simp only [List.length_append, List.length_cons, List.length_nil]); omega) <| okE_nil) fun A => R9 A rfl h0 rfl (by unfold prP; rw [if_neg (show ¬ wrongI i = true from fun z => Bool.noConfusion (h1.symm.trans z)), if_neg (show ¬ rowQ L i = false by rw [nb_f h2]; decide), if_neg (show ¬ (i.op = 9 ∧ oneN lb = false) from fun z => by rw [nb_f h4] at z; cases z.2), if_neg (show ¬ (rowR L i).ps.length = 0 by omega)]; rfl) rfl))))
    (fun h3 A => N9 15 A rfl rfl fun A => I9 [0] Gl.ok hI.2 (nameOf_ g L c (rowR L i) i.sz os hM hT h.nm h.lt) A rfl fun A => N9 12 A rfl rfl fun A => forkE 40 A rfl
     (fun h7 A => N9 9 A rfl rfl fun A => R9 A rfl h0 rfl (by unfold prP; rw [if_neg (show ¬ wrongI i = true from fun z => Bool.noConfusion (h1.symm.trans z)), if_neg (show ¬ rowQ L i = false by rw [nb_f h2]; decide), if_neg (show ¬ (i.op = 9 ∧ oneN lb = false) from fun z => h3 z.1), if_pos (show (rowR L i).ps.length = 0 by omega)]; rfl) rfl)
     (fun h7 A => N9 8 A rfl rfl fun A => q_eff A rfl (mkE' (m := (rowR L i).ps.length) (fun j => [.str (opA g (rowR L i) i lb 0 j)]) (fun j => by show [SV.str (opA g (rowR L i) i lb 0 j)] = _; unfold opA; rw [if_neg (by omega)]) rfl rfl rfl rfl (by kernel_rfl) strInfo (by have := h.len (nb_f h2); omega) rfl) fun A => N9 8 A rfl rfl fun A => ADOPT (y := .sl 5 ((rowR L i).ps.length) ((rowR L i).cp)) (H' := [some (lQ9 L), some (.blk [.str g.r0, .str g.r1, .str g.r2, .str g.r3, .str g.r4, .str g.r5, .str g.r6, .str g.r7, .str g.l0, .str g.l1, .str g.l2, .str g.l3, .str g.im, .str g.f0, .str g.f1, .str g.f2, .sl 0 L.length c]), some (.blk (inQ9 i)), some (.blk (rwQ9 (rowR L i))), some (.row 9 1 ((rowR L i).ps.length) ((rowR L i).ps.length) (fun j => [.str (opA g (rowR L i) i lb 0 j)])), some (.lst 1 (((rowR L i).ps).length) (fun j => [.int .i64 (((rowR L i).ps).getD j 0)]))]) 47 (hI.1 _ (row_mem (nb_f h2))) A rfl rfl rfl rfl fun A => N9 5 A rfl rfl fun A => LOOP1 (fun (k : Nat) => [(2, .str lb), (3, .ptr 1 0), (4, .ptr 2 0), (6, .str []), (7, .int .i64 0), (8, .ptr 3 0), (10, .str (nameR g (rowR L i).nm i.sz)), (11, .sl 4 ((rowR L i).ps.length) ((rowR L i).ps.length)), (47, .sl 5 ((rowR L i).ps.length) ((rowR L i).cp)), (48, .int .i64 (((rowR L i).ps.length : Nat) : Int)), (49, .int .i64 (k : Int))]) (fun (k : Nat) => [some (lQ9 L), some (.blk [.str g.r0, .str g.r1, .str g.r2, .str g.r3, .str g.r4, .str g.r5, .str g.r6, .str g.r7, .str g.l0, .str g.l1, .str g.l2, .str g.l3, .str g.im, .str g.f0, .str g.f1, .str g.f2, .sl 0 L.length c]), some (.blk (inQ9 i)), some (.blk (rwQ9 (rowR L i))), some (.row 9 1 ((rowR L i).ps.length) ((rowR L i).ps.length) (fun j => [.str (opA g (rowR L i) i lb k j)])), some (.lst 1 (((rowR L i).ps).length) (fun j => [.int .i64 (((rowR L i).ps).getD j 0)]))]) (fun (k : Nat) => k ≤ (rowR L i).ps.length) (fun (k : Nat) => (rowR L i).ps.length - k) 0 (Nat.zero_le _) ((A.cut [2, 3, 4, 6, 7, 8, 10, 11, 47, 48, 49] rfl).trunc 6 rfl rfl rfl (by simp only [List.length_cons, List.length_nil] at h0; omega)) fun k hI2 {G a w} A => N9 6 A rfl rfl fun A => forkD 50 A rfl
       (fun h8 A => N9 14 A rfl (ok_d (by have q1 := h.len (nb_f h2); omega) <| ok_d (by have q1 := h.len (nb_f h2); omega) <| okE_nil) fun A => N9 8 A rfl rfl fun A => I9 [0] Gl.ok hI.2 (opd_ g L c (rowR L i) (((rowR L i).ps).getD (((k : Int)).toNat) 0) i lb os hM hT h.lg h.im (h.p h1 (nb_f h2) ((k : Int)).toNat (by have := h8; omega)).1 (h.p h1 (nb_f h2) ((k : Int)).toNat (by have := h8; omega)).2.1 (h.p h1 (nb_f h2) ((k : Int)).toNat (by have := h8; omega)).2.2) A rfl fun A => N9 1 A rfl (ok_d (by have q1 := h.len (nb_f h2); omega) <| okE_nil) fun A => STR (i := 4) (e := 9) (s := 1) (m := (rowR L i).ps.length) (c := (rowR L i).ps.length) hX k (fun j => [.str (opA g (rowR L i) i lb (k + 1) j)]) A rfl rfl (Int.toNat_natCast k) (by omega) (fun z hz => by show [SV.str _] = [SV.str _]; rw [opA_ne hz]) (by show _ = some [SV.str _]; rw [opA_at (by omega)]; rfl) fun A => N9 7 A rfl (ok_d (by have q1 := h.len (nb_f h2); omega) <| okE_nil) fun A => ⟨k + 1, _, (by omega), (by show k + 1 ≤ _; omega), ((A.cut [2, 3, 4, 6, 7, 8, 10, 11, 47, 48, 49] rfl).trunc 6 rfl rfl rfl (by simp only [List.length_cons, List.length_nil] at h0; omega))⟩)
       (fun h8 A => N9 8 A rfl (ok_d (by have q1 := h.nl; have q2 := h.jl; (try simp only [List.length_append, List.length_cons, List.length_nil]); omega) <| okE_nil) fun A => have A := A.freeze 4 rfl; C9 [4] (join_r (opsT g (rowR L i) i lb) ((rowR L i).ps.length) (fun j => [.str (opA g (rowR L i) i lb k j)]) (by unfold opsT; rw [List.length_map]) (fun j => by show [SV.str _] = [SV.str _]; rw [opA_end _ _ _ _ _ _ (by have := hI2; omega)]) [44] (by omega) (h.len (nb_f h2)) h.jl) A rfl fun A => N9 6 A rfl (ok_d (by have q1 := h.nl; have q2 := h.jl; (try simp only [List.length_append, List.length_cons, List.length_nil]); omega) <| okE_nil) fun A => R9 A rfl h0 rfl (by unfold prP; rw [if_neg (show ¬ wrongI i = true from fun z => Bool.noConfusion (h1.symm.trans z)), if_neg (show ¬ rowQ L i = false by rw [nb_f h2]; decide), if_neg (show ¬ (i.op = 9 ∧ oneN lb = false) from fun z => h3 z.1), if_neg (show ¬ (rowR L i).ps.length = 0 by omega)]; rfl) rfl)))))
def n1 (ws : List Tk) (k : Nat) (z : Ps) : Ps := if (k : Int) > 0 then z.wa (mkA ws z.as [44]) else z
def nxR (g : Lg) (ws : List Tk) (k : Nat) (R : List Rw) (z : Ps) : List Rw := lft g k (ws.getD (n1 ws k z).p tok0) R
def nxS (g : Lg) (ws : List Tk) (k : Nat) (R : List Rw) (z : Ps) : Ps := if (((nxR g ws k R z).length : Nat) : Int) > 0 then ptS g ws (((nxR g ws k R z).getD (0 : Int).toNat Rw.z).ps.getD k 0) (beS g ws k R (n1 ws k z)) else beS g ws k R (n1 ws k z)
def goB (R : List Rw) (k : Nat) : Bool := (decide (((R.length : Nat) : Int) > 0)) && (decide ((k : Int) < (((R.getD (0 : Int).toNat Rw.z).ps.length : Nat) : Int)))
def inst (g : Lg) (ws : List Tk) : Nat → Nat → List Rw → Ps → Ps × List Rw
 | 0, k, R, z => (z, R)
 | f + 1, k, R, z => if goB R k = true then inst g ws f (k + 1) (nxR g ws k R z) (nxS g ws k R z) else (z, R)
structure InI (g : Lg) (ws : List Tk) (L : List Rw) (N0 : Nat) (res : Ps × List Rw) (k : Nat) (z : Ps) (R : List Rw) : Prop where
 le : z.p ≤ ws.length
 sub : ∀ r ∈ R, r ∈ L
 n : ∀ r ∈ R, r.ps.length = N0
 ln : R.length ≤ 100000
 rn : ∃ f, inst g ws f k R z = res ∧ N0 < f + k
section
variable {g : Lg} {ws : List Tk} {L R : List Rw} {N0 k : Nat} {res : Ps × List Rw} {z : Ps} {w : World} {ks : List Nat}
theorem goB_and (h : goB R k = true) : 0 < R.length ∧ k < (R.getD 0 Rw.z).ps.length := by
 unfold goB at h; rw [Bool.and_eq_true, decide_eq_true_eq, decide_eq_true_eq] at h
 have e : (0 : Int).toNat = 0 := rfl
 rw [e] at h; omega
theorem r0_mem (h : 0 < R.length) : R.getD 0 Rw.z ∈ R := by rw [List.getD_eq_getElem?_getD, List.getElem?_eq_getElem h]; exact List.getElem_mem h
theorem InI.lt (hN : InI g ws L N0 res k z R) (h : goB R k = true) : k < N0 := by
 have h2 := goB_and h
 rw [hN.n _ (r0_mem h2.1)] at h2; exact h2.2
end
theorem clone_ (ws : List Tk) (c : Nat) (hn : ws.length ≤ 1000000) : Fn Tryz.prog 244 [.sl 0 ws.length c] [some (wQ9 ws)] (Rt (.sl 1 ws.length 0) [some (wQ9 ws), some (.row 134 4 ws.length 0 (fun zz => tkc (ws.getD zz tok0)))]) :=
 enterM (n := 8) (by kernel_rfl) Tryz.func244 rfl rfl rfl fun G w a h0 A => N9 9 A rfl rfl fun A => NILL hX A rfl rfl (fun h1 {G a w} A => N9 9 A rfl rfl fun A => have A := A.nilRow 2 134 4 (fun zz => tkc (ws.getD zz tok0)) rfl (fun z => ⟨_, rfl, rfl⟩); have A := A.rowAs 1 ws.length (fun zz => tkc (ws.getD zz tok0)) rfl h1 (fun _ _ => rfl) (fun z => ⟨_, rfl, rfl⟩); have A := A.say 2 (.sl 1 ws.length 0) rfl (by rw [h1] <;> rfl); RET hX [1] A ⟨rfl, rfl⟩ rfl rfl rfl rfl rfl rfl rfl rfl h0) (fun {G a w} A => N9 9 A rfl rfl fun A => APPL hX ws.length (fun zz => tkc (ws.getD zz tok0)) A rfl rfl rfl rfl (Nat.le_refl _) (by omega) hn (by omega) (fun k hk => by omega) (fun k hk => by show tkc _ = tkc _; rw [Nat.zero_add]) (fun z => ⟨_, rfl, rfl⟩) (fun k hk => ⟨_, rfl, okE_nil⟩) fun A => N9 4 A rfl rfl fun A => RET hX [2] A ⟨rfl, rfl⟩ rfl rfl rfl rfl rfl rfl rfl rfl h0)

abbrev xothL (b1 b2 b3 b4 b5 b6 b7 b8 b9 b10 : Nat) : List (Nat × List SV) := [(b10, [.str [77, 79, 86], .str [], .int .i64 1, .z9, .z9, .z9, .z9, .z9, .z9, .z9, .z9, .z9, .ff, .ff, .ff, .z9, .z9, .z9, .ff, .sla (some ⟨b1, 0, none⟩) 2 2, .str [77, 79, 86], .str [], .int .i64 2, .z9, .z9, .z9, .z9, .z9, .z9, .z9, .z9, .z9, .ff, .ff, .ff, .z9, .z9, .z9, .ff, .sla (some ⟨b2, 0, none⟩) 2 2, .str [77, 79, 86, 42], .str [], .int .i64 4, .z9, .z9, .z9, .z9, .z9, .z9, .z9, .z9, .z9, .ff, .ff, .ff, .z9, .z9, .z9, .ff, .sla (some ⟨b3, 0, none⟩) 2 2, .str [77, 79, 86, 42], .str [], .int .i64 5, .z9, .z9, .z9, .z9, .z9, .z9, .z9, .z9, .z9, .ff, .ff, .ff, .z9, .z9, .z9, .ff, .sla (some ⟨b4, 0, none⟩) 2 2, .str [77, 79, 86, 42], .str [], .int .i64 5, .z9, .z9, .z9, .z9, .z9, .z9, .z9, .z9, .z9, .ff, .ff, .ff, .z9, .z9, .z9, .ff, .sla (some ⟨b5, 0, none⟩) 2 2, .str [88, 67, 72, 71, 42], .str [], .int .i64 6, .z9, .z9, .z9, .z9, .z9, .z9, .z9, .z9, .int .i64 6, .tt, .ff, .tt, .z9, .z9, .z9, .ff, .sla (some ⟨b6, 0, none⟩) 2 2, .str [88, 65, 68, 68, 42], .str [], .int .i64 6, .z9, .z9, .z9, .z9, .z9, .z9, .z9, .z9, .int .i64 1, .tt, .ff, .tt, .z9, .z9, .z9, .ff, .sla (some ⟨b7, 0, none⟩) 2 2, .str [77, 70, 69, 78, 67, 69], .str [], .int .i64 7, .z9, .z9, .z9, .z9, .z9, .z9, .z9, .z9, .z9, .ff, .ff, .ff, .int .i64 3, .int .i64 3, .z9, .ff, .sla none 0 0, .str [74, 90], .str [], .int .i64 9, .z9, .z9, .z9, .z9, .z9, .z9, .z9, .z9, .z9, .ff, .ff, .ff, .z9, .z9, .z9, .tt, .sla (some ⟨b8, 0, none⟩) 2 2, .str [74, 78, 90], .str [], .int .i64 9, .z9, .z9, .z9, .z9, .z9, .z9, .z9, .z9, .z9, .ff, .ff, .ff, .z9, .z9, .z9, .ff, .sla (some ⟨b9, 0, none⟩) 2 2]), (b9, [.int .i64 2, .int .i64 7]), (b8, [.int .i64 2, .int .i64 7]), (b7, [.int .i64 6, .int .i64 4]), (b6, [.int .i64 4, .int .i64 6]), (b5, [.int .i64 6, .int .i64 5]), (b4, [.int .i64 6, .int .i64 2]), (b3, [.int .i64 1, .int .i64 6]), (b2, [.int .i64 1, .int .i64 2]), (b1, [.int .i64 1, .int .i64 5])]
theorem xoth_ : FnR Tryz.prog 182 [] [] (fun x w w' => ∃ b1 b2 b3 b4 b5 b6 b7 b8 b9 b10 : Nat, x = .sla (some ⟨b10, 0, none⟩) 10 10 ∧ Acc w.heap.size (xothL b1 b2 b3 b4 b5 b6 b7 b8 b9 b10) w' []) :=
 enterR (n := 37) (by kernel_rfl) Tryz.func182 rfl rfl rfl fun G w a h0 A => have B := A; have hA : Acc w.heap.size [] w _ := Acc.nil; N9 29 A rfl rfl fun A => BSCA [.int .i64 1, .int .i64 5] (X := ⟨_, true⟩) hX B hA A rfl rfl rfl rfl fun b1 B hA A =>
 N9 2 A rfl rfl fun A => BSCA [.int .i64 1, .int .i64 2] (X := ⟨_, true⟩) hX B hA A rfl rfl rfl rfl fun b2 B hA A =>
 N9 2 A rfl rfl fun A => BSCA [.int .i64 1, .int .i64 6] (X := ⟨_, true⟩) hX B hA A rfl rfl rfl rfl fun b3 B hA A =>
 N9 2 A rfl rfl fun A => BSCA [.int .i64 6, .int .i64 2] (X := ⟨_, true⟩) hX B hA A rfl rfl rfl rfl fun b4 B hA A =>
 N9 2 A rfl rfl fun A => BSCA [.int .i64 6, .int .i64 5] (X := ⟨_, true⟩) hX B hA A rfl rfl rfl rfl fun b5 B hA A =>
 N9 2 A rfl rfl fun A => BSCA [.int .i64 4, .int .i64 6] (X := ⟨_, true⟩) hX B hA A rfl rfl rfl rfl fun b6 B hA A =>
 N9 2 A rfl rfl fun A => BSCA [.int .i64 6, .int .i64 4] (X := ⟨_, true⟩) hX B hA A rfl rfl rfl rfl fun b7 B hA A =>
 N9 4 A rfl rfl fun A => BSCA [.int .i64 2, .int .i64 7] (X := ⟨_, true⟩) hX B hA A rfl rfl rfl rfl fun b8 B hA A =>
 N9 2 A rfl rfl fun A => BSCA [.int .i64 2, .int .i64 7] (X := ⟨_, true⟩) hX B hA A rfl rfl rfl rfl fun b9 B hA A =>
 N9 1 A rfl rfl fun A => BSCA [.str [77, 79, 86], .str [], .int .i64 1, .z9, .z9, .z9, .z9, .z9, .z9, .z9, .z9, .z9, .ff, .ff, .ff, .z9, .z9, .z9, .ff, .sla (some ⟨b1, 0, none⟩) 2 2, .str [77, 79, 86], .str [], .int .i64 2, .z9, .z9, .z9, .z9, .z9, .z9, .z9, .z9, .z9, .ff, .ff, .ff, .z9, .z9, .z9, .ff, .sla (some ⟨b2, 0, none⟩) 2 2, .str [77, 79, 86, 42], .str [], .int .i64 4, .z9, .z9, .z9, .z9, .z9, .z9, .z9, .z9, .z9, .ff, .ff, .ff, .z9, .z9, .z9, .ff, .sla (some ⟨b3, 0, none⟩) 2 2, .str [77, 79, 86, 42], .str [], .int .i64 5, .z9, .z9, .z9, .z9, .z9, .z9, .z9, .z9, .z9, .ff, .ff, .ff, .z9, .z9, .z9, .ff, .sla (some ⟨b4, 0, none⟩) 2 2, .str [77, 79, 86, 42], .str [], .int .i64 5, .z9, .z9, .z9, .z9, .z9, .z9, .z9, .z9, .z9, .ff, .ff, .ff, .z9, .z9, .z9, .ff, .sla (some ⟨b5, 0, none⟩) 2 2, .str [88, 67, 72, 71, 42], .str [], .int .i64 6, .z9, .z9, .z9, .z9, .z9, .z9, .z9, .z9, .int .i64 6, .tt, .ff, .tt, .z9, .z9, .z9, .ff, .sla (some ⟨b6, 0, none⟩) 2 2, .str [88, 65, 68, 68, 42], .str [], .int .i64 6, .z9, .z9, .z9, .z9, .z9, .z9, .z9, .z9, .int .i64 1, .tt, .ff, .tt, .z9, .z9, .z9, .ff, .sla (some ⟨b7, 0, none⟩) 2 2, .str [77, 70, 69, 78, 67, 69], .str [], .int .i64 7, .z9, .z9, .z9, .z9, .z9, .z9, .z9, .z9, .z9, .ff, .ff, .ff, .int .i64 3, .int .i64 3, .z9, .ff, .sla none 0 0, .str [74, 90], .str [], .int .i64 9, .z9, .z9, .z9, .z9, .z9, .z9, .z9, .z9, .z9, .ff, .ff, .ff, .z9, .z9, .z9, .tt, .sla (some ⟨b8, 0, none⟩) 2 2, .str [74, 78, 90], .str [], .int .i64 9, .z9, .z9, .z9, .z9, .z9, .z9, .z9, .z9, .z9, .ff, .ff, .ff, .z9, .z9, .z9, .ff, .sla (some ⟨b9, 0, none⟩) 2 2] (X := ⟨_, true⟩) hX B hA A rfl rfl rfl rfl fun b10 B hA A =>
 N9 4 A rfl rfl fun A => RETR (J := fun x w w' => ∃ b1 b2 b3 b4 b5 b6 b7 b8 b9 b10 : Nat, x = .sla (some ⟨b10, 0, none⟩) 10 10 ∧ Acc w.heap.size (xothL b1 b2 b3 b4 b5 b6 b7 b8 b9 b10) w' []) hX (B.trans A) (fun i e he => nil_no he) rfl rfl rfl rfl ⟨b1, b2, b3, b4, b5, b6, b7, b8, b9, b10, rfl, (hA.now A).bare⟩
abbrev nz : List UInt8 × Int := ([], 0)
def nfc (x : List UInt8 × Int) : List SV := [.str x.1, .int .i64 x.2]
def x5 : List (List UInt8 × Int) := [([65, 68, 68], 1), ([83, 85, 66], 2), ([88, 79, 82], 3), ([65, 78, 68], 4), ([79, 82], 5)]
theorem tyN : (∀ x, (nfc x).length = 2) ∧ (∀ x, inL 0 (nfc x) = true) ∧ (∀ x, ∃ vs, denL [] (nfc x) = some vs) := ⟨fun _ => rfl, fun _ => rfl, fun _ => ⟨_, rfl⟩⟩
theorem tyR : (∀ x, (rwc x).length = 20) ∧ (∀ x, inL 0 (rwc x) = true) ∧ (∀ x, ∃ vs, denL [] (rwc x) = some vs) := ⟨fun _ => rfl, fun _ => rfl, fun _ => ⟨_, rfl⟩⟩
def tm (r : Rw) : List UInt8 × List UInt8 × In × List Int := (r.nm, r.wd, r.ins, r.ps)
def RowsIn (lo : Nat) (L : List Rw) : Amb := fun w ks => ∀ r ∈ L, LiesAt r.pa r.ps w ks ∧ ∀ q, r.pa = some q → lo ≤ q.block
theorem RowsIn.ok {lo : Nat} {L : List Rw} : Amb.OK (RowsIn lo L) := fun w ks w' ks' h m hk r hr => ⟨(h r hr).1.go m hk, (h r hr).2⟩
def insF (op fn : Int) : In := ⟨op, 0, 0, 0, 0, 0, 0, 0, 0, fn, false, false, false, 0, 0, 0, false⟩
abbrev xr1 (x : List UInt8 × Int) (b1 : Nat) : Rw := ⟨x.1, [], insF 3 x.2, some ⟨b1, 0, none⟩, [4, 3], 2⟩
abbrev xr2 (x : List UInt8 × Int) (b2 : Nat) : Rw := ⟨x.1, [], insF 3 x.2, some ⟨b2, 0, none⟩, [4, 5], 2⟩
def xcomp : List (List UInt8 × List UInt8 × In × List Int) := x5.flatMap fun x => [(x.1, [], insF 3 x.2, [4, 3]), (x.1, [], insF 3 x.2, [4, 5])]
structure XC (lo : Nat) (z : List Rw × Nat) (w : World) (ks : List Nat) : Prop where
 le : z.2 ≤ 5
 tm : z.1.map tm = xcomp.take (2 * z.2)
 rw : RowsIn lo z.1 w ks
theorem XC.len {lo : Nat} {z : List Rw × Nat} {w : World} {ks : List Nat} (h : XC lo z w ks) : z.1.length = 2 * z.2 := by
 have h1 := congrArg List.length h.tm
 rw [List.length_map, List.length_take] at h1
 have h2 : xcomp.length = 10 := by decide
 have := h.le
 omega
theorem lies_of {lo b : Nat} {cs : List SV} {l : List (Nat × List SV)} {w : World} {ks : List Nat} (ps : List Int) (h : Acc lo l w ks) (hm : (b, ps.map (SV.int .i64 ·)) ∈ l) : LiesAt (some ⟨b, 0, none⟩) ps w ks ∧ ∀ q, (some (⟨b, 0, none⟩ : Addr)) = some q → lo ≤ q.block := by
 obtain ⟨h1, vs, h2, h3, h4, h5⟩ := h _ hm
 have : ∀ ps : List Int, denL [] (ps.map (SV.int .i64 ·)) = some (ps.map (Value.int .i64)) := by
  intro ps
  induction ps with
  | nil => rfl
  | cons p ps ih => rw [List.map_cons]; unfold denL; rw [ih]; rfl
 rw [this] at h2
 cases h2
 exact ⟨.inr ⟨b, rfl, h3, h4, h5⟩, fun q hq => by cases hq; exact h1⟩
theorem XC.nx {lo b1 b2 : Nat} {z : List Rw × Nat} {w w1 : World} {ks ks1 : List Nat} {l : List (Nat × List SV)} (h : XC lo z w ks) (hk : (z.2 : Int) < 5) (hr : RowsIn lo z.1 w1 ks1) (hA : Acc lo [(b2, [.int .i64 4, .int .i64 5]), (b1, [.int .i64 4, .int .i64 3])] w1 ks1) : XC lo (z.1 ++ [xr1 (x5.getD ((z.2 : Int)).toNat nz) b1, xr2 (x5.getD ((z.2 : Int)).toNat nz) b2], z.2 + 1) w1 ks1 := by
 refine ⟨by have := h.le; show z.2 + 1 ≤ 5; omega, ?_, fun r hr' => ?_⟩
 ·show List.map _ (z.1 ++ _) = _
  rw [List.map_append, h.tm, Int.toNat_natCast]
  have : z.2 = 0 ∨ z.2 = 1 ∨ z.2 = 2 ∨ z.2 = 3 ∨ z.2 = 4 := by omega
  rcases this with e | e | e | e | e <;> rw [e] <;> rfl
 ·rcases List.mem_append.1 hr' with h1 | h1
  ·exact hr r h1
  ·simp only [List.mem_cons, List.mem_nil_iff, or_false] at h1
   rcases h1 with rfl | rfl
   ·exact lies_of (cs := []) [4, 3] hA (List.mem_cons_of_mem _ (List.mem_cons_self))
   ·exact lies_of (cs := []) [4, 5] hA (List.mem_cons_self)
theorem xcomp_ : FnR Tryz.prog 181 [] [] (fun x w w' => ∃ (L : List Rw) (b cp : Nat), x = .sla (some ⟨b, 0, none⟩) 10 cp ∧ (L.map tm = xcomp ∧ RowsIn w.heap.size L w' [b]) ∧ w.heap.size ≤ b ∧ Given 203 20 10 (fun zz => rwc (L.getD zz Rw.z)) b cp w') :=
 enterR (n := 36) (by kernel_rfl) Tryz.func181 rfl rfl rfl fun G w a h0 A => N9 13 A rfl rfl fun A => have A := A.asT nz nfc 2 tyN.1 tyN.2.1 tyN.2.2 x5 0 rfl; N9 17 A rfl rfl fun A => have A := A.nilRow 2 203 20 (fun zz => rwc (([] : List Rw).getD zz Rw.z)) rfl (fun z => ⟨_, rfl, rfl⟩); LOOPJ (fun (z : List Rw × Nat) => [(0, .sla none 0 0), (2, .sl 1 z.1.length 0), (12, .sl 0 5 5), (13, .int .i64 ((5 : Nat) : Int)), (14, .int .i64 (z.2 : Int))]) (fun (z : List Rw × Nat) => [some (.lst 2 5 (fun zz => nfc (x5.getD zz nz))), some (.row 203 20 z.1.length 0 (fun zz => rwc (z.1.getD zz Rw.z)))]) (fun z w1 ks1 => XC w.heap.size z w1 ks1) (fun z => 5 - z.2) ([], 0) (A.cut [0, 2, 12, 13, 14] rfl) ⟨by decide, rfl, fun r hr => by cases hr⟩ fun z G1 a1 w1 hJ hg A B => have hA : Acc w.heap.size [] w1 _ := Acc.nil; have hR := hJ.rw;
 N9 6 A rfl rfl fun A => forkD 15 A rfl
   (fun h1 A => N9 14 A rfl (ok_d (by omega) <| ok_d (by omega) <| okE_nil) fun A => N9 4 A rfl rfl fun A => have A := sy_sayD A 20 (.agg [.int .i64 3, .z9, .z9, .z9, .z9, .z9, .z9, .z9, .z9, .int .i64 ((x5.getD (((z.2 : Int)).toNat) nz).2), .bool false, .bool false, .bool false, .z9, .z9, .z9, .bool false]) rfl (fun _ => rfl); N9 9 A rfl rfl fun A => BSCI [.int .i64 4, .int .i64 3] (X := ⟨_, true⟩) hX RowsIn.ok B hA hR A rfl rfl rfl rfl fun b1 B hA hR A =>
 N9 4 A rfl rfl fun A => BSCI [.int .i64 4, .int .i64 5] (X := ⟨_, true⟩) hX RowsIn.ok B hA hR A rfl rfl rfl rfl fun b2 B hA hR A =>
 N9 2 A rfl rfl fun A => have A := A.asT Rw.z rwc 20 tyR.1 tyR.2.1 tyR.2.2 [xr1 (x5.getD (((z.2 : Int)).toNat) nz) b1, xr2 (x5.getD (((z.2 : Int)).toNat) nz) b2] 4 rfl; q_eff A rfl (aplE hX ((z.1 ++ [xr1 (x5.getD (((z.2 : Int)).toNat) nz) b1, xr2 (x5.getD (((z.2 : Int)).toNat) nz) b2]).length) (fun zz => rwc ((z.1 ++ [xr1 (x5.getD (((z.2 : Int)).toNat) nz) b1, xr2 (x5.getD (((z.2 : Int)).toNat) nz) b2]).getD zz Rw.z)) rfl rfl rfl rfl (Nat.le_refl _) (by have := hJ.len; have := hJ.le; omega) (by decide) List.length_append (fun k hk => by show rwc _ = rwc _; rw [getD_app_l hk]) (fun k hk => by show rwc _ = rwc _; rw [getD_app_r]) (fun z => ⟨_, rfl, rfl⟩) (fun k hk => ⟨_, rfl, okE_nil⟩)) fun A =>
 N9 8 A rfl (ok_d (by omega) <| okE_nil) fun A => ⟨(z.1 ++ [xr1 (x5.getD (((z.2 : Int)).toNat) nz) b1, xr2 (x5.getD (((z.2 : Int)).toNat) nz) b2], z.2 + 1), _, (by have := h1; show _ - _ < _ - _; omega), (hJ.nx (l := []) h1 (RowsIn.ok _ _ _ _ hR A.mix fun b hb => A.keys_own b ((keys_pick (H := [some (.lst 2 5 (fun zz => nfc (x5.getD zz nz))), none, some (.blk [.str ((x5.getD (((z.2 : Int)).toNat) nz).1), .int .i64 ((x5.getD (((z.2 : Int)).toNat) nz).2)]), some (.blk [.int .i64 3, .z9, .z9, .z9, .z9, .z9, .z9, .z9, .z9, .int .i64 ((x5.getD (((z.2 : Int)).toNat) nz).2), .bool false, .bool false, .bool false, .z9, .z9, .z9, .bool false]), some (.lst 20 ([xr1 (x5.getD (((z.2 : Int)).toNat) nz) b1, xr2 (x5.getD (((z.2 : Int)).toNat) nz) b2].length) (fun zz => rwc ([xr1 (x5.getD (((z.2 : Int)).toNat) nz) b1, xr2 (x5.getD (((z.2 : Int)).toNat) nz) b2].getD zz Rw.z))), some (.row 203 20 ((z.1 ++ [xr1 (x5.getD (((z.2 : Int)).toNat) nz) b1, xr2 (x5.getD (((z.2 : Int)).toNat) nz) b2]).length) 0 (fun zz => rwc ((z.1 ++ [xr1 (x5.getD (((z.2 : Int)).toNat) nz) b1, xr2 (x5.getD (((z.2 : Int)).toNat) nz) b2]).getD zz Rw.z)))]) (m := [0, 5]) A.mem.len rfl rfl) b hb)) (hA.go A.mix fun b hb => A.keys_own b ((keys_pick (H := [some (.lst 2 5 (fun zz => nfc (x5.getD zz nz))), none, some (.blk [.str ((x5.getD (((z.2 : Int)).toNat) nz).1), .int .i64 ((x5.getD (((z.2 : Int)).toNat) nz).2)]), some (.blk [.int .i64 3, .z9, .z9, .z9, .z9, .z9, .z9, .z9, .z9, .int .i64 ((x5.getD (((z.2 : Int)).toNat) nz).2), .bool false, .bool false, .bool false, .z9, .z9, .z9, .bool false]), some (.lst 20 ([xr1 (x5.getD (((z.2 : Int)).toNat) nz) b1, xr2 (x5.getD (((z.2 : Int)).toNat) nz) b2].length) (fun zz => rwc ([xr1 (x5.getD (((z.2 : Int)).toNat) nz) b1, xr2 (x5.getD (((z.2 : Int)).toNat) nz) b2].getD zz Rw.z))), some (.row 203 20 ((z.1 ++ [xr1 (x5.getD (((z.2 : Int)).toNat) nz) b1, xr2 (x5.getD (((z.2 : Int)).toNat) nz) b2]).length) 0 (fun zz => rwc ((z.1 ++ [xr1 (x5.getD (((z.2 : Int)).toNat) nz) b1, xr2 (x5.getD (((z.2 : Int)).toNat) nz) b2]).getD zz Rw.z)))]) (m := [0, 5]) A.mem.len rfl rfl) b hb))), ((B.trans A).cut [0, 2, 12, 13, 14] rfl).mv 0 [0, 5] rfl rfl rfl rfl (by simp only [List.length_nil] at h0; omega)⟩)
   (fun h1 A => N9 10 A rfl rfl fun A => (have e5 : z.2 = 5 := (by have := hJ.le; omega); have e : z.1.length = 10 := (by have := hJ.len; omega); match A.giveRow 1 0 (by omega) rfl rfl rfl with | ⟨b, cp, A2, hG, ho, hk⟩ => RETR (J := fun x w w' => ∃ (L : List Rw) (b cp : Nat), x = .sla (some ⟨b, 0, none⟩) 10 cp ∧ (L.map tm = xcomp ∧ RowsIn w.heap.size L w' [b]) ∧ w.heap.size ≤ b ∧ Given 203 20 10 (fun zz => rwc (L.getD zz Rw.z)) b cp w') hX (B.trans A2) (fun i e he => nil_no he) rfl rfl rfl rfl ⟨z.1, b, cp, (by show SV.sla _ z.1.length cp = _; rw [e]), ⟨(by have h2 := hJ.tm; rw [e5] at h2; exact h2), (RowsIn.ok _ _ _ _ hJ.rw A.mix fun b2 hb => by have : b2 = b := (by simpa using hb); rw [this]; exact ho)⟩, lo_of B (fun i e he => nil_no he) ho, (by rw [← e]; exact hG)⟩))
end Go.Proofs.YtbbdanhpphlbpaaGreatDoor
