/- CorePlays, part 4: the engine, contracts, theory. -/
import Derived.Test.YtjkppaijicjpoaaGreatDoorCorePlaysP3
import Derived.Shelf.Strconv.AppendIntPublic10
import Derived.Lib.SlBytesRow
import Derived.Lib.ItoaLen
import Derived.Shelf.Small.Strs
import Derived.Shelf.Strings.Search3
import Derived.Lib.IndexMore
import Derived.Shelf.Pu.ParseUintPublic10
import Derived.Ground.MpProg
import Derived.Shelf.Strconv.Itoa3
import Derived.Shelf.Strings.Replace
import Derived.Shelf.Strings.Cut
import Derived.Shelf.Strings.OnBuilder
namespace Go.Proofs.YtjkppaijicjpoaaGreatDoor.Mc
open Go.RowKit
set_option linter.unusedVariables false
set_option linter.unusedSimpArgs false
set_option maxRecDepth 100000
set_option maxHeartbeats 2000000
set_option simprocs false
def ThJ (L : Loc) (l : List In) (ao : Option Addr) (cp : Nat) (s : Th) (pb : Option (Nat × Nat)) : SV → World → World → Prop := fun _ w w' => ∃ pb' ps', OutT L (thC (.sla ao l.length cp) s.r ((s.at_ : Nat) : Int)) pb' ps' w' ∧ ps'.length ≤ s.at_ ∧ ∀ b, (pbB pb').contains b = true → (L.b :: pbB pb).contains b = true ∨ w.heap.size ≤ b
theorem thJ_of {L : Loc} {l : List In} {ao : Option Addr} {cp : Nat} {s z : Th} {pb : Option (Nat × Nat)} {ps' : List Int} {x : SV} {w w' : World} (h : ∃ pb', OutT L (thC (.sla ao l.length cp) z.r ((z.at_ : Nat) : Int)) pb' ps' w' ∧ ∀ b, (pbB pb').contains b = true → (L.b :: pbB pb).contains b = true ∨ w.heap.size ≤ b) (e : s = z) (hl : ps'.length ≤ z.at_) : ThJ L l ao cp s pb x w w' := by
 subst e; obtain ⟨pb', h1, h2⟩ := h; exact ⟨pb', ps', h1, hl, h2⟩
theorem stH_same {H : Hp} {i : Nat} {e : Option Ent} (h : lg H i = some e) : stH H i e = H := by
 rw [lg_is] at h
 rw [stH_is]
 apply List.ext_getElem?
 intro j
 by_cases hj : j = i
 ·subst hj; rw [List.getElem?_set_self (List.getElem?_eq_some_iff.1 h).1, h]
 ·rw [List.getElem?_set_ne (Ne.symm hj)]
section
variable {n : Nat} {ks : List Nat} {G0 : Gr} {w0 : World} {T : List (Nat × SV)} {H : Hp} {G : Gr} {a : Act} {w : World}
theorem _root_.Go.Proofs.YtjkppaijicjpoaaGreatDoor.Sy.thSay (A : Sy n T H ks G0 w0 G a w) (i q : Nat) {c : SV} {r r' : Rg} {at_ at' : Int} {m m' : Nat} {ps : List Int} {H' : Hp} (hi : lg H i = some (some (.blk (thS c r at_ (.sl q m 0))))) (hq : lg H q = some (some (.row 3 1 m 0 (nmF ps)))) (hr : r' = r) (ha : at' = at_) (hm : m' = m) (hH : stH (stH H q (some (.row 3 1 m' 0 (nmF ps)))) i (some (.blk (thS c r' at' (.sl q m' 0)))) = H') : Sy n T H' ks G0 w0 G a w := by
 subst hr; subst ha; subst hm
 rw [stH_same hq, stH_same hi] at hH
 subst hH
 exact A
theorem _root_.Go.Proofs.YtjkppaijicjpoaaGreatDoor.Sy.at_pre (A : Sy n T H ks G0 w0 G a w) {i : Nat} {L : Loc} (h : G0[i]? = some (some L)) : G[i]? = some (some L) := by
 obtain ⟨F, hF⟩ := A.pre
 rw [hF, List.getElem?_append_left (List.getElem?_eq_some_iff.1 h).1]; exact h
end
abbrev gZ8 (l : List In) (z : Th) : In := l.getD (((z.at_ : Nat) : Int)).toNat In.z
theorem nxE {l : List In} {z : Th} (hc : RCd l) (hlt : z.at_ < l.length) {R : Rg} {A : Int} (hR : cpR z.r (gZ8 l z) = R) (hA : cpA ((z.at_ : Nat) : Int) z.r (gZ8 l z) = A) : (nxT l z).r = R ∧ (((nxT l z).at_ : Nat) : Int) = A := by
 have hr := cpA_rng (z := z) hc hlt
 have hA' : cpA ((z.at_ : Nat) : Int) z.r (l.getD z.at_ In.z) = A := hA
 refine ⟨hR, ?_⟩
 show (((cpA ((z.at_ : Nat) : Int) z.r (l.getD z.at_ In.z)).toNat : Nat) : Int) = A
 omega
structure PI (l : List In) (s z : Th) (ps : List Int) : Prop where
 si : SI l s z
 pl : ps.length ≤ z.at_
theorem PI.nx {l : List In} {s z : Th} {ps : List Int} (h : PI l s z ps) (hc : RCd l) (hlt : z.at_ < l.length) (hst : stpI (gZ8 l z) = false) (x : Int) : PI l s (nxT l z) (ps ++ [x]) ∧ l.length - (nxT l z).at_ < l.length - z.at_ := by
 have h1 := h.si.nx hc (by omega) (by rw [hst]; rfl)
 have h2 := h.pl
 exact ⟨⟨h1.1, by rw [List.length_append]; show ps.length + 1 ≤ _; omega⟩, h1.2⟩
theorem tPlain_ (l : List In) (ao : Option Addr) (cp : Nat) (s : Th) (L : Loc) (pb : Option (Nat × Nat)) (ps : List Int) (hc : RCd l) (hat : s.at_ ≤ l.length) (hps : ps.length ≤ s.at_) : FnW Tryz.prog 10 [.v (.pointer (some ⟨L.b, L.pre.length, none⟩))] [] (L.b :: pbB pb) (fun w => OutT L (thC (.sla ao l.length cp) s.r ((s.at_ : Nat) : Int)) pb ps w ∧ CdAt ao l w (L.b :: pbB pb)) (ThJ L l ao cp (setl l s) pb) :=
 enterW (n := 133) (by kernel_rfl) Tryz.func10 rfl rfl rfl (fun i e h => by rw [List.getElem?_nil] at h; cases h) fun G w a h0 ho hp A => TAKET 0 A hp.1 rfl rfl fun A hG1 hky => have B := A; have A := B.base; have h0 := B.mem.len; have hI := LstAt.ok _ _ _ _ hp.2 (Mix.refl _ _) hky; MOVET 1 0 (cs := thC (.sla ao l.length cp) s.r ((s.at_ : Nat) : Int)) (H' := [none, some (.blk (thS (.sla ao l.length cp) s.r ((s.at_ : Nat) : Int) (.sl 2 ps.length 0))), some (.row 3 1 ps.length 0 (nmF ps))]) A rfl rfl rfl rfl fun A => N9 7 A rfl rfl fun A => LOOP2 (fun (z : Th) (ps1 : List Int) => [(0, .ptr 1 0), (2, .ff)]) (fun (z : Th) (ps1 : List Int) => [none, some (.blk (thS (.sla ao l.length cp) z.r ((z.at_ : Nat) : Int) (.sl 2 ps1.length 0))), some (.row 3 1 ps1.length 0 (nmF ps1))]) (fun (z : Th) (ps1 : List Int) => PI l s z ps1) (fun (z : Th) (ps1 : List Int) => l.length - z.at_) s ps ⟨SI.i0 hat, hps⟩ ((A.cut [0, 2] rfl).trunc 3 rfl rfl rfl (by simp only [List.length_cons, List.length_nil] at h0; omega)) fun z ps1 hJ {G a w} A => N9 2 A rfl rfl fun A => DRAWN hX hmo [] [] A rfl rfl rfl rfl (by kernel_rfl) (effAll_nil _ _) trivial fun A => N9 1 A rfl rfl fun A => forkD 14 A rfl
   (fun h1 A => N9 5 A rfl rfl fun A => have hlt : z.at_ < l.length := (by omega); have hs : Snd (gZ8 l z) := hc.snd hlt; have hn := hc.n; have hpl := hJ.pl; ANY hmo [.ptr 1 0, .ptr 1 0, .ptr 1 0, .sla ao l.length cp, .ptr 1 0, .ptr 1 0, .ptr 1 9, .int .i64 ((z.at_ : Nat) : Int), .v (.pointer (adJ ao 17 ((z.at_ : Nat) : Int))), .agg (inQ9 (gZ8 l z)), .ptr 3 0, .tup []] [10, 11] [3] 1 [([], [3], [none, some (.blk (thS (.sla ao l.length cp) z.r ((z.at_ : Nat) : Int) (.sl 2 ps1.length 0))), some (.row 3 1 ps1.length 0 (nmF ps1)), none]), ([10], [], [none, some (.blk (thS (.sla ao l.length cp) z.r ((z.at_ : Nat) : Int) (.sl 2 ps1.length 0))), some (.row 3 1 ps1.length 0 (nmF ps1)), some (.blk [.z9, .z9, .z9, .z9, .z9, .z9, .z9, .z9, .z9, .z9, .ff, .ff, .ff, .z9, .z9, .z9, .ff])]), ([10, 11], [], [none, some (.blk (thS (.sla ao l.length cp) z.r ((z.at_ : Nat) : Int) (.sl 2 ps1.length 0))), some (.row 3 1 ps1.length 0 (nmF ps1)), some (.blk (inQ9 (gZ8 l z)))])] [[true, true, true, true, true, true, true, true, true, true, true, false], [true, true, true, true, true, true, true, true, true, true, false, true], [false, false, false, false, false, false, false, false, false, false, false, false]] A rfl rfl rfl rfl (by kernel_rfl) rfl (by kernel_rfl) ⟨⟨oV9 0 rfl rfl, ⟨oV9 0 rfl rfl, ⟨oV9 0 rfl rfl, ⟨oV9 0 rfl rfl, ⟨oV9 0 rfl rfl, ⟨oV9 0 rfl rfl, ⟨oV9 0 rfl rfl, ⟨oV9 0 rfl rfl, ⟨oE9 0 rfl (ixcE (e := 56) rfl rfl rfl rfl hI (by kernel_rfl) (by omega)), ⟨oE9 0 rfl (ldcE (insS (gZ8 l z)) hX rfl rfl rfl hI (by omega) rfl rfl), ⟨⟨_, _, _, _, 1, rfl, rfl, rfl, rfl, new_at 3 (X := ⟨_, true⟩) hX rfl rfl (le0 h0 rfl) rfl rfl rfl rfl⟩, trivial⟩⟩⟩⟩⟩⟩⟩⟩⟩⟩⟩, ⟨⟨oV9 1 rfl rfl, ⟨oV9 1 rfl rfl, ⟨oV9 1 rfl rfl, ⟨oV9 1 rfl rfl, ⟨oV9 1 rfl rfl, ⟨oV9 1 rfl rfl, ⟨oV9 1 rfl rfl, ⟨oV9 1 rfl rfl, ⟨oE9 1 rfl (ixcE (e := 56) rfl rfl rfl rfl hI (by kernel_rfl) (by omega)), ⟨oE9 1 rfl (ldcE (insS (gZ8 l z)) hX rfl rfl rfl hI (by omega) rfl rfl), ⟨oE9 2 rfl (eff_auto (X := ⟨_, true⟩) (out := .upd 3 (inQ9 (gZ8 l z)) _) hX rfl rfl), trivial⟩⟩⟩⟩⟩⟩⟩⟩⟩⟩⟩, ⟨trivial, trivial⟩⟩⟩ fun A => N9 5 A rfl rfl fun A => C9 [] (rMem_ (gZ8 l z)) A rfl fun A => N9 12 A rfl rfl fun A => fork 36 A rfl
    (fun h2 A => N9 7 A rfl rfl fun A => RETW hX (B.trans A) rfl rfl rfl rfl (thJ_of (Sy.giveT (B.trans A) 1 2 (A.at_pre hG1) rfl rfl rfl rfl) (hJ.si.fin (fun q => by rw [show stpI (l.getD z.at_ In.z) = true from h2] at q; cases q.2)) hJ.pl))
    (fun h2 A => N9 4 A rfl rfl fun A => DRAWN hX hmo [] [(10, .sl 5 (ps1.length + 1) 0, [none, some (.blk (thS (.sla ao l.length cp) z.r ((z.at_ : Nat) : Int) (.sl 2 ps1.length 0))), none, some (.blk (inQ9 (gZ8 l z))), some (.blk [.int .i64 ((z.at_ : Nat) : Int)]), some (.row 3 1 (ps1.length + 1) 0 (nmF (ps1 ++ [((z.at_ : Nat) : Int)])))])] A rfl rfl rfl rfl (by kernel_rfl) ⟨trivial, ⟨appE (i := 2) hX (ps1.length + 1) (nmF (ps1 ++ [((z.at_ : Nat) : Int)])) rfl rfl rfl rfl (by omega) rfl (fun k hk => by show [SV.int .i64 _] = [SV.int .i64 _]; rw [getD_app_l hk]) (by show [SV.int .i64 _] = _; rw [getD_app_1]) (fun z => ⟨_, rfl, rfl⟩), ⟨trivial, trivial⟩⟩⟩ trivial fun A => N9 14 A rfl (ok_d (by omega) <| okE_nil) fun A => N9 12 A rfl rfl fun A => forkE 59 A rfl
     (fun h3 A => N9 1 A rfl rfl fun A => DRAWN hX hmo [] [(8, .tup [], [none, some (.blk (thS (.sla ao l.length cp) (updR z.r ((gZ8 l z).dst).toNat ((gZ8 l z).imm)) (((z.at_ : Nat) : Int) + 1) (.sl 5 (ps1.length + 1) 0))), none, some (.blk (inQ9 (gZ8 l z))), some (.blk [.int .i64 ((z.at_ : Nat) : Int)]), some (.row 3 1 (ps1.length + 1) 0 (nmF (ps1 ++ [((z.at_ : Nat) : Int)])))])] A rfl (ok_d (by first | exact hs.d (by omega) | exact hs.a (by omega) | (have hb := hs.b (by omega); omega) | omega) <| okE_nil) rfl rfl (by kernel_rfl) ⟨sttE (i := 1) (r := z.r) hX rfl rfl rfl rfl rfl rfl rfl rfl (by first | exact hs.d (by omega) | exact hs.a (by omega) | (have hb := hs.b (by omega); omega) | omega), trivial⟩ trivial fun A => N9 2 A rfl rfl fun A => ⟨nxT l z, ps1 ++ [((z.at_ : Nat) : Int)], _, (hJ.nx hc hlt h2 ((z.at_ : Nat) : Int)).2, (hJ.nx hc hlt h2 ((z.at_ : Nat) : Int)).1, (((A.thSay 1 5 (r' := (nxT l z).r) (at' := (((nxT l z).at_ : Nat) : Int)) (m' := (ps1 ++ [((z.at_ : Nat) : Int)]).length) rfl rfl (nxE hc hlt (by unfold cpR; rw [if_pos h3]) (by unfold cpA; rw [if_neg (by omega)])).1 (nxE hc hlt (by unfold cpR; rw [if_pos h3]) (by unfold cpA; rw [if_neg (by omega)])).2 (by rw [List.length_append]; rfl) rfl).cut [0, 2] rfl).mv 2 [5] rfl rfl rfl rfl (by simp only [List.length_cons, List.length_nil] at h0; omega))⟩)
     (fun h3 A => N9 7 A rfl rfl fun A => forkE 69 A rfl
      (fun h4 A => N9 1 A rfl rfl fun A => ANY hmo [.ptr 1 0, .ptr 3 1, .int .i64 ((gZ8 l z).dst), .ptr 1 0, .ptr 3 2, .int .i64 ((gZ8 l z).ra), .ptr 1 0, .ptr 1 1, .ix (.ptr 1 1) 1 8 ((gZ8 l z).ra) 0, .int .i64 (z.r ((gZ8 l z).ra).toNat), .ptr 1 0, .ptr 1 1, .ix (.ptr 1 1) 1 8 ((gZ8 l z).dst) 0, .tup []] [13] [] 0 [([], [], [none, some (.blk (thS (.sla ao l.length cp) z.r (((z.at_ : Nat) : Int) + 1) (.sl 5 (ps1.length + 1) 0))), none, some (.blk (inQ9 (gZ8 l z))), some (.blk [.int .i64 ((z.at_ : Nat) : Int)]), some (.row 3 1 (ps1.length + 1) 0 (nmF (ps1 ++ [((z.at_ : Nat) : Int)])))]), ([13], [], [none, some (.blk (thS (.sla ao l.length cp) (updR z.r ((gZ8 l z).dst).toNat (z.r ((gZ8 l z).ra).toNat)) (((z.at_ : Nat) : Int) + 1) (.sl 5 (ps1.length + 1) 0))), none, some (.blk (inQ9 (gZ8 l z))), some (.blk [.int .i64 ((z.at_ : Nat) : Int)]), some (.row 3 1 (ps1.length + 1) 0 (nmF (ps1 ++ [((z.at_ : Nat) : Int)])))])] [[true, true, true, true, true, true, true, true, true, true, true, true, true, true], [false, false, false, false, false, false, false, false, false, false, true, true, false, false]] A rfl rfl rfl rfl (by kernel_rfl) rfl (by kernel_rfl) ⟨⟨oV9 0 rfl rfl, ⟨oV9 0 rfl rfl, ⟨oV9 0 rfl rfl, ⟨oV9 0 rfl rfl, ⟨oV9 0 rfl rfl, ⟨oV9 0 rfl rfl, ⟨oV9 0 rfl rfl, ⟨oV9 0 rfl rfl, ⟨oV9 0 rfl (ok_d (by first | exact hs.d (by omega) | exact hs.a (by omega) | (have hb := hs.b (by omega); omega) | omega) <| okE_nil), ⟨oE9 0 rfl (ldtE (r := z.r) hX rfl rfl rfl rfl rfl rfl rfl (by first | exact hs.d (by omega) | exact hs.a (by omega) | (have hb := hs.b (by omega); omega) | omega)), ⟨oV9 0 rfl rfl, ⟨oV9 0 rfl rfl, ⟨oV9 0 rfl (ok_d (by first | exact hs.d (by omega) | exact hs.a (by omega) | (have hb := hs.b (by omega); omega) | omega) <| okE_nil), ⟨oE9 1 rfl (sttE (i := 1) (r := z.r) hX rfl rfl rfl rfl rfl rfl rfl rfl (by first | exact hs.d (by omega) | exact hs.a (by omega) | (have hb := hs.b (by omega); omega) | omega)), trivial⟩⟩⟩⟩⟩⟩⟩⟩⟩⟩⟩⟩⟩⟩, ⟨⟨oV9 1 rfl rfl, ⟨oV9 1 rfl rfl, trivial⟩⟩, trivial⟩⟩ fun A => N9 2 A rfl rfl fun A => ⟨nxT l z, ps1 ++ [((z.at_ : Nat) : Int)], _, (hJ.nx hc hlt h2 ((z.at_ : Nat) : Int)).2, (hJ.nx hc hlt h2 ((z.at_ : Nat) : Int)).1, (((A.thSay 1 5 (r' := (nxT l z).r) (at' := (((nxT l z).at_ : Nat) : Int)) (m' := (ps1 ++ [((z.at_ : Nat) : Int)]).length) rfl rfl (nxE hc hlt (by unfold cpR; rw [if_neg (by omega), if_pos h4]) (by unfold cpA; rw [if_neg (by omega)])).1 (nxE hc hlt (by unfold cpR; rw [if_neg (by omega), if_pos h4]) (by unfold cpA; rw [if_neg (by omega)])).2 (by rw [List.length_append]; rfl) rfl).cut [0, 2] rfl).mv 2 [5] rfl rfl rfl rfl (by simp only [List.length_cons, List.length_nil] at h0; omega))⟩)
      (fun h4 A => N9 7 A rfl rfl fun A => forkE 84 A rfl
       (fun h5 A => N9 16 A rfl rfl fun A => forkD 90 A rfl
        (fun h6 A => N9 1 A rfl rfl fun A => ANY hmo [.ptr 1 0, .ptr 3 3, .int .i64 ((gZ8 l z).rb), .ptr 1 0, .ptr 1 1, .ix (.ptr 1 1) 1 8 ((gZ8 l z).rb) 0, .int .i64 (z.r ((gZ8 l z).rb).toNat), .int .i64 (z.r ((gZ8 l z).rb).toNat)] [] [] 0 [([], [], [none, some (.blk (thS (.sla ao l.length cp) z.r (((z.at_ : Nat) : Int) + 1) (.sl 5 (ps1.length + 1) 0))), none, some (.blk (inQ9 (gZ8 l z))), some (.blk [.int .i64 ((z.at_ : Nat) : Int)]), some (.row 3 1 (ps1.length + 1) 0 (nmF (ps1 ++ [((z.at_ : Nat) : Int)])))])] [[true, true, true, true, true, true, true, true]] A rfl rfl rfl rfl (by kernel_rfl) rfl (by kernel_rfl) ⟨⟨oV9 0 rfl rfl, ⟨oV9 0 rfl rfl, ⟨oV9 0 rfl rfl, ⟨oV9 0 rfl rfl, ⟨oV9 0 rfl rfl, ⟨oV9 0 rfl (ok_d (by first | exact hs.d (by omega) | exact hs.a (by omega) | (have hb := hs.b (by omega); omega) | omega) <| okE_nil), ⟨oE9 0 rfl (ldtE (r := z.r) hX rfl rfl rfl rfl rfl rfl rfl (by first | exact hs.d (by omega) | exact hs.a (by omega) | (have hb := hs.b (by omega); omega) | omega)), ⟨oV9 0 rfl rfl, trivial⟩⟩⟩⟩⟩⟩⟩⟩, trivial⟩ fun A => N9 1 A rfl rfl fun A => ANY hmo [.ptr 1 0, .ptr 3 1, .int .i64 ((gZ8 l z).dst), .ptr 3 9, .int .i64 ((gZ8 l z).fn), .ptr 1 0, .ptr 3 2, .int .i64 ((gZ8 l z).ra), .ptr 1 0, .ptr 1 1, .ix (.ptr 1 1) 1 8 ((gZ8 l z).ra) 0, .int .i64 (z.r ((gZ8 l z).ra).toNat), .int .i64 (z.r ((gZ8 l z).rb).toNat), .int .i64 (ralu0 ((gZ8 l z).fn) (z.r ((gZ8 l z).ra).toNat) (z.r ((gZ8 l z).rb).toNat)), .ptr 1 0, .ptr 1 1, .ix (.ptr 1 1) 1 8 ((gZ8 l z).dst) 0, .tup []] [17] [] 0 [([], [], [none, some (.blk (thS (.sla ao l.length cp) z.r (((z.at_ : Nat) : Int) + 1) (.sl 5 (ps1.length + 1) 0))), none, some (.blk (inQ9 (gZ8 l z))), some (.blk [.int .i64 ((z.at_ : Nat) : Int)]), some (.row 3 1 (ps1.length + 1) 0 (nmF (ps1 ++ [((z.at_ : Nat) : Int)])))]), ([17], [], [none, some (.blk [.sla ao l.length cp, .int .i64 ((updR z.r ((gZ8 l z).dst).toNat (ralu0 ((gZ8 l z).fn) (z.r ((gZ8 l z).ra).toNat) (z.r ((gZ8 l z).rb).toNat))) 0), .int .i64 ((updR z.r ((gZ8 l z).dst).toNat (ralu0 ((gZ8 l z).fn) (z.r ((gZ8 l z).ra).toNat) (z.r ((gZ8 l z).rb).toNat))) 1), .int .i64 ((updR z.r ((gZ8 l z).dst).toNat (ralu0 ((gZ8 l z).fn) (z.r ((gZ8 l z).ra).toNat) (z.r ((gZ8 l z).rb).toNat))) 2), .int .i64 ((updR z.r ((gZ8 l z).dst).toNat (ralu0 ((gZ8 l z).fn) (z.r ((gZ8 l z).ra).toNat) (z.r ((gZ8 l z).rb).toNat))) 3), .int .i64 ((updR z.r ((gZ8 l z).dst).toNat (ralu0 ((gZ8 l z).fn) (z.r ((gZ8 l z).ra).toNat) (z.r ((gZ8 l z).rb).toNat))) 4), .int .i64 ((updR z.r ((gZ8 l z).dst).toNat (ralu0 ((gZ8 l z).fn) (z.r ((gZ8 l z).ra).toNat) (z.r ((gZ8 l z).rb).toNat))) 5), .int .i64 ((updR z.r ((gZ8 l z).dst).toNat (ralu0 ((gZ8 l z).fn) (z.r ((gZ8 l z).ra).toNat) (z.r ((gZ8 l z).rb).toNat))) 6), .int .i64 ((updR z.r ((gZ8 l z).dst).toNat (ralu0 ((gZ8 l z).fn) (z.r ((gZ8 l z).ra).toNat) (z.r ((gZ8 l z).rb).toNat))) 7), .int .i64 (((z.at_ : Nat) : Int) + 1), .sl 5 (ps1.length + 1) 0]), none, some (.blk (inQ9 (gZ8 l z))), some (.blk [.int .i64 ((z.at_ : Nat) : Int)]), some (.row 3 1 (ps1.length + 1) 0 (nmF (ps1 ++ [((z.at_ : Nat) : Int)])))])] [[true, true, true, true, true, true, true, true, true, true, true, true, true, true, true, true, true, true], [false, false, false, false, false, false, false, false, false, false, false, false, false, false, true, true, false, false]] A rfl rfl rfl rfl (by kernel_rfl) rfl (by kernel_rfl) ⟨⟨oV9 0 rfl rfl, ⟨oV9 0 rfl rfl, ⟨oV9 0 rfl rfl, ⟨oV9 0 rfl rfl, ⟨oV9 0 rfl rfl, ⟨oV9 0 rfl rfl, ⟨oV9 0 rfl rfl, ⟨oV9 0 rfl rfl, ⟨oV9 0 rfl rfl, ⟨oV9 0 rfl rfl, ⟨oV9 0 rfl (ok_d (by first | exact hs.d (by omega) | exact hs.a (by omega) | (have hb := hs.b (by omega); omega) | omega) <| okE_nil), ⟨oE9 0 rfl (ldtE (r := z.r) hX rfl rfl rfl rfl rfl rfl rfl (by first | exact hs.d (by omega) | exact hs.a (by omega) | (have hb := hs.b (by omega); omega) | omega)), ⟨oV9 0 rfl rfl, ⟨oE9 0 rfl (eff_pure rfl rfl (ralu_ ((gZ8 l z).fn) (z.r ((gZ8 l z).ra).toNat) (z.r ((gZ8 l z).rb).toNat))), ⟨oV9 0 rfl rfl, ⟨oV9 0 rfl rfl, ⟨oV9 0 rfl (ok_d (by first | exact hs.d (by omega) | exact hs.a (by omega) | (have hb := hs.b (by omega); omega) | omega) <| okE_nil), ⟨oE9 1 rfl (sttE (i := 1) (r := z.r) hX rfl rfl rfl rfl rfl rfl rfl rfl (by first | exact hs.d (by omega) | exact hs.a (by omega) | (have hb := hs.b (by omega); omega) | omega)), trivial⟩⟩⟩⟩⟩⟩⟩⟩⟩⟩⟩⟩⟩⟩⟩⟩⟩⟩, ⟨⟨oV9 1 rfl rfl, ⟨oV9 1 rfl rfl, trivial⟩⟩, trivial⟩⟩ fun A => N9 2 A rfl rfl fun A => ⟨nxT l z, ps1 ++ [((z.at_ : Nat) : Int)], _, (hJ.nx hc hlt h2 ((z.at_ : Nat) : Int)).2, (hJ.nx hc hlt h2 ((z.at_ : Nat) : Int)).1, (((A.thSay 1 5 (r' := (nxT l z).r) (at' := (((nxT l z).at_ : Nat) : Int)) (m' := (ps1 ++ [((z.at_ : Nat) : Int)]).length) rfl rfl (nxE hc hlt (by unfold cpR rgO; rw [if_neg (by omega), if_neg (by omega), if_pos h5, if_neg (by have hb := hs.b (by omega); omega)] <;> rfl) (by unfold cpA; rw [if_neg (by omega)])).1 (nxE hc hlt (by unfold cpR rgO; rw [if_neg (by omega), if_neg (by omega), if_pos h5, if_neg (by have hb := hs.b (by omega); omega)] <;> rfl) (by unfold cpA; rw [if_neg (by omega)])).2 (by rw [List.length_append]; rfl) rfl).cut [0, 2] rfl).mv 2 [5] rfl rfl rfl rfl (by simp only [List.length_cons, List.length_nil] at h0; omega))⟩)
        (fun h6 A => N9 3 A rfl rfl fun A => ANY hmo [.ptr 1 0, .ptr 3 1, .int .i64 ((gZ8 l z).dst), .ptr 3 9, .int .i64 ((gZ8 l z).fn), .ptr 1 0, .ptr 3 2, .int .i64 ((gZ8 l z).ra), .ptr 1 0, .ptr 1 1, .ix (.ptr 1 1) 1 8 ((gZ8 l z).ra) 0, .int .i64 (z.r ((gZ8 l z).ra).toNat), .int .i64 ((gZ8 l z).imm), .int .i64 (ralu0 ((gZ8 l z).fn) (z.r ((gZ8 l z).ra).toNat) ((gZ8 l z).imm)), .ptr 1 0, .ptr 1 1, .ix (.ptr 1 1) 1 8 ((gZ8 l z).dst) 0, .tup []] [17] [] 0 [([], [], [none, some (.blk (thS (.sla ao l.length cp) z.r (((z.at_ : Nat) : Int) + 1) (.sl 5 (ps1.length + 1) 0))), none, some (.blk (inQ9 (gZ8 l z))), some (.blk [.int .i64 ((z.at_ : Nat) : Int)]), some (.row 3 1 (ps1.length + 1) 0 (nmF (ps1 ++ [((z.at_ : Nat) : Int)])))]), ([17], [], [none, some (.blk [.sla ao l.length cp, .int .i64 ((updR z.r ((gZ8 l z).dst).toNat (ralu0 ((gZ8 l z).fn) (z.r ((gZ8 l z).ra).toNat) ((gZ8 l z).imm))) 0), .int .i64 ((updR z.r ((gZ8 l z).dst).toNat (ralu0 ((gZ8 l z).fn) (z.r ((gZ8 l z).ra).toNat) ((gZ8 l z).imm))) 1), .int .i64 ((updR z.r ((gZ8 l z).dst).toNat (ralu0 ((gZ8 l z).fn) (z.r ((gZ8 l z).ra).toNat) ((gZ8 l z).imm))) 2), .int .i64 ((updR z.r ((gZ8 l z).dst).toNat (ralu0 ((gZ8 l z).fn) (z.r ((gZ8 l z).ra).toNat) ((gZ8 l z).imm))) 3), .int .i64 ((updR z.r ((gZ8 l z).dst).toNat (ralu0 ((gZ8 l z).fn) (z.r ((gZ8 l z).ra).toNat) ((gZ8 l z).imm))) 4), .int .i64 ((updR z.r ((gZ8 l z).dst).toNat (ralu0 ((gZ8 l z).fn) (z.r ((gZ8 l z).ra).toNat) ((gZ8 l z).imm))) 5), .int .i64 ((updR z.r ((gZ8 l z).dst).toNat (ralu0 ((gZ8 l z).fn) (z.r ((gZ8 l z).ra).toNat) ((gZ8 l z).imm))) 6), .int .i64 ((updR z.r ((gZ8 l z).dst).toNat (ralu0 ((gZ8 l z).fn) (z.r ((gZ8 l z).ra).toNat) ((gZ8 l z).imm))) 7), .int .i64 (((z.at_ : Nat) : Int) + 1), .sl 5 (ps1.length + 1) 0]), none, some (.blk (inQ9 (gZ8 l z))), some (.blk [.int .i64 ((z.at_ : Nat) : Int)]), some (.row 3 1 (ps1.length + 1) 0 (nmF (ps1 ++ [((z.at_ : Nat) : Int)])))])] [[true, true, true, true, true, true, true, true, true, true, true, true, true, true, true, true, true, true], [false, false, false, false, false, false, false, false, false, false, false, false, false, false, true, true, false, false]] A rfl rfl rfl rfl (by kernel_rfl) rfl (by kernel_rfl) ⟨⟨oV9 0 rfl rfl, ⟨oV9 0 rfl rfl, ⟨oV9 0 rfl rfl, ⟨oV9 0 rfl rfl, ⟨oV9 0 rfl rfl, ⟨oV9 0 rfl rfl, ⟨oV9 0 rfl rfl, ⟨oV9 0 rfl rfl, ⟨oV9 0 rfl rfl, ⟨oV9 0 rfl rfl, ⟨oV9 0 rfl (ok_d (by first | exact hs.d (by omega) | exact hs.a (by omega) | (have hb := hs.b (by omega); omega) | omega) <| okE_nil), ⟨oE9 0 rfl (ldtE (r := z.r) hX rfl rfl rfl rfl rfl rfl rfl (by first | exact hs.d (by omega) | exact hs.a (by omega) | (have hb := hs.b (by omega); omega) | omega)), ⟨oV9 0 rfl rfl, ⟨oE9 0 rfl (eff_pure rfl rfl (ralu_ ((gZ8 l z).fn) (z.r ((gZ8 l z).ra).toNat) ((gZ8 l z).imm))), ⟨oV9 0 rfl rfl, ⟨oV9 0 rfl rfl, ⟨oV9 0 rfl (ok_d (by first | exact hs.d (by omega) | exact hs.a (by omega) | (have hb := hs.b (by omega); omega) | omega) <| okE_nil), ⟨oE9 1 rfl (sttE (i := 1) (r := z.r) hX rfl rfl rfl rfl rfl rfl rfl rfl (by first | exact hs.d (by omega) | exact hs.a (by omega) | (have hb := hs.b (by omega); omega) | omega)), trivial⟩⟩⟩⟩⟩⟩⟩⟩⟩⟩⟩⟩⟩⟩⟩⟩⟩⟩, ⟨⟨oV9 1 rfl rfl, ⟨oV9 1 rfl rfl, trivial⟩⟩, trivial⟩⟩ fun A => N9 2 A rfl rfl fun A => ⟨nxT l z, ps1 ++ [((z.at_ : Nat) : Int)], _, (hJ.nx hc hlt h2 ((z.at_ : Nat) : Int)).2, (hJ.nx hc hlt h2 ((z.at_ : Nat) : Int)).1, (((A.thSay 1 5 (r' := (nxT l z).r) (at' := (((nxT l z).at_ : Nat) : Int)) (m' := (ps1 ++ [((z.at_ : Nat) : Int)]).length) rfl rfl (nxE hc hlt (by unfold cpR rgO; rw [if_neg (by omega), if_neg (by omega), if_pos h5, if_pos (by have hb := hs.b (by omega); omega)] <;> rfl) (by unfold cpA; rw [if_neg (by omega)])).1 (nxE hc hlt (by unfold cpR rgO; rw [if_neg (by omega), if_neg (by omega), if_pos h5, if_pos (by have hb := hs.b (by omega); omega)] <;> rfl) (by unfold cpA; rw [if_neg (by omega)])).2 (by rw [List.length_append]; rfl) rfl).cut [0, 2] rfl).mv 2 [5] rfl rfl rfl rfl (by simp only [List.length_cons, List.length_nil] at h0; omega))⟩))
       (fun h5 A => N9 7 A rfl rfl fun A => forkE 115 A rfl
        (fun h7 A => N9 2 A rfl rfl fun A => ANY hmo [.ptr 1 0, .ptr 3 2, .int .i64 ((gZ8 l z).ra), .ptr 1 0, .ptr 1 1, .ix (.ptr 1 1) 1 8 ((gZ8 l z).ra) 0, .int .i64 (z.r ((gZ8 l z).ra).toNat), .bool ((z.r ((gZ8 l z).ra).toNat) == 0), .ptr 3 16, .bool ((gZ8 l z).zero), .bool (((z.r ((gZ8 l z).ra).toNat) == 0) == ((gZ8 l z).zero))] [] [] 0 [([], [], [none, some (.blk (thS (.sla ao l.length cp) z.r (((z.at_ : Nat) : Int) + 1) (.sl 5 (ps1.length + 1) 0))), none, some (.blk (inQ9 (gZ8 l z))), some (.blk [.int .i64 ((z.at_ : Nat) : Int)]), some (.row 3 1 (ps1.length + 1) 0 (nmF (ps1 ++ [((z.at_ : Nat) : Int)])))])] [[true, true, true, true, true, true, true, true, true, true, true]] A rfl rfl rfl rfl (by kernel_rfl) rfl (by kernel_rfl) ⟨⟨oV9 0 rfl rfl, ⟨oV9 0 rfl rfl, ⟨oV9 0 rfl rfl, ⟨oV9 0 rfl rfl, ⟨oV9 0 rfl rfl, ⟨oV9 0 rfl (ok_d (by first | exact hs.d (by omega) | exact hs.a (by omega) | (have hb := hs.b (by omega); omega) | omega) <| okE_nil), ⟨oE9 0 rfl (ldtE (r := z.r) hX rfl rfl rfl rfl rfl rfl rfl (by first | exact hs.d (by omega) | exact hs.a (by omega) | (have hb := hs.b (by omega); omega) | omega)), ⟨oV9 0 rfl rfl, ⟨oV9 0 rfl rfl, ⟨oV9 0 rfl rfl, ⟨oV9 0 rfl rfl, trivial⟩⟩⟩⟩⟩⟩⟩⟩⟩⟩⟩, trivial⟩ fun A => N9 1 A rfl rfl fun A => forkE 127 A rfl
         (fun h8 A => N9 11 A rfl rfl fun A => ⟨nxT l z, ps1 ++ [((z.at_ : Nat) : Int)], _, (hJ.nx hc hlt h2 ((z.at_ : Nat) : Int)).2, (hJ.nx hc hlt h2 ((z.at_ : Nat) : Int)).1, (((A.thSay 1 5 (r' := (nxT l z).r) (at' := (((nxT l z).at_ : Nat) : Int)) (m' := (ps1 ++ [((z.at_ : Nat) : Int)]).length) rfl rfl (nxE hc hlt (by unfold cpR; rw [if_neg (by omega), if_neg (by omega), if_neg (by omega)]) (by unfold cpA; rw [if_pos h7, if_pos h8])).1 (nxE hc hlt (by unfold cpR; rw [if_neg (by omega), if_neg (by omega), if_neg (by omega)]) (by unfold cpA; rw [if_pos h7, if_pos h8])).2 (by rw [List.length_append]; rfl) rfl).cut [0, 2] rfl).mv 2 [5] rfl rfl rfl rfl (by simp only [List.length_cons, List.length_nil] at h0; omega))⟩)
         (fun h8 A => N9 4 A rfl rfl fun A => ⟨nxT l z, ps1 ++ [((z.at_ : Nat) : Int)], _, (hJ.nx hc hlt h2 ((z.at_ : Nat) : Int)).2, (hJ.nx hc hlt h2 ((z.at_ : Nat) : Int)).1, (((A.thSay 1 5 (r' := (nxT l z).r) (at' := (((nxT l z).at_ : Nat) : Int)) (m' := (ps1 ++ [((z.at_ : Nat) : Int)]).length) rfl rfl (nxE hc hlt (by unfold cpR; rw [if_neg (by omega), if_neg (by omega), if_neg (by omega)]) (by unfold cpA; rw [if_pos h7, if_neg h8])).1 (nxE hc hlt (by unfold cpR; rw [if_neg (by omega), if_neg (by omega), if_neg (by omega)]) (by unfold cpA; rw [if_pos h7, if_neg h8])).2 (by rw [List.length_append]; rfl) rfl).cut [0, 2] rfl).mv 2 [5] rfl rfl rfl rfl (by simp only [List.length_cons, List.length_nil] at h0; omega))⟩))
        (fun h7 A => N9 4 A rfl rfl fun A => ⟨nxT l z, ps1 ++ [((z.at_ : Nat) : Int)], _, (hJ.nx hc hlt h2 ((z.at_ : Nat) : Int)).2, (hJ.nx hc hlt h2 ((z.at_ : Nat) : Int)).1, (((A.thSay 1 5 (r' := (nxT l z).r) (at' := (((nxT l z).at_ : Nat) : Int)) (m' := (ps1 ++ [((z.at_ : Nat) : Int)]).length) rfl rfl (nxE hc hlt (by unfold cpR; rw [if_neg (by omega), if_neg (by omega), if_neg (by omega)]) (by unfold cpA; rw [if_neg (by omega)])).1 (nxE hc hlt (by unfold cpR; rw [if_neg (by omega), if_neg (by omega), if_neg (by omega)]) (by unfold cpA; rw [if_neg (by omega)])).2 (by rw [List.length_append]; rfl) rfl).cut [0, 2] rfl).mv 2 [5] rfl rfl rfl rfl (by simp only [List.length_cons, List.length_nil] at h0; omega))⟩))))))
   (fun h1 A => N9 9 A rfl rfl fun A => RETW hX (B.trans A) rfl rfl rfl rfl (thJ_of (Sy.giveT (B.trans A) 1 2 (A.at_pre hG1) rfl rfl rfl rfl) (hJ.si.fin (fun q => h1 (by omega))) hJ.pl))
end Go.Proofs.YtjkppaijicjpoaaGreatDoor.Mc
namespace Go.Proofs.YtjkppaijicjpoaaGreatDoor.Mc
open Go.RowKit
set_option linter.unusedVariables false
set_option linter.unusedSimpArgs false
set_option maxRecDepth 100000
set_option maxHeartbeats 2000000
set_option simprocs false
theorem opM3 {a : Int} (h : (((a == 4) || (a == 5)) || (a == 6)) = true) : a = 4 ∨ a = 5 ∨ a = 6 := by simp at h; omega
theorem opR2 {a : Int} (h : ((a == 4) || (a == 6)) = true) : a = 4 ∨ a = 6 := by simp at h; omega
abbrev gS8 (l : List In) (s : Th) : In := l.getD (((s.at_ : Nat) : Int)).toNat In.z
abbrev rS8 (l : List In) (s : Th) (old : Int) : Rg := updR s.r ((gS8 l s).dst).toNat (bget0 old ((gS8 l s).sz))
theorem tStep_ (l : List In) (ao : Option Addr) (cp : Nat) (s : Th) (L : Loc) (pb : Option (Nat × Nat)) (ps : List Int) (old : Int) (hc : RCd l) (hlt : s.at_ < l.length) (hps : ps.length ≤ s.at_) : FnW Tryz.prog 13 [.v (.pointer (some ⟨L.b, L.pre.length, none⟩)), .int .i64 old] [] (L.b :: pbB pb) (fun w => OutT L (thC (.sla ao l.length cp) s.r ((s.at_ : Nat) : Int)) pb ps w ∧ CdAt ao l w (L.b :: pbB pb)) (ThJ L l ao cp ⟨s.at_ + 1, paR s.r (gS8 l s) old⟩ pb) :=
 enterW (n := 111) (by kernel_rfl) Tryz.func13 rfl rfl rfl (fun i e h => by rw [List.getElem?_nil] at h; cases h) fun G w a h0 ho hp A => have hs : Snd (gS8 l s) := hc.snd hlt; have hn := hc.n; TAKET 0 A hp.1 rfl rfl fun A hG1 hky => have B := A; have A := B.base; have h0 := B.mem.len; have hI := LstAt.ok _ _ _ _ hp.2 (Mix.refl _ _) hky; MOVET 1 0 (cs := thC (.sla ao l.length cp) s.r ((s.at_ : Nat) : Int)) (H' := [none, some (.blk (thS (.sla ao l.length cp) s.r ((s.at_ : Nat) : Int) (.sl 2 ps.length 0))), some (.row 3 1 ps.length 0 (nmF ps))]) A rfl rfl rfl rfl fun A => N9 6 A rfl rfl fun A => ANY hmo [.ptr 1 0, .ptr 1 0, .ptr 1 0, .sla ao l.length cp, .ptr 1 0, .ptr 1 0, .ptr 1 9, .int .i64 ((s.at_ : Nat) : Int), .v (.pointer (adJ ao 17 ((s.at_ : Nat) : Int))), .agg (inQ9 (gS8 l s)), .ptr 4 0, .tup []] [10, 11] [4] 1 [([], [4], [none, some (.blk (thS (.sla ao l.length cp) s.r ((s.at_ : Nat) : Int) (.sl 2 ps.length 0))), some (.row 3 1 ps.length 0 (nmF ps)), some (.blk [.z9, .z9, .z9, .z9, .z9, .z9, .ff, .ff, .z9, .z9, .ff, .ff, .ff, .z9, .z9]), none]), ([10], [], [none, some (.blk (thS (.sla ao l.length cp) s.r ((s.at_ : Nat) : Int) (.sl 2 ps.length 0))), some (.row 3 1 ps.length 0 (nmF ps)), some (.blk [.z9, .z9, .z9, .z9, .z9, .z9, .ff, .ff, .z9, .z9, .ff, .ff, .ff, .z9, .z9]), some (.blk [.z9, .z9, .z9, .z9, .z9, .z9, .z9, .z9, .z9, .z9, .ff, .ff, .ff, .z9, .z9, .z9, .ff])]), ([10, 11], [], [none, some (.blk (thS (.sla ao l.length cp) s.r ((s.at_ : Nat) : Int) (.sl 2 ps.length 0))), some (.row 3 1 ps.length 0 (nmF ps)), some (.blk [.z9, .z9, .z9, .z9, .z9, .z9, .ff, .ff, .z9, .z9, .ff, .ff, .ff, .z9, .z9]), some (.blk (inQ9 (gS8 l s)))])] [[true, true, true, true, true, true, true, true, true, true, true, false], [true, true, true, true, true, true, true, true, true, true, false, true], [false, false, false, false, false, false, false, false, false, false, false, false]] A rfl rfl rfl rfl (by kernel_rfl) rfl (by kernel_rfl) ⟨⟨oV9 0 rfl rfl, ⟨oV9 0 rfl rfl, ⟨oV9 0 rfl rfl, ⟨oV9 0 rfl rfl, ⟨oV9 0 rfl rfl, ⟨oV9 0 rfl rfl, ⟨oV9 0 rfl rfl, ⟨oV9 0 rfl rfl, ⟨oE9 0 rfl (ixcE (e := 56) rfl rfl rfl rfl hI (by kernel_rfl) (by omega)), ⟨oE9 0 rfl (ldcE (insS (gS8 l s)) hX rfl rfl rfl hI (by omega) rfl rfl), ⟨⟨_, _, _, _, 1, rfl, rfl, rfl, rfl, new_at 4 (X := ⟨_, true⟩) hX rfl rfl (le0 h0 rfl) rfl rfl rfl rfl⟩, trivial⟩⟩⟩⟩⟩⟩⟩⟩⟩⟩⟩, ⟨⟨oV9 1 rfl rfl, ⟨oV9 1 rfl rfl, ⟨oV9 1 rfl rfl, ⟨oV9 1 rfl rfl, ⟨oV9 1 rfl rfl, ⟨oV9 1 rfl rfl, ⟨oV9 1 rfl rfl, ⟨oV9 1 rfl rfl, ⟨oE9 1 rfl (ixcE (e := 56) rfl rfl rfl rfl hI (by kernel_rfl) (by omega)), ⟨oE9 1 rfl (ldcE (insS (gS8 l s)) hX rfl rfl rfl hI (by omega) rfl rfl), ⟨oE9 2 rfl (eff_auto (X := ⟨_, true⟩) (out := .upd 4 (inQ9 (gS8 l s)) _) hX rfl rfl), trivial⟩⟩⟩⟩⟩⟩⟩⟩⟩⟩⟩, ⟨trivial, trivial⟩⟩⟩ fun A => N9 2 A rfl rfl fun A => DRAWN hX hmo [(22, .bool (((gS8 l s).op == 4) || ((gS8 l s).op == 6))), (24, .bool (((gS8 l s).op == 5) || ((gS8 l s).op == 6)))] [] A rfl rfl rfl rfl (by kernel_rfl) (effAll_nil _ _) ⟨.inl ⟨_, _, rfl, rfl, rRds_ (gS8 l s)⟩, ⟨.inl ⟨_, _, rfl, rfl, rWrs_ (gS8 l s)⟩, trivial⟩⟩ fun A => N9 5 A rfl rfl fun A => C9 [] (rMem_ (gS8 l s)) A rfl fun A => N9 2 A rfl rfl fun A => fork 44 A rfl
  (fun h1 A => N9 4 A rfl rfl fun A => C9 [1, 2] (tWhr_ l ao cp ((s.at_ : Nat) : Int) s.r ps (gS8 l s) (by have q3 := opM3 h1; exact hc.szs hlt (by show _ ∨ _ ∨ _; first | exact q3 | (have q4 : (gS8 l s).op = 4 ∨ (gS8 l s).op = 5 ∨ (gS8 l s).op = 6 := (by omega); exact q4))) (by have q3 := opM3 h1; exact hs.x (by first | exact q3 | omega))) A rfl fun A => N9 11 A rfl rfl fun A => fork 50 A rfl
   (fun h2 A => N9 5 A rfl rfl fun A => C9 [] (rget_ old ((gS8 l s).sz) (by have q3 := opM3 h1; have q2 := opR2 h2; exact hc.szs hlt (by show _ ∨ _ ∨ _; first | exact q3 | (have q4 : (gS8 l s).op = 4 ∨ (gS8 l s).op = 5 ∨ (gS8 l s).op = 6 := (by omega); exact q4)))) A rfl fun A => N9 12 A rfl rfl fun A => forkE 58 A rfl
    (fun h3 A => False.elim (by simp only [Bool.or_eq_true, Bool.or_eq_false_iff, beq_iff_eq, beq_eq_false_iff_ne, ne_eq] at h1 h2; omega))
    (fun h3 A => N9 11 A rfl rfl fun A => forkE 68 A rfl
     (fun h4 A => N9 1 A rfl rfl fun A => DRAWN hX hmo [(9, .int .i64 (rrmw0 ((gS8 l s).fn) (bget0 old ((gS8 l s).sz)) (datT s.r (gS8 l s)) ((gS8 l s).sz)))] [(6, .int .i64 (datT s.r (gS8 l s)), [none, some (.blk (thS (.sla ao l.length cp) s.r ((s.at_ : Nat) : Int) (.sl 2 ps.length 0))), some (.row 3 1 ps.length 0 (nmF ps)), some (.blk [.z9, .z9, .z9, .z9, .z9, .z9, .ff, .ff, .z9, .z9, .ff, .ff, .ff, .z9, .z9]), some (.blk (inQ9 (gS8 l s))), some (.blk [.z9, .int .i64 ((ps.length : Nat) : Int), .int .i64 ((s.at_ : Nat) : Int), .int .i64 ((gS8 l s).op), .int .i64 ((gS8 l s).loc), .int .i64 (bmask0 (bplace0 (gS8 l s).off (rgO s.r (gS8 l s).ix 0) (gS8 l s).sz) (gS8 l s).sz), .bool (((gS8 l s).op == 4) || ((gS8 l s).op == 6)), .bool (((gS8 l s).op == 5) || ((gS8 l s).op == 6)), .int .i64 (bget0 old ((gS8 l s).sz)), .z9, .bool ((gS8 l s).acq), .bool ((gS8 l s).weak), .bool ((gS8 l s).rel), .int .i64 ((gS8 l s).pred), .int .i64 ((gS8 l s).succ)])])] A rfl rfl rfl rfl (by kernel_rfl) ⟨callE [1, 2] (tDat_ l ao cp ((s.at_ : Nat) : Int) s.r ps (gS8 l s) (by have q3 := opM3 h1; have q2 := opR2 h2; first | (have h5 := hs.a5 (by omega); omega) | (have h6 := hs.a (by omega); omega))) rfl rfl rfl rfl rfl rfl rfl, ⟨trivial, trivial⟩⟩ ⟨.inl ⟨_, _, rfl, rfl, rrmw_ ((gS8 l s).fn) (bget0 old ((gS8 l s).sz)) (datT s.r (gS8 l s)) ((gS8 l s).sz) (by have q3 := opM3 h1; have q2 := opR2 h2; exact hc.szs hlt (by show _ ∨ _ ∨ _; first | exact q3 | (have q4 : (gS8 l s).op = 4 ∨ (gS8 l s).op = 5 ∨ (gS8 l s).op = 6 := (by omega); exact q4)))⟩, trivial⟩ fun A => N9 8 A rfl rfl fun A => fork 81 A rfl
      (fun h5 A => N9 1 A rfl rfl fun A => DRAWN hX hmo [] [(8, .tup [], [none, some (.blk (thS (.sla ao l.length cp) (rS8 l s old) ((s.at_ : Nat) : Int) (.sl 2 ps.length 0))), some (.row 3 1 ps.length 0 (nmF ps)), some (.blk [.z9, .z9, .z9, .z9, .z9, .z9, .ff, .ff, .z9, .z9, .ff, .ff, .ff, .z9, .z9]), some (.blk (inQ9 (gS8 l s))), some (.blk [.z9, .int .i64 ((ps.length : Nat) : Int), .int .i64 ((s.at_ : Nat) : Int), .int .i64 ((gS8 l s).op), .int .i64 ((gS8 l s).loc), .int .i64 (bmask0 (bplace0 (gS8 l s).off (rgO s.r (gS8 l s).ix 0) (gS8 l s).sz) (gS8 l s).sz), .bool (((gS8 l s).op == 4) || ((gS8 l s).op == 6)), .bool (((gS8 l s).op == 5) || ((gS8 l s).op == 6)), .int .i64 (bget0 old ((gS8 l s).sz)), .int .i64 (rrmw0 ((gS8 l s).fn) (bget0 old ((gS8 l s).sz)) (datT s.r (gS8 l s)) ((gS8 l s).sz)), .bool ((gS8 l s).acq), .bool ((gS8 l s).weak), .bool ((gS8 l s).rel), .int .i64 ((gS8 l s).pred), .int .i64 ((gS8 l s).succ)])])] A rfl (ok_d (by have q3 := opM3 h1; have q2 := opR2 h2; first | exact hs.d (by omega) | omega) <| okE_nil) rfl rfl (by kernel_rfl) ⟨sttE (i := 1) (r := s.r) hX rfl rfl rfl rfl rfl rfl rfl rfl (by have q3 := opM3 h1; have q2 := opR2 h2; first | exact hs.d (by omega) | omega), trivial⟩ trivial fun A => N9 2 A rfl rfl fun A => DRAWN hX hmo [] [(10, .sl 7 (ps.length + 1) 0, [none, some (.blk (thS (.sla ao l.length cp) (rS8 l s old) ((s.at_ : Nat) : Int) (.sl 2 ps.length 0))), none, some (.blk [.z9, .z9, .z9, .z9, .z9, .z9, .ff, .ff, .z9, .z9, .ff, .ff, .ff, .z9, .z9]), some (.blk (inQ9 (gS8 l s))), some (.blk [.z9, .int .i64 ((ps.length : Nat) : Int), .int .i64 ((s.at_ : Nat) : Int), .int .i64 ((gS8 l s).op), .int .i64 ((gS8 l s).loc), .int .i64 (bmask0 (bplace0 (gS8 l s).off (rgO s.r (gS8 l s).ix 0) (gS8 l s).sz) (gS8 l s).sz), .bool (((gS8 l s).op == 4) || ((gS8 l s).op == 6)), .bool (((gS8 l s).op == 5) || ((gS8 l s).op == 6)), .int .i64 (bget0 old ((gS8 l s).sz)), .int .i64 (rrmw0 ((gS8 l s).fn) (bget0 old ((gS8 l s).sz)) (datT s.r (gS8 l s)) ((gS8 l s).sz)), .bool ((gS8 l s).acq), .bool ((gS8 l s).weak), .bool ((gS8 l s).rel), .int .i64 ((gS8 l s).pred), .int .i64 ((gS8 l s).succ)]), some (.blk [.int .i64 ((s.at_ : Nat) : Int)]), some (.row 3 1 (ps.length + 1) 0 (nmF (ps ++ [((s.at_ : Nat) : Int)])))])] A rfl rfl rfl rfl (by kernel_rfl) ⟨trivial, ⟨appE (i := 2) hX (ps.length + 1) (nmF (ps ++ [((s.at_ : Nat) : Int)])) rfl rfl rfl rfl (by omega) rfl (fun k hk => by show [SV.int .i64 _] = [SV.int .i64 _]; rw [getD_app_l hk]) (by show [SV.int .i64 _] = _; rw [getD_app_1]) (fun z => ⟨_, rfl, rfl⟩), ⟨trivial, trivial⟩⟩⟩ trivial fun A => N9 14 A rfl (ok_d (by omega) <| okE_nil) fun A => N9 6 A rfl rfl fun A => have A := A.thSay 1 7 (r' := paR s.r (gS8 l s) old) (at' := (((s.at_ + 1 : Nat) : Nat) : Int)) (m' := (ps ++ [((s.at_ : Nat) : Int)]).length) rfl rfl (by unfold paR; rw [if_pos h5]) (by omega) (by rw [List.length_append]; rfl) rfl; RETW hX (B.trans A) rfl rfl rfl rfl (thJ_of (z := ⟨s.at_ + 1, paR s.r (gS8 l s) old⟩) (Sy.giveT (B.trans A) 1 7 (A.at_pre hG1) rfl rfl rfl rfl) rfl (by rw [List.length_append]; show ps.length + 1 ≤ s.at_ + 1; omega)))
      (fun h5 A => False.elim (by simp only [Bool.or_eq_true, Bool.or_eq_false_iff, beq_iff_eq, beq_eq_false_iff_ne, ne_eq] at h1 h2 h5; omega)))
     (fun h4 A => N9 10 A rfl rfl fun A => fork 81 A rfl
      (fun h6 A => N9 1 A rfl rfl fun A => DRAWN hX hmo [] [(8, .tup [], [none, some (.blk (thS (.sla ao l.length cp) (rS8 l s old) ((s.at_ : Nat) : Int) (.sl 2 ps.length 0))), some (.row 3 1 ps.length 0 (nmF ps)), some (.blk [.z9, .z9, .z9, .z9, .z9, .z9, .ff, .ff, .z9, .z9, .ff, .ff, .ff, .z9, .z9]), some (.blk (inQ9 (gS8 l s))), some (.blk [.z9, .int .i64 ((ps.length : Nat) : Int), .int .i64 ((s.at_ : Nat) : Int), .int .i64 ((gS8 l s).op), .int .i64 ((gS8 l s).loc), .int .i64 (bmask0 (bplace0 (gS8 l s).off (rgO s.r (gS8 l s).ix 0) (gS8 l s).sz) (gS8 l s).sz), .bool (((gS8 l s).op == 4) || ((gS8 l s).op == 6)), .bool (((gS8 l s).op == 5) || ((gS8 l s).op == 6)), .int .i64 (bget0 old ((gS8 l s).sz)), .z9, .bool ((gS8 l s).acq), .bool ((gS8 l s).weak), .bool ((gS8 l s).rel), .int .i64 ((gS8 l s).pred), .int .i64 ((gS8 l s).succ)])])] A rfl (ok_d (by have q3 := opM3 h1; have q2 := opR2 h2; first | exact hs.d (by omega) | omega) <| okE_nil) rfl rfl (by kernel_rfl) ⟨sttE (i := 1) (r := s.r) hX rfl rfl rfl rfl rfl rfl rfl rfl (by have q3 := opM3 h1; have q2 := opR2 h2; first | exact hs.d (by omega) | omega), trivial⟩ trivial fun A => N9 2 A rfl rfl fun A => DRAWN hX hmo [] [(10, .sl 7 (ps.length + 1) 0, [none, some (.blk (thS (.sla ao l.length cp) (rS8 l s old) ((s.at_ : Nat) : Int) (.sl 2 ps.length 0))), none, some (.blk [.z9, .z9, .z9, .z9, .z9, .z9, .ff, .ff, .z9, .z9, .ff, .ff, .ff, .z9, .z9]), some (.blk (inQ9 (gS8 l s))), some (.blk [.z9, .int .i64 ((ps.length : Nat) : Int), .int .i64 ((s.at_ : Nat) : Int), .int .i64 ((gS8 l s).op), .int .i64 ((gS8 l s).loc), .int .i64 (bmask0 (bplace0 (gS8 l s).off (rgO s.r (gS8 l s).ix 0) (gS8 l s).sz) (gS8 l s).sz), .bool (((gS8 l s).op == 4) || ((gS8 l s).op == 6)), .bool (((gS8 l s).op == 5) || ((gS8 l s).op == 6)), .int .i64 (bget0 old ((gS8 l s).sz)), .z9, .bool ((gS8 l s).acq), .bool ((gS8 l s).weak), .bool ((gS8 l s).rel), .int .i64 ((gS8 l s).pred), .int .i64 ((gS8 l s).succ)]), some (.blk [.int .i64 ((s.at_ : Nat) : Int)]), some (.row 3 1 (ps.length + 1) 0 (nmF (ps ++ [((s.at_ : Nat) : Int)])))])] A rfl rfl rfl rfl (by kernel_rfl) ⟨trivial, ⟨appE (i := 2) hX (ps.length + 1) (nmF (ps ++ [((s.at_ : Nat) : Int)])) rfl rfl rfl rfl (by omega) rfl (fun k hk => by show [SV.int .i64 _] = [SV.int .i64 _]; rw [getD_app_l hk]) (by show [SV.int .i64 _] = _; rw [getD_app_1]) (fun z => ⟨_, rfl, rfl⟩), ⟨trivial, trivial⟩⟩⟩ trivial fun A => N9 14 A rfl (ok_d (by omega) <| okE_nil) fun A => N9 6 A rfl rfl fun A => have A := A.thSay 1 7 (r' := paR s.r (gS8 l s) old) (at' := (((s.at_ + 1 : Nat) : Nat) : Int)) (m' := (ps ++ [((s.at_ : Nat) : Int)]).length) rfl rfl (by unfold paR; rw [if_pos h6]) (by omega) (by rw [List.length_append]; rfl) rfl; RETW hX (B.trans A) rfl rfl rfl rfl (thJ_of (z := ⟨s.at_ + 1, paR s.r (gS8 l s) old⟩) (Sy.giveT (B.trans A) 1 7 (A.at_pre hG1) rfl rfl rfl rfl) rfl (by rw [List.length_append]; show ps.length + 1 ≤ s.at_ + 1; omega)))
      (fun h6 A => False.elim (by simp only [Bool.or_eq_true, Bool.or_eq_false_iff, beq_iff_eq, beq_eq_false_iff_ne, ne_eq] at h1 h2 h6; omega)))))
   (fun h2 A => N9 11 A rfl rfl fun A => forkE 58 A rfl
    (fun h7 A => N9 1 A rfl rfl fun A => DRAWN hX hmo [(5, .int .i64 (bget0 (datT s.r (gS8 l s)) ((gS8 l s).sz)))] [(2, .int .i64 (datT s.r (gS8 l s)), [none, some (.blk (thS (.sla ao l.length cp) s.r ((s.at_ : Nat) : Int) (.sl 2 ps.length 0))), some (.row 3 1 ps.length 0 (nmF ps)), some (.blk [.z9, .z9, .z9, .z9, .z9, .z9, .ff, .ff, .z9, .z9, .ff, .ff, .ff, .z9, .z9]), some (.blk (inQ9 (gS8 l s))), some (.blk [.z9, .int .i64 ((ps.length : Nat) : Int), .int .i64 ((s.at_ : Nat) : Int), .int .i64 ((gS8 l s).op), .int .i64 ((gS8 l s).loc), .int .i64 (bmask0 (bplace0 (gS8 l s).off (rgO s.r (gS8 l s).ix 0) (gS8 l s).sz) (gS8 l s).sz), .bool (((gS8 l s).op == 4) || ((gS8 l s).op == 6)), .bool (((gS8 l s).op == 5) || ((gS8 l s).op == 6)), .z9, .z9, .bool ((gS8 l s).acq), .bool ((gS8 l s).weak), .bool ((gS8 l s).rel), .int .i64 ((gS8 l s).pred), .int .i64 ((gS8 l s).succ)])])] A rfl rfl rfl rfl (by kernel_rfl) ⟨callE [1, 2] (tDat_ l ao cp ((s.at_ : Nat) : Int) s.r ps (gS8 l s) (by have q3 := opM3 h1; first | (have h5 := hs.a5 (by omega); omega) | (have h6 := hs.a (by omega); omega))) rfl rfl rfl rfl rfl rfl rfl, ⟨trivial, trivial⟩⟩ ⟨.inl ⟨_, _, rfl, rfl, rget_ (datT s.r (gS8 l s)) ((gS8 l s).sz) (by have q3 := opM3 h1; exact hc.szs hlt (by show _ ∨ _ ∨ _; first | exact q3 | (have q4 : (gS8 l s).op = 4 ∨ (gS8 l s).op = 5 ∨ (gS8 l s).op = 6 := (by omega); exact q4)))⟩, trivial⟩ fun A => N9 9 A rfl rfl fun A => forkE 68 A rfl
     (fun h8 A => False.elim (by simp only [Bool.or_eq_true, Bool.or_eq_false_iff, beq_iff_eq, beq_eq_false_iff_ne, ne_eq] at h1 h2; omega))
     (fun h8 A => N9 10 A rfl rfl fun A => fork 81 A rfl
      (fun h9 A => False.elim (by simp only [Bool.or_eq_true, Bool.or_eq_false_iff, beq_iff_eq, beq_eq_false_iff_ne, ne_eq] at h1 h2 h9; omega))
      (fun h9 A => N9 4 A rfl rfl fun A => DRAWN hX hmo [] [(10, .sl 7 (ps.length + 1) 0, [none, some (.blk (thS (.sla ao l.length cp) s.r ((s.at_ : Nat) : Int) (.sl 2 ps.length 0))), none, some (.blk [.z9, .z9, .z9, .z9, .z9, .z9, .ff, .ff, .z9, .z9, .ff, .ff, .ff, .z9, .z9]), some (.blk (inQ9 (gS8 l s))), some (.blk [.z9, .int .i64 ((ps.length : Nat) : Int), .int .i64 ((s.at_ : Nat) : Int), .int .i64 ((gS8 l s).op), .int .i64 ((gS8 l s).loc), .int .i64 (bmask0 (bplace0 (gS8 l s).off (rgO s.r (gS8 l s).ix 0) (gS8 l s).sz) (gS8 l s).sz), .bool (((gS8 l s).op == 4) || ((gS8 l s).op == 6)), .bool (((gS8 l s).op == 5) || ((gS8 l s).op == 6)), .z9, .int .i64 (bget0 (datT s.r (gS8 l s)) ((gS8 l s).sz)), .bool ((gS8 l s).acq), .bool ((gS8 l s).weak), .bool ((gS8 l s).rel), .int .i64 ((gS8 l s).pred), .int .i64 ((gS8 l s).succ)]), some (.blk [.int .i64 ((s.at_ : Nat) : Int)]), some (.row 3 1 (ps.length + 1) 0 (nmF (ps ++ [((s.at_ : Nat) : Int)])))])] A rfl rfl rfl rfl (by kernel_rfl) ⟨trivial, ⟨appE (i := 2) hX (ps.length + 1) (nmF (ps ++ [((s.at_ : Nat) : Int)])) rfl rfl rfl rfl (by omega) rfl (fun k hk => by show [SV.int .i64 _] = [SV.int .i64 _]; rw [getD_app_l hk]) (by show [SV.int .i64 _] = _; rw [getD_app_1]) (fun z => ⟨_, rfl, rfl⟩), ⟨trivial, trivial⟩⟩⟩ trivial fun A => N9 14 A rfl (ok_d (by omega) <| okE_nil) fun A => N9 6 A rfl rfl fun A => have A := A.thSay 1 7 (r' := paR s.r (gS8 l s) old) (at' := (((s.at_ + 1 : Nat) : Nat) : Int)) (m' := (ps ++ [((s.at_ : Nat) : Int)]).length) rfl rfl (by unfold paR; rw [if_neg (ne_true_of_eq_false h9)]) (by omega) (by rw [List.length_append]; rfl) rfl; RETW hX (B.trans A) rfl rfl rfl rfl (thJ_of (z := ⟨s.at_ + 1, paR s.r (gS8 l s) old⟩) (Sy.giveT (B.trans A) 1 7 (A.at_pre hG1) rfl rfl rfl rfl) rfl (by rw [List.length_append]; show ps.length + 1 ≤ s.at_ + 1; omega)))))
    (fun h7 A => False.elim (by simp only [Bool.or_eq_true, Bool.or_eq_false_iff, beq_iff_eq, beq_eq_false_iff_ne, ne_eq] at h1 h2; omega))))
  (fun h1 A => N9 10 A rfl rfl fun A => fork 50 A rfl
   (fun h10 A => False.elim (by simp only [Bool.or_eq_true, Bool.or_eq_false_iff, beq_iff_eq, beq_eq_false_iff_ne, ne_eq] at h1 h10; omega))
   (fun h10 A => N9 11 A rfl rfl fun A => forkE 58 A rfl
    (fun h11 A => False.elim (by simp only [Bool.or_eq_true, Bool.or_eq_false_iff, beq_iff_eq, beq_eq_false_iff_ne, ne_eq] at h1 h10; omega))
    (fun h11 A => N9 11 A rfl rfl fun A => forkE 68 A rfl
     (fun h12 A => False.elim (by simp only [Bool.or_eq_true, Bool.or_eq_false_iff, beq_iff_eq, beq_eq_false_iff_ne, ne_eq] at h1 h10; omega))
     (fun h12 A => N9 10 A rfl rfl fun A => fork 81 A rfl
      (fun h13 A => False.elim (by simp only [Bool.or_eq_true, Bool.or_eq_false_iff, beq_iff_eq, beq_eq_false_iff_ne, ne_eq] at h1 h10 h13; omega))
      (fun h13 A => N9 4 A rfl rfl fun A => DRAWN hX hmo [] [(10, .sl 7 (ps.length + 1) 0, [none, some (.blk (thS (.sla ao l.length cp) s.r ((s.at_ : Nat) : Int) (.sl 2 ps.length 0))), none, some (.blk [.z9, .z9, .z9, .z9, .z9, .z9, .ff, .ff, .z9, .z9, .ff, .ff, .ff, .z9, .z9]), some (.blk (inQ9 (gS8 l s))), some (.blk [.z9, .int .i64 ((ps.length : Nat) : Int), .int .i64 ((s.at_ : Nat) : Int), .int .i64 ((gS8 l s).op), .z9, .z9, .bool (((gS8 l s).op == 4) || ((gS8 l s).op == 6)), .bool (((gS8 l s).op == 5) || ((gS8 l s).op == 6)), .z9, .z9, .bool ((gS8 l s).acq), .bool ((gS8 l s).weak), .bool ((gS8 l s).rel), .int .i64 ((gS8 l s).pred), .int .i64 ((gS8 l s).succ)]), some (.blk [.int .i64 ((s.at_ : Nat) : Int)]), some (.row 3 1 (ps.length + 1) 0 (nmF (ps ++ [((s.at_ : Nat) : Int)])))])] A rfl rfl rfl rfl (by kernel_rfl) ⟨trivial, ⟨appE (i := 2) hX (ps.length + 1) (nmF (ps ++ [((s.at_ : Nat) : Int)])) rfl rfl rfl rfl (by omega) rfl (fun k hk => by show [SV.int .i64 _] = [SV.int .i64 _]; rw [getD_app_l hk]) (by show [SV.int .i64 _] = _; rw [getD_app_1]) (fun z => ⟨_, rfl, rfl⟩), ⟨trivial, trivial⟩⟩⟩ trivial fun A => N9 14 A rfl (ok_d (by omega) <| okE_nil) fun A => N9 6 A rfl rfl fun A => have A := A.thSay 1 7 (r' := paR s.r (gS8 l s) old) (at' := (((s.at_ + 1 : Nat) : Nat) : Int)) (m' := (ps ++ [((s.at_ : Nat) : Int)]).length) rfl rfl (by unfold paR; rw [if_neg (ne_true_of_eq_false h13)]) (by omega) (by rw [List.length_append]; rfl) rfl; RETW hX (B.trans A) rfl rfl rfl rfl (thJ_of (z := ⟨s.at_ + 1, paR s.r (gS8 l s) old⟩) (Sy.giveT (B.trans A) 1 7 (A.at_pre hG1) rfl rfl rfl rfl) rfl (by rw [List.length_append]; show ps.length + 1 ≤ s.at_ + 1; omega)))))))
end Go.Proofs.YtjkppaijicjpoaaGreatDoor.Mc
namespace Go.Proofs.YtjkppaijicjpoaaGreatDoor.Mc
open Go.RowKit
set_option linter.unusedVariables false
set_option linter.unusedSimpArgs false
set_option maxRecDepth 100000
set_option maxHeartbeats 2000000
set_option simprocs false
theorem cRegI_ (cs : List Cde) (ts : List Th) (nn : Nat) (th g : Int) (hth : 0 ≤ th ∧ th < ((nn : Nat) : Int)) (hg : 0 ≤ g ∧ g < 8) : Fn Tryz.prog 17 [.ptr 0 0, .int .i64 th, .int .i64 g] [some (.blk [.sl 1 nn 0]), some (coR9 cs ts nn)] (Rt (.int .i64 ([((ts.getD ((th).toNat) Th.z).r 0), ((ts.getD ((th).toNat) Th.z).r 1), ((ts.getD ((th).toNat) Th.z).r 2), ((ts.getD ((th).toNat) Th.z).r 3), ((ts.getD ((th).toNat) Th.z).r 4), ((ts.getD ((th).toNat) Th.z).r 5), ((ts.getD ((th).toNat) Th.z).r 6), ((ts.getD ((th).toNat) Th.z).r 7)].getD (g).toNat 0)) [some (.blk [.sl 1 nn 0]), some (coR9 cs ts nn)]) :=
 enterM (n := 21) (by kernel_rfl) Tryz.func17 rfl rfl rfl fun G w a h0 A => N9 16 A rfl rfl fun A => fork 12 A rfl
  (fun h1 A => absurd h1 (by simp; omega))
  (fun h1 A => N9 7 A rfl rfl fun A => C9 [0, 1] (ofI_ cs ts nn th hth) A rfl fun A => N9 1 A rfl rfl fun A => q_eff A rfl (nckE rfl rfl rfl rfl (by omega)) fun A => N9 7 A rfl (ok_d (by omega) <| ok_d (by omega) <| ok_d (by omega) <| ok_d (by omega) <| ok_d (by omega) <| okE_nil) fun A => R9 A rfl h0 rfl rfl rfl)
end Go.Proofs.YtjkppaijicjpoaaGreatDoor.Mc
namespace Go.Proofs.YtjkppaijicjpoaaGreatDoor.Mc
open Go.RowKit
set_option linter.unusedVariables false
set_option linter.unusedSimpArgs false
set_option maxRecDepth 100000
set_option maxHeartbeats 2000000
set_option simprocs false
section
variable {P : Program} {n : Nat} {ks : List Nat} {G0 : Gr} {w0 : World} {T : List (Nat × SV)} {H : Hp} {ops : Array Oper} {o : Oper}
theorem nckL {x : Operand} {i s m q : Nat} {j : Int} {f : Nat → List SV} (hop : o.op = .nilCheck x) (hg : guardS ops T o.guard = some .run) (hx : evS T x = some (.el i s j q)) (hi : lg H i = some (some (.lst s m f))) (hj : j.toNat < m) : EffOK P n ops ks G0 w0 T H o (.el i s j q) H := fun G a w A => by
 have hw := gd_run (gd := none) A hg
 obtain ⟨d, op, ty, pos, af, gd⟩ := o
 simp only at hop
 subst hop
 have hvx := A.ev hx
 rw [lg_is] at hi
 obtain ⟨L, q1⟩ : ∃ L, (G[i]?).getD none = some L := by
  rcases (A.mem.ent i _ hi).2 with h | ⟨L, q1, _⟩
  ·omega
  ·exact ⟨L, q1⟩
 have hp : G[i]? = some (some L) := by
  cases hq : G[i]? with
  | none => rw [hq] at q1; cases q1
  | some p => rw [hq] at q1; simp only [Option.getD_some] at q1; rw [q1]
 have hden : den G (.el i s j q) = some (.pointer (some ⟨L.b, L.pre.length + j.toNat * s + q, none⟩)) := by unfold den; rw [hp]; rfl
 rw [hden] at hvx
 exact d_nilCheck hw (by rw [← Option.some.inj hvx]) ⟨[], by simpa using hden, by simpa using A.ms⟩
end
theorem cRegX_ (cs : List Cde) (ts : List Th) (nn : Nat) (th g : Int) (hg : ¬ (0 ≤ g ∧ g < 8)) : Fn Tryz.prog 17 [.ptr 0 0, .int .i64 th, .int .i64 g] [some (.blk [.sl 1 nn 0]), some (coR9 cs ts nn)] (Rt (.int .i64 0) [some (.blk [.sl 1 nn 0]), some (coR9 cs ts nn)]) :=
 enterM (n := 21) (by kernel_rfl) Tryz.func17 rfl rfl rfl fun G w a h0 A => N9 16 A rfl rfl fun A => fork 12 A rfl
  (fun h1 A => N9 7 A rfl rfl fun A => R9 A rfl h0 rfl rfl rfl)
  (fun h1 A => absurd h1 (by simp; omega))
theorem cRegO_ (cs : List Cde) (ts : List Th) (nn : Nat) (th : Int) (hth : ¬ (0 ≤ th ∧ th < ((nn : Nat) : Int))) : Fn Tryz.prog 17 [.ptr 0 0, .int .i64 th, .z9] [some (.blk [.sl 1 nn 0]), some (coR9 cs ts nn)] (Rt (.int .i64 0) [some (.blk [.sl 1 nn 0]), some (coR9 cs ts nn)]) :=
 enterM (n := 21) (by kernel_rfl) Tryz.func17 rfl rfl rfl fun G w a h0 A => N9 16 A rfl rfl fun A => fork 12 A rfl
  (fun h1 A => absurd h1 (by simp; omega))
  (fun h1 A => N9 7 A rfl rfl fun A => C9 [0, 1] (ofO_ cs ts nn th hth) A rfl fun A => N9 9 A rfl (ok_d (by omega) <| ok_d (by omega) <| okE_nil) fun A => R9 A rfl h0 rfl rfl rfl)
theorem rg8i {r : Rg} {g : Int} (h : 0 ≤ g ∧ g < 8) : r g.toNat = [(r 0), (r 1), (r 2), (r 3), (r 4), (r 5), (r 6), (r 7)].getD g.toNat 0 := by
 rcases lt8 h with rfl | rfl | rfl | rfl | rfl | rfl | rfl | rfl <;> rfl
theorem tgetL_ (l : List In) (ao : Option Addr) (cp : Nat) (at_ : Int) (r : Rg) (pv : Value) (g : Int) (hg : -1 ≤ g ∧ g < 8) : Fn Tryz.prog 57 [.el 0 11 0 0, .int .i64 g] [some (.lst 11 1 (fun _ => thS (.sla ao l.length cp) r at_ (.v pv)))] (Rt (.int .i64 (rgO r g 0)) [some (.lst 11 1 (fun _ => thS (.sla ao l.length cp) r at_ (.v pv)))]) :=
 enterM (n := 13) (by kernel_rfl) Tryz.func57 rfl rfl rfl fun G w a h0 A => N9 12 A rfl rfl fun A => forkD 6 A rfl
  (fun h1 A => N9 7 A rfl rfl fun A => R9 A rfl h0 rfl (by unfold rgO; rw [if_pos (by omega)] <;> rfl) rfl)
  (fun h1 A => N9 7 A rfl rfl fun A => q_eff A rfl (nckL rfl rfl rfl rfl (by decide)) fun A => N9 7 A rfl (ok_d (by omega) <| ok_d (by omega) <| ok_d (by omega) <| ok_d (by omega) <| ok_d (by omega) <| okE_nil) fun A => R9 A rfl h0 rfl (by unfold rgO; rw [if_neg (by omega), rg8i (r := r) (g := g) (by omega)] <;> rfl) rfl)
theorem tDatL_ (l : List In) (ao : Option Addr) (cp : Nat) (at_ : Int) (r : Rg) (pv : Value) (i : In) (ha : -1 ≤ i.ra ∧ i.ra < 8) : Fn Tryz.prog 36 [.el 0 11 0 0, .agg (inQ9 i)] [some (.lst 11 1 (fun _ => thS (.sla ao l.length cp) r at_ (.v pv)))] (Rt (.int .i64 (datT r i)) [some (.lst 11 1 (fun _ => thS (.sla ao l.length cp) r at_ (.v pv)))]) :=
 enterM (n := 19) (by kernel_rfl) Tryz.func36 rfl rfl rfl fun G w a h0 A => N9 19 A rfl rfl fun A => fork 12 A rfl
  (fun h1 A => N9 9 A rfl rfl fun A => R9 A rfl h0 rfl (by unfold datT; rw [h1] <;> rfl) rfl)
  (fun h1 A => N9 8 A rfl rfl fun A => C9 [0] (tgetL_ l ao cp at_ r pv i.ra (by omega)) A rfl fun A => N9 4 A rfl rfl fun A => R9 A rfl h0 rfl (by unfold datT; rw [h1] <;> rfl) rfl)
theorem tWhrL_ (l : List In) (ao : Option Addr) (cp : Nat) (at_ : Int) (r : Rg) (pv : Value) (i : In) (hs : i.sz = 1 ∨ i.sz = 2 ∨ i.sz = 4 ∨ i.sz = 8) (hx : -1 ≤ i.ix ∧ i.ix < 8) : Fn Tryz.prog 34 [.el 0 11 0 0, .agg (inQ9 i)] [some (.lst 11 1 (fun _ => thS (.sla ao l.length cp) r at_ (.v pv)))] (Rt (.agg [.int .i64 i.loc, .int .i64 (bmask0 (bplace0 i.off (rgO r i.ix 0) i.sz) i.sz)]) [some (.lst 11 1 (fun _ => thS (.sla ao l.length cp) r at_ (.v pv)))]) :=
 enterM (n := 11) (by kernel_rfl) Tryz.func34 rfl rfl rfl fun G w a h0 A => N9 7 A rfl rfl fun A => DRAWN hX hmo [(5, .agg [.int .i64 i.loc, .int .i64 (bmask0 (bplace0 i.off (rgO r i.ix 0) i.sz) i.sz)])] [(4, .int .i64 (rgO r i.ix 0), [some (.lst 11 1 (fun _ => thS (.sla ao l.length cp) r at_ (.v pv))), some (.blk (inQ9 i)), some (.blk [.z9, .z9])])] A rfl rfl rfl rfl (by kernel_rfl) ⟨callE [0] (tgetL_ l ao cp at_ r pv i.ix hx) rfl rfl rfl rfl rfl rfl rfl, ⟨trivial, trivial⟩⟩ ⟨.inl ⟨_, _, rfl, rfl, rSpan_ i (rgO r i.ix 0) hs⟩, trivial⟩ fun A => N9 2 A rfl rfl fun A => R9 A rfl h0 rfl rfl rfl
end Go.Proofs.YtjkppaijicjpoaaGreatDoor.Mc
namespace Go.Proofs.YtjkppaijicjpoaaGreatDoor
open Go.RowKit
set_option linter.unusedVariables false
set_option linter.unusedSimpArgs false
set_option linter.unusedSectionVars false
def adO (ao : Option Addr) (s : Nat) (j : Int) (q : Nat) : Option Addr := ao.map fun a => ⟨a.block, a.off + j.toNat * s + q, none⟩
section
variable {P : Program} {Y : Tb} {n : Nat} {ks : List Nat} {G0 : Gr} {w0 : World} {T : List (Nat × SV)} {H : Hp} {G : Gr} {a : Act} {w : World} {ops : Array Oper} {o : Oper} {Q : Exit → Act → World → Prop} {K : List Fr} {pos : Pos}
theorem fadE {x : Operand} {t fi s off nn : Nat} {j : Int} {ao : Option Addr} {f : Nat → List SV} (hop : o.op = .fieldAddr t x fi) (hg : guardS ops T o.guard = some .run) (hx : evS T x = some (.v (.pointer (adJ ao s j)))) (h0 : LstAt ao s nn f w0 ks) (hj : 0 ≤ j ∧ j < ((nn : Nat) : Int)) (hf : fieldOff P t fi = some off) :
  EffOK P n ops ks G0 w0 T H o (.v (.pointer (adO ao s j off))) H := fun G a w A => by
 rcases h0.2 with q | ⟨b, q, rfl, _⟩
 ·omega
 have hw := gd_run (gd := none) A hg
 obtain ⟨d, op, ty, pos, af, gd⟩ := o
 simp only at hop
 subst hop
 have hvx := A.ev hx
 unfold den at hvx
 simp only [Option.some.injEq] at hvx
 exact d_fieldAddr hw hvx.symm hf ⟨[], rfl, by simpa using A.ms⟩
theorem ldoE {x : Operand} {ty s nn q : Nat} {j : Int} {ao : Option Addr} {f : Nat → List SV} {r : List SV} {v : SV} {z : Value} (hX : Y.ok P = true) (hop : o.op = .load ty x) (hg : guardS ops T o.guard = some .run) (hx : evS T x = some (.v (.pointer (adO ao s j q)))) (h0 : LstAt ao s nn f w0 ks) (hj : 0 ≤ j ∧ j < ((nn : Nat) : Int)) (hr : f j.toNat = r) (hc : cellS ⟨Y, true⟩ ty r q = some v) (hv : den [] v = some z) :
  EffOK P n ops ks G0 w0 T H o v H := fun G a w A => by
 have h1 := LstAt.ok w0 ks w ks h0 A.mix (fun b hb => .inl hb)
 rcases h1.2 with q | ⟨b, q', rfl, _, _, h4⟩
 ·omega
 have hw := gd_run (gd := none) A hg
 obtain ⟨d, op, ty, pos, af, gd⟩ := o
 simp only at hop
 subst hop
 have hvx := A.ev hx
 unfold den at hvx
 simp only [Option.some.injEq] at hvx
 obtain ⟨vs, v1, v2⟩ := h4 j.toNat (by omega)
 rw [hr] at v1
 have v3 : denL G r = some vs := by simpa using denL_mono G r v1
 have v4 : den G v = some z := by simpa using den_mono G v hv
 exact cellS_load (X := ⟨Y, true⟩) hX hc v3 v4 v2 hw hvx.symm ⟨[], by simpa using v4, by simpa using A.ms⟩
theorem GEM (p : Prop) (h1 : p → Goal P Q K pos a w) (h2 : ¬ p → Goal P Q K pos a w) : Goal P Q K pos a w := (Classical.em p).elim h1 h2
theorem GNAT (j nn : Nat) (h1 : ∀ k, j = k + 1 → k < nn → Goal P Q K pos a w) (h2 : ¬ (1 ≤ j ∧ j ≤ nn) → Goal P Q K pos a w) : Goal P Q K pos a w :=
 GEM (1 ≤ j ∧ j ≤ nn) (fun h => h1 (j - 1) (by omega) (by omega)) h2
end
section
variable {P : Program} {n : Nat} {ks : List Nat} {G0 : Gr} {w0 : World} {T : List (Nat × SV)} {L : List Oper} {xs : List SV} {ef : List Nat} {tb : List (List Nat × List Nat × Hp)} {c rs : List Nat} {H : Hp} {bs : List Bool} {o : Oper} {l : List Oper} {i : Nat}
theorem obs_t (h : StepOb P n ks G0 w0 T L xs ef tb c rs H i o) (k : ObS P n ks G0 w0 T L xs ef tb c rs H bs l (i + 1)) : ObS P n ks G0 w0 T L xs ef tb c rs H (true :: bs) (o :: l) i := ⟨h, k⟩
theorem obs_e {l : List Oper} {i : Nat} : ObS P n ks G0 w0 T L xs ef tb c rs H [] l i := by unfold ObS; trivial
end
section
variable {P : Program} {n : Nat} {ks : List Nat} {G0 : Gr} {w0 : World} {T : List (Nat × SV)} {H : Hp} {G : Gr} {a : Act} {w : World} {l : List Oper} {Q : Exit → Act → World → Prop} {K : List Fr} {id : Nat}
theorem ANYX (hmo : P.follows .mixedOrders = true) (xs : List SV) (T1 T2 : List (Nat × SV)) (ts : List Nat) (B : List Bool) (A : Sy n T H ks G0 w0 G a w) (h1 : keepT l T = T1) (hB : mayR l.toArray [] [] l 0 = B) (hl : xs.length = l.length) (hfit : fitB l.toArray n [] = true) (h2 : cutT (putS l xs T1) ts = some T2)
  (hO : ObS P n ks G0 w0 T1 l xs [] [([], [], H)] [] [] H B l 0) (hk : ∀ {G a w}, Sy n T2 H ks G0 w0 G a w → Goal P Q K .norm a w) : Goal P Q K (.code (.region id l.toArray true)) a w := by
 subst h1
 subst hB
 exact ANY hmo xs [] [] 0 [([], [], H)] _ A (by simp) rfl rfl rfl rfl hl hfit ⟨hO, trivial⟩ fun A => hk (A.cut ts h2)
end
section
variable {n : Nat} {ks : List Nat} {G0 : Gr} {w0 : World} {T T' : List (Nat × SV)} {H H' : Hp} {G : Gr} {a : Act} {w : World} {Q : Exit → Act → World → Prop} {K K' : List Fr} {pos pos' : Pos} {E : Ob}
theorem oT9 {L l : List Oper} {xs : List SV} {ef : List Nat} {tb : List (List Nat × List Nat × Hp)} {c rs : List Nat} {i : Nat} {o : Oper} {x : SV} {c' rs' : List Nat} {bs : List Bool} (k' : Nat) (h : (xs[i]?, tb[k']?, ((ef.all fun p => c'.contains p == (Nat.beq p i || c.contains p)) && c'.all ef.contains), (rs'.all fun r => rs.contains r && avS r x), stepS ⟨X, true⟩ n L.toArray (twL o L xs 0 T) H o) = (some x, some (c', rs', H), true, true, some (.val x E))) (hE : okE E) (k : ObS Tryz.prog n ks G0 w0 T L xs ef tb c rs H bs l (i + 1)) : ObS Tryz.prog n ks G0 w0 T L xs ef tb c rs H (true :: bs) (o :: l) i := obs_t (oV9 k' h hE) k
theorem oS9 {L l : List Oper} {xs : List SV} {ef : List Nat} {tb : List (List Nat × List Nat × Hp)} {c rs : List Nat} {i : Nat} {o : Oper} {x : SV} {c' rs' : List Nat} {bs : List Bool} (k' : Nat) (h : (xs[i]?, tb[k']?, ((ef.all fun p => c'.contains p == (Nat.beq p i || c.contains p)) && c'.all ef.contains), (rs'.all fun r => rs.contains r && avS r x), H'.length) = (some x, some (c', rs', H'), true, true, H.length)) (e : EffOK Tryz.prog n L.toArray ks G0 w0 (twL o L xs 0 T) H o x H') (k : ObS Tryz.prog n ks G0 w0 T L xs ef tb c rs H bs l (i + 1)) : ObS Tryz.prog n ks G0 w0 T L xs ef tb c rs H (true :: bs) (o :: l) i := obs_t (oE9 k' h e) k
end
end Go.Proofs.YtjkppaijicjpoaaGreatDoor
namespace Go.Proofs.YtjkppaijicjpoaaGreatDoor.Mc
open Go.RowKit
set_option linter.unusedVariables false
set_option linter.unusedSimpArgs false
set_option maxRecDepth 100000
set_option maxHeartbeats 2000000
set_option simprocs false
def LkI (cs : List Cde) (ts : List Th) (nn : Nat) (bs bo : Nat → Nat) (da : Nat → Option Addr) (dp : Nat → Nat) (pv : Nat → Value) : Amb := fun w ks => CodesAt cs w ks ∧ ∀ k, k < nn → LstAt (some ⟨bs k, bo k, none⟩) 11 1 (fun _ => thS (.sla (da k) (cs.getD k Cde.z).l.length (dp k)) (ts.getD k Th.z).r (((ts.getD k Th.z).at_ : Nat) : Int) (.v (pv k))) w ks ∧ CdAt (da k) (cs.getD k Cde.z).l w ks
theorem LkI.ok {cs : List Cde} {ts : List Th} {nn : Nat} {bs bo : Nat → Nat} {da : Nat → Option Addr} {dp : Nat → Nat} {pv : Nat → Value} : Amb.OK (LkI cs ts nn bs bo da dp pv) := fun w ks w' ks' h m hk => ⟨CodesAt.ok _ _ _ _ h.1 m hk, fun k hk' => ⟨LstAt.ok _ _ _ _ (h.2 k hk').1 m hk, LstAt.ok _ _ _ _ (h.2 k hk').2 m hk⟩⟩
theorem isT {a b : Nat} (h : a < b) : (!(((a : Nat) : Int) == ((b : Nat) : Int))) = true := by simp; omega
theorem isE {a b : Nat} (h1 : a ≤ b) (h : ¬ a < b) : a = b := by omega
theorem isF {a b : Nat} (h1 : a ≤ b) (h : ¬ a < b) : (!(((a : Nat) : Int) == ((b : Nat) : Int))) = false := by simp; omega
theorem mopE {l : List In} {a : Nat} (h : a = l.length) : mopI (l.getD a In.z) = false := by
 subst h; rw [List.getD_eq_getElem?_getD, List.getElem?_eq_none (Nat.le_refl _)]; rfl
theorem mop4 {i : In} (h : i.op = 4) : mopI i = true := by unfold mopI; rw [h]; rfl
theorem mop5 {i : In} (h : i.op = 5) : mopI i = true := by unfold mopI; rw [h]; rfl
theorem mop6 {i : In} (h : i.op = 6) : mopI i = true := by unfold mopI; rw [h]; rfl
theorem mop0 {i : In} (h4 : ¬ i.op = 4) (h5 : ¬ i.op = 5) (h6 : ¬ i.op = 6) : mopI i = false := by unfold mopI; simp; omega
theorem spWF {i : In} {r : Rg} (hm : mopI i = true) : (!(((spL i) == (i.loc)) && ((spM r i) == (bmask0 (bplace0 i.off (rgO r i.ix 0) i.sz) i.sz)))) = false := by unfold spL spM; rw [hm]; simp
theorem spD5 {i : In} {r : Rg} (h5 : i.op = 5) (ha : -1 ≤ i.ra ∧ i.ra < 8) : (!((spD r i) == (bget0 (datT r i) i.sz))) = false := by
 have e : spD r i = bget0 (datT r i) i.sz := by
  unfold spD datT rgO
  rw [mop5 h5, if_pos rfl, if_pos h5, h5]
  by_cases h : i.ra = -1
  ·rw [h]; rfl
  ·have h2 : ¬ i.ra < 0 := by omega
   rw [if_neg h, if_neg h, decide_eq_false h2]; rfl
 rw [e, beq_self_eq_true]; rfl
theorem spD6 {i : In} {r : Rg} (h6 : i.op = 6) (ha : 0 ≤ i.ra ∧ i.ra < 8) : (!((spD r i) == (datT r i))) = false := by
 have e : spD r i = datT r i := by
  unfold spD datT rgO
  have h : ¬ i.ra = -1 := by omega
  rw [mop6 h6, if_pos rfl, if_neg (by omega), if_pos h6, h6, if_neg h]; rfl
 rw [e, beq_self_eq_true]; rfl
abbrev kQ8 (cs : List Cde) (ts : List Th) (k : Nat) : In := (cs.getD (((k : Int)).toNat) Cde.z).l.getD ((((ts.getD (((k : Int)).toNat) Th.z).at_ : Nat) : Int)).toNat In.z
abbrev sQ8 (ts : List Th) (k : Nat) : Th := ts.getD (((k : Int)).toNat) Th.z
abbrev cQ8 (cs : List Cde) (k : Nat) : Cde := cs.getD (((k : Int)).toNat) Cde.z
abbrev bQ8 (cs : List Cde) (ts : List Th) (k : Nat) : Int := bmask0 (bplace0 (kQ8 cs ts k).off (rgO ((sQ8 ts k).r) (kQ8 cs ts k).ix 0) (kQ8 cs ts k).sz) (kQ8 cs ts k).sz
theorem looks_ (cs : List Cde) (ts : List Th) (nn : Nat) (bs bo : Nat → Nat) (da : Nat → Option Addr) (dp : Nat → Nat) (pv : Nat → Value) (hC : CoreOK cs ts nn) (hn3 : nn ≤ 1000) : FnI (LkI cs ts nn bs bo da dp pv) Tryz.prog 11 [.ptr 0 0, .sl 2 nn 0] [some (.blk [.sl 1 nn 0]), some (coR9 cs ts nn), some (.row 37 1 nn 0 (fun zz => [.v (.pointer (some ⟨bs zz, bo zz, none⟩))]))] (Rt (.tt) [some (.blk [.sl 1 nn 0]), some (coR9 cs ts nn), some (.row 37 1 nn 0 (fun zz => [.v (.pointer (some ⟨bs zz, bo zz, none⟩))]))]) :=
 enterI (n := 245) (by kernel_rfl) Tryz.func11 rfl rfl rfl fun G w a h0 hI A => N9 9 A rfl rfl fun A => C9 [0, 1] (cThreads_ cs ts nn) A rfl fun A => N9 5 A rfl rfl fun A => forkN 20 A rfl
  (fun h1 A => absurd h1 (fun h => h rfl))
  (fun h1 A => N9 10 A rfl rfl fun A => LOOP1 (fun (j : Nat) => [(0, .ptr 0 0), (1, .sl 2 nn 0), (4, .ff), (5, .int .i64 ((j : Int) - 1))]) (fun (j : Nat) => [some (.blk [.sl 1 nn 0]), some (coR9 cs ts nn), some (.row 37 1 nn 0 (fun zz => [.v (.pointer (some ⟨bs zz, bo zz, none⟩))]))]) (fun (j : Nat) => j ≤ nn + 2) (fun (j : Nat) => nn + 2 - j) 0 (Nat.zero_le _) ((A.cut [0, 1, 4, 5] rfl).trunc 3 rfl rfl rfl (by simp only [List.length_cons, List.length_nil] at h0; omega)) fun j hJ {G a w} A => N9 9 A rfl rfl fun A => forkD 24 A rfl
    (fun h2 A => N9 9 A rfl rfl fun A => GNAT j nn
     (fun k hk1 hk => have hth := (hI.2 k hk).1; have hcd : CdAt (da ((k : Int)).toNat) (cQ8 cs k).l _ _ := (hI.2 k hk).2; have hatk : (sQ8 ts k).at_ ≤ (cQ8 cs k).l.length := hC.a k (by have := hC.m; omega); have A := sy_sayD A 5 (.int .i64 (k : Int)) rfl (fun _ => congrArg (fun b => some (Value.int .i64 b)) (by omega)); have A := sy_sayD A 29 (.int .i64 (k : Int)) rfl (fun _ => congrArg (fun b => some (Value.int .i64 b)) (by omega)); I9 [0, 1] CodesAt.ok hI.1 (cReadyI_ cs ts nn (k : Int) hC (by omega)) A rfl fun A => N9 12 A rfl rfl fun A => I9 [0, 1] CodesAt.ok hI.1 (cSpotI_ cs ts nn (k : Int) hC (by omega)) A rfl fun A => N9 23 A rfl rfl fun A => fork 47 A rfl
      (fun h3 A => absurd h3 (by simp; omega))
      (fun h3 A => N9 13 A rfl (ok_d (by omega) <| ok_d (by omega) <| okE_nil) fun A => ADOPTQ 11 hth A rfl rfl fun A => ANY hmo [.el 5 11 0 0, .el 5 11 0 0, .el 5 11 0 9, .int .i64 (((sQ8 ts k).at_ : Nat) : Int), .el 5 11 0 0, .el 5 11 0 0, .el 5 11 0 0, .sla (da ((k : Int)).toNat) ((cQ8 cs k).l.length) (dp ((k : Int)).toNat), .int .i64 (((cQ8 cs k).l.length : Nat) : Int), .bool (decide ((((sQ8 ts k).at_ : Nat) : Int) < (((cQ8 cs k).l.length : Nat) : Int))), .bool (decide ((((sQ8 ts k).at_ : Nat) : Int) < (((cQ8 cs k).l.length : Nat) : Int)))] [] [] 0 [([], [], [some (.blk [.sl 1 nn 0]), some (coR9 cs ts nn), some (.row 37 1 nn 0 (fun zz => [.v (.pointer (some ⟨bs zz, bo zz, none⟩))])), some (.blk (inQ9 (kQ8 cs ts k))), some (.blk [.int .i64 (spL (kQ8 cs ts k)), .int .i64 (spM (sQ8 ts k).r (kQ8 cs ts k))]), some (.lst 11 1 (fun _ => thS (.sla (da ((k : Int)).toNat) ((cQ8 cs k).l.length) (dp ((k : Int)).toNat)) ((sQ8 ts k).r) (((sQ8 ts k).at_ : Nat) : Int) (.v (pv ((k : Int)).toNat))))])] [[true, true, true, true, true, true, true, true, true, true, true]] A rfl rfl rfl rfl (by kernel_rfl) rfl (by kernel_rfl) ⟨⟨oV9 0 rfl rfl, ⟨oE9 0 rfl (nckL rfl rfl rfl rfl (by decide)), ⟨oV9 0 rfl (ok_d (by omega) <| okE_nil), ⟨oV9 0 rfl (ok_d (by omega) <| okE_nil), ⟨oV9 0 rfl rfl, ⟨oE9 0 rfl (nckL rfl rfl rfl rfl (by decide)), ⟨oV9 0 rfl (ok_d (by omega) <| okE_nil), ⟨oV9 0 rfl (ok_d (by omega) <| okE_nil), ⟨oV9 0 rfl rfl, ⟨oV9 0 rfl rfl, ⟨oV9 0 rfl rfl, trivial⟩⟩⟩⟩⟩⟩⟩⟩⟩⟩⟩, trivial⟩ fun A => N9 3 A rfl rfl fun A => GEM ((sQ8 ts k).at_ < (cQ8 cs k).l.length)
       (fun hst => have hsn : Snd (kQ8 cs ts k) := (hC.r k (by have := hC.m; omega)).snd hst; have hsz : ((kQ8 cs ts k).op = 4 ∨ (kQ8 cs ts k).op = 5 ∨ (kQ8 cs ts k).op = 6) → ((kQ8 cs ts k).sz = 1 ∨ (kQ8 cs ts k).sz = 2 ∨ (kQ8 cs ts k).sz = 4 ∨ (kQ8 cs ts k).sz = 8) := (hC.r k (by have := hC.m; omega)).szs hst; have A := sy_sayD A 7 (.tt) rfl (fun _ => congrArg (fun b => some (Value.bool b)) (isT hst)); have A := sy_sayD A 12 (.tt) rfl (fun _ => congrArg (fun b => some (Value.bool b)) (decide_eq_true (show ((_ : Nat) : Int) < ((_ : Nat) : Int) from Int.ofNat_lt.2 hst))); ANY hmo [.tt, .tt, .ff, .ff, .ptr 0 0, .int .i64 (k : Int), .int .i64 (((sQ8 ts k).at_ : Nat) : Int), .el 5 11 0 0, .el 5 11 0 0, .el 5 11 0 9, .int .i64 (((sQ8 ts k).at_ : Nat) : Int), .ff, .ff, .ff, .tt, .tt, .agg (inQ9 (kQ8 cs ts k)), .el 5 11 0 0, .el 5 11 0 0, .el 5 11 0 0, .sla (da ((k : Int)).toNat) ((cQ8 cs k).l.length) (dp ((k : Int)).toNat), .el 5 11 0 0, .el 5 11 0 0, .el 5 11 0 9, .int .i64 (((sQ8 ts k).at_ : Nat) : Int), .v (.pointer (adJ (da ((k : Int)).toNat) 17 (((sQ8 ts k).at_ : Nat) : Int))), .agg (inQ9 (kQ8 cs ts k)), .ff, .ff, .ff] [] [] 0 [([], [], [some (.blk [.sl 1 nn 0]), some (coR9 cs ts nn), some (.row 37 1 nn 0 (fun zz => [.v (.pointer (some ⟨bs zz, bo zz, none⟩))])), some (.blk (inQ9 (kQ8 cs ts k))), some (.blk [.int .i64 (spL (kQ8 cs ts k)), .int .i64 (spM (sQ8 ts k).r (kQ8 cs ts k))]), some (.lst 11 1 (fun _ => thS (.sla (da ((k : Int)).toNat) ((cQ8 cs k).l.length) (dp ((k : Int)).toNat)) ((sQ8 ts k).r) (((sQ8 ts k).at_ : Nat) : Int) (.v (pv ((k : Int)).toNat))))])] [[true, true, true, true, true, true, true, true, true, true, true, true, true, true, true, true, true, true, true, true, true, true, true, true, true, true, true, true, true, true]] A rfl rfl rfl rfl (by kernel_rfl) rfl (by kernel_rfl) ⟨⟨oV9 0 rfl rfl, ⟨oV9 0 rfl rfl, ⟨oE9 0 rfl (eff_say (x := .bool (!(true == true))) (fun _ => congrArg (fun b => some (Value.bool b)) (by simp)) (eff_auto (X := ⟨_, true⟩) (out := .val _ _) hX rfl rfl)), ⟨oV9 0 rfl rfl, ⟨oV9 0 rfl rfl, ⟨oV9 0 rfl rfl, ⟨oE9 0 rfl (callE [0, 1] (cAtI_ cs ts nn (k : Int) (by omega)) rfl rfl rfl rfl rfl rfl rfl), ⟨oV9 0 rfl rfl, ⟨oE9 0 rfl (nckL rfl rfl rfl rfl (by decide)), ⟨oV9 0 rfl (ok_d (by omega) <| okE_nil), ⟨oV9 0 rfl (ok_d (by omega) <| okE_nil), ⟨oE9 0 rfl (eff_say (x := .bool (!((((sQ8 ts k).at_ : Nat) : Int) == (((sQ8 ts k).at_ : Nat) : Int)))) (fun _ => congrArg (fun b => some (Value.bool b)) (by simp)) (eff_auto (X := ⟨_, true⟩) (out := .val _ _) hX rfl rfl)), ⟨oV9 0 rfl rfl, ⟨oV9 0 rfl rfl, ⟨oV9 0 rfl rfl, ⟨oV9 0 rfl rfl, ⟨oV9 0 rfl rfl, ⟨oV9 0 rfl rfl, ⟨oE9 0 rfl (nckL rfl rfl rfl rfl (by decide)), ⟨oV9 0 rfl (ok_d (by omega) <| okE_nil), ⟨oV9 0 rfl (ok_d (by omega) <| okE_nil), ⟨oV9 0 rfl rfl, ⟨oE9 0 rfl (nckL rfl rfl rfl rfl (by decide)), ⟨oV9 0 rfl (ok_d (by omega) <| okE_nil), ⟨oV9 0 rfl (ok_d (by omega) <| okE_nil), ⟨oE9 0 rfl (ixcE (e := 56) rfl rfl rfl rfl hcd (by kernel_rfl) (by omega)), ⟨oE9 0 rfl (ldcE (insS (kQ8 cs ts k)) hX rfl rfl rfl hcd (by omega) rfl rfl), ⟨oE9 0 rfl (eff_say (x := .bool (!(((((kQ8 cs ts k).op) == ((kQ8 cs ts k).op)) && ((((kQ8 cs ts k).dst) == ((kQ8 cs ts k).dst)) && ((((kQ8 cs ts k).ra) == ((kQ8 cs ts k).ra)) && ((((kQ8 cs ts k).rb) == ((kQ8 cs ts k).rb)) && ((((kQ8 cs ts k).imm) == ((kQ8 cs ts k).imm)) && ((((kQ8 cs ts k).loc) == ((kQ8 cs ts k).loc)) && ((((kQ8 cs ts k).off) == ((kQ8 cs ts k).off)) && ((((kQ8 cs ts k).ix) == ((kQ8 cs ts k).ix)) && ((((kQ8 cs ts k).sz) == ((kQ8 cs ts k).sz)) && ((((kQ8 cs ts k).fn) == ((kQ8 cs ts k).fn)) && ((((kQ8 cs ts k).acq) == ((kQ8 cs ts k).acq)) && ((((kQ8 cs ts k).weak) == ((kQ8 cs ts k).weak)) && ((((kQ8 cs ts k).rel) == ((kQ8 cs ts k).rel)) && ((((kQ8 cs ts k).pred) == ((kQ8 cs ts k).pred)) && ((((kQ8 cs ts k).succ) == ((kQ8 cs ts k).succ)) && ((((kQ8 cs ts k).to_) == ((kQ8 cs ts k).to_)) && (((kQ8 cs ts k).zero) == ((kQ8 cs ts k).zero))))))))))))))))))))) (fun _ => congrArg (fun b => some (Value.bool b)) (by simp)) (eff_auto (X := ⟨_, true⟩) (out := .val _ _) hX rfl rfl)), ⟨oV9 0 rfl rfl, ⟨oV9 0 rfl rfl, trivial⟩⟩⟩⟩⟩⟩⟩⟩⟩⟩⟩⟩⟩⟩⟩⟩⟩⟩⟩⟩⟩⟩⟩⟩⟩⟩⟩⟩⟩⟩, trivial⟩ fun A => N9 11 A rfl rfl fun A => LOOP1 (fun (m : Nat) => [(0, .ptr 0 0), (1, .sl 2 nn 0), (4, .ff), (5, .int .i64 (k : Int)), (8, .ptr 4 0), (9, .int .i64 (spD (sQ8 ts k).r (kQ8 cs ts k))), (10, .bool (mopI (kQ8 cs ts k))), (11, .el 5 11 0 0), (12, .tt), (13, .int .i64 ((m : Int) - 1))]) (fun (m : Nat) => [some (.blk [.sl 1 nn 0]), some (coR9 cs ts nn), some (.row 37 1 nn 0 (fun zz => [.v (.pointer (some ⟨bs zz, bo zz, none⟩))])), some (.blk (inQ9 (kQ8 cs ts k))), some (.blk [.int .i64 (spL (kQ8 cs ts k)), .int .i64 (spM (sQ8 ts k).r (kQ8 cs ts k))]), some (.lst 11 1 (fun _ => thS (.sla (da ((k : Int)).toNat) ((cQ8 cs k).l.length) (dp ((k : Int)).toNat)) ((sQ8 ts k).r) (((sQ8 ts k).at_ : Nat) : Int) (.v (pv ((k : Int)).toNat))))]) (fun (m : Nat) => m ≤ 10) (fun (m : Nat) => 10 - m) 0 (Nat.zero_le _) ((A.cut [0, 1, 4, 5, 8, 9, 10, 11, 12, 13] rfl).trunc 6 rfl rfl rfl (by simp only [List.length_cons, List.length_nil] at h0; omega)) fun m hM {G a w} A => N9 7 A rfl rfl fun A => forkD 118 A rfl
         (fun h4 A => N9 21 A rfl rfl fun A => fork 126 A rfl
          (fun h5 A => N9 4 A rfl rfl fun A => q_eff A rfl (nckL rfl rfl rfl rfl (by decide)) fun A => N9 7 A rfl (ok_d (by omega) <| ok_d (by omega) <| ok_d (by simp at h5; omega) <| ok_d (by omega) <| ok_d (by simp at h5; omega) <| okE_nil) fun A => N9 4 A rfl rfl fun A => C9 [0, 1] (cRegI_ cs ts nn (k : Int) ((m : Int) - 1) (by omega) (by simp at h5; omega)) A rfl fun A => N9 4 A rfl rfl fun A => forkN 138 A rfl
           (fun h6 A => absurd h6 (fun h => h rfl))
           (fun h6 A => N9 9 A rfl (ok_d (by simp at h5; omega) <| okE_nil) fun A => ⟨m + 1, _, (by omega), (by omega), (((sy_sayD A 13 (.int .i64 (((m + 1 : Nat) : Int) - 1)) rfl (fun _ => congrArg (fun b => some (Value.int .i64 b)) (by omega))).cut [0, 1, 4, 5, 8, 9, 10, 11, 12, 13] rfl).trunc 6 rfl rfl rfl (by simp only [List.length_cons, List.length_nil] at h0; omega))⟩))
          (fun h5 A => N9 8 A rfl rfl fun A => C9 [0, 1] (cRegX_ cs ts nn (k : Int) ((m : Int) - 1) (by simp at h5; omega)) A rfl fun A => N9 4 A rfl rfl fun A => forkN 138 A rfl
           (fun h7 A => absurd h7 (fun h => h rfl))
           (fun h7 A => N9 9 A rfl (ok_d (by simp at h5; omega) <| okE_nil) fun A => ⟨m + 1, _, (by omega), (by omega), (((sy_sayD A 13 (.int .i64 (((m + 1 : Nat) : Int) - 1)) rfl (fun _ => congrArg (fun b => some (Value.int .i64 b)) (by omega))).cut [0, 1, 4, 5, 8, 9, 10, 11, 12, 13] rfl).trunc 6 rfl rfl rfl (by simp only [List.length_cons, List.length_nil] at h0; omega))⟩)))
         (fun h4 A => N9 4 A rfl rfl fun A => ANY hmo [.tt, .tt, .el 5 11 0 0, .el 5 11 0 0, .el 5 11 0 0, .sla (da ((k : Int)).toNat) ((cQ8 cs k).l.length) (dp ((k : Int)).toNat), .el 5 11 0 0, .el 5 11 0 0, .el 5 11 0 9, .int .i64 (((sQ8 ts k).at_ : Nat) : Int), .v (.pointer (adJ (da ((k : Int)).toNat) 17 (((sQ8 ts k).at_ : Nat) : Int))), .agg (inQ9 (kQ8 cs ts k)), .bool ((((kQ8 cs ts k).op == 4) || ((kQ8 cs ts k).op == 5)) || ((kQ8 cs ts k).op == 6)), .bool ((((kQ8 cs ts k).op == 4) || ((kQ8 cs ts k).op == 5)) || ((kQ8 cs ts k).op == 6)), .bool ((((kQ8 cs ts k).op == 4) || ((kQ8 cs ts k).op == 5)) || ((kQ8 cs ts k).op == 6))] [] [] 0 [([], [], [some (.blk [.sl 1 nn 0]), some (coR9 cs ts nn), some (.row 37 1 nn 0 (fun zz => [.v (.pointer (some ⟨bs zz, bo zz, none⟩))])), some (.blk (inQ9 (kQ8 cs ts k))), some (.blk [.int .i64 (spL (kQ8 cs ts k)), .int .i64 (spM (sQ8 ts k).r (kQ8 cs ts k))]), some (.lst 11 1 (fun _ => thS (.sla (da ((k : Int)).toNat) ((cQ8 cs k).l.length) (dp ((k : Int)).toNat)) ((sQ8 ts k).r) (((sQ8 ts k).at_ : Nat) : Int) (.v (pv ((k : Int)).toNat))))])] [[true, true, true, true, true, true, true, true, true, true, true, true, true, true, true]] A rfl rfl rfl rfl (by kernel_rfl) rfl (by kernel_rfl) ⟨⟨oV9 0 rfl rfl, ⟨oV9 0 rfl rfl, ⟨oV9 0 rfl rfl, ⟨oE9 0 rfl (nckL rfl rfl rfl rfl (by decide)), ⟨oV9 0 rfl (ok_d (by omega) <| okE_nil), ⟨oV9 0 rfl (ok_d (by omega) <| okE_nil), ⟨oV9 0 rfl rfl, ⟨oE9 0 rfl (nckL rfl rfl rfl rfl (by decide)), ⟨oV9 0 rfl (ok_d (by omega) <| okE_nil), ⟨oV9 0 rfl (ok_d (by omega) <| okE_nil), ⟨oE9 0 rfl (ixcE (e := 56) rfl rfl rfl rfl hcd (by kernel_rfl) (by omega)), ⟨oE9 0 rfl (ldcE (insS (kQ8 cs ts k)) hX rfl rfl rfl hcd (by omega) rfl rfl), ⟨oE9 0 rfl (eff_pure rfl rfl (rMem_ (kQ8 cs ts k))), ⟨oV9 0 rfl rfl, ⟨oV9 0 rfl rfl, trivial⟩⟩⟩⟩⟩⟩⟩⟩⟩⟩⟩⟩⟩⟩⟩, trivial⟩ fun A => N9 3 A rfl rfl fun A => have A := sy_sayD A 15 (.bool (mopI (kQ8 cs ts k))) rfl (fun _ => congrArg (fun b => some (Value.bool b)) rfl); N9 6 A rfl rfl fun A => forkN 155 A rfl
          (fun h8 A => absurd h8 (by simp))
          (fun h8 A => N9 4 A rfl rfl fun A => GEM ((kQ8 cs ts k).op = 4)
           (fun h4 => have hm := mop4 h4; have A := sy_sayD A 15 (.tt) rfl (fun _ => congrArg (fun b => some (Value.bool b)) hm); have A := A.cut [0, 1, 4, 5, 8, 9, 10, 11, 12, 13, 15] rfl; ANYX hmo [.tt, .tt, .agg [.int .i64 (spL (kQ8 cs ts k)), .int .i64 (spM (sQ8 ts k).r (kQ8 cs ts k))], .el 5 11 0 0, .el 5 11 0 0, .el 5 11 0 0, .el 5 11 0 0, .sla (da ((k : Int)).toNat) ((cQ8 cs k).l.length) (dp ((k : Int)).toNat), .el 5 11 0 0, .el 5 11 0 0, .el 5 11 0 9, .int .i64 (((sQ8 ts k).at_ : Nat) : Int), .v (.pointer (adJ (da ((k : Int)).toNat) 17 (((sQ8 ts k).at_ : Nat) : Int))), .agg (inQ9 (kQ8 cs ts k)), .agg [.int .i64 ((kQ8 cs ts k).loc), .int .i64 (bQ8 cs ts k)], .ff, .ff, .el 5 11 0 0, .el 5 11 0 0, .el 5 11 0 0, .sla (da ((k : Int)).toNat) ((cQ8 cs k).l.length) (dp ((k : Int)).toNat), .el 5 11 0 0, .el 5 11 0 0, .el 5 11 0 9, .int .i64 (((sQ8 ts k).at_ : Nat) : Int), .v (.pointer (adJ (da ((k : Int)).toNat) 17 (((sQ8 ts k).at_ : Nat) : Int))), .v (.pointer (adO (da ((k : Int)).toNat) 17 (((sQ8 ts k).at_ : Nat) : Int) 0)), .int .i64 ((kQ8 cs ts k).op), .ff, .ff, .tup [], .tup [], .tup [], .tup [], .tup [], .tup [], .tup [], .tup [], .tup [], .tup [], .tup [], .tup [], .tup [], .tup [], .tup [], .tup [], .tup [], .tup [], .tup [], .tup [], .tup [], .tup [], .tup [], .tup [], .tup [], .tup [], .ff, .ff, .ff, .el 5 11 0 0, .el 5 11 0 0, .el 5 11 0 0, .sla (da ((k : Int)).toNat) ((cQ8 cs k).l.length) (dp ((k : Int)).toNat), .el 5 11 0 0, .el 5 11 0 0, .el 5 11 0 9, .int .i64 (((sQ8 ts k).at_ : Nat) : Int), .v (.pointer (adJ (da ((k : Int)).toNat) 17 (((sQ8 ts k).at_ : Nat) : Int))), .v (.pointer (adO (da ((k : Int)).toNat) 17 (((sQ8 ts k).at_ : Nat) : Int) 0)), .int .i64 ((kQ8 cs ts k).op), .ff, .ff, .tup [], .tup [], .tup [], .tup [], .tup [], .tup [], .tup [], .tup [], .tup [], .tup [], .tup [], .tup [], .tup [], .tup [], .ff, .ff, .ff] [(0, .ptr 0 0), (1, .sl 2 nn 0), (4, .ff), (5, .int .i64 (k : Int)), (8, .ptr 4 0), (9, .int .i64 (spD (sQ8 ts k).r (kQ8 cs ts k))), (10, .bool (mopI (kQ8 cs ts k))), (11, .el 5 11 0 0), (12, .tt), (13, .int .i64 ((m : Int) - 1)), (15, .tt)] [(0, .ptr 0 0), (1, .sl 2 nn 0), (4, .ff), (5, .int .i64 (k : Int)), (8, .ptr 4 0), (9, .int .i64 (spD (sQ8 ts k).r (kQ8 cs ts k))), (10, .bool (mopI (kQ8 cs ts k))), (11, .el 5 11 0 0), (12, .tt), (13, .int .i64 ((m : Int) - 1)), (15, .tt), (244, .ff)] [0, 1, 4, 5, 8, 9, 10, 11, 12, 13, 15, 244] (List.replicate 89 true) A (by kernel_rfl) (by kernel_rfl) (by kernel_rfl) (by kernel_rfl) (by kernel_rfl) (oT9 0 rfl rfl <| oT9 0 rfl rfl <| oT9 0 rfl rfl <| oT9 0 rfl rfl <| oT9 0 rfl rfl <| oS9 0 rfl (nckL rfl rfl rfl rfl (by decide)) <| oT9 0 rfl (ok_d (by omega) <| okE_nil) <| oT9 0 rfl (ok_d (by omega) <| okE_nil) <| oT9 0 rfl rfl <| oS9 0 rfl (nckL rfl rfl rfl rfl (by decide)) <| oT9 0 rfl (ok_d (by omega) <| okE_nil) <| oT9 0 rfl (ok_d (by omega) <| okE_nil) <| oS9 0 rfl (ixcE (e := 56) rfl rfl rfl rfl hcd (by kernel_rfl) (by omega)) <| oS9 0 rfl (ldcE (insS (kQ8 cs ts k)) hX rfl rfl rfl hcd (by omega) rfl rfl) <| oS9 0 rfl (callE [5] (tWhrL_ ((cQ8 cs k).l) (da ((k : Int)).toNat) (dp ((k : Int)).toNat) (((sQ8 ts k).at_ : Nat) : Int) ((sQ8 ts k).r) (pv ((k : Int)).toNat) (kQ8 cs ts k) (hsz (by omega)) (hsn.x (by omega))) rfl rfl rfl rfl rfl rfl rfl) <| oS9 0 rfl (eff_say (x := .bool (!((((spL (kQ8 cs ts k)) == ((kQ8 cs ts k).loc)) && ((spM (sQ8 ts k).r (kQ8 cs ts k)) == (bQ8 cs ts k)))))) (fun _ => congrArg (fun b => some (Value.bool b)) (spWF hm)) (eff_auto (X := ⟨_, true⟩) (out := .val _ _) hX rfl rfl)) <| oT9 0 rfl rfl <| oT9 0 rfl rfl <| oS9 0 rfl (nckL rfl rfl rfl rfl (by decide)) <| oT9 0 rfl (ok_d (by omega) <| okE_nil) <| oT9 0 rfl (ok_d (by omega) <| okE_nil) <| oT9 0 rfl rfl <| oS9 0 rfl (nckL rfl rfl rfl rfl (by decide)) <| oT9 0 rfl (ok_d (by omega) <| okE_nil) <| oT9 0 rfl (ok_d (by omega) <| okE_nil) <| oS9 0 rfl (ixcE (e := 56) rfl rfl rfl rfl hcd (by kernel_rfl) (by omega)) <| oS9 0 rfl (fadE rfl rfl rfl hcd (by omega) (by kernel_rfl)) <| oS9 0 rfl (ldoE (r := insS (kQ8 cs ts k)) (v := .int .i64 ((kQ8 cs ts k).op)) hX rfl rfl rfl hcd (by omega) rfl rfl rfl) <| oS9 0 rfl (eff_say (x := .bool (((kQ8 cs ts k).op) == 5)) (fun _ => congrArg (fun b => some (Value.bool b)) (beq_eq_false_iff_ne.2 (by omega))) (eff_auto (X := ⟨_, true⟩) (out := .val _ _) hX rfl rfl)) <| oT9 0 rfl rfl <| oT9 0 rfl rfl <| oT9 0 rfl rfl <| oT9 0 rfl rfl <| oT9 0 rfl rfl <| oT9 0 rfl rfl <| oT9 0 rfl rfl <| oT9 0 rfl rfl <| oT9 0 rfl rfl <| oT9 0 rfl rfl <| oT9 0 rfl rfl <| oT9 0 rfl rfl <| oT9 0 rfl rfl <| oT9 0 rfl rfl <| oT9 0 rfl rfl <| oT9 0 rfl rfl <| oT9 0 rfl rfl <| oT9 0 rfl rfl <| oT9 0 rfl rfl <| oT9 0 rfl rfl <| oT9 0 rfl rfl <| oT9 0 rfl rfl <| oT9 0 rfl rfl <| oT9 0 rfl rfl <| oT9 0 rfl rfl <| oT9 0 rfl rfl <| oT9 0 rfl rfl <| oT9 0 rfl rfl <| oT9 0 rfl rfl <| oT9 0 rfl rfl <| oT9 0 rfl rfl <| oS9 0 rfl (nckL rfl rfl rfl rfl (by decide)) <| oT9 0 rfl (ok_d (by omega) <| okE_nil) <| oT9 0 rfl (ok_d (by omega) <| okE_nil) <| oT9 0 rfl rfl <| oS9 0 rfl (nckL rfl rfl rfl rfl (by decide)) <| oT9 0 rfl (ok_d (by omega) <| okE_nil) <| oT9 0 rfl (ok_d (by omega) <| okE_nil) <| oS9 0 rfl (ixcE (e := 56) rfl rfl rfl rfl hcd (by kernel_rfl) (by omega)) <| oS9 0 rfl (fadE rfl rfl rfl hcd (by omega) (by kernel_rfl)) <| oS9 0 rfl (ldoE (r := insS (kQ8 cs ts k)) (v := .int .i64 ((kQ8 cs ts k).op)) hX rfl rfl rfl hcd (by omega) rfl rfl rfl) <| oS9 0 rfl (eff_say (x := .bool (((kQ8 cs ts k).op) == 6)) (fun _ => congrArg (fun b => some (Value.bool b)) (beq_eq_false_iff_ne.2 (by omega))) (eff_auto (X := ⟨_, true⟩) (out := .val _ _) hX rfl rfl)) <| oT9 0 rfl rfl <| oT9 0 rfl rfl <| oT9 0 rfl rfl <| oT9 0 rfl rfl <| oT9 0 rfl rfl <| oT9 0 rfl rfl <| oT9 0 rfl rfl <| oT9 0 rfl rfl <| oT9 0 rfl rfl <| oT9 0 rfl rfl <| oT9 0 rfl rfl <| oT9 0 rfl rfl <| oT9 0 rfl rfl <| oT9 0 rfl rfl <| oT9 0 rfl rfl <| oT9 0 rfl rfl <| oT9 0 rfl rfl <| oT9 0 rfl rfl <| obs_e) fun A =>
 N9 10 A rfl (ok_d (by omega) <| okE_nil) fun A => ⟨j + 1, _, (by omega), (by omega), (((sy_sayD A 5 (.int .i64 (((j + 1 : Nat) : Int) - 1)) rfl (fun _ => congrArg (fun b => some (Value.int .i64 b)) (by omega))).cut [0, 1, 4, 5] rfl).trunc 3 rfl rfl rfl (by simp only [List.length_cons, List.length_nil] at h0; omega))⟩)
           (fun h4 => GEM ((kQ8 cs ts k).op = 5)
           (fun h5 => have hm := mop5 h5; have A := sy_sayD A 15 (.tt) rfl (fun _ => congrArg (fun b => some (Value.bool b)) hm); have A := A.cut [0, 1, 4, 5, 8, 9, 10, 11, 12, 13, 15] rfl; ANYX hmo [.tt, .tt, .agg [.int .i64 (spL (kQ8 cs ts k)), .int .i64 (spM (sQ8 ts k).r (kQ8 cs ts k))], .el 5 11 0 0, .el 5 11 0 0, .el 5 11 0 0, .el 5 11 0 0, .sla (da ((k : Int)).toNat) ((cQ8 cs k).l.length) (dp ((k : Int)).toNat), .el 5 11 0 0, .el 5 11 0 0, .el 5 11 0 9, .int .i64 (((sQ8 ts k).at_ : Nat) : Int), .v (.pointer (adJ (da ((k : Int)).toNat) 17 (((sQ8 ts k).at_ : Nat) : Int))), .agg (inQ9 (kQ8 cs ts k)), .agg [.int .i64 ((kQ8 cs ts k).loc), .int .i64 (bQ8 cs ts k)], .ff, .ff, .el 5 11 0 0, .el 5 11 0 0, .el 5 11 0 0, .sla (da ((k : Int)).toNat) ((cQ8 cs k).l.length) (dp ((k : Int)).toNat), .el 5 11 0 0, .el 5 11 0 0, .el 5 11 0 9, .int .i64 (((sQ8 ts k).at_ : Nat) : Int), .v (.pointer (adJ (da ((k : Int)).toNat) 17 (((sQ8 ts k).at_ : Nat) : Int))), .v (.pointer (adO (da ((k : Int)).toNat) 17 (((sQ8 ts k).at_ : Nat) : Int) 0)), .int .i64 ((kQ8 cs ts k).op), .tt, .tt, .int .i64 (spD (sQ8 ts k).r (kQ8 cs ts k)), .el 5 11 0 0, .el 5 11 0 0, .el 5 11 0 0, .el 5 11 0 0, .sla (da ((k : Int)).toNat) ((cQ8 cs k).l.length) (dp ((k : Int)).toNat), .el 5 11 0 0, .el 5 11 0 0, .el 5 11 0 9, .int .i64 (((sQ8 ts k).at_ : Nat) : Int), .v (.pointer (adJ (da ((k : Int)).toNat) 17 (((sQ8 ts k).at_ : Nat) : Int))), .agg (inQ9 (kQ8 cs ts k)), .int .i64 (datT ((sQ8 ts k).r) (kQ8 cs ts k)), .el 5 11 0 0, .el 5 11 0 0, .el 5 11 0 0, .sla (da ((k : Int)).toNat) ((cQ8 cs k).l.length) (dp ((k : Int)).toNat), .el 5 11 0 0, .el 5 11 0 0, .el 5 11 0 9, .int .i64 (((sQ8 ts k).at_ : Nat) : Int), .v (.pointer (adJ (da ((k : Int)).toNat) 17 (((sQ8 ts k).at_ : Nat) : Int))), .v (.pointer (adO (da ((k : Int)).toNat) 17 (((sQ8 ts k).at_ : Nat) : Int) 8)), .int .i64 ((kQ8 cs ts k).sz), .int .i64 (bget0 (datT ((sQ8 ts k).r) (kQ8 cs ts k)) ((kQ8 cs ts k).sz)), .ff, .ff, .ff, .ff, .el 5 11 0 0, .el 5 11 0 0, .el 5 11 0 0, .sla (da ((k : Int)).toNat) ((cQ8 cs k).l.length) (dp ((k : Int)).toNat), .el 5 11 0 0, .el 5 11 0 0, .el 5 11 0 9, .int .i64 (((sQ8 ts k).at_ : Nat) : Int), .v (.pointer (adJ (da ((k : Int)).toNat) 17 (((sQ8 ts k).at_ : Nat) : Int))), .v (.pointer (adO (da ((k : Int)).toNat) 17 (((sQ8 ts k).at_ : Nat) : Int) 0)), .int .i64 ((kQ8 cs ts k).op), .ff, .ff, .tup [], .tup [], .tup [], .tup [], .tup [], .tup [], .tup [], .tup [], .tup [], .tup [], .tup [], .tup [], .tup [], .tup [], .ff, .ff, .ff] [(0, .ptr 0 0), (1, .sl 2 nn 0), (4, .ff), (5, .int .i64 (k : Int)), (8, .ptr 4 0), (9, .int .i64 (spD (sQ8 ts k).r (kQ8 cs ts k))), (10, .bool (mopI (kQ8 cs ts k))), (11, .el 5 11 0 0), (12, .tt), (13, .int .i64 ((m : Int) - 1)), (15, .tt)] [(0, .ptr 0 0), (1, .sl 2 nn 0), (4, .ff), (5, .int .i64 (k : Int)), (8, .ptr 4 0), (9, .int .i64 (spD (sQ8 ts k).r (kQ8 cs ts k))), (10, .bool (mopI (kQ8 cs ts k))), (11, .el 5 11 0 0), (12, .tt), (13, .int .i64 ((m : Int) - 1)), (15, .tt), (244, .ff)] [0, 1, 4, 5, 8, 9, 10, 11, 12, 13, 15, 244] (List.replicate 89 true) A (by kernel_rfl) (by kernel_rfl) (by kernel_rfl) (by kernel_rfl) (by kernel_rfl) (oT9 0 rfl rfl <| oT9 0 rfl rfl <| oT9 0 rfl rfl <| oT9 0 rfl rfl <| oT9 0 rfl rfl <| oS9 0 rfl (nckL rfl rfl rfl rfl (by decide)) <| oT9 0 rfl (ok_d (by omega) <| okE_nil) <| oT9 0 rfl (ok_d (by omega) <| okE_nil) <| oT9 0 rfl rfl <| oS9 0 rfl (nckL rfl rfl rfl rfl (by decide)) <| oT9 0 rfl (ok_d (by omega) <| okE_nil) <| oT9 0 rfl (ok_d (by omega) <| okE_nil) <| oS9 0 rfl (ixcE (e := 56) rfl rfl rfl rfl hcd (by kernel_rfl) (by omega)) <| oS9 0 rfl (ldcE (insS (kQ8 cs ts k)) hX rfl rfl rfl hcd (by omega) rfl rfl) <| oS9 0 rfl (callE [5] (tWhrL_ ((cQ8 cs k).l) (da ((k : Int)).toNat) (dp ((k : Int)).toNat) (((sQ8 ts k).at_ : Nat) : Int) ((sQ8 ts k).r) (pv ((k : Int)).toNat) (kQ8 cs ts k) (hsz (by omega)) (hsn.x (by omega))) rfl rfl rfl rfl rfl rfl rfl) <| oS9 0 rfl (eff_say (x := .bool (!((((spL (kQ8 cs ts k)) == ((kQ8 cs ts k).loc)) && ((spM (sQ8 ts k).r (kQ8 cs ts k)) == (bQ8 cs ts k)))))) (fun _ => congrArg (fun b => some (Value.bool b)) (spWF hm)) (eff_auto (X := ⟨_, true⟩) (out := .val _ _) hX rfl rfl)) <| oT9 0 rfl rfl <| oT9 0 rfl rfl <| oS9 0 rfl (nckL rfl rfl rfl rfl (by decide)) <| oT9 0 rfl (ok_d (by omega) <| okE_nil) <| oT9 0 rfl (ok_d (by omega) <| okE_nil) <| oT9 0 rfl rfl <| oS9 0 rfl (nckL rfl rfl rfl rfl (by decide)) <| oT9 0 rfl (ok_d (by omega) <| okE_nil) <| oT9 0 rfl (ok_d (by omega) <| okE_nil) <| oS9 0 rfl (ixcE (e := 56) rfl rfl rfl rfl hcd (by kernel_rfl) (by omega)) <| oS9 0 rfl (fadE rfl rfl rfl hcd (by omega) (by kernel_rfl)) <| oS9 0 rfl (ldoE (r := insS (kQ8 cs ts k)) (v := .int .i64 ((kQ8 cs ts k).op)) hX rfl rfl rfl hcd (by omega) rfl rfl rfl) <| oS9 0 rfl (eff_say (x := .bool (((kQ8 cs ts k).op) == 5)) (fun _ => congrArg (fun b => some (Value.bool b)) (beq_iff_eq.2 h5)) (eff_auto (X := ⟨_, true⟩) (out := .val _ _) hX rfl rfl)) <| oT9 0 rfl rfl <| oT9 0 rfl rfl <| oT9 0 rfl rfl <| oT9 0 rfl rfl <| oS9 0 rfl (nckL rfl rfl rfl rfl (by decide)) <| oT9 0 rfl (ok_d (by omega) <| okE_nil) <| oT9 0 rfl (ok_d (by omega) <| okE_nil) <| oT9 0 rfl rfl <| oS9 0 rfl (nckL rfl rfl rfl rfl (by decide)) <| oT9 0 rfl (ok_d (by omega) <| okE_nil) <| oT9 0 rfl (ok_d (by omega) <| okE_nil) <| oS9 0 rfl (ixcE (e := 56) rfl rfl rfl rfl hcd (by kernel_rfl) (by omega)) <| oS9 0 rfl (ldcE (insS (kQ8 cs ts k)) hX rfl rfl rfl hcd (by omega) rfl rfl) <| oS9 0 rfl (callE [5] (tDatL_ ((cQ8 cs k).l) (da ((k : Int)).toNat) (dp ((k : Int)).toNat) (((sQ8 ts k).at_ : Nat) : Int) ((sQ8 ts k).r) (pv ((k : Int)).toNat) (kQ8 cs ts k) (by first | exact hsn.a5 h5 | (have := hsn.a (.inr (.inr (.inl h6))); omega))) rfl rfl rfl rfl rfl rfl rfl) <| oT9 0 rfl rfl <| oS9 0 rfl (nckL rfl rfl rfl rfl (by decide)) <| oT9 0 rfl (ok_d (by omega) <| okE_nil) <| oT9 0 rfl (ok_d (by omega) <| okE_nil) <| oT9 0 rfl rfl <| oS9 0 rfl (nckL rfl rfl rfl rfl (by decide)) <| oT9 0 rfl (ok_d (by omega) <| okE_nil) <| oT9 0 rfl (ok_d (by omega) <| okE_nil) <| oS9 0 rfl (ixcE (e := 56) rfl rfl rfl rfl hcd (by kernel_rfl) (by omega)) <| oS9 0 rfl (fadE rfl rfl rfl hcd (by omega) (by kernel_rfl)) <| oS9 0 rfl (ldoE (r := insS (kQ8 cs ts k)) (v := .int .i64 ((kQ8 cs ts k).sz)) hX rfl rfl rfl hcd (by omega) rfl rfl rfl) <| oS9 0 rfl (eff_pure rfl rfl (rget_ (datT ((sQ8 ts k).r) (kQ8 cs ts k)) ((kQ8 cs ts k).sz) (hsz (by omega)))) <| oS9 0 rfl (eff_say (x := .bool (!((spD (sQ8 ts k).r (kQ8 cs ts k)) == (bget0 (datT ((sQ8 ts k).r) (kQ8 cs ts k)) ((kQ8 cs ts k).sz))))) (fun _ => congrArg (fun b => some (Value.bool b)) (spD5 h5 (hsn.a5 h5))) (eff_auto (X := ⟨_, true⟩) (out := .val _ _) hX rfl rfl)) <| oT9 0 rfl rfl <| oT9 0 rfl rfl <| oT9 0 rfl rfl <| oT9 0 rfl rfl <| oS9 0 rfl (nckL rfl rfl rfl rfl (by decide)) <| oT9 0 rfl (ok_d (by omega) <| okE_nil) <| oT9 0 rfl (ok_d (by omega) <| okE_nil) <| oT9 0 rfl rfl <| oS9 0 rfl (nckL rfl rfl rfl rfl (by decide)) <| oT9 0 rfl (ok_d (by omega) <| okE_nil) <| oT9 0 rfl (ok_d (by omega) <| okE_nil) <| oS9 0 rfl (ixcE (e := 56) rfl rfl rfl rfl hcd (by kernel_rfl) (by omega)) <| oS9 0 rfl (fadE rfl rfl rfl hcd (by omega) (by kernel_rfl)) <| oS9 0 rfl (ldoE (r := insS (kQ8 cs ts k)) (v := .int .i64 ((kQ8 cs ts k).op)) hX rfl rfl rfl hcd (by omega) rfl rfl rfl) <| oS9 0 rfl (eff_say (x := .bool (((kQ8 cs ts k).op) == 6)) (fun _ => congrArg (fun b => some (Value.bool b)) (beq_eq_false_iff_ne.2 (by omega))) (eff_auto (X := ⟨_, true⟩) (out := .val _ _) hX rfl rfl)) <| oT9 0 rfl rfl <| oT9 0 rfl rfl <| oT9 0 rfl rfl <| oT9 0 rfl rfl <| oT9 0 rfl rfl <| oT9 0 rfl rfl <| oT9 0 rfl rfl <| oT9 0 rfl rfl <| oT9 0 rfl rfl <| oT9 0 rfl rfl <| oT9 0 rfl rfl <| oT9 0 rfl rfl <| oT9 0 rfl rfl <| oT9 0 rfl rfl <| oT9 0 rfl rfl <| oT9 0 rfl rfl <| oT9 0 rfl rfl <| oT9 0 rfl rfl <| obs_e) fun A =>
 N9 10 A rfl (ok_d (by omega) <| okE_nil) fun A => ⟨j + 1, _, (by omega), (by omega), (((sy_sayD A 5 (.int .i64 (((j + 1 : Nat) : Int) - 1)) rfl (fun _ => congrArg (fun b => some (Value.int .i64 b)) (by omega))).cut [0, 1, 4, 5] rfl).trunc 3 rfl rfl rfl (by simp only [List.length_cons, List.length_nil] at h0; omega))⟩)
           (fun h5 => GEM ((kQ8 cs ts k).op = 6)
           (fun h6 => have hm := mop6 h6; have A := sy_sayD A 15 (.tt) rfl (fun _ => congrArg (fun b => some (Value.bool b)) hm); have A := A.cut [0, 1, 4, 5, 8, 9, 10, 11, 12, 13, 15] rfl; ANYX hmo [.tt, .tt, .agg [.int .i64 (spL (kQ8 cs ts k)), .int .i64 (spM (sQ8 ts k).r (kQ8 cs ts k))], .el 5 11 0 0, .el 5 11 0 0, .el 5 11 0 0, .el 5 11 0 0, .sla (da ((k : Int)).toNat) ((cQ8 cs k).l.length) (dp ((k : Int)).toNat), .el 5 11 0 0, .el 5 11 0 0, .el 5 11 0 9, .int .i64 (((sQ8 ts k).at_ : Nat) : Int), .v (.pointer (adJ (da ((k : Int)).toNat) 17 (((sQ8 ts k).at_ : Nat) : Int))), .agg (inQ9 (kQ8 cs ts k)), .agg [.int .i64 ((kQ8 cs ts k).loc), .int .i64 (bQ8 cs ts k)], .ff, .ff, .el 5 11 0 0, .el 5 11 0 0, .el 5 11 0 0, .sla (da ((k : Int)).toNat) ((cQ8 cs k).l.length) (dp ((k : Int)).toNat), .el 5 11 0 0, .el 5 11 0 0, .el 5 11 0 9, .int .i64 (((sQ8 ts k).at_ : Nat) : Int), .v (.pointer (adJ (da ((k : Int)).toNat) 17 (((sQ8 ts k).at_ : Nat) : Int))), .v (.pointer (adO (da ((k : Int)).toNat) 17 (((sQ8 ts k).at_ : Nat) : Int) 0)), .int .i64 ((kQ8 cs ts k).op), .ff, .ff, .tup [], .tup [], .tup [], .tup [], .tup [], .tup [], .tup [], .tup [], .tup [], .tup [], .tup [], .tup [], .tup [], .tup [], .tup [], .tup [], .tup [], .tup [], .tup [], .tup [], .tup [], .tup [], .tup [], .tup [], .tup [], .tup [], .ff, .ff, .ff, .el 5 11 0 0, .el 5 11 0 0, .el 5 11 0 0, .sla (da ((k : Int)).toNat) ((cQ8 cs k).l.length) (dp ((k : Int)).toNat), .el 5 11 0 0, .el 5 11 0 0, .el 5 11 0 9, .int .i64 (((sQ8 ts k).at_ : Nat) : Int), .v (.pointer (adJ (da ((k : Int)).toNat) 17 (((sQ8 ts k).at_ : Nat) : Int))), .v (.pointer (adO (da ((k : Int)).toNat) 17 (((sQ8 ts k).at_ : Nat) : Int) 0)), .int .i64 ((kQ8 cs ts k).op), .tt, .tt, .int .i64 (spD (sQ8 ts k).r (kQ8 cs ts k)), .el 5 11 0 0, .el 5 11 0 0, .el 5 11 0 0, .el 5 11 0 0, .sla (da ((k : Int)).toNat) ((cQ8 cs k).l.length) (dp ((k : Int)).toNat), .el 5 11 0 0, .el 5 11 0 0, .el 5 11 0 9, .int .i64 (((sQ8 ts k).at_ : Nat) : Int), .v (.pointer (adJ (da ((k : Int)).toNat) 17 (((sQ8 ts k).at_ : Nat) : Int))), .agg (inQ9 (kQ8 cs ts k)), .int .i64 (datT ((sQ8 ts k).r) (kQ8 cs ts k)), .ff, .ff, .ff, .ff] [(0, .ptr 0 0), (1, .sl 2 nn 0), (4, .ff), (5, .int .i64 (k : Int)), (8, .ptr 4 0), (9, .int .i64 (spD (sQ8 ts k).r (kQ8 cs ts k))), (10, .bool (mopI (kQ8 cs ts k))), (11, .el 5 11 0 0), (12, .tt), (13, .int .i64 ((m : Int) - 1)), (15, .tt)] [(0, .ptr 0 0), (1, .sl 2 nn 0), (4, .ff), (5, .int .i64 (k : Int)), (8, .ptr 4 0), (9, .int .i64 (spD (sQ8 ts k).r (kQ8 cs ts k))), (10, .bool (mopI (kQ8 cs ts k))), (11, .el 5 11 0 0), (12, .tt), (13, .int .i64 ((m : Int) - 1)), (15, .tt), (244, .ff)] [0, 1, 4, 5, 8, 9, 10, 11, 12, 13, 15, 244] (List.replicate 89 true) A (by kernel_rfl) (by kernel_rfl) (by kernel_rfl) (by kernel_rfl) (by kernel_rfl) (oT9 0 rfl rfl <| oT9 0 rfl rfl <| oT9 0 rfl rfl <| oT9 0 rfl rfl <| oT9 0 rfl rfl <| oS9 0 rfl (nckL rfl rfl rfl rfl (by decide)) <| oT9 0 rfl (ok_d (by omega) <| okE_nil) <| oT9 0 rfl (ok_d (by omega) <| okE_nil) <| oT9 0 rfl rfl <| oS9 0 rfl (nckL rfl rfl rfl rfl (by decide)) <| oT9 0 rfl (ok_d (by omega) <| okE_nil) <| oT9 0 rfl (ok_d (by omega) <| okE_nil) <| oS9 0 rfl (ixcE (e := 56) rfl rfl rfl rfl hcd (by kernel_rfl) (by omega)) <| oS9 0 rfl (ldcE (insS (kQ8 cs ts k)) hX rfl rfl rfl hcd (by omega) rfl rfl) <| oS9 0 rfl (callE [5] (tWhrL_ ((cQ8 cs k).l) (da ((k : Int)).toNat) (dp ((k : Int)).toNat) (((sQ8 ts k).at_ : Nat) : Int) ((sQ8 ts k).r) (pv ((k : Int)).toNat) (kQ8 cs ts k) (hsz (by omega)) (hsn.x (by omega))) rfl rfl rfl rfl rfl rfl rfl) <| oS9 0 rfl (eff_say (x := .bool (!((((spL (kQ8 cs ts k)) == ((kQ8 cs ts k).loc)) && ((spM (sQ8 ts k).r (kQ8 cs ts k)) == (bQ8 cs ts k)))))) (fun _ => congrArg (fun b => some (Value.bool b)) (spWF hm)) (eff_auto (X := ⟨_, true⟩) (out := .val _ _) hX rfl rfl)) <| oT9 0 rfl rfl <| oT9 0 rfl rfl <| oS9 0 rfl (nckL rfl rfl rfl rfl (by decide)) <| oT9 0 rfl (ok_d (by omega) <| okE_nil) <| oT9 0 rfl (ok_d (by omega) <| okE_nil) <| oT9 0 rfl rfl <| oS9 0 rfl (nckL rfl rfl rfl rfl (by decide)) <| oT9 0 rfl (ok_d (by omega) <| okE_nil) <| oT9 0 rfl (ok_d (by omega) <| okE_nil) <| oS9 0 rfl (ixcE (e := 56) rfl rfl rfl rfl hcd (by kernel_rfl) (by omega)) <| oS9 0 rfl (fadE rfl rfl rfl hcd (by omega) (by kernel_rfl)) <| oS9 0 rfl (ldoE (r := insS (kQ8 cs ts k)) (v := .int .i64 ((kQ8 cs ts k).op)) hX rfl rfl rfl hcd (by omega) rfl rfl rfl) <| oS9 0 rfl (eff_say (x := .bool (((kQ8 cs ts k).op) == 5)) (fun _ => congrArg (fun b => some (Value.bool b)) (beq_eq_false_iff_ne.2 h5)) (eff_auto (X := ⟨_, true⟩) (out := .val _ _) hX rfl rfl)) <| oT9 0 rfl rfl <| oT9 0 rfl rfl <| oT9 0 rfl rfl <| oT9 0 rfl rfl <| oT9 0 rfl rfl <| oT9 0 rfl rfl <| oT9 0 rfl rfl <| oT9 0 rfl rfl <| oT9 0 rfl rfl <| oT9 0 rfl rfl <| oT9 0 rfl rfl <| oT9 0 rfl rfl <| oT9 0 rfl rfl <| oT9 0 rfl rfl <| oT9 0 rfl rfl <| oT9 0 rfl rfl <| oT9 0 rfl rfl <| oT9 0 rfl rfl <| oT9 0 rfl rfl <| oT9 0 rfl rfl <| oT9 0 rfl rfl <| oT9 0 rfl rfl <| oT9 0 rfl rfl <| oT9 0 rfl rfl <| oT9 0 rfl rfl <| oT9 0 rfl rfl <| oT9 0 rfl rfl <| oT9 0 rfl rfl <| oT9 0 rfl rfl <| oT9 0 rfl rfl <| oT9 0 rfl rfl <| oS9 0 rfl (nckL rfl rfl rfl rfl (by decide)) <| oT9 0 rfl (ok_d (by omega) <| okE_nil) <| oT9 0 rfl (ok_d (by omega) <| okE_nil) <| oT9 0 rfl rfl <| oS9 0 rfl (nckL rfl rfl rfl rfl (by decide)) <| oT9 0 rfl (ok_d (by omega) <| okE_nil) <| oT9 0 rfl (ok_d (by omega) <| okE_nil) <| oS9 0 rfl (ixcE (e := 56) rfl rfl rfl rfl hcd (by kernel_rfl) (by omega)) <| oS9 0 rfl (fadE rfl rfl rfl hcd (by omega) (by kernel_rfl)) <| oS9 0 rfl (ldoE (r := insS (kQ8 cs ts k)) (v := .int .i64 ((kQ8 cs ts k).op)) hX rfl rfl rfl hcd (by omega) rfl rfl rfl) <| oS9 0 rfl (eff_say (x := .bool (((kQ8 cs ts k).op) == 6)) (fun _ => congrArg (fun b => some (Value.bool b)) (beq_iff_eq.2 h6)) (eff_auto (X := ⟨_, true⟩) (out := .val _ _) hX rfl rfl)) <| oT9 0 rfl rfl <| oT9 0 rfl rfl <| oT9 0 rfl rfl <| oT9 0 rfl rfl <| oS9 0 rfl (nckL rfl rfl rfl rfl (by decide)) <| oT9 0 rfl (ok_d (by omega) <| okE_nil) <| oT9 0 rfl (ok_d (by omega) <| okE_nil) <| oT9 0 rfl rfl <| oS9 0 rfl (nckL rfl rfl rfl rfl (by decide)) <| oT9 0 rfl (ok_d (by omega) <| okE_nil) <| oT9 0 rfl (ok_d (by omega) <| okE_nil) <| oS9 0 rfl (ixcE (e := 56) rfl rfl rfl rfl hcd (by kernel_rfl) (by omega)) <| oS9 0 rfl (ldcE (insS (kQ8 cs ts k)) hX rfl rfl rfl hcd (by omega) rfl rfl) <| oS9 0 rfl (callE [5] (tDatL_ ((cQ8 cs k).l) (da ((k : Int)).toNat) (dp ((k : Int)).toNat) (((sQ8 ts k).at_ : Nat) : Int) ((sQ8 ts k).r) (pv ((k : Int)).toNat) (kQ8 cs ts k) (by first | exact hsn.a5 h5 | (have := hsn.a (.inr (.inr (.inl h6))); omega))) rfl rfl rfl rfl rfl rfl rfl) <| oS9 0 rfl (eff_say (x := .bool (!((spD (sQ8 ts k).r (kQ8 cs ts k)) == (datT ((sQ8 ts k).r) (kQ8 cs ts k))))) (fun _ => congrArg (fun b => some (Value.bool b)) (spD6 h6 (hsn.a (.inr (.inr (.inl h6)))))) (eff_auto (X := ⟨_, true⟩) (out := .val _ _) hX rfl rfl)) <| oT9 0 rfl rfl <| oT9 0 rfl rfl <| oT9 0 rfl rfl <| obs_e) fun A =>
 N9 10 A rfl (ok_d (by omega) <| okE_nil) fun A => ⟨j + 1, _, (by omega), (by omega), (((sy_sayD A 5 (.int .i64 (((j + 1 : Nat) : Int) - 1)) rfl (fun _ => congrArg (fun b => some (Value.int .i64 b)) (by omega))).cut [0, 1, 4, 5] rfl).trunc 3 rfl rfl rfl (by simp only [List.length_cons, List.length_nil] at h0; omega))⟩)
           (fun h6 => have A := sy_sayD A 15 (.ff) rfl (fun _ => congrArg (fun b => some (Value.bool b)) (mop0 h4 h5 h6)); DRAWN hX hmo [] [] A rfl rfl rfl rfl (by kernel_rfl) (effAll_nil _ _) trivial fun A => N9 10 A rfl (ok_d (by omega) <| okE_nil) fun A => ⟨j + 1, _, (by omega), (by omega), (((sy_sayD A 5 (.int .i64 (((j + 1 : Nat) : Int) - 1)) rfl (fun _ => congrArg (fun b => some (Value.int .i64 b)) (by omega))).cut [0, 1, 4, 5] rfl).trunc 3 rfl rfl rfl (by simp only [List.length_cons, List.length_nil] at h0; omega))⟩))))))
       (fun hst => have A := sy_sayD A 7 (.ff) rfl (fun _ => congrArg (fun b => some (Value.bool b)) (isF hatk hst)); have A := sy_sayD A 12 (.ff) rfl (fun _ => congrArg (fun b => some (Value.bool b)) (decide_eq_false (fun h => hst (Int.ofNat_lt.1 h)))); have A := sy_sayD A 10 (.ff) rfl (fun _ => congrArg (fun b => some (Value.bool b)) (mopE (isE hatk hst))); ANY hmo [.ff, .ff, .ff, .ff, .ptr 0 0, .int .i64 (k : Int), .int .i64 (((sQ8 ts k).at_ : Nat) : Int), .el 5 11 0 0, .el 5 11 0 0, .el 5 11 0 9, .int .i64 (((sQ8 ts k).at_ : Nat) : Int), .ff, .ff, .ff, .ff, .ff, .tup [], .tup [], .tup [], .tup [], .tup [], .tup [], .tup [], .tup [], .tup [], .tup [], .tup [], .tup [], .ff, .ff] [] [] 0 [([], [], [some (.blk [.sl 1 nn 0]), some (coR9 cs ts nn), some (.row 37 1 nn 0 (fun zz => [.v (.pointer (some ⟨bs zz, bo zz, none⟩))])), some (.blk (inQ9 (kQ8 cs ts k))), some (.blk [.int .i64 (spL (kQ8 cs ts k)), .int .i64 (spM (sQ8 ts k).r (kQ8 cs ts k))]), some (.lst 11 1 (fun _ => thS (.sla (da ((k : Int)).toNat) ((cQ8 cs k).l.length) (dp ((k : Int)).toNat)) ((sQ8 ts k).r) (((sQ8 ts k).at_ : Nat) : Int) (.v (pv ((k : Int)).toNat))))])] [[true, true, true, true, true, true, true, true, true, true, true, true, true, true, true, true, true, true, true, true, true, true, true, true, true, true, true, true, true, true]] A rfl rfl rfl rfl (by kernel_rfl) rfl (by kernel_rfl) ⟨⟨oV9 0 rfl rfl, ⟨oV9 0 rfl rfl, ⟨oE9 0 rfl (eff_say (x := .bool (!(false == false))) (fun _ => congrArg (fun b => some (Value.bool b)) (by simp)) (eff_auto (X := ⟨_, true⟩) (out := .val _ _) hX rfl rfl)), ⟨oV9 0 rfl rfl, ⟨oV9 0 rfl rfl, ⟨oV9 0 rfl rfl, ⟨oE9 0 rfl (callE [0, 1] (cAtI_ cs ts nn (k : Int) (by omega)) rfl rfl rfl rfl rfl rfl rfl), ⟨oV9 0 rfl rfl, ⟨oE9 0 rfl (nckL rfl rfl rfl rfl (by decide)), ⟨oV9 0 rfl (ok_d (by omega) <| okE_nil), ⟨oV9 0 rfl (ok_d (by omega) <| okE_nil), ⟨oE9 0 rfl (eff_say (x := .bool (!((((sQ8 ts k).at_ : Nat) : Int) == (((sQ8 ts k).at_ : Nat) : Int)))) (fun _ => congrArg (fun b => some (Value.bool b)) (by simp)) (eff_auto (X := ⟨_, true⟩) (out := .val _ _) hX rfl rfl)), ⟨oV9 0 rfl rfl, ⟨oV9 0 rfl rfl, ⟨oV9 0 rfl rfl, ⟨oV9 0 rfl rfl, ⟨oV9 0 rfl rfl, ⟨oV9 0 rfl rfl, ⟨oV9 0 rfl rfl, ⟨oV9 0 rfl rfl, ⟨oV9 0 rfl rfl, ⟨oV9 0 rfl rfl, ⟨oV9 0 rfl rfl, ⟨oV9 0 rfl rfl, ⟨oV9 0 rfl rfl, ⟨oV9 0 rfl rfl, ⟨oV9 0 rfl rfl, ⟨oV9 0 rfl rfl, ⟨oV9 0 rfl rfl, ⟨oV9 0 rfl rfl, trivial⟩⟩⟩⟩⟩⟩⟩⟩⟩⟩⟩⟩⟩⟩⟩⟩⟩⟩⟩⟩⟩⟩⟩⟩⟩⟩⟩⟩⟩⟩, trivial⟩ fun A => N9 11 A rfl rfl fun A => LOOP1 (fun (m : Nat) => [(0, .ptr 0 0), (1, .sl 2 nn 0), (4, .ff), (5, .int .i64 (k : Int)), (8, .ptr 4 0), (9, .int .i64 (spD (sQ8 ts k).r (kQ8 cs ts k))), (10, .ff), (11, .el 5 11 0 0), (12, .ff), (13, .int .i64 ((m : Int) - 1))]) (fun (m : Nat) => [some (.blk [.sl 1 nn 0]), some (coR9 cs ts nn), some (.row 37 1 nn 0 (fun zz => [.v (.pointer (some ⟨bs zz, bo zz, none⟩))])), some (.blk (inQ9 (kQ8 cs ts k))), some (.blk [.int .i64 (spL (kQ8 cs ts k)), .int .i64 (spM (sQ8 ts k).r (kQ8 cs ts k))]), some (.lst 11 1 (fun _ => thS (.sla (da ((k : Int)).toNat) ((cQ8 cs k).l.length) (dp ((k : Int)).toNat)) ((sQ8 ts k).r) (((sQ8 ts k).at_ : Nat) : Int) (.v (pv ((k : Int)).toNat))))]) (fun (m : Nat) => m ≤ 10) (fun (m : Nat) => 10 - m) 0 (Nat.zero_le _) ((A.cut [0, 1, 4, 5, 8, 9, 10, 11, 12, 13] rfl).trunc 6 rfl rfl rfl (by simp only [List.length_cons, List.length_nil] at h0; omega)) fun m hM {G a w} A => N9 7 A rfl rfl fun A => forkD 118 A rfl
         (fun h9 A => N9 21 A rfl rfl fun A => fork 126 A rfl
          (fun h10 A => N9 4 A rfl rfl fun A => q_eff A rfl (nckL rfl rfl rfl rfl (by decide)) fun A => N9 7 A rfl (ok_d (by omega) <| ok_d (by omega) <| ok_d (by simp at h10; omega) <| ok_d (by omega) <| ok_d (by simp at h10; omega) <| okE_nil) fun A => N9 4 A rfl rfl fun A => C9 [0, 1] (cRegI_ cs ts nn (k : Int) ((m : Int) - 1) (by omega) (by simp at h10; omega)) A rfl fun A => N9 4 A rfl rfl fun A => forkN 138 A rfl
           (fun h11 A => absurd h11 (fun h => h rfl))
           (fun h11 A => N9 9 A rfl (ok_d (by simp at h10; omega) <| okE_nil) fun A => ⟨m + 1, _, (by omega), (by omega), (((sy_sayD A 13 (.int .i64 (((m + 1 : Nat) : Int) - 1)) rfl (fun _ => congrArg (fun b => some (Value.int .i64 b)) (by omega))).cut [0, 1, 4, 5, 8, 9, 10, 11, 12, 13] rfl).trunc 6 rfl rfl rfl (by simp only [List.length_cons, List.length_nil] at h0; omega))⟩))
          (fun h10 A => N9 8 A rfl rfl fun A => C9 [0, 1] (cRegX_ cs ts nn (k : Int) ((m : Int) - 1) (by simp at h10; omega)) A rfl fun A => N9 4 A rfl rfl fun A => forkN 138 A rfl
           (fun h12 A => absurd h12 (fun h => h rfl))
           (fun h12 A => N9 9 A rfl (ok_d (by simp at h10; omega) <| okE_nil) fun A => ⟨m + 1, _, (by omega), (by omega), (((sy_sayD A 13 (.int .i64 (((m + 1 : Nat) : Int) - 1)) rfl (fun _ => congrArg (fun b => some (Value.int .i64 b)) (by omega))).cut [0, 1, 4, 5, 8, 9, 10, 11, 12, 13] rfl).trunc 6 rfl rfl rfl (by simp only [List.length_cons, List.length_nil] at h0; omega))⟩)))
         (fun h9 A => N9 4 A rfl rfl fun A => DRAWN hX hmo [] [] A rfl rfl rfl rfl (by kernel_rfl) (effAll_nil _ _) trivial fun A => N9 3 A rfl rfl fun A => N9 6 A rfl rfl fun A => forkN 155 A rfl
          (fun h13 A => absurd h13 (by simp))
          (fun h13 A => N9 4 A rfl rfl fun A => DRAWN hX hmo [] [] A rfl rfl rfl rfl (by kernel_rfl) (effAll_nil _ _) trivial fun A => N9 10 A rfl (ok_d (by omega) <| okE_nil) fun A => ⟨j + 1, _, (by omega), (by omega), (((sy_sayD A 5 (.int .i64 (((j + 1 : Nat) : Int) - 1)) rfl (fun _ => congrArg (fun b => some (Value.int .i64 b)) (by omega))).cut [0, 1, 4, 5] rfl).trunc 3 rfl rfl rfl (by simp only [List.length_cons, List.length_nil] at h0; omega))⟩)))))
     (fun hout => I9 [0, 1] CodesAt.ok hI.1 (cReadyO_ cs ts nn ((j : Int) - 1) (by omega)) A rfl fun A => N9 12 A rfl rfl fun A => I9 [0, 1] CodesAt.ok hI.1 (cSpotO_ cs ts nn ((j : Int) - 1) (by omega)) A rfl fun A => N9 23 A rfl rfl fun A => fork 47 A rfl
      (fun h14 A => N9 11 A rfl rfl fun A => C9 [0, 1] (cAtO_ cs ts nn ((j : Int) - 1) (by omega)) A rfl fun A => N9 3 A rfl rfl fun A => forkN 58 A rfl
       (fun h15 A => absurd h15 (by decide))
       (fun h15 A => N9 2 A rfl rfl fun A => C9 [0, 1] (cRegO_ cs ts nn ((j : Int) - 1) (by omega)) A rfl fun A => N9 13 A rfl rfl fun A => fork 72 A rfl
        (fun h16 A => absurd h16 (by decide))
        (fun h16 A => N9 10 A rfl (ok_d (by omega) <| okE_nil) fun A => ⟨j + 1, _, (by omega), (by omega), (((sy_sayD A 5 (.int .i64 (((j + 1 : Nat) : Int) - 1)) rfl (fun _ => congrArg (fun b => some (Value.int .i64 b)) (by omega))).cut [0, 1, 4, 5] rfl).trunc 3 rfl rfl rfl (by simp only [List.length_cons, List.length_nil] at h0; omega))⟩)))
      (fun h14 A => absurd h14 (by simp; omega))))
    (fun h2 A => N9 9 A rfl rfl fun A => R9 A rfl h0 rfl rfl rfl))
end Go.Proofs.YtjkppaijicjpoaaGreatDoor.Mc
namespace Go.Proofs.YtjkppaijicjpoaaGreatDoor
open Go.RowKit
set_option linter.unusedVariables false
set_option linter.unusedSimpArgs false
set_option linter.unusedSectionVars false
section
variable {P : Program} {Y : Tb} {n : Nat} {ks : List Nat} {G0 : Gr} {w0 : World} {T : List (Nat × SV)} {H : Hp} {G : Gr} {a : Act} {w : World} {ops : Array Oper} {o : Oper} {Q : Exit → Act → World → Prop} {K : List Fr} {pos : Pos}
theorem nckV {x : Operand} {b q : Nat} (hop : o.op = .nilCheck x) (hg : guardS ops T o.guard = some .run) (hx : evS T x = some (adr b q)) : EffOK P n ops ks G0 w0 T H o (adr b q) H := fun G a w A => by
 have hw := gd_run (gd := none) A hg
 obtain ⟨d, op, ty, pos, af, gd⟩ := o
 simp only at hop
 subst hop
 have hvx := A.ev hx
 unfold den at hvx
 exact d_nilCheck hw (by rw [← Option.some.inj hvx]) ⟨[], rfl, by simpa using A.ms⟩
theorem fadV {x : Operand} {t fi b q off : Nat} (hop : o.op = .fieldAddr t x fi) (hg : guardS ops T o.guard = some .run) (hx : evS T x = some (adr b q)) (hf : fieldOff P t fi = some off) : EffOK P n ops ks G0 w0 T H o (adr b (q + off)) H := fun G a w A => by
 have hw := gd_run (gd := none) A hg
 obtain ⟨d, op, ty, pos, af, gd⟩ := o
 simp only at hop
 subst hop
 have hvx := A.ev hx
 unfold den at hvx
 simp only [Option.some.injEq] at hvx
 exact d_fieldAddr hw hvx.symm hf ⟨[], rfl, by simpa using A.ms⟩
theorem ldV {x : Operand} {ty s b q0 q : Nat} {f : Nat → List SV} {r : List SV} {v : SV} {z : Value} (hX : Y.ok P = true) (hop : o.op = .load ty x) (hg : guardS ops T o.guard = some .run) (hx : evS T x = some (adr b (q0 + q))) (h0 : LstAt (some ⟨b, q0, none⟩) s 1 f w0 ks) (hr : f 0 = r) (hc : cellS ⟨Y, true⟩ ty r q = some v) (hv : den [] v = some z) : EffOK P n ops ks G0 w0 T H o v H := fun G a w A => by
 have h1 := LstAt.ok w0 ks w ks h0 A.mix (fun b hb => .inl hb)
 rcases h1.2 with q | ⟨b', q', hb, _, _, h4⟩
 ·omega
 have hw := gd_run (gd := none) A hg
 obtain ⟨d, op, ty, pos, af, gd⟩ := o
 simp only at hop
 subst hop
 have hvx := A.ev hx
 unfold den at hvx
 simp only [Option.some.injEq] at hvx
 obtain ⟨vs, v1, v2⟩ := h4 0 (by omega)
 rw [hr] at v1
 have e : b' = b ∧ q' = q0 := by
  have := Option.some.inj hb
  simp only [Addr.mk.injEq] at this
  exact ⟨this.1.symm, this.2.1.symm⟩
 obtain ⟨rfl, rfl⟩ := e
 have v3 : denL G r = some vs := by simpa using denL_mono G r v1
 have v4 : den G v = some z := by simpa using den_mono G v hv
 exact cellS_load (X := ⟨Y, true⟩) hX hc v3 v4 v2 hw (by rw [← hvx]; simp) ⟨[], by simpa using v4, by simpa using A.ms⟩
end
section
variable {P : Program} {n : Nat} {ks : List Nat} {G0 : Gr} {w0 : World} {T : List (Nat × SV)} {H : Hp} {G : Gr} {a : Act} {w : World} {ops : Array Oper} {o : Oper} {Q : Exit → Act → World → Prop} {pre : World → Prop} {i fuel : Nat} {listed : Array Bool}
theorem any_callW {f : Nat} {args az : List SV} {H' l : Hp} {ks' : List Nat} {J : SV → World → World → Prop} (m : List Nat) (ho : ops[i]? = some o) (hf : FnW P f args H' ks' pre J) (A : Sy n T H ks G0 w0 G a w) (hp : pre w) (hoff : Off H G ks') (hk : ∀ b, ks'.contains b = true → ks.contains b = true ∨ w0.heap.size ≤ b) (h1 : callS n ops T o = some (f, az)) (h2 : renL m args = some az) (h3 : renH m H' = some l) (h4 : pickH H m = some l) (h5 : ndB m = true)
  (k : ∀ {x a' w'}, Mix ks' w w' → J x w w' → Sy n (extS T o.dst x) H ks G0 w0 G a' w' → wpAny P .any ops Q fuel (listed.setIfInBounds i true) a' w') : wpOp P ops Q i (wpAny P .any ops Q fuel (listed.setIfInBounds i true)) a w := by
 obtain ⟨hd, us, hu, hdo⟩ := callS_do (P := P) (ops := ops) A h1 hf.1
 obtain ⟨p1, p2, p3⟩ := pickH_at h4
 obtain ⟨r1, r2⟩ := renH_at h3
 have hm : ∀ j ∈ m, j < G.length := fun j hj => by rw [← A.mem.len]; exact p2 j hj
 have hM := A.mem.sub h4 h3 h5
 have hv' : denL (pickG m G) args = some us := by rw [denL_ren hm args h2]; exact hu
 have ho' : Off H' (pickG m G) ks' := fun i e L q1 q2 q3 => by
  obtain ⟨f, s1, s2⟩ := r2 i _ q1
  obtain ⟨f', rfl⟩ := renE_some s2
  have hi : i < m.length := by rw [← p1]; exact (List.getElem?_eq_some_iff.1 s1).1
  have hj : m[i]? = some m[i] := by simp [hi]
  rw [pickG_at hm hj] at q2
  rw [p3 i _ hj] at s1
  exact hoff _ f' L s1 q2 fun h => q3 ((renE_mut s2).2.1 h)
 refine any_does ho (hdo (hf.2.2 _ w us hM ho' hp hv') fun e w' he => ?_)
 obtain ⟨x, v, e1, rfl, hg, hJ⟩ := he
 exact ⟨v, rfl, k hg hJ (Sy.put (A.mixed hg hoff hk) hd (by simpa using den_mono G x e1))⟩
end
theorem OutT.lst {L : Loc} {cs : List SV} {pb : Option (Nat × Nat)} {ps : List Int} {w : World} {ks : List Nat} (h : OutT L cs pb ps w) (hk : ks.contains L.b = false) : LstAt (some ⟨L.b, L.pre.length, none⟩) (cs.length + 1) 1 (fun _ => cs ++ [.v (pbV pb ps.length)]) w ks := by
 obtain ⟨vs, hvs, hb⟩ := h.blk
 have hd : denL [] (cs ++ [.v (pbV pb ps.length)]) = some (vs ++ [pbV pb ps.length]) := denL_snoc rfl hvs
 obtain ⟨L', us, e1, e2, e3⟩ := EntOK.range (G := []) (w := w) (p := some L) (cs := cs ++ [.v (pbV pb ps.length)]) ⟨L, _, rfl, hd, hb⟩
 cases e1
 refine ⟨fun k => ⟨_, hd⟩, .inr ⟨L.b, L.pre.length, rfl, hb.lt, hk, fun k hk => ⟨us, e2, ?_⟩⟩⟩
 have hk0 : k = 0 := by omega
 subst hk0
 simpa using e3
end Go.Proofs.YtjkppaijicjpoaaGreatDoor
namespace Go.Proofs.YtjkppaijicjpoaaGreatDoor.Mc
open Go.RowKit
set_option linter.unusedVariables false
set_option linter.unusedSimpArgs false
set_option maxRecDepth 100000
theorem outT_mix {L : Loc} {cs : List SV} {pb : Option (Nat × Nat)} {ps : List Int} {w w' : World} {ks : List Nat} (h : OutT L cs pb ps w) (m : Mix ks w w') (hk : ∀ b, (L.b :: pbB pb).contains b = true → ks.contains b = false) : OutT L cs pb ps w' := by
 obtain ⟨vs, h1, h2⟩ := h.blk
 refine ⟨⟨vs, h1, h2.mix m (hk _ (by simp))⟩, ?_, h.ne⟩
 cases pb with
 | none => exact h.path
 | some q =>
  obtain ⟨g1, xs, g2, g3⟩ : Given 3 1 ps.length (nmF ps) q.1 q.2 w := h.path
  exact ⟨g1, xs, g2, own_mix g3 m (fun k hv => by
   have : k = q.1 := by simpa [Value.ownBlock] using hv.symm
   subst this
   exact hk _ (by simp [pbB]))⟩
theorem outT_lt {L : Loc} {cs : List SV} {pb : Option (Nat × Nat)} {ps : List Int} {w : World} (h : OutT L cs pb ps w) : ∀ b, (L.b :: pbB pb).contains b = true → b < w.heap.size := fun b hb => by
 obtain ⟨vs, h1, h2⟩ := h.blk
 cases pb with
 | none =>
  have : b = L.b := by simpa [pbB] using hb
  subst this; exact h2.lt
 | some q =>
  obtain ⟨g1, xs, g2, g3⟩ : Given 3 1 ps.length (nmF ps) q.1 q.2 w := h.path
  have : b = L.b ∨ b = q.1 := by simpa [pbB] using hb
  rcases this with rfl | rfl
  ·exact h2.lt
  ·exact (own_lt g3 _ (by simp [Value.ownBlock])).2
structure Tr where (L : Loc) (pb : Option (Nat × Nat)) (ps : List Int)
def Tr.z : Tr := ⟨⟨0, [], [], 0⟩, none, []⟩
abbrev Tr.bl (t : Tr) : List Nat := t.L.b :: pbB t.pb
structure JT (cs : List Cde) (ts : List Th) (tr : List Tr) (N : Nat) (w : World) (ks : List Nat) : Prop where
 out : ∀ k, k < tr.length → OutT (tr.getD k Tr.z).L (thC (.sla (cs.getD k Cde.z).ao (cs.getD k Cde.z).l.length (cs.getD k Cde.z).cp) (ts.getD k Th.z).r (((ts.getD k Th.z).at_ : Nat) : Int)) (tr.getD k Tr.z).pb (tr.getD k Tr.z).ps w
 len : ∀ k, k < tr.length → (tr.getD k Tr.z).ps.length ≤ (ts.getD k Th.z).at_
 lo : ∀ k, k < tr.length → ∀ b, (tr.getD k Tr.z).bl.contains b = true → N ≤ b ∧ ks.contains b = false
 ap : ∀ j k, j < tr.length → k < tr.length → j ≠ k → ∀ b, (tr.getD j Tr.z).bl.contains b = true → (tr.getD k Tr.z).bl.contains b = false
theorem JT.ok {cs : List Cde} {ts : List Th} {tr : List Tr} {N : Nat} : Amb.OK (JT cs ts tr N) := fun w ks w' ks' h m hk => by
 have hm : ∀ k, k < tr.length → ∀ b, (tr.getD k Tr.z).bl.contains b = true → ks.contains b = false := fun k hk b hb => (h.lo k hk b hb).2
 refine ⟨fun k hk' => outT_mix (h.out k hk') m (hm k hk'), h.len, fun k hk' b hb => ⟨(h.lo k hk' b hb).1, ?_⟩, h.ap⟩
 cases hz : ks'.contains b with
 | false => rfl
 | true =>
  rcases hk b hz with q | q
  ·rw [hm k hk' b hb] at q; cases q
  ·have := outT_lt (h.out k hk') b hb; omega
theorem JT.set {cs : List Cde} {ts : List Th} {tr : List Tr} {N j : Nat} {w w' : World} {ks : List Nat} {s' : Th} {x : SV} (h : JT cs ts tr N w ks) (hj : j < tr.length) (hts : tr.length ≤ ts.length) (hN : N ≤ w.heap.size) (hks : ∀ b, ks.contains b = true → b < w.heap.size) (m : Mix (tr.getD j Tr.z).bl w w') (hJ : ThJ (tr.getD j Tr.z).L (cs.getD j Cde.z).l (cs.getD j Cde.z).ao (cs.getD j Cde.z).cp s' (tr.getD j Tr.z).pb x w w') :
  ∃ pb ps, JT cs (ts.set j s') (tr.set j ⟨(tr.getD j Tr.z).L, pb, ps⟩) N w' ks := by
 obtain ⟨pb, ps, h1, h2, h3⟩ := hJ
 have lg : ∀ {α : Type} (l : List α) (x d : α), j < l.length → (l.set j x).getD j d = x := fun l x d hl => by simp [List.getD, hl]
 have ln : ∀ {α : Type} (l : List α) (x d : α) (k : Nat), k ≠ j → (l.set j x).getD k d = l.getD k d := fun l x d k hk => by simp [List.getD, List.getElem?_set_ne (Ne.symm hk)]
 have hb : ∀ b, ((tr.getD j Tr.z).L.b :: pbB pb).contains b = true → (tr.getD j Tr.z).bl.contains b = true ∨ w.heap.size ≤ b := fun b hb => by
  rw [List.contains_cons, Bool.or_eq_true] at hb
  rcases hb with hb | hb
  ·exact .inl (by rw [List.contains_cons, hb]; rfl)
  ·exact h3 b hb
 refine ⟨pb, ps, ?_, ?_, ?_, ?_⟩
 ·intro k hk
  rw [List.length_set] at hk
  by_cases e : k = j
  ·subst e; rw [lg _ _ _ hk, lg _ _ _ (by omega)]; exact h1
  ·rw [ln _ _ _ k e, ln _ _ _ k e]
   exact outT_mix (h.out k hk) m (h.ap k j hk hj e)
 ·intro k hk
  rw [List.length_set] at hk
  by_cases e : k = j
  ·subst e; rw [lg _ _ _ hk, lg _ _ _ (by omega)]; exact h2
  ·rw [ln _ _ _ k e, ln _ _ _ k e]; exact h.len k hk
 ·intro k hk b hbb
  rw [List.length_set] at hk
  by_cases e : k = j
  ·subst e
   rw [lg _ _ _ hk] at hbb
   rcases hb b hbb with q | q
   ·exact h.lo k hk b q
   ·refine ⟨by omega, ?_⟩
    cases hz : ks.contains b with
    | false => rfl
    | true => have := hks b hz; omega
  ·rw [ln _ _ _ k e] at hbb; exact h.lo k hk b hbb
 ·intro i k hi hk hik b hbb
  rw [List.length_set] at hi hk
  by_cases e : i = j
  ·subst e
   rw [lg _ _ _ hi] at hbb
   rw [ln _ _ _ k (Ne.symm hik)]
   rcases hb b hbb with q | q
   ·exact h.ap i k hi hk hik b q
   ·cases hz : (tr.getD k Tr.z).bl.contains b with
    | false => rfl
    | true => have := outT_lt (h.out k hk) b hz; omega
  ·rw [ln _ _ _ i e] at hbb
   by_cases e2 : k = j
   ·subst e2
    rw [lg _ _ _ hk]
    cases hz : ((tr.getD k Tr.z).L.b :: pbB pb).contains b with
    | false => rfl
    | true =>
     rcases hb b hz with q | q
     ·have := h.ap i k hi hk hik b hbb; rw [q] at this; cases this
     ·have := outT_lt (h.out i hi) b hbb; omega
   ·rw [ln _ _ _ k e2]; exact h.ap i k hi hk hik b hbb
theorem JT.add {cs : List Cde} {ts : List Th} {tr : List Tr} {N : Nat} {w : World} {ks : List Nat} {t : Tr} (h : JT cs ts tr N w ks) (ho : OutT t.L (thC (.sla (cs.getD tr.length Cde.z).ao (cs.getD tr.length Cde.z).l.length (cs.getD tr.length Cde.z).cp) (ts.getD tr.length Th.z).r (((ts.getD tr.length Th.z).at_ : Nat) : Int)) t.pb t.ps w) (hl : t.ps.length ≤ (ts.getD tr.length Th.z).at_) (hb : ∀ b, t.bl.contains b = true → N ≤ b ∧ ks.contains b = false) (ha : ∀ k, k < tr.length → ∀ b, (tr.getD k Tr.z).bl.contains b = true → t.bl.contains b = false) : JT cs ts (tr ++ [t]) N w ks := by
 have gl : ∀ k, k < tr.length → (tr ++ [t]).getD k Tr.z = tr.getD k Tr.z := fun k hk => by simp [List.getD, List.getElem?_append_left hk]
 have gn : (tr ++ [t]).getD tr.length Tr.z = t := by simp [List.getD]
 have cse : ∀ k, k < (tr ++ [t]).length → k < tr.length ∨ k = tr.length := fun k hk => by simp at hk; omega
 refine ⟨fun k hk => ?_, fun k hk => ?_, fun k hk => ?_, fun j k hj hk hjk b hbb => ?_⟩
 ·rcases cse k hk with q | rfl
  ·rw [gl k q]; exact h.out k q
  ·rw [gn]; exact ho
 ·rcases cse k hk with q | rfl
  ·rw [gl k q]; exact h.len k q
  ·rw [gn]; exact hl
 ·rcases cse k hk with q | rfl
  ·rw [gl k q]; exact h.lo k q
  ·rw [gn]; exact hb
 ·rcases cse j hj with q | rfl
  ·rw [gl j q] at hbb
   rcases cse k hk with q2 | rfl
   ·rw [gl k q2]; exact h.ap j k q q2 hjk b hbb
   ·rw [gn]; exact ha j q b hbb
  ·rw [gn] at hbb
   rcases cse k hk with q2 | rfl
   ·rw [gl k q2]
    cases hz : (tr.getD k Tr.z).bl.contains b with
    | false => rfl
    | true => rw [ha k q2 b hz] at hbb; cases hbb
   ·exact absurd rfl hjk
theorem JT.i0 {cs : List Cde} {ts : List Th} {N : Nat} {w : World} {ks : List Nat} : JT cs ts [] N w ks := ⟨fun k hk => (by cases hk), fun k hk => (by cases hk), fun k hk => (by cases hk), fun j k hj => (by cases hj)⟩
end Go.Proofs.YtjkppaijicjpoaaGreatDoor.Mc
namespace Go.Proofs.YtjkppaijicjpoaaGreatDoor
open Go.RowKit
set_option linter.unusedVariables false
set_option linter.unusedSimpArgs false
set_option linter.unusedSectionVars false
def TyAt (q t : Nat) (G : Gr) : Prop := ∃ L, G[q]? = some (some L) ∧ L.t = t
theorem TyAt.pre {q t : Nat} {G0 G : Gr} (h : TyAt q t G0) (hp : ∃ F, G = G0 ++ F) : TyAt q t G := by
 obtain ⟨L, h1, h2⟩ := h
 obtain ⟨F, rfl⟩ := hp
 exact ⟨L, by rw [List.getElem?_append_left (List.getElem?_eq_some_iff.1 h1).1]; exact h1, h2⟩
section
variable {P : Program} {X : Tx} {Y : Tb} {n : Nat} {ks : List Nat} {G0 : Gr} {w0 : World} {T : List (Nat × SV)} {H : Hp} {G : Gr} {a : Act} {w w' : World} {Q : Exit → Act → World → Prop} {K : List Fr} {pos : Pos} {ops : Array Oper} {o : Oper} {rest : List Oper}
end
end Go.Proofs.YtjkppaijicjpoaaGreatDoor
namespace Go.Proofs.YtjkppaijicjpoaaGreatDoor
open Go.Shelf Go.RowKit
set_option linter.unusedVariables false

end Go.Proofs.YtjkppaijicjpoaaGreatDoor
namespace Go.Proofs.YtjkppaijicjpoaaGreatDoor.Mc
open Go.RowKit
set_option linter.unusedVariables false
set_option linter.unusedSimpArgs false
set_option maxRecDepth 100000
set_option maxHeartbeats 2000000
set_option simprocs false
def mkR (s : Th) : Nat → List UInt8
 | 0 => []
 | k + 1 => mkR s k ++ (32 :: Lib.itoa (s.r k))
def mk1 (s : Th) : List UInt8 := Lib.itoa ((s.at_ : Nat) : Int) ++ mkR s 8 ++ [59]
def mkN (ts : List Th) : Nat → List UInt8
 | 0 => []
 | i + 1 => mkN ts i ++ mk1 (ts.getD i Th.z)
theorem tyN {q t u : Nat} {G : Gr} {M : Loc} (h : TyAt q t G) (hM : G[q]? = some (some M)) (hne : t ≠ u) : M.t ≠ u := by
 obtain ⟨L, h1, h2⟩ := h
 rw [hM] at h1; cases h1
 rw [h2]; exact hne
section
variable {n : Nat} {T : List (Nat × SV)} {H H0 : Hp} {G0 : Gr} {w0 : World} {G : Gr} {a : Act} {w : World}
end
end Go.Proofs.YtjkppaijicjpoaaGreatDoor.Mc
namespace Go.Proofs.YtjkppaijicjpoaaGreatDoor
open Go.Shelf Go.RowKit
set_option linter.unusedVariables false
def lays137_ren : Go.Shelf.Ren := ⟨fun | 137 => 154 | 217 => 178 | 266 => 207 | n => n, fun | 9 => 9 | 5 => 5 | 3 => 3 | n => n, fun | n => n⟩
theorem lays137 : Go.Proofs.Lays.n137 Tryz.prog lays137_ren := {
 mixed := by kernel_rfl
 f137 := Tryz.func154.trans (congrArg some (by kernel_rfl))
 f217 := Tryz.func178.trans (congrArg some (by kernel_rfl))
 f266 := Tryz.func207.trans (congrArg some (by kernel_rfl))
 t3 := Tryz.underlying3
 a3 := Tryz.isAgg3
 z3 := Tryz.sizeOf3
 v3 := Tryz.zeroValue3
 t5 := Tryz.underlying5
 a5 := Tryz.isAgg5
 z5 := Tryz.sizeOf5
 v5 := Tryz.zeroValue5
 t9 := Tryz.underlying9
 a9 := Tryz.isAgg9
 z9 := Tryz.sizeOf9
 v9 := Tryz.zeroValue9 }
def lays143_ren : Go.Shelf.Ren := ⟨fun | 143 => 107 | 219 => 150 | 217 => 178 | 225 => 179 | 224 => 180 | 267 => 181 | 266 => 207 | 314 => 208 | n => n, fun | 9 => 9 | 3 => 3 | 4 => 4 | 5 => 5 | 46 => 185 | 146 => 235 | 51 => 183 | n => n, fun | 1 => 1 | n => n⟩
theorem lays143 : Go.Proofs.Lays.n143 Tryz.prog lays143_ren := {
 mixed := by kernel_rfl
 f143 := Tryz.func107.trans (congrArg some (by kernel_rfl))
 f217 := Tryz.func178.trans (congrArg some (by kernel_rfl))
 f219 := Tryz.func150.trans (congrArg some (by kernel_rfl))
 f224 := Tryz.func180.trans (congrArg some (by kernel_rfl))
 f225 := Tryz.func179.trans (congrArg some (by kernel_rfl))
 f266 := Tryz.func207.trans (congrArg some (by kernel_rfl))
 f267 := Tryz.func181.trans (congrArg some (by kernel_rfl))
 f314 := Tryz.func208.trans (congrArg some (by kernel_rfl))
 t3 := Tryz.underlying3
 a3 := Tryz.isAgg3
 z3 := Tryz.sizeOf3
 v3 := Tryz.zeroValue3
 t4 := Tryz.underlying4
 a4 := Tryz.isAgg4
 z4 := Tryz.sizeOf4
 v4 := Tryz.zeroValue4
 t5 := Tryz.underlying5
 a5 := Tryz.isAgg5
 z5 := Tryz.sizeOf5
 v5 := Tryz.zeroValue5
 t9 := Tryz.underlying9
 a9 := Tryz.isAgg9
 z9 := Tryz.sizeOf9
 v9 := Tryz.zeroValue9
 t46 := Tryz.underlying185
 a46 := Tryz.isAgg185
 z46 := Tryz.sizeOf185
 v46 := Tryz.zeroValue185
 t51 := Tryz.underlying183
 a51 := Tryz.isAgg183
 z51 := Tryz.sizeOf183
 v51 := Tryz.zeroValue183
 t146 := Tryz.underlying235
 a146 := Tryz.isAgg235
 z146 := Tryz.sizeOf235
 v146 := Tryz.zeroValue235
 g1 := by kernel_rfl }
def marksL : List UInt8 := [123, 125, 40, 41, 91, 93, 59, 124, 44, 58, 61, 43, 45, 35, 36, 126, 42, 47, 92, 38, 63, 94]
def mrkB (b : UInt8) : Bool := marksL.contains b
theorem indexByte_mark (l : List UInt8) (b : UInt8) : decide (Lib.indexByte l b ≥ 0) = l.contains b := by
 induction l with
 | nil => rfl
 | cons x l ih =>
  unfold Lib.indexByte
  rw [List.contains_cons]
  by_cases h : x = b
  ·subst h; simp
  ·have h1 : (x == b) = false := by simp [h]
   have h2 : (b == x) = false := by simp [Ne.symm h]
   rw [h1, h2]
   simp only [Bool.false_eq_true, if_false, Bool.false_or]
   rw [← ih]
   have h3 := Lib.indexByte_ge l b
   by_cases h4 : Lib.indexByte l b = -1
   ·simp [h4]
   ·have h5 : (Lib.indexByte l b == -1) = false := by simp [h4]
    rw [h5]
    simp only [Bool.false_eq_true, if_false]
    exact decide_eq_decide.2 (by omega)
theorem indexByte_any (b : UInt8) (w : World) : Calls Tryz.prog 154 #[.string (S marksL), .int .u8 ((b.toNat : Nat) : Int)] w fun e w' => e = .returned (.int .i64 (Lib.indexByte marksL b)) ∧ Grow w w' := by
 refine (Any.strings_IndexByte lays137 (S marksL) ((b.toNat : Nat) : Int) w).mono ?_
 rintro e w' ⟨rfl, rfl⟩
 refine ⟨?_, Grow.refl _⟩
 rw [S_data, Int.toNat_natCast]
 simp
theorem index_any (l q : List UInt8) (m : Int) (w : World) (hl : l.length ≤ 8192) (hm : w.cell? ⟨1, 0, none⟩ = some (.int .i64 m)) : Calls Tryz.prog 107 #[.string (S l), .string (S q)] w fun e w' => e = .returned (.int .i64 (Lib.index l q)) ∧ Grow w w' := by
 refine (Any.strings_Index lays143 (S l) (S q) m w (by rw [S_size]; omega) hm).mono ?_
 rintro e w' ⟨rfl, rfl⟩
 exact ⟨by rw [S_data, S_data], Grow.refl _⟩
end Go.Proofs.YtjkppaijicjpoaaGreatDoor
namespace Go.Proofs.YtjkppaijicjpoaaGreatDoor
set_option linter.unusedVariables false
def preB (l q : List UInt8) : Bool := decide (q.length ≤ l.length) && (l.take q.length == q)
def mkN (l : List UInt8) : Nat := if preB l [47, 92] || preB l [92, 47] then 2 else if (match l[0]? with | some b => mrkB b | none => false) then 1 else 0
theorem mkN_two {l : List UInt8} (h : preB l [47, 92] = true) : mkN l = 2 := by unfold mkN; simp [h]
theorem mkN_two' {l : List UInt8} (h : preB l [92, 47] = true) : mkN l = 2 := by unfold mkN; simp [h]
theorem mkN_one {l : List UInt8} {b : UInt8} (h1 : preB l [47, 92] = false) (h2 : preB l [92, 47] = false) (hb : l[0]? = some b) (h : decide (Lib.indexByte marksL b ≥ 0) = true) : mkN l = 1 := by
 have : mrkB b = true := by unfold mrkB; rw [← indexByte_mark]; exact h
 unfold mkN; simp [h1, h2, hb, this]
theorem mkN_no {l : List UInt8} {b : UInt8} (h1 : preB l [47, 92] = false) (h2 : preB l [92, 47] = false) (hb : l[0]? = some b) (h : decide (Lib.indexByte marksL b ≥ 0) = false) : mkN l = 0 := by
 have : mrkB b = false := by unfold mrkB; rw [← indexByte_mark]; exact h
 unfold mkN; simp [h1, h2, hb, this]
def endR (l : List UInt8) : Int := Lib.index l [42, 41]
theorem endR_ge (l : List UInt8) : -1 ≤ endR l := Lib.index_ge l _
theorem drop_lt {l : List UInt8} (n : Nat) (h : 0 < l.length) (hn : 0 < n) : (l.drop n).length < l.length := by rw [List.length_drop]; omega
def skipL (l : List UInt8) : Nat × Bool :=
 match l with
 | [] => (0, false)
 | b :: r =>
  if blkB b then ((skipL r).1 + 1, (skipL r).2)
  else if preB (b :: r) [40, 42] then
   if endR ((b :: r).drop 2) < 0 then (0, true)
   else ((skipL ((b :: r).drop (endR ((b :: r).drop 2)).toNat.succ.succ.succ.succ)).1 + ((endR ((b :: r).drop 2)).toNat + 4), (skipL ((b :: r).drop (endR ((b :: r).drop 2)).toNat.succ.succ.succ.succ)).2)
  else (0, false)
termination_by l.length
decreasing_by
 ·simp
 all_goals exact drop_lt _ (by simp) (by omega)
theorem skip_nil : skipL [] = (0, false) := by rw [skipL]
theorem skip_end {l : List UInt8} {n : Nat} (h : l.length ≤ n) : skipL (l.drop n) = (0, false) := by rw [List.drop_eq_nil_of_le h, skip_nil]
theorem skip_blank {l : List UInt8} {n : Nat} {b : UInt8} (hb : l[n]? = some b) (h : blkB b = true) : skipL (l.drop n) = ((skipL (l.drop (n + 1))).1 + 1, (skipL (l.drop (n + 1))).2) := by
 rw [drop_at hb, skipL, if_pos h]
theorem skip_word {l : List UInt8} {n : Nat} {b : UInt8} (hb : l[n]? = some b) (h : blkB b = false) (hp : preB (l.drop n) [40, 42] = false) : skipL (l.drop n) = (0, false) := by
 rw [drop_at hb] at hp ⊢
 rw [skipL, if_neg (by simp [h]), if_neg (by simp [hp])]
theorem skip_open {l : List UInt8} {n : Nat} {b : UInt8} (hb : l[n]? = some b) (h : blkB b = false) (hp : preB (l.drop n) [40, 42] = true) (he : endR (l.drop (n + 2)) < 0) : skipL (l.drop n) = (0, true) := by
 have e : l.drop (n + 2) = (l.drop n).drop 2 := by rw [List.drop_drop]
 rw [e] at he
 rw [drop_at hb] at hp he ⊢
 rw [skipL, if_neg (by simp [h]), if_pos hp, if_pos he]
theorem skip_remark {l : List UInt8} {n : Nat} {b : UInt8} (hb : l[n]? = some b) (h : blkB b = false) (hp : preB (l.drop n) [40, 42] = true) (he : ¬ endR (l.drop (n + 2)) < 0) :
  skipL (l.drop n) = ((skipL (l.drop (n + 2 + (endR (l.drop (n + 2))).toNat + 2))).1 + ((endR (l.drop (n + 2))).toNat + 4), (skipL (l.drop (n + 2 + (endR (l.drop (n + 2))).toNat + 2))).2) := by
 have e : l.drop (n + 2) = (l.drop n).drop 2 := by rw [List.drop_drop]
 have e2 : l.drop (n + 2 + (endR (l.drop (n + 2))).toNat + 2) = (l.drop n).drop (endR (l.drop (n + 2))).toNat.succ.succ.succ.succ := by
  rw [List.drop_drop]; congr 1; omega
 rw [e2, e]
 rw [e] at he
 rw [drop_at hb] at hp he ⊢
 rw [skipL, if_neg (by simp [h]), if_pos hp, if_neg he]
theorem endR_nil : endR [] = -1 := rfl
theorem endR_cons (b : UInt8) (l : List UInt8) : endR (b :: l) = if [42, 41].isPrefixOf (b :: l) then 0 else if endR l == -1 then -1 else endR l + 1 := by
 unfold endR; rw [Lib.index]
theorem endR_le (l : List UInt8) : endR l < 0 ∨ (endR l).toNat + 2 ≤ l.length := by
 induction l with
 | nil => exact .inl (by rw [endR_nil]; omega)
 | cons b l ih =>
  rw [endR_cons]
  split
  ·next h =>
   right
   match l, h with
   | [], h => simp at h
   | c :: l, h => simp
  ·split
   ·left; omega
   ·next h =>
    have h1 : endR l ≠ -1 := by simpa using h
    have h2 := endR_ge l
    rcases ih with h3 | h3
    ·omega
    ·right; simp only [List.length_cons]; omega
end Go.Proofs.YtjkppaijicjpoaaGreatDoor
namespace Go.Proofs.YtjkppaijicjpoaaGreatDoor
def cutF (l q : List UInt8) : List UInt8 := if preB l q then l.drop q.length else l
theorem pre_len {l q : List UInt8} (h : preB l q = true) : q.length ≤ l.length := by unfold preB at h; rw [Bool.and_eq_true] at h; exact of_decide_eq_true h.1
end Go.Proofs.YtjkppaijicjpoaaGreatDoor
namespace Go.Proofs.YtjkppaijicjpoaaGreatDoor
open Go.RowKit
set_option linter.unusedVariables false
set_option linter.unusedSimpArgs false
set_option maxRecDepth 100000
set_option maxHeartbeats 2000000
set_option simprocs false
theorem preB_is (l q : List UInt8) : ((decide ((l.length : Int) ≥ (q.length : Int))) && ((l.take ((q.length : Int)).toNat) == q)) = preB l q := by
 unfold preB; rw [Int.toNat_natCast]; congr 1; exact decide_eq_decide.2 (by omega)
theorem hpre_ (l q : List UInt8)  : Fn Tryz.prog 149 [.str l, .str q] [] (Rt (.bool (preB l q)) []) :=
 enterM (n := 18) (by kernel_rfl) Tryz.func149 rfl rfl rfl fun G w a h0 A => N9 24 A rfl (ok_r <| ok_r <| ok_r <| ok_g (fun hg => (by have := of_decide_eq_true hg; omega)) <| ok_r <| ok_r <| ok_r <| okE_nil) fun A => R9 A rfl h0 rfl (congrArg SV.bool (preB_is l q)) rfl
theorem hasp_ (l q : List UInt8)  : Fn Tryz.prog 106 [.str l, .str q] [] (Rt (.bool (preB l q)) []) :=
 enterM (n := 8) (by kernel_rfl) Tryz.func106 rfl rfl rfl fun G w a h0 A => N9 9 A rfl rfl fun A => C9 [] (hpre_ l q) A rfl fun A => N9 4 A rfl rfl fun A => R9 A rfl h0 rfl rfl rfl
theorem cutpl_ (l q : List UInt8)  : Fn Tryz.prog 182 [.str l, .str q] [] (Rt (.tup [.str (cutF l q), .bool (preB l q)]) []) :=
 enterM (n := 15) (by kernel_rfl) Tryz.func182 rfl rfl rfl fun G w a h0 A => N9 11 A rfl rfl fun A => C9 [] (hpre_ l q) A rfl fun A => N9 3 A rfl rfl fun A => fork 9 A rfl
  (fun h1 A => N9 9 A rfl rfl fun A => R9 A rfl h0 rfl (by have e : preB l q = false := (by have := h1; revert this; cases preB l q <;> simp); unfold cutF; rw [e]; simp [oneS, nb, nbL]) rfl)
  (fun h1 A => N9 14 A rfl (ok_d (by have e : preB l q = true := (by have := h1; revert this; cases preB l q <;> simp); have := pre_len e; omega) <| okE_nil) fun A => R9 A rfl h0 rfl (by have e : preB l q = true := (by have := h1; revert this; cases preB l q <;> simp); unfold cutF; rw [e]; simp [oneS, nb, nbL]) rfl)
theorem cutp_ (l q : List UInt8)  : Fn Tryz.prog 151 [.str l, .str q] [] (Rt (.tup [.str (cutF l q), .bool (preB l q)]) []) :=
 enterM (n := 11) (by kernel_rfl) Tryz.func151 rfl rfl rfl fun G w a h0 A => N9 10 A rfl rfl fun A => C9 [] (cutpl_ l q) A rfl fun A => N9 7 A rfl rfl fun A => R9 A rfl h0 rfl rfl rfl
theorem ixb_ (b : UInt8) : Fn Tryz.prog 154 [.str marksL, .int .u8 ((b.toNat : Nat) : Int)] [] (Rt (.int .i64 (Lib.indexByte marksL b)) []) := fn_grow (by kernel_rfl) rfl rfl (indexByte_any b)
theorem at0 {l : List UInt8} (h : 0 < l.length) : l[0]? = some (l.getD (0 : Int).toNat 0) := by simp [List.getD, h]
theorem markl_ (l : List UInt8) (hl : 0 < l.length) : Fn Tryz.prog 114 [.str l] [] (Rt (.int .i64 ((mkN l : Nat) : Int)) []) :=
 enterM (n := 13) (by kernel_rfl) Tryz.func114 rfl rfl rfl fun G w a h0 A => N9 11 A rfl rfl fun A => C9 [] (hasp_ l [47, 92]) A rfl fun A => N9 3 A rfl rfl fun A => fork 3 A rfl
  (fun h1 A => N9 10 A rfl rfl fun A => R9 A rfl h0 rfl (by rw [mkN_two h1]; rfl) rfl)
  (fun h1 A => N9 3 A rfl rfl fun A => C9 [] (hasp_ l [92, 47]) A rfl fun A => N9 3 A rfl rfl fun A => fork 3 A rfl
   (fun h2 A => N9 7 A rfl rfl fun A => R9 A rfl h0 rfl (by rw [mkN_two' h2]; rfl) rfl)
   (fun h2 A => N9 5 A rfl (ok_d (by omega) <| okE_nil) fun A => C9 [] (ixb_ (l.getD (0 : Int).toNat 0)) A rfl fun A => N9 4 A rfl rfl fun A => forkD 8 A rfl
    (fun h3 A => N9 7 A rfl rfl fun A => R9 A rfl h0 rfl (by rw [mkN_one h1 h2 (at0 hl) (decide_eq_true h3)]; rfl) rfl)
    (fun h3 A => N9 10 A rfl rfl fun A => R9 A rfl h0 rfl (by rw [mkN_no h1 h2 (at0 hl) (decide_eq_false h3)]; rfl) rfl)))
theorem ix_ (l q : List UInt8) (os : List (Nat × Obj)) (hM : ∀ w ks, Gl os w ks → ∃ m, w.cell? ⟨1, 0, none⟩ = some (.int .i64 m)) (hl : l.length ≤ 8192) : FnI (Gl os) Tryz.prog 107 [.str l, .str q] [] (Rt (.int .i64 (Lib.index l q)) []) := fnI_grow (by kernel_rfl) rfl rfl fun w ks h => by
 obtain ⟨m, hm⟩ := hM w ks h
 exact index_any l q m w hl hm
structure KI (l : List UInt8) (a k : Nat) : Prop where
 le : k ≤ l.length
 ge : a ≤ k
 eq : (skipL (l.drop a)) = ((skipL (l.drop k)).1 + (k - a), (skipL (l.drop k)).2)
section
variable {l : List UInt8} {a k : Nat}
theorem KI.i0 (h : a ≤ l.length) : KI l a a := ⟨h, Nat.le_refl _, by simp⟩
theorem KI.bl (hI : KI l a k) (h1 : (k : Int) < (l.length : Int)) (h : blkB (l.getD ((k : Int)).toNat 0) = true) : KI l a (k + 1) := by
 have := hI.ge
 refine ⟨by omega, by omega, ?_⟩
 rw [hI.eq, skip_blank (at_of h1) h]
 simp; omega
theorem KI.rm (hI : KI l a k) (h1 : (k : Int) < (l.length : Int)) (h : blkB (l.getD ((k : Int)).toNat 0) = false) (hp : preB (l.drop ((k : Int)).toNat) [40, 42] = true) (he : ¬ endR (l.drop (((k : Int) + 2)).toNat) < 0) : KI l a (k + 2 + (endR (l.drop (k + 2))).toNat + 2) := by
 have hg := hI.ge
 have hk : ((k : Int)).toNat = k := by omega
 have hk2 : (((k : Int) + 2)).toNat = k + 2 := by omega
 rw [hk] at hp
 rw [hk2] at he
 have hl := pre_len hp
 simp only [List.length_drop, List.length_cons, List.length_nil] at hl
 have hr := endR_le (l.drop (k + 2))
 rw [List.length_drop] at hr
 refine ⟨by omega, by omega, ?_⟩
 rw [hI.eq, skip_remark (at_of h1) h hp he]
 simp; omega
theorem KI.fi (hI : KI l a k) (h : ¬ (k : Int) < (l.length : Int)) : skipL (l.drop a) = (k - a, false) := by
 rw [hI.eq, skip_end (by omega)]; simp
theorem KI.wd (hI : KI l a k) (h1 : (k : Int) < (l.length : Int)) (h : blkB (l.getD ((k : Int)).toNat 0) = false) (hp : preB (l.drop ((k : Int)).toNat) [40, 42] = false) : skipL (l.drop a) = (k - a, false) := by
 have hk : ((k : Int)).toNat = k := by omega
 rw [hk] at hp
 rw [hI.eq, skip_word (at_of h1) h hp]; simp
theorem KI.op (hI : KI l a k) (h1 : (k : Int) < (l.length : Int)) (h : blkB (l.getD ((k : Int)).toNat 0) = false) (hp : preB (l.drop ((k : Int)).toNat) [40, 42] = true) (he : endR (l.drop (((k : Int) + 2)).toNat) < 0) : skipL (l.drop a) = (k - a, true) := by
 have hk : ((k : Int)).toNat = k := by omega
 have hk2 : (((k : Int) + 2)).toNat = k + 2 := by omega
 rw [hk] at hp
 rw [hk2] at he
 rw [hI.eq, skip_open (at_of h1) h hp he]; simp
end
def skE (l : List UInt8) (a : Nat) : Int := if (skipL (l.drop a)).2 then 24 else 0
theorem skip_ (l : List UInt8) (s0 : Nat) (os : List (Nat × Obj)) (hM : ∀ w ks, Gl os w ks → ∃ m, w.cell? ⟨1, 0, none⟩ = some (.int .i64 m)) (ha : s0 ≤ l.length) (hl : l.length ≤ 8192) : FnI (Gl os) Tryz.prog 79 [.str l, .int .i64 (s0 : Int)] [] (Rt (.tup [.int .i64 ((s0 + (skipL (l.drop s0)).1 : Nat) : Int), .int .i64 (skE l s0)]) []) :=
 enterI (n := 39) (by kernel_rfl) Tryz.func79 rfl rfl rfl fun G w a h0 hI A => N9 8 A rfl rfl fun A => LOOP1 (fun (k : Nat) => [(0, .str l), (1, .int .i64 (k : Int)), (4, .int .i64 0), (5, .int .i64 0)]) (fun (k : Nat) => []) (fun (k : Nat) => KI l s0 k) (fun (k : Nat) => l.length - k) s0 (KI.i0 ha) ((A.cut [0, 1, 4, 5] rfl).trunc 0 rfl rfl rfl (by simp only [List.length_cons, List.length_nil] at h0; omega)) fun k hI2 {G a w} A => N9 9 A rfl rfl fun A => forkD 11 A rfl
   (fun h1 A => N9 10 A rfl (ok_d (by have hle := hI2.le; (try simp only [List.length_drop]); omega) <| okE_nil) fun A => C9 [] (isBlank_b (l.getD ((k : Int)).toNat 0)) A rfl fun A => N9 3 A rfl rfl fun A => fork 13 A rfl
    (fun h2 A => N9 8 A rfl (ok_d (by have hle := hI2.le; (try simp only [List.length_drop]); omega) <| okE_nil) fun A => ⟨k + 1, _, (by omega), (hI2.bl h1 h2), ((A.cut [0, 1, 4, 5] rfl).trunc 0 rfl rfl rfl (by simp only [List.length_cons, List.length_nil] at h0; omega)).sayT (by simp)⟩)
    (fun h2 A => N9 6 A rfl (ok_d (by have hle := hI2.le; (try simp only [List.length_drop]); omega) <| okE_nil) fun A => C9 [] (hasp_ (l.drop ((k : Int)).toNat) [40, 42]) A rfl fun A => N9 3 A rfl rfl fun A => fork 20 A rfl
     (fun h3 A => N9 9 A rfl (ok_d (by have hle := hI2.le; have hpl := pre_len h3; simp only [List.length_drop, List.length_cons, List.length_nil] at hpl; have hrl := endR_le (l.drop (((k : Int) + 2)).toNat); rw [List.length_drop] at hrl; (try simp only [List.length_drop]); omega) <| okE_nil) fun A => N9 4 A rfl (ok_d (by have hle := hI2.le; have hpl := pre_len h3; simp only [List.length_drop, List.length_cons, List.length_nil] at hpl; have hrl := endR_le (l.drop (((k : Int) + 2)).toNat); rw [List.length_drop] at hrl; (try simp only [List.length_drop]); omega) <| okE_nil) fun A => I9 [] Gl.ok hI (fnI_asX (ix_ (l.drop ((k : Int) + 2).toNat) [42, 41] os hM (by have hle := hI2.le; have hpl := pre_len h3; simp only [List.length_drop, List.length_cons, List.length_nil] at hpl; have hrl := endR_le (l.drop (((k : Int) + 2)).toNat); rw [List.length_drop] at hrl; (try simp only [List.length_drop]); omega)) (y := .int .i64 (endR (l.drop ((k : Int) + 2).toNat))) fun _ => rfl) A rfl fun A => N9 10 A rfl rfl fun A => forkD 32 A rfl
      (fun h4 A => N9 9 A rfl rfl fun A => R9 A rfl h0 rfl (by have e := hI2.op h1 h2 h3 h4; have hg := hI2.ge; unfold skE; rw [e]; simp [oneS, nb, nbL]; omega) rfl)
      (fun h4 A => N9 12 A rfl (ok_d (by have hle := hI2.le; have hpl := pre_len h3; simp only [List.length_drop, List.length_cons, List.length_nil] at hpl; have hrl := endR_le (l.drop (((k : Int) + 2)).toNat); rw [List.length_drop] at hrl; (try simp only [List.length_drop]); omega) <| ok_d (by have hle := hI2.le; have hpl := pre_len h3; simp only [List.length_drop, List.length_cons, List.length_nil] at hpl; have hrl := endR_le (l.drop (((k : Int) + 2)).toNat); rw [List.length_drop] at hrl; (try simp only [List.length_drop]); omega) <| okE_nil) fun A => ⟨k + 2 + (endR (l.drop (k + 2))).toNat + 2, _, (by omega), (hI2.rm h1 h2 h3 h4), ((A.cut [0, 1, 4, 5] rfl).trunc 0 rfl rfl rfl (by simp only [List.length_cons, List.length_nil] at h0; omega)).sayT (by have e2 : (((k : Int) + 2)).toNat = k + 2 := (by omega); simp only [e2] at h4 ⊢; congr 5; omega)⟩))
     (fun h3 A => N9 9 A rfl rfl fun A => R9 A rfl h0 rfl (by have e := hI2.wd h1 h2 h3; have hg := hI2.ge; unfold skE; rw [e]; simp [oneS, nb, nbL]; omega) rfl)))
   (fun h1 A => N9 11 A rfl rfl fun A => R9 A rfl h0 rfl (by have e := hI2.fi h1; have hg := hI2.ge; unfold skE; rw [e]; simp [oneS, nb, nbL]; omega) rfl)
end Go.Proofs.YtjkppaijicjpoaaGreatDoor
namespace Go.Proofs.YtjkppaijicjpoaaGreatDoor
set_option linter.unusedVariables false
def lwcB (b : UInt8) : Nat := (b ||| 32).toNat
theorem lowB_le (b : UInt8) : lwcB b ≤ 255 := by unfold lwcB; exact Nat.le_of_lt_succ (b ||| 32).toNat_lt
def dv (b : UInt8) : Nat := if 48 ≤ b.toNat ∧ b.toNat ≤ 57 then b.toNat - 48 else if 97 ≤ lwcB b ∧ lwcB b ≤ 122 then lwcB b - 97 + 10 else 99
theorem dv_dig {b : UInt8} (h1 : 48 ≤ b.toNat) (h2 : b.toNat ≤ 57) : dv b = b.toNat - 48 := if_pos ⟨h1, h2⟩
theorem dv_let {b : UInt8} (h : ¬ (48 ≤ b.toNat ∧ b.toNat ≤ 57)) (h1 : 97 ≤ lwcB b) (h2 : lwcB b ≤ 122) : dv b = lwcB b - 97 + 10 := by unfold dv; rw [if_neg h, if_pos ⟨h1, h2⟩]
theorem dv_bad {b : UInt8} (h : ¬ (48 ≤ b.toNat ∧ b.toNat ≤ 57)) (h1 : ¬ (97 ≤ lwcB b ∧ lwcB b ≤ 122)) : dv b = 99 := by unfold dv; rw [if_neg h, if_neg h1]
def nv (bs : Nat) (l : List UInt8) : Nat := l.foldl (fun n b => n * bs + dv b) 0
def allD (bs : Nat) (l : List UInt8) : Bool := l.all fun b => decide (dv b < bs)
def valL (bs : Nat) (l : List UInt8) : Option Nat := if l = [] ∨ allD bs l = false then none else some (nv bs l)
theorem nv_zero (bs : Nat) (l : List UInt8) : nv bs (l.take 0) = 0 := rfl
theorem take_at {l : List UInt8} {i : Nat} {y : UInt8} (h : l[i]? = some y) : l.take (i + 1) = l.take i ++ [y] := by
 rw [List.take_add_one, h]; rfl
theorem nv_go {bs : Nat} {l : List UInt8} {i : Nat} {y : UInt8} (h : l[i]? = some y) : nv bs (l.take (i + 1)) = nv bs (l.take i) * bs + dv y := by
 rw [take_at h]; unfold nv; rw [List.foldl_append]; rfl
theorem all_go {bs : Nat} {l : List UInt8} {i : Nat} {y : UInt8} (h : l[i]? = some y) (ha : allD bs (l.take i) = true) (hy : dv y < bs) : allD bs (l.take (i + 1)) = true := by
 rw [take_at h]; unfold allD at *; rw [List.all_append, ha]; simp [hy]
theorem val_bad {bs : Nat} {l : List UInt8} {i : Nat} {y : UInt8} (h : l[i]? = some y) (hy : bs ≤ dv y) : valL bs l = none := by
 unfold valL; rw [if_pos]; right
 cases ha : allD bs l
 ·rfl
 ·exfalso
  have := List.all_eq_true.1 ha y (List.mem_of_getElem? h)
  have := of_decide_eq_true this
  omega
theorem val_nil {bs : Nat} {l : List UInt8} (h : l = []) : valL bs l = none := by unfold valL; rw [if_pos (.inl h)]
theorem val_end {bs : Nat} {l : List UInt8} {i : Nat} (h : l ≠ []) (ha : allD bs (l.take i) = true) (hi : l.length ≤ i) : valL bs l = some (nv bs (l.take i)) := by
 rw [List.take_of_length_le hi] at *
 unfold valL; rw [if_neg (by simp [h, ha])]
theorem nv_pow {bs : Nat} (hb : 0 < bs) (l : List UInt8) (i : Nat) (ha : allD bs (l.take i) = true) : nv bs (l.take i) < bs ^ i := by
 induction i with
 | zero => rw [nv_zero]; simp
 | succ i ih =>
  cases hy : l[i]? with
  | none =>
   have hl : l.length ≤ i := by simpa using hy
   have e : l.take (i + 1) = l.take i := by rw [List.take_of_length_le hl, List.take_of_length_le (by omega)]
   rw [e] at ha ⊢
   exact Nat.lt_of_lt_of_le (ih ha) (Nat.pow_le_pow_right hb (by omega))
  | some y =>
   rw [take_at hy] at ha
   unfold allD at ha
   rw [List.all_append, Bool.and_eq_true] at ha
   have h1 := ih ha.1
   have h2 : dv y < bs := by simpa using ha.2
   rw [nv_go hy, Nat.pow_succ]
   calc nv bs (l.take i) * bs + dv y < nv bs (l.take i) * bs + bs := by omega
    _ = (nv bs (l.take i) + 1) * bs := by rw [Nat.add_mul, Nat.one_mul]
    _ ≤ bs ^ i * bs := Nat.mul_le_mul_right _ h1
theorem nv_10 {l : List UInt8} {i : Nat} (ha : allD 10 (l.take i) = true) (hi : i ≤ 18) : nv 10 (l.take i) < 1000000000000000000 :=
 Nat.lt_of_lt_of_le (nv_pow (by omega) l i ha) (Nat.pow_le_pow_right (n := 10) (by omega) hi)
theorem nv_16 {l : List UInt8} {i : Nat} (ha : allD 16 (l.take i) = true) (hi : i ≤ 15) : nv 16 (l.take i) < 1152921504606846976 :=
 Nat.lt_of_lt_of_le (nv_pow (by omega) l i ha) (Nat.pow_le_pow_right (n := 16) (by omega) hi)
end Go.Proofs.YtjkppaijicjpoaaGreatDoor
namespace Go.Proofs.YtjkppaijicjpoaaGreatDoor
open Go.RowKit
set_option linter.unusedVariables false
set_option linter.unusedSimpArgs false
set_option maxRecDepth 100000
set_option maxHeartbeats 2000000
set_option simprocs false
theorem lower_ (c : Int)  : Fn Tryz.prog 209 [.int .u8 c] [] (Rt (.int .u8 (IntKind.wrap .u8 ((((BitVec.ofInt (IntKind.bits .u8) c) ||| (BitVec.ofInt (IntKind.bits .u8) 32)).toNat : Nat) : Int))) []) :=
 enterM (n := 5) (by kernel_rfl) Tryz.func209 rfl rfl rfl fun G w a h0 A => N9 13 A rfl rfl fun A => R9 A rfl h0 rfl rfl rfl
theorem low_is (b : UInt8) : IntKind.wrap .u8 ((((BitVec.ofInt (IntKind.bits .u8) ((b.toNat : Nat) : Int)) ||| (BitVec.ofInt (IntKind.bits .u8) 32)).toNat : Nat) : Int) = ((lwcB b : Nat) : Int) := by
 have h : (BitVec.ofInt 8 ((b.toNat : Nat) : Int) ||| BitVec.ofInt 8 32).toNat = (b ||| 32).toNat := by
  have e1 : BitVec.ofInt 8 ((b.toNat : Nat) : Int) = b.toBitVec := by
   apply BitVec.eq_of_toNat_eq
   rw [BitVec.toNat_ofInt]
   have := b.toNat_lt
   simp; omega
  rw [e1]; rfl
 show IntKind.wrap .u8 (((BitVec.ofInt 8 ((b.toNat : Nat) : Int) ||| BitVec.ofInt 8 32).toNat : Nat) : Int) = _
 rw [h]
 have := lowB_le b
 unfold lwcB at this ⊢
 exact wrap8 (by omega) (by omega)
theorem low_b (b : UInt8) : Fn Tryz.prog 209 [.int .u8 ((b.toNat : Nat) : Int)] [] (Rt (.int .u8 ((lwcB b : Nat) : Int)) []) := fn_asX (lower_ _) (as_int (low_is b))
def puX (bs : Nat) (l : List UInt8) : SV := match valL bs l with | some n => .tup [.int .u64 (n : Int), .v .nilIface] | none => .tup [.int .u64 0, .v (.iface 237 (.int .i64 2))]
theorem puX_none {bs : Nat} {l : List UInt8} (h : valL bs l = none) : puX bs l = .tup [.int .u64 0, .v (.iface 237 (.int .i64 2))] := by unfold puX; rw [h]
theorem puX_some {bs : Nat} {l : List UInt8} {n : Nat} (h : valL bs l = some n) : puX bs l = .tup [.int .u64 (n : Int), .v .nilIface] := by unfold puX; rw [h]
structure NI (bs : Nat) (l : List UInt8) (j : Nat) : Prop where
 le : j ≤ l.length
 al : allD bs (l.take j) = true
theorem parse10_ (l : List UInt8) (hl : l.length ≤ 19) : Fn Tryz.prog 183 [.str l, .int .i64 10, .int .i64 64] [] (Rt (puX 10 l) []) :=
 enterM (n := 172) (by kernel_rfl) Tryz.func183 rfl rfl rfl fun G w a h0 A => N9 13 A rfl rfl fun A => forkE 19 A rfl
  (fun h1 A => N9 3 A rfl rfl fun A => q_eff A rfl (ifcE rfl rfl rfl rfl (by kernel_rfl)) fun A => N9 5 A rfl rfl fun A => R9 A rfl h0 rfl (by rw [puX_none (val_nil h1)]; rfl) rfl)
  (fun h1 A => N9 7 A rfl rfl fun A => have A := sy_sayD A 22 (.ff) rfl (fun _ => congrArg (fun b => some (Value.bool b)) (show (10 == 0) = false by decide)); N9 19 A rfl rfl fun A => have A := sy_sayD A 31 (.tt) rfl (fun _ => congrArg (fun b => some (Value.bool b)) (show ((decide (2 ≤ 10)) && (decide (10 ≤ 36))) = true by decide)); N9 14 A rfl rfl fun A => forkE 77 A rfl
   (fun h2 A => absurd h2 (by decide))
   (fun h2 A => N9 9 A rfl rfl fun A => have A := sy_sayD A 83 (.ff) rfl (fun _ => congrArg (fun b => some (Value.bool b)) (show ((decide (64 < 0)) || (decide (64 > 64))) = false by decide)); N9 23 A rfl rfl fun A => forkE 90 A rfl
    (fun h3 A => N9 10 A rfl rfl fun A => have A := sy_sayD A 95 (.int .u64 64) rfl (as_int (show IntKind.wrap .u64 64 = 64 by decide)); N9 1 A rfl (ok_d (by omega) <| okE_nil) fun A => have A := sy_sayD A 96 (.int .u64 0) rfl (as_int (show IntKind.wrap .u64 (1 * 2 ^ min (64 : Int).toNat (IntKind.bits .u64)) = 0 by decide)); N9 1 A rfl rfl fun A => have A := sy_sayD A 97 (.int .u64 18446744073709551615) rfl (as_int (show IntKind.wrap .u64 (0 - 1) = 18446744073709551615 by decide)); N9 17 A rfl rfl fun A => q_eff A rfl (bytesE (i := 0) (e := 5) rfl rfl rfl (by kernel_rfl) (by kernel_rfl) (by kernel_rfl) rfl) fun A => N9 5 A rfl rfl fun A => LOOP1 (fun (j : Nat) => [(1, .int .i64 10), (6, .int .u64 0), (7, .v .nilIface), (8, .ff), (9, .str l), (10, .int .u64 1844674407370955162), (11, .int .u64 18446744073709551615), (12, .ff), (13, .int .u64 ((nv 10 (l.take j) : Nat) : Int)), (99, .sl 0 l.length 0), (100, .int .i64 ((l.length : Nat) : Int)), (101, .int .i64 (j : Int))]) (fun (j : Nat) => [some (.lst 1 l.length (fun k => [.int .u8 (((l.getD k 0).toNat : Nat) : Int)]))]) (fun (j : Nat) => NI 10 l j) (fun (j : Nat) => l.length - j) 0 ⟨Nat.zero_le _, rfl⟩ ((A.cut [1, 6, 7, 8, 9, 10, 11, 12, 13, 99, 100, 101] rfl).trunc 1 rfl rfl rfl (by simp only [List.length_cons, List.length_nil] at h0; omega)) fun j hI {G a w} A => N9 6 A rfl rfl fun A => forkD 102 A rfl
      (fun h4 A => N9 13 A rfl (ok_d (by have := hI.le; omega) <| ok_d (by have := hI.le; omega) <| okE_nil) fun A => N9 13 A rfl rfl fun A => have A := sy_sayD A 111 (.ff) rfl (fun _ => congrArg (fun b => some (Value.bool b)) (show (bif (((l.getD (((j : Int)).toNat) 0).toNat : Nat) : Int) == 95 then false else false) = false by simp)); N9 15 A rfl rfl fun A => fork 112 A rfl
       (fun h5 A => N9 4 A rfl rfl fun A => have A := sy_sayD A 120 (.int .u8 ((dv (l.getD (((j : Int)).toNat) 0) : Nat) : Int)) rfl (as_int (show IntKind.wrap .u8 ((((l.getD (((j : Int)).toNat) 0).toNat : Nat) : Int) - 48) = ((dv (l.getD (((j : Int)).toNat) 0) : Nat) : Int) by have h := h5; simp only [Bool.and_eq_true, decide_eq_true_eq] at h; rw [dv_dig (by omega) (by omega), wrap8 (by omega) (by omega)]; omega)); N9 10 A rfl rfl fun A => have A := sy_sayD A 136 (.int .u8 10) rfl (as_int (show IntKind.wrap .u8 10 = 10 by decide)); N9 3 A rfl rfl fun A => forkD 137 A rfl
        (fun h6 A => N9 3 A rfl rfl fun A => q_eff A rfl (ifcE rfl rfl rfl rfl (by kernel_rfl)) fun A => N9 5 A rfl rfl fun A => R9 A rfl h0 rfl (by rw [puX_none (val_bad (at_of h4) (by have := h6; omega))]; rfl) rfl)
        (fun h6 A => N9 11 A rfl rfl fun A => forkD 141 A rfl
         (fun h7 A => absurd h7 (by have hp := nv_10 hI.al; have hle := hI.le; have hj := h4; omega))
         (fun h7 A => N9 8 A rfl rfl fun A => have A := sy_sayD A 146 (.int .u64 10) rfl (as_int (show IntKind.wrap .u64 10 = 10 by decide)); N9 1 A rfl rfl fun A => have A := sy_sayD A 147 (.int .u64 (((nv 10 (l.take j) : Nat) : Int) * 10)) rfl (as_int (show IntKind.wrap .u64 (((nv 10 (l.take j) : Nat) : Int) * 10) = ((nv 10 (l.take j) : Nat) : Int) * 10 by have hp := nv_10 hI.al; have hle := hI.le; have hj := h4; exact wrap64 (by omega) (by omega))); N9 8 A rfl rfl fun A => have A := sy_sayD A 150 (.int .u64 ((dv (l.getD (((j : Int)).toNat) 0) : Nat) : Int)) rfl (as_int (show IntKind.wrap .u64 ((dv (l.getD (((j : Int)).toNat) 0) : Nat) : Int) = ((dv (l.getD (((j : Int)).toNat) 0) : Nat) : Int) by have := h6; exact wrap64 (by omega) (by omega))); N9 1 A rfl rfl fun A => have A := sy_sayD A 151 (.int .u64 ((nv 10 (l.take (j + 1)) : Nat) : Int)) rfl (as_int (show IntKind.wrap .u64 ((((nv 10 (l.take j) : Nat) : Int) * 10) + ((dv (l.getD (((j : Int)).toNat) 0) : Nat) : Int)) = ((nv 10 (l.take (j + 1)) : Nat) : Int) by have hp := nv_10 hI.al; have hle := hI.le; have hj := h4; have hd : dv (l.getD (((j : Int)).toNat) 0) < 10 := (by have := h6; omega); rw [nv_go (at_of hj)]; have e0 : (((j : Int)).toNat) = ((j : Int)).toNat := rfl; rw [wrap64 (by omega) (by omega)]; omega)); N9 14 A rfl rfl fun A => have A := sy_sayD A 159 (.ff) rfl (fun _ => congrArg (fun b => some (Value.bool b)) (show ((decide (((nv 10 (l.take (j + 1)) : Nat) : Int) < (((nv 10 (l.take j) : Nat) : Int) * 10))) || (decide (((nv 10 (l.take (j + 1)) : Nat) : Int) > 18446744073709551615))) = false by have hp := nv_10 hI.al; have hle := hI.le; have hj := h4; have hd : dv (l.getD (((j : Int)).toNat) 0) < 10 := (by have := h6; omega); have hg := nv_go (bs := 10) (at_of hj); rw [Bool.eq_false_iff]; intro hc; simp only [Bool.or_eq_true, decide_eq_true_eq] at hc; omega)); N9 15 A rfl (ok_d (by have := hI.le; omega) <| okE_nil) fun A => ⟨j + 1, _, (by omega), ⟨by have := hI.le; omega, all_go (at_of h4) hI.al (by have := h6; omega)⟩, ((A.cut [1, 6, 7, 8, 9, 10, 11, 12, 13, 99, 100, 101] rfl).trunc 1 rfl rfl rfl (by simp only [List.length_cons, List.length_nil] at h0; omega))⟩)))
       (fun h5 A => N9 4 A rfl rfl fun A => C9 [] (low_b (l.getD (((j : Int)).toNat) 0)) A rfl fun A => N9 2 A rfl rfl fun A => forkD 125 A rfl
        (fun h8 A => N9 1 A rfl rfl fun A => C9 [] (low_b (l.getD (((j : Int)).toNat) 0)) A rfl fun A => N9 5 A rfl rfl fun A => forkD 121 A rfl
         (fun h9 A => N9 3 A rfl rfl fun A => C9 [] (low_b (l.getD (((j : Int)).toNat) 0)) A rfl fun A => N9 2 A rfl rfl fun A => have A := sy_sayD A 133 (.int .u8 ((dv (l.getD (((j : Int)).toNat) 0) : Nat) : Int)) rfl (as_int (show IntKind.wrap .u8 ((IntKind.wrap .u8 (((lwcB (l.getD (((j : Int)).toNat) 0) : Nat) : Int) - 97)) + 10) = ((dv (l.getD (((j : Int)).toNat) 0) : Nat) : Int) by have h := h5; simp only [Bool.and_eq_false_iff, decide_eq_false_iff_not] at h; have h2 := h8; have h3 := h9; rw [dv_let (by omega) (by omega) (by omega), wrap8 (n := ((lwcB (l.getD (((j : Int)).toNat) 0) : Nat) : Int) - 97) (by omega) (by omega), wrap8 (by omega) (by omega)]; omega)); N9 10 A rfl rfl fun A => have A := sy_sayD A 136 (.int .u8 10) rfl (as_int (show IntKind.wrap .u8 10 = 10 by decide)); N9 3 A rfl rfl fun A => forkD 137 A rfl
          (fun h10 A => N9 3 A rfl rfl fun A => q_eff A rfl (ifcE rfl rfl rfl rfl (by kernel_rfl)) fun A => N9 5 A rfl rfl fun A => R9 A rfl h0 rfl (by rw [puX_none (val_bad (at_of h4) (by have := h10; omega))]; rfl) rfl)
          (fun h10 A => N9 11 A rfl rfl fun A => forkD 141 A rfl
           (fun h11 A => absurd h11 (by have hp := nv_10 hI.al; have hle := hI.le; have hj := h4; omega))
           (fun h11 A => N9 8 A rfl rfl fun A => have A := sy_sayD A 146 (.int .u64 10) rfl (as_int (show IntKind.wrap .u64 10 = 10 by decide)); N9 1 A rfl rfl fun A => have A := sy_sayD A 147 (.int .u64 (((nv 10 (l.take j) : Nat) : Int) * 10)) rfl (as_int (show IntKind.wrap .u64 (((nv 10 (l.take j) : Nat) : Int) * 10) = ((nv 10 (l.take j) : Nat) : Int) * 10 by have hp := nv_10 hI.al; have hle := hI.le; have hj := h4; exact wrap64 (by omega) (by omega))); N9 8 A rfl rfl fun A => have A := sy_sayD A 150 (.int .u64 ((dv (l.getD (((j : Int)).toNat) 0) : Nat) : Int)) rfl (as_int (show IntKind.wrap .u64 ((dv (l.getD (((j : Int)).toNat) 0) : Nat) : Int) = ((dv (l.getD (((j : Int)).toNat) 0) : Nat) : Int) by have := h10; exact wrap64 (by omega) (by omega))); N9 1 A rfl rfl fun A => have A := sy_sayD A 151 (.int .u64 ((nv 10 (l.take (j + 1)) : Nat) : Int)) rfl (as_int (show IntKind.wrap .u64 ((((nv 10 (l.take j) : Nat) : Int) * 10) + ((dv (l.getD (((j : Int)).toNat) 0) : Nat) : Int)) = ((nv 10 (l.take (j + 1)) : Nat) : Int) by have hp := nv_10 hI.al; have hle := hI.le; have hj := h4; have hd : dv (l.getD (((j : Int)).toNat) 0) < 10 := (by have := h10; omega); rw [nv_go (at_of hj)]; have e0 : (((j : Int)).toNat) = ((j : Int)).toNat := rfl; rw [wrap64 (by omega) (by omega)]; omega)); N9 14 A rfl rfl fun A => have A := sy_sayD A 159 (.ff) rfl (fun _ => congrArg (fun b => some (Value.bool b)) (show ((decide (((nv 10 (l.take (j + 1)) : Nat) : Int) < (((nv 10 (l.take j) : Nat) : Int) * 10))) || (decide (((nv 10 (l.take (j + 1)) : Nat) : Int) > 18446744073709551615))) = false by have hp := nv_10 hI.al; have hle := hI.le; have hj := h4; have hd : dv (l.getD (((j : Int)).toNat) 0) < 10 := (by have := h10; omega); have hg := nv_go (bs := 10) (at_of hj); rw [Bool.eq_false_iff]; intro hc; simp only [Bool.or_eq_true, decide_eq_true_eq] at hc; omega)); N9 15 A rfl (ok_d (by have := hI.le; omega) <| okE_nil) fun A => ⟨j + 1, _, (by omega), ⟨by have := hI.le; omega, all_go (at_of h4) hI.al (by have := h10; omega)⟩, ((A.cut [1, 6, 7, 8, 9, 10, 11, 12, 13, 99, 100, 101] rfl).trunc 1 rfl rfl rfl (by simp only [List.length_cons, List.length_nil] at h0; omega))⟩)))
         (fun h9 A => N9 3 A rfl rfl fun A => q_eff A rfl (ifcE rfl rfl rfl rfl (by kernel_rfl)) fun A => N9 5 A rfl rfl fun A => R9 A rfl h0 rfl (by rw [puX_none (val_bad (at_of h4) (by have h := h5; simp only [Bool.and_eq_false_iff, decide_eq_false_iff_not] at h; have h0 := h8; have h1 := h9; rw [dv_bad (by omega) (by omega)]; omega))]; rfl) rfl))
        (fun h8 A => N9 10 A rfl rfl fun A => q_eff A rfl (ifcE rfl rfl rfl rfl (by kernel_rfl)) fun A => N9 5 A rfl rfl fun A => R9 A rfl h0 rfl (by rw [puX_none (val_bad (at_of h4) (by have h := h5; simp only [Bool.and_eq_false_iff, decide_eq_false_iff_not] at h; have h0 := h8; rw [dv_bad (by omega) (by omega)]; omega))]; rfl) rfl)))
      (fun h4 A => N9 25 A rfl rfl fun A => R9 A rfl h0 rfl (by rw [puX_some (val_end h1 hI.al (by have := h4; omega))]; rfl) rfl))
    (fun h3 A => absurd rfl h3)))
theorem parse10_s (l : List UInt8) (n : Nat) (hl : l.length ≤ 19) (h : valL 10 l = some n) : Fn Tryz.prog 183 [.str l, .int .i64 10, .int .i64 64] [] (Rt (.tup [.int .u64 (n : Int), .v .nilIface]) []) := by have := parse10_ l hl; rw [puX_some h] at this; exact this
theorem parse10_n (l : List UInt8) (hl : l.length ≤ 19) (h : valL 10 l = none) : Fn Tryz.prog 183 [.str l, .int .i64 10, .int .i64 64] [] (Rt (.tup [.int .u64 0, .v (.iface 237 (.int .i64 2))]) []) := by have := parse10_ l hl; rw [puX_none h] at this; exact this
theorem parse16_ (l : List UInt8) (hl : l.length ≤ 16) : Fn Tryz.prog 183 [.str l, .int .i64 16, .int .i64 64] [] (Rt (puX 16 l) []) :=
 enterM (n := 172) (by kernel_rfl) Tryz.func183 rfl rfl rfl fun G w a h0 A => N9 13 A rfl rfl fun A => forkE 19 A rfl
  (fun h1 A => N9 3 A rfl rfl fun A => q_eff A rfl (ifcE rfl rfl rfl rfl (by kernel_rfl)) fun A => N9 5 A rfl rfl fun A => R9 A rfl h0 rfl (by rw [puX_none (val_nil h1)]; rfl) rfl)
  (fun h1 A => N9 7 A rfl rfl fun A => have A := sy_sayD A 22 (.ff) rfl (fun _ => congrArg (fun b => some (Value.bool b)) (show (16 == 0) = false by decide)); N9 19 A rfl rfl fun A => have A := sy_sayD A 31 (.tt) rfl (fun _ => congrArg (fun b => some (Value.bool b)) (show ((decide (2 ≤ 16)) && (decide (16 ≤ 36))) = true by decide)); N9 14 A rfl rfl fun A => forkE 77 A rfl
   (fun h2 A => absurd h2 (by decide))
   (fun h2 A => N9 9 A rfl rfl fun A => have A := sy_sayD A 83 (.ff) rfl (fun _ => congrArg (fun b => some (Value.bool b)) (show ((decide (64 < 0)) || (decide (64 > 64))) = false by decide)); N9 23 A rfl rfl fun A => forkE 90 A rfl
    (fun h3 A => absurd h3 (by decide))
    (fun h3 A => N9 7 A rfl rfl fun A => forkE 92 A rfl
     (fun h4 A => N9 10 A rfl rfl fun A => have A := sy_sayD A 95 (.int .u64 64) rfl (as_int (show IntKind.wrap .u64 64 = 64 by decide)); N9 1 A rfl (ok_d (by omega) <| okE_nil) fun A => have A := sy_sayD A 96 (.int .u64 0) rfl (as_int (show IntKind.wrap .u64 (1 * 2 ^ min (64 : Int).toNat (IntKind.bits .u64)) = 0 by decide)); N9 1 A rfl rfl fun A => have A := sy_sayD A 97 (.int .u64 18446744073709551615) rfl (as_int (show IntKind.wrap .u64 (0 - 1) = 18446744073709551615 by decide)); N9 17 A rfl rfl fun A => q_eff A rfl (bytesE (i := 0) (e := 5) rfl rfl rfl (by kernel_rfl) (by kernel_rfl) (by kernel_rfl) rfl) fun A => N9 5 A rfl rfl fun A => LOOP1 (fun (j : Nat) => [(1, .int .i64 16), (6, .int .u64 0), (7, .v .nilIface), (8, .ff), (9, .str l), (10, .int .u64 1152921504606846976), (11, .int .u64 18446744073709551615), (12, .ff), (13, .int .u64 ((nv 16 (l.take j) : Nat) : Int)), (99, .sl 0 l.length 0), (100, .int .i64 ((l.length : Nat) : Int)), (101, .int .i64 (j : Int))]) (fun (j : Nat) => [some (.lst 1 l.length (fun k => [.int .u8 (((l.getD k 0).toNat : Nat) : Int)]))]) (fun (j : Nat) => NI 16 l j) (fun (j : Nat) => l.length - j) 0 ⟨Nat.zero_le _, rfl⟩ ((A.cut [1, 6, 7, 8, 9, 10, 11, 12, 13, 99, 100, 101] rfl).trunc 1 rfl rfl rfl (by simp only [List.length_cons, List.length_nil] at h0; omega)) fun j hI {G a w} A => N9 6 A rfl rfl fun A => forkD 102 A rfl
       (fun h5 A => N9 13 A rfl (ok_d (by have := hI.le; omega) <| ok_d (by have := hI.le; omega) <| okE_nil) fun A => N9 13 A rfl rfl fun A => have A := sy_sayD A 111 (.ff) rfl (fun _ => congrArg (fun b => some (Value.bool b)) (show (bif (((l.getD (((j : Int)).toNat) 0).toNat : Nat) : Int) == 95 then false else false) = false by simp)); N9 15 A rfl rfl fun A => fork 112 A rfl
        (fun h6 A => N9 4 A rfl rfl fun A => have A := sy_sayD A 120 (.int .u8 ((dv (l.getD (((j : Int)).toNat) 0) : Nat) : Int)) rfl (as_int (show IntKind.wrap .u8 ((((l.getD (((j : Int)).toNat) 0).toNat : Nat) : Int) - 48) = ((dv (l.getD (((j : Int)).toNat) 0) : Nat) : Int) by have h := h6; simp only [Bool.and_eq_true, decide_eq_true_eq] at h; rw [dv_dig (by omega) (by omega), wrap8 (by omega) (by omega)]; omega)); N9 10 A rfl rfl fun A => have A := sy_sayD A 136 (.int .u8 16) rfl (as_int (show IntKind.wrap .u8 16 = 16 by decide)); N9 3 A rfl rfl fun A => forkD 137 A rfl
         (fun h7 A => N9 3 A rfl rfl fun A => q_eff A rfl (ifcE rfl rfl rfl rfl (by kernel_rfl)) fun A => N9 5 A rfl rfl fun A => R9 A rfl h0 rfl (by rw [puX_none (val_bad (at_of h5) (by have := h7; omega))]; rfl) rfl)
         (fun h7 A => N9 11 A rfl rfl fun A => forkD 141 A rfl
          (fun h8 A => absurd h8 (by have hp := nv_16 hI.al; have hle := hI.le; have hj := h5; omega))
          (fun h8 A => N9 8 A rfl rfl fun A => have A := sy_sayD A 146 (.int .u64 16) rfl (as_int (show IntKind.wrap .u64 16 = 16 by decide)); N9 1 A rfl rfl fun A => have A := sy_sayD A 147 (.int .u64 (((nv 16 (l.take j) : Nat) : Int) * 16)) rfl (as_int (show IntKind.wrap .u64 (((nv 16 (l.take j) : Nat) : Int) * 16) = ((nv 16 (l.take j) : Nat) : Int) * 16 by have hp := nv_16 hI.al; have hle := hI.le; have hj := h5; exact wrap64 (by omega) (by omega))); N9 8 A rfl rfl fun A => have A := sy_sayD A 150 (.int .u64 ((dv (l.getD (((j : Int)).toNat) 0) : Nat) : Int)) rfl (as_int (show IntKind.wrap .u64 ((dv (l.getD (((j : Int)).toNat) 0) : Nat) : Int) = ((dv (l.getD (((j : Int)).toNat) 0) : Nat) : Int) by have := h7; exact wrap64 (by omega) (by omega))); N9 1 A rfl rfl fun A => have A := sy_sayD A 151 (.int .u64 ((nv 16 (l.take (j + 1)) : Nat) : Int)) rfl (as_int (show IntKind.wrap .u64 ((((nv 16 (l.take j) : Nat) : Int) * 16) + ((dv (l.getD (((j : Int)).toNat) 0) : Nat) : Int)) = ((nv 16 (l.take (j + 1)) : Nat) : Int) by have hp := nv_16 hI.al; have hle := hI.le; have hj := h5; have hd : dv (l.getD (((j : Int)).toNat) 0) < 16 := (by have := h7; omega); rw [nv_go (at_of hj)]; have e0 : (((j : Int)).toNat) = ((j : Int)).toNat := rfl; rw [wrap64 (by omega) (by omega)]; omega)); N9 14 A rfl rfl fun A => have A := sy_sayD A 159 (.ff) rfl (fun _ => congrArg (fun b => some (Value.bool b)) (show ((decide (((nv 16 (l.take (j + 1)) : Nat) : Int) < (((nv 16 (l.take j) : Nat) : Int) * 16))) || (decide (((nv 16 (l.take (j + 1)) : Nat) : Int) > 18446744073709551615))) = false by have hp := nv_16 hI.al; have hle := hI.le; have hj := h5; have hd : dv (l.getD (((j : Int)).toNat) 0) < 16 := (by have := h7; omega); have hg := nv_go (bs := 16) (at_of hj); rw [Bool.eq_false_iff]; intro hc; simp only [Bool.or_eq_true, decide_eq_true_eq] at hc; omega)); N9 15 A rfl (ok_d (by have := hI.le; omega) <| okE_nil) fun A => ⟨j + 1, _, (by omega), ⟨by have := hI.le; omega, all_go (at_of h5) hI.al (by have := h7; omega)⟩, ((A.cut [1, 6, 7, 8, 9, 10, 11, 12, 13, 99, 100, 101] rfl).trunc 1 rfl rfl rfl (by simp only [List.length_cons, List.length_nil] at h0; omega))⟩)))
        (fun h6 A => N9 4 A rfl rfl fun A => C9 [] (low_b (l.getD (((j : Int)).toNat) 0)) A rfl fun A => N9 2 A rfl rfl fun A => forkD 125 A rfl
         (fun h9 A => N9 1 A rfl rfl fun A => C9 [] (low_b (l.getD (((j : Int)).toNat) 0)) A rfl fun A => N9 5 A rfl rfl fun A => forkD 121 A rfl
          (fun h10 A => N9 3 A rfl rfl fun A => C9 [] (low_b (l.getD (((j : Int)).toNat) 0)) A rfl fun A => N9 2 A rfl rfl fun A => have A := sy_sayD A 133 (.int .u8 ((dv (l.getD (((j : Int)).toNat) 0) : Nat) : Int)) rfl (as_int (show IntKind.wrap .u8 ((IntKind.wrap .u8 (((lwcB (l.getD (((j : Int)).toNat) 0) : Nat) : Int) - 97)) + 10) = ((dv (l.getD (((j : Int)).toNat) 0) : Nat) : Int) by have h := h6; simp only [Bool.and_eq_false_iff, decide_eq_false_iff_not] at h; have h2 := h9; have h3 := h10; rw [dv_let (by omega) (by omega) (by omega), wrap8 (n := ((lwcB (l.getD (((j : Int)).toNat) 0) : Nat) : Int) - 97) (by omega) (by omega), wrap8 (by omega) (by omega)]; omega)); N9 10 A rfl rfl fun A => have A := sy_sayD A 136 (.int .u8 16) rfl (as_int (show IntKind.wrap .u8 16 = 16 by decide)); N9 3 A rfl rfl fun A => forkD 137 A rfl
           (fun h11 A => N9 3 A rfl rfl fun A => q_eff A rfl (ifcE rfl rfl rfl rfl (by kernel_rfl)) fun A => N9 5 A rfl rfl fun A => R9 A rfl h0 rfl (by rw [puX_none (val_bad (at_of h5) (by have := h11; omega))]; rfl) rfl)
           (fun h11 A => N9 11 A rfl rfl fun A => forkD 141 A rfl
            (fun h12 A => absurd h12 (by have hp := nv_16 hI.al; have hle := hI.le; have hj := h5; omega))
            (fun h12 A => N9 8 A rfl rfl fun A => have A := sy_sayD A 146 (.int .u64 16) rfl (as_int (show IntKind.wrap .u64 16 = 16 by decide)); N9 1 A rfl rfl fun A => have A := sy_sayD A 147 (.int .u64 (((nv 16 (l.take j) : Nat) : Int) * 16)) rfl (as_int (show IntKind.wrap .u64 (((nv 16 (l.take j) : Nat) : Int) * 16) = ((nv 16 (l.take j) : Nat) : Int) * 16 by have hp := nv_16 hI.al; have hle := hI.le; have hj := h5; exact wrap64 (by omega) (by omega))); N9 8 A rfl rfl fun A => have A := sy_sayD A 150 (.int .u64 ((dv (l.getD (((j : Int)).toNat) 0) : Nat) : Int)) rfl (as_int (show IntKind.wrap .u64 ((dv (l.getD (((j : Int)).toNat) 0) : Nat) : Int) = ((dv (l.getD (((j : Int)).toNat) 0) : Nat) : Int) by have := h11; exact wrap64 (by omega) (by omega))); N9 1 A rfl rfl fun A => have A := sy_sayD A 151 (.int .u64 ((nv 16 (l.take (j + 1)) : Nat) : Int)) rfl (as_int (show IntKind.wrap .u64 ((((nv 16 (l.take j) : Nat) : Int) * 16) + ((dv (l.getD (((j : Int)).toNat) 0) : Nat) : Int)) = ((nv 16 (l.take (j + 1)) : Nat) : Int) by have hp := nv_16 hI.al; have hle := hI.le; have hj := h5; have hd : dv (l.getD (((j : Int)).toNat) 0) < 16 := (by have := h11; omega); rw [nv_go (at_of hj)]; have e0 : (((j : Int)).toNat) = ((j : Int)).toNat := rfl; rw [wrap64 (by omega) (by omega)]; omega)); N9 14 A rfl rfl fun A => have A := sy_sayD A 159 (.ff) rfl (fun _ => congrArg (fun b => some (Value.bool b)) (show ((decide (((nv 16 (l.take (j + 1)) : Nat) : Int) < (((nv 16 (l.take j) : Nat) : Int) * 16))) || (decide (((nv 16 (l.take (j + 1)) : Nat) : Int) > 18446744073709551615))) = false by have hp := nv_16 hI.al; have hle := hI.le; have hj := h5; have hd : dv (l.getD (((j : Int)).toNat) 0) < 16 := (by have := h11; omega); have hg := nv_go (bs := 16) (at_of hj); rw [Bool.eq_false_iff]; intro hc; simp only [Bool.or_eq_true, decide_eq_true_eq] at hc; omega)); N9 15 A rfl (ok_d (by have := hI.le; omega) <| okE_nil) fun A => ⟨j + 1, _, (by omega), ⟨by have := hI.le; omega, all_go (at_of h5) hI.al (by have := h11; omega)⟩, ((A.cut [1, 6, 7, 8, 9, 10, 11, 12, 13, 99, 100, 101] rfl).trunc 1 rfl rfl rfl (by simp only [List.length_cons, List.length_nil] at h0; omega))⟩)))
          (fun h10 A => N9 3 A rfl rfl fun A => q_eff A rfl (ifcE rfl rfl rfl rfl (by kernel_rfl)) fun A => N9 5 A rfl rfl fun A => R9 A rfl h0 rfl (by rw [puX_none (val_bad (at_of h5) (by have h := h6; simp only [Bool.and_eq_false_iff, decide_eq_false_iff_not] at h; have h0 := h9; have h1 := h10; rw [dv_bad (by omega) (by omega)]; omega))]; rfl) rfl))
         (fun h9 A => N9 10 A rfl rfl fun A => q_eff A rfl (ifcE rfl rfl rfl rfl (by kernel_rfl)) fun A => N9 5 A rfl rfl fun A => R9 A rfl h0 rfl (by rw [puX_none (val_bad (at_of h5) (by have h := h6; simp only [Bool.and_eq_false_iff, decide_eq_false_iff_not] at h; have h0 := h9; rw [dv_bad (by omega) (by omega)]; omega))]; rfl) rfl)))
       (fun h5 A => N9 25 A rfl rfl fun A => R9 A rfl h0 rfl (by rw [puX_some (val_end h1 hI.al (by have := h5; omega))]; rfl) rfl))
     (fun h4 A => absurd rfl h4))))
theorem parse16_s (l : List UInt8) (n : Nat) (hl : l.length ≤ 16) (h : valL 16 l = some n) : Fn Tryz.prog 183 [.str l, .int .i64 16, .int .i64 64] [] (Rt (.tup [.int .u64 (n : Int), .v .nilIface]) []) := by have := parse16_ l hl; rw [puX_some h] at this; exact this
theorem parse16_n (l : List UInt8) (hl : l.length ≤ 16) (h : valL 16 l = none) : Fn Tryz.prog 183 [.str l, .int .i64 16, .int .i64 64] [] (Rt (.tup [.int .u64 0, .v (.iface 237 (.int .i64 2))]) []) := by have := parse16_ l hl; rw [puX_none h] at this; exact this
end Go.Proofs.YtjkppaijicjpoaaGreatDoor
namespace Go.Proofs.YtjkppaijicjpoaaGreatDoor
open Go.Shelf Go.RowKit
set_option linter.unusedVariables false
def laysPu_ren : Go.Shelf.Ren := ⟨fun | 14 => 152 | 16 => 183 | 17 => 184 | 19 => 209 | 20 => 210 | 21 => 211 | 22 => 212 | 23 => 213 | 24 => 214 | 25 => 230 | 27 => 86 | 26 => 231 | 28 => 122 | 29 => 155 | 30 => 124 | 31 => 125 | 32 => 126 | 33 => 127 | 35 => 157 | 34 => 156 | 36 => 158 | 37 => 159 | 38 => 160 | 39 => 185 | 40 => 186 | n => n, fun | 9 => 9 | 3 => 3 | 22 => 127 | 24 => 176 | 25 => 177 | 4 => 4 | 34 => 237 | 5 => 5 | 36 => 185 | 37 => 101 | 0 => 0 | 39 => 239 | 21 => 21 | 44 => 257 | 47 => 234 | 50 => 267 | 48 => 265 | 2 => 2 | 52 => 145 | 55 => 148 | 59 => 182 | 60 => 183 | 20 => 20 | 61 => 184 | 65 => 242 | 66 => 243 | 67 => 64 | n => n, fun | 0 => 4 | 1 => 5 | 2 => 0 | 3 => 2 | 4 => 3 | n => n⟩
theorem laysPu : Go.Proofs.LaysPu.n14 Tryz.prog laysPu_ren := {
 mixed := by kernel_rfl
 f14 := Tryz.func152.trans (congrArg some (by kernel_rfl))
 f16 := Tryz.func183.trans (congrArg some (by kernel_rfl))
 f17 := Tryz.func184.trans (congrArg some (by kernel_rfl))
 f19 := Tryz.func209.trans (congrArg some (by kernel_rfl))
 f20 := Tryz.func210.trans (congrArg some (by kernel_rfl))
 f21 := Tryz.func211.trans (congrArg some (by kernel_rfl))
 f22 := Tryz.func212.trans (congrArg some (by kernel_rfl))
 f23 := Tryz.func213.trans (congrArg some (by kernel_rfl))
 f24 := Tryz.func214.trans (congrArg some (by kernel_rfl))
 f25 := Tryz.func230.trans (congrArg some (by kernel_rfl))
 f26 := Tryz.func231.trans (congrArg some (by kernel_rfl))
 f27 := Tryz.func86.trans (congrArg some (by kernel_rfl))
 f28 := Tryz.func122.trans (congrArg some (by kernel_rfl))
 f29 := Tryz.func155.trans (congrArg some (by kernel_rfl))
 f30 := Tryz.func124.trans (congrArg some (by kernel_rfl))
 f31 := Tryz.func125.trans (congrArg some (by kernel_rfl))
 f32 := Tryz.func126.trans (congrArg some (by kernel_rfl))
 f33 := Tryz.func127.trans (congrArg some (by kernel_rfl))
 f34 := Tryz.func156.trans (congrArg some (by kernel_rfl))
 f35 := Tryz.func157.trans (congrArg some (by kernel_rfl))
 f36 := Tryz.func158.trans (congrArg some (by kernel_rfl))
 f37 := Tryz.func159.trans (congrArg some (by kernel_rfl))
 f38 := Tryz.func160.trans (congrArg some (by kernel_rfl))
 f39 := Tryz.func185.trans (congrArg some (by kernel_rfl))
 f40 := Tryz.func186.trans (congrArg some (by kernel_rfl))
 t0 := Tryz.underlying0
 a0 := Tryz.isAgg0
 z0 := Tryz.sizeOf0
 v0 := Tryz.zeroValue0
 i0 := by kernel_rfl
 t2 := Tryz.underlying2
 a2 := Tryz.isAgg2
 z2 := Tryz.sizeOf2
 v2 := Tryz.zeroValue2
 i2 := by kernel_rfl
 t3 := Tryz.underlying3
 a3 := Tryz.isAgg3
 z3 := Tryz.sizeOf3
 v3 := Tryz.zeroValue3
 i3 := by kernel_rfl
 t4 := Tryz.underlying4
 a4 := Tryz.isAgg4
 z4 := Tryz.sizeOf4
 v4 := Tryz.zeroValue4
 i4 := by kernel_rfl
 t5 := Tryz.underlying5
 a5 := Tryz.isAgg5
 z5 := Tryz.sizeOf5
 v5 := Tryz.zeroValue5
 i5 := by kernel_rfl
 t9 := Tryz.underlying9
 a9 := Tryz.isAgg9
 z9 := Tryz.sizeOf9
 v9 := Tryz.zeroValue9
 i9 := by kernel_rfl
 t20 := Tryz.underlying20
 a20 := Tryz.isAgg20
 z20 := Tryz.sizeOf20
 v20 := Tryz.zeroValue20
 i20 := by kernel_rfl
 t21 := Tryz.underlying21
 a21 := Tryz.isAgg21
 z21 := Tryz.sizeOf21
 v21 := Tryz.zeroValue21
 i21 := by kernel_rfl
 t22 := Tryz.underlying127
 a22 := Tryz.isAgg127
 z22 := Tryz.sizeOf127
 v22 := Tryz.zeroValue127
 i22 := by kernel_rfl
 t24 := Tryz.underlying176
 a24 := Tryz.isAgg176
 z24 := Tryz.sizeOf176
 v24 := Tryz.zeroValue176
 i24 := by kernel_rfl
 t25 := Tryz.underlying177
 a25 := Tryz.isAgg177
 z25 := Tryz.sizeOf177
 v25 := Tryz.zeroValue177
 i25 := by kernel_rfl
 t34 := Tryz.underlying237
 a34 := Tryz.isAgg237
 z34 := Tryz.sizeOf237
 v34 := Tryz.zeroValue237
 i34 := by kernel_rfl
 c34 := by kernel_rfl
 t36 := Tryz.underlying185
 a36 := Tryz.isAgg185
 z36 := Tryz.sizeOf185
 v36 := Tryz.zeroValue185
 i36 := by kernel_rfl
 t37 := Tryz.underlying101
 a37 := Tryz.isAgg101
 z37 := Tryz.sizeOf101
 v37 := Tryz.zeroValue101
 i37 := by kernel_rfl
 t39 := Tryz.underlying239
 a39 := Tryz.isAgg239
 z39 := Tryz.sizeOf239
 v39 := Tryz.zeroValue239
 i39 := by kernel_rfl
 t44 := Tryz.underlying257
 a44 := Tryz.isAgg257
 z44 := Tryz.sizeOf257
 v44 := Tryz.zeroValue257
 i44 := by kernel_rfl
 t47 := Tryz.underlying234
 a47 := Tryz.isAgg234
 z47 := Tryz.sizeOf234
 v47 := Tryz.zeroValue234
 i47 := by kernel_rfl
 t48 := Tryz.underlying265
 a48 := Tryz.isAgg265
 z48 := Tryz.sizeOf265
 v48 := Tryz.zeroValue265
 i48 := by kernel_rfl
 t50 := Tryz.underlying267
 a50 := Tryz.isAgg267
 z50 := Tryz.sizeOf267
 v50 := Tryz.zeroValue267
 i50 := by kernel_rfl
 t52 := Tryz.underlying145
 a52 := Tryz.isAgg145
 z52 := Tryz.sizeOf145
 v52 := Tryz.zeroValue145
 i52 := by kernel_rfl
 t55 := Tryz.underlying148
 a55 := Tryz.isAgg148
 z55 := Tryz.sizeOf148
 v55 := Tryz.zeroValue148
 i55 := by kernel_rfl
 t59 := Tryz.underlying182
 a59 := Tryz.isAgg182
 z59 := Tryz.sizeOf182
 v59 := Tryz.zeroValue182
 i59 := by kernel_rfl
 t60 := Tryz.underlying183
 a60 := Tryz.isAgg183
 z60 := Tryz.sizeOf183
 v60 := Tryz.zeroValue183
 i60 := by kernel_rfl
 t61 := Tryz.underlying184
 a61 := Tryz.isAgg184
 z61 := Tryz.sizeOf184
 t65 := Tryz.underlying242
 a65 := Tryz.isAgg242
 z65 := Tryz.sizeOf242
 v65 := Tryz.zeroValue242
 i65 := by kernel_rfl
 t66 := Tryz.underlying243
 a66 := Tryz.isAgg243
 z66 := Tryz.sizeOf243
 v66 := Tryz.zeroValue243
 i66 := by kernel_rfl
 t67 := Tryz.underlying64
 a67 := Tryz.isAgg64
 z67 := Tryz.sizeOf64
 v67 := Tryz.zeroValue64
 i67 := by kernel_rfl
 g0 := by kernel_rfl
 m0 := by kernel_rfl
 g1 := by kernel_rfl
 m1 := by kernel_rfl
 g2 := by kernel_rfl
 m2 := by kernel_rfl
 g3 := by kernel_rfl
 m3 := by kernel_rfl
 g4 := by kernel_rfl
 m4 := by kernel_rfl }
theorem toError_any (fn l : List UInt8) (base bits : Int) (ev : Value) (w : World) (hl : l.length ≤ 19) (hv : w.cell? ⟨4, 0, none⟩ = some ev) (hev : ev = .nilIface ∨ ∃ te pe, ev = .iface te pe) :
  Calls Tryz.prog 184 #[.string (S fn), .string (S l), .int .i64 base, .int .i64 bits, .iface 237 (.int .i64 2)] w fun e w' => (∃ N, e = .returned (.iface 239 (.pointer (some ⟨N, 0, none⟩)))) ∧ Grow w w' := by
 refine (AnyPu.strconv_toError_syntax { laysPu with } (S fn) (S l) base bits ev w (by rw [S_size]; omega) hv hev).mono ?_
 rintro e w' ⟨N, he, _, _, hb⟩
 exact ⟨⟨N, he⟩, hb⟩
end Go.Proofs.YtjkppaijicjpoaaGreatDoor
namespace Go.Proofs.YtjkppaijicjpoaaGreatDoor
open Go.RowKit
set_option linter.unusedVariables false
set_option linter.unusedSimpArgs false
set_option maxRecDepth 100000
set_option maxHeartbeats 2000000
set_option simprocs false
theorem toerr_ (fn l : List UInt8) (base bits : Int) (os : List (Nat × Obj)) (hE : ∀ w ks, Gl os w ks → ∃ ev, w.cell? ⟨4, 0, none⟩ = some ev ∧ (ev = .nilIface ∨ ∃ te pe, ev = .iface te pe)) (hl : l.length ≤ 19) : FnX (Gl os) Tryz.prog 184 [.str fn, .str l, .int .i64 base, .int .i64 bits, .v (.iface 237 (.int .i64 2))] (fun x => ∃ pN, x = .v (.iface 239 (.pointer (some ⟨pN, 0, none⟩)))) := by
 refine ⟨by kernel_rfl, fun w ks vs hv hI => ?_⟩
 cases hv
 obtain ⟨ev, h1, h2⟩ := hE w ks hI
 refine (toError_any fn l base bits ev w hl h1 h2).mono ?_
 rintro e w' ⟨⟨pN, rfl⟩, hg⟩
 exact ⟨_, _, ⟨pN, rfl⟩, rfl, rfl, hg⟩
theorem pu10_s (l : List UInt8) (n : Nat) (hl : l.length ≤ 19) (hv : valL 10 l = some n) : Fn Tryz.prog 152 [.str l, .int .i64 10, .int .i64 64] [] (Rt (.tup [.int .u64 (n : Int), .v .nilIface]) []) :=
 enterM (n := 26) (by kernel_rfl) Tryz.func152 rfl rfl rfl fun G w a h0 A => N9 11 A rfl rfl fun A => C9 [] (parse10_s l n hl hv) A rfl fun A => N9 11 A rfl rfl fun A => q_eff A rfl (nilneE rfl rfl rfl rfl (by kernel_rfl)) fun A => N9 13 A rfl rfl fun A => R9 A rfl h0 rfl rfl rfl
theorem pu10_n (l : List UInt8) (os : List (Nat × Obj)) (hE : ∀ w ks, Gl os w ks → ∃ ev, w.cell? ⟨4, 0, none⟩ = some ev ∧ (ev = .nilIface ∨ ∃ te pe, ev = .iface te pe)) (hl : l.length ≤ 19) (hv : valL 10 l = none) : FnX (Gl os) Tryz.prog 152 [.str l, .int .i64 10, .int .i64 64] (fun x => ∃ pN, x = .tup [.int .u64 0, .v (.iface 239 (.pointer (some ⟨pN, 0, none⟩)))]) :=
 enterX Gl.ok (n := 26) (by kernel_rfl) Tryz.func152 rfl rfl rfl fun w a hI A => N9 11 A rfl rfl fun A => C9 [] (parse10_n l hl hv) A rfl fun A => N9 11 A rfl rfl fun A => q_eff A rfl (ifneE rfl rfl rfl rfl (by kernel_rfl)) fun A => N9 10 A rfl rfl fun A => CALLN (fun pN => .v (.iface 239 (.pointer (some ⟨pN, 0, none⟩)))) Gl.ok hI (toerr_ [80, 97, 114, 115, 101, 85, 105, 110, 116] l 10 64 os hE (by omega)) A rfl rfl fun pN => fun A => N9 5 A rfl rfl fun A => RETX (J := fun x => ∃ pN, x = .tup [.int .u64 0, .v (.iface 239 (.pointer (some ⟨pN, 0, none⟩)))]) hX A rfl rfl rfl rfl ⟨pN, rfl⟩
theorem pu16_s (l : List UInt8) (n : Nat) (hl : l.length ≤ 16) (hv : valL 16 l = some n) : Fn Tryz.prog 152 [.str l, .int .i64 16, .int .i64 64] [] (Rt (.tup [.int .u64 (n : Int), .v .nilIface]) []) :=
 enterM (n := 26) (by kernel_rfl) Tryz.func152 rfl rfl rfl fun G w a h0 A => N9 11 A rfl rfl fun A => C9 [] (parse16_s l n hl hv) A rfl fun A => N9 11 A rfl rfl fun A => q_eff A rfl (nilneE rfl rfl rfl rfl (by kernel_rfl)) fun A => N9 13 A rfl rfl fun A => R9 A rfl h0 rfl rfl rfl
theorem pu16_n (l : List UInt8) (os : List (Nat × Obj)) (hE : ∀ w ks, Gl os w ks → ∃ ev, w.cell? ⟨4, 0, none⟩ = some ev ∧ (ev = .nilIface ∨ ∃ te pe, ev = .iface te pe)) (hl : l.length ≤ 16) (hv : valL 16 l = none) : FnX (Gl os) Tryz.prog 152 [.str l, .int .i64 16, .int .i64 64] (fun x => ∃ pN, x = .tup [.int .u64 0, .v (.iface 239 (.pointer (some ⟨pN, 0, none⟩)))]) :=
 enterX Gl.ok (n := 26) (by kernel_rfl) Tryz.func152 rfl rfl rfl fun w a hI A => N9 11 A rfl rfl fun A => C9 [] (parse16_n l hl hv) A rfl fun A => N9 11 A rfl rfl fun A => q_eff A rfl (ifneE rfl rfl rfl rfl (by kernel_rfl)) fun A => N9 10 A rfl rfl fun A => CALLN (fun pN => .v (.iface 239 (.pointer (some ⟨pN, 0, none⟩)))) Gl.ok hI (toerr_ [80, 97, 114, 115, 101, 85, 105, 110, 116] l 16 64 os hE (by omega)) A rfl rfl fun pN => fun A => N9 5 A rfl rfl fun A => RETX (J := fun x => ∃ pN, x = .tup [.int .u64 0, .v (.iface 239 (.pointer (some ⟨pN, 0, none⟩)))]) hX A rfl rfl rfl rfl ⟨pN, rfl⟩
end Go.Proofs.YtjkppaijicjpoaaGreatDoor
namespace Go.Proofs.YtjkppaijicjpoaaGreatDoor
set_option linter.unusedVariables false
structure Tk where
 kind : Int
 text : List UInt8
 n : Int
 at_ : Int
def tok0 : Tk := ⟨0, [], 0, 0⟩
def fits (o : Option Nat) : Option Int := match o with | some n => if n > 9223372036854775808 then none else some (IntKind.wrap .i64 (n : Int)) | none => none
def numR (l : List UInt8) : Option Int :=
 if preB l [48, 120] then (if (cutF l [48, 120]).length > 16 then none else fits (valL 16 (cutF l [48, 120]))) else (if l.length > 19 then none else fits (valL 10 l))
section
variable {l : List UInt8} {n : Nat}
theorem num_longx (h : preB l [48, 120] = true) (hl : (cutF l [48, 120]).length > 16) : numR l = none := by unfold numR; rw [if_pos h, if_pos hl]
theorem num_longd (h : preB l [48, 120] = false) (hl : l.length > 19) : numR l = none := by unfold numR; rw [if_neg (by simp [h]), if_pos hl]
theorem num_nonex (h : preB l [48, 120] = true) (hv : valL 16 (cutF l [48, 120]) = none) : numR l = none := by unfold numR; rw [if_pos h, hv]; simp [fits]
theorem num_noned (h : preB l [48, 120] = false) (hv : valL 10 l = none) : numR l = none := by unfold numR; rw [if_neg (by simp [h]), hv]; simp [fits]
theorem num_bigx (h : preB l [48, 120] = true) (hv : valL 16 (cutF l [48, 120]) = some n) (hn : n > 9223372036854775808) : numR l = none := by unfold numR; rw [if_pos h, hv]; simp [fits, hn]
theorem num_bigd (h : preB l [48, 120] = false) (hv : valL 10 l = some n) (hn : n > 9223372036854775808) : numR l = none := by unfold numR; rw [if_neg (by simp [h]), hv]; simp [fits, hn]
theorem num_okx (h : preB l [48, 120] = true) (hl : (cutF l [48, 120]).length ≤ 16) (hv : valL 16 (cutF l [48, 120]) = some n) (hn : n ≤ 9223372036854775808) : numR l = some (IntKind.wrap .i64 (n : Int)) := by
 unfold numR; rw [if_pos h, if_neg (by omega), hv]; simp only [fits]; rw [if_neg (by omega)]
theorem num_okd (h : preB l [48, 120] = false) (hl : l.length ≤ 19) (hv : valL 10 l = some n) (hn : n ≤ 9223372036854775808) : numR l = some (IntKind.wrap .i64 (n : Int)) := by
 unfold numR; rw [if_neg (by simp [h]), if_neg (by omega), hv]; simp only [fits]; rw [if_neg (by omega)]
end
end Go.Proofs.YtjkppaijicjpoaaGreatDoor
namespace Go.Proofs.YtjkppaijicjpoaaGreatDoor
open Go.RowKit
set_option linter.unusedVariables false
set_option linter.unusedSimpArgs false
set_option maxRecDepth 100000
set_option maxHeartbeats 2000000
set_option simprocs false
def nk (l : List UInt8) : Int := match numR l with | some _ => 2 | none => 0
def nt (l : List UInt8) : List UInt8 := match numR l with | some _ => l | none => []
def nn (l : List UInt8) : Int := match numR l with | some n => n | none => 0
def ne_ (l : List UInt8) : Int := match numR l with | some _ => 0 | none => 23
theorem n_none {l : List UInt8} (h : numR l = none) : nk l = 0 ∧ nt l = [] ∧ nn l = 0 ∧ ne_ l = 23 := by unfold nk nt nn ne_; rw [h]; exact ⟨rfl, rfl, rfl, rfl⟩
theorem n_some {l : List UInt8} {n : Int} (h : numR l = some n) : nk l = 2 ∧ nt l = l ∧ nn l = n ∧ ne_ l = 0 := by unfold nk nt nn ne_; rw [h]; exact ⟨rfl, rfl, rfl, rfl⟩
theorem number_ (l : List UInt8) (os : List (Nat × Obj)) (hE : ∀ w ks, Gl os w ks → ∃ ev, w.cell? ⟨4, 0, none⟩ = some ev ∧ (ev = .nilIface ∨ ∃ te pe, ev = .iface te pe)) (hlen : l.length ≤ 8192) : FnI (Gl os) Tryz.prog 109 [.str l] [] (Rt (.tup [.agg [.int .i64 (nk l), .str (nt l), .int .i64 (nn l), .z9], .int .i64 (ne_ l)]) []) :=
 enterI (n := 41) (by kernel_rfl) Tryz.func109 rfl rfl rfl fun G w a h0 hI A => N9 18 A rfl rfl fun A => C9 [] (cutp_ l [48, 120]) A rfl fun A => N9 12 A rfl rfl fun A => fork 17 A rfl
  (fun h1 A => N9 17 A rfl rfl fun A => forkD 22 A rfl
   (fun h2 A => N9 9 A rfl rfl fun A => R9 A rfl h0 rfl (by obtain ⟨e1, e2, e3, e4⟩ := n_none (num_longx h1 (by have := h2; omega)); rw [e1, e2, e3, e4]; rfl) rfl)
   (fun h2 A => N9 7 A rfl rfl fun A => optE (valL 16 (cutF l [48, 120]))
    (fun hv => CALLN (fun pN => .tup [.int .u64 0, .v (.iface 239 (.pointer (some ⟨pN, 0, none⟩)))]) Gl.ok hI (pu16_n (cutF l [48, 120]) os hE (by have := h2; omega) hv) A rfl rfl fun pN => fun A => N9 11 A rfl rfl fun A => q_eff A rfl (ifneE rfl rfl rfl rfl (by kernel_rfl)) fun A => N9 15 A rfl rfl fun A => R9 A rfl h0 rfl (by obtain ⟨e1, e2, e3, e4⟩ := n_none (num_nonex h1 hv); rw [e1, e2, e3, e4]; rfl) rfl)
    (fun n hv => C9 [] (pu16_s (cutF l [48, 120]) n (by have := h2; omega) hv) A rfl fun A => N9 11 A rfl rfl fun A => q_eff A rfl (nilneE rfl rfl rfl rfl (by kernel_rfl)) fun A => N9 6 A rfl rfl fun A => forkD 35 A rfl
     (fun h3 A => N9 9 A rfl rfl fun A => R9 A rfl h0 rfl (by obtain ⟨e1, e2, e3, e4⟩ := n_none (num_bigx h1 hv (by have := h3; omega)); rw [e1, e2, e3, e4]; rfl) rfl)
     (fun h3 A => N9 14 A rfl rfl fun A => R9 A rfl h0 rfl (by obtain ⟨e1, e2, e3, e4⟩ := n_some (num_okx h1 (by have := h2; omega) hv (by have := h3; omega)); rw [e1, e2, e3, e4]; rfl) rfl))))
  (fun h1 A => N9 12 A rfl rfl fun A => forkD 22 A rfl
   (fun h4 A => N9 9 A rfl rfl fun A => R9 A rfl h0 rfl (by obtain ⟨e1, e2, e3, e4⟩ := n_none (num_longd h1 (by have := h4; omega)); rw [e1, e2, e3, e4]; rfl) rfl)
   (fun h4 A => N9 7 A rfl rfl fun A => optE (valL 10 l)
    (fun hv => CALLN (fun pN => .tup [.int .u64 0, .v (.iface 239 (.pointer (some ⟨pN, 0, none⟩)))]) Gl.ok hI (pu10_n l os hE (by have := h4; omega) hv) A rfl rfl fun pN => fun A => N9 11 A rfl rfl fun A => q_eff A rfl (ifneE rfl rfl rfl rfl (by kernel_rfl)) fun A => N9 15 A rfl rfl fun A => R9 A rfl h0 rfl (by obtain ⟨e1, e2, e3, e4⟩ := n_none (num_noned h1 hv); rw [e1, e2, e3, e4]; rfl) rfl)
    (fun n hv => C9 [] (pu10_s l n (by have := h4; omega) hv) A rfl fun A => N9 11 A rfl rfl fun A => q_eff A rfl (nilneE rfl rfl rfl rfl (by kernel_rfl)) fun A => N9 6 A rfl rfl fun A => forkD 35 A rfl
     (fun h5 A => N9 9 A rfl rfl fun A => R9 A rfl h0 rfl (by obtain ⟨e1, e2, e3, e4⟩ := n_none (num_bigd h1 hv (by have := h5; omega)); rw [e1, e2, e3, e4]; rfl) rfl)
     (fun h5 A => N9 14 A rfl rfl fun A => R9 A rfl h0 rfl (by obtain ⟨e1, e2, e3, e4⟩ := n_some (num_okd h1 (by have := h4; omega) hv (by have := h5; omega)); rw [e1, e2, e3, e4]; rfl) rfl))))
end Go.Proofs.YtjkppaijicjpoaaGreatDoor
namespace Go.Proofs.YtjkppaijicjpoaaGreatDoor
set_option linter.unusedVariables false
theorem mkN_le {l : List UInt8} (h : 0 < l.length) : mkN l ≤ l.length := by
 unfold mkN
 split
 ·next h1 =>
  rw [Bool.or_eq_true] at h1
  rcases h1 with h1 | h1
  ·exact pre_len h1
  ·exact pre_len h1
 ·split <;> split <;> omega
def firstR (l : List UInt8) : Tk × Int :=
 match l[0]? with
 | none => (tok0, 20)
 | some b =>
  if digB b then (match numR (l.take (rn numB l)) with | some n => (⟨2, l.take (rn numB l), n, 0⟩, 0) | none => (tok0, 23))
  else if nbgB b then (⟨1, l.take (rn namB l), 0, 0⟩, 0)
  else if mkN l > 0 then (⟨3, l.take (mkN l), 0, 0⟩, 0) else (tok0, 20)
section
variable {l : List UInt8} {b : UInt8}
theorem first_num {n : Int} (hb : l[0]? = some b) (h : digB b = true) (hn : numR (l.take (rn numB l)) = some n) : firstR l = (⟨2, l.take (rn numB l), n, 0⟩, 0) := by unfold firstR; simp [hb, h, hn]
theorem first_bad (hb : l[0]? = some b) (h : digB b = true) (hn : numR (l.take (rn numB l)) = none) : firstR l = (tok0, 23) := by unfold firstR; simp [hb, h, hn]
theorem first_name (hb : l[0]? = some b) (h : digB b = false) (h2 : nbgB b = true) : firstR l = (⟨1, l.take (rn namB l), 0, 0⟩, 0) := by unfold firstR; simp [hb, h, h2]
theorem first_mark (hb : l[0]? = some b) (h : digB b = false) (h2 : nbgB b = false) (h3 : mkN l > 0) : firstR l = (⟨3, l.take (mkN l), 0, 0⟩, 0) := by unfold firstR; simp [hb, h, h2, h3]
theorem first_byte (hb : l[0]? = some b) (h : digB b = false) (h2 : nbgB b = false) (h3 : ¬ mkN l > 0) : firstR l = (tok0, 20) := by unfold firstR; simp [hb, h, h2, h3]
end
end Go.Proofs.YtjkppaijicjpoaaGreatDoor
namespace Go.Proofs.YtjkppaijicjpoaaGreatDoor
open Go.RowKit
set_option linter.unusedVariables false
set_option linter.unusedSimpArgs false
set_option maxRecDepth 100000
set_option maxHeartbeats 2000000
set_option simprocs false
theorem first_ (l : List UInt8) (os : List (Nat × Obj)) (hE : ∀ w ks, Gl os w ks → ∃ ev, w.cell? ⟨4, 0, none⟩ = some ev ∧ (ev = .nilIface ∨ ∃ te pe, ev = .iface te pe)) (hl : 0 < l.length) (hlen : l.length ≤ 8192) : FnI (Gl os) Tryz.prog 80 [.str l] [] (Rt (.tup [.agg [.int .i64 ((firstR l).1.kind), .str ((firstR l).1.text), .int .i64 ((firstR l).1.n), .int .i64 ((firstR l).1.at_)], .int .i64 ((firstR l).2)]) []) :=
 enterI (n := 35) (by kernel_rfl) Tryz.func80 rfl rfl rfl fun G w a h0 hI A => N9 16 A rfl (ok_d (by have h1 := rn_le numB l; have h2 := rn_le namB l; have h3 := mkN_le hl; (try simp only [List.length_take]); omega) <| okE_nil) fun A => N9 2 A rfl rfl fun A => C9 [] (isDigit_b (l.getD (0 : Int).toNat 0)) A rfl fun A => N9 3 A rfl rfl fun A => fork 8 A rfl
  (fun h1 A => N9 5 A rfl rfl fun A => C9 [] (run_ 111 numB l isNumberPart_b (by omega)) A rfl fun A => N9 1 A rfl (ok_d (by have h1 := rn_le numB l; have h2 := rn_le namB l; have h3 := mkN_le hl; (try simp only [List.length_take]); omega) <| okE_nil) fun A => I9 [] Gl.ok hI (number_ (l.take (((rn numB l : Nat) : Int)).toNat) os hE (by have h1 := rn_le numB l; have h2 := rn_le namB l; have h3 := mkN_le hl; (try simp only [List.length_take]); omega)) A rfl fun A => N9 7 A rfl rfl fun A => R9 A rfl h0 rfl (by cases hn : numR (l.take (rn numB l)) with | none => (obtain ⟨e1, e2, e3, e4⟩ := n_none hn; rw [first_bad (at0 hl) h1 hn]; simp only [Int.toNat_natCast, e1, e2, e3, e4]; rfl) | some n => (obtain ⟨e1, e2, e3, e4⟩ := n_some hn; rw [first_num (at0 hl) h1 hn]; simp only [Int.toNat_natCast, e1, e2, e3, e4]; rfl)) rfl)
  (fun h1 A => N9 4 A rfl rfl fun A => C9 [] (isNameBegin_b (l.getD (0 : Int).toNat 0)) A rfl fun A => N9 3 A rfl rfl fun A => fork 18 A rfl
   (fun h2 A => N9 5 A rfl rfl fun A => C9 [] (run_ 113 namB l isNamePart_b (by omega)) A rfl fun A => N9 7 A rfl (ok_d (by have h1 := rn_le numB l; have h2 := rn_le namB l; have h3 := mkN_le hl; (try simp only [List.length_take]); omega) <| okE_nil) fun A => R9 A rfl h0 rfl (by rw [first_name (at0 hl) h1 h2]; rfl) rfl)
   (fun h2 A => N9 8 A rfl rfl fun A => C9 [] (markl_ l (by have h1 := rn_le numB l; have h2 := rn_le namB l; have h3 := mkN_le hl; (try simp only [List.length_take]); omega)) A rfl fun A => N9 9 A rfl rfl fun A => forkD 29 A rfl
    (fun h3 A => N9 12 A rfl (ok_d (by have h1 := rn_le numB l; have h2 := rn_le namB l; have h3 := mkN_le hl; (try simp only [List.length_take]); omega) <| okE_nil) fun A => R9 A rfl h0 rfl (by rw [first_mark (at0 hl) h1 h2 (by have := h3; omega)]; rfl) rfl)
    (fun h3 A => N9 11 A rfl rfl fun A => R9 A rfl h0 rfl (by rw [first_byte (at0 hl) h1 h2 (by have := h3; omega)]; rfl) rfl)))
end Go.Proofs.YtjkppaijicjpoaaGreatDoor
namespace Go.Proofs.YtjkppaijicjpoaaGreatDoor
set_option linter.unusedVariables false
theorem skip_le (l : List UInt8) : (skipL l).1 ≤ l.length := by
 have go : ∀ n (l : List UInt8), l.length ≤ n → (skipL l).1 ≤ l.length := by
  intro n
  induction n with
  | zero => intro l hl; obtain rfl : l = [] := List.eq_nil_of_length_eq_zero (Nat.le_zero.1 hl); rw [skip_nil]; simp
  | succ n ih =>
   intro l hl
   match l, hl with
   | [], _ => rw [skip_nil]; simp
   | b :: r, hl =>
    have h0 : (b :: r)[0]? = some b := rfl
    rcases Bool.eq_false_or_eq_true (blkB b) with h1 | h1
    ·have e := skip_blank h0 h1
     rw [List.drop_zero] at e
     rw [e]
     have := ih r (by simpa using hl)
     simp only [List.length_cons, Nat.zero_add, List.drop_succ_cons, List.drop_zero]
     omega
    ·rcases Bool.eq_false_or_eq_true (preB (b :: r) [40, 42]) with h2 | h2
     ·by_cases h3 : endR ((b :: r).drop 2) < 0
      ·have e := skip_open (n := 0) h0 h1 (by rw [List.drop_zero]; exact h2) (by rw [Nat.zero_add]; exact h3)
       rw [List.drop_zero] at e; rw [e]; simp
      ·have e := skip_remark (n := 0) h0 h1 (by rw [List.drop_zero]; exact h2) (by rw [Nat.zero_add]; exact h3)
       rw [List.drop_zero] at e; rw [e]
       simp only [Nat.zero_add]
       have h4 := endR_le ((b :: r).drop 2)
       have h5 := ih ((b :: r).drop (2 + (endR ((b :: r).drop 2)).toNat + 2)) (by rw [List.length_drop]; omega)
       rw [List.length_drop] at h4 h5
       omega
     ·have e := skip_word (n := 0) h0 h1 (by rw [List.drop_zero]; exact h2)
      rw [List.drop_zero] at e; rw [e]; simp
 exact go l.length l (Nat.le_refl _)
theorem rn_pos {p : UInt8 → Bool} {l : List UInt8} {b : UInt8} (hb : l[0]? = some b) (h : p b = true) : 0 < rn p l := by
 have := rn_go (p := p) (n := 0) hb h
 rw [List.drop_zero] at this; omega
theorem first_len {l : List UInt8} (h : (firstR l).2 = 0) : 0 < (firstR l).1.text.length ∧ (firstR l).1.text.length ≤ l.length := by
 cases hb : l[0]? with
 | none => unfold firstR at h; simp [hb] at h
 | some b =>
  have hl : 0 < l.length := (List.getElem?_eq_some_iff.1 hb).1
  rcases Bool.eq_false_or_eq_true (digB b) with h1 | h1
  ·cases hn : numR (l.take (rn numB l)) with
   | none => rw [first_bad hb h1 hn] at h; simp at h
   | some n =>
    rw [first_num hb h1 hn]
    have h2 := rn_pos (p := numB) hb (by unfold numB; rw [h1, Bool.or_true])
    have h3 := rn_le numB l
    simp only [List.length_take]; omega
  ·rcases Bool.eq_false_or_eq_true (nbgB b) with h2 | h2
   ·rw [first_name hb h1 h2]
    have h3 := rn_pos (p := namB) hb (by unfold namB; rw [h2, Bool.true_or])
    have h4 := rn_le namB l
    simp only [List.length_take]; omega
   ·by_cases h3 : mkN l > 0
    ·rw [first_mark hb h1 h2 h3]
     have h4 := mkN_le hl
     simp only [List.length_take]; omega
    ·rw [first_byte hb h1 h2 h3] at h; simp at h
def toksF : Nat → List UInt8 → Nat → List Tk → List Tk × Int × Nat
 | 0, _, _, _ => ([], 0, 0)
 | f + 1, l, a, ws =>
  if (skipL (l.drop a)).2 then ([], 24, a + (skipL (l.drop a)).1)
  else if a + (skipL (l.drop a)).1 = l.length then (ws, 0, 0)
  else if (firstR (l.drop (a + (skipL (l.drop a)).1))).2 = 0 then
   toksF f l (a + (skipL (l.drop a)).1 + (firstR (l.drop (a + (skipL (l.drop a)).1))).1.text.length) (ws ++ [{ (firstR (l.drop (a + (skipL (l.drop a)).1))).1 with at_ := ((a + (skipL (l.drop a)).1 : Nat) : Int) }])
  else ([], (firstR (l.drop (a + (skipL (l.drop a)).1))).2, a + (skipL (l.drop a)).1)
def tokensR (l : List UInt8) : List Tk × Int × Nat := if l.length > 8192 then ([], 2, 0) else toksF (l.length + 1) l 0 []
section
variable {f a : Nat} {l : List UInt8} {ws : List Tk}
theorem tf_rem (h : (skipL (l.drop a)).2 = true) : toksF (f + 1) l a ws = ([], 24, a + (skipL (l.drop a)).1) := by rw [toksF, if_pos h]
theorem tf_end (h : (skipL (l.drop a)).2 = false) (h1 : a + (skipL (l.drop a)).1 = l.length) : toksF (f + 1) l a ws = (ws, 0, 0) := by rw [toksF, if_neg (by simp [h]), if_pos h1]
theorem tf_bad (h : (skipL (l.drop a)).2 = false) (h1 : ¬ a + (skipL (l.drop a)).1 = l.length) (h2 : ¬ (firstR (l.drop (a + (skipL (l.drop a)).1))).2 = 0) : toksF (f + 1) l a ws = ([], (firstR (l.drop (a + (skipL (l.drop a)).1))).2, a + (skipL (l.drop a)).1) := by
 rw [toksF, if_neg (by simp [h]), if_neg h1, if_neg h2]
theorem tf_go (h : (skipL (l.drop a)).2 = false) (h1 : ¬ a + (skipL (l.drop a)).1 = l.length) (h2 : (firstR (l.drop (a + (skipL (l.drop a)).1))).2 = 0) : toksF (f + 1) l a ws = toksF f l (a + (skipL (l.drop a)).1 + (firstR (l.drop (a + (skipL (l.drop a)).1))).1.text.length) (ws ++ [{ (firstR (l.drop (a + (skipL (l.drop a)).1))).1 with at_ := ((a + (skipL (l.drop a)).1 : Nat) : Int) }]) := by
 rw [toksF, if_neg (by simp [h]), if_neg h1, if_pos h2]
theorem tokens_long (h : l.length > 8192) : tokensR l = ([], 2, 0) := by unfold tokensR; rw [if_pos h]
theorem tokens_short (h : l.length ≤ 8192) : tokensR l = toksF (l.length + 1) l 0 [] := by unfold tokensR; rw [if_neg (by omega)]
end
end Go.Proofs.YtjkppaijicjpoaaGreatDoor
namespace Go.Proofs.YtjkppaijicjpoaaGreatDoor
open Go.RowKit
set_option linter.unusedVariables false
set_option linter.unusedSimpArgs false
set_option maxRecDepth 100000
set_option maxHeartbeats 2000000
set_option simprocs false
def tkc (t : Tk) : List SV := [.int .i64 t.kind, .str t.text, .int .i64 t.n, .int .i64 t.at_]
abbrev wQ9 (ws : List Tk) : Ent := .lst 4 ws.length (fun zz => tkc (ws.getD zz tok0))
structure TkI (l : List UInt8) (a : Nat) (ws : List Tk) : Prop where
 le : a ≤ l.length
 wl : ws.length ≤ a
 eq : ∃ f, l.length < f + a ∧ tokensR l = toksF f l a ws
section
variable {l : List UInt8} {a : Nat} {ws : List Tk}
def skp (l : List UInt8) (a : Nat) : Nat := a + (skipL (l.drop a)).1
theorem TkI.i0 (h : l.length ≤ 8192) : TkI l 0 [] := ⟨Nat.zero_le _, Nat.zero_le _, l.length + 1, by omega, tokens_short h⟩
theorem TkI.sk (hI : TkI l a ws) : skp l a ≤ l.length := by
 have h := skip_le (l.drop a); rw [List.length_drop] at h; have := hI.le; unfold skp; omega
theorem TkI.rem (hI : TkI l a ws) (h : skE l a ≠ 0) : tokensR l = ([], 24, skp l a) ∧ skE l a = 24 := by
 have hs : (skipL (l.drop a)).2 = true := by
  cases hc : (skipL (l.drop a)).2 with
  | true => rfl
  | false => unfold skE at h; rw [hc] at h; exact absurd rfl h
 obtain ⟨f, hf, he⟩ := hI.eq
 cases f with
 | zero => have := hI.le; omega
 | succ f => exact ⟨by rw [he, tf_rem hs]; rfl, by unfold skE; rw [hs]; rfl⟩
theorem skE_no (h : skE l a = 0) : (skipL (l.drop a)).2 = false := by
 cases hc : (skipL (l.drop a)).2 with
 | false => rfl
 | true => unfold skE at h; rw [hc] at h; exact absurd h (by decide)
theorem TkI.done (hI : TkI l a ws) (h : skE l a = 0) (h1 : skp l a = l.length) : tokensR l = (ws, 0, 0) := by
 obtain ⟨f, hf, he⟩ := hI.eq
 cases f with
 | zero => have := hI.le; omega
 | succ f => rw [he, tf_end (skE_no h) h1]
theorem TkI.bad (hI : TkI l a ws) (h : skE l a = 0) (h1 : skp l a ≠ l.length) (h2 : (firstR (l.drop (skp l a))).2 ≠ 0) : tokensR l = ([], (firstR (l.drop (skp l a))).2, skp l a) := by
 obtain ⟨f, hf, he⟩ := hI.eq
 cases f with
 | zero => have := hI.le; omega
 | succ f => rw [he, tf_bad (skE_no h) h1 h2]; rfl
theorem TkI.len (hI : TkI l a ws) (h1 : skp l a ≠ l.length) (h2 : (firstR (l.drop (skp l a))).2 = 0) : 0 < (firstR (l.drop (skp l a))).1.text.length ∧ (firstR (l.drop (skp l a))).1.text.length + skp l a ≤ l.length := by
 have h := first_len h2
 rw [List.length_drop] at h
 have := hI.sk
 omega
theorem TkI.nx (hI : TkI l a ws) (h : skE l a = 0) (h1 : skp l a ≠ l.length) (h2 : (firstR (l.drop (skp l a))).2 = 0) : TkI l (skp l a + (firstR (l.drop (skp l a))).1.text.length) (ws ++ [⟨(firstR (l.drop (skp l a))).1.kind, (firstR (l.drop (skp l a))).1.text, (firstR (l.drop (skp l a))).1.n, ((skp l a : Nat) : Int)⟩]) := by
 obtain ⟨f, hf, he⟩ := hI.eq
 have hn := hI.len h1 h2
 have hw := hI.wl
 have hs : a ≤ skp l a := by unfold skp; omega
 cases f with
 | zero => have := hI.le; omega
 | succ f => exact ⟨by omega, by simp; omega, f, by omega, by rw [he, tf_go (skE_no h) h1 h2]; rfl⟩
theorem tk_app {x : Tk} {k : Nat} (hk : k < ws.length) : (ws ++ [x]).getD k tok0 = ws.getD k tok0 := by simp [List.getD, List.getElem?_append_left hk]
theorem tk_new {x : Tk} : (ws ++ [x]).getD ws.length tok0 = x := by simp [List.getD]
end
def TkR (l : List UInt8) : SV → Hp → Prop := fun x H2 => ((tokensR l).2.1 = 0 ∧ x = .tup [.sl 0 (tokensR l).1.length 0, .z9, .z9] ∧ H2 = [some (.row 110 4 (tokensR l).1.length 0 fun zz => tkc ((tokensR l).1.getD zz tok0))]) ∨ ((tokensR l).2.1 ≠ 0 ∧ x = .tup [.sla none 0 0, .int .i64 (tokensR l).2.1, .int .i64 ((tokensR l).2.2 : Int)] ∧ H2 = [])
theorem tokens_ (l : List UInt8) (os : List (Nat × Obj)) (hM : ∀ w ks, Gl os w ks → ∃ m, w.cell? ⟨1, 0, none⟩ = some (.int .i64 m)) (hE : ∀ w ks, Gl os w ks → ∃ ev, w.cell? ⟨4, 0, none⟩ = some ev ∧ (ev = .nilIface ∨ ∃ te pe, ev = .iface te pe)) : FnI (Gl os) Tryz.prog 48 [.str l] [] (TkR l) :=
 enterI (n := 50) (by kernel_rfl) Tryz.func48 rfl rfl rfl fun G w a h0 hI A => N9 15 A rfl rfl fun A => forkD 12 A rfl
  (fun h1 A => N9 9 A rfl rfl fun A => RET (x := .tup [.sla none 0 0, .int .i64 2, .z9]) (H' := []) hX [] A (by have e := tokens_long (l := l) (by omega); unfold TkR; rw [e]; exact .inr ⟨(by show (2 : Int) ≠ 0; decide), rfl, rfl⟩) rfl rfl rfl rfl rfl rfl rfl rfl h0)
  (fun h1 A => N9 14 A rfl rfl fun A => have A := A.nilRow 5 110 4 (fun zz => tkc (([] : List Tk).getD zz tok0)) rfl (fun z => ⟨_, rfl, rfl⟩); LOOP2 (fun (e0 : Nat) (ws : List Tk) => [(0, .str l), (2, .sla none 0 0), (3, .int .i64 0), (4, .int .i64 0), (5, .sl 0 ws.length 0), (6, .int .i64 (e0 : Int))]) (fun (e0 : Nat) (ws : List Tk) => [some (.row 110 4 ws.length 0 (fun zz => tkc (ws.getD zz tok0)))]) (fun (e0 : Nat) (ws : List Tk) => TkI l e0 ws) (fun (e0 : Nat) (ws : List Tk) => l.length - e0) 0 [] (TkI.i0 (by omega)) ((A.cut [0, 2, 3, 4, 5, 6] rfl).trunc 1 rfl rfl rfl (by simp only [List.length_cons, List.length_nil] at h0; omega)) fun e0 ws hI2 {G a w} A => N9 5 A rfl rfl fun A => I9 [] Gl.ok hI (fnI_asX (skip_ l e0 os hM hI2.le (by omega)) (y := .tup [.int .i64 ((skp l e0 : Nat) : Int), .int .i64 (skE l e0)]) fun _ => rfl) A rfl fun A => N9 14 A rfl rfl fun A => forkN 20 A rfl
    (fun h2 A => N9 11 A rfl rfl fun A => RET (x := .tup [.sla none 0 0, .int .i64 (skE l e0), .int .i64 ((skp l e0 : Nat) : Int)]) (H' := []) hX [] A (by have e := (hI2.rem h2).1; unfold TkR; rw [e]; have e2 := (hI2.rem h2).2; rw [e2]; exact .inr ⟨(by show (24 : Int) ≠ 0; decide), rfl, rfl⟩) rfl rfl rfl rfl rfl rfl rfl rfl h0)
    (fun h2 A => N9 12 A rfl rfl fun A => forkE 26 A rfl
     (fun h3 A => N9 10 A rfl rfl fun A => RET (x := .tup [.sl 0 ws.length 0, .z9, .z9]) (H' := [some (.row 110 4 ws.length 0 (fun zz => tkc (ws.getD zz tok0)))]) hX [0] A (by have e := hI2.done h2 (by omega); unfold TkR; rw [e]; exact .inl ⟨rfl, rfl, rfl⟩) rfl rfl rfl rfl rfl rfl rfl rfl h0)
     (fun h3 A => N9 8 A rfl (ok_d (by have hs := hI2.sk; have hle := hI2.le; have hwl := hI2.wl; (try simp only [List.length_drop, Int.toNat_natCast]); omega) <| okE_nil) fun A => I9 [] Gl.ok hI (first_ (l.drop (((skp l e0 : Nat) : Int)).toNat) os hE (by have hs := hI2.sk; have hle := hI2.le; have hwl := hI2.wl; (try simp only [List.length_drop, Int.toNat_natCast]); omega) (by have hs := hI2.sk; have hle := hI2.le; have hwl := hI2.wl; (try simp only [List.length_drop, Int.toNat_natCast]); omega)) A rfl fun A => N9 15 A rfl rfl fun A => forkN 36 A rfl
      (fun h4 A => N9 11 A rfl rfl fun A => RET (x := .tup [.sla none 0 0, .int .i64 ((firstR (l.drop (((skp l e0 : Nat) : Int)).toNat)).2), .int .i64 ((skp l e0 : Nat) : Int)]) (H' := []) hX [] A (by have e := hI2.bad h2 (by intro e; apply h3; rw [e]) (by have := h4; rwa [Int.toNat_natCast] at this); unfold TkR; rw [e]; exact .inr ⟨(by have := h4; rwa [Int.toNat_natCast] at this), by simp only [Int.toNat_natCast], rfl⟩) rfl rfl rfl rfl rfl rfl rfl rfl h0)
      (fun h4 A => N9 15 A rfl rfl fun A => APP1 hX (ws.length + 1) (fun zz => tkc ((ws ++ [(⟨(firstR (l.drop (((skp l e0 : Nat) : Int)).toNat)).1.kind, (firstR (l.drop (((skp l e0 : Nat) : Int)).toNat)).1.text, (firstR (l.drop (((skp l e0 : Nat) : Int)).toNat)).1.n, ((skp l e0 : Nat) : Int)⟩ : Tk)]).getD zz tok0)) A rfl rfl rfl rfl (by have hs := hI2.sk; have hle := hI2.le; have hwl := hI2.wl; have hn := hI2.len (by intro e; apply h3; rw [e]) (by have := h4; rwa [Int.toNat_natCast] at this); (try simp only [List.length_drop, Int.toNat_natCast]); omega) rfl (fun k hk => by show tkc _ = tkc _; rw [tk_app hk]) (by show tkc _ = _; rw [tk_new]; rfl) (fun z => ⟨_, rfl, rfl⟩) fun A => have A := (A.rowAs 3 ((ws ++ [(⟨(firstR (l.drop (((skp l e0 : Nat) : Int)).toNat)).1.kind, (firstR (l.drop (((skp l e0 : Nat) : Int)).toNat)).1.text, (firstR (l.drop (((skp l e0 : Nat) : Int)).toNat)).1.n, ((skp l e0 : Nat) : Int)⟩ : Tk)]).length) (fun zz => tkc ((ws ++ [(⟨(firstR (l.drop (((skp l e0 : Nat) : Int)).toNat)).1.kind, (firstR (l.drop (((skp l e0 : Nat) : Int)).toNat)).1.text, (firstR (l.drop (((skp l e0 : Nat) : Int)).toNat)).1.n, ((skp l e0 : Nat) : Int)⟩ : Tk)]).getD zz tok0)) rfl (by rw [List.length_append]; rfl) (fun q hq => rfl) (fun z => ⟨_, rfl, rfl⟩)).say 44 (.sl 3 ((ws ++ [(⟨(firstR (l.drop (((skp l e0 : Nat) : Int)).toNat)).1.kind, (firstR (l.drop (((skp l e0 : Nat) : Int)).toNat)).1.text, (firstR (l.drop (((skp l e0 : Nat) : Int)).toNat)).1.n, ((skp l e0 : Nat) : Int)⟩ : Tk)]).length) 0) rfl (by rw [List.length_append] <;> rfl); N9 12 A rfl (ok_d (by have hs := hI2.sk; have hle := hI2.le; have hwl := hI2.wl; have hn := hI2.len (by intro e; apply h3; rw [e]) (by have := h4; rwa [Int.toNat_natCast] at this); (try simp only [List.length_drop, Int.toNat_natCast]); omega) <| okE_nil) fun A => ⟨skp l e0 + (firstR (l.drop (skp l e0))).1.text.length, ws ++ [(⟨(firstR (l.drop (((skp l e0 : Nat) : Int)).toNat)).1.kind, (firstR (l.drop (((skp l e0 : Nat) : Int)).toNat)).1.text, (firstR (l.drop (((skp l e0 : Nat) : Int)).toNat)).1.n, ((skp l e0 : Nat) : Int)⟩ : Tk)], _, (by have := hI2.len (by intro e; apply h3; rw [e]) (by have := h4; rwa [Int.toNat_natCast] at this); have := hI2.le; have hq : e0 ≤ skp l e0 := (by unfold skp; omega); omega), (hI2.nx h2 (by intro e; apply h3; rw [e]) (by have := h4; rwa [Int.toNat_natCast] at this)), ((A.cut [0, 2, 3, 4, 5, 6] rfl).mv 0 [3] rfl rfl rfl rfl (by simp only [List.length_cons, List.length_nil] at h0; omega)).sayT (by simp only [Int.toNat_natCast]; rfl)⟩))))
theorem fnI_mono {I : Amb} {P : Program} {f : Nat} {az : List SV} {H : Hp} {R R' : SV → Hp → Prop} (h : FnI I P f az H R) (e : ∀ x H2, R x H2 → R' x H2) : FnI I P f az H R' := ⟨h.1, fun G w vs hM hI hv => Calls.mono (h.2 G w vs hM hI hv) fun e' w' ⟨x', H', F, v, q, r⟩ => ⟨x', H', F, v, e _ _ q, r⟩⟩
theorem tokens_ok (l : List UInt8) (ws : List Tk) (os : List (Nat × Obj)) (hM : ∀ w ks, Gl os w ks → ∃ m, w.cell? ⟨1, 0, none⟩ = some (.int .i64 m)) (hE : ∀ w ks, Gl os w ks → ∃ ev, w.cell? ⟨4, 0, none⟩ = some ev ∧ (ev = .nilIface ∨ ∃ te pe, ev = .iface te pe)) (h : tokensR l = (ws, 0, 0)) : FnI (Gl os) Tryz.prog 48 [.str l] [] (Rt (.tup [.sl 0 ws.length 0, .z9, .z9]) [some (.row 110 4 ws.length 0 (fun zz => tkc (ws.getD zz tok0)))]) := fnI_mono (tokens_ l os hM hE) fun x H2 q => by
 unfold TkR at q
 rw [h] at q
 rcases q with ⟨_, q1, q2⟩ | ⟨q1, _⟩
 ·exact ⟨q1, q2⟩
 ·exact absurd rfl q1
theorem tokens_no (l : List UInt8) (e : Int) (k : Nat) (os : List (Nat × Obj)) (hM : ∀ w ks, Gl os w ks → ∃ m, w.cell? ⟨1, 0, none⟩ = some (.int .i64 m)) (hE : ∀ w ks, Gl os w ks → ∃ ev, w.cell? ⟨4, 0, none⟩ = some ev ∧ (ev = .nilIface ∨ ∃ te pe, ev = .iface te pe)) (h : tokensR l = ([], e, k)) (he : e ≠ 0) : FnI (Gl os) Tryz.prog 48 [.str l] [] (Rt (.tup [.sla none 0 0, .int .i64 e, .int .i64 (k : Int)]) []) := fnI_mono (tokens_ l os hM hE) fun x H2 q => by
 unfold TkR at q
 rw [h] at q
 rcases q with ⟨q1, _⟩ | ⟨_, q1, q2⟩
 ·exact absurd q1 he
 ·exact ⟨q1, q2⟩
def nxK (ws : List Tk) (k : Nat) : Nat := if k < ws.length then k + 1 else k
def tkB (ws : List Tk) (k : Nat) (m : List UInt8) : Bool := decide (k < ws.length) && (!((ws.getD k tok0).kind == 2) && ((ws.getD k tok0).text == m))
def tkK (ws : List Tk) (k : Nat) (m : List UInt8) : Nat := if tkB ws k m = true then k + 1 else k
def atW (ws : List Tk) (k : Nat) : Int := if k < ws.length then (ws.getD k tok0).at_ else if ws.length = 0 then 0 else (ws.getD (ws.length - 1) tok0).at_ + ((ws.getD (ws.length - 1) tok0).text.length : Int)
def nmB (ws : List Tk) (k : Nat) : Bool := decide (k < ws.length) && ((ws.getD k tok0).kind == 1)
def nmK (ws : List Tk) (k : Nat) : Nat := if nmB ws k = true then k + 1 else k
def nmT (ws : List Tk) (k : Nat) : List UInt8 := if nmB ws k = true then (ws.getD k tok0).text else []
def nuB (ws : List Tk) (k : Nat) : Bool := decide (k < ws.length) && ((ws.getD k tok0).kind == 2)
def mnB (ws : List Tk) (k : Nat) : Bool := ((decide (k < ws.length)) && ((ws.getD k tok0).kind == 3)) && ((ws.getD k tok0).text == [45])
def nbB (ws : List Tk) (k : Nat) : Bool := if mnB ws k = true then nuB ws (k + 1) else nuB ws k
def nbK (ws : List Tk) (k : Nat) : Nat := if mnB ws k = true then (if nuB ws (k + 1) = true then k + 1 + 1 else k) else (if nuB ws k = true then k + 1 else k)
def nbV (ws : List Tk) (k : Nat) : Int := if mnB ws k = true then IntKind.wrap .i64 (0 - (if nuB ws (k + 1) = true then (ws.getD (k + 1) tok0).n else 0)) else (if nuB ws k = true then (ws.getD k tok0).n else 0)
section
variable {ws : List Tk} {k : Nat} {m : List UInt8}
end
structure As where (p : Nat) (e a : Int)
def refAt (s : As) (x y : Int) : As := if s.e = 0 then ⟨s.p, x, y⟩ else s
def refA (ws : List Tk) (s : As) (x : Int) : As := refAt s (if s.p < ws.length then x else 24) (atW ws s.p)
def goA (s : As) (k : Nat) : As := ⟨k, s.e, s.a⟩
def mkA (ws : List Tk) (s : As) (m : List UInt8) : As := if tkB ws s.p m = true then goA s (tkK ws s.p m) else refA ws (goA s (tkK ws s.p m)) 22
def numA (ws : List Tk) (s : As) : As := if nbB ws s.p = true then goA s (nbK ws s.p) else refA ws (goA s (tkK ws (nbK ws s.p) [45])) 22
section
variable {ws : List Tk} {s : As} {x y : Int} {m : List UInt8}
end
structure Rw where (nm wd : List UInt8) (ins : In) (pa : Option Addr) (ps : List Int) (cp : Nat)
def Rw.z : Rw := ⟨[], [], ⟨0, 0, 0, 0, 0, 0, 0, 0, 0, 0, false, false, false, 0, 0, 0, false⟩, none, [], 0⟩
def Rw.lay (r : Rw) (i : In) : In := r.ps.foldl (wStep i) (bare r.ins)
def Tbl (L : List Rw) : Amb := fun w ks => ∀ r ∈ L, LiesAt r.pa r.ps w ks
theorem Tbl.ok {L : List Rw} : Amb.OK (Tbl L) := fun w ks w' ks' h m hk r hr => (h r hr).go m hk
theorem Tbl.at {L : List Rw} {w : World} {ks : List Nat} (h : Tbl L w ks) {k : Nat} (hk : k < L.length) : LiesAt (L.getD k Rw.z).pa (L.getD k Rw.z).ps w ks := by
 rw [List.getD_eq_getElem?_getD, List.getElem?_eq_getElem hk]; exact h _ (List.getElem_mem hk)
def rwc (r : Rw) : List SV := [.str r.nm, .str r.wd, .int .i64 r.ins.op, .int .i64 r.ins.dst, .int .i64 r.ins.ra, .int .i64 r.ins.rb, .int .i64 r.ins.imm, .int .i64 r.ins.loc, .int .i64 r.ins.off, .int .i64 r.ins.ix, .int .i64 r.ins.sz, .int .i64 r.ins.fn, .bool r.ins.acq, .bool r.ins.weak, .bool r.ins.rel, .int .i64 r.ins.pred, .int .i64 r.ins.succ, .int .i64 r.ins.to_, .bool r.ins.zero, .sla r.pa r.ps.length r.cp]
abbrev rwQ9 (r : Rw) : List SV := [.str r.nm, .str r.wd, .int .i64 r.ins.op, .int .i64 r.ins.dst, .int .i64 r.ins.ra, .int .i64 r.ins.rb, .int .i64 r.ins.imm, .int .i64 r.ins.loc, .int .i64 r.ins.off, .int .i64 r.ins.ix, .int .i64 r.ins.sz, .int .i64 r.ins.fn, .bool r.ins.acq, .bool r.ins.weak, .bool r.ins.rel, .int .i64 r.ins.pred, .int .i64 r.ins.succ, .int .i64 r.ins.to_, .bool r.ins.zero, .sla r.pa r.ps.length r.cp]
abbrev lQ9 (L : List Rw) : Ent := .lst 20 L.length (fun zz => rwc (L.getD zz Rw.z))
theorem nil_no {i : Nat} {e : Option Ent} {R : Prop} (h : ([] : Hp)[i]? = some e) : R := by rw [List.getElem?_nil] at h; cases h
theorem fnI_adopt {P : Program} {f : Nat} {az az' : List SV} {ao : Option Addr} {ps : List Int} {x : SV} (h : Fn P f az [some (lsI ps)] (Rt x [some (lsI ps)])) (ha : adL 0 az' = az) (hs : slaL az' = [ao]) (hx : inS 0 x = true) : FnI (LiesAt ao ps) P f az' [] (Rt x []) := by
 refine ⟨h.1, fun G w vs hM hI hv => ?_⟩
 have hG : G = [] := List.eq_nil_of_length_eq_zero hM.len.symm
 subst hG
 have hI0 : LiesAt ao ps w [] := LiesAt.ok _ _ _ _ hI (Mix.refl _ _) fun b hb => (by cases hb)
 have A1 : Sy 1 [(0, .tt)] [] [] [] w [] ⟨#[.bool true], []⟩ w := ⟨rfl, rfl, fun t x hx => (by
  unfold look at hx
  cases hb : Nat.beq 0 t with
  | true => rw [hb] at hx; cases hx; have := Nat.eq_of_beq_eq_true hb; subst this; rfl
  | false => rw [hb] at hx; cases hx), hM, ⟨[], by simp⟩, fun i e L h1 => nil_no h1, Mix.refl _ _⟩
 have A2 := A1.adopt hI0 0 (x := .tt) rfl (fun z hz => by cases hz)
 have ha0 : ∀ q, ao = some q → q = ⟨q.block, 0, none⟩ := by
  intro q hq
  rcases hI0 with ⟨h1, _⟩ | ⟨b, h1, _⟩
  ·rw [h1] at hq; cases hq
  ·rw [h1] at hq; cases hq; rfl
 have hd := adL_den (G := [locA ao]) (i := 0) ha0 rfl az' (fun z hz => by rw [hs] at hz; exact List.mem_singleton.1 hz)
 rw [ha] at hd
 have hv' : denL [locA ao] az' = some vs := by simpa using denL_mono [locA ao] az' hv
 rw [hv'] at hd
 refine (h.2 [locA ao] w vs (by simpa using A2.mem) hd).mono ?_
 rintro e w' ⟨y, H', F, v, ⟨rfl, rfl⟩, h1, rfl, h3, hmix, _⟩
 have hk : keys [some (lsI ps)] [locA ao] = [] := by cases ao <;> rfl
 rw [hk] at hmix
 refine ⟨y, [], [], v, ⟨rfl, rfl⟩, ?_, rfl, ⟨rfl, fun i e he => nil_no he, fun i j e f L M _ he => nil_no he⟩, by simpa [keys] using hmix, Nat.le_refl _, fun i e he _ => nil_no he, fun i e he => nil_no he⟩
 have := den_take (G := [locA ao] ++ F) (k := 0) y hx
 simp only [List.take_zero] at this
 rw [List.append_nil, this]; exact h1
theorem withI_ (r : Rw) (i : In) (hn : r.ps.length ≤ 1000000) : FnI (LiesAt r.pa r.ps) Tryz.prog 167 [.agg (rwQ9 r), .agg (inQ9 i)] [] (Rt (.agg (inQ9 (r.lay i))) []) := fnI_adopt (with_ r.nm r.wd r.ins r.ps r.cp i hn) rfl rfl rfl
theorem showsI_ (r : Rw) (i : In) (hn : r.ps.length ≤ 1000000) : FnI (LiesAt r.pa r.ps) Tryz.prog 170 [.agg (rwQ9 r), .agg (inQ9 i)] [] (Rt (.bool (showP r.ps i)) []) := fnI_adopt (shows_ r.nm r.wd r.ins r.ps r.cp i hn) rfl rfl rfl
structure Lg where (r0 r1 r2 r3 r4 r5 r6 r7 l0 l1 l2 l3 im f0 f1 f2 : List UInt8)
def eqIn (a b : In) : Bool := ((a.op == b.op) && ((a.dst == b.dst) && ((a.ra == b.ra) && ((a.rb == b.rb) && ((a.imm == b.imm) && ((a.loc == b.loc) && ((a.off == b.off) && ((a.ix == b.ix) && ((a.sz == b.sz) && ((a.fn == b.fn) && ((a.acq == b.acq) && ((a.weak == b.weak) && ((a.rel == b.rel) && ((a.pred == b.pred) && ((a.succ == b.succ) && ((a.to_ == b.to_) && (a.zero == b.zero)))))))))))))))))
def rowP (i : In) (r : Rw) : Bool := eqIn (r.lay i) i && showP r.ps i
def rowR (L : List Rw) (i : In) : Rw := (L.find? (rowP i)).getD Rw.z
def rowQ (L : List Rw) (i : In) : Bool := (L.find? (rowP i)).isSome
structure FI (L : List Rw) (i : In) (k : Nat) : Prop where
 le : k ≤ L.length
 eq : L.find? (rowP i) = (L.drop k).find? (rowP i)
section
variable {L : List Rw} {i : In} {k : Nat}
theorem FI.i0 : FI L i 0 := ⟨Nat.zero_le _, by simp⟩
theorem FI.at (hI : FI L i k) (h1 : (k : Int) < ((L.length : Nat) : Int)) : L.find? (rowP i) = if rowP i (L.getD ((k : Int)).toNat Rw.z) then some (L.getD ((k : Int)).toNat Rw.z) else (L.drop (k + 1)).find? (rowP i) := by
 have hk : k < L.length := by omega
 have e : L.getD ((k : Int)).toNat Rw.z = L[k] := by simp [List.getD, hk]
 rw [hI.eq, List.drop_eq_getElem_cons hk, List.find?_cons, e]
 cases rowP i L[k] <;> rfl
theorem FI.hit (hI : FI L i k) (h1 : (k : Int) < ((L.length : Nat) : Int)) (h : rowP i (L.getD ((k : Int)).toNat Rw.z) = true) : rowR L i = L.getD ((k : Int)).toNat Rw.z ∧ rowQ L i = true := by
 unfold rowR rowQ; rw [hI.at h1, h]; exact ⟨rfl, rfl⟩
theorem FI.nx (hI : FI L i k) (h1 : (k : Int) < ((L.length : Nat) : Int)) (h : rowP i (L.getD ((k : Int)).toNat Rw.z) = false) : FI L i (k + 1) := ⟨by omega, by rw [hI.at h1, h]; rfl⟩
theorem FI.fi (hI : FI L i k) (h1 : ¬ (k : Int) < ((L.length : Nat) : Int)) : rowR L i = Rw.z ∧ rowQ L i = false := by
 unfold rowR rowQ; rw [hI.eq, List.drop_eq_nil_of_le (by omega)]; exact ⟨rfl, rfl⟩
end
theorem rowOf_ (g : Lg) (L : List Rw) (c : Nat) (i : In) (hp : ∀ k, (L.getD k Rw.z).ps.length ≤ 1000000) (hn : L.length ≤ 1000000) : FnI (Tbl L) Tryz.prog 136 [.agg [.str g.r0, .str g.r1, .str g.r2, .str g.r3, .str g.r4, .str g.r5, .str g.r6, .str g.r7, .str g.l0, .str g.l1, .str g.l2, .str g.l3, .str g.im, .str g.f0, .str g.f1, .str g.f2, .sl 0 L.length c], .agg (inQ9 i)] [some (lQ9 L)] (Rt (.tup [.agg (rwQ9 (rowR L i)), .bool (rowQ L i)]) [some (lQ9 L)]) :=
 enterI (n := 28) (by kernel_rfl) Tryz.func136 rfl rfl rfl fun G w a h0 hI A => N9 18 A rfl rfl fun A => LOOP1 (fun (k : Nat) => [(3, .ptr 2 0), (4, .ptr 3 0), (5, .ff), (9, .sl 0 L.length c), (10, .int .i64 ((L.length : Nat) : Int)), (11, .int .i64 (k : Int))]) (fun (k : Nat) => [some (lQ9 L), some (.blk [.str g.r0, .str g.r1, .str g.r2, .str g.r3, .str g.r4, .str g.r5, .str g.r6, .str g.r7, .str g.l0, .str g.l1, .str g.l2, .str g.l3, .str g.im, .str g.f0, .str g.f1, .str g.f2, .sl 0 L.length c]), some (.blk (inQ9 i)), some (.blk [.str [], .str [], .z9, .z9, .z9, .z9, .z9, .z9, .z9, .z9, .z9, .z9, .ff, .ff, .ff, .z9, .z9, .z9, .ff, .sla none 0 0])]) (fun (k : Nat) => FI L i k) (fun (k : Nat) => L.length - k) 0 FI.i0 ((A.cut [3, 4, 5, 9, 10, 11] rfl).trunc 4 rfl rfl rfl (by simp only [List.length_cons, List.length_nil] at h0; omega)) fun k hI2 {G a w} A => N9 6 A rfl rfl fun A => forkD 12 A rfl
   (fun h1 A => N9 14 A rfl (ok_d (by have := hI2.le; omega) <| ok_d (by have := hI2.le; omega) <| okE_nil) fun A => ANY hmo [.agg (rwQ9 (L.getD (((k : Int)).toNat) Rw.z)), .agg (inQ9 i), .agg (inQ9 ((L.getD (((k : Int)).toNat) Rw.z).lay i)), .agg (inQ9 i), .bool (eqIn ((L.getD (((k : Int)).toNat) Rw.z).lay i) i), .bool (eqIn ((L.getD (((k : Int)).toNat) Rw.z).lay i) i), .opt (eqIn ((L.getD (((k : Int)).toNat) Rw.z).lay i) i) (.agg (rwQ9 (L.getD (((k : Int)).toNat) Rw.z))), .opt (eqIn ((L.getD (((k : Int)).toNat) Rw.z).lay i) i) (.agg (inQ9 i)), .opt (eqIn ((L.getD (((k : Int)).toNat) Rw.z).lay i) i) (.bool (showP (L.getD (((k : Int)).toNat) Rw.z).ps i)), .bool ((eqIn ((L.getD (((k : Int)).toNat) Rw.z).lay i) i) && (showP (L.getD (((k : Int)).toNat) Rw.z).ps i))] [] [] 0 [([], [], [some (lQ9 L), some (.blk [.str g.r0, .str g.r1, .str g.r2, .str g.r3, .str g.r4, .str g.r5, .str g.r6, .str g.r7, .str g.l0, .str g.l1, .str g.l2, .str g.l3, .str g.im, .str g.f0, .str g.f1, .str g.f2, .sl 0 L.length c]), some (.blk (inQ9 i)), some (.blk [.str [], .str [], .z9, .z9, .z9, .z9, .z9, .z9, .z9, .z9, .z9, .z9, .ff, .ff, .ff, .z9, .z9, .z9, .ff, .sla none 0 0]), some (.blk (rwQ9 (L.getD (((k : Int)).toNat) Rw.z)))])] [[true, true, true, true, true, true, true, true, true, true]] A rfl rfl rfl rfl (by kernel_rfl) rfl (by kernel_rfl) ⟨⟨oV9 0 rfl rfl, ⟨oV9 0 rfl rfl, ⟨oE9 0 rfl (callIE [] LiesAt.ok (hI.at (k := ((k : Int)).toNat) (by omega)) (withI_ (L.getD (((k : Int)).toNat) Rw.z) i (hp _)) rfl rfl rfl rfl rfl rfl rfl), ⟨oV9 0 rfl rfl, ⟨oE9 0 rfl (eff_say (x := .bool (((((L.getD (((k : Int)).toNat) Rw.z).lay i).op) == i.op) && (((((L.getD (((k : Int)).toNat) Rw.z).lay i).dst) == i.dst) && (((((L.getD (((k : Int)).toNat) Rw.z).lay i).ra) == i.ra) && (((((L.getD (((k : Int)).toNat) Rw.z).lay i).rb) == i.rb) && (((((L.getD (((k : Int)).toNat) Rw.z).lay i).imm) == i.imm) && (((((L.getD (((k : Int)).toNat) Rw.z).lay i).loc) == i.loc) && (((((L.getD (((k : Int)).toNat) Rw.z).lay i).off) == i.off) && (((((L.getD (((k : Int)).toNat) Rw.z).lay i).ix) == i.ix) && (((((L.getD (((k : Int)).toNat) Rw.z).lay i).sz) == i.sz) && (((((L.getD (((k : Int)).toNat) Rw.z).lay i).fn) == i.fn) && (((((L.getD (((k : Int)).toNat) Rw.z).lay i).acq) == i.acq) && (((((L.getD (((k : Int)).toNat) Rw.z).lay i).weak) == i.weak) && (((((L.getD (((k : Int)).toNat) Rw.z).lay i).rel) == i.rel) && (((((L.getD (((k : Int)).toNat) Rw.z).lay i).pred) == i.pred) && (((((L.getD (((k : Int)).toNat) Rw.z).lay i).succ) == i.succ) && (((((L.getD (((k : Int)).toNat) Rw.z).lay i).to_) == i.to_) && ((((L.getD (((k : Int)).toNat) Rw.z).lay i).zero) == i.zero)))))))))))))))))) (fun _ => rfl) (eff_auto (X := ⟨_, true⟩) (out := .val _ _) hX rfl rfl)), ⟨oV9 0 rfl rfl, ⟨oV9 0 rfl rfl, ⟨oV9 0 rfl rfl, ⟨oE9 0 rfl (eff_pureIG LiesAt.ok (hI.at (k := ((k : Int)).toNat) (by omega)) rfl rfl rfl rfl (fun hg => showsI_ (L.getD (((k : Int)).toNat) Rw.z) i (hp _))), ⟨oV9 0 rfl rfl, trivial⟩⟩⟩⟩⟩⟩⟩⟩⟩⟩, trivial⟩ fun A => N9 1 A rfl rfl fun A => fork 24 A rfl
    (fun h2 A => N9 9 A rfl rfl fun A => R9 A rfl h0 rfl (by obtain ⟨e1, e2⟩ := hI2.hit h1 h2; rw [e1, e2]; rfl) rfl)
    (fun h2 A => N9 8 A rfl (ok_d (by have := hI2.le; omega) <| okE_nil) fun A => ⟨k + 1, _, (by omega), (hI2.nx h1 h2), ((A.cut [3, 4, 5, 9, 10, 11] rfl).trunc 4 rfl rfl rfl (by simp only [List.length_cons, List.length_nil] at h0; omega))⟩))
   (fun h1 A => N9 11 A rfl rfl fun A => R9 A rfl h0 rfl (by obtain ⟨e1, e2⟩ := hI2.fi h1; rw [e1, e2]; rfl) rfl)
end Go.Proofs.YtjkppaijicjpoaaGreatDoor
namespace Go.Proofs.YtjkppaijicjpoaaGreatDoor
open Go.Shelf Go.RowKit
set_option linter.unusedVariables false
def laysItoa_ren : Go.Shelf.Ren := ⟨fun | 129 => 157 | 171 => 86 | 243 => 122 | 246 => 155 | 283 => 124 | 284 => 125 | 285 => 126 | 286 => 127 | 317 => 156 | 318 => 158 | 319 => 159 | 320 => 160 | 337 => 185 | 338 => 186 | n => n, fun | 0 => 0 | 2 => 2 | 3 => 3 | 4 => 4 | 5 => 5 | 9 => 9 | 20 => 20 | 37 => 101 | 46 => 185 | 51 => 183 | 53 => 127 | 171 => 145 | 173 => 148 | 212 => 182 | 213 => 184 | 232 => 242 | 233 => 243 | n => n, fun | 17 => 0 | 18 => 2 | 19 => 3 | n => n⟩
theorem laysItoa : Go.Proofs.LaysM.n171 Tryz.prog laysItoa_ren := {
 mixed := by kernel_rfl
 f129 := Tryz.func157.trans (congrArg some (by kernel_rfl))
 f171 := Tryz.func86.trans (congrArg some (by kernel_rfl))
 f243 := Tryz.func122.trans (congrArg some (by kernel_rfl))
 f246 := Tryz.func155.trans (congrArg some (by kernel_rfl))
 f283 := Tryz.func124.trans (congrArg some (by kernel_rfl))
 f284 := Tryz.func125.trans (congrArg some (by kernel_rfl))
 f285 := Tryz.func126.trans (congrArg some (by kernel_rfl))
 f286 := Tryz.func127.trans (congrArg some (by kernel_rfl))
 f317 := Tryz.func156.trans (congrArg some (by kernel_rfl))
 f318 := Tryz.func158.trans (congrArg some (by kernel_rfl))
 f319 := Tryz.func159.trans (congrArg some (by kernel_rfl))
 f320 := Tryz.func160.trans (congrArg some (by kernel_rfl))
 f337 := Tryz.func185.trans (congrArg some (by kernel_rfl))
 f338 := Tryz.func186.trans (congrArg some (by kernel_rfl))
 t0 := Tryz.underlying0
 a0 := Tryz.isAgg0
 z0 := Tryz.sizeOf0
 v0 := Tryz.zeroValue0
 t2 := Tryz.underlying2
 a2 := Tryz.isAgg2
 z2 := Tryz.sizeOf2
 v2 := Tryz.zeroValue2
 t3 := Tryz.underlying3
 a3 := Tryz.isAgg3
 z3 := Tryz.sizeOf3
 v3 := Tryz.zeroValue3
 t4 := Tryz.underlying4
 a4 := Tryz.isAgg4
 z4 := Tryz.sizeOf4
 v4 := Tryz.zeroValue4
 t5 := Tryz.underlying5
 a5 := Tryz.isAgg5
 z5 := Tryz.sizeOf5
 v5 := Tryz.zeroValue5
 t9 := Tryz.underlying9
 a9 := Tryz.isAgg9
 z9 := Tryz.sizeOf9
 v9 := Tryz.zeroValue9
 t20 := Tryz.underlying20
 a20 := Tryz.isAgg20
 z20 := Tryz.sizeOf20
 v20 := Tryz.zeroValue20
 t37 := Tryz.underlying101
 a37 := Tryz.isAgg101
 z37 := Tryz.sizeOf101
 v37 := Tryz.zeroValue101
 t46 := Tryz.underlying185
 a46 := Tryz.isAgg185
 z46 := Tryz.sizeOf185
 v46 := Tryz.zeroValue185
 t51 := Tryz.underlying183
 a51 := Tryz.isAgg183
 z51 := Tryz.sizeOf183
 v51 := Tryz.zeroValue183
 t53 := Tryz.underlying127
 a53 := Tryz.isAgg127
 z53 := Tryz.sizeOf127
 v53 := Tryz.zeroValue127
 t171 := Tryz.underlying145
 a171 := Tryz.isAgg145
 z171 := Tryz.sizeOf145
 v171 := Tryz.zeroValue145
 t173 := Tryz.underlying148
 a173 := Tryz.isAgg148
 z173 := Tryz.sizeOf148
 v173 := Tryz.zeroValue148
 t212 := Tryz.underlying182
 a212 := Tryz.isAgg182
 z212 := Tryz.sizeOf182
 v212 := Tryz.zeroValue182
 t213 := Tryz.underlying184
 a213 := Tryz.isAgg184
 z213 := Tryz.sizeOf184
 t232 := Tryz.underlying242
 a232 := Tryz.isAgg242
 z232 := Tryz.sizeOf242
 v232 := Tryz.zeroValue242
 t233 := Tryz.underlying243
 a233 := Tryz.isAgg243
 z233 := Tryz.sizeOf243
 v233 := Tryz.zeroValue243
 g17 := by kernel_rfl
 g18 := by kernel_rfl
 g19 := by kernel_rfl
 i0 := by kernel_rfl
 i2 := by kernel_rfl
 i3 := by kernel_rfl
 i4 := by kernel_rfl
 i5 := by kernel_rfl
 i9 := by kernel_rfl
 i20 := by kernel_rfl
 i37 := by kernel_rfl
 i46 := by kernel_rfl
 i51 := by kernel_rfl
 i53 := by kernel_rfl
 i171 := by kernel_rfl
 i173 := by kernel_rfl
 i212 := by kernel_rfl
 i232 := by kernel_rfl
 i233 := by kernel_rfl
 m17 := by kernel_rfl
 m18 := by kernel_rfl
 m19 := by kernel_rfl }
theorem itoa_any (n : Int) (h0 : -9223372036854775808 ≤ n) (h1 : n ≤ 9223372036854775807) (w : World) (htab : Lib.TabIs Tryz.prog w "internal/strconv.uint64pow10" .u64 Lib.pow10Tab) : Calls Tryz.prog 86 #[.int .i64 n] w fun e w' => e = .returned (.string (S (Lib.itoa n))) ∧ Grow w w' := by
 refine (Any.strconv_Itoa laysItoa n h0 h1 w htab).mono ?_
 rintro e w' ⟨rfl, k, os, rfl⟩
 refine ⟨rfl, ⟨rfl, rfl, rfl, ?_, fun j hj => ?_⟩⟩
 ·show w.heap.size ≤ ((w.drewN k).heap ++ os).size
  rw [Array.size_append]
  exact Nat.le_add_right _ _
 ·show ((w.drewN k).heap ++ os)[j]? = w.heap[j]?
  exact Array.getElem?_append_left hj
def laysRepl_ren : Go.Shelf.Ren := ⟨fun | 138 => 202 | 143 => 107 | 154 => 171 | 165 => 174 | 166 => 175 | 169 => 176 | 195 => 225 | 197 => 203 | 217 => 178 | 218 => 226 | 219 => 150 | 224 => 180 | 225 => 179 | 240 => 205 | 241 => 206 | 260 => 227 | 266 => 207 | 267 => 181 | 276 => 228 | 277 => 229 | 314 => 208 | n => n, fun | 0 => 0 | 3 => 3 | 4 => 4 | 5 => 5 | 9 => 9 | 20 => 20 | 21 => 21 | 37 => 101 | 46 => 185 | 51 => 183 | 70 => 202 | 72 => 204 | 75 => 176 | 76 => 206 | 105 => 231 | 119 => 261 | 127 => 234 | 138 => 263 | 139 => 264 | 146 => 235 | 164 => 252 | 80 => 64 | n => n, fun | 1 => 1 | 3 => 6 | 4 => 7 | n => n⟩
theorem laysRepl : Go.Proofs.Lays.n154 Tryz.prog laysRepl_ren := {
 mixed := by kernel_rfl
 f138 := Tryz.func202.trans (congrArg some (by kernel_rfl))
 f143 := Tryz.func107.trans (congrArg some (by kernel_rfl))
 f154 := Tryz.func171.trans (congrArg some (by kernel_rfl))
 f165 := Tryz.func174.trans (congrArg some (by kernel_rfl))
 f166 := Tryz.func175.trans (congrArg some (by kernel_rfl))
 f169 := Tryz.func176.trans (congrArg some (by kernel_rfl))
 f195 := Tryz.func225.trans (congrArg some (by kernel_rfl))
 f197 := Tryz.func203.trans (congrArg some (by kernel_rfl))
 f217 := Tryz.func178.trans (congrArg some (by kernel_rfl))
 f218 := Tryz.func226.trans (congrArg some (by kernel_rfl))
 f219 := Tryz.func150.trans (congrArg some (by kernel_rfl))
 f224 := Tryz.func180.trans (congrArg some (by kernel_rfl))
 f225 := Tryz.func179.trans (congrArg some (by kernel_rfl))
 f240 := Tryz.func205.trans (congrArg some (by kernel_rfl))
 f241 := Tryz.func206.trans (congrArg some (by kernel_rfl))
 f260 := Tryz.func227.trans (congrArg some (by kernel_rfl))
 f266 := Tryz.func207.trans (congrArg some (by kernel_rfl))
 f267 := Tryz.func181.trans (congrArg some (by kernel_rfl))
 f276 := Tryz.func228.trans (congrArg some (by kernel_rfl))
 f277 := Tryz.func229.trans (congrArg some (by kernel_rfl))
 f314 := Tryz.func208.trans (congrArg some (by kernel_rfl))
 t0 := Tryz.underlying0
 a0 := Tryz.isAgg0
 z0 := Tryz.sizeOf0
 v0 := Tryz.zeroValue0
 t3 := Tryz.underlying3
 a3 := Tryz.isAgg3
 z3 := Tryz.sizeOf3
 v3 := Tryz.zeroValue3
 t4 := Tryz.underlying4
 a4 := Tryz.isAgg4
 z4 := Tryz.sizeOf4
 v4 := Tryz.zeroValue4
 t5 := Tryz.underlying5
 a5 := Tryz.isAgg5
 z5 := Tryz.sizeOf5
 v5 := Tryz.zeroValue5
 t9 := Tryz.underlying9
 a9 := Tryz.isAgg9
 z9 := Tryz.sizeOf9
 v9 := Tryz.zeroValue9
 t20 := Tryz.underlying20
 a20 := Tryz.isAgg20
 z20 := Tryz.sizeOf20
 v20 := Tryz.zeroValue20
 t21 := Tryz.underlying21
 a21 := Tryz.isAgg21
 z21 := Tryz.sizeOf21
 v21 := Tryz.zeroValue21
 t37 := Tryz.underlying101
 a37 := Tryz.isAgg101
 z37 := Tryz.sizeOf101
 v37 := Tryz.zeroValue101
 t46 := Tryz.underlying185
 a46 := Tryz.isAgg185
 z46 := Tryz.sizeOf185
 v46 := Tryz.zeroValue185
 t51 := Tryz.underlying183
 a51 := Tryz.isAgg183
 z51 := Tryz.sizeOf183
 v51 := Tryz.zeroValue183
 t70 := Tryz.underlying202
 a70 := Tryz.isAgg202
 z70 := Tryz.sizeOf202
 v70 := Tryz.zeroValue202
 t72 := Tryz.underlying204
 a72 := Tryz.isAgg204
 z72 := Tryz.sizeOf204
 v72 := Tryz.zeroValue204
 t75 := Tryz.underlying176
 a75 := Tryz.isAgg176
 z75 := Tryz.sizeOf176
 v75 := Tryz.zeroValue176
 t76 := Tryz.underlying206
 a76 := Tryz.isAgg206
 z76 := Tryz.sizeOf206
 v76 := Tryz.zeroValue206
 t105 := Tryz.underlying231
 a105 := Tryz.isAgg231
 z105 := Tryz.sizeOf231
 v105 := Tryz.zeroValue231
 t119 := Tryz.underlying261
 a119 := Tryz.isAgg261
 z119 := Tryz.sizeOf261
 t127 := Tryz.underlying234
 a127 := Tryz.isAgg234
 z127 := Tryz.sizeOf234
 v127 := Tryz.zeroValue234
 t138 := Tryz.underlying263
 a138 := Tryz.isAgg263
 z138 := Tryz.sizeOf263
 v138 := Tryz.zeroValue263
 t139 := Tryz.underlying264
 a139 := Tryz.isAgg264
 z139 := Tryz.sizeOf264
 v139 := Tryz.zeroValue264
 t146 := Tryz.underlying235
 a146 := Tryz.isAgg235
 z146 := Tryz.sizeOf235
 v146 := Tryz.zeroValue235
 t164 := Tryz.underlying252
 a164 := Tryz.isAgg252
 z164 := Tryz.sizeOf252
 v164 := Tryz.zeroValue252
 g1 := by kernel_rfl
 g3 := by kernel_rfl
 g4 := by kernel_rfl }
theorem replExtra : Go.Proofs.Builder.Extra Tryz.prog laysRepl_ren where
 sizeBuilder := by kernel_rfl
 liesBuilder := by kernel_rfl
 t5 := Tryz.underlying5
 a5 := Tryz.isAgg5
 z5 := Tryz.sizeOf5
 v5 := Tryz.zeroValue5
 infoByte := by kernel_rfl
 cellsByte := by kernel_rfl
 sizeByte := by kernel_rfl
 neB5 := by decide
theorem replace_any (l o q : List UInt8) (n m : Int) (w : World) (hl : l.length ≤ 1000) (ho : 1 ≤ o.length) (hq : q.length ≤ 1000) (hc : Lib.countB (S l) (S o) ≤ 1000) (hm : w.cell? ⟨1, 0, none⟩ = some (.int .i64 m)) : Calls Tryz.prog 171 #[.string (S l), .string (S o), .string (S q), .int .i64 n] w fun e w' => e = .returned (.string (S (Lib.replace l o q n))) ∧ Grow w w' := by
 have hmul : Lib.countB (S l) (S o) * (S q).size ≤ 1000 * 1000 := Nat.mul_le_mul hc (by rw [S_size]; exact hq)
 refine (Any.strings_Replace laysRepl replExtra (S l) (S o) (S q) n m w (by rw [S_size]; omega) hm (by rw [S_size]; omega) (by rw [S_size]; omega)).mono ?_
 rintro e w' ⟨rfl, hb⟩
 exact ⟨by rw [S_data, S_data, S_data]; rfl, hb⟩
end Go.Proofs.YtjkppaijicjpoaaGreatDoor
namespace Go.Proofs.YtjkppaijicjpoaaGreatDoor
open Go.RowKit
set_option linter.unusedVariables false
set_option linter.unusedSimpArgs false
set_option maxRecDepth 100000
set_option maxHeartbeats 2000000
set_option simprocs false
theorem itoaI_ (v : Int) (os : List (Nat × Obj)) (hM : ∀ w ks, Gl os w ks → ∃ m, w.cell? ⟨1, 0, none⟩ = some (.int .i64 m)) (hT : ∀ w ks, Gl os w ks → Lib.TabIs Tryz.prog w "internal/strconv.uint64pow10" .u64 Lib.pow10Tab) (h0 : -9223372036854775808 ≤ v) (h1 : v ≤ 9223372036854775807) : FnI (Gl os) Tryz.prog 86 [.int .i64 v] [] (Rt (.str (Lib.itoa v)) []) := fnI_grow (by kernel_rfl) rfl rfl fun w ks h => itoa_any v h0 h1 w (hT w ks h)
theorem replI_ (l q r : List UInt8) (n : Int) (os : List (Nat × Obj)) (hM : ∀ w ks, Gl os w ks → ∃ m, w.cell? ⟨1, 0, none⟩ = some (.int .i64 m)) (hT : ∀ w ks, Gl os w ks → Lib.TabIs Tryz.prog w "internal/strconv.uint64pow10" .u64 Lib.pow10Tab) (hl : l.length ≤ 1000) (ho : 1 ≤ q.length) (hq : r.length ≤ 1000) (hc : Lib.countB (S l) (S q) ≤ 1000) : FnI (Gl os) Tryz.prog 171 [.str l, .str q, .str r, .int .i64 n] [] (Rt (.str (Lib.replace l q r n)) []) := fnI_grow (by kernel_rfl) rfl rfl fun w ks h => by
 obtain ⟨m, hm⟩ := hM w ks h
 exact replace_any l q r n m w hl ho hq hc hm
def regnm0 (s0 s1 s2 s3 s4 s5 s6 s7 : List UInt8) (r : Int) : List UInt8 := if ((decide (r < 0)) || (decide (r ≥ 8))) = true then [] else [s0, s1, s2, s3, s4, s5, s6, s7].getD (r).toNat []
theorem regnm_ (s0 s1 s2 s3 s4 s5 s6 s7 : List UInt8) (r : Int)  : Fn Tryz.prog 100 [.agg [.str s0, .str s1, .str s2, .str s3, .str s4, .str s5, .str s6, .str s7], .int .i64 r] [] (Rt (.str (regnm0 s0 s1 s2 s3 s4 s5 s6 s7 r)) []) :=
 enterM (n := 14) (by kernel_rfl) Tryz.func100 rfl rfl rfl fun G w a h0 A => N9 17 A rfl rfl fun A => fork 10 A rfl
  (fun h1 A => N9 7 A rfl rfl fun A => R9 A rfl h0 rfl (by simp only [oneS, nb, nbL, nbH, regnm0, if_pos h1]) rfl)
  (fun h1 A => N9 12 A rfl (ok_d (by have hz := h1; simp only [Bool.or_eq_false_iff, decide_eq_false_iff_not] at hz; omega) <| ok_d (by have hz := h1; simp only [Bool.or_eq_false_iff, decide_eq_false_iff_not] at hz; omega) <| okE_nil) fun A => R9 A rfl h0 rfl (by simp only [oneS, nb, nbL, nbH, regnm0, if_neg (ne_true_of_eq_false h1)]) rfl)
def szK (sz : Int) : Nat := if sz = 1 then 0 else if sz = 2 then 1 else if sz = 4 then 2 else if sz = 8 then 3 else 4
def Lg.let (g : Lg) : List (List UInt8) := [g.l0, g.l1, g.l2, g.l3]
def nameR (g : Lg) (nm : List UInt8) (sz : Int) : List UInt8 := if szK sz < 4 then Lib.replace nm [42] (g.let.getD (szK sz) []) 1 else nm
structure NK (sz : Int) (k : Nat) : Prop where
 le : k ≤ 4
 ge : k ≤ szK sz
section
variable {g : Lg} {nm : List UInt8} {sz : Int} {k : Nat}
theorem szK_is (k : Nat) (hk : k < 4) (h : sz = IntKind.wrap .i64 (1 * 2 ^ min ((k : Int)).toNat (IntKind.bits .i64))) : szK sz = k := by
 have : k = 0 ∨ k = 1 ∨ k = 2 ∨ k = 3 := by omega
 rcases this with rfl | rfl | rfl | rfl <;> (subst h; decide)
theorem NK.i0 : NK sz 0 := ⟨by omega, by omega⟩
theorem NK.nx (hI : NK sz k) (h1 : (k : Int) < 4) (h : sz ≠ IntKind.wrap .i64 (1 * 2 ^ min ((k : Int)).toNat (IntKind.bits .i64))) : NK sz (k + 1) := by
 have hg := hI.ge
 refine ⟨by omega, ?_⟩
 rcases Nat.lt_or_ge k (szK sz) with h2 | h2
 ·exact h2
 ·exfalso
  have he : szK sz = k := by omega
  have : k = 0 ∨ k = 1 ∨ k = 2 ∨ k = 3 := by omega
  apply h
  unfold szK at he
  rcases this with rfl | rfl | rfl | rfl
  all_goals
   split at he
   ·next e => first | (rw [e]; decide) | omega
   ·split at he
    ·next e => first | (rw [e]; decide) | omega
    ·split at he
     ·next e => first | (rw [e]; decide) | omega
     ·split at he
      ·next e => first | (rw [e]; decide) | omega
      ·omega
theorem NK.hit (hI : NK sz k) (h1 : (k : Int) < 4) (h : sz = IntKind.wrap .i64 (1 * 2 ^ min ((k : Int)).toNat (IntKind.bits .i64))) : nameR g nm sz = Lib.replace nm [42] ([g.l0, g.l1, g.l2, g.l3].getD ((k : Int)).toNat []) 1 := by
 have e := szK_is (sz := sz) k (by omega) h
 unfold nameR
 rw [e, if_pos (by omega), Int.toNat_natCast]; rfl
theorem NK.fi (hI : NK sz k) (h1 : ¬ (k : Int) < 4) : nameR g nm sz = nm := by
 unfold nameR; have := hI.ge; rw [if_neg (by omega)]
end
theorem nameOf_ (g : Lg) (L : List Rw) (c : Nat) (r : Rw) (sz : Int) (os : List (Nat × Obj)) (hM : ∀ w ks, Gl os w ks → ∃ m, w.cell? ⟨1, 0, none⟩ = some (.int .i64 m)) (hT : ∀ w ks, Gl os w ks → Lib.TabIs Tryz.prog w "internal/strconv.uint64pow10" .u64 Lib.pow10Tab) (hnm : r.nm.length ≤ 1000 ∧ Lib.countB (S r.nm) (S [42]) ≤ 1000) (hlet : ∀ k, ([g.l0, g.l1, g.l2, g.l3].getD k []).length ≤ 1000) : FnI (Gl os) Tryz.prog 137 [.agg [.str g.r0, .str g.r1, .str g.r2, .str g.r3, .str g.r4, .str g.r5, .str g.r6, .str g.r7, .str g.l0, .str g.l1, .str g.l2, .str g.l3, .str g.im, .str g.f0, .str g.f1, .str g.f2, .sl 0 L.length c], .agg (rwQ9 r), .int .i64 sz] [some (lQ9 L)] (Rt (.str (nameR g r.nm sz)) [some (lQ9 L)]) :=
 enterI (n := 26) (by kernel_rfl) Tryz.func137 rfl rfl rfl fun G w a h0 hI A => N9 16 A rfl rfl fun A => LOOP1 (fun (k : Nat) => [(2, .int .i64 sz), (4, .ptr 2 0), (6, .str []), (10, .agg [.str g.l0, .str g.l1, .str g.l2, .str g.l3]), (11, .int .i64 (k : Int))]) (fun (k : Nat) => [some (lQ9 L), some (.blk [.str g.r0, .str g.r1, .str g.r2, .str g.r3, .str g.r4, .str g.r5, .str g.r6, .str g.r7, .str g.l0, .str g.l1, .str g.l2, .str g.l3, .str g.im, .str g.f0, .str g.f1, .str g.f2, .sl 0 L.length c]), some (.blk (rwQ9 r))]) (fun (k : Nat) => NK sz k) (fun (k : Nat) => 4 - k) 0 NK.i0 ((A.cut [2, 4, 6, 10, 11] rfl).trunc 3 rfl rfl rfl (by simp only [List.length_cons, List.length_nil] at h0; omega)) fun k hI2 {G a w} A => N9 6 A rfl rfl fun A => forkD 12 A rfl
   (fun h1 A => N9 14 A rfl (ok_d (by have := hI2.le; omega) <| okE_nil) fun A => N9 7 A rfl (ok_d (by have := hI2.le; omega) <| okE_nil) fun A => forkE 18 A rfl
    (fun h2 A => N9 6 A rfl rfl fun A => I9 [] Gl.ok hI (replI_ r.nm [42] ([g.l0, g.l1, g.l2, g.l3].getD ((k : Int)).toNat []) 1 os hM hT hnm.1 (by decide) (hlet _) hnm.2) A rfl fun A => N9 4 A rfl rfl fun A => R9 A rfl h0 rfl (by rw [hI2.hit h1 h2]; rfl) rfl)
    (fun h2 A => N9 8 A rfl (ok_d (by have := hI2.le; omega) <| okE_nil) fun A => ⟨k + 1, _, (by omega), (hI2.nx h1 h2), ((A.cut [2, 4, 6, 10, 11] rfl).trunc 3 rfl rfl rfl (by simp only [List.length_cons, List.length_nil] at h0; omega))⟩))
   (fun h1 A => N9 11 A rfl rfl fun A => R9 A rfl h0 rfl (by rw [hI2.fi h1]; rfl) rfl)
theorem locs_   : Fn Tryz.prog 204 [] [] (Rt (.sl 0 3 3) [some (.blk [.str [120], .str [121], .str [122]])]) :=
 enterM (n := 2) (by kernel_rfl) Tryz.func204 rfl rfl rfl fun G w a h0 A => N9 12 A rfl rfl fun A => RET hX [0] A ⟨rfl, rfl⟩ rfl rfl rfl rfl rfl rfl rfl rfl h0
def memA (i : In) : List UInt8 := [91] ++ ([[120], [121], [122]].getD (i.loc).toNat [])
def memB (i : In) : List UInt8 := if i.off ≠ 0 then memA i ++ ([43] ++ Lib.itoa i.off) else memA i
def memT (g : Lg) (i : In) : List UInt8 := (if i.ix ≠ -1 then memB i ++ ([43] ++ regnm0 g.r0 g.r1 g.r2 g.r3 g.r4 g.r5 g.r6 g.r7 i.ix) else memB i) ++ [93]
def opdT (g : Lg) (r : Rw) (p : Int) (i : In) (lb : List UInt8) : List UInt8 :=
 if (regP p i).2 = true then regnm0 g.r0 g.r1 g.r2 g.r3 g.r4 g.r5 g.r6 g.r7 (regP p i).1 else
 if p = 5 then g.im ++ Lib.itoa i.imm else
 if p = 6 then memT g i else
 if p = 8 then [g.f0, g.f1, g.f2].getD (i.pred - 1).toNat [] else
 if p = 9 then [g.f0, g.f1, g.f2].getD (i.succ - 1).toNat [] else
 if p = 10 then r.wd else lb
structure LgOK (g : Lg) : Prop where
 rg : ∀ r, (regnm0 g.r0 g.r1 g.r2 g.r3 g.r4 g.r5 g.r6 g.r7 r).length ≤ 1000
 im : g.im.length ≤ 1000
structure InOK (i : In) : Prop where
 lc : 0 ≤ i.loc ∧ i.loc < 3
 of_ : -9223372036854775808 ≤ i.off ∧ i.off ≤ 9223372036854775807
theorem loc_le (g : Int) (h : 0 ≤ g ∧ g < 3) : ([[120], [121], [122]].getD (g).toNat ([] : List UInt8)).length ≤ 1 := by
 have : (g).toNat = 0 ∨ (g).toNat = 1 ∨ (g).toNat = 2 := by omega
 rcases this with e | e | e <;> rw [e] <;> decide
theorem lmem_ (g : Lg) (L : List Rw) (c : Nat) (i : In) (os : List (Nat × Obj)) (hM : ∀ w ks, Gl os w ks → ∃ m, w.cell? ⟨1, 0, none⟩ = some (.int .i64 m)) (hT : ∀ w ks, Gl os w ks → Lib.TabIs Tryz.prog w "internal/strconv.uint64pow10" .u64 Lib.pow10Tab) (hg : LgOK g) (hi : InOK i) : FnI (Gl os) Tryz.prog 173 [.agg [.str g.r0, .str g.r1, .str g.r2, .str g.r3, .str g.r4, .str g.r5, .str g.r6, .str g.r7, .str g.l0, .str g.l1, .str g.l2, .str g.l3, .str g.im, .str g.f0, .str g.f1, .str g.f2, .sl 0 L.length c], .agg (inQ9 i)] [some (lQ9 L)] (Rt (.str (memT g i)) [some (lQ9 L)]) :=
 enterI (n := 34) (by kernel_rfl) Tryz.func173 rfl rfl rfl fun G w a h0 hI A => N9 8 A rfl rfl fun A => DRAWN hX hmo [] [(0, .sl 3 3 3, [some (lQ9 L), some (.blk [.str g.r0, .str g.r1, .str g.r2, .str g.r3, .str g.r4, .str g.r5, .str g.r6, .str g.r7, .str g.l0, .str g.l1, .str g.l2, .str g.l3, .str g.im, .str g.f0, .str g.f1, .str g.f2, .sl 0 L.length c]), some (.blk (inQ9 i)), some (.blk [.str [120], .str [121], .str [122]])])] A rfl (ok_d (by have q1 := hi.lc; have q2 := hi.of_; omega) <| ok_d (by have q1 := hi.lc; have q2 := hi.of_; omega) <| ok_d (by have q1 := hg.rg i.ix; have q2 := Lib.itoa_length_le i.off hi.of_.1 hi.of_.2; have q3 := loc_le i.loc hi.lc; (try simp only [List.length_append, List.length_cons, List.length_nil]); omega) <| okE_nil) rfl rfl (by kernel_rfl) ⟨callE [] locs_ rfl rfl rfl rfl rfl rfl rfl, trivial⟩ trivial fun A => N9 9 A rfl rfl fun A => forkN 14 A rfl
  (fun h1 A => N9 5 A rfl rfl fun A => I9 [] Gl.ok hI (itoaI_ i.off os hM hT (by have q1 := hi.lc; have q2 := hi.of_; omega) (by have q1 := hi.lc; have q2 := hi.of_; omega)) A rfl fun A => N9 7 A rfl (ok_d (by have q1 := hg.rg i.ix; have q2 := Lib.itoa_length_le i.off hi.of_.1 hi.of_.2; have q3 := loc_le i.loc hi.lc; (try simp only [List.length_append, List.length_cons, List.length_nil]); omega) <| ok_d (by have q1 := hg.rg i.ix; have q2 := Lib.itoa_length_le i.off hi.of_.1 hi.of_.2; have q3 := loc_le i.loc hi.lc; (try simp only [List.length_append, List.length_cons, List.length_nil]); omega) <| okE_nil) fun A => N9 6 A rfl rfl fun A => forkN 23 A rfl
   (fun h2 A => N9 7 A rfl rfl fun A => C9 [] (regnm_ g.r0 g.r1 g.r2 g.r3 g.r4 g.r5 g.r6 g.r7 i.ix) A rfl fun A => N9 6 A rfl (ok_d (by have q1 := hg.rg i.ix; have q2 := Lib.itoa_length_le i.off hi.of_.1 hi.of_.2; have q3 := loc_le i.loc hi.lc; (try simp only [List.length_append, List.length_cons, List.length_nil]); omega) <| ok_d (by have q1 := hg.rg i.ix; have q2 := Lib.itoa_length_le i.off hi.of_.1 hi.of_.2; have q3 := loc_le i.loc hi.lc; (try simp only [List.length_append, List.length_cons, List.length_nil]); omega) <| okE_nil) fun A => N9 7 A rfl (ok_d (by have q1 := hg.rg i.ix; have q2 := Lib.itoa_length_le i.off hi.of_.1 hi.of_.2; have q3 := loc_le i.loc hi.lc; (try simp only [List.length_append, List.length_cons, List.length_nil]); omega) <| okE_nil) fun A => R9 A rfl h0 rfl (by unfold memT memB; rw [if_pos h2, if_pos h1]; rfl) rfl)
   (fun h2 A => N9 11 A rfl (ok_d (by have q1 := hg.rg i.ix; have q2 := Lib.itoa_length_le i.off hi.of_.1 hi.of_.2; have q3 := loc_le i.loc hi.lc; (try simp only [List.length_append, List.length_cons, List.length_nil]); omega) <| okE_nil) fun A => R9 A rfl h0 rfl (by unfold memT memB; rw [if_neg (fun z => z h2), if_pos h1]; rfl) rfl))
  (fun h1 A => N9 11 A rfl rfl fun A => forkN 23 A rfl
   (fun h3 A => N9 7 A rfl rfl fun A => C9 [] (regnm_ g.r0 g.r1 g.r2 g.r3 g.r4 g.r5 g.r6 g.r7 i.ix) A rfl fun A => N9 6 A rfl (ok_d (by have q1 := hg.rg i.ix; have q2 := Lib.itoa_length_le i.off hi.of_.1 hi.of_.2; have q3 := loc_le i.loc hi.lc; (try simp only [List.length_append, List.length_cons, List.length_nil]); omega) <| ok_d (by have q1 := hg.rg i.ix; have q2 := Lib.itoa_length_le i.off hi.of_.1 hi.of_.2; have q3 := loc_le i.loc hi.lc; (try simp only [List.length_append, List.length_cons, List.length_nil]); omega) <| okE_nil) fun A => N9 7 A rfl (ok_d (by have q1 := hg.rg i.ix; have q2 := Lib.itoa_length_le i.off hi.of_.1 hi.of_.2; have q3 := loc_le i.loc hi.lc; (try simp only [List.length_append, List.length_cons, List.length_nil]); omega) <| okE_nil) fun A => R9 A rfl h0 rfl (by unfold memT memB; rw [if_pos h3, if_neg (fun z => z h1)]; rfl) rfl)
   (fun h3 A => N9 11 A rfl (ok_d (by have q1 := hg.rg i.ix; have q2 := Lib.itoa_length_le i.off hi.of_.1 hi.of_.2; have q3 := loc_le i.loc hi.lc; (try simp only [List.length_append, List.length_cons, List.length_nil]); omega) <| okE_nil) fun A => R9 A rfl h0 rfl (by unfold memT memB; rw [if_neg (fun z => z h3), if_neg (fun z => z h1)]; rfl) rfl))
theorem opd_ (g : Lg) (L : List Rw) (c : Nat) (r : Rw) (p : Int) (i : In) (lb : List UInt8) (os : List (Nat × Obj)) (hM : ∀ w ks, Gl os w ks → ∃ m, w.cell? ⟨1, 0, none⟩ = some (.int .i64 m)) (hT : ∀ w ks, Gl os w ks → Lib.TabIs Tryz.prog w "internal/strconv.uint64pow10" .u64 Lib.pow10Tab) (hg : LgOK g) (hv : -9223372036854775808 ≤ i.imm ∧ i.imm ≤ 9223372036854775807) (hi6 : p = 6 → InOK i) (hi8 : p = 8 → 1 ≤ i.pred ∧ i.pred ≤ 3) (hi9 : p = 9 → 1 ≤ i.succ ∧ i.succ ≤ 3) : FnI (Gl os) Tryz.prog 138 [.agg [.str g.r0, .str g.r1, .str g.r2, .str g.r3, .str g.r4, .str g.r5, .str g.r6, .str g.r7, .str g.l0, .str g.l1, .str g.l2, .str g.l3, .str g.im, .str g.f0, .str g.f1, .str g.f2, .sl 0 L.length c], .agg (rwQ9 r), .int .i64 p, .agg (inQ9 i), .str lb] [some (lQ9 L)] (Rt (.str (opdT g r p i lb)) [some (lQ9 L)]) :=
 enterI (n := 59) (by kernel_rfl) Tryz.func138 rfl rfl rfl fun G w a h0 hI A => N9 13 A rfl rfl fun A => C9 [] (preg_ p i) A rfl fun A => N9 12 A rfl rfl fun A => fork 19 A rfl
  (fun h1 A => N9 6 A rfl rfl fun A => C9 [] (regnm_ g.r0 g.r1 g.r2 g.r3 g.r4 g.r5 g.r6 g.r7 ((regP p i).1)) A rfl fun A => N9 4 A rfl rfl fun A => R9 A rfl h0 rfl (by unfold opdT; rw [if_pos h1]; rfl) rfl)
  (fun h1 A => N9 16 A rfl rfl fun A => forkE 25 A rfl
   (fun h2 A => N9 2 A rfl rfl fun A => ANY hmo [.ptr 1 12, .str g.im, .ptr 3 4, .int .i64 i.imm, .str (Lib.itoa i.imm), .str (g.im ++ (Lib.itoa i.imm)), .str (g.im ++ (Lib.itoa i.imm))] [] [] 0 [([], [], [some (lQ9 L), some (.blk [.str g.r0, .str g.r1, .str g.r2, .str g.r3, .str g.r4, .str g.r5, .str g.r6, .str g.r7, .str g.l0, .str g.l1, .str g.l2, .str g.l3, .str g.im, .str g.f0, .str g.f1, .str g.f2, .sl 0 L.length c]), some (.blk (rwQ9 r)), some (.blk (inQ9 i))])] [[true, true, true, true, true, true, true]] A rfl rfl rfl rfl (by kernel_rfl) rfl (by kernel_rfl) ⟨⟨oV9 0 rfl rfl, ⟨oV9 0 rfl rfl, ⟨oV9 0 rfl rfl, ⟨oV9 0 rfl rfl, ⟨oE9 0 rfl (callIE [] Gl.ok hI (itoaI_ i.imm os hM hT (by have q0 := hv; omega) (by have q0 := hv; omega)) rfl rfl rfl rfl rfl rfl rfl), ⟨oV9 0 rfl (ok_d (by have q0 := hv; have q1 := hg.im; have q2 := Lib.itoa_length_le i.imm hv.1 hv.2; (try simp only [List.length_append, List.length_cons, List.length_nil]); omega) <| okE_nil), ⟨oV9 0 rfl rfl, trivial⟩⟩⟩⟩⟩⟩⟩, trivial⟩ fun A => N9 2 A rfl rfl fun A => R9 A rfl h0 rfl (by unfold opdT; rw [if_neg (by rw [h1]; decide), if_pos h2]; rfl) rfl)
   (fun h2 A => N9 7 A rfl rfl fun A => forkE 33 A rfl
    (fun h3 A => N9 5 A rfl rfl fun A => I9 [0] Gl.ok hI (lmem_ g L c i os hM hT hg (hi6 h3)) A rfl fun A => N9 4 A rfl rfl fun A => R9 A rfl h0 rfl (by unfold opdT; rw [if_neg (by rw [h1]; decide), if_neg h2, if_pos h3]; rfl) rfl)
    (fun h3 A => N9 7 A rfl rfl fun A => forkE 38 A rfl
     (fun h4 A => N9 13 A rfl (ok_d (by have q0 := hv; have q8 := hi8 h4; omega) <| ok_d (by have q0 := hv; have q8 := hi8 h4; omega) <| ok_d (by have q0 := hv; have q8 := hi8 h4; omega) <| okE_nil) fun A => R9 A rfl h0 rfl (by unfold opdT; rw [if_neg (by rw [h1]; decide), if_neg h2, if_neg h3, if_pos h4]; rfl) rfl)
     (fun h4 A => N9 7 A rfl rfl fun A => forkE 46 A rfl
      (fun h5 A => N9 13 A rfl (ok_d (by have q0 := hv; have q9 := hi9 h5; omega) <| ok_d (by have q0 := hv; have q9 := hi9 h5; omega) <| ok_d (by have q0 := hv; have q9 := hi9 h5; omega) <| okE_nil) fun A => R9 A rfl h0 rfl (by unfold opdT; rw [if_neg (by rw [h1]; decide), if_neg h2, if_neg h3, if_neg h4, if_pos h5]; rfl) rfl)
      (fun h5 A => N9 7 A rfl rfl fun A => forkE 54 A rfl
       (fun h6 A => N9 9 A rfl rfl fun A => R9 A rfl h0 rfl (by unfold opdT; rw [if_neg (by rw [h1]; decide), if_neg h2, if_neg h3, if_neg h4, if_neg h5, if_pos h6]; rfl) rfl)
       (fun h6 A => N9 11 A rfl rfl fun A => R9 A rfl h0 rfl (by unfold opdT; rw [if_neg (by rw [h1]; decide), if_neg h2, if_neg h3, if_neg h4, if_neg h5, if_neg h6]; rfl) rfl))))))
structure Ps where (ins : In) (lab : List UInt8) (e a : Int) (p : Nat)
def Ps.as (s : Ps) : As := ⟨s.p, s.e, s.a⟩
def Ps.wa (s : Ps) (t : As) : Ps := ⟨s.ins, s.lab, t.e, t.a, t.p⟩
def idxS (ls : List (List UInt8)) (q : List UInt8) : Int := match (List.range ls.length).find? (fun j => q == ls.getD j []) with | some j => (j : Int) | none => -1
section
variable {ls : List (List UInt8)} {q : List UInt8} {k : Nat}
end
def knI (ws : List Tk) (s : As) (ls : List (List UInt8)) : Int := if (ws.getD s.p tok0).kind = 1 then (if idxS ls (ws.getD s.p tok0).text < 0 then -1 else idxS ls (ws.getD s.p tok0).text) else -1
def knA (ws : List Tk) (s : As) (ls : List (List UInt8)) : As := if (ws.getD s.p tok0).kind = 1 then (if idxS ls (ws.getD s.p tok0).text < 0 then refA ws s 21 else goA s (nxK ws s.p)) else refA ws s 22
section
variable {ws : List Tk} {s : As} {ls : List (List UInt8)}
end
def immA (g : Lg) (ws : List Tk) (s : As) : As := if g.im = [] then numA ws s else numA ws (mkA ws s g.im)
def immV (g : Lg) (ws : List Tk) (s : As) : Int := if g.im = [] then nbV ws s.p else nbV ws (mkA ws s g.im).p
structure Cn where (k t r l v : Int)
def Cn.z : Cn := ⟨0, 0, 0, 0, 0⟩
def cc (c : Cn) : List SV := [.int .i64 c.k, .int .i64 c.t, .int .i64 c.r, .int .i64 c.l, .int .i64 c.v]
def setF (k : Int) (wf : Nat → Int) : Nat → List Cn → Nat × List Cn
 | 0, ns => (0, ns)
 | n + 1, ns => if wf n ≤ k then setF k wf n (ns ++ [⟨wf n, 0, 0, 0, 0⟩]) else (n + 1, ns)
section
variable {k : Int} {wf : Nat → Int} {m : Nat} {ns cur : List Cn} {j : Nat}
end
end Go.Proofs.YtjkppaijicjpoaaGreatDoor
namespace Go.Proofs.YtjkppaijicjpoaaGreatDoor.Mc
open Go.RowKit
set_option linter.unusedVariables false
set_option linter.unusedSimpArgs false
set_option maxRecDepth 100000
set_option maxHeartbeats 2000000
set_option simprocs false
abbrev _root_.Go.Proofs.YtjkppaijicjpoaaGreatDoor.tsQ9 (ar : Int) (nm : List UInt8) (mi r : Nat → Int) (c : SV) (q : Int) (k : SV) : List SV := [.int .i64 ar, .str nm, .int .i64 (mi 0), .int .i64 (mi 1), .int .i64 (mi 2), .int .i64 (r 0), .int .i64 (r 1), .int .i64 (r 2), .int .i64 (r 3), .int .i64 (r 4), .int .i64 (r 5), .int .i64 (r 6), .int .i64 (r 7), .int .i64 (r 8), .int .i64 (r 9), .int .i64 (r 10), .int .i64 (r 11), .int .i64 (r 12), .int .i64 (r 13), .int .i64 (r 14), .int .i64 (r 15), .int .i64 (r 16), .int .i64 (r 17), .int .i64 (r 18), .int .i64 (r 19), .int .i64 (r 20), .int .i64 (r 21), .int .i64 (r 22), .int .i64 (r 23), c, .int .i64 q, k]
abbrev _root_.Go.Proofs.YtjkppaijicjpoaaGreatDoor.tpQ9 (ar : Int) (nm : List UInt8) (mi r : Nat → Int) : List SV := [.int .i64 ar, .str nm, .int .i64 (mi 0), .int .i64 (mi 1), .int .i64 (mi 2), .int .i64 (r 0), .int .i64 (r 1), .int .i64 (r 2), .int .i64 (r 3), .int .i64 (r 4), .int .i64 (r 5), .int .i64 (r 6), .int .i64 (r 7), .int .i64 (r 8), .int .i64 (r 9), .int .i64 (r 10), .int .i64 (r 11), .int .i64 (r 12), .int .i64 (r 13), .int .i64 (r 14), .int .i64 (r 15), .int .i64 (r 16), .int .i64 (r 17), .int .i64 (r 18), .int .i64 (r 19), .int .i64 (r 20), .int .i64 (r 21), .int .i64 (r 22), .int .i64 (r 23)]
def TwJ (cs : List Cde) (kd : List Cn) (ar : Int) (nm : List UInt8) (mi r : Nat → Int) (qu : Int) : SV → World → World → Prop := fun x w w' => ∃ (ao1 ao2 : Option Addr) (cp1 cp2 : Nat) (cs' : List Cde), x = .agg (tsQ9 ar nm mi r (.sla ao1 cs.length cp1) qu (.sla ao2 kd.length cp2)) ∧ cs'.length = cs.length ∧ (∀ k, k < cs.length → (cs'.getD k Cde.z).l = (cs.getD k Cde.z).l) ∧ ∀ ks, (∀ b, ks.contains b = true → b < w.heap.size) → LstAt ao1 1 cs.length (fun zz => cdc (cs'.getD zz Cde.z)) w' ks ∧ CodesAt cs' w' ks
theorem lst_old {ao : Option Addr} {s n N : Nat} {f : Nat → List SV} {w : World} {ks : List Nat} (h : LstAt ao s n f w ks) (hf : ∀ q : Addr, ao = some q → N ≤ q.block) {ks' : List Nat} (hk : ∀ b, ks'.contains b = true → b < N) : LstAt ao s n f w ks' := by
 refine ⟨h.1, ?_⟩
 rcases h.2 with h | ⟨b, o, e1, e2, e3, e4⟩
 ·exact .inl h
 ·refine .inr ⟨b, o, e1, e2, ?_, e4⟩
  cases hq : ks'.contains b with
  | false => rfl
  | true => have h1 := hk b hq; have h2 : N ≤ b := hf _ e1; omega
theorem twJ_of {cs : List Cde} {kd : List Cn} {ar : Int} {nm : List UInt8} {mi r : Nat → Int} {qu : Int} {z : List Cde × Nat} {w w' : World} {ks ks1 : List Nat} {ao1 ao2 : Option Addr} {cp1 cp2 : Nat} (hrc : ∀ c ∈ cs, RCd c.l) (hz : NJ cs w.heap.size z w' ks) (hz2 : z.2 = cs.length) (hl : LstAt ao1 1 z.2 (fun zz => cdc (z.1.getD zz Cde.z)) w' ks1) (hf : ∀ q : Addr, ao1 = some q → w.heap.size ≤ q.block) : TwJ cs kd ar nm mi r qu (.agg (tsQ9 ar nm mi r (.sla ao1 z.2 cp1) qu (.sla ao2 kd.length cp2))) w w' := by
 have hm := hz.m
 refine ⟨ao1, ao2, cp1, cp2, z.1, by rw [hz2], by omega, fun k hk => hz.eq k (by omega), fun ks' hk => ⟨by rw [← hz2]; exact lst_old hl hf hk, fun c hc => lst_old (hz.at_ c hc).1 (hz.at_ c hc).2 hk⟩⟩
theorem hfrB {n : Nat} {T : List (Nat × SV)} {H : Hp} {G0 : Gr} {w0 : World} {G : Gr} {a : Act} {w : World} (B : Sy n T H [] G0 w0 G a w) {ao : Option Addr} (h : ∀ q : Addr, ao = some q → (keys H G).contains q.block = true ∨ w.heap.size ≤ q.block) : ∀ q : Addr, ao = some q → w0.heap.size ≤ q.block := fun q hq => (h q hq).elim (fun h => (B.keys_own _ h).elim (fun h => by cases h) id) (fun h => Nat.le_trans B.mix.size h)
abbrev zT8 : List SV := [.z9, .str [], .z9, .z9, .z9, .z9, .z9, .z9, .z9, .z9, .z9, .z9, .z9, .z9, .z9, .z9, .z9, .z9, .z9, .z9, .z9, .z9, .z9, .z9, .z9, .z9, .z9, .z9, .z9, .sla none 0 0, .z9, .sla none 0 0]
abbrev _root_.Go.Proofs.YtjkppaijicjpoaaGreatDoor.cnL9 (kd : List Cn) : Ent := .lst 5 kd.length (fun zz => cc (kd.getD zz Cn.z))
theorem twin_ (cs : List Cde) (cx : Nat) (kd : List Cn) (ck : Nat) (ar : Int) (nm : List UInt8) (mi r : Nat → Int) (qu : Int) (hck : ckE cs = 0) (hk : kd.length ≤ 1000000) : FnW Tryz.prog 9 [.agg (tsQ9 ar nm mi r (.sl 0 cs.length cx) qu (.sl 1 kd.length ck))] [some (cdL9 cs), some (cnL9 kd)] [] (fun w => CodesAt cs w []) (TwJ cs kd ar nm mi r qu) :=
 enterW (n := 32) (by kernel_rfl) Tryz.func9 rfl rfl rfl (fun i e h => by match i, h with | 0, h => cases h; rfl | 1, h => cases h; rfl | i + 2, h => cases h) fun G w a h0 ho hp A => have hrc := rcd_of hck; N9 26 A rfl rfl fun A => NILP 4 38 1 (fun zz => cdc (([] : List Cde).getD zz Cde.z)) (tpQ9 ar nm mi r) [.int .i64 qu, .sl 1 kd.length ck] A rfl (fun z => ⟨_, rfl, rfl⟩) rfl fun A => LOOPJ (fun (z : List Cde × Nat) => [(1, .ptr 2 0), (2, .ptr 3 0), (3, .ptr 4 0), (4, .int .i64 ((z.2 : Nat) : Int))]) (fun (z : List Cde × Nat) => [some (cdL9 cs), some (cnL9 kd), some (.blk (tsQ9 ar nm mi r (.sl 0 cs.length cx) qu (.sl 1 kd.length ck))), some (.blk zT8), some (.blk (tsQ9 ar nm mi r (.sl 5 z.2 0) qu (.sl 1 kd.length ck))), some (.row 38 1 z.2 0 (fun zz => cdc (z.1.getD zz Cde.z)))]) (fun z w' ks => NJ cs w.heap.size z w' ks) (fun z => cs.length - z.2) ([], 0) ((A.cut [1, 2, 3, 4] rfl).mv 2 [2, 3, 4, 5] rfl rfl rfl rfl h0.symm) NJ.i0 fun z G a w hz hGl A B => have h00 := h0; have B0 := B; have h0 := B.mem.len; N9 10 A rfl rfl fun A => forkD 11 A rfl
   (fun h1 A => N9 5 A rfl rfl fun A => have hlt : z.2 < cs.length := (by omega); have hcd := (CodesAt.ok.now B hp).at hlt; have A := A.cut [1, 2, 3, 4] rfl; ANYP 10 8 hmo [.ptr 4 29, .sl 5 z.2 0, .sl 6 0 0, .ptr 2 29, .sl 0 cs.length cx, .int .i64 ((z.2 : Nat) : Int), .el 0 1 ((z.2 : Nat) : Int) 0, .sla ((cs.getD ((((z.2 : Nat) : Int)).toNat) Cde.z).ao) ((cs.getD ((((z.2 : Nat) : Int)).toNat) Cde.z).l.length) ((cs.getD ((((z.2 : Nat) : Int)).toNat) Cde.z).cp), .sl 7 ((cs.getD ((((z.2 : Nat) : Int)).toNat) Cde.z).l.length) 0, .sl 8 1 1, .tup [], .tup [], .tup []] [2, 8, 9] [6, 7, 8] 3 [([], [6, 7, 8], [some (cdL9 cs), some (cnL9 kd), some (.blk (tsQ9 ar nm mi r (.sl 0 cs.length cx) qu (.sl 1 kd.length ck))), some (.blk zT8), some (.blk (tsQ9 ar nm mi r (.sl 5 z.2 0) qu (.sl 1 kd.length ck))), some (.row 38 1 z.2 0 (fun zz => cdc (z.1.getD zz Cde.z))), none, none, none]), ([2], [7, 8], [some (cdL9 cs), some (cnL9 kd), some (.blk (tsQ9 ar nm mi r (.sl 0 cs.length cx) qu (.sl 1 kd.length ck))), some (.blk zT8), some (.blk (tsQ9 ar nm mi r (.sl 5 z.2 0) qu (.sl 1 kd.length ck))), some (.row 38 1 z.2 0 (fun zz => cdc (z.1.getD zz Cde.z))), some (.row 56 17 0 0 (fun _ => [.z9, .z9, .z9, .z9, .z9, .z9, .z9, .z9, .z9, .z9, .ff, .ff, .ff, .z9, .z9, .z9, .ff])), none, none]), ([2, 8], [8], [some (cdL9 cs), some (cnL9 kd), some (.blk (tsQ9 ar nm mi r (.sl 0 cs.length cx) qu (.sl 1 kd.length ck))), some (.blk zT8), some (.blk (tsQ9 ar nm mi r (.sl 5 z.2 0) qu (.sl 1 kd.length ck))), some (.row 38 1 z.2 0 (fun zz => cdc (z.1.getD zz Cde.z))), none, some (.row 56 17 ((cs.getD ((((z.2 : Nat) : Int)).toNat) Cde.z).l.length) 0 (fun zz => insS ((cs.getD ((((z.2 : Nat) : Int)).toNat) Cde.z).l.getD zz In.z))), none]), ([2, 8, 9], [], [some (cdL9 cs), some (cnL9 kd), some (.blk (tsQ9 ar nm mi r (.sl 0 cs.length cx) qu (.sl 1 kd.length ck))), some (.blk zT8), some (.blk (tsQ9 ar nm mi r (.sl 5 z.2 0) qu (.sl 1 kd.length ck))), some (.row 38 1 z.2 0 (fun zz => cdc (z.1.getD zz Cde.z))), none, some (.row 56 17 ((cs.getD ((((z.2 : Nat) : Int)).toNat) Cde.z).l.length) 0 (fun zz => insS ((cs.getD ((((z.2 : Nat) : Int)).toNat) Cde.z).l.getD zz In.z))), some (.blk [.sl 7 ((cs.getD ((((z.2 : Nat) : Int)).toNat) Cde.z).l.length) 0])])] [[true, true, true, true, true, true, true, true, false, false], [true, true, false, true, true, true, true, true, true, false], [true, true, false, true, true, true, true, false, false, true], [true, true, false, true, true, true, true, false, false, false]] A rfl rfl rfl rfl (by kernel_rfl) rfl (by kernel_rfl) rfl (by kernel_rfl) (by kernel_rfl) ⟨⟨oV9 0 rfl rfl, ⟨oV9 0 rfl rfl, ⟨⟨_, _, _, _, 1, rfl, rfl, rfl, rfl, new_at 6 (X := ⟨_, true⟩) hX rfl rfl (le0 h0 rfl) rfl rfl rfl rfl⟩, ⟨oV9 0 rfl rfl, ⟨oV9 0 rfl rfl, ⟨oV9 0 rfl rfl, ⟨oV9 0 rfl (ok_d (by have := hz.le; omega) <| okE_nil), ⟨oV9 0 rfl (ok_d (by have := hz.le; omega) <| okE_nil), trivial⟩⟩⟩⟩⟩⟩⟩⟩, ⟨⟨oV9 1 rfl rfl, ⟨oV9 1 rfl rfl, ⟨oV9 1 rfl rfl, ⟨oV9 1 rfl rfl, ⟨oV9 1 rfl rfl, ⟨oV9 1 rfl (ok_d (by have := hz.le; omega) <| okE_nil), ⟨oV9 1 rfl (ok_d (by have := hz.le; omega) <| okE_nil), ⟨⟨_, _, _, _, 2, rfl, rfl, rfl, rfl, put_at 7 (apaE hX rfl rfl rfl rfl rfl rfl rfl rfl hcd (Nat.le_trans (rcAt hrc.2 hlt).n (by decide)) (fun z => ⟨_, rfl, rfl⟩) (fun k hk => ⟨_, rfl, okE_nil⟩)) rfl rfl (le0 h0 rfl) rfl rfl rfl rfl⟩, trivial⟩⟩⟩⟩⟩⟩⟩⟩, ⟨⟨oV9 2 rfl rfl, ⟨oV9 2 rfl rfl, ⟨oV9 2 rfl rfl, ⟨oV9 2 rfl rfl, ⟨oV9 2 rfl rfl, ⟨oV9 2 rfl (ok_d (by have := hz.le; omega) <| okE_nil), ⟨⟨_, _, _, _, 3, rfl, rfl, rfl, rfl, new_at 8 (X := ⟨_, true⟩) hX rfl rfl (le0 h0 rfl) rfl rfl rfl rfl⟩, trivial⟩⟩⟩⟩⟩⟩⟩, ⟨⟨oV9 3 rfl rfl, ⟨oV9 3 rfl rfl, ⟨oV9 3 rfl rfl, ⟨oV9 3 rfl rfl, ⟨oV9 3 rfl rfl, ⟨oV9 3 rfl (ok_d (by have := hz.le; omega) <| okE_nil), trivial⟩⟩⟩⟩⟩⟩, trivial⟩⟩⟩⟩ fun fuel listed {_ _ _} hls hfu A => anyfuel (k := 3) hls hfu fun f => LAYR 7 8 (fun ao' cp' => [some (cdL9 cs), some (cnL9 kd), some (.blk (tsQ9 ar nm mi r (.sl 0 cs.length cx) qu (.sl 1 kd.length ck))), some (.blk zT8), some (.blk (tsQ9 ar nm mi r (.sl 5 z.2 0) qu (.sl 1 kd.length ck))), some (.row 38 1 z.2 0 (fun zz => cdc (z.1.getD zz Cde.z))), none, none, some (.blk [.sla ao' ((cs.getD ((((z.2 : Nat) : Int)).toNat) Cde.z).l.length) cp'])]) A rfl rfl rfl (fun _ _ => rfl) fun ao' cp' A hl hfr => have hz := NJ.ok.now A hz; have hfr : ∀ q : Addr, ao' = some q → _ ≤ q.block := fun q hq => (hfr q hq).elim (fun h => (B.keys_own _ h).elim (fun h => by cases h) id) (fun h => Nat.le_trans B.mix.size h); have B := B.trans A; have A := B.base; have h0 := B.mem.len; any_at (rs := [10]) (by kernel_rfl) (by decide) (fc9 ⟨any_eff (x := .sl 9 (z.2 + 1) 0) (H' := [some (cdL9 cs), some (cnL9 kd), some (.blk (tsQ9 ar nm mi r (.sl 0 cs.length cx) qu (.sl 1 kd.length ck))), some (.blk zT8), some (.blk (tsQ9 ar nm mi r (.sl 5 z.2 0) qu (.sl 1 kd.length ck))), none, none, none, some (.blk [.sla ao' ((cs.getD ((((z.2 : Nat) : Int)).toNat) Cde.z).l.length) cp']), some (.row 38 1 (z.2 + 1) 0 (fun zz => cdc ((z.1 ++ [(⟨ao', (cs.getD (((z.2 : Nat) : Int)).toNat Cde.z).l, cp'⟩ : Cde)]).getD zz Cde.z)))]) rfl A rfl (appE (i := 5) hX (z.2 + 1) (fun zz => cdc ((z.1 ++ [(⟨ao', (cs.getD (((z.2 : Nat) : Int)).toNat Cde.z).l, cp'⟩ : Cde)]).getD zz Cde.z)) rfl rfl rfl rfl (by omega) rfl (fun k hk => by show cdc _ = cdc _; rw [gd_l hz.m hk]) (by show cdc _ = _; rw [gd_1 hz.m] <;> rfl) (fun z => ⟨_, rfl, rfl⟩)) fun A => any_at (rs := [11]) (by kernel_rfl) (by decide) (fc9 ⟨aV9 (.ptr 4 29) rfl A rfl rfl fun A => any_at (rs := [12]) (by kernel_rfl) (by decide) (fc9 ⟨any_eff (x := .tup []) (H' := [some (cdL9 cs), some (cnL9 kd), some (.blk (tsQ9 ar nm mi r (.sl 0 cs.length cx) qu (.sl 1 kd.length ck))), some (.blk zT8), some (.blk (tsQ9 ar nm mi r (.sl 9 (z.2 + 1) 0) qu (.sl 1 kd.length ck))), none, none, none, some (.blk [.sla ao' ((cs.getD ((((z.2 : Nat) : Int)).toNat) Cde.z).l.length) cp']), some (.row 38 1 (z.2 + 1) 0 (fun zz => cdc ((z.1 ++ [(⟨ao', (cs.getD (((z.2 : Nat) : Int)).toNat Cde.z).l, cp'⟩ : Cde)]).getD zz Cde.z)))]) rfl A rfl (eff_auto (X := ⟨_, true⟩) (out := .upd 4 (tsQ9 ar nm mi r (.sl 9 (z.2 + 1) 0) qu (.sl 1 kd.length ck)) _) hX rfl rfl) fun A => any_end (by kernel_rfl) (N9 7 A rfl (ok_d (by have := hz.le; omega) <| okE_nil) fun A => ⟨((z.1 ++ [(⟨ao', (cs.getD (((z.2 : Nat) : Int)).toNat Cde.z).l, cp'⟩ : Cde)]), z.2 + 1), _, (by show cs.length - (z.2 + 1) < cs.length - z.2; omega), ((NJ.ok.now A hz).nx hlt (LstAt.ok.now A hl) hfr).mv (m := [0, 1, 2, 3, 4, 9]) A.mem.len rfl rfl, (((B.trans A).cut [1, 2, 3, 4] rfl).mv 2 [2, 3, 4, 9] rfl rfl rfl rfl h00.symm)⟩), fn9⟩), fn9⟩), fn9⟩))
   (fun h1 A => N9 4 A rfl rfl fun A => have hz2 : z.2 = cs.length := (by have := hz.le; omega); N9 4 A rfl rfl fun A => APPL hX kd.length (fun zz => cc (kd.getD zz Cn.z)) A rfl rfl rfl rfl (Nat.le_refl _) (by omega) hk (by omega) (fun k hk => by omega) (fun k hk => by show cc _ = cc _; rw [Nat.zero_add]) (fun z => ⟨_, rfl, rfl⟩) (fun k hk => ⟨_, rfl, okE_nil⟩) fun A => N9 11 A rfl rfl fun A => LAYP 5 3 (tpQ9 ar nm mi r) [.int .i64 qu, .sl 7 kd.length 0] (fun ao1 cp1 => [some (cdL9 cs), some (cnL9 kd), some (.blk (tsQ9 ar nm mi r (.sl 0 cs.length cx) qu (.sl 1 kd.length ck))), some (.blk (tsQ9 ar nm mi r (.sla ao1 z.2 cp1) qu (.sl 7 kd.length 0))), some (.blk (tsQ9 ar nm mi r (.sl 5 z.2 0) qu (.sl 7 kd.length 0))), none, none, some (.row 67 5 kd.length 0 (fun zz => cc (kd.getD zz Cn.z)))]) A rfl rfl rfl (fun _ _ => rfl) fun ao1 cp1 A hl1 hf1 => have B := B.trans A; have hz := NJ.ok.now A hz; have A := B.base; LAYP 7 3 [.int .i64 ar, .str nm, .int .i64 (mi 0), .int .i64 (mi 1), .int .i64 (mi 2), .int .i64 (r 0), .int .i64 (r 1), .int .i64 (r 2), .int .i64 (r 3), .int .i64 (r 4), .int .i64 (r 5), .int .i64 (r 6), .int .i64 (r 7), .int .i64 (r 8), .int .i64 (r 9), .int .i64 (r 10), .int .i64 (r 11), .int .i64 (r 12), .int .i64 (r 13), .int .i64 (r 14), .int .i64 (r 15), .int .i64 (r 16), .int .i64 (r 17), .int .i64 (r 18), .int .i64 (r 19), .int .i64 (r 20), .int .i64 (r 21), .int .i64 (r 22), .int .i64 (r 23), .sla ao1 z.2 cp1, .int .i64 qu] [] (fun ao2 cp2 => [some (cdL9 cs), some (cnL9 kd), some (.blk (tsQ9 ar nm mi r (.sl 0 cs.length cx) qu (.sl 1 kd.length ck))), some (.blk (tsQ9 ar nm mi r (.sla ao1 z.2 cp1) qu (.sla ao2 kd.length cp2))), some (.blk (tsQ9 ar nm mi r (.sl 5 z.2 0) qu (.sl 7 kd.length 0))), none, none, none]) A rfl rfl rfl (fun _ _ => rfl) fun ao2 cp2 A hl2 hf2 => RETW (J := TwJ cs kd ar nm mi r qu) hX (B.trans A) rfl rfl rfl rfl (twJ_of hrc.2 (NJ.ok.now A hz) hz2 (LstAt.ok.now A hl1) (hfrB B0 hf1)))
end Go.Proofs.YtjkppaijicjpoaaGreatDoor.Mc
namespace Go.Proofs.YtjkppaijicjpoaaGreatDoor
open Go.RowKit
set_option linter.unusedVariables false
set_option linter.unusedSimpArgs false
set_option maxRecDepth 100000
set_option maxHeartbeats 2000000
set_option simprocs false
def m1 (ws : List Tk) (s : Ps) : Ps := s.wa (mkA ws s.as [91])
def m2 (ws : List Tk) (s : Ps) : Ps := ⟨{ s.ins with loc := knI ws s.as [[120], [121], [122]], ix := -1 }, s.lab, (knA ws s.as [[120], [121], [122]]).e, (knA ws s.as [[120], [121], [122]]).a, (knA ws s.as [[120], [121], [122]]).p⟩
def psB (ws : List Tk) (s : Ps) : Bool := tkB ws s.p [43]
def m3 (ws : List Tk) (s : Ps) : Ps := ⟨s.ins, s.lab, s.e, s.a, tkK ws s.p [43]⟩
def nuQ (ws : List Tk) (s : Ps) : Bool := (ws.getD s.p tok0).kind == 2
def offI (ws : List Tk) (s : Ps) : Ps := ⟨{ s.ins with off := nbV ws s.p }, s.lab, s.e, s.a, nbK ws s.p⟩
def regI (g : Lg) (ws : List Tk) (s : Ps) : Ps := ⟨{ s.ins with ix := knI ws s.as [g.r0, g.r1, g.r2, g.r3, g.r4, g.r5, g.r6, g.r7] }, s.lab, (knA ws s.as [g.r0, g.r1, g.r2, g.r3, g.r4, g.r5, g.r6, g.r7]).e, (knA ws s.as [g.r0, g.r1, g.r2, g.r3, g.r4, g.r5, g.r6, g.r7]).a, (knA ws s.as [g.r0, g.r1, g.r2, g.r3, g.r4, g.r5, g.r6, g.r7]).p⟩
def m5 (ws : List Tk) (s : Ps) : Ps := s.wa (mkA ws s.as [93])
def mem3 (ws : List Tk) (s : Ps) : Ps := m3 ws (m2 ws (m1 ws s))
def memS (g : Lg) (ws : List Tk) (s : Ps) : Ps := m5 ws (if psB ws (m2 ws (m1 ws s)) = true then (if nuQ ws (mem3 ws s) = true then (if psB ws (offI ws (mem3 ws s)) = true then regI g ws (m3 ws (offI ws (mem3 ws s))) else m3 ws (offI ws (mem3 ws s))) else regI g ws (mem3 ws s)) else mem3 ws s)
section
variable {g : Lg} {ws : List Tk} {s : Ps}
end
def begI (g : Lg) (t : Tk) : Bool := if g.im = [] then ((t.kind == 2) || ((t.kind == 3) && (t.text == [45]))) else ((t.kind == 3) && (t.text == g.im))
def begQ (g : Lg) (r : Rw) (p : Int) (t : Tk) : Bool := if p = 5 then begI g t else if p = 6 then ((t.kind == 3) && (t.text == [91])) else if p = 10 then ((t.kind == 1) && (t.text == r.wd)) else (t.kind == 1)
def ptS (g : Lg) (ws : List Tk) (p : Int) (s : Ps) : Ps :=
 if p = 1 then ⟨{ s.ins with dst := knI ws s.as [g.r0, g.r1, g.r2, g.r3, g.r4, g.r5, g.r6, g.r7] }, s.lab, (knA ws s.as [g.r0, g.r1, g.r2, g.r3, g.r4, g.r5, g.r6, g.r7]).e, (knA ws s.as [g.r0, g.r1, g.r2, g.r3, g.r4, g.r5, g.r6, g.r7]).a, (knA ws s.as [g.r0, g.r1, g.r2, g.r3, g.r4, g.r5, g.r6, g.r7]).p⟩ else
 if p = 4 then ⟨{ s.ins with dst := knI ws s.as [g.r0, g.r1, g.r2, g.r3, g.r4, g.r5, g.r6, g.r7] }, s.lab, (knA ws s.as [g.r0, g.r1, g.r2, g.r3, g.r4, g.r5, g.r6, g.r7]).e, (knA ws s.as [g.r0, g.r1, g.r2, g.r3, g.r4, g.r5, g.r6, g.r7]).a, (knA ws s.as [g.r0, g.r1, g.r2, g.r3, g.r4, g.r5, g.r6, g.r7]).p⟩ else
 if p = 2 then ⟨{ s.ins with ra := knI ws s.as [g.r0, g.r1, g.r2, g.r3, g.r4, g.r5, g.r6, g.r7] }, s.lab, (knA ws s.as [g.r0, g.r1, g.r2, g.r3, g.r4, g.r5, g.r6, g.r7]).e, (knA ws s.as [g.r0, g.r1, g.r2, g.r3, g.r4, g.r5, g.r6, g.r7]).a, (knA ws s.as [g.r0, g.r1, g.r2, g.r3, g.r4, g.r5, g.r6, g.r7]).p⟩ else
 if p = 3 then ⟨{ s.ins with rb := knI ws s.as [g.r0, g.r1, g.r2, g.r3, g.r4, g.r5, g.r6, g.r7] }, s.lab, (knA ws s.as [g.r0, g.r1, g.r2, g.r3, g.r4, g.r5, g.r6, g.r7]).e, (knA ws s.as [g.r0, g.r1, g.r2, g.r3, g.r4, g.r5, g.r6, g.r7]).a, (knA ws s.as [g.r0, g.r1, g.r2, g.r3, g.r4, g.r5, g.r6, g.r7]).p⟩ else
 if p = 5 then ⟨{ s.ins with imm := immV g ws s.as }, s.lab, (immA g ws s.as).e, (immA g ws s.as).a, (immA g ws s.as).p⟩ else
 if p = 6 then memS g ws s else
 if p = 7 then ⟨s.ins, nmT ws s.p, s.e, s.a, nmK ws s.p⟩ else
 if p = 8 then ⟨{ s.ins with pred := knI ws s.as [g.f0, g.f1, g.f2] + 1 }, s.lab, (knA ws s.as [g.f0, g.f1, g.f2]).e, (knA ws s.as [g.f0, g.f1, g.f2]).a, (knA ws s.as [g.f0, g.f1, g.f2]).p⟩ else
 if p = 9 then ⟨{ s.ins with succ := knI ws s.as [g.f0, g.f1, g.f2] + 1 }, s.lab, (knA ws s.as [g.f0, g.f1, g.f2]).e, (knA ws s.as [g.f0, g.f1, g.f2]).a, (knA ws s.as [g.f0, g.f1, g.f2]).p⟩ else
 if p = 10 then ⟨s.ins, s.lab, s.e, s.a, nxK ws s.p⟩ else
 s
end Go.Proofs.YtjkppaijicjpoaaGreatDoor
namespace Go.Proofs.YtjkppaijicjpoaaGreatDoor
open Go.Shelf Go.RowKit
set_option linter.unusedVariables false

end Go.Proofs.YtjkppaijicjpoaaGreatDoor
namespace Go.Proofs.YtjkppaijicjpoaaGreatDoor
open Go.RowKit
set_option linter.unusedVariables false
set_option linter.unusedSimpArgs false
set_option maxRecDepth 100000
set_option maxHeartbeats 2000000
set_option simprocs false

section
variable {g : Lg} {q : List UInt8} {L : List Rw} {z : Int} {k : Nat}
end
def stk (g : Lg) (k : Nat) (t : Tk) (r : Rw) : Bool := !(begQ g r (r.ps.getD k 0) t)
def ask10 (k : Nat) (r : Rw) : Bool := r.ps.getD k 0 == 10
def fstX (f : Rw → Bool) (R : List Rw) : Int := match (List.range R.length).find? (fun j => f (R.getD j Rw.z)) with | some j => (j : Int) | none => -1
section
variable {f : Rw → Bool} {R cur : List Rw} {k i j : Nat}
structure Hlf (f : Rw → Bool) (R cur : List Rw) (i j : Nat) : Prop where
 len : cur.length = R.length
 ij : i < j
 jl : j ≤ R.length
 pre : cur.take i = (R.take j).filter (fun r => !f r)
 post : ∀ m, j ≤ m → cur[m]? = R[m]?
theorem Hlf.at (h : Hlf f R cur i j) : cur.getD j Rw.z = R.getD j Rw.z := by
 rw [List.getD_eq_getElem?_getD, List.getD_eq_getElem?_getD, h.post j (Nat.le_refl _)]
end
def mfV (kk : Nat) (t : Tk) (R : List Rw) : Int := if ((decide (fstX (ask10 kk) R ≥ 0)) && (t.kind == 1)) = true then 21 else 22
def lft (g : Lg) (kk : Nat) (t : Tk) (R : List Rw) : List Rw := R.filter (fun r => !stk g kk t r)
def beS (g : Lg) (ws : List Tk) (kk : Nat) (R : List Rw) (s : Ps) : Ps := if (lft g kk (ws.getD s.p tok0) R).length = 0 then s.wa (refA ws s.as (mfV kk (ws.getD s.p tok0) R)) else s
section
variable {f : Rw → Bool} {R cur : List Rw} {i j kk : Nat} {w : World} {ks : List Nat} {x : Rw}
end
end Go.Proofs.YtjkppaijicjpoaaGreatDoor
namespace Go.Proofs.YtjkppaijicjpoaaGreatDoor
open Go.Shelf Go.RowKit
set_option linter.unusedVariables false
def strV (l : List UInt8) : List Value := [.string (S l)]
def laysJoin_ren : Go.Shelf.Ren := ⟨fun | 156 => 139 | 165 => 174 | 166 => 175 | 169 => 176 | 240 => 205 | 241 => 206 | 276 => 228 | 277 => 229 | n => n, fun | 0 => 0 | 3 => 3 | 4 => 4 | 9 => 9 | 20 => 20 | 31 => 168 | 37 => 101 | 70 => 202 | 72 => 204 | 75 => 176 | 76 => 206 | 127 => 234 | 164 => 252 | 5 => 5 | 80 => 64 | n => n, fun | n => n⟩
theorem laysJoin : Go.Proofs.Lays.n156 Tryz.prog laysJoin_ren := {
 mixed := by kernel_rfl
 f156 := Tryz.func139.trans (congrArg some (by kernel_rfl))
 f165 := Tryz.func174.trans (congrArg some (by kernel_rfl))
 f166 := Tryz.func175.trans (congrArg some (by kernel_rfl))
 f169 := Tryz.func176.trans (congrArg some (by kernel_rfl))
 f240 := Tryz.func205.trans (congrArg some (by kernel_rfl))
 f241 := Tryz.func206.trans (congrArg some (by kernel_rfl))
 f276 := Tryz.func228.trans (congrArg some (by kernel_rfl))
 f277 := Tryz.func229.trans (congrArg some (by kernel_rfl))
 t0 := Tryz.underlying0
 a0 := Tryz.isAgg0
 z0 := Tryz.sizeOf0
 v0 := Tryz.zeroValue0
 t3 := Tryz.underlying3
 a3 := Tryz.isAgg3
 z3 := Tryz.sizeOf3
 v3 := Tryz.zeroValue3
 t4 := Tryz.underlying4
 a4 := Tryz.isAgg4
 z4 := Tryz.sizeOf4
 v4 := Tryz.zeroValue4
 t9 := Tryz.underlying9
 a9 := Tryz.isAgg9
 z9 := Tryz.sizeOf9
 v9 := Tryz.zeroValue9
 t20 := Tryz.underlying20
 a20 := Tryz.isAgg20
 z20 := Tryz.sizeOf20
 v20 := Tryz.zeroValue20
 t31 := Tryz.underlying168
 a31 := Tryz.isAgg168
 z31 := Tryz.sizeOf168
 v31 := Tryz.zeroValue168
 t37 := Tryz.underlying101
 a37 := Tryz.isAgg101
 z37 := Tryz.sizeOf101
 v37 := Tryz.zeroValue101
 t70 := Tryz.underlying202
 a70 := Tryz.isAgg202
 z70 := Tryz.sizeOf202
 v70 := Tryz.zeroValue202
 t72 := Tryz.underlying204
 a72 := Tryz.isAgg204
 z72 := Tryz.sizeOf204
 v72 := Tryz.zeroValue204
 t75 := Tryz.underlying176
 a75 := Tryz.isAgg176
 z75 := Tryz.sizeOf176
 v75 := Tryz.zeroValue176
 t76 := Tryz.underlying206
 a76 := Tryz.isAgg206
 z76 := Tryz.sizeOf206
 v76 := Tryz.zeroValue206
 t127 := Tryz.underlying234
 a127 := Tryz.isAgg234
 z127 := Tryz.sizeOf234
 v127 := Tryz.zeroValue234
 t164 := Tryz.underlying252
 a164 := Tryz.isAgg252
 z164 := Tryz.sizeOf252
 v164 := Tryz.zeroValue252 }
theorem joinExtra : Go.Proofs.Builder.Extra Tryz.prog laysJoin_ren where
 sizeBuilder := by kernel_rfl
 liesBuilder := by kernel_rfl
 t5 := Tryz.underlying5
 a5 := Tryz.isAgg5
 z5 := Tryz.sizeOf5
 v5 := Tryz.zeroValue5
 infoByte := by kernel_rfl
 cellsByte := by kernel_rfl
 sizeByte := by kernel_rfl
 neB5 := by decide
theorem join_any (mv : Value) (ls : List (List UInt8)) (q : List UInt8) (w : World) (hM : Sl strV 1 w.heap.size w mv ls) (h0 : ls ≠ []) (hn : ls.length ≤ 1000) (hl : (Lib.join ls q).length ≤ 1000000) : Calls Tryz.prog 139 #[mv, .string (S q)] w fun e w' => e = .returned (.string (S (Lib.join ls q))) ∧ Grow w w' := by
 obtain ⟨ao, cap, rfl, hlc, hel⟩ := hM
 obtain ⟨x, r, rfl⟩ : ∃ x r, ls = x :: r := by cases ls with
  | nil => exact absurd rfl h0
  | cons x r => exact ⟨x, r, rfl⟩
 obtain ⟨b, o, rfl, hb, _⟩ := hel 0 x rfl
 have hmap : ((x :: r).map S).map (fun s => s.data.toList) = x :: r := by
  rw [List.map_map]
  conv => rhs; rw [← List.map_id (x :: r)]
  exact List.map_congr_left fun y _ => S_data y
 have hlen : ((x :: r).map S).length = (x :: r).length := List.length_map _
 have hc := Any.strings_Join laysJoin joinExtra b o cap ((x :: r).map S) (S q) w (fun j y hy => by
   rw [List.getElem?_map] at hy
   cases hz : (x :: r)[j]? with
   | none => rw [hz] at hy; cases hy
   | some z =>
    rw [hz] at hy
    simp only [Option.map_some, Option.some.injEq] at hy
    subst hy
    obtain ⟨b', o', h1, _, h3⟩ := hel j z hz
    simp only [Option.some.injEq, Addr.mk.injEq] at h1
    obtain ⟨rfl, rfl, _⟩ := h1
    have := h3 0 (.string (S z)) rfl
    rw [Nat.mul_one, Nat.add_zero] at this
    exact this) hb (by rw [hlen]; omega) (by rw [hlen]; exact hlc) (by rw [hmap, S_data]; omega)
 rw [hlen, hmap, S_data] at hc
 exact hc.mono fun e w' h => ⟨h.1, h.2⟩
end Go.Proofs.YtjkppaijicjpoaaGreatDoor
namespace Go.Proofs.YtjkppaijicjpoaaGreatDoor
open Go.RowKit
set_option linter.unusedVariables false
set_option linter.unusedSimpArgs false
theorem mem_ro {H : Hp} {G : Gr} {w : World} (hl : H.length = G.length) (h : ∀ (i : Nat) (e : Ent), H[i]? = some (some e) → e.mut = false ∧ EntOK G w ((G[i]?).getD none) e) : Mem H G w :=
 ⟨hl, fun i e he => (h i e he).2, fun i j e f L M _ he _ hm => by rw [(h i e he).1] at hm; cases hm⟩
theorem lst_of {α : Type} {enc : α → List Value} {f : Nat → List SV} {s B n cap : Nat} {w : World} {l : List α} {bo : Option (Nat × Nat)} (h : Sl enc s B w (.slice (bo.map fun x => ⟨x.1, x.2, none⟩) n cap) l) (hB : B ≤ w.heap.size)
  (hf : ∀ k x, l[k]? = some x → denL [] (f k) = some (enc x)) (htot : ∀ k, ∃ vs, denL [] (f k) = some vs) :
  n = l.length ∧ ∀ (G F : Gr), den (G ++ (bo.map fun x => (⟨x.1, List.replicate x.2 undef, [], 0⟩ : Loc)) :: F) (.sl G.length l.length cap) = some (.slice (bo.map fun x => ⟨x.1, x.2, none⟩) n cap) ∧ EntOK (G ++ (bo.map fun x => (⟨x.1, List.replicate x.2 undef, [], 0⟩ : Loc)) :: F) w (bo.map fun x => (⟨x.1, List.replicate x.2 undef, [], 0⟩ : Loc)) (.lst s l.length f) := by
 obtain ⟨ao, cap', hv, hlc, he⟩ := h
 simp only [Value.slice.injEq] at hv
 obtain ⟨rfl, rfl, rfl⟩ := hv
 refine ⟨rfl, fun G F => ⟨?_, htot, ?_⟩⟩
 ·unfold den
  rw [List.getElem?_append_right (Nat.le_refl _)]
  cases bo <;> simp [rm]
 ·cases bo with
  | none =>
   left
   cases l with
   | nil => rfl
   | cons x l => obtain ⟨b, o, h1, _⟩ := he 0 x rfl; cases h1
  | some x =>
   obtain ⟨b, o⟩ := x
   cases hl : l with
   | nil => left; rfl
   | cons y l' =>
    right
    have hb : b < B := by
     obtain ⟨b', o', h1, h2, _⟩ := he 0 y (by rw [hl]; rfl)
     cases h1; exact h2
    refine ⟨_, rfl, (by show b < _; omega), fun k hk => ?_⟩
    have hk' : k < l.length := by rw [hl]; exact hk
    obtain ⟨b', o', h1, h2, h3⟩ := he k l[k] (by simp [hk'])
    cases h1
    exact ⟨_, hf k l[k] (by simp [hk']), by simpa using h3⟩
theorem post_ro {x : SV} {H H2 : Hp} {G : Gr} {w w' : World} {e : Ending} (h : Post (Rt x H2) H G w e w') (hro : ∀ (i : Nat) (e : Ent), H[i]? = some (some e) → e.mut = false) : ∃ v F, den (G ++ F) x = some v ∧ e = .returned v ∧ Mem H2 (G ++ F) w' ∧ Grow w w' := by
 obtain ⟨y, H', F, v, ⟨rfl, rfl⟩, h1, h2, h3, hmix, _⟩ := h
 have hk : ∀ k, (keys H G).contains k = false := fun k => by
  cases hc : (keys H G).contains k with
  | false => rfl
  | true =>
   obtain ⟨i, e', L, q1, q2, _⟩ := mem_keys.1 hc
   rw [hro i e' q1] at q2; cases q2
 exact ⟨v, F, h1, h2, h3, ⟨hmix.os, hmix.tape, hmix.output, hmix.size, fun k hk' => hmix.block k hk' (hk k)⟩⟩
abbrev lstS (ls : List (List UInt8)) : Ent := .lst 1 ls.length fun k => [.str (ls.getD k [])]
theorem join_ (ls : List (List UInt8)) (q : List UInt8) (h0 : ls ≠ []) (hn : ls.length ≤ 1000) (hl : (Lib.join ls q).length ≤ 1000000) : Fn Tryz.prog 139 [.sl 0 ls.length ls.length, .str q] [some (lstS ls)] (Rt (.str (Lib.join ls q)) [some (lstS ls)]) := by
 refine ⟨by kernel_rfl, fun G w vs hM hv => ?_⟩
 obtain ⟨p, rfl⟩ : ∃ p, G = [p] := List.length_eq_one_iff.1 hM.len.symm
 have he := hM.ent 0 _ rfl
 obtain ⟨hd, h | ⟨L, hp, hb, hr⟩⟩ := he
 ·exact absurd (List.eq_nil_of_length_eq_zero h) h0
 have hp' : p = some L := hp
 subst hp'
 have hv' : some [Value.slice (some ⟨L.b, L.pre.length, none⟩) ls.length (ls.length + rm (some L)), .string (S q)] = some vs := hv
 cases hv'
 have hS : Sl strV 1 w.heap.size w (.slice (some ⟨L.b, L.pre.length, none⟩) ls.length (ls.length + rm (some L))) ls := ⟨_, _, rfl, Nat.le_add_right _ _, fun j x hx => by
  obtain ⟨hj, rfl⟩ := List.getElem?_eq_some_iff.1 hx
  obtain ⟨us, q1, q2⟩ := hr j hj
  have e : ls.getD j [] = ls[j] := by simp [List.getD, hj]
  have q3 : some [Value.string (S (ls.getD j []))] = some us := q1
  cases q3
  rw [e] at q2
  exact ⟨_, _, rfl, hb, q2⟩⟩
 refine (join_any _ ls q w hS h0 hn hl).mono ?_
 rintro e w' ⟨rfl, hg⟩
 have hk : ∀ k, (keys [some (lstS ls)] [some L]).contains k = false := fun k => by
  cases hc : (keys [some (lstS ls)] [some L]).contains k with
  | false => rfl
  | true =>
   obtain ⟨i, e', M, q1, q2, _⟩ := mem_keys.1 hc
   cases i with
   | zero => cases q1; cases q2
   | succ i => cases q1
 refine ⟨.str (Lib.join ls q), [some (lstS ls)], [], _, ⟨rfl, rfl⟩, rfl, rfl, ?_, (Mix.refl _ w).grow hg, Nat.le_refl _, fun i e he _ => he, fun i e he hm => ?_⟩
 ·refine mem_ro rfl fun i e he => ?_
  cases i with
  | zero =>
   cases he
   refine ⟨rfl, hd, .inr ⟨L, rfl, Nat.lt_of_lt_of_le hb hg.size, fun k hk => ?_⟩⟩
   obtain ⟨us, q1, q2⟩ := hr k hk
   exact ⟨us, q1, fun j x hx => by
    have := q2 j x hx
    unfold World.cell? at this ⊢
    rw [hg.block _ hb]; exact this⟩
  | succ i => cases he
 ·cases i with
  | zero => cases he; cases hm
  | succ i => cases he
end Go.Proofs.YtjkppaijicjpoaaGreatDoor
namespace Go.Proofs.YtjkppaijicjpoaaGreatDoor
open Go.RowKit
set_option linter.unusedVariables false
set_option linter.unusedSimpArgs false
set_option maxRecDepth 100000
set_option maxHeartbeats 2000000
set_option simprocs false
theorem toksF_end : ∀ (f : Nat) (l : List UInt8) (a : Nat) (ws : List Tk), l.length < f + a → a ≤ l.length → (∃ vs, toksF f l a ws = (vs, 0, 0)) ∨ ∃ e k, e ≠ 0 ∧ toksF f l a ws = ([], e, k)
 | 0, l, a, ws, h, h2 => by omega
 | f + 1, l, a, ws, h, h2 => by
  cases hs : (skipL (l.drop a)).2 with
  | true => exact .inr ⟨24, _, by decide, tf_rem hs⟩
  | false =>
   by_cases h1 : a + (skipL (l.drop a)).1 = l.length
   ·exact .inl ⟨ws, tf_end hs h1⟩
   ·by_cases h3 : (firstR (l.drop (a + (skipL (l.drop a)).1))).2 = 0
    ·rw [tf_go hs h1 h3]
     have hk := skip_le (l.drop a); rw [List.length_drop] at hk
     have hn := first_len h3
     rw [List.length_drop] at hn
     exact toksF_end f l _ _ (by omega) (by omega)
    ·exact .inr ⟨_, _, h3, tf_bad hs h1 h3⟩
theorem tokSp {l : List UInt8} {R : Prop} (h1 : ∀ ws, tokensR l = (ws, 0, 0) → R) (h2 : ∀ e k, e ≠ 0 → tokensR l = ([], e, k) → R) : R := by
 by_cases h : l.length > 8192
 ·exact h2 2 0 (by decide) (tokens_long h)
 ·rcases toksF_end (l.length + 1) l 0 [] (by omega) (by omega) with ⟨vs, h3⟩ | ⟨e, k, h3, h4⟩
  ·exact h1 vs (by rw [tokens_short (by omega), h3])
  ·exact h2 e k h3 (by rw [tokens_short (by omega), h4])
theorem one_is (ws : List Tk) (l : List UInt8) : (((((ws.length : Nat) : Int) == 1) && ((ws.getD (0 : Int).toNat tok0).kind == 1)) && ((ws.getD (0 : Int).toNat tok0).text == l)) = (((0 : Int) == 0) && (ws.length == 1 && ((ws.getD 0 tok0).kind == 1 && (ws.getD 0 tok0).text == l))) := by
 have h : (((ws.length : Nat) : Int) == 1) = (ws.length == 1) := by rw [Bool.eq_iff_iff, beq_iff_eq, beq_iff_eq]; omega
 rw [h, Bool.and_assoc]; rfl
def oneN (l : List UInt8) : Bool := (tokensR l).2.1 == 0 && ((tokensR l).1.length == 1 && (((tokensR l).1.getD 0 tok0).kind == 1 && ((tokensR l).1.getD 0 tok0).text == l))
theorem isName_ (l : List UInt8) (os : List (Nat × Obj)) (hM : ∀ w ks, Gl os w ks → ∃ m, w.cell? ⟨1, 0, none⟩ = some (.int .i64 m)) (hE : ∀ w ks, Gl os w ks → ∃ ev, w.cell? ⟨4, 0, none⟩ = some ev ∧ (ev = .nilIface ∨ ∃ te pe, ev = .iface te pe)) : FnI (Gl os) Tryz.prog 24 [.str l] [] (Rt (.bool (oneN l)) []) :=
 enterI (n := 34) (by kernel_rfl) Tryz.func24 rfl rfl rfl fun G w a h0 hI A => N9 8 A rfl rfl fun A => tokSp (l := l)
  (fun ws ht => I9 [] Gl.ok hI (tokens_ok l ws os hM hE ht) A rfl fun A => N9 13 A rfl rfl fun A => have A := sy_sayD A 13 (.tt) rfl (fun _ => congrArg (fun b => some (Value.bool b)) (show (0 == 0) = true by decide)); N9 24 A rfl (ok_r <| ok_g (fun hg => (by have h := hg; simp at h; omega)) <| ok_r <| ok_g (fun hg => (by have h := hg; simp at h; omega)) <| ok_r <| ok_g (fun hg => (by have h := hg; simp at h; omega)) <| ok_r <| ok_r <| ok_r <| ok_g (fun hg => (by have h := hg; simp at h; omega)) <| ok_r <| ok_g (fun hg => (by have h := hg; simp at h; omega)) <| ok_r <| ok_g (fun hg => (by have h := hg; simp at h; omega)) <| ok_r <| ok_r <| ok_r <| okE_nil) fun A => R9 A rfl h0 rfl (by unfold oneN; rw [ht]; exact congrArg SV.bool (one_is ws l)) rfl)
  (fun e k he ht => I9 [] Gl.ok hI (tokens_no l e k os hM hE ht he) A rfl fun A => N9 13 A rfl rfl fun A => have A := sy_sayD A 13 (.ff) rfl (fun _ => congrArg (fun b => some (Value.bool b)) (show (e == 0) = false by simpa using he)); N9 24 A rfl rfl fun A => R9 A rfl h0 rfl (by unfold oneN; rw [ht]; simp [he, oneS, nb]) rfl)
end Go.Proofs.YtjkppaijicjpoaaGreatDoor
