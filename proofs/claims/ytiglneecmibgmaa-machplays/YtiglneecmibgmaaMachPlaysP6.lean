/- mach.Play over a ladder. -/
import Derived.Test.YtiglneecmibgmaaMachPlaysP5
import Derived.WalkSmall
import Derived.ProofKit
import Derived.OpenShut
import Derived.ChangeOld
import Derived.Deep.Slices
namespace Go.Proofs.Ytiglneecmibgmaa
open Go.RowKit
set_option linter.unusedVariables false
set_option linter.unusedSimpArgs false
set_option maxRecDepth 100000
set_option maxHeartbeats 2000000
set_option simprocs false
theorem pkO_ge {g : List Int} {n k : Nat} {M : Int} (h : ¬ ((k : Int) < ((n : Nat) : Int))) : pkO g n M k = false := by
  unfold pkO; rw [decide_eq_false h]; rfl
theorem playO {L : Loc} {M : Int} {g : List Int} {w : World} (h : LadW L M 0 w) : LadW L (M - ((0 : Nat) : Int)) (sumP g 0) w := by
  have e : M - ((0 : Nat) : Int) = M := by omega
  rw [e]; exact h
theorem playN {L : Loc} {M : Int} {g : List Int} {z : Nat} {w : World} {p : Int} (hd : doB (M - (z : Int)) p = true) (h : LadW L (doL (M - (z : Int)) p) (doA (sumP g z) (M - (z : Int)) p) w) (e : p = g.getD ((z : Int)).toNat 0 := by rfl) : LadW L (M - ((z + 1 : Nat) : Int)) (sumP g (z + 1)) w := by
  unfold doL doA at h
  rw [hd] at h
  have e2 : M - ((z + 1 : Nat) : Int) = M - (z : Int) - 1 := by omega
  rw [e2]
  subst e
  exact h
theorem playF {L : Loc} {M S : Int} {g : List Int} {n z W : Nat} {w : World} {p : Int} (hf : z = pkW g n M) (hW : pkW g n M = W) (hS : sumP g W = S) (h : LadW L (M - (z : Int)) (sumP g z) w ∨ (LadW L (doL (M - (z : Int)) p) (doA (sumP g z) (M - (z : Int)) p) w ∧ doB (M - (z : Int)) p = false)) : SV.int .i64 (z : Int) = SV.int .i64 ((W : Nat) : Int) ∧ LadW L (M - ((W : Nat) : Int)) S w := by
  rw [hW] at hf
  subst hf
  subst hS
  refine ⟨rfl, ?_⟩
  rcases h with h | ⟨h, hd⟩
  · exact h
  · unfold doL doA at h
    rw [hd] at h
    exact h
theorem play_ (L : Loc) (M S : Int) (g : List Int) (n m c W : Nat) (hM : 0 ≤ M ∧ M ≤ 15) (hn : n ≤ m) (hn2 : n ≤ 1000) (hW : pkW g n M = W) (hS : sumP g W = S) : FnW Try.prog 5 [.v (.iface 24 (.pointer (some ⟨L.b, L.pre.length, none⟩))), .sl 0 n c] [some (.lst 1 m (fun j => [.int .i64 (g.getD j 0)]))] [L.b] (LadW L M 0) (fun x _ w' => x = .int .i64 ((W : Nat) : Int) ∧ LadW L (M - ((W : Nat) : Int)) S w') :=
 enterW (n := 21) (by kernel_rfl) Try.func5 rfl rfl rfl (fun i e h => by cases i with | zero => cases h; rfl | succ i => cases h) fun G w a h0 ho hp A => have B0 := A; have hk0 := keysN (G := G) (H := [some (.lst 1 m (fun j => [.int .i64 (g.getD j 0)]))]) (fun i e h => by cases i with | zero => cases h; rfl | succ i => cases h) L.b; have A := A.base; N hX 12 A rfl rfl fun A => LOOPJ (fun (z : Nat) => [(0, .v (.iface 24 (.pointer (some ⟨L.b, L.pre.length, none⟩)))), (1, .sl 0 n c), (5, .int .i64 (z : Int))]) (fun (z : Nat) => [some (.lst 1 m (fun j => [.int .i64 (g.getD j 0)]))]) (fun z w' _ => LadW L (M - (z : Int)) (sumP g z) w' ∧ PkI g n M z) (fun z => n - z) 0 ((B0.trans A).cut [0, 1, 5] rfl) ⟨playO (hp.mix A.mix hk0), PkI.i0 hM.1⟩ fun z G a w hz hGl A B => N hX 8 A rfl rfl fun A => forkD 10 A rfl
   (fun h1 A => N hX 5 A rfl (ok_d (by first | omega | (have := hz.2.le; omega)) <| ok_d (by first | omega | (have := hz.2.le; omega)) <| okE_nil) fun A => CALLWX [] (does_ L (M - (z : Int)) (sumP g z) (g.getD (((z : Int)).toNat) 0) (by have := hz.2.lm; omega) (by have := hz.2.s; have := hz.2.lm; omega)) (B.trans A) (hz.1.mix A.mix (keysN (fun i e h => by cases i with | zero => cases h; rfl | succ i => cases h) _)) (ho.now (B.trans A) h0) (fun b hb => .inl hb) rfl rfl rfl rfl rfl fun {_ _} hm hR A => have B := A; have A := B.base; have hd := do_ok hz.2 h1; N hX 3 A rfl rfl fun A => fork 17 A rfl
    (fun h2 A => N hX 10 A rfl (ok_d (by first | omega | (have := hz.2.le; omega)) <| okE_nil) fun A => ⟨z + 1, _, (by show n - (z + 1) < n - z; omega), ⟨playN h2 (hR.mix A.mix (keysN (fun i e h => by cases i with | zero => cases h; rfl | succ i => cases h) _)), hz.2.nx (hd.symm.trans h2)⟩, ((B.trans A).cut [0, 1, 5] rfl)⟩)
    (fun h2 A => N hX 10 A rfl rfl fun A => have hf := hz.2.fin (hd.symm.trans h2); RETW (J := fun x _ w' => x = .int .i64 ((W : Nat) : Int) ∧ LadW L (M - ((W : Nat) : Int)) S w') hX (B.trans A) rfl rfl rfl rfl (playF hf.symm hW hS (Or.inr ⟨(hR.mix A.mix (keysN (fun i e h => by cases i with | zero => cases h; rfl | succ i => cases h) _)), h2⟩))))
   (fun h1 A => N hX 19 A rfl rfl fun A => have hf := hz.2.fin (pkO_ge h1); RETW (J := fun x _ w' => x = .int .i64 ((W : Nat) : Int) ∧ LadW L (M - ((W : Nat) : Int)) S w') hX (B.trans A) rfl rfl rfl rfl (playF (p := 0) hf.symm hW hS (Or.inl (hz.1.mix A.mix (keysN (fun i e h => by cases i with | zero => cases h; rfl | succ i => cases h) _)))))
end Go.Proofs.Ytiglneecmibgmaa
/- MachPlays: the walk. -/
namespace Go.Proofs.Ytiglneecmibgmaa
open Go.RowKit
set_option linter.unusedVariables false
set_option linter.unusedSimpArgs false
set_option maxRecDepth 100000
set_option maxHeartbeats 2000000
set_option simprocs false
theorem and15 (mv : Int) : 0 ≤ (IntKind.wrap .i64 ((((BitVec.ofInt (IntKind.bits .i64) mv) &&& (BitVec.ofInt (IntKind.bits .i64) 15)).toNat : Nat) : Int)) ∧ (IntKind.wrap .i64 ((((BitVec.ofInt (IntKind.bits .i64) mv) &&& (BitVec.ofInt (IntKind.bits .i64) 15)).toNat : Nat) : Int)) ≤ 15 := by
  have e : ((BitVec.ofInt (IntKind.bits .i64) mv) &&& (BitVec.ofInt (IntKind.bits .i64) 15)).toNat ≤ 15 := by
    rw [BitVec.toNat_and]
    exact Nat.le_trans Nat.and_le_right (by decide)
  have e2 : (IntKind.wrap .i64 ((((BitVec.ofInt (IntKind.bits .i64) mv) &&& (BitVec.ofInt (IntKind.bits .i64) 15)).toNat : Nat) : Int)) = ((((BitVec.ofInt (IntKind.bits .i64) mv) &&& (BitVec.ofInt (IntKind.bits .i64) 15)).toNat : Nat) : Int) := by
    generalize ((BitVec.ofInt (IntKind.bits .i64) mv) &&& (BitVec.ofInt (IntKind.bits .i64) 15)).toNat = x at e ⊢
    match x, e with
    | 0, _ => rfl
    | 1, _ => rfl
    | 2, _ => rfl
    | 3, _ => rfl
    | 4, _ => rfl
    | 5, _ => rfl
    | 6, _ => rfl
    | 7, _ => rfl
    | 8, _ => rfl
    | 9, _ => rfl
    | 10, _ => rfl
    | 11, _ => rfl
    | 12, _ => rfl
    | 13, _ => rfl
    | 14, _ => rfl
    | 15, _ => rfl
  rw [e2]
  omega
theorem g77 {g : List Int} : (g ++ [(-77)]).getD (((g.length : Nat) : Int)).toNat 0 = -77 := by rw [Int.toNat_natCast]; exact getD_app_1
theorem one_eq {b c : Nat} (h : [c].contains b = true) : c = b := by simp at h; exact h.symm
theorem app77 {g : List Int} : ∀ j, j < g.length → (g ++ [(-77)]).getD j 0 = g.getD j 0 := fun j hj => getD_app_l hj
theorem pk77 {g : List Int} {M : Int} {k : Nat} (h : pkW g g.length M = k) : pkW (g ++ [(-77)]) g.length M = k := by
  rw [← h]; exact pkF_congr app77 _ _
theorem sum77 {g : List Int} {k : Nat} (h : k ≤ g.length) : sumP (g ++ [(-77)]) k = sumP g k := sum_congr fun j hj => app77 j (by omega)
theorem machPlays_ (mv : Int) (g : List Int) (c : Nat)  : Fn Try.prog 3 [.int .i64 mv, .sl 0 g.length c] [some (.lst 1 g.length (fun j => [.int .i64 (g.getD j 0)]))] (Rt (.tt) [some (.lst 1 g.length (fun j => [.int .i64 (g.getD j 0)]))]) :=
 enterM (n := 110) (by kernel_rfl) Try.func3 rfl rfl rfl fun G w a h0 A => have hM := and15 mv; N hX 8 A rfl rfl fun A => CALL1 [] able_ A rfl rfl rfl rfl rfl rfl rfl fun A => N hX 14 A rfl rfl fun A => forkD 15 A rfl
  (fun h1 A => N hX 7 A rfl rfl fun A => RETN hX A rfl rfl rfl h0 rfl rfl rfl rfl rfl rfl)
  (fun h1 A => N hX 20 A rfl rfl fun A => LOOP1 (fun (k : Nat) => [(0, .int .i64 mv), (1, .sl 0 g.length c), (4, .ff), (5, .ptr 1 0), (6, .int .i64 ((k : Nat) : Int)), (7, .int .i64 (sumP g k))]) (fun (k : Nat) => [some (.lst 1 g.length (fun j => [.int .i64 (g.getD j 0)])), some (.blk [.int .i64 (IntKind.wrap .i64 ((((BitVec.ofInt (IntKind.bits .i64) mv) &&& (BitVec.ofInt (IntKind.bits .i64) 15)).toNat : Nat) : Int)), .int .i64 0])]) (fun (k : Nat) => PkI g g.length (IntKind.wrap .i64 ((((BitVec.ofInt (IntKind.bits .i64) mv) &&& (BitVec.ofInt (IntKind.bits .i64) 15)).toNat : Nat) : Int)) k) (fun (k : Nat) => g.length - k) 0 (PkI.i0 hM.1) ((A.cut [0, 1, 4, 5, 6, 7] rfl).trunc 2 rfl rfl rfl (by simp only [List.length_cons, List.length_nil] at h0; omega)) fun k hJ {G a w} A => N hX 29 A rfl (ok_r <| ok_r <| ok_r <| ok_r <| ok_r <| ok_r <| ok_g (fun hg => (by have h15 := and15 mv; (try have hl := hJ.le); (try have hq := hJ.lm); (try have hs := hJ.s); (try simp at hg); omega)) <| ok_r <| ok_g (fun hg => (by have h15 := and15 mv; (try have hl := hJ.le); (try have hq := hJ.lm); (try have hs := hJ.s); (try simp at hg); omega)) <| ok_r <| ok_r <| ok_r <| ok_r <| ok_g (fun hg => (by have h15 := and15 mv; (try have hl := hJ.le); (try have hq := hJ.lm); (try have hs := hJ.s); (try simp at hg); omega)) <| ok_r <| ok_g (fun hg => (by have h15 := and15 mv; (try have hl := hJ.le); (try have hq := hJ.lm); (try have hs := hJ.s); (try simp at hg); omega)) <| ok_r <| ok_r <| okE_nil) fun A => fork 43 A rfl
    (fun h2 A => N hX 16 A rfl (ok_d (by have h15 := and15 mv; have q := pkO_lt h2; (try have hl := hJ.le); (try have hq := hJ.lm); (try have hs := hJ.s); omega) <| ok_d (by have h15 := and15 mv; have q := pkO_lt h2; (try have hl := hJ.le); (try have hq := hJ.lm); (try have hs := hJ.s); omega) <| ok_d (by have h15 := and15 mv; have q := pkO_lt h2; (try have hl := hJ.le); (try have hq := hJ.lm); (try have hs := hJ.s); omega) <| ok_d (by have h15 := and15 mv; have q := pkO_lt h2; (try have hl := hJ.le); (try have hq := hJ.lm); (try have hs := hJ.s); omega) <| okE_nil) fun A => N hX 6 A rfl (ok_d (by have h15 := and15 mv; have q := pkO_lt h2; (try have hl := hJ.le); (try have hq := hJ.lm); (try have hs := hJ.s); omega) <| okE_nil) fun A => ⟨k + 1, _, (by have q := pkO_lt h2; omega), (hJ.nx h2), ((A.cut [0, 1, 4, 5, 6, 7] rfl).trunc 2 rfl rfl rfl (by simp only [List.length_cons, List.length_nil] at h0; omega)).sayT (by rfl)⟩)
    (fun h2 A => N hX 7 A rfl rfl fun A => APPL hX g.length (fun j => [.int .i64 (g.getD j 0)]) A rfl rfl rfl rfl (Nat.le_refl _) (by omega) (by omega) (by omega) (fun k hk => by omega) (fun k hk => by show [SV.int .i64 _] = [SV.int .i64 _]; rw [Nat.zero_add]) (fun z => ⟨_, rfl, rfl⟩) (fun k hk => ⟨_, rfl, okE_nil⟩) fun A => N hX 1 A rfl rfl fun A => APP1 hX (g.length + 1) (fun j => [.int .i64 ((g ++ [(-77)]).getD j 0)]) A rfl rfl rfl rfl (by omega) rfl (fun k hk => by show [SV.int .i64 _] = [SV.int .i64 _]; rw [getD_app_l hk]) (by show [SV.int .i64 _] = _; rw [getD_app_1] <;> rfl) (fun z => ⟨_, rfl, rfl⟩) fun A => N hX 4 A rfl rfl fun A => have hfin := hJ.fin h2; have h00 := h0; GIVEB 1 5 A rfl rfl rfl rfl fun L A hB hkB hoB howB => have hlo := howB.resolve_left (fun e => by rw [keysN (fun i e h => by cases i with | zero => cases h; rfl | succ i => cases h)] at e; cases e); have B := A; have A := B.base; have h0B := B.mem.len; N hX 2 A rfl rfl fun A => q_eff A rfl (ifcE rfl rfl rfl rfl (by kernel_rfl)) fun A => N hX 4 A rfl (ok_d (by show 0 ≤ ((g.length : Nat) : Int) ∧ ((g.length : Nat) : Int) ≤ ((g.length + 1 : Nat) : Int); exact (by have h15 := and15 mv; (try have hl := hJ.le); (try have hq := hJ.lm); (try have hs := hJ.s); omega)) <| okE_nil) fun A => have A := sy_sayD A 63 (.sl 5 g.length 0) rfl (fun _ => rfl); have A := A.freeze 5 rfl; have hoff := (hoB.frz rfl).now A h0B; CALLWX [5] (play_ L (IntKind.wrap .i64 ((((BitVec.ofInt (IntKind.bits .i64) mv) &&& (BitVec.ofInt (IntKind.bits .i64) 15)).toNat : Nat) : Int)) (sumP g k) (g ++ [(-77)]) g.length (g.length + 1) 0 k hM (Nat.le_succ _) (by omega) (pk77 hfin) (sum77 hJ.le)) (B.trans A) (hB.mix A.mix hkB) hoff (fun b hb => .inr (one_eq hb ▸ hlo)) rfl rfl rfl rfl rfl fun {_ _} hm hR A => TAKEB 5 A hR rfl rfl hoff hlo rfl fun A => N hX 10 A rfl rfl fun A => LOOP1 (fun (j : Nat) => [(0, .int .i64 mv), (1, .sl 0 g.length c), (4, .ff), (5, .ptr 6 0), (6, .int .i64 ((k : Nat) : Int)), (7, .int .i64 (sumP g k)), (8, .sl 5 (g.length + 1) 0), (9, .int .i64 ((k : Nat) : Int)), (10, .int .i64 (j : Int))]) (fun (j : Nat) => [some (.lst 1 g.length (fun j => [.int .i64 (g.getD j 0)])), none, none, none, some (.blk [.int .i64 (-77)]), some (.lst 1 (g.length + 1) (fun j => [.int .i64 ((g ++ [(-77)]).getD j 0)])), some (.blk [.int .i64 ((IntKind.wrap .i64 ((((BitVec.ofInt (IntKind.bits .i64) mv) &&& (BitVec.ofInt (IntKind.bits .i64) 15)).toNat : Nat) : Int)) - ((k : Nat) : Int)), .int .i64 (sumP g k)])]) (fun (j : Nat) => j ≤ g.length) (fun (j : Nat) => g.length - j) 0 (Nat.zero_le _) ((A.cut [0, 1, 4, 5, 6, 7, 8, 9, 10] rfl).trunc 7 rfl rfl rfl (by simp only [List.length_cons, List.length_nil] at h0; omega)) fun j hK {G a w} A => N hX 9 A rfl rfl fun A => forkD 68 A rfl
      (fun h3 A => N hX 6 A rfl rfl fun A => DRAWN hX hmo [] [] A rfl (ok_d (by have h15 := and15 mv; (try have hl := hJ.le); (try have hq := hJ.lm); (try have hs := hJ.s); omega) <| ok_d (by have h15 := and15 mv; (try have hl := hJ.le); (try have hq := hJ.lm); (try have hs := hJ.s); omega) <| ok_d (by have h15 := and15 mv; (try have hl := hJ.le); (try have hq := hJ.lm); (try have hs := hJ.s); omega) <| ok_d (by have h15 := and15 mv; (try have hl := hJ.le); (try have hq := hJ.lm); (try have hs := hJ.s); omega) <| okE_nil) rfl rfl (by kernel_rfl) (effAll_nil _ _) trivial fun A => N hX 1 A rfl rfl fun A => forkN 79 A rfl
       (fun h4 A => absurd (getD_app_l (by omega)) h4)
       (fun h4 A => N hX 9 A rfl (ok_d (by have h15 := and15 mv; (try have hl := hJ.le); (try have hq := hJ.lm); (try have hs := hJ.s); omega) <| okE_nil) fun A => ⟨j + 1, _, (by omega), (by omega), ((A.cut [0, 1, 4, 5, 6, 7, 8, 9, 10] rfl).trunc 7 rfl rfl rfl (by simp only [List.length_cons, List.length_nil] at h0; omega)).sayT (by rfl)⟩))
      (fun h3 A => N hX 39 A rfl (ok_r <| ok_r <| ok_r <| ok_r <| ok_r <| ok_r <| ok_r <| ok_r <| ok_r <| ok_r <| ok_r <| ok_r <| ok_g (fun hg => (by have h15 := and15 mv; (try have hl := hJ.le); (try have hq := hJ.lm); (try have hs := hJ.s); (try simp at hg); omega)) <| ok_r <| ok_r <| ok_r <| ok_r <| ok_r <| ok_r <| ok_g (fun hg => (by have h15 := and15 mv; (try have hl := hJ.le); (try have hq := hJ.lm); (try have hs := hJ.s); (try simp at hg); omega)) <| ok_r <| ok_g (fun hg => (by have h15 := and15 mv; (try have hl := hJ.le); (try have hq := hJ.lm); (try have hs := hJ.s); (try simp at hg); omega)) <| ok_r <| ok_r <| okE_nil) fun A => RETN hX A rfl rfl rfl h0 rfl rfl rfl rfl (congrArg SV.bool (by rw [g77 (g := g)]; simp)) rfl)))
end Go.Proofs.Ytiglneecmibgmaa
/- From what is laid to contracts: lists that came in. -/
namespace Go.Proofs.Ytiglneecmibgmaa
open Go.RowKit
set_option linter.unusedVariables false
set_option linter.unusedSimpArgs false
/-- memory of which nothing is turned -/
theorem mem_ro {H : Hp} {G : Gr} {w : World} (hl : H.length = G.length) (h : ∀ (i : Nat) (e : Ent), H[i]? = some (some e) → e.mut = false ∧ EntOK G w ((G[i]?).getD none) e) : Mem H G w :=
  ⟨hl, fun i e he => (h i e he).2, fun i j e f L M _ he _ hm => by rw [(h i e he).1] at hm; cases hm⟩
/-- a slice that is laid, as a list -/
theorem lst_of {α : Type} {enc : α → List Value} {f : Nat → List SV} {s B n cap : Nat} {w : World} {l : List α} {bo : Option (Nat × Nat)} (h : Sl enc s B w (.slice (bo.map fun x => ⟨x.1, x.2, none⟩) n cap) l) (hB : B ≤ w.heap.size)
    (hf : ∀ k x, l[k]? = some x → denL [] (f k) = some (enc x)) (htot : ∀ k, ∃ vs, denL [] (f k) = some vs) :
    n = l.length ∧ ∀ (G F : Gr), den (G ++ (bo.map fun x => (⟨x.1, List.replicate x.2 undef, [], 0⟩ : Loc)) :: F) (.sl G.length l.length cap) = some (.slice (bo.map fun x => ⟨x.1, x.2, none⟩) n cap) ∧ EntOK (G ++ (bo.map fun x => (⟨x.1, List.replicate x.2 undef, [], 0⟩ : Loc)) :: F) w (bo.map fun x => (⟨x.1, List.replicate x.2 undef, [], 0⟩ : Loc)) (.lst s l.length f) := by
  obtain ⟨ao, cap', hv, hlc, he⟩ := h
  simp only [Value.slice.injEq] at hv
  obtain ⟨rfl, rfl, rfl⟩ := hv
  refine ⟨rfl, fun G F => ⟨?_, htot, ?_⟩⟩
  · unfold den
    rw [List.getElem?_append_right (Nat.le_refl _)]
    cases bo <;> simp [rm]
  · cases bo with
    | none =>
      left
      cases l with
      | nil => rfl
      | cons x l => obtain ⟨b, o, h1, _⟩ := he 0 x rfl; cases h1
    | some x =>
      obtain ⟨b, o⟩ := x
      cases hl : l with
      | nil => left; rfl
      | cons y l' =>
        right
        have hb : b < B := by
          obtain ⟨b', o', h1, h2, _⟩ := he 0 y (by rw [hl]; rfl)
          cases h1; exact h2
        refine ⟨_, rfl, (by show b < _; omega), fun k hk => ?_⟩
        have hk' : k < l.length := by rw [hl]; exact hk
        obtain ⟨b', o', h1, h2, h3⟩ := he k l[k] (by simp [hk'])
        cases h1
        exact ⟨_, hf k l[k] (by simp [hk']), by simpa using h3⟩
/-- a call that was handed nothing to turn leaves memory grown -/
theorem post_ro {x : SV} {H H2 : Hp} {G : Gr} {w w' : World} {e : Ending} (h : Post (Rt x H2) H G w e w') (hro : ∀ (i : Nat) (e : Ent), H[i]? = some (some e) → e.mut = false) : ∃ v F, den (G ++ F) x = some v ∧ e = .returned v ∧ Mem H2 (G ++ F) w' ∧ Grow w w' := by
  obtain ⟨y, H', F, v, ⟨rfl, rfl⟩, h1, h2, h3, hmix, _⟩ := h
  have hk : ∀ k, (keys H G).contains k = false := fun k => by
    cases hc : (keys H G).contains k with
    | false => rfl
    | true =>
      obtain ⟨i, e', L, q1, q2, _⟩ := mem_keys.1 hc
      rw [hro i e' q1] at q2; cases q2
  exact ⟨v, F, h1, h2, h3, ⟨hmix.os, hmix.tape, hmix.output, hmix.size, fun k hk' => hmix.block k hk' (hk k)⟩⟩
end Go.Proofs.Ytiglneecmibgmaa
/- How numbers that are handed in are read. -/
namespace Go.Proofs.Ytiglneecmibgmaa
set_option linter.unusedSimpArgs false
set_option linter.unusedVariables false
set_option maxRecDepth 100000
open Go.ChangeShapes Go.WideShapes Go.ChangeAt Go.RowKit Go.Deep

abbrev inR (n : Int) : Prop := -9223372036854775808 ≤ n ∧ n ≤ 9223372036854775807
section
variable {H : Type} {enc : TypeId × Value → H} {W : World} {base : Nat} {spare : Nat → Bool} {held : Bool} {base' : Nat}
theorem open_list {α : Type} [Inhabited α] {en : α → List Value} {Q : α → Prop} {t e s : Nat} {v : Value} {d : DataW H} {ps : List MemPlace} (ht : Try.prog.underlying t = some (.slice e)) (hc : Try.prog.cellsOf e = s) (h0 : 0 < s)
    (hel : ∀ cs n x, DataW.trod enc Try.prog W base' spare held n e cs = some x → cs.length = s → ∃ y : α, cs = en y ∧ Q y)
    (hv : Value.okWide Try.prog W .any base t v) (h : DataW.Trod enc Try.prog W base' spare held t v d ps) :
    ∃ (ao : Option Addr) (l : List α) (cap : Nat), v = .slice ao l.length cap ∧ l.length ≤ maxLen ∧ Sl en s W.heap.size W v l ∧ ∀ y ∈ l, Q y := by
  obtain ⟨a0, len0, cap0, rfl⟩ := okWide_slice ht hv
  obtain ⟨fuel, hf⟩ := h
  rcases open_slice ht hf with ⟨hcs, _⟩ | ⟨a, len, cap, m, n, D, Pl, hcs, hb, hl, hm, hmm, _, hx⟩
  · simp [Value.cells] at hcs
    obtain ⟨rfl, rfl, rfl⟩ := hcs
    exact ⟨none, [], 0, rfl, by simp, Sl.nil, fun y hy => by cases hy⟩
  · simp [Value.cells] at hcs
    obtain ⟨rfl, rfl, rfl⟩ := hcs
    have hlm : len0 ≤ m := by rw [hmm]; split <;> omega
    rw [hc] at hx
    obtain ⟨Y, hY⟩ := choose_lt (α := α) (n := len0) (p := fun i y => Q y ∧ (en y).length = s ∧ ∀ k, k < s → W.cell? ((a.add (i * s)).add k) = (en y)[k]?) (fun i hi => by
      obtain ⟨cs', h1, h2⟩ := hx i (by omega)
      obtain ⟨_, hlen, hcell⟩ := World.cells?_some h1
      obtain ⟨y, rfl, hq⟩ := hel cs' n _ h2 hlen
      exact ⟨y, hq, hlen, hcell⟩)
    have hlen : ((List.range len0).map Y).length = len0 := by simp
    refine ⟨some a, (List.range len0).map Y, cap0, by rw [hlen], by rw [hlen]; omega, ⟨some a, cap0, by rw [hlen], by rw [hlen]; exact hl, fun j x hj => ?_⟩, fun y hy => ?_⟩
    · have hjl : j < len0 := by have := (List.getElem?_eq_some_iff.1 hj).1; simpa using this
      have hxe : x = Y j := by simp [hjl] at hj; exact hj.symm
      subst hxe
      obtain ⟨_, hyl, hcell⟩ := hY j hjl
      obtain ⟨b, o, spot⟩ := a
      obtain ⟨_, hy0, hcell0⟩ := hY 0 (by omega)
      have h00 := hcell0 0 h0
      rw [List.getElem?_eq_getElem (by omega)] at h00
      have hspot : spot = none := by simpa [Addr.add] using World.cell?_spot h00
      subst hspot
      refine ⟨b, o, rfl, ?_, fun k u hu => ?_⟩
      · have := World.block_lt_of_cell? W _ h00
        rw [Addr.add_mid, Addr.add_mid] at this
        exact this
      · have hk : k < s := by have := (List.getElem?_eq_some_iff.1 hu).1; omega
        have := hcell k hk
        rw [hu, Addr.add_mid, Addr.add_mid] at this
        exact this
    · obtain ⟨i, hi, rfl⟩ := List.mem_map.1 hy
      exact (hY i (by simpa using hi)).1

theorem slice_bo {t e n cap : Nat} {ao : Option Addr} (ht : Try.prog.underlying t = some (.slice e)) (hv : Value.okWide Try.prog W .any base t (.slice ao n cap)) : ∃ bo : Option (Nat × Nat), ao = bo.map fun x => ⟨x.1, x.2, none⟩ := by
  cases ao with
  | none => exact ⟨none, rfl⟩
  | some a =>
    unfold Value.okWide at hv
    rw [ht] at hv
    simp only [Cell.okWide, ht, Cell.ok] at hv
    obtain ⟨b, o, s⟩ := a
    have : s = none := hv.2.2.2.1
    subst this
    exact ⟨some (b, o), rfl⟩
theorem wf_rng {n : Int} (h : (Lit.int .i64 n).wf = true) : -9223372036854775808 ≤ n ∧ n ≤ 9223372036854775807 := by
  have h' : (decide ((IntKind.i64).min ≤ n) && decide (n ≤ (IntKind.i64).max)) = true := h
  rw [Bool.and_eq_true, decide_eq_true_eq, decide_eq_true_eq, show (IntKind.i64).min = -9223372036854775808 from rfl, show (IntKind.i64).max = 9223372036854775807 from rfl] at h'
  exact h'
theorem open_num (cs : List Value) (n : Nat) (x : DataW H × List MemPlace) (h : DataW.trod enc Try.prog W base' spare held n 3 cs = some x) (_ : cs.length = 1) : ∃ y : Int, cs = [.int .i64 y] ∧ inR y := by
  obtain ⟨m, h2, _, h3⟩ := DataW.trod_int Try.underlying3 h
  exact ⟨m, h2, wf_rng h3⟩
theorem open_nums {v : Value} {d : DataW H} {ps : List MemPlace} (hv : Value.okWide Try.prog W .any base 22 v) (h : DataW.Trod enc Try.prog W base' spare held 22 v d ps) :
    ∃ (bo : Option (Nat × Nat)) (l : List Int) (cap : Nat), v = .slice (bo.map fun x => ⟨x.1, x.2, none⟩) l.length cap ∧ Sl (fun y : Int => [.int .i64 y]) 1 W.heap.size W v l ∧ ∀ y ∈ l, inR y := by
  obtain ⟨ao, l, cap, rfl, _, hs, hq⟩ := open_list (α := Int) (en := fun y : Int => [Value.int .i64 y]) (Q := inR) (t := 22) (e := 3) (s := 1) (by kernel_rfl) (by kernel_rfl) (by omega) open_num hv h
  obtain ⟨bo, rfl⟩ := slice_bo (t := 22) (e := 3) (by kernel_rfl) hv
  exact ⟨bo, l, cap, rfl, hs, hq⟩
end
theorem lstN_of {bo : Option (Nat × Nat)} {n cap : Nat} {w : World} {l : List Int} (h : Sl (fun y : Int => [.int .i64 y]) 1 w.heap.size w (.slice (bo.map fun x => ⟨x.1, x.2, none⟩) n cap) l) : n = l.length ∧ ∀ (G F : Gr), den (G ++ (bo.map fun x => (⟨x.1, List.replicate x.2 undef, [], 0⟩ : Loc)) :: F) (.sl G.length l.length cap) = some (.slice (bo.map fun x => ⟨x.1, x.2, none⟩) n cap) ∧ EntOK (G ++ (bo.map fun x => (⟨x.1, List.replicate x.2 undef, [], 0⟩ : Loc)) :: F) w (bo.map fun x => (⟨x.1, List.replicate x.2 undef, [], 0⟩ : Loc)) (.lst 1 l.length (fun j => [.int .i64 (l.getD j 0)])) := lst_of (f := fun j => [.int .i64 (l.getD j 0)]) h (Nat.le_refl _) (fun k x hx => by show denL [] [.int .i64 (l.getD k 0)] = _; rw [List.getD_eq_getElem?_getD, hx]; rfl) (fun k => ⟨_, rfl⟩)
end Go.Proofs.Ytiglneecmibgmaa
