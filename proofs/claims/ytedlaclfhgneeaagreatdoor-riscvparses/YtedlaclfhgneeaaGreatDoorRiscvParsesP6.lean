/- RiscvParses, part 6: the engine, contracts, theory. -/
import Derived.Test.YtedlaclfhgneeaaGreatDoorRiscvParsesP5
import Derived.WalkSmall
import Derived.ProofKit
import Derived.OpenShut
import Derived.ChangeOld
namespace Go.Proofs.YtedlaclfhgneeaaGreatDoor
open Go.RowKit
set_option linter.unusedVariables false
set_option linter.unusedSimpArgs false
set_option maxRecDepth 100000
theorem ws_toks : ∀ (f : Nat) (l : List UInt8) (a : Nat) (ws : List Tk), a ≤ l.length → ws.length ≤ a → (∀ t ∈ ws, 0 ≤ t.at_ ∧ t.at_ ≤ (l.length : Int) ∧ t.text.length ≤ l.length) → (toksF f l a ws).1.length ≤ l.length ∧ ∀ t ∈ (toksF f l a ws).1, 0 ≤ t.at_ ∧ t.at_ ≤ (l.length : Int) ∧ t.text.length ≤ l.length
  | 0, l, a, ws, ha, hl, h => ⟨Nat.zero_le _, fun y hy => by cases hy⟩
  | f + 1, l, a, ws, ha, hl, h => by
    rw [toksF]
    split
    · exact ⟨Nat.zero_le _, fun y hy => by cases hy⟩
    · split
      · exact ⟨show ws.length ≤ l.length by omega, h⟩
      · next hne =>
        split
        · next hf =>
          have hs := skip_le (l.drop a)
          rw [List.length_drop] at hs
          have hn := first_len hf
          rw [List.length_drop] at hn
          refine ws_toks f l _ _ (by omega) (by simp only [List.length_append, List.length_cons, List.length_nil]; omega) fun y hy => ?_
          rcases List.mem_append.1 hy with hy | hy
          · exact h y hy
          · rw [List.mem_singleton] at hy
            subst hy
            exact ⟨by show 0 ≤ ((_ : Nat) : Int); omega, by show ((_ : Nat) : Int) ≤ _; omega, by show (firstR _).1.text.length ≤ _; omega⟩
        · exact ⟨Nat.zero_le _, fun y hy => by cases hy⟩
theorem ws_tokens {l : List UInt8} {ws : List Tk} (h : tokensR l = (ws, 0, 0)) : ws.length ≤ 8192 ∧ WsOK ws ∧ Old.WF ws := by
  have hf := Old.wf_tokens l
  rw [h] at hf
  by_cases hl : l.length > 8192
  · rw [tokens_long hl] at h
    have := congrArg (fun z => z.2.1) h
    exact absurd (show (2 : Int) = 0 from this) (by decide)
  · have hw := ws_toks (l.length + 1) l 0 [] (Nat.zero_le _) (Nat.zero_le _) (fun t ht => by cases ht)
    rw [← tokens_short (by omega), h] at hw
    refine ⟨by have := hw.1; simp only at this; omega, fun t ht => ?_, hf⟩
    have := hw.2 t ht
    exact ⟨this.1, by omega, by omega⟩
theorem fnI_ro {I : Amb} {P : Program} {f : Nat} {az : List SV} {H H' : Hp} {x : SV} (h : FnI I P f az H (Rt x H)) (hro : ∀ (i : Nat) (e : Ent), H[i]? = some (some e) → e.mut = false) (hw : ∀ G w, Mem H' G w → Mem H G w) (hJ : ∀ w G, I w (keys H' G) → I w (keys H G)) (hx : inS 0 x = true) : FnI I P f az H' (Rt x H') := by
  refine ⟨h.1, fun G w vs hM hI hv => Calls.mono (h.2 G w vs (hw G w hM) (hJ w G hI) hv) fun e w' hp => ?_⟩
  obtain ⟨v, F, h1, h2, _, hg⟩ := post_ro hp hro
  refine ⟨x, H', [], v, ⟨rfl, rfl⟩, ?_, h2, ?_, (Mix.refl _ w).grow hg, by rw [hM.len]; exact Nat.le_refl _, fun i e he _ => he, fun i e he hm L hL => ?_⟩
  · rw [← den_take x hx] at h1 ⊢; simpa using h1
  · rw [List.append_nil]; exact ⟨hM.len, fun i e he => (hM.ent i e he).mix hg.mix (fun _ _ _ => rfl), hM.sep⟩
  · rw [List.append_nil] at hL; exact .inl (mem_keys.2 ⟨i, e, L, he, hm, hL, rfl⟩)
theorem ro1 {s m : Nat} {f : Nat → List SV} : ∀ (i : Nat) (e : Ent), ([some (.lst s m f)] : Hp)[i]? = some (some e) → e.mut = false
  | 0, e, h => by cases h; rfl
  | i + 1, e, h => by simp at h
theorem mem_pre {s m m' : Nat} {f f' : Nat → List SV} (hm : m ≤ m') (hf : ∀ k, k < m → f' k = f k) (ht : ∀ k, ∃ vs, denL [] (f k) = some vs) (G : Gr) (w : World) (h : Mem [some (.lst s m' f')] G w) : Mem [some (.lst s m f)] G w := by
  refine ⟨h.len, fun i e he => ?_, fun i j e g L M hij hi hj he => ?_⟩
  · match i, he with
    | 0, he =>
      cases he
      obtain ⟨_, q⟩ := h.ent 0 _ rfl
      refine ⟨ht, ?_⟩
      rcases q with q | ⟨L, q1, q2, q3⟩
      · exact .inl (by omega)
      · exact .inr ⟨L, q1, q2, fun k hk => by rw [← hf k hk]; exact q3 k (by omega)⟩
    | i + 1, he => simp at he
  · match i, hi with
    | 0, hi => cases hi; cases he
    | i + 1, hi => simp at hi
theorem keys1 {s m : Nat} {f : Nat → List SV} (G : Gr) : keys [some (.lst s m f)] G = [] := by
  cases G with
  | nil => rfl
  | cons p G => cases p <;> rfl
end Go.Proofs.YtedlaclfhgneeaaGreatDoor
namespace Go.Proofs.YtedlaclfhgneeaaGreatDoor
open Go.RowKit
set_option linter.unusedVariables false
set_option linter.unusedSimpArgs false
set_option maxRecDepth 100000
set_option maxHeartbeats 2000000
set_option simprocs false
theorem vparse7_ (ws : List Tk) (hn : ws.length ≤ 1000000) (hw : WsOK ws) (os : List (Nat × Obj)) (hM : ∀ w ks, Gl os w ks → ∃ m, w.cell? ⟨0, 0, none⟩ = some (.int .i64 m)) : FnI (Gl os) Tryz.prog 20 [.sl 0 ws.length 0] [some (.lst 4 ((ws ++ [(⟨0, [], -77, 0⟩ : Tk)]).length) (fun zz => tkc ((ws ++ [(⟨0, [], -77, 0⟩ : Tk)]).getD zz tok0)))] (Rt (.tup [.agg (inQ9 (parI riscvG ws riscvC)), .str (parT riscvG ws riscvC), .int .i64 (parE riscvG ws riscvC), .int .i64 (parA riscvG ws riscvC)]) [some (.lst 4 ((ws ++ [(⟨0, [], -77, 0⟩ : Tk)]).length) (fun zz => tkc ((ws ++ [(⟨0, [], -77, 0⟩ : Tk)]).getD zz tok0)))]) :=
  fnI_ro (vparse_ ws 0 hn hw os hM) ro1 (mem_pre (by rw [List.length_append]; omega) (fun k hk => by show tkc _ = tkc _; rw [tk_app hk]) (fun k => ⟨_, rfl⟩)) (fun w G h => by rw [keys1] at h ⊢; exact h) rfl
theorem vparses0_ (l : List UInt8) (os : List (Nat × Obj)) (hM : ∀ w ks, Gl os w ks → ∃ m, w.cell? ⟨0, 0, none⟩ = some (.int .i64 m)) (hT : ∀ w ks, Gl os w ks → Lib.TabIs Tryz.prog w "internal/strconv.uint64pow10" .u64 Lib.pow10Tab) (hE : ∀ w ks, Gl os w ks → ∃ ev, w.cell? ⟨1, 0, none⟩ = some ev ∧ (ev = .nilIface ∨ ∃ te pe, ev = .iface te pe)) : FnI (Gl os) Tryz.prog 6 [.str l] [] (Rt (.tt) []) :=
 enterI (n := 94) (by kernel_rfl) Tryz.func6 rfl rfl rfl fun G w a h0 hI A => N hX 8 A rfl rfl fun A => CALLI [] Gl.ok hI (able6_ os hM hT hE) A rfl rfl rfl rfl rfl rfl rfl fun A => N hX 9 A rfl rfl fun A => tokSp (l := l)
  (fun ws ht => have hq := ws_tokens ht; have hn := hq.1; have hw := hq.2.1; have hf := hq.2.2; CALLI [] Gl.ok hI (tokens_ok l ws os hM hE ht) A rfl rfl rfl rfl rfl rfl rfl fun A => N hX 14 A rfl rfl fun A => have A := sy_sayD A 25 (.ff) rfl (fun _ => congrArg (fun b => some (Value.bool b)) (show (!(0 == 0)) = false by decide)); N hX 9 A rfl rfl fun A => have A := A.freeze 0 rfl; APPL hX ws.length (fun zz => tkc (ws.getD zz tok0)) A rfl rfl rfl rfl (Nat.le_refl _) (by omega) (by omega) (by omega) (fun k hk => absurd hk (Nat.not_lt_zero k)) (fun k hk => by rw [Nat.zero_add]) (fun z => ⟨_, rfl, rfl⟩) (fun k hk => ⟨_, rfl, okE_nil⟩) fun A => N hX 2 A rfl rfl fun A => APP1 hX (ws.length + 1) (fun zz => tkc ((ws ++ [(⟨0, [], -77, 0⟩ : Tk)]).getD zz tok0)) A rfl rfl rfl rfl (by omega) rfl (fun k hk => by show tkc _ = tkc _; rw [tk_app hk]) (by show tkc _ = _; rw [tk_new]; rfl) (fun z => ⟨_, rfl, rfl⟩) fun A => have A := (A.rowAs 4 ((ws ++ [(⟨0, [], -77, 0⟩ : Tk)]).length) (fun zz => tkc ((ws ++ [(⟨0, [], -77, 0⟩ : Tk)]).getD zz tok0)) rfl (by rw [List.length_append]; rfl) (fun q hq => rfl) (fun z => ⟨_, rfl, rfl⟩)).say 34 (.sl 4 ((ws ++ [(⟨0, [], -77, 0⟩ : Tk)]).length) 0) rfl (by rw [List.length_append] <;> rfl); N hX 9 A rfl (ok_d (by show 0 ≤ ((ws.length : Nat) : Int) ∧ ((ws.length : Nat) : Int) ≤ (((ws ++ [(⟨0, [], -77, 0⟩ : Tk)]).length : Nat) : Int); exact (by (try simp only [List.length_append, List.length_cons, List.length_nil]); omega)) <| okE_nil) fun A => have A := A.freeze 4 rfl; CALLI [4] Gl.ok hI (vparse7_ ws (by omega) hw os hM) A rfl rfl rfl rfl rfl rfl rfl fun A => N hX 15 A rfl rfl fun A => CALL1 [0] (rparsev_ ws 0 (by omega) hw) A rfl rfl rfl rfl rfl rfl rfl fun A => N hX 19 A rfl rfl fun A => LOOP1 (fun (i7 : Nat) => [(2, .ff), (3, .sl 0 ws.length 0), (6, .sl 4 ((ws ++ [(⟨0, [], -77, 0⟩ : Tk)]).length) 0), (7, .ptr 5 0), (8, .str (parT riscvG ws riscvC)), (9, .int .i64 (parE riscvG ws riscvC)), (10, .int .i64 (parA riscvG ws riscvC)), (11, .ptr 6 0), (12, .str ((parV ws).2.1)), (13, .int .i64 ((parV ws).2.2.1)), (14, .int .i64 ((parV ws).2.2.2)), (15, .int .i64 (i7 : Int))]) (fun (i7 : Nat) => [some (.lst 4 ws.length (fun zz => tkc (ws.getD zz tok0))), none, none, some (.blk [.int .i64 0, .str [], .int .i64 (-77), .int .i64 0]), some (.lst 4 ((ws ++ [(⟨0, [], -77, 0⟩ : Tk)]).length) (fun zz => tkc ((ws ++ [(⟨0, [], -77, 0⟩ : Tk)]).getD zz tok0))), some (.blk (inQ9 (parI riscvG ws riscvC))), some (.blk (oiQ9 ((parV ws).1)))]) (fun (i7 : Nat) => i7 ≤ ws.length) (fun (i7 : Nat) => ws.length - i7) 0 (Nat.zero_le _) ((A.cut [2, 3, 6, 7, 8, 9, 10, 11, 12, 13, 14, 15] rfl).trunc 7 rfl rfl rfl (by simp only [List.length_cons, List.length_nil] at h0; omega)) fun i7 hI {G a w} A => N hX 9 A rfl rfl fun A => forkD 55 A rfl
    (fun h1 A => N hX 6 A rfl rfl fun A => DRAWN hX hmo [] [] A rfl (ok_d (by (try simp only [List.length_append, List.length_cons, List.length_nil]); omega) <| ok_d (by (try simp only [List.length_append, List.length_cons, List.length_nil]); omega) <| ok_d (by (try simp only [List.length_append, List.length_cons, List.length_nil]); omega) <| ok_d (by (try simp only [List.length_append, List.length_cons, List.length_nil]); omega) <| okE_nil) rfl rfl (by kernel_rfl) (effAll_nil _ _) trivial fun A => N hX 1 A rfl rfl fun A => fork 66 A rfl
     (fun h2 A => N hX 7 A rfl rfl fun A => RETN hX A rfl rfl rfl h0 rfl rfl rfl rfl (absurd h2 (by rw [tk_app (ws := ws) (x := (⟨0, [], -77, 0⟩ : Tk)) (k := ((i7 : Int)).toNat) (show ((i7 : Int)).toNat < ws.length by omega)]; simp)) rfl)
     (fun h2 A => N hX 9 A rfl (ok_d (by (try simp only [List.length_append, List.length_cons, List.length_nil]); omega) <| okE_nil) fun A => ⟨i7 + 1, _, (by omega), (by omega), ((A.cut [2, 3, 6, 7, 8, 9, 10, 11, 12, 13, 14, 15] rfl).trunc 7 rfl rfl rfl (by simp only [List.length_cons, List.length_nil] at h0; omega))⟩))
    (fun h1 A => N hX 36 A rfl (ok_r <| ok_r <| ok_r <| ok_r <| ok_r <| ok_r <| ok_r <| ok_r <| ok_r <| ok_r <| ok_r <| ok_r <| ok_g (fun hg => (by (try simp only [List.length_append, List.length_cons, List.length_nil]); omega)) <| ok_r <| ok_g (fun hg => (by (try simp only [List.length_append, List.length_cons, List.length_nil]); omega)) <| ok_r <| ok_g (fun hg => (by (try simp only [List.length_append, List.length_cons, List.length_nil]); omega)) <| ok_r <| ok_r <| okE_nil) fun A => RETN hX A rfl rfl rfl h0 rfl rfl rfl rfl (by have hb : ((((((((parI riscvG ws riscvC).op) == (((parV ws).1).op)) && ((((parI riscvG ws riscvC).dst) == (((parV ws).1).dst)) && ((((parI riscvG ws riscvC).ra) == (((parV ws).1).a)) && ((((parI riscvG ws riscvC).rb) == (((parV ws).1).b)) && ((((parI riscvG ws riscvC).imm) == (((parV ws).1).imm)) && ((((parI riscvG ws riscvC).loc) == (((parV ws).1).loc)) && ((((parI riscvG ws riscvC).off) == (((parV ws).1).off)) && ((((parI riscvG ws riscvC).ix) == (((parV ws).1).index)) && ((((parI riscvG ws riscvC).sz) == (((parV ws).1).size)) && ((((parI riscvG ws riscvC).fn) == (((parV ws).1).fn)) && ((((parI riscvG ws riscvC).acq) == (((parV ws).1).acq)) && ((((parI riscvG ws riscvC).weak) == (((parV ws).1).weak)) && ((((parI riscvG ws riscvC).rel) == (((parV ws).1).rel)) && ((((parI riscvG ws riscvC).pred) == (((parV ws).1).pred)) && ((((parI riscvG ws riscvC).succ) == (((parV ws).1).succ)) && ((((parI riscvG ws riscvC).to_) == (((parV ws).1).to)) && (((parI riscvG ws riscvC).zero) == (((parV ws).1).zero)))))))))))))))))) && ((parT riscvG ws riscvC) == ((parV ws).2.1))) && ((parE riscvG ws riscvC) == ((parV ws).2.2.1))) && ((parA riscvG ws riscvC) == ((parV ws).2.2.2))) && ((((ws ++ [(⟨0, [], -77, 0⟩ : Tk)]).getD ((((ws.length : Nat) : Int)).toNat) tok0).n) == (-77))) = true := (by rw [← parv_ref hw hf, show ((((ws.length : Nat) : Int)).toNat) = ws.length from rfl, tk_new]; set_option simprocs true in simp [toO]); rw [hb]; rfl) rfl))
  (fun e k he ht => CALLI [] Gl.ok hI (tokens_no l e k os hM hE ht he) A rfl rfl rfl rfl rfl rfl rfl fun A => N hX 14 A rfl rfl fun A => have A := sy_sayD A 25 (.tt) rfl (fun _ => congrArg (fun b => some (Value.bool b)) (show (!(e == 0)) = true by simpa using he)); N hX 12 A rfl rfl fun A => RETN hX A rfl rfl rfl h0 rfl rfl rfl rfl rfl rfl)
theorem vparses_ (l : List UInt8) (os : List (Nat × Obj)) (hM : ∀ w ks, Gl os w ks → ∃ m, w.cell? ⟨0, 0, none⟩ = some (.int .i64 m)) (hT : ∀ w ks, Gl os w ks → Lib.TabIs Tryz.prog w "internal/strconv.uint64pow10" .u64 Lib.pow10Tab) (hE : ∀ w ks, Gl os w ks → ∃ ev, w.cell? ⟨1, 0, none⟩ = some ev ∧ (ev = .nilIface ∨ ∃ te pe, ev = .iface te pe)) (h1 : l.length ≤ 140737488355328) : FnI (Gl os) Tryz.prog 6 [.str l] [] (Rt .tt []) := vparses0_ l os hM hT hE
end Go.Proofs.YtedlaclfhgneeaaGreatDoor
namespace Go.Proofs.YtedlaclfhgneeaaGreatDoor
open Go.ChangeShapes Go.WideShapes Go.ChangeAt Go.RowKit
set_option linter.unusedVariables false
set_option linter.unusedSimpArgs false
set_option maxRecDepth 100000
theorem tab_fac {W : World} (h : Lib.TabIs Tryz.prog W "internal/strconv.uint64pow10" .u64 Lib.pow10Tab) : ∃ o, W.heap[5]? = some o ∧ ∀ w : World, w.heap[5]? = some o → Lib.TabIs Tryz.prog w "internal/strconv.uint64pow10" .u64 Lib.pow10Tab := by
  have hg : Tryz.prog.globalNamed "internal/strconv.uint64pow10" = some 5 := by kernel_rfl
  cases ho : W.heap[5]? with
  | none => unfold Lib.TabIs World.var? at h; rw [hg] at h; simp [ho] at h
  | some o =>
    refine ⟨o, rfl, fun w hw => ?_⟩
    unfold Lib.TabIs World.var? at h ⊢
    rw [hg] at h ⊢
    simp only [Option.bind_some, ho, hw] at h ⊢
    exact h
theorem cell_fac {W : World} {b k : Nat} {v : Value} (h : W.cell? ⟨b, k, none⟩ = some v) : ∃ o, W.heap[b]? = some o ∧ ∀ w : World, w.heap[b]? = some o → w.cell? ⟨b, k, none⟩ = some v := by
  cases ho : W.heap[b]? with
  | none => unfold World.cell? at h; simp [ho] at h
  | some o =>
    refine ⟨o, rfl, fun w hw => ?_⟩
    unfold World.cell? at h ⊢
    simp only [ho, hw] at h ⊢
    exact h
theorem call_of {f : Nat} {args : List SV} {vs : List Value} {W : World} (hT : Lib.TabIs Tryz.prog W "internal/strconv.uint64pow10" .u64 Lib.pow10Tab) (m0 : Int) (hm : W.cell? ⟨0, 0, none⟩ = some (.int .i64 m0)) (ev : Value) (he : W.cell? ⟨1, 0, none⟩ = some ev) (hev : ev = .nilIface ∨ ∃ te pe, ev = .iface te pe) (hv : denL [] args = some vs)
    (h : ∀ os : List (Nat × Obj), (∀ w ks, Gl os w ks → ∃ m, w.cell? ⟨0, 0, none⟩ = some (.int .i64 m)) → (∀ w ks, Gl os w ks → Lib.TabIs Tryz.prog w "internal/strconv.uint64pow10" .u64 Lib.pow10Tab) → (∀ w ks, Gl os w ks → ∃ ev, w.cell? ⟨1, 0, none⟩ = some ev ∧ (ev = .nilIface ∨ ∃ te pe, ev = .iface te pe)) → FnI (Gl os) Tryz.prog f args [] (Rt .tt [])) : Calls Tryz.prog f vs.toArray W fun e W' => e = .returned (.bool true) ∧ Grow W W' := by
  obtain ⟨o5, k5, c5⟩ := tab_fac hT
  obtain ⟨o0, k0, c0⟩ := cell_fac hm
  obtain ⟨o1, k1, c1⟩ := cell_fac he
  have hG : Gl [(0, o0), (1, o1), (5, o5)] W [] := fun p hp => by
    simp only [List.mem_cons, List.not_mem_nil, or_false] at hp
    rcases hp with rfl | rfl | rfl
    · exact ⟨k0, rfl⟩
    · exact ⟨k1, rfl⟩
    · exact ⟨k5, rfl⟩
  have hf := h [(0, o0), (1, o1), (5, o5)] (fun w ks hg => ⟨m0, c0 w (hg (0, o0) (by simp)).1⟩) (fun w ks hg => c5 w (hg (5, o5) (by simp)).1) (fun w ks hg => ⟨ev, c1 w (hg (1, o1) (by simp)).1, hev⟩)
  have hM : Mem [] [] W := ⟨rfl, fun i e h => by simp at h, fun i j e f L M _ h => by simp at h⟩
  refine Calls.mono (hf.2 [] W vs hM hG hv) fun e W' hp => ?_
  obtain ⟨v, F, h1, h2, _, h4⟩ := post_ro hp (fun i e he => by simp at he)
  cases h1
  exact ⟨h2, h4⟩
end Go.Proofs.YtedlaclfhgneeaaGreatDoor
