/- A region that draws its order, step by step. -/
import Derived.Test.YtedlaclfhgneeaaGreatDoorX86PrintsP5
import Derived.WalkSmall
import Derived.ProofKit
import Derived.OpenShut
import Derived.ChangeOld
namespace Go.Proofs.YtedlaclfhgneeaaGreatDoor
open Go.RowKit
set_option linter.unusedVariables false
set_option linter.unusedSimpArgs false
set_option linter.unusedSectionVars false
section
variable {P : Program} {n : Nat} {ks : List Nat} {G0 : Gr} {w0 : World} {T : List (Nat × SV)} {H : Hp} {G : Gr} {a : Act} {w w' : World} {Q : Exit → Act → World → Prop} {K : List Fr} {ops : Array Oper} {o : Oper} {rest : List Oper} {fuel i : Nat} {listed : Array Bool}
theorem any_in {id : Nat} (f : Nat) (hmo : P.follows .mixedOrders = true) (hf : ops.size = f) (A : Sy n T H ks G0 w0 G a w) (h : ∀ {w}, Sy n T H ks G0 w0 G a w → wpAny P .any ops (wpK P Q K) f (Array.replicate f false) a w) : Goal P Q K (.code (.region id ops true)) a w := by
  subst hf
  refine wp_region_any hmo ?_
  have hB1 : Ms H ks G0 w0 G w.drew := A.ms.grow (Grow.refl w).drew
  exact h (hB1.sy A.size A.defers A.get)
theorem any_at {rs : List Nat} (hr : Region.ready .any ops listed = rs) (hne : rs ≠ []) (h : ∀ i ∈ rs, wpOp P ops Q i (wpAny P .any ops Q fuel (listed.setIfInBounds i true)) a w) : wpAny P .any ops Q (fuel + 1) listed a w := by
  unfold wpAny
  rw [hr]
  exact ⟨fun e => absurd e hne, h⟩
theorem any_end (hr : Region.ready .any ops listed = []) (h : Goal P Q K .norm a w) : wpAny P .any ops (wpK P Q K) fuel listed a w := by
  cases fuel with
  | zero => exact ⟨hr, h⟩
  | succ f =>
    unfold wpAny
    rw [hr]
    exact ⟨fun _ => h, fun i hi => by cases hi⟩
theorem any_does (ho : ops[i]? = some o) (h : Does P ops o a w fun v w' => wpAny P .any ops Q fuel (listed.setIfInBounds i true) (a.put o.dst v) w') : wpOp P ops Q i (wpAny P .any ops Q fuel (listed.setIfInBounds i true)) a w := by
  unfold wpOp
  rcases h with ⟨hw, h⟩ | ⟨hw, h⟩
  · simp only [ho, hw, if_true]
    refine .inl (Oper.wp_mono (fun a2 w2 h => ?_) (h Q))
    obtain ⟨v, rfl, h1⟩ := h
    exact h1
  · simp only [ho, hw, Bool.false_eq_true, if_false]
    exact h
theorem any_eff {x : SV} {H' : Hp} (ho : ops[i]? = some o) (A : Sy n T H ks G0 w0 G a w) (hd : fitsD n o.dst = true) (h : EffOK P n ops ks G0 w0 T H o x H') (hk : ∀ {G a w}, Sy n (extS T o.dst x) H' ks G0 w0 G a w → wpAny P .any ops Q fuel (listed.setIfInBounds i true) a w) : wpOp P ops Q i (wpAny P .any ops Q fuel (listed.setIfInBounds i true)) a w := by
  refine any_does ho ?_
  rcases h G a w A with ⟨hw, h⟩ | ⟨hw, F, h1, h2⟩
  · refine .inl ⟨hw, fun Q' => ?_⟩
    refine Oper.wp_mono (fun a' w' hh => ?_) (h Q')
    obtain ⟨v, rfl, F, h1, h2⟩ := hh
    exact ⟨v, rfl, hk (Sy.put (h2.sy A.size A.defers fun t y hy => den_mono F y (A.get t y hy)) hd h1)⟩
  · exact .inr ⟨hw, hk (Sy.put (h2.sy A.size A.defers fun t y hy => den_mono F y (A.get t y hy)) hd h1)⟩
/-- a call whose results lie in new memory, as a Does -/
theorem does_R {f : Nat} {J : SV → World → World → Prop} {K : Value → World → Prop} (hf : FnR P f [] [] J) (A : Sy n T H ks G0 w0 G a w) (h1 : callS n ops T o = some (f, []))
    (hk : ∀ x v w', J x w w' → (∀ k, (keys H G).contains k = true → k < w.heap.size) → Sy n (extS T o.dst x) H ks G0 w0 G (a.put o.dst v) w' → K v w') : Does P ops o a w K := by
  obtain ⟨hd, us, hu, hdo⟩ := callS_do (P := P) (ops := ops) A h1 hf.1
  have hu' : us = [] := by cases hu; rfl
  subst hu'
  have hM : Mem [] [] w := ⟨rfl, fun i e h => by simp at h, fun i j e f L M _ h => by simp at h⟩
  refine hdo (hf.2 [] w [] hM rfl) fun e w' he => ?_
  obtain ⟨x, v, e1, rfl, hg, hJ⟩ := he
  refine ⟨v, rfl, hk x v _ hJ (fun k hz => ?_) (Sy.put ⟨A.size, A.defers, A.get, ⟨A.mem.len, fun i e hi => (A.mem.ent i e hi).mix hg.mix (fun _ _ _ => rfl), A.mem.sep⟩, A.pre, A.own, A.mix.grow hg⟩ hd (by simpa using den_mono G x e1))⟩
  obtain ⟨i, e, L, q1, q2, q3, q4⟩ := mem_keys.1 hz
  have := A.mem.ent i e q1
  rw [q3] at this
  rw [← q4]; exact EntOK.lt this (mut_full q2)
theorem any_agg {β : Type} {e s m t f : Nat} {l : List SV} {F : β → Nat → List SV} {R : β → Nat → World → World → Prop} (ho : ops[i]? = some o) (hf : FnR P f [] [] (fun x w w' => ∃ (L : β) (b cp : Nat), x = .agg (l ++ [.sla (some ⟨b, 0, none⟩) m cp]) ∧ R L b w w' ∧ w.heap.size ≤ b ∧ Given e s m (F L) b cp w')) (A : Sy n T H ks G0 w0 G a w) (hd : o.dst = some t) (h1 : callS n ops T o = some (f, []))
    (k : ∀ L b cp a' w' G', R L b w w' → w.heap.size ≤ b → (∀ k, (keys (H ++ [some (.row e s m 0 (F L))]) G').contains k = true → k < w.heap.size ∨ k = b) → Sy n ((t, .agg (l ++ [.sl H.length m 0])) :: extS T o.dst (.agg (l ++ [.sla (some ⟨b, 0, none⟩) m cp]))) (H ++ [some (.row e s m 0 (F L))]) ks G0 w0 G' a' w' → wpAny P .any ops Q fuel (listed.setIfInBounds i true) a' w') : wpOp P ops Q i (wpAny P .any ops Q fuel (listed.setIfInBounds i true)) a w := by
  refine any_does ho (does_R hf A h1 fun x v w' hJ hk A' => ?_)
  obtain ⟨L, b, cp, rfl, hR, hlo, hg⟩ := hJ
  have hl : look (extS T o.dst (.agg (l ++ [.sla (some ⟨b, 0, none⟩) m cp]))) t = some (.agg (l ++ [.sla (some ⟨b, 0, none⟩) m cp])) := by rw [hd]; simp [extS, look, Nat.beq_refl]
  have hlen := A'.mem.len
  have A2 := A'.takeRowG t (y := .agg (l ++ [.sl H.length m 0])) hg (fun i e L q1 q2 q3 => by
    have := A.mem.ent i e q1
    rw [q2] at this
    have := EntOK.lt this q3
    omega) (Nat.le_trans A.mix.size hlo) hl (by
      unfold den
      rw [denL_last (y := .sla (some ⟨b, 0, none⟩) m cp)]
      unfold den
      rw [List.getElem?_append_right (by omega), hlen]
      simp [rm])
  refine k L b cp _ w' _ hR hlo (fun q hq => ?_) A2
  obtain ⟨i, e', L', q1, q2, q3, q4⟩ := mem_keys.1 hq
  by_cases hi : i < H.length
  · rw [List.getElem?_append_left hi] at q1
    rw [List.getElem?_append_left (by omega)] at q3
    exact .inl (hk q (mem_keys.2 ⟨i, e', L', q1, q2, q3, q4⟩))
  · have hi2 : i = H.length := by
      have := (List.getElem?_eq_some_iff.1 q1).1
      simp at this; omega
    subst hi2
    rw [List.getElem?_append_right (by omega), hlen] at q3
    simp at q3
    subst q3
    exact .inr q4.symm
end
end Go.Proofs.YtedlaclfhgneeaaGreatDoor
/- x86.Print. -/
namespace Go.Proofs.YtedlaclfhgneeaaGreatDoor
open Go.RowKit
set_option linter.unusedVariables false
set_option linter.unusedSimpArgs false
set_option maxRecDepth 100000
set_option maxHeartbeats 2000000
set_option simprocs false
section
variable {g : Lg} {L : List Rw} {i : In} {lb : List UInt8}
theorem cn_find : ∀ (L : List Rw), (L.map cn).find? (rowP i) = (L.find? (rowP i)).map cn
  | [] => rfl
  | r :: L => by
    rw [List.map_cons, List.find?_cons, List.find?_cons]
    have e : rowP i (cn r) = rowP i r := rfl
    rw [e]
    split
    · rfl
    · exact cn_find L
theorem cn_rowR : rowR (L.map cn) i = cn (rowR L i) := by
  unfold rowR; rw [cn_find]; cases L.find? (rowP i) <;> rfl
theorem cn_rowQ : rowQ (L.map cn) i = rowQ L i := by
  unfold rowQ; rw [cn_find]; cases L.find? (rowP i) <;> rfl
theorem cn_prP : prP g (L.map cn) i lb = prP g L i lb := by
  unfold prP; rw [cn_rowR, cn_rowQ]; rfl
theorem x86_pr (h : L.map tm = x86T) : prP x86G L i lb = prP x86G x86C i lb := by
  have := cn_prP (g := x86G) (L := L) (i := i) (lb := lb)
  rw [cn_tm h] at this
  exact this.symm
end
theorem xprint_ (i : In) (lb : List UInt8) (os : List (Nat × Obj)) (hM : ∀ w ks, Gl os w ks → ∃ m, w.cell? ⟨0, 0, none⟩ = some (.int .i64 m)) (hT : ∀ w ks, Gl os w ks → Lib.TabIs Tryz.prog w "internal/strconv.uint64pow10" .u64 Lib.pow10Tab) (hE : ∀ w ks, Gl os w ks → ∃ ev, w.cell? ⟨1, 0, none⟩ = some ev ∧ (ev = .nilIface ∨ ∃ te pe, ev = .iface te pe)) (hp : ∀ L : List Rw, L.map tm = x86T → PrOK x86G L i lb) : FnI (Gl os) Tryz.prog 13 [.agg (inQ9 i), .str lb] [] (Rt (.tup [.str ((prP x86G x86C i lb).1), .int .i64 ((prP x86G x86C i lb).2)]) []) :=
 enterI (n := 12) (by kernel_rfl) Tryz.func13 rfl rfl rfl fun G w a h0 hI A => N hX 8 A rfl rfl fun A => any_in 8 hmo rfl A fun A => any_at (rs := [0, 1, 2]) (by kernel_rfl) (by decide) (List.forall_mem_cons.2 ⟨any_agg (t := 6) (l := [.str [82, 65, 88], .str [82, 66, 88], .str [82, 67, 88], .str [82, 68, 88], .str [82, 83, 73], .str [82, 68, 73], .str [82, 56], .str [82, 57], .str [66], .str [87], .str [76], .str [81], .str [36], .str [], .str [], .str []]) (F := fun (L : List Rw) zz => rwc (L.getD zz Rw.z)) (R := fun L b w w' => L.map tm = x86T ∧ RowsIn w.heap.size L w' [b]) rfl xlang_ A rfl rfl fun L b cp a1 w1 G1 hR hlo hkk A => have hl20 : L.length = 20 := (by have q := congrArg List.length hR.1; rw [List.length_map] at q; exact q.trans (by decide +kernel)); have hRI := rows_keys hR.2 hkk; have B0 := A; have A := A.base; have A := A.rowAs 1 L.length (fun zz => rwc (L.getD zz Rw.z)) rfl hl20 (fun _ _ => rfl) (fun z => ⟨_, rfl, rfl⟩); have A := A.say 6 (.agg [.str [82, 65, 88], .str [82, 66, 88], .str [82, 67, 88], .str [82, 68, 88], .str [82, 83, 73], .str [82, 68, 73], .str [82, 56], .str [82, 57], .str [66], .str [87], .str [76], .str [81], .str [36], .str [], .str [], .str [], .sl 1 L.length 0]) rfl (by rw [hl20] <;> rfl); have A := A.freeze 1 rfl; have hTb := RowsIn.ok.now A hRI; have B := B0.trans A; have A := A.base; have hI2 : PrI os L _ _ := ⟨fun r hr => (hTb r hr).1, Gl.ok.now B hI⟩; any_at (rs := [1, 2]) (by kernel_rfl) (by decide) (List.forall_mem_cons.2 ⟨any_eff (x := .agg (inQ9 i)) (H' := [some (.blk (inQ9 i)), some (.lst 20 L.length (fun zz => rwc (L.getD zz Rw.z)))]) rfl A rfl (eff_auto (X := ⟨_, true⟩) (out := .val _ _) hX rfl rfl) fun A => any_at (rs := [2]) (by kernel_rfl) (by decide) (List.forall_mem_cons.2 ⟨any_eff (x := .str lb) (H' := [some (.blk (inQ9 i)), some (.lst 20 L.length (fun zz => rwc (L.getD zz Rw.z)))]) rfl A rfl (eff_auto (X := ⟨_, true⟩) (out := .val _ _) hX rfl rfl) fun A => any_at (rs := [3]) (by kernel_rfl) (by decide) (List.forall_mem_cons.2 ⟨any_eff (x := .tup [.str ((prP x86G L i lb).1), .int .i64 ((prP x86G L i lb).2)]) (H' := [some (.blk (inQ9 i)), some (.lst 20 L.length (fun zz => rwc (L.getD zz Rw.z)))]) rfl A rfl (callIE [1] PrI.ok hI2 (lprint_ x86G L 0 i lb os hM hT hE (hp L hR.1)) rfl rfl rfl rfl rfl rfl rfl) fun A => any_at (rs := [4, 5]) (by kernel_rfl) (by decide) (List.forall_mem_cons.2 ⟨any_eff (x := .str ((prP x86G L i lb).1)) (H' := [some (.blk (inQ9 i)), some (.lst 20 L.length (fun zz => rwc (L.getD zz Rw.z)))]) rfl A rfl (eff_auto (X := ⟨_, true⟩) (out := .val _ _) hX rfl rfl) fun A => any_at (rs := [5]) (by kernel_rfl) (by decide) (List.forall_mem_cons.2 ⟨any_eff (x := .int .i64 ((prP x86G L i lb).2)) (H' := [some (.blk (inQ9 i)), some (.lst 20 L.length (fun zz => rwc (L.getD zz Rw.z)))]) rfl A rfl (eff_auto (X := ⟨_, true⟩) (out := .val _ _) hX rfl rfl) fun A => any_at (rs := [6]) (by kernel_rfl) (by decide) (List.forall_mem_cons.2 ⟨any_eff (x := .str ((prP x86G L i lb).1)) (H' := [some (.blk (inQ9 i)), some (.lst 20 L.length (fun zz => rwc (L.getD zz Rw.z)))]) rfl A rfl (eff_auto (X := ⟨_, true⟩) (out := .val _ _) hX rfl rfl) fun A => any_at (rs := [7]) (by kernel_rfl) (by decide) (List.forall_mem_cons.2 ⟨any_eff (x := .int .i64 ((prP x86G L i lb).2)) (H' := [some (.blk (inQ9 i)), some (.lst 20 L.length (fun zz => rwc (L.getD zz Rw.z)))]) rfl A rfl (eff_auto (X := ⟨_, true⟩) (out := .val _ _) hX rfl rfl) fun A => any_end (by kernel_rfl) (N hX 2 A rfl rfl fun A => RETN hX (B.trans A) rfl rfl rfl h0 rfl rfl rfl rfl (by rw [← x86_pr hR.1] <;> rfl) rfl),
         (List.forall_mem_nil _)⟩),
        (List.forall_mem_nil _)⟩),
       (List.forall_mem_nil _)⟩),
      (List.forall_mem_cons.2 ⟨any_eff (x := .int .i64 ((prP x86G L i lb).2)) (H' := [some (.blk (inQ9 i)), some (.lst 20 L.length (fun zz => rwc (L.getD zz Rw.z)))]) rfl A rfl (eff_auto (X := ⟨_, true⟩) (out := .val _ _) hX rfl rfl) fun A => any_at (rs := [4]) (by kernel_rfl) (by decide) (List.forall_mem_cons.2 ⟨any_eff (x := .str ((prP x86G L i lb).1)) (H' := [some (.blk (inQ9 i)), some (.lst 20 L.length (fun zz => rwc (L.getD zz Rw.z)))]) rfl A rfl (eff_auto (X := ⟨_, true⟩) (out := .val _ _) hX rfl rfl) fun A => any_at (rs := [6]) (by kernel_rfl) (by decide) (List.forall_mem_cons.2 ⟨any_eff (x := .str ((prP x86G L i lb).1)) (H' := [some (.blk (inQ9 i)), some (.lst 20 L.length (fun zz => rwc (L.getD zz Rw.z)))]) rfl A rfl (eff_auto (X := ⟨_, true⟩) (out := .val _ _) hX rfl rfl) fun A => any_at (rs := [7]) (by kernel_rfl) (by decide) (List.forall_mem_cons.2 ⟨any_eff (x := .int .i64 ((prP x86G L i lb).2)) (H' := [some (.blk (inQ9 i)), some (.lst 20 L.length (fun zz => rwc (L.getD zz Rw.z)))]) rfl A rfl (eff_auto (X := ⟨_, true⟩) (out := .val _ _) hX rfl rfl) fun A => any_end (by kernel_rfl) (N hX 2 A rfl rfl fun A => RETN hX (B.trans A) rfl rfl rfl h0 rfl rfl rfl rfl (by rw [← x86_pr hR.1] <;> rfl) rfl),
         (List.forall_mem_nil _)⟩),
        (List.forall_mem_nil _)⟩),
       (List.forall_mem_nil _)⟩),
      (List.forall_mem_nil _)⟩)⟩),
     (List.forall_mem_nil _)⟩),
    (List.forall_mem_nil _)⟩),
   (List.forall_mem_cons.2 ⟨any_eff (x := .str lb) (H' := [some (.blk (inQ9 i)), some (.lst 20 L.length (fun zz => rwc (L.getD zz Rw.z)))]) rfl A rfl (eff_auto (X := ⟨_, true⟩) (out := .val _ _) hX rfl rfl) fun A => any_at (rs := [1]) (by kernel_rfl) (by decide) (List.forall_mem_cons.2 ⟨any_eff (x := .agg (inQ9 i)) (H' := [some (.blk (inQ9 i)), some (.lst 20 L.length (fun zz => rwc (L.getD zz Rw.z)))]) rfl A rfl (eff_auto (X := ⟨_, true⟩) (out := .val _ _) hX rfl rfl) fun A => any_at (rs := [3]) (by kernel_rfl) (by decide) (List.forall_mem_cons.2 ⟨any_eff (x := .tup [.str ((prP x86G L i lb).1), .int .i64 ((prP x86G L i lb).2)]) (H' := [some (.blk (inQ9 i)), some (.lst 20 L.length (fun zz => rwc (L.getD zz Rw.z)))]) rfl A rfl (callIE [1] PrI.ok hI2 (lprint_ x86G L 0 i lb os hM hT hE (hp L hR.1)) rfl rfl rfl rfl rfl rfl rfl) fun A => any_at (rs := [4, 5]) (by kernel_rfl) (by decide) (List.forall_mem_cons.2 ⟨any_eff (x := .str ((prP x86G L i lb).1)) (H' := [some (.blk (inQ9 i)), some (.lst 20 L.length (fun zz => rwc (L.getD zz Rw.z)))]) rfl A rfl (eff_auto (X := ⟨_, true⟩) (out := .val _ _) hX rfl rfl) fun A => any_at (rs := [5]) (by kernel_rfl) (by decide) (List.forall_mem_cons.2 ⟨any_eff (x := .int .i64 ((prP x86G L i lb).2)) (H' := [some (.blk (inQ9 i)), some (.lst 20 L.length (fun zz => rwc (L.getD zz Rw.z)))]) rfl A rfl (eff_auto (X := ⟨_, true⟩) (out := .val _ _) hX rfl rfl) fun A => any_at (rs := [6]) (by kernel_rfl) (by decide) (List.forall_mem_cons.2 ⟨any_eff (x := .str ((prP x86G L i lb).1)) (H' := [some (.blk (inQ9 i)), some (.lst 20 L.length (fun zz => rwc (L.getD zz Rw.z)))]) rfl A rfl (eff_auto (X := ⟨_, true⟩) (out := .val _ _) hX rfl rfl) fun A => any_at (rs := [7]) (by kernel_rfl) (by decide) (List.forall_mem_cons.2 ⟨any_eff (x := .int .i64 ((prP x86G L i lb).2)) (H' := [some (.blk (inQ9 i)), some (.lst 20 L.length (fun zz => rwc (L.getD zz Rw.z)))]) rfl A rfl (eff_auto (X := ⟨_, true⟩) (out := .val _ _) hX rfl rfl) fun A => any_end (by kernel_rfl) (N hX 2 A rfl rfl fun A => RETN hX (B.trans A) rfl rfl rfl h0 rfl rfl rfl rfl (by rw [← x86_pr hR.1] <;> rfl) rfl),
         (List.forall_mem_nil _)⟩),
        (List.forall_mem_nil _)⟩),
       (List.forall_mem_nil _)⟩),
      (List.forall_mem_cons.2 ⟨any_eff (x := .int .i64 ((prP x86G L i lb).2)) (H' := [some (.blk (inQ9 i)), some (.lst 20 L.length (fun zz => rwc (L.getD zz Rw.z)))]) rfl A rfl (eff_auto (X := ⟨_, true⟩) (out := .val _ _) hX rfl rfl) fun A => any_at (rs := [4]) (by kernel_rfl) (by decide) (List.forall_mem_cons.2 ⟨any_eff (x := .str ((prP x86G L i lb).1)) (H' := [some (.blk (inQ9 i)), some (.lst 20 L.length (fun zz => rwc (L.getD zz Rw.z)))]) rfl A rfl (eff_auto (X := ⟨_, true⟩) (out := .val _ _) hX rfl rfl) fun A => any_at (rs := [6]) (by kernel_rfl) (by decide) (List.forall_mem_cons.2 ⟨any_eff (x := .str ((prP x86G L i lb).1)) (H' := [some (.blk (inQ9 i)), some (.lst 20 L.length (fun zz => rwc (L.getD zz Rw.z)))]) rfl A rfl (eff_auto (X := ⟨_, true⟩) (out := .val _ _) hX rfl rfl) fun A => any_at (rs := [7]) (by kernel_rfl) (by decide) (List.forall_mem_cons.2 ⟨any_eff (x := .int .i64 ((prP x86G L i lb).2)) (H' := [some (.blk (inQ9 i)), some (.lst 20 L.length (fun zz => rwc (L.getD zz Rw.z)))]) rfl A rfl (eff_auto (X := ⟨_, true⟩) (out := .val _ _) hX rfl rfl) fun A => any_end (by kernel_rfl) (N hX 2 A rfl rfl fun A => RETN hX (B.trans A) rfl rfl rfl h0 rfl rfl rfl rfl (by rw [← x86_pr hR.1] <;> rfl) rfl),
         (List.forall_mem_nil _)⟩),
        (List.forall_mem_nil _)⟩),
       (List.forall_mem_nil _)⟩),
      (List.forall_mem_nil _)⟩)⟩),
     (List.forall_mem_nil _)⟩),
    (List.forall_mem_nil _)⟩),
   (List.forall_mem_nil _)⟩)⟩),
  (List.forall_mem_cons.2 ⟨any_eff (x := .agg (inQ9 i)) (H' := [some (.blk (inQ9 i))]) rfl A rfl (eff_auto (X := ⟨_, true⟩) (out := .val _ _) hX rfl rfl) fun A => any_at (rs := [0, 2]) (by kernel_rfl) (by decide) (List.forall_mem_cons.2 ⟨any_agg (t := 6) (l := [.str [82, 65, 88], .str [82, 66, 88], .str [82, 67, 88], .str [82, 68, 88], .str [82, 83, 73], .str [82, 68, 73], .str [82, 56], .str [82, 57], .str [66], .str [87], .str [76], .str [81], .str [36], .str [], .str [], .str []]) (F := fun (L : List Rw) zz => rwc (L.getD zz Rw.z)) (R := fun L b w w' => L.map tm = x86T ∧ RowsIn w.heap.size L w' [b]) rfl xlang_ A rfl rfl fun L b cp a1 w1 G1 hR hlo hkk A => have hl20 : L.length = 20 := (by have q := congrArg List.length hR.1; rw [List.length_map] at q; exact q.trans (by decide +kernel)); have hRI := rows_keys hR.2 hkk; have B0 := A; have A := A.base; have A := A.rowAs 1 L.length (fun zz => rwc (L.getD zz Rw.z)) rfl hl20 (fun _ _ => rfl) (fun z => ⟨_, rfl, rfl⟩); have A := A.say 6 (.agg [.str [82, 65, 88], .str [82, 66, 88], .str [82, 67, 88], .str [82, 68, 88], .str [82, 83, 73], .str [82, 68, 73], .str [82, 56], .str [82, 57], .str [66], .str [87], .str [76], .str [81], .str [36], .str [], .str [], .str [], .sl 1 L.length 0]) rfl (by rw [hl20] <;> rfl); have A := A.freeze 1 rfl; have hTb := RowsIn.ok.now A hRI; have B := B0.trans A; have A := A.base; have hI2 : PrI os L _ _ := ⟨fun r hr => (hTb r hr).1, Gl.ok.now B hI⟩; any_at (rs := [2]) (by kernel_rfl) (by decide) (List.forall_mem_cons.2 ⟨any_eff (x := .str lb) (H' := [some (.blk (inQ9 i)), some (.lst 20 L.length (fun zz => rwc (L.getD zz Rw.z)))]) rfl A rfl (eff_auto (X := ⟨_, true⟩) (out := .val _ _) hX rfl rfl) fun A => any_at (rs := [3]) (by kernel_rfl) (by decide) (List.forall_mem_cons.2 ⟨any_eff (x := .tup [.str ((prP x86G L i lb).1), .int .i64 ((prP x86G L i lb).2)]) (H' := [some (.blk (inQ9 i)), some (.lst 20 L.length (fun zz => rwc (L.getD zz Rw.z)))]) rfl A rfl (callIE [1] PrI.ok hI2 (lprint_ x86G L 0 i lb os hM hT hE (hp L hR.1)) rfl rfl rfl rfl rfl rfl rfl) fun A => any_at (rs := [4, 5]) (by kernel_rfl) (by decide) (List.forall_mem_cons.2 ⟨any_eff (x := .str ((prP x86G L i lb).1)) (H' := [some (.blk (inQ9 i)), some (.lst 20 L.length (fun zz => rwc (L.getD zz Rw.z)))]) rfl A rfl (eff_auto (X := ⟨_, true⟩) (out := .val _ _) hX rfl rfl) fun A => any_at (rs := [5]) (by kernel_rfl) (by decide) (List.forall_mem_cons.2 ⟨any_eff (x := .int .i64 ((prP x86G L i lb).2)) (H' := [some (.blk (inQ9 i)), some (.lst 20 L.length (fun zz => rwc (L.getD zz Rw.z)))]) rfl A rfl (eff_auto (X := ⟨_, true⟩) (out := .val _ _) hX rfl rfl) fun A => any_at (rs := [6]) (by kernel_rfl) (by decide) (List.forall_mem_cons.2 ⟨any_eff (x := .str ((prP x86G L i lb).1)) (H' := [some (.blk (inQ9 i)), some (.lst 20 L.length (fun zz => rwc (L.getD zz Rw.z)))]) rfl A rfl (eff_auto (X := ⟨_, true⟩) (out := .val _ _) hX rfl rfl) fun A => any_at (rs := [7]) (by kernel_rfl) (by decide) (List.forall_mem_cons.2 ⟨any_eff (x := .int .i64 ((prP x86G L i lb).2)) (H' := [some (.blk (inQ9 i)), some (.lst 20 L.length (fun zz => rwc (L.getD zz Rw.z)))]) rfl A rfl (eff_auto (X := ⟨_, true⟩) (out := .val _ _) hX rfl rfl) fun A => any_end (by kernel_rfl) (N hX 2 A rfl rfl fun A => RETN hX (B.trans A) rfl rfl rfl h0 rfl rfl rfl rfl (by rw [← x86_pr hR.1] <;> rfl) rfl),
         (List.forall_mem_nil _)⟩),
        (List.forall_mem_nil _)⟩),
       (List.forall_mem_nil _)⟩),
      (List.forall_mem_cons.2 ⟨any_eff (x := .int .i64 ((prP x86G L i lb).2)) (H' := [some (.blk (inQ9 i)), some (.lst 20 L.length (fun zz => rwc (L.getD zz Rw.z)))]) rfl A rfl (eff_auto (X := ⟨_, true⟩) (out := .val _ _) hX rfl rfl) fun A => any_at (rs := [4]) (by kernel_rfl) (by decide) (List.forall_mem_cons.2 ⟨any_eff (x := .str ((prP x86G L i lb).1)) (H' := [some (.blk (inQ9 i)), some (.lst 20 L.length (fun zz => rwc (L.getD zz Rw.z)))]) rfl A rfl (eff_auto (X := ⟨_, true⟩) (out := .val _ _) hX rfl rfl) fun A => any_at (rs := [6]) (by kernel_rfl) (by decide) (List.forall_mem_cons.2 ⟨any_eff (x := .str ((prP x86G L i lb).1)) (H' := [some (.blk (inQ9 i)), some (.lst 20 L.length (fun zz => rwc (L.getD zz Rw.z)))]) rfl A rfl (eff_auto (X := ⟨_, true⟩) (out := .val _ _) hX rfl rfl) fun A => any_at (rs := [7]) (by kernel_rfl) (by decide) (List.forall_mem_cons.2 ⟨any_eff (x := .int .i64 ((prP x86G L i lb).2)) (H' := [some (.blk (inQ9 i)), some (.lst 20 L.length (fun zz => rwc (L.getD zz Rw.z)))]) rfl A rfl (eff_auto (X := ⟨_, true⟩) (out := .val _ _) hX rfl rfl) fun A => any_end (by kernel_rfl) (N hX 2 A rfl rfl fun A => RETN hX (B.trans A) rfl rfl rfl h0 rfl rfl rfl rfl (by rw [← x86_pr hR.1] <;> rfl) rfl),
         (List.forall_mem_nil _)⟩),
        (List.forall_mem_nil _)⟩),
       (List.forall_mem_nil _)⟩),
      (List.forall_mem_nil _)⟩)⟩),
     (List.forall_mem_nil _)⟩),
    (List.forall_mem_nil _)⟩),
   (List.forall_mem_cons.2 ⟨any_eff (x := .str lb) (H' := [some (.blk (inQ9 i))]) rfl A rfl (eff_auto (X := ⟨_, true⟩) (out := .val _ _) hX rfl rfl) fun A => any_at (rs := [0]) (by kernel_rfl) (by decide) (List.forall_mem_cons.2 ⟨any_agg (t := 6) (l := [.str [82, 65, 88], .str [82, 66, 88], .str [82, 67, 88], .str [82, 68, 88], .str [82, 83, 73], .str [82, 68, 73], .str [82, 56], .str [82, 57], .str [66], .str [87], .str [76], .str [81], .str [36], .str [], .str [], .str []]) (F := fun (L : List Rw) zz => rwc (L.getD zz Rw.z)) (R := fun L b w w' => L.map tm = x86T ∧ RowsIn w.heap.size L w' [b]) rfl xlang_ A rfl rfl fun L b cp a1 w1 G1 hR hlo hkk A => have hl20 : L.length = 20 := (by have q := congrArg List.length hR.1; rw [List.length_map] at q; exact q.trans (by decide +kernel)); have hRI := rows_keys hR.2 hkk; have B0 := A; have A := A.base; have A := A.rowAs 1 L.length (fun zz => rwc (L.getD zz Rw.z)) rfl hl20 (fun _ _ => rfl) (fun z => ⟨_, rfl, rfl⟩); have A := A.say 6 (.agg [.str [82, 65, 88], .str [82, 66, 88], .str [82, 67, 88], .str [82, 68, 88], .str [82, 83, 73], .str [82, 68, 73], .str [82, 56], .str [82, 57], .str [66], .str [87], .str [76], .str [81], .str [36], .str [], .str [], .str [], .sl 1 L.length 0]) rfl (by rw [hl20] <;> rfl); have A := A.freeze 1 rfl; have hTb := RowsIn.ok.now A hRI; have B := B0.trans A; have A := A.base; have hI2 : PrI os L _ _ := ⟨fun r hr => (hTb r hr).1, Gl.ok.now B hI⟩; any_at (rs := [3]) (by kernel_rfl) (by decide) (List.forall_mem_cons.2 ⟨any_eff (x := .tup [.str ((prP x86G L i lb).1), .int .i64 ((prP x86G L i lb).2)]) (H' := [some (.blk (inQ9 i)), some (.lst 20 L.length (fun zz => rwc (L.getD zz Rw.z)))]) rfl A rfl (callIE [1] PrI.ok hI2 (lprint_ x86G L 0 i lb os hM hT hE (hp L hR.1)) rfl rfl rfl rfl rfl rfl rfl) fun A => any_at (rs := [4, 5]) (by kernel_rfl) (by decide) (List.forall_mem_cons.2 ⟨any_eff (x := .str ((prP x86G L i lb).1)) (H' := [some (.blk (inQ9 i)), some (.lst 20 L.length (fun zz => rwc (L.getD zz Rw.z)))]) rfl A rfl (eff_auto (X := ⟨_, true⟩) (out := .val _ _) hX rfl rfl) fun A => any_at (rs := [5]) (by kernel_rfl) (by decide) (List.forall_mem_cons.2 ⟨any_eff (x := .int .i64 ((prP x86G L i lb).2)) (H' := [some (.blk (inQ9 i)), some (.lst 20 L.length (fun zz => rwc (L.getD zz Rw.z)))]) rfl A rfl (eff_auto (X := ⟨_, true⟩) (out := .val _ _) hX rfl rfl) fun A => any_at (rs := [6]) (by kernel_rfl) (by decide) (List.forall_mem_cons.2 ⟨any_eff (x := .str ((prP x86G L i lb).1)) (H' := [some (.blk (inQ9 i)), some (.lst 20 L.length (fun zz => rwc (L.getD zz Rw.z)))]) rfl A rfl (eff_auto (X := ⟨_, true⟩) (out := .val _ _) hX rfl rfl) fun A => any_at (rs := [7]) (by kernel_rfl) (by decide) (List.forall_mem_cons.2 ⟨any_eff (x := .int .i64 ((prP x86G L i lb).2)) (H' := [some (.blk (inQ9 i)), some (.lst 20 L.length (fun zz => rwc (L.getD zz Rw.z)))]) rfl A rfl (eff_auto (X := ⟨_, true⟩) (out := .val _ _) hX rfl rfl) fun A => any_end (by kernel_rfl) (N hX 2 A rfl rfl fun A => RETN hX (B.trans A) rfl rfl rfl h0 rfl rfl rfl rfl (by rw [← x86_pr hR.1] <;> rfl) rfl),
         (List.forall_mem_nil _)⟩),
        (List.forall_mem_nil _)⟩),
       (List.forall_mem_nil _)⟩),
      (List.forall_mem_cons.2 ⟨any_eff (x := .int .i64 ((prP x86G L i lb).2)) (H' := [some (.blk (inQ9 i)), some (.lst 20 L.length (fun zz => rwc (L.getD zz Rw.z)))]) rfl A rfl (eff_auto (X := ⟨_, true⟩) (out := .val _ _) hX rfl rfl) fun A => any_at (rs := [4]) (by kernel_rfl) (by decide) (List.forall_mem_cons.2 ⟨any_eff (x := .str ((prP x86G L i lb).1)) (H' := [some (.blk (inQ9 i)), some (.lst 20 L.length (fun zz => rwc (L.getD zz Rw.z)))]) rfl A rfl (eff_auto (X := ⟨_, true⟩) (out := .val _ _) hX rfl rfl) fun A => any_at (rs := [6]) (by kernel_rfl) (by decide) (List.forall_mem_cons.2 ⟨any_eff (x := .str ((prP x86G L i lb).1)) (H' := [some (.blk (inQ9 i)), some (.lst 20 L.length (fun zz => rwc (L.getD zz Rw.z)))]) rfl A rfl (eff_auto (X := ⟨_, true⟩) (out := .val _ _) hX rfl rfl) fun A => any_at (rs := [7]) (by kernel_rfl) (by decide) (List.forall_mem_cons.2 ⟨any_eff (x := .int .i64 ((prP x86G L i lb).2)) (H' := [some (.blk (inQ9 i)), some (.lst 20 L.length (fun zz => rwc (L.getD zz Rw.z)))]) rfl A rfl (eff_auto (X := ⟨_, true⟩) (out := .val _ _) hX rfl rfl) fun A => any_end (by kernel_rfl) (N hX 2 A rfl rfl fun A => RETN hX (B.trans A) rfl rfl rfl h0 rfl rfl rfl rfl (by rw [← x86_pr hR.1] <;> rfl) rfl),
         (List.forall_mem_nil _)⟩),
        (List.forall_mem_nil _)⟩),
       (List.forall_mem_nil _)⟩),
      (List.forall_mem_nil _)⟩)⟩),
     (List.forall_mem_nil _)⟩),
    (List.forall_mem_nil _)⟩),
   (List.forall_mem_nil _)⟩)⟩),
  (List.forall_mem_cons.2 ⟨any_eff (x := .str lb) (H' := [some (.blk (inQ9 i))]) rfl A rfl (eff_auto (X := ⟨_, true⟩) (out := .val _ _) hX rfl rfl) fun A => any_at (rs := [0, 1]) (by kernel_rfl) (by decide) (List.forall_mem_cons.2 ⟨any_agg (t := 6) (l := [.str [82, 65, 88], .str [82, 66, 88], .str [82, 67, 88], .str [82, 68, 88], .str [82, 83, 73], .str [82, 68, 73], .str [82, 56], .str [82, 57], .str [66], .str [87], .str [76], .str [81], .str [36], .str [], .str [], .str []]) (F := fun (L : List Rw) zz => rwc (L.getD zz Rw.z)) (R := fun L b w w' => L.map tm = x86T ∧ RowsIn w.heap.size L w' [b]) rfl xlang_ A rfl rfl fun L b cp a1 w1 G1 hR hlo hkk A => have hl20 : L.length = 20 := (by have q := congrArg List.length hR.1; rw [List.length_map] at q; exact q.trans (by decide +kernel)); have hRI := rows_keys hR.2 hkk; have B0 := A; have A := A.base; have A := A.rowAs 1 L.length (fun zz => rwc (L.getD zz Rw.z)) rfl hl20 (fun _ _ => rfl) (fun z => ⟨_, rfl, rfl⟩); have A := A.say 6 (.agg [.str [82, 65, 88], .str [82, 66, 88], .str [82, 67, 88], .str [82, 68, 88], .str [82, 83, 73], .str [82, 68, 73], .str [82, 56], .str [82, 57], .str [66], .str [87], .str [76], .str [81], .str [36], .str [], .str [], .str [], .sl 1 L.length 0]) rfl (by rw [hl20] <;> rfl); have A := A.freeze 1 rfl; have hTb := RowsIn.ok.now A hRI; have B := B0.trans A; have A := A.base; have hI2 : PrI os L _ _ := ⟨fun r hr => (hTb r hr).1, Gl.ok.now B hI⟩; any_at (rs := [1]) (by kernel_rfl) (by decide) (List.forall_mem_cons.2 ⟨any_eff (x := .agg (inQ9 i)) (H' := [some (.blk (inQ9 i)), some (.lst 20 L.length (fun zz => rwc (L.getD zz Rw.z)))]) rfl A rfl (eff_auto (X := ⟨_, true⟩) (out := .val _ _) hX rfl rfl) fun A => any_at (rs := [3]) (by kernel_rfl) (by decide) (List.forall_mem_cons.2 ⟨any_eff (x := .tup [.str ((prP x86G L i lb).1), .int .i64 ((prP x86G L i lb).2)]) (H' := [some (.blk (inQ9 i)), some (.lst 20 L.length (fun zz => rwc (L.getD zz Rw.z)))]) rfl A rfl (callIE [1] PrI.ok hI2 (lprint_ x86G L 0 i lb os hM hT hE (hp L hR.1)) rfl rfl rfl rfl rfl rfl rfl) fun A => any_at (rs := [4, 5]) (by kernel_rfl) (by decide) (List.forall_mem_cons.2 ⟨any_eff (x := .str ((prP x86G L i lb).1)) (H' := [some (.blk (inQ9 i)), some (.lst 20 L.length (fun zz => rwc (L.getD zz Rw.z)))]) rfl A rfl (eff_auto (X := ⟨_, true⟩) (out := .val _ _) hX rfl rfl) fun A => any_at (rs := [5]) (by kernel_rfl) (by decide) (List.forall_mem_cons.2 ⟨any_eff (x := .int .i64 ((prP x86G L i lb).2)) (H' := [some (.blk (inQ9 i)), some (.lst 20 L.length (fun zz => rwc (L.getD zz Rw.z)))]) rfl A rfl (eff_auto (X := ⟨_, true⟩) (out := .val _ _) hX rfl rfl) fun A => any_at (rs := [6]) (by kernel_rfl) (by decide) (List.forall_mem_cons.2 ⟨any_eff (x := .str ((prP x86G L i lb).1)) (H' := [some (.blk (inQ9 i)), some (.lst 20 L.length (fun zz => rwc (L.getD zz Rw.z)))]) rfl A rfl (eff_auto (X := ⟨_, true⟩) (out := .val _ _) hX rfl rfl) fun A => any_at (rs := [7]) (by kernel_rfl) (by decide) (List.forall_mem_cons.2 ⟨any_eff (x := .int .i64 ((prP x86G L i lb).2)) (H' := [some (.blk (inQ9 i)), some (.lst 20 L.length (fun zz => rwc (L.getD zz Rw.z)))]) rfl A rfl (eff_auto (X := ⟨_, true⟩) (out := .val _ _) hX rfl rfl) fun A => any_end (by kernel_rfl) (N hX 2 A rfl rfl fun A => RETN hX (B.trans A) rfl rfl rfl h0 rfl rfl rfl rfl (by rw [← x86_pr hR.1] <;> rfl) rfl),
         (List.forall_mem_nil _)⟩),
        (List.forall_mem_nil _)⟩),
       (List.forall_mem_nil _)⟩),
      (List.forall_mem_cons.2 ⟨any_eff (x := .int .i64 ((prP x86G L i lb).2)) (H' := [some (.blk (inQ9 i)), some (.lst 20 L.length (fun zz => rwc (L.getD zz Rw.z)))]) rfl A rfl (eff_auto (X := ⟨_, true⟩) (out := .val _ _) hX rfl rfl) fun A => any_at (rs := [4]) (by kernel_rfl) (by decide) (List.forall_mem_cons.2 ⟨any_eff (x := .str ((prP x86G L i lb).1)) (H' := [some (.blk (inQ9 i)), some (.lst 20 L.length (fun zz => rwc (L.getD zz Rw.z)))]) rfl A rfl (eff_auto (X := ⟨_, true⟩) (out := .val _ _) hX rfl rfl) fun A => any_at (rs := [6]) (by kernel_rfl) (by decide) (List.forall_mem_cons.2 ⟨any_eff (x := .str ((prP x86G L i lb).1)) (H' := [some (.blk (inQ9 i)), some (.lst 20 L.length (fun zz => rwc (L.getD zz Rw.z)))]) rfl A rfl (eff_auto (X := ⟨_, true⟩) (out := .val _ _) hX rfl rfl) fun A => any_at (rs := [7]) (by kernel_rfl) (by decide) (List.forall_mem_cons.2 ⟨any_eff (x := .int .i64 ((prP x86G L i lb).2)) (H' := [some (.blk (inQ9 i)), some (.lst 20 L.length (fun zz => rwc (L.getD zz Rw.z)))]) rfl A rfl (eff_auto (X := ⟨_, true⟩) (out := .val _ _) hX rfl rfl) fun A => any_end (by kernel_rfl) (N hX 2 A rfl rfl fun A => RETN hX (B.trans A) rfl rfl rfl h0 rfl rfl rfl rfl (by rw [← x86_pr hR.1] <;> rfl) rfl),
         (List.forall_mem_nil _)⟩),
        (List.forall_mem_nil _)⟩),
       (List.forall_mem_nil _)⟩),
      (List.forall_mem_nil _)⟩)⟩),
     (List.forall_mem_nil _)⟩),
    (List.forall_mem_nil _)⟩),
   (List.forall_mem_cons.2 ⟨any_eff (x := .agg (inQ9 i)) (H' := [some (.blk (inQ9 i))]) rfl A rfl (eff_auto (X := ⟨_, true⟩) (out := .val _ _) hX rfl rfl) fun A => any_at (rs := [0]) (by kernel_rfl) (by decide) (List.forall_mem_cons.2 ⟨any_agg (t := 6) (l := [.str [82, 65, 88], .str [82, 66, 88], .str [82, 67, 88], .str [82, 68, 88], .str [82, 83, 73], .str [82, 68, 73], .str [82, 56], .str [82, 57], .str [66], .str [87], .str [76], .str [81], .str [36], .str [], .str [], .str []]) (F := fun (L : List Rw) zz => rwc (L.getD zz Rw.z)) (R := fun L b w w' => L.map tm = x86T ∧ RowsIn w.heap.size L w' [b]) rfl xlang_ A rfl rfl fun L b cp a1 w1 G1 hR hlo hkk A => have hl20 : L.length = 20 := (by have q := congrArg List.length hR.1; rw [List.length_map] at q; exact q.trans (by decide +kernel)); have hRI := rows_keys hR.2 hkk; have B0 := A; have A := A.base; have A := A.rowAs 1 L.length (fun zz => rwc (L.getD zz Rw.z)) rfl hl20 (fun _ _ => rfl) (fun z => ⟨_, rfl, rfl⟩); have A := A.say 6 (.agg [.str [82, 65, 88], .str [82, 66, 88], .str [82, 67, 88], .str [82, 68, 88], .str [82, 83, 73], .str [82, 68, 73], .str [82, 56], .str [82, 57], .str [66], .str [87], .str [76], .str [81], .str [36], .str [], .str [], .str [], .sl 1 L.length 0]) rfl (by rw [hl20] <;> rfl); have A := A.freeze 1 rfl; have hTb := RowsIn.ok.now A hRI; have B := B0.trans A; have A := A.base; have hI2 : PrI os L _ _ := ⟨fun r hr => (hTb r hr).1, Gl.ok.now B hI⟩; any_at (rs := [3]) (by kernel_rfl) (by decide) (List.forall_mem_cons.2 ⟨any_eff (x := .tup [.str ((prP x86G L i lb).1), .int .i64 ((prP x86G L i lb).2)]) (H' := [some (.blk (inQ9 i)), some (.lst 20 L.length (fun zz => rwc (L.getD zz Rw.z)))]) rfl A rfl (callIE [1] PrI.ok hI2 (lprint_ x86G L 0 i lb os hM hT hE (hp L hR.1)) rfl rfl rfl rfl rfl rfl rfl) fun A => any_at (rs := [4, 5]) (by kernel_rfl) (by decide) (List.forall_mem_cons.2 ⟨any_eff (x := .str ((prP x86G L i lb).1)) (H' := [some (.blk (inQ9 i)), some (.lst 20 L.length (fun zz => rwc (L.getD zz Rw.z)))]) rfl A rfl (eff_auto (X := ⟨_, true⟩) (out := .val _ _) hX rfl rfl) fun A => any_at (rs := [5]) (by kernel_rfl) (by decide) (List.forall_mem_cons.2 ⟨any_eff (x := .int .i64 ((prP x86G L i lb).2)) (H' := [some (.blk (inQ9 i)), some (.lst 20 L.length (fun zz => rwc (L.getD zz Rw.z)))]) rfl A rfl (eff_auto (X := ⟨_, true⟩) (out := .val _ _) hX rfl rfl) fun A => any_at (rs := [6]) (by kernel_rfl) (by decide) (List.forall_mem_cons.2 ⟨any_eff (x := .str ((prP x86G L i lb).1)) (H' := [some (.blk (inQ9 i)), some (.lst 20 L.length (fun zz => rwc (L.getD zz Rw.z)))]) rfl A rfl (eff_auto (X := ⟨_, true⟩) (out := .val _ _) hX rfl rfl) fun A => any_at (rs := [7]) (by kernel_rfl) (by decide) (List.forall_mem_cons.2 ⟨any_eff (x := .int .i64 ((prP x86G L i lb).2)) (H' := [some (.blk (inQ9 i)), some (.lst 20 L.length (fun zz => rwc (L.getD zz Rw.z)))]) rfl A rfl (eff_auto (X := ⟨_, true⟩) (out := .val _ _) hX rfl rfl) fun A => any_end (by kernel_rfl) (N hX 2 A rfl rfl fun A => RETN hX (B.trans A) rfl rfl rfl h0 rfl rfl rfl rfl (by rw [← x86_pr hR.1] <;> rfl) rfl),
         (List.forall_mem_nil _)⟩),
        (List.forall_mem_nil _)⟩),
       (List.forall_mem_nil _)⟩),
      (List.forall_mem_cons.2 ⟨any_eff (x := .int .i64 ((prP x86G L i lb).2)) (H' := [some (.blk (inQ9 i)), some (.lst 20 L.length (fun zz => rwc (L.getD zz Rw.z)))]) rfl A rfl (eff_auto (X := ⟨_, true⟩) (out := .val _ _) hX rfl rfl) fun A => any_at (rs := [4]) (by kernel_rfl) (by decide) (List.forall_mem_cons.2 ⟨any_eff (x := .str ((prP x86G L i lb).1)) (H' := [some (.blk (inQ9 i)), some (.lst 20 L.length (fun zz => rwc (L.getD zz Rw.z)))]) rfl A rfl (eff_auto (X := ⟨_, true⟩) (out := .val _ _) hX rfl rfl) fun A => any_at (rs := [6]) (by kernel_rfl) (by decide) (List.forall_mem_cons.2 ⟨any_eff (x := .str ((prP x86G L i lb).1)) (H' := [some (.blk (inQ9 i)), some (.lst 20 L.length (fun zz => rwc (L.getD zz Rw.z)))]) rfl A rfl (eff_auto (X := ⟨_, true⟩) (out := .val _ _) hX rfl rfl) fun A => any_at (rs := [7]) (by kernel_rfl) (by decide) (List.forall_mem_cons.2 ⟨any_eff (x := .int .i64 ((prP x86G L i lb).2)) (H' := [some (.blk (inQ9 i)), some (.lst 20 L.length (fun zz => rwc (L.getD zz Rw.z)))]) rfl A rfl (eff_auto (X := ⟨_, true⟩) (out := .val _ _) hX rfl rfl) fun A => any_end (by kernel_rfl) (N hX 2 A rfl rfl fun A => RETN hX (B.trans A) rfl rfl rfl h0 rfl rfl rfl rfl (by rw [← x86_pr hR.1] <;> rfl) rfl),
         (List.forall_mem_nil _)⟩),
        (List.forall_mem_nil _)⟩),
       (List.forall_mem_nil _)⟩),
      (List.forall_mem_nil _)⟩)⟩),
     (List.forall_mem_nil _)⟩),
    (List.forall_mem_nil _)⟩),
   (List.forall_mem_nil _)⟩)⟩),
  (List.forall_mem_nil _)⟩)⟩)⟩)
end Go.Proofs.YtedlaclfhgneeaaGreatDoor
/- What printing asks of a table. -/
namespace Go.Proofs.YtedlaclfhgneeaaGreatDoor
open Go.RowKit
set_option linter.unusedVariables false
set_option linter.unusedSimpArgs false
set_option linter.unusedSectionVars false
set_option maxRecDepth 100000
set_option maxHeartbeats 2000000
section
variable {g : Lg} {L : List Rw} {i : In} {lb : List UInt8} {r : Rw}
theorem sound_of (h : wrongI i = false) : sound0 i.op i.dst i.ra i.rb i.imm i.loc i.off i.ix i.sz i.fn i.acq i.weak i.rel i.pred i.succ i.to_ i.zero = true := by
  cases hs : sound0 i.op i.dst i.ra i.rb i.imm i.loc i.off i.ix i.sz i.fn i.acq i.weak i.rel i.pred i.succ i.to_ i.zero with
  | true => rfl
  | false =>
    exfalso
    unfold wrongI Right0 at h
    rw [hs, Bool.not_false, Bool.or_true, if_pos rfl] at h
    exact absurd h (by decide)
theorem acc_loc (h : isAccess0 i.op i.dst i.ra i.rb i.imm i.loc i.off i.ix i.sz i.fn i.acq i.weak i.rel i.pred i.succ i.to_ i.zero = true) : 0 ≤ i.loc ∧ i.loc < 3 := by
  unfold isAccess0 at h
  split at h
  · split at h
    · omega
    · cases h
  · cases h
theorem snd_loc (h : wrongI i = false) (ho : i.op = 4 ∨ i.op = 5 ∨ i.op = 6) : 0 ≤ i.loc ∧ i.loc < 3 := by
  have hs := sound_of h
  unfold sound0 at hs
  rw [if_neg (by omega), if_neg (by omega), if_neg (by omega)] at hs
  rcases ho with ho | ho | ho
  · rw [if_pos ho] at hs
    split at hs
    · rw [Bool.and_eq_true] at hs; exact acc_loc hs.1
    · cases hs
  · rw [if_neg (by omega), if_pos ho] at hs
    split at hs
    · exact acc_loc hs
    · cases hs
  · rw [if_neg (by omega), if_neg (by omega), if_pos ho] at hs
    split at hs
    · split at hs
      · rw [Bool.and_eq_true] at hs; exact acc_loc hs.1
      · cases hs
    · cases hs
theorem snd_fen (h : wrongI i = false) (ho : i.op = 7) : (1 ≤ i.pred ∧ i.pred ≤ 3) ∧ (1 ≤ i.succ ∧ i.succ ≤ 3) := by
  have hs := sound_of h
  unfold sound0 at hs
  rw [if_neg (by omega), if_neg (by omega), if_neg (by omega), if_neg (by omega), if_neg (by omega), if_neg (by omega), if_pos ho] at hs
  split at hs
  · next hp =>
    simp only [Bool.or_eq_true, beq_iff_eq] at hp hs
    omega
  · cases hs
theorem wstep_op (i J : In) (p : Int) : (wStep i J p).op = J.op := by
  unfold wStep
  repeat' split
  all_goals rfl
theorem lay_op (r : Rw) (i : In) : (r.lay i).op = r.ins.op := by
  have : ∀ (l : List Int) (J : In), (l.foldl (wStep i) J).op = J.op := by
    intro l
    induction l with
    | nil => intro J; rfl
    | cons p l ih => intro J; rw [List.foldl_cons, ih, wstep_op]
  exact this r.ps (bare r.ins)
theorem row_op (h : rowQ L i = true) : i.op = (rowR L i).ins.op := by
  unfold rowQ at h
  unfold rowR
  cases hf : L.find? (rowP i) with
  | none => rw [hf] at h; cases h
  | some r =>
    have := List.find?_some hf
    unfold rowP at this
    rw [Bool.and_eq_true] at this
    have h2 := this.1
    unfold eqIn at h2
    rw [Bool.and_eq_true, beq_iff_eq, lay_op] at h2
    exact h2.1.symm
end
/-- what a table's rows keep for printing -/
def prB (g : Lg) (T : List (List UInt8 × List UInt8 × In × List Int)) : Bool := T.all fun x =>
  decide (x.1.length ≤ 1000) && decide (Lib.countB (S x.1) (S [42]) ≤ 1000) && decide (x.2.2.2.length ≤ 4) && decide (x.2.1.length ≤ 1000) &&
  ((List.range 4).all fun k => decide ((Lib.replace x.1 [42] (g.let.getD k []) 1).length ≤ 1000)) &&
  (x.2.2.2.all fun p => (!(p == 6) || (x.2.2.1.op == 4 || (x.2.2.1.op == 5 || x.2.2.1.op == 6))) && (!(p == 8 || p == 9) || x.2.2.1.op == 7))
theorem lens_le {B : Nat} : ∀ (l : List (List UInt8)), (∀ x ∈ l, x.length ≤ B) → Lib.lens l ≤ l.length * B
  | [], _ => by simp [Lib.lens]
  | x :: l, h => by
    have h1 := lens_le l (fun y hy => h y (List.mem_cons_of_mem _ hy))
    have h2 := h x List.mem_cons_self
    have e : Lib.lens (x :: l) = x.length + Lib.lens l := by simp [Lib.lens]
    rw [e, List.length_cons, Nat.add_mul]; omega
theorem join_le {B : Nat} (l : List (List UInt8)) (h : ∀ x ∈ l, x.length ≤ B) : (Lib.join l [44]).length ≤ l.length * (B + 1) := by
  cases l with
  | nil => exact Nat.zero_le _
  | cons x l =>
    rw [Lib.join_length]
    have := lens_le (x :: l) h
    rw [Nat.mul_add, List.length_cons] at *
    simp only [List.length_cons, List.length_nil]
    omega
theorem x86_prB : prB x86G x86T = true := by decide +kernel
end Go.Proofs.YtedlaclfhgneeaaGreatDoor
/- A table's rows print: how long what they print is. -/
namespace Go.Proofs.YtedlaclfhgneeaaGreatDoor
open Go.RowKit
set_option linter.unusedVariables false
set_option linter.unusedSimpArgs false
set_option linter.unusedSectionVars false
set_option maxRecDepth 100000
set_option maxHeartbeats 2000000
theorem get3_le {a b c : List UInt8} {B : Nat} (ha : a.length ≤ B) (hb : b.length ≤ B) (hc : c.length ≤ B) (k : Nat) : ([a, b, c].getD k []).length ≤ B := by
  by_cases h : k < 3
  · have : k = 0 ∨ k = 1 ∨ k = 2 := by omega
    rcases this with rfl | rfl | rfl
    · exact ha
    · exact hb
    · exact hc
  · rw [List.getD_eq_getElem?_getD, List.getElem?_eq_none (by simpa using h)]; exact Nat.zero_le _
structure LgL (g : Lg) : Prop where
  lg : LgOK g
  lt : ∀ k, ([g.l0, g.l1, g.l2, g.l3].getD k []).length ≤ 1000
  f0 : g.f0.length ≤ 1000
  f1 : g.f1.length ≤ 1000
  f2 : g.f2.length ≤ 1000
/-- an instruction whose numbers are ints -/
structure InR (i : In) : Prop where
  im : -9223372036854775808 ≤ i.imm ∧ i.imm ≤ 9223372036854775807
  of_ : -9223372036854775808 ≤ i.off ∧ i.off ≤ 9223372036854775807
section
variable {g : Lg} {L : List Rw} {i : In} {lb : List UInt8} {r : Rw}
theorem mem_le (hg : LgL g) (hi : InR i) : (memT g i).length ≤ 1100 := by
  have q1 := hg.lg.rg i.ix
  have q2 := Lib.itoa_length_le i.off hi.of_.1 hi.of_.2
  have q3 := get3_le (a := [120]) (b := [121]) (c := [122]) (B := 1) (by decide) (by decide) (by decide) (i.loc).toNat
  unfold memT memB memA
  split <;> split <;> (simp only [List.length_append, List.length_cons, List.length_nil]; omega)
theorem opd_le (hg : LgL g) (hi : InR i) (hw : r.wd.length ≤ 1000) (p : Int) : (opdT g r p i lb).length ≤ 2000 + lb.length := by
  have q1 := hg.lg.rg (regP p i).1
  have q2 := Lib.itoa_length_le i.imm hi.im.1 hi.im.2
  have q3 := hg.lg.im
  have q4 := mem_le hg hi
  have q5 := get3_le hg.f0 hg.f1 hg.f2 (i.pred - 1).toNat
  have q6 := get3_le hg.f0 hg.f1 hg.f2 (i.succ - 1).toNat
  unfold opdT
  split
  · omega
  split
  · rw [List.length_append]; omega
  split
  · omega
  split
  · omega
  split
  · omega
  split
  · omega
  · omega
theorem pr_ok {T : List (List UInt8 × List UInt8 × In × List Int)} (hm : L.map tm = T) (hg : LgL g) (hB : prB g T = true) (hn : T.length ≤ 1000) (hi : InR i) (hl : lb.length ≤ 100000) : PrOK g L i lb := by
  have hlen : L.length ≤ 1000 := by have := congrArg List.length hm; rw [List.length_map] at this; omega
  have htab : ∀ r ∈ L, r.nm.length ≤ 1000 ∧ Lib.countB (S r.nm) (S [42]) ≤ 1000 ∧ r.ps.length ≤ 4 ∧ r.wd.length ≤ 1000 ∧ (∀ k, k < 4 → (Lib.replace r.nm [42] (g.let.getD k []) 1).length ≤ 1000) ∧ ∀ p ∈ r.ps, (p = 6 → r.ins.op = 4 ∨ r.ins.op = 5 ∨ r.ins.op = 6) ∧ (p = 8 ∨ p = 9 → r.ins.op = 7) := fun r hr => by
    have := (List.all_eq_true.1 hB) _ (tm_mem hm hr)
    simp only [Bool.and_eq_true, decide_eq_true_eq] at this
    obtain ⟨⟨⟨⟨⟨h1, h2⟩, h3⟩, h4⟩, h5⟩, h6⟩ := this
    refine ⟨h1, h2, h3, h4, fun k hk => ?_, fun p hp => ?_⟩
    · have := (List.all_eq_true.1 h5) k (List.mem_range.2 hk)
      exact of_decide_eq_true this
    · have := (List.all_eq_true.1 h6) p hp
      simp only [Bool.and_eq_true, Bool.or_eq_true, Bool.not_eq_true', beq_iff_eq, beq_eq_false_iff_ne, Bool.or_eq_false_iff] at this
      obtain ⟨a1, a2⟩ := this
      refine ⟨fun e => ?_, fun e => ?_⟩
      · rcases a1 with a1 | a1
        · exact absurd e a1
        · exact a1
      · rcases a2 with a2 | a2
        · rcases e with e | e
          · exact absurd e a2.1
          · exact absurd e a2.2
        · exact a2
  have hz : ∀ k, (L.getD k Rw.z) ∈ L ∨ L.getD k Rw.z = Rw.z := fun k => by
    by_cases h : k < L.length
    · left; rw [List.getD_eq_getElem?_getD, List.getElem?_eq_getElem h]; exact List.getElem_mem h
    · right; rw [List.getD_eq_getElem?_getD, List.getElem?_eq_none (by omega)]; rfl
  have hr : rowR L i ∈ L ∨ rowR L i = Rw.z := by
    unfold rowR
    cases hf : L.find? (rowP i) with
    | none => exact .inr rfl
    | some r => exact .inl (List.mem_of_find?_eq_some hf)
  have hz0 : Rw.z.nm = [] ∧ Rw.z.ps = [] ∧ Rw.z.wd = [] := ⟨rfl, rfl, rfl⟩
  have hnl : (nameR g (rowR L i).nm i.sz).length ≤ 1000 := by
    unfold nameR
    split
    · next hk =>
      rcases hr with hr | hr
      · exact (htab _ hr).2.2.2.2.1 _ hk
      · rw [hr, hz0.1]
        have : szK i.sz = 0 ∨ szK i.sz = 1 ∨ szK i.sz = 2 ∨ szK i.sz = 3 := by omega
        have e : ∀ y : List UInt8, (Lib.replace [] [42] y 1) = [] := fun y => by
          unfold Lib.replace
          split
          · rfl
          · have hc : Lib.index [] [42] = -1 := by decide
            cases Lib.replaceNum [] [42] 1 with
            | zero => rfl
            | succ k => unfold Lib.replaceK; rw [hc]; rfl
        rw [e]; exact Nat.zero_le _
    · rcases hr with hr | hr
      · exact (htab _ hr).1
      · rw [hr, hz0.1]; exact Nat.zero_le _
  refine ⟨hg.lg, hg.lt, fun k => ?_, by omega, hi.im, ?_, fun hw hq k hk => ?_, by omega, ?_⟩
  · rcases hz k with h | h
    · have := (htab _ h).2.2.1; omega
    · rw [h, hz0.2.1]; exact Nat.zero_le _
  · rcases hr with hr | hr
    · exact ⟨(htab _ hr).1, (htab _ hr).2.1⟩
    · rw [hr, hz0.1]; exact ⟨Nat.zero_le _, by decide⟩
  · have hmem := row_mem hq
    have hop := row_op hq
    have hp : (rowR L i).ps.getD k 0 ∈ (rowR L i).ps := by rw [List.getD_eq_getElem?_getD, List.getElem?_eq_getElem hk]; exact List.getElem_mem hk
    obtain ⟨h6, h89⟩ := (htab _ hmem).2.2.2.2.2 _ hp
    refine ⟨fun e => ⟨snd_loc hw (by rw [hop]; exact h6 e), hi.of_⟩, fun e => (snd_fen hw (by rw [hop]; exact h89 (.inl e))).1, fun e => (snd_fen hw (by rw [hop]; exact h89 (.inr e))).2⟩
  · have hps : (rowR L i).ps.length ≤ 4 ∧ (rowR L i).wd.length ≤ 1000 := by
      rcases hr with hr | hr
      · exact ⟨(htab _ hr).2.2.1, (htab _ hr).2.2.2.1⟩
      · rw [hr]; exact ⟨Nat.zero_le _, Nat.zero_le _⟩
    have h1 := join_le (B := 2000 + lb.length) (opsT g (rowR L i) i lb) (fun x hx => by
      unfold opsT at hx
      obtain ⟨p, _, rfl⟩ := List.mem_map.1 hx
      exact opd_le hg hi hps.2 p)
    have h2 : (opsT g (rowR L i) i lb).length ≤ 4 := by unfold opsT; rw [List.length_map]; exact hps.1
    have h3 : (opsT g (rowR L i) i lb).length * (2000 + lb.length + 1) ≤ 4 * (2000 + lb.length + 1) := Nat.mul_le_mul_right _ h2
    omega
end
theorem x86_lg : LgL x86G := by
  refine ⟨⟨fun r => ?_, by decide⟩, fun k => ?_, by decide, by decide, by decide⟩
  · unfold regnm0
    split
    · exact Nat.zero_le _
    · next h =>
      have : (r).toNat = 0 ∨ (r).toNat = 1 ∨ (r).toNat = 2 ∨ (r).toNat = 3 ∨ (r).toNat = 4 ∨ (r).toNat = 5 ∨ (r).toNat = 6 ∨ (r).toNat = 7 := by
        simp only [Bool.or_eq_true, decide_eq_true_eq] at h; omega
      rcases this with e | e | e | e | e | e | e | e <;> rw [e] <;> decide
  · by_cases h : k < 4
    · have : k = 0 ∨ k = 1 ∨ k = 2 ∨ k = 3 := by omega
      rcases this with rfl | rfl | rfl | rfl <;> decide
    · rw [List.getD_eq_getElem?_getD, List.getElem?_eq_none (by simpa using h)]; decide
theorem x86_prok {L : List Rw} {i : In} {lb : List UInt8} (hi : InR i) (hl : lb.length ≤ 100000) (hm : L.map tm = x86T) : PrOK x86G L i lb := pr_ok hm x86_lg x86_prB (by decide +kernel) hi hl
end Go.Proofs.YtedlaclfhgneeaaGreatDoor
/- Names of registers, at x86. -/
namespace Go.Proofs.YtedlaclfhgneeaaGreatDoor
open Go.RowKit
set_option linter.unusedVariables false
set_option linter.unusedSimpArgs false
set_option maxRecDepth 100000
set_option maxHeartbeats 2000000
set_option simprocs false
theorem regnm_x (r : Int) : regnm0 [82, 65, 88] [82, 66, 88] [82, 67, 88] [82, 68, 88] [82, 83, 73] [82, 68, 73] [82, 56] [82, 57] r = Old.nameF r := by
  unfold regnm0
  split
  · next h => rw [nameF_o (by revert h; simp only [Bool.or_eq_true, decide_eq_true_eq]; omega)]
  · next h => rw [nameF_i (by revert h; simp only [Bool.or_eq_true, Bool.or_eq_false_iff, decide_eq_true_eq, decide_eq_false_iff_not]; omega)]
theorem idxL_at (q : List UInt8) : ∀ (ls : List (List UInt8)) (n : Nat), Old.idxL ls q n = if idxS ls q < 0 then -1 else idxS ls q + n := by
  intro ls
  induction ls with
  | nil => intro n; rfl
  | cons y l ih =>
    intro n
    unfold Old.idxL
    have hr : List.range (y :: l).length = 0 :: (List.range l.length).map Nat.succ := by rw [List.length_cons, List.range_succ_eq_map]
    cases hy : eqL y q
    · rw [if_neg (by decide), ih (n + 1)]
      have hne : (q == y) = false := by
        cases hh : (q == y) with
        | false => rfl
        | true => rw [eq_of_beq hh, eqL_same] at hy; cases hy
      have e : idxS (y :: l) q = if idxS l q < 0 then -1 else idxS l q + 1 := by
        unfold idxS
        rw [hr, List.find?_cons]
        simp only [List.getD_cons_zero, hne]
        rw [List.find?_map]
        have : ((fun j => q == (y :: l).getD j []) ∘ Nat.succ) = fun j => q == l.getD j [] := by funext j; simp
        rw [this]
        cases (List.range l.length).find? (fun j => q == l.getD j []) with
        | none => rfl
        | some j => simp; omega
      rw [e]
      have := (idxS_ge (ls := l) (q := q)).1
      split <;> split <;> omega
    · rw [if_pos rfl]
      have hq : (q == y) = true := by rw [eqL_eq hy]; exact beq_self_eq_true q
      have e : idxS (y :: l) q = 0 := by
        unfold idxS
        rw [hr, List.find?_cons]
        simp only [List.getD_cons_zero, hq]
        rfl
      rw [e]; simp
theorem idxS_L (ls : List (List UInt8)) (q : List UInt8) : idxS ls q = Old.idxL ls q 0 := by
  rw [idxL_at]
  have := (idxS_ge (ls := ls) (q := q)).1
  split <;> omega
theorem xname_ (r : Int)  : Fn Tryz.prog 15 [.int .i64 r] [] (Rt (.str (Old.nameF r)) []) :=
 enterM (n := 6) (by kernel_rfl) Tryz.func15 rfl rfl rfl fun G w a h0 A => N hX 7 A rfl rfl fun A => CALL1 [] xregs_ A rfl rfl rfl rfl rfl rfl rfl fun A => N hX 1 A rfl rfl fun A => CALL1 [] (regnm_ [82, 65, 88] [82, 66, 88] [82, 67, 88] [82, 68, 88] [82, 83, 73] [82, 68, 73] [82, 56] [82, 57] r) A rfl rfl rfl rfl rfl rfl rfl fun A => N hX 4 A rfl rfl fun A => RETN hX A rfl rfl rfl h0 rfl rfl rfl rfl (by rw [← regnm_x] <;> rfl) rfl
theorem sixA_ (s0 : List UInt8) (s1 : List UInt8) (s2 : List UInt8) (s3 : List UInt8) (s4 : List UInt8) (s5 : List UInt8) (s6 : List UInt8) (s7 : List UInt8) (q : List UInt8)  : Fn Tryz.prog 92 [.sp (.ptr 0 0) 8 8, .str q] [some (.blk [.str s0, .str s1, .str s2, .str s3, .str s4, .str s5, .str s6, .str s7])] (Rt (.int .i64 (idxS [s0, s1, s2, s3, s4, s5, s6, s7] q)) [some (.blk [.str s0, .str s1, .str s2, .str s3, .str s4, .str s5, .str s6, .str s7])]) :=
 enterM (n := 19) (by kernel_rfl) Tryz.func92 rfl rfl rfl fun G w a h0 A => N hX 14 A rfl rfl fun A => LOOP1 (fun (k : Nat) => [(0, .sp (.ptr 0 0) 8 8), (1, .str q), (4, .int .i64 0), (7, .int .i64 ((8 : Nat) : Int)), (8, .int .i64 (k : Int))]) (fun (k : Nat) => [some (.blk [.str s0, .str s1, .str s2, .str s3, .str s4, .str s5, .str s6, .str s7])]) (fun (k : Nat) => IxI [s0, s1, s2, s3, s4, s5, s6, s7] q k) (fun (k : Nat) => 8 - k) 0 IxI.i0 ((A.cut [0, 1, 4, 7, 8] rfl).trunc 1 rfl rfl rfl (by simp only [List.length_cons, List.length_nil] at h0; omega)) fun k hI {G a w} A => N hX 6 A rfl rfl fun A => forkD 9 A rfl
   (fun h1 A => N hX 21 A rfl (ok_d (by have := hI.le; simp only [List.length_cons, List.length_nil] at this; omega) <| ok_d (by have := hI.le; simp only [List.length_cons, List.length_nil] at this; omega) <| okE_nil) fun A => forkE 16 A rfl
    (fun h2 A => N hX 8 A rfl rfl fun A => RETN hX A rfl rfl rfl h0 rfl rfl rfl rfl (by rw [hI.hit (by show k < 8; omega) (by rw [show k = ((k : Int)).toNat from rfl]; simpa using h2)]; rfl) rfl)
    (fun h2 A => N hX 8 A rfl (ok_d (by have := hI.le; simp only [List.length_cons, List.length_nil] at this; omega) <| okE_nil) fun A => ⟨k + 1, _, (by omega), (hI.nx (by show k < 8; omega) (by rw [show k = ((k : Int)).toNat from rfl]; simpa using h2)), ((A.cut [0, 1, 4, 7, 8] rfl).trunc 1 rfl rfl rfl (by simp only [List.length_cons, List.length_nil] at h0; omega))⟩))
   (fun h1 A => N hX 9 A rfl rfl fun A => RETN hX A rfl rfl rfl h0 rfl rfl rfl rfl (by rw [hI.fi (by show 8 ≤ k; omega)]; rfl) rfl)
theorem lreg_ (s0 : List UInt8) (s1 : List UInt8) (s2 : List UInt8) (s3 : List UInt8) (s4 : List UInt8) (s5 : List UInt8) (s6 : List UInt8) (s7 : List UInt8) (q : List UInt8)  : Fn Tryz.prog 43 [.agg [.str s0, .str s1, .str s2, .str s3, .str s4, .str s5, .str s6, .str s7], .str q] [] (Rt (.int .i64 (idxS [s0, s1, s2, s3, s4, s5, s6, s7] q)) []) :=
 enterM (n := 8) (by kernel_rfl) Tryz.func43 rfl rfl rfl fun G w a h0 A => N hX 10 A rfl rfl fun A => CALL1 [0] (sixA_ s0 s1 s2 s3 s4 s5 s6 s7 q) A rfl rfl rfl rfl rfl rfl rfl fun A => N hX 4 A rfl rfl fun A => RETN hX A rfl rfl rfl h0 rfl rfl rfl rfl rfl rfl
theorem xreg_ (q : List UInt8)  : Fn Tryz.prog 17 [.str q] [] (Rt (.int .i64 (Old.regF q)) []) :=
 enterM (n := 6) (by kernel_rfl) Tryz.func17 rfl rfl rfl fun G w a h0 A => N hX 7 A rfl rfl fun A => CALL1 [] xregs_ A rfl rfl rfl rfl rfl rfl rfl fun A => N hX 1 A rfl rfl fun A => CALL1 [] (lreg_ [82, 65, 88] [82, 66, 88] [82, 67, 88] [82, 68, 88] [82, 83, 73] [82, 68, 73] [82, 56] [82, 57] q) A rfl rfl rfl rfl rfl rfl rfl fun A => N hX 4 A rfl rfl fun A => RETN hX A rfl rfl rfl h0 rfl rfl rfl rfl (by unfold Old.regF; rw [← idxS_L] <;> rfl) rfl
theorem nameF_k (k : Nat) (h : k < 8) : Old.nameF (k : Int) = Old.regsX.getD k [] := by
  have : k = 0 ∨ k = 1 ∨ k = 2 ∨ k = 3 ∨ k = 4 ∨ k = 5 ∨ k = 6 ∨ k = 7 := by omega
  rcases this with e | e | e | e | e | e | e | e <;> subst e <;> rfl
theorem regs_ne (k : Nat) (h : k < 8) : Old.regsX.getD k [] ≠ [] := by
  have : k = 0 ∨ k = 1 ∨ k = 2 ∨ k = 3 ∨ k = 4 ∨ k = 5 ∨ k = 6 ∨ k = 7 := by omega
  rcases this with e | e | e | e | e | e | e | e <;> subst e <;> decide
theorem rg_no1 {q : List UInt8} {k : Nat} (h : k < 8) (h1 : Old.nameF (k : Int) ≠ q) : (q == Old.regsX.getD k []) = false := by
  rw [nameF_k k h] at h1
  exact beq_eq_false_iff_ne.2 fun e => h1 e.symm
theorem rg_no2 {q : List UInt8} {k : Nat} (h : k < 8) (h1 : q = []) : (q == Old.regsX.getD k []) = false := by
  rw [h1]; exact beq_eq_false_iff_ne.2 fun e => regs_ne k h e.symm
theorem rg_yes {q : List UInt8} {k : Nat} (h : k < 8) (h1 : Old.nameF (k : Int) = q) : (q == Old.regsX.getD k []) = true := by
  rw [nameF_k k h] at h1
  rw [h1]; exact beq_self_eq_true q
theorem rregn_x (q : List UInt8)  : Fn Tryz.prog 18 [.int .i64 1, .str q] [] (Rt (.int .i64 (Old.regF q)) []) :=
 enterM (n := 20) (by kernel_rfl) Tryz.func18 rfl rfl rfl fun G w a h0 A => N hX 12 A rfl rfl fun A => LOOP1 (fun (k : Nat) => [(0, .int .i64 1), (1, .str q), (4, .int .i64 0), (5, .int .i64 (k : Int))]) (fun (k : Nat) => []) (fun (k : Nat) => IxI Old.regsX q k) (fun (k : Nat) => 8 - k) 0 IxI.i0 ((A.cut [0, 1, 4, 5] rfl).trunc 0 rfl rfl rfl (by simp only [List.length_cons, List.length_nil] at h0; omega)) fun k hI {G a w} A => N hX 7 A rfl rfl fun A => forkD 7 A rfl
   (fun h1 A => N hX 10 A rfl rfl fun A => forkN 12 A rfl
    (fun h2 A => N hX 2 A rfl rfl fun A => CALL1 [] (rname_x (k : Int)) A rfl rfl rfl rfl rfl rfl rfl fun A => N hX 5 A rfl rfl fun A => forkE 18 A rfl
     (fun h3 A => N hX 8 A rfl rfl fun A => RETN hX A rfl rfl rfl h0 rfl rfl rfl rfl (by unfold Old.regF; rw [← idxS_L, hI.hit (by show k < 8; omega) (rg_yes (by omega) h3)]; rfl) rfl)
     (fun h3 A => N hX 9 A rfl (ok_d (by have := hI.le; have e : Old.regsX.length = 8 := rfl; omega) <| okE_nil) fun A => ⟨k + 1, _, (by omega), (hI.nx (by show k < 8; omega) (rg_no1 (by omega) h3)), ((A.cut [0, 1, 4, 5] rfl).trunc 0 rfl rfl rfl (by simp only [List.length_cons, List.length_nil] at h0; omega))⟩))
    (fun h2 A => N hX 17 A rfl (ok_d (by have := hI.le; have e : Old.regsX.length = 8 := rfl; omega) <| okE_nil) fun A => ⟨k + 1, _, (by omega), (hI.nx (by show k < 8; omega) (rg_no2 (by omega) h2)), ((A.cut [0, 1, 4, 5] rfl).trunc 0 rfl rfl rfl (by simp only [List.length_cons, List.length_nil] at h0; omega))⟩))
   (fun h1 A => N hX 9 A rfl rfl fun A => RETN hX A rfl rfl rfl h0 rfl rfl rfl rfl (by unfold Old.regF; rw [← idxS_L, hI.fi (by show 8 ≤ k; omega)]; rfl) rfl)
end Go.Proofs.YtedlaclfhgneeaaGreatDoor
/- Words of texts that are written out. -/
namespace Go.Proofs.YtedlaclfhgneeaaGreatDoor
set_option linter.unusedVariables false
def skipC : Nat → List UInt8 → Nat × Bool
  | 0, _ => (0, false)
  | _ + 1, [] => (0, false)
  | n + 1, b :: r =>
    if blkB b then ((skipC n r).1 + 1, (skipC n r).2)
    else if preB (b :: r) [40, 42] then
      if endR ((b :: r).drop 2) < 0 then (0, true)
      else ((skipC n ((b :: r).drop (endR ((b :: r).drop 2)).toNat.succ.succ.succ.succ)).1 + ((endR ((b :: r).drop 2)).toNat + 4), (skipC n ((b :: r).drop (endR ((b :: r).drop 2)).toNat.succ.succ.succ.succ)).2)
    else (0, false)
theorem skip_C : ∀ (n : Nat) (l : List UInt8), l.length ≤ n → skipL l = skipC n l := by
  intro n
  induction n with
  | zero => intro l hl; obtain rfl : l = [] := List.eq_nil_of_length_eq_zero (Nat.le_zero.1 hl); rw [skip_nil]; rfl
  | succ n ih =>
    intro l hl
    match l, hl with
    | [], _ => rw [skip_nil]; rfl
    | b :: r, hl =>
      rw [skipL, skipC, ih r (by simpa using hl), ih ((b :: r).drop (endR ((b :: r).drop 2)).toNat.succ.succ.succ.succ) (by rw [List.length_drop]; omega)]
def toksC : Nat → List UInt8 → Nat → List Tk → List Tk × Int × Nat
  | 0, _, _, _ => ([], 0, 0)
  | f + 1, l, a, ws =>
    if (skipC l.length (l.drop a)).2 then ([], 24, a + (skipC l.length (l.drop a)).1)
    else if a + (skipC l.length (l.drop a)).1 = l.length then (ws, 0, 0)
    else if (firstR (l.drop (a + (skipC l.length (l.drop a)).1))).2 = 0 then
      toksC f l (a + (skipC l.length (l.drop a)).1 + (firstR (l.drop (a + (skipC l.length (l.drop a)).1))).1.text.length) (ws ++ [{ (firstR (l.drop (a + (skipC l.length (l.drop a)).1))).1 with at_ := ((a + (skipC l.length (l.drop a)).1 : Nat) : Int) }])
    else ([], (firstR (l.drop (a + (skipC l.length (l.drop a)).1))).2, a + (skipC l.length (l.drop a)).1)
theorem toks_C : ∀ (f : Nat) (l : List UInt8) (a : Nat) (ws : List Tk), toksF f l a ws = toksC f l a ws := by
  intro f
  induction f with
  | zero => intros; rfl
  | succ f ih =>
    intro l a ws
    rw [toksF, toksC, skip_C l.length (l.drop a) (by rw [List.length_drop]; omega), ih]
theorem tokens_C {l : List UInt8} (h : l.length ≤ 8192) : tokensR l = toksC (l.length + 1) l 0 [] := by rw [tokens_short h, toks_C]
end Go.Proofs.YtedlaclfhgneeaaGreatDoor
/- law5.able. -/
namespace Go.Proofs.YtedlaclfhgneeaaGreatDoor
open Go.RowKit
set_option linter.unusedVariables false
set_option linter.unusedSimpArgs false
set_option maxRecDepth 100000
set_option maxHeartbeats 2000000
set_option simprocs false
/-- a contract on a list that is read, for no list at all -/
theorem fnI_nil {I : Amb} {P : Program} {f s : Nat} {F : Nat → List SV} {x : SV} (h : FnI I P f [.sl 0 0 0] [some (.lst s 0 F)] (Rt x [some (.lst s 0 F)])) (hF : ∀ k, ∃ vs, denL [] (F k) = some vs) (hx : ∀ G, den G x = den [] x) : FnI I P f [.sla none 0 0] [] (Rt x []) := by
  refine ⟨h.1, fun G w vs hM hI hv => ?_⟩
  have hG : G = [] := List.length_eq_zero_iff.1 hM.len.symm
  subst hG
  have hM2 : Mem [some (.lst s 0 F)] [none] w := ⟨rfl, fun i e he => by
    match i, he with
    | 0, he => cases he; exact ⟨hF, .inl rfl⟩
    | i + 1, he => set_option simprocs true in simp at he, fun i j e g L M hij hi hj he hL => by
    match i, hi with
    | 0, hi => set_option simprocs true in simp at hL
    | i + 1, hi => set_option simprocs true in simp at hi⟩
  refine Calls.mono (h.2 [none] w vs hM2 hI hv) fun e w' ⟨x', H', F', v, ⟨q1, q2⟩, r1, r2, r3, r4, r5, r6, r7⟩ => ?_
  subst q1; subst q2
  exact ⟨_, _, [], v, ⟨rfl, rfl⟩, by rw [hx] at r1 ⊢; exact r1, r2, ⟨rfl, fun i e he => by set_option simprocs true in simp at he, fun i j e g L M hij hi => by set_option simprocs true in simp at hi⟩, r4, Nat.le_refl _, fun i e he => by set_option simprocs true in simp at he, fun i e he => by set_option simprocs true in simp at he⟩
def txt5 : List UInt8 := [77, 79, 86, 76, 32, 91, 120, 43, 52, 93, 44, 82, 66, 88]
def ws5 : List Tk := [⟨1, [77, 79, 86, 76], 0, 0⟩, ⟨3, [91], 0, 5⟩, ⟨1, [120], 0, 6⟩, ⟨3, [43], 0, 7⟩, ⟨2, [52], 4, 8⟩, ⟨3, [93], 0, 9⟩, ⟨3, [44], 0, 10⟩, ⟨1, [82, 66, 88], 0, 11⟩]
def ins5 : In := ⟨5, -1, 1, -1, 0, 0, 4, -1, 4, 0, false, false, false, 0, 0, 0, false⟩
theorem tok5 : tokensR txt5 = (ws5, 0, 0) := by rw [tokens_C (by decide)]; kernel_rfl
theorem ws5_ok : WsOK ws5 := by unfold WsOK; decide
theorem ws0_ok : WsOK [] := fun t h => by cases h
theorem par5I : parI x86G ws5 x86C = ins5 := by kernel_rfl
theorem par5T : parT x86G ws5 x86C = [] := by kernel_rfl
theorem par5E : parE x86G ws5 x86C = 0 := by kernel_rfl
theorem par0E : parE x86G [] x86C = 24 := by kernel_rfl
theorem par0A : parA x86G [] x86C = 0 := by kernel_rfl
theorem prt5 : prP x86G x86C ins5 [] = (txt5, 0) := by kernel_rfl
theorem reg3 : Old.regF (Old.nameF 3) = 3 := by decide +kernel
theorem ins5R : InR ins5 := ⟨by decide, by decide⟩
theorem able_  (os : List (Nat × Obj)) (hM : ∀ w ks, Gl os w ks → ∃ m, w.cell? ⟨0, 0, none⟩ = some (.int .i64 m)) (hT : ∀ w ks, Gl os w ks → Lib.TabIs Tryz.prog w "internal/strconv.uint64pow10" .u64 Lib.pow10Tab) (hE : ∀ w ks, Gl os w ks → ∃ ev, w.cell? ⟨1, 0, none⟩ = some ev ∧ (ev = .nilIface ∨ ∃ te pe, ev = .iface te pe)) : FnI (Gl os) Tryz.prog 9 [] [] (Rt (.tt) []) :=
 enterI (n := 66) (by kernel_rfl) Tryz.func9 rfl rfl rfl fun G w a h0 hI A => N hX 7 A rfl rfl fun A => CALLI [] Gl.ok hI (tokens_ok txt5 ws5 os hM hE tok5) A rfl rfl rfl rfl rfl rfl rfl fun A => N hX 12 A rfl rfl fun A => have A := A.freeze 0 rfl; CALLI [0] Gl.ok hI (xparse_ ws5 0 (by decide) ws5_ok os hM) A rfl rfl rfl rfl rfl rfl rfl fun A => N hX 16 A rfl rfl fun A => CALLI [] Gl.ok hI (xprint_ (parI x86G ws5 x86C) (parT x86G ws5 x86C) os hM hT hE (fun L hL => x86_prok (by rw [par5I]; exact ins5R) (by rw [par5T]; decide) hL)) A rfl rfl rfl rfl rfl rfl rfl fun A => N hX 9 A rfl rfl fun A => CALLI [] Gl.ok hI (fnI_nil (xparse_ [] 0 (by decide) ws0_ok os hM) (fun k => ⟨_, rfl⟩) (fun _ => rfl)) A rfl rfl rfl rfl rfl rfl rfl fun A => N hX 17 A rfl rfl fun A => forkE 40 A rfl
  (fun h1 A => N hX 4 A rfl rfl fun A => forkE 44 A rfl
   (fun h2 A => N hX 4 A rfl rfl fun A => forkE 48 A rfl
    (fun h3 A => N hX 5 A rfl rfl fun A => forkE 53 A rfl
     (fun h4 A => N hX 4 A rfl rfl fun A => forkE 57 A rfl
      (fun h5 A => N hX 4 A rfl rfl fun A => forkE 61 A rfl
       (fun h6 A => CALL1 [] (xname_ 3) A rfl rfl rfl rfl rfl rfl rfl fun A => CALL1 [] (xreg_ (Old.nameF 3)) A rfl rfl rfl rfl rfl rfl rfl fun A => N hX 6 A rfl rfl fun A => RETN hX A rfl rfl rfl h0 rfl rfl rfl rfl (by rw [reg3]; rfl) rfl)
       (fun h6 A => N hX 8 A rfl rfl fun A => RETN hX A rfl rfl rfl h0 rfl rfl rfl rfl (absurd par0A h6) rfl))
      (fun h5 A => N hX 12 A rfl rfl fun A => RETN hX A rfl rfl rfl h0 rfl rfl rfl rfl (absurd par0E h5) rfl))
     (fun h4 A => N hX 16 A rfl rfl fun A => RETN hX A rfl rfl rfl h0 rfl rfl rfl rfl (absurd (by rw [par5I]; rfl) h4) rfl))
    (fun h3 A => N hX 21 A rfl rfl fun A => RETN hX A rfl rfl rfl h0 rfl rfl rfl rfl (absurd (by rw [par5I, par5T, prt5]; rfl) h3) rfl))
   (fun h2 A => N hX 25 A rfl rfl fun A => RETN hX A rfl rfl rfl h0 rfl rfl rfl rfl (absurd (by rw [par5I, par5T, prt5]) h2) rfl))
  (fun h1 A => N hX 29 A rfl rfl fun A => RETN hX A rfl rfl rfl h0 rfl rfl rfl rfl (absurd par5E h1) rfl)
end Go.Proofs.YtedlaclfhgneeaaGreatDoor
/- law5.X86Prints. -/
namespace Go.Proofs.YtedlaclfhgneeaaGreatDoor
open Go.RowKit
set_option linter.unusedVariables false
set_option linter.unusedSimpArgs false
set_option maxRecDepth 100000
set_option maxHeartbeats 2000000
set_option simprocs false
theorem prints_ (i : In) (lb : List UInt8) (rg : Int) (nm : List UInt8) (os : List (Nat × Obj)) (hM : ∀ w ks, Gl os w ks → ∃ m, w.cell? ⟨0, 0, none⟩ = some (.int .i64 m)) (hT : ∀ w ks, Gl os w ks → Lib.TabIs Tryz.prog w "internal/strconv.uint64pow10" .u64 Lib.pow10Tab) (hE : ∀ w ks, Gl os w ks → ∃ ev, w.cell? ⟨1, 0, none⟩ = some ev ∧ (ev = .nilIface ∨ ∃ te pe, ev = .iface te pe)) (hi : InR i) (hl : lb.length + nm.length ≤ 1000000000000000000) : FnI (Gl os) Tryz.prog 4 [.agg (inQ9 i), .str lb, .int .i64 rg, .str nm] [] (Rt (.tt) []) :=
 enterI (n := 55) (by kernel_rfl) Tryz.func4 rfl rfl rfl fun G w a h0 hI A => N hX 9 A rfl rfl fun A => CALLI [] Gl.ok hI (able_ os hM hT hE) A rfl rfl rfl rfl rfl rfl rfl fun A => N hX 17 A rfl (ok_d (by omega) <| okE_nil) fun A => forkD 20 A rfl
  (fun h1 A => N hX 7 A rfl rfl fun A => RETN hX A rfl rfl rfl h0 rfl rfl rfl rfl rfl rfl)
  (fun h1 A => N hX 7 A rfl rfl fun A => CALLI [] Gl.ok hI (xprint_ i lb os hM hT hE (fun L hL => x86_prok hi (by omega) hL)) A rfl rfl rfl rfl rfl rfl rfl fun A => N hX 11 A rfl rfl fun A => CALL1 [] (rprint_ i lb hi.of_ hi.im (by omega)) A rfl rfl rfl rfl rfl rfl rfl fun A => N hX 13 A rfl rfl fun A => forkE 36 A rfl
   (fun h2 A => N hX 5 A rfl rfl fun A => forkE 41 A rfl
    (fun h3 A => N hX 1 A rfl rfl fun A => CALL1 [] (xname_ rg) A rfl rfl rfl rfl rfl rfl rfl fun A => N hX 1 A rfl rfl fun A => CALL1 [] (rname_x rg) A rfl rfl rfl rfl rfl rfl rfl fun A => N hX 3 A rfl rfl fun A => forkE 48 A rfl
     (fun h4 A => N hX 1 A rfl rfl fun A => CALL1 [] (xreg_ nm) A rfl rfl rfl rfl rfl rfl rfl fun A => N hX 1 A rfl rfl fun A => CALL1 [] (rregn_x nm) A rfl rfl rfl rfl rfl rfl rfl fun A => N hX 6 A rfl rfl fun A => RETN hX A rfl rfl rfl h0 rfl rfl rfl rfl (by rw [beq_self_eq_true]; rfl) rfl)
     (fun h4 A => N hX 10 A rfl rfl fun A => RETN hX A rfl rfl rfl h0 rfl rfl rfl rfl (absurd rfl h4) rfl))
    (fun h3 A => N hX 17 A rfl rfl fun A => RETN hX A rfl rfl rfl h0 rfl rfl rfl rfl (absurd (by rw [pr_ref]) h3) rfl))
   (fun h2 A => N hX 22 A rfl rfl fun A => RETN hX A rfl rfl rfl h0 rfl rfl rfl rfl (absurd (by rw [pr_ref]) h2) rfl))
theorem prints2_ (i : In) (lb : List UInt8) (rg : Int) (nm : List UInt8) (os : List (Nat × Obj)) (hM : ∀ w ks, Gl os w ks → ∃ m, w.cell? ⟨0, 0, none⟩ = some (.int .i64 m)) (hT : ∀ w ks, Gl os w ks → Lib.TabIs Tryz.prog w "internal/strconv.uint64pow10" .u64 Lib.pow10Tab) (hE : ∀ w ks, Gl os w ks → ∃ ev, w.cell? ⟨1, 0, none⟩ = some ev ∧ (ev = .nilIface ∨ ∃ te pe, ev = .iface te pe)) (hi : InR i) (h1 : lb.length ≤ 140737488355328) (h2 : nm.length ≤ 140737488355328) : FnI (Gl os) Tryz.prog 4 [.agg (inQ9 i), .str lb, .int .i64 rg, .str nm] [] (Rt .tt []) := prints_ i lb rg nm os hM hT hE hi (by omega)
end Go.Proofs.YtedlaclfhgneeaaGreatDoor
/- How an instruction and a text that are handed in are read; package-level variables; from a contract to a call. -/
namespace Go.Proofs.YtedlaclfhgneeaaGreatDoor
open Go.ChangeShapes Go.WideShapes Go.ChangeAt Go.RowKit
set_option linter.unusedVariables false
set_option linter.unusedSimpArgs false
set_option maxRecDepth 100000
def insC (i : In) : Array Value := #[.int .i64 i.op, .int .i64 i.dst, .int .i64 i.ra, .int .i64 i.rb, .int .i64 i.imm, .int .i64 i.loc, .int .i64 i.off, .int .i64 i.ix, .int .i64 i.sz, .int .i64 i.fn, .bool i.acq, .bool i.weak, .bool i.rel, .int .i64 i.pred, .int .i64 i.succ, .int .i64 i.to_, .bool i.zero]
def insT (k : Nat) : Nat := if k == 10 || k == 11 || k == 12 || k == 16 then 4 else 3
def insFs (P : Program) : Option (Array Field) := match P.underlying 30 with | some (.struct fs) => some fs | _ => none
def insFB (P : Program) : Bool := match insFs P with | some fs => (List.range 17).all (fun k => match fs[k]? with | some f => f.offset == k && f.type == insT k | none => false) | none => false
theorem insFB_true : insFB Tryz.prog = true := by kernel_rfl
theorem ins_fields : ∃ fs : Array Field, Tryz.prog.underlying 30 = some (.struct fs) ∧ ∀ k, k < 17 → ∃ f, fs[k]? = some f ∧ f.offset = k ∧ f.type = insT k := by
  have h := insFB_true
  unfold insFB at h
  cases hq : insFs Tryz.prog with
  | none => simp [hq] at h
  | some fs =>
    rw [hq] at h
    refine ⟨fs, ?_, fun k hk => ?_⟩
    · unfold insFs at hq
      split at hq
      · rename_i fs' he; rw [he]; cases hq; rfl
      · cases hq
    · have h1 := List.all_eq_true.1 h k (List.mem_range.2 hk)
      cases hf : fs[k]? with
      | none => simp [hf] at h1
      | some f => rw [hf] at h1; simp only [Bool.and_eq_true, beq_iff_eq] at h1; exact ⟨f, rfl, h1.1, h1.2⟩
theorem ins_cells : Tryz.prog.cellsOf 30 = 17 := by kernel_rfl
theorem int_cells : Tryz.prog.cellsOf 3 = 1 := by kernel_rfl
theorem bool_cells : Tryz.prog.cellsOf 4 = 1 := by kernel_rfl
theorem take_one {l : List Value} {k : Nat} {v : Value} (h : (l.drop k).take 1 = [v]) : l[k]? = some v := by
  have := congrArg (fun l => l[0]?) h
  simpa using this
theorem open_ins {H : Type} {enc : TypeId × Value → H} {W : World} {base : Nat} {spare : Nat → Bool} {held : Bool} {base' : Nat} {v : Value} {d : DataW H} {ps : List MemPlace}
    (hv : Value.okWide Tryz.prog W .any base 30 v) (h : DataW.Trod enc Tryz.prog W base' spare held 30 v d ps) : ∃ i : In, v = .agg (insC i) := by
  obtain ⟨fs, hu, hfs⟩ := ins_fields
  obtain ⟨cs, rfl, hsz⟩ := okWide_struct hu hv
  rw [ins_cells] at hsz
  obtain ⟨fuel, hf⟩ := h
  obtain ⟨xs, n, _, _, _, hlen, hx⟩ := DataW.trod_struct hu hf
  have int : ∀ k, k < 17 → insT k = 3 → ∃ m : Int, cs.toList[k]? = some (.int .i64 m) := fun k hk ht => by
    obtain ⟨f, hf1, ho, hty⟩ := hfs k hk
    have h1 := hx k f hf1
    have hl := (Array.getElem?_eq_some_iff.1 hf1).1
    rw [ho, hty, ht, int_cells, List.getElem?_eq_getElem (by omega)] at h1
    obtain ⟨m, h2, _, _⟩ := DataW.trod_int Tryz.underlying3 h1
    exact ⟨m, take_one h2⟩
  have bool : ∀ k, k < 17 → insT k = 4 → ∃ b : Bool, cs.toList[k]? = some (.bool b) := fun k hk ht => by
    obtain ⟨f, hf1, ho, hty⟩ := hfs k hk
    have h1 := hx k f hf1
    have hl := (Array.getElem?_eq_some_iff.1 hf1).1
    rw [ho, hty, ht, bool_cells, List.getElem?_eq_getElem (by omega)] at h1
    obtain ⟨m, h2, _⟩ := DataW.trod_bool Tryz.underlying4 h1
    exact ⟨m, take_one h2⟩
  obtain ⟨c0, h0⟩ := int 0 (by decide) rfl
  obtain ⟨c1, h1⟩ := int 1 (by decide) rfl
  obtain ⟨c2, h2⟩ := int 2 (by decide) rfl
  obtain ⟨c3, h3⟩ := int 3 (by decide) rfl
  obtain ⟨c4, h4⟩ := int 4 (by decide) rfl
  obtain ⟨c5, h5⟩ := int 5 (by decide) rfl
  obtain ⟨c6, h6⟩ := int 6 (by decide) rfl
  obtain ⟨c7, h7⟩ := int 7 (by decide) rfl
  obtain ⟨c8, h8⟩ := int 8 (by decide) rfl
  obtain ⟨c9, h9⟩ := int 9 (by decide) rfl
  obtain ⟨c10, h10⟩ := bool 10 (by decide) rfl
  obtain ⟨c11, h11⟩ := bool 11 (by decide) rfl
  obtain ⟨c12, h12⟩ := bool 12 (by decide) rfl
  obtain ⟨c13, h13⟩ := int 13 (by decide) rfl
  obtain ⟨c14, h14⟩ := int 14 (by decide) rfl
  obtain ⟨c15, h15⟩ := int 15 (by decide) rfl
  obtain ⟨c16, h16⟩ := bool 16 (by decide) rfl
  refine ⟨⟨c0, c1, c2, c3, c4, c5, c6, c7, c8, c9, c10, c11, c12, c13, c14, c15, c16⟩, congrArg Value.agg ?_⟩
  apply Array.ext'
  apply List.ext_getElem?
  intro k
  by_cases hk : k < 17
  · have : k = 0 ∨ k = 1 ∨ k = 2 ∨ k = 3 ∨ k = 4 ∨ k = 5 ∨ k = 6 ∨ k = 7 ∨ k = 8 ∨ k = 9 ∨ k = 10 ∨ k = 11 ∨ k = 12 ∨ k = 13 ∨ k = 14 ∨ k = 15 ∨ k = 16 := by omega
    rcases this with rfl | rfl | rfl | rfl | rfl | rfl | rfl | rfl | rfl | rfl | rfl | rfl | rfl | rfl | rfl | rfl | rfl
    · exact h0
    · exact h1
    · exact h2
    · exact h3
    · exact h4
    · exact h5
    · exact h6
    · exact h7
    · exact h8
    · exact h9
    · exact h10
    · exact h11
    · exact h12
    · exact h13
    · exact h14
    · exact h15
    · exact h16
  · rw [List.getElem?_eq_none (by simp; omega), List.getElem?_eq_none (by simp [insC]; omega)]
theorem wf_rng {n : Int} (h : (Lit.int .i64 n).wf = true) : -9223372036854775808 ≤ n ∧ n ≤ 9223372036854775807 := by
  have h' : (decide ((IntKind.i64).min ≤ n) && decide (n ≤ (IntKind.i64).max)) = true := h
  rw [Bool.and_eq_true, decide_eq_true_eq, decide_eq_true_eq, show (IntKind.i64).min = -9223372036854775808 from rfl, show (IntKind.i64).max = 9223372036854775807 from rfl] at h'
  exact h'
theorem ins_rng {H : Type} {enc : TypeId × Value → H} {W : World} {spare : Nat → Bool} {held : Bool} {base' : Nat} {i : In} {d : DataW H} {ps : List MemPlace}
    (h : DataW.Trod enc Tryz.prog W base' spare held 30 (.agg (insC i)) d ps) : (-9223372036854775808 ≤ i.imm ∧ i.imm ≤ 9223372036854775807) ∧ (-9223372036854775808 ≤ i.off ∧ i.off ≤ 9223372036854775807) := by
  obtain ⟨fs, hu, hfs⟩ := ins_fields
  obtain ⟨fuel, hf⟩ := h
  obtain ⟨xs, n, _, _, _, hlen, hx⟩ := DataW.trod_struct hu hf
  have int : ∀ k, k < 17 → insT k = 3 → ∀ m : Int, (insC i).toList[k]? = some (.int .i64 m) → -9223372036854775808 ≤ m ∧ m ≤ 9223372036854775807 := fun k hk ht m hm => by
    obtain ⟨f, hf1, ho, hty⟩ := hfs k hk
    have h1 := hx k f hf1
    have hl := (Array.getElem?_eq_some_iff.1 hf1).1
    rw [ho, hty, ht, int_cells, List.getElem?_eq_getElem (by omega)] at h1
    obtain ⟨m', h2, _, hw⟩ := DataW.trod_int Tryz.underlying3 h1
    have e := take_one h2
    have e2 : (insC i).toList[k]? = some (.int .i64 m') := e
    rw [hm] at e2
    cases e2
    exact wf_rng hw
  exact ⟨int 4 (by decide) rfl i.imm rfl, int 6 (by decide) rfl i.off rfl⟩
theorem tab_fac {W : World} (h : Lib.TabIs Tryz.prog W "internal/strconv.uint64pow10" .u64 Lib.pow10Tab) : ∃ o, W.heap[5]? = some o ∧ ∀ w : World, w.heap[5]? = some o → Lib.TabIs Tryz.prog w "internal/strconv.uint64pow10" .u64 Lib.pow10Tab := by
  have hg : Tryz.prog.globalNamed "internal/strconv.uint64pow10" = some 5 := by kernel_rfl
  cases ho : W.heap[5]? with
  | none => unfold Lib.TabIs World.var? at h; rw [hg] at h; simp [ho] at h
  | some o =>
    refine ⟨o, rfl, fun w hw => ?_⟩
    unfold Lib.TabIs World.var? at h ⊢
    rw [hg] at h ⊢
    simp only [Option.bind_some, ho, hw] at h ⊢
    exact h
theorem cell_fac {W : World} {b k : Nat} {v : Value} (h : W.cell? ⟨b, k, none⟩ = some v) : ∃ o, W.heap[b]? = some o ∧ ∀ w : World, w.heap[b]? = some o → w.cell? ⟨b, k, none⟩ = some v := by
  cases ho : W.heap[b]? with
  | none => unfold World.cell? at h; simp [ho] at h
  | some o =>
    refine ⟨o, rfl, fun w hw => ?_⟩
    unfold World.cell? at h ⊢
    simp only [ho, hw] at h ⊢
    exact h
/-- what package-level variables hold, and from a contract to a call -/
theorem call_of {f : Nat} {args : List SV} {vs : List Value} {W : World} (hT : Lib.TabIs Tryz.prog W "internal/strconv.uint64pow10" .u64 Lib.pow10Tab) (m0 : Int) (hm : W.cell? ⟨0, 0, none⟩ = some (.int .i64 m0)) (ev : Value) (he : W.cell? ⟨1, 0, none⟩ = some ev) (hev : ev = .nilIface ∨ ∃ te pe, ev = .iface te pe) (hv : denL [] args = some vs)
    (h : ∀ os : List (Nat × Obj), (∀ w ks, Gl os w ks → ∃ m, w.cell? ⟨0, 0, none⟩ = some (.int .i64 m)) → (∀ w ks, Gl os w ks → Lib.TabIs Tryz.prog w "internal/strconv.uint64pow10" .u64 Lib.pow10Tab) → (∀ w ks, Gl os w ks → ∃ ev, w.cell? ⟨1, 0, none⟩ = some ev ∧ (ev = .nilIface ∨ ∃ te pe, ev = .iface te pe)) → FnI (Gl os) Tryz.prog f args [] (Rt .tt [])) : Calls Tryz.prog f vs.toArray W fun e W' => e = .returned (.bool true) ∧ Grow W W' := by
  obtain ⟨o5, k5, c5⟩ := tab_fac hT
  obtain ⟨o0, k0, c0⟩ := cell_fac hm
  obtain ⟨o1, k1, c1⟩ := cell_fac he
  have hG : Gl [(0, o0), (1, o1), (5, o5)] W [] := fun p hp => by
    simp only [List.mem_cons, List.not_mem_nil, or_false] at hp
    rcases hp with rfl | rfl | rfl
    · exact ⟨k0, rfl⟩
    · exact ⟨k1, rfl⟩
    · exact ⟨k5, rfl⟩
  have hf := h [(0, o0), (1, o1), (5, o5)] (fun w ks hg => ⟨m0, c0 w (hg (0, o0) (by simp)).1⟩) (fun w ks hg => c5 w (hg (5, o5) (by simp)).1) (fun w ks hg => ⟨ev, c1 w (hg (1, o1) (by simp)).1, hev⟩)
  have hM : Mem [] [] W := ⟨rfl, fun i e h => by simp at h, fun i j e f L M _ h => by simp at h⟩
  refine Calls.mono (hf.2 [] W vs hM hG hv) fun e W' hp => ?_
  obtain ⟨v, F, h1, h2, _, h4⟩ := post_ro hp (fun i e he => by simp at he)
  cases h1
  exact ⟨h2, h4⟩
end Go.Proofs.YtedlaclfhgneeaaGreatDoor
