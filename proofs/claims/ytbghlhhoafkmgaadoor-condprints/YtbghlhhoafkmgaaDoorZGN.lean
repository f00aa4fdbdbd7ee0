/- The law of texts. -/
import Derived.Test.YtbghlhhoafkmgaaDoorZGM
import Derived.Test.YtbghlhhoafkmgaaDoorCondJudgesP5
namespace Go.Proofs.YtbghlhhoafkmgaaDoor
open Go.RowKit
set_option linter.unusedVariables false
set_option linter.unusedSimpArgs false
set_option maxRecDepth 100000
set_option maxHeartbeats 2000000
set_option simprocs false
section
variable {P : Program} {n : Nat} {ks : List Nat} {G0 : Gr} {w0 : World} {T : List (Nat × SV)} {H : Hp} {G : Gr} {a : Act} {w : World} {Q : Exit → Act → World → Prop} {K : List Fr} {ops : Array Oper} {o : Oper} {rest : List Oper}
theorem CALLB {f : Nat} {args az : List SV} {H' l : Hp} {t : Tr} (m : List Nat) (hf : FnR P f args H' (fun x w w' => ∃ b p, x = adr b p ∧ TrAt w.heap.size t b p w' [])) (A : Sy n T H ks G0 w0 G a w) (h1 : callS n ops T o = some (f, az)) (h2 : renL m args = some az) (h3 : renH m H' = some l) (h4 : pickH H m = some l) (h5 : ndB m = true)
    (hk : ∀ b p a' w', TrAt w.heap.size t b p w' (keys H G) → Sy n (extS T o.dst (adr b p)) H ks G0 w0 G a' w' → Goal P Q K (.ops ops rest) a' w') : Goal P Q K (.ops ops (o :: rest)) a w :=
  CALLR m hf A h1 h2 h3 h4 h5 fun x a' w' hJ hq A' => by
    obtain ⟨b, p, rfl, ht⟩ := hJ
    exact hk b p a' w' (TrAt.off hq _ _ _ ht) A'
end
theorem len32 {L : List Cn} (hr : right L = true) : L.length ≤ 32 := by unfold right at hr; split at hr <;> first | cases hr | omega
theorem tree_ok (ar : Int) {L : List Cn} (hr : right L = true) (hv : ∀ q, okV (L.getD q Cn.z).vl) : (treeOf L).ok ∧ (treeOf L).nd ≤ 1000 := by
  have h := tree_fin (ar := 1) (xnm_ok 1 rfl).1 hr hv
  exact ⟨h.1, h.2.1⟩
theorem rprint_ (ar : Int) (L : List Cn) (c : Nat) (hv : ∀ q, okV (L.getD q Cn.z).vl) (hN : L.length ≤ 4000) : Fn Tryd.prog 16 [.int .i64 ar, .sl 0 L.length c] [some (.lst 5 L.length (fun zz => cc (L.getD zz Cn.z)))] (Rt (.tup [.str (prT ar L), .int .i64 (prE ar L)]) [some (.lst 5 L.length (fun zz => cc (L.getD zz Cn.z)))]) :=
 enterM (n := 21) (by kernel_rfl) Tryd.func16 rfl rfl rfl fun G w a h0 A => N2 hX 17 A rfl rfl fun A => fork 12 A rfl
  (fun h1 A => N2 hX 8 A rfl rfl fun A => RETN hX A rfl rfl rfl h0 rfl rfl rfl rfl (by unfold prT prE; rw [show badA ar = true from h1]; rfl) rfl)
  (fun h1 A => N2 hX 6 A rfl rfl fun A => CALL1 [0] (rright_ L c (by omega)) A rfl rfl rfl rfl rfl rfl rfl fun A => N2 hX 10 A rfl rfl fun A => fork 16 A rfl
   (fun h2 A => N2 hX 8 A rfl rfl fun A => RETN hX A rfl rfl rfl h0 rfl rfl rfl rfl (by unfold prT prE; rw [show badA ar = false from h1]; rw [h2]; rfl) rfl)
   (fun h2 A => N2 hX 7 A rfl rfl fun A => have hr := right_of h2; CALLB [0] (build_ L c hr (len32 hr)) A rfl rfl rfl rfl rfl fun tb tp a2 w2 hT2 A => have B := A; have A := A.base; CALLI [] (TrAt.ok _ _ _) hT2 (text_ ar _ (treeOf L) tb tp (tree_ok ar hr hv).1 (tree_ok ar hr hv).2) A rfl rfl rfl rfl rfl rfl rfl fun A => N2 hX 5 A rfl rfl fun A => RETN hX (B.trans A) rfl rfl rfl h0 rfl rfl rfl rfl (by unfold prT prE; rw [show badA ar = false from h1]; rw [h2]; rfl) rfl))
theorem prints_ (ar : Int) (cs : List Cn) (c : Nat) (b : Nat) (o : Obj) (hT : ∀ w : World, w.heap[b]? = some o → Lib.TabIs Tryd.prog w "internal/strconv.uint64pow10" .u64 Lib.pow10Tab) (hv : ∀ q, okV (cs.getD q Cn.z).vl) : Fn Tryd.prog 4 [.int .i64 ar, .sl 0 cs.length c] [some (.lst 5 cs.length (fun zz => cc (cs.getD zz Cn.z))), some (.fac b o)] (Rt (.tt) [some (.lst 5 cs.length (fun zz => cc (cs.getD zz Cn.z))), some (.fac b o)]) :=
 enterM (n := 36) (by kernel_rfl) Tryd.func4 rfl rfl rfl fun G w a h0 A => N2 hX 8 A rfl rfl fun A => CALL1 [1] (able_ b o hT) A rfl rfl rfl rfl rfl rfl rfl fun A => N2 hX 14 A rfl rfl fun A => forkD 13 A rfl
  (fun h1 A => N2 hX 7 A rfl rfl fun A => RETN hX A rfl rfl rfl h0 rfl rfl rfl rfl rfl rfl)
  (fun h1 A => N2 hX 8 A rfl rfl fun A => APPL hX (cs.length) (fun zz => cc (cs.getD zz Cn.z)) A rfl rfl rfl rfl (Nat.le_refl _) (by (try simp only [List.length_append, List.length_cons, List.length_nil]); omega) (by (try simp only [List.length_append, List.length_cons, List.length_nil]); omega) (by rw [Nat.zero_add]) (fun k hk => by omega) (fun k hk => by show cc _ = cc _; rw [Nat.zero_add]) (fun z => ⟨_, rfl, rfl⟩) (fun k hk => ⟨_, rfl, okE_nil⟩) fun A => have A := A.freeze 3 rfl; CALL1 [3, 1] (pprint_ ar cs 0 b o hT hv (by omega)) A rfl rfl rfl rfl rfl rfl rfl fun A => N2 hX 11 A rfl rfl fun A => CALL1 [0] (rprint_ ar cs c hv (by omega)) A rfl rfl rfl rfl rfl rfl rfl fun A => N2 hX 21 A rfl rfl fun A => RETN hX A rfl rfl rfl h0 rfl rfl rfl rfl (by simp only [beq_self_eq_true, Bool.and_self]; rfl) rfl)
end Go.Proofs.YtbghlhhoafkmgaaDoor
