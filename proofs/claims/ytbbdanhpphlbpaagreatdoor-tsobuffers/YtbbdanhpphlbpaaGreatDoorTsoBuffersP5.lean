/- TsoBuffers, part 5: the engine, contracts, theory. -/
import Derived.Test.YtbbdanhpphlbpaaGreatDoorTsoBuffersP4
import Derived.Shelf.Spec.SlicesGrow
import Derived.LoopN
import Derived.WalkSmall
import Derived.ProofKit
import Derived.OpenShut
import Derived.ChangeOld
import Derived.Deep.Slices
import Derived.Lib.LaidTab
namespace Go.Proofs.YtbbdanhpphlbpaaGreatDoor
open Go.RowKit
set_option linter.unusedVariables false
set_option linter.unusedSimpArgs false
set_option maxRecDepth 100000
set_option maxHeartbeats 2000000
set_option simprocs false
def xothR (b1 b2 b3 b4 b5 b6 b7 b8 b9 : Nat) : List Rw := [⟨[77, 79, 86], [], ⟨1, 0, 0, 0, 0, 0, 0, 0, 0, 0, false, false, false, 0, 0, 0, false⟩, some ⟨b1, 0, none⟩, [1, 5], 2⟩, ⟨[77, 79, 86], [], ⟨2, 0, 0, 0, 0, 0, 0, 0, 0, 0, false, false, false, 0, 0, 0, false⟩, some ⟨b2, 0, none⟩, [1, 2], 2⟩, ⟨[77, 79, 86, 42], [], ⟨4, 0, 0, 0, 0, 0, 0, 0, 0, 0, false, false, false, 0, 0, 0, false⟩, some ⟨b3, 0, none⟩, [1, 6], 2⟩, ⟨[77, 79, 86, 42], [], ⟨5, 0, 0, 0, 0, 0, 0, 0, 0, 0, false, false, false, 0, 0, 0, false⟩, some ⟨b4, 0, none⟩, [6, 2], 2⟩, ⟨[77, 79, 86, 42], [], ⟨5, 0, 0, 0, 0, 0, 0, 0, 0, 0, false, false, false, 0, 0, 0, false⟩, some ⟨b5, 0, none⟩, [6, 5], 2⟩, ⟨[88, 67, 72, 71, 42], [], ⟨6, 0, 0, 0, 0, 0, 0, 0, 0, 6, true, false, true, 0, 0, 0, false⟩, some ⟨b6, 0, none⟩, [4, 6], 2⟩, ⟨[88, 65, 68, 68, 42], [], ⟨6, 0, 0, 0, 0, 0, 0, 0, 0, 1, true, false, true, 0, 0, 0, false⟩, some ⟨b7, 0, none⟩, [6, 4], 2⟩, ⟨[77, 70, 69, 78, 67, 69], [], ⟨7, 0, 0, 0, 0, 0, 0, 0, 0, 0, false, false, false, 3, 3, 0, false⟩, none, [], 0⟩, ⟨[74, 90], [], ⟨9, 0, 0, 0, 0, 0, 0, 0, 0, 0, false, false, false, 0, 0, 0, true⟩, some ⟨b8, 0, none⟩, [2, 7], 2⟩, ⟨[74, 78, 90], [], ⟨9, 0, 0, 0, 0, 0, 0, 0, 0, 0, false, false, false, 0, 0, 0, false⟩, some ⟨b9, 0, none⟩, [2, 7], 2⟩]
def xothT : List (List UInt8 × List UInt8 × In × List Int) := [([77, 79, 86], [], ⟨1, 0, 0, 0, 0, 0, 0, 0, 0, 0, false, false, false, 0, 0, 0, false⟩, [1, 5]), ([77, 79, 86], [], ⟨2, 0, 0, 0, 0, 0, 0, 0, 0, 0, false, false, false, 0, 0, 0, false⟩, [1, 2]), ([77, 79, 86, 42], [], ⟨4, 0, 0, 0, 0, 0, 0, 0, 0, 0, false, false, false, 0, 0, 0, false⟩, [1, 6]), ([77, 79, 86, 42], [], ⟨5, 0, 0, 0, 0, 0, 0, 0, 0, 0, false, false, false, 0, 0, 0, false⟩, [6, 2]), ([77, 79, 86, 42], [], ⟨5, 0, 0, 0, 0, 0, 0, 0, 0, 0, false, false, false, 0, 0, 0, false⟩, [6, 5]), ([88, 67, 72, 71, 42], [], ⟨6, 0, 0, 0, 0, 0, 0, 0, 0, 6, true, false, true, 0, 0, 0, false⟩, [4, 6]), ([88, 65, 68, 68, 42], [], ⟨6, 0, 0, 0, 0, 0, 0, 0, 0, 1, true, false, true, 0, 0, 0, false⟩, [6, 4]), ([77, 70, 69, 78, 67, 69], [], ⟨7, 0, 0, 0, 0, 0, 0, 0, 0, 0, false, false, false, 3, 3, 0, false⟩, []), ([74, 90], [], ⟨9, 0, 0, 0, 0, 0, 0, 0, 0, 0, false, false, false, 0, 0, 0, true⟩, [2, 7]), ([74, 78, 90], [], ⟨9, 0, 0, 0, 0, 0, 0, 0, 0, 0, false, false, false, 0, 0, 0, false⟩, [2, 7])]
def x86T : List (List UInt8 × List UInt8 × In × List Int) := xcomp ++ xothT
theorem xoth_rows {b1 b2 b3 b4 b5 b6 b7 b8 b9 b10 lo lo2 : Nat} {w : World} {ks : List Nat} (h : Acc lo (xothL b1 b2 b3 b4 b5 b6 b7 b8 b9 b10) w ks) (hlo : lo2 ≤ lo) : RowsIn lo2 (xothR b1 b2 b3 b4 b5 b6 b7 b8 b9) w ks := by
 intro r hr
 unfold xothR at hr
 simp only [List.mem_cons, List.mem_nil_iff, or_false] at hr
 rcases hr with rfl | rfl | rfl | rfl | rfl | rfl | rfl | rfl | rfl | rfl
 ·have q := lies_of (b := b1) (cs := []) [1, 5] h (by show _ ∈ xothL b1 b2 b3 b4 b5 b6 b7 b8 b9 b10; unfold xothL; simp); exact ⟨q.1, fun z hz => Nat.le_trans hlo (q.2 z hz)⟩
 ·have q := lies_of (b := b2) (cs := []) [1, 2] h (by show _ ∈ xothL b1 b2 b3 b4 b5 b6 b7 b8 b9 b10; unfold xothL; simp); exact ⟨q.1, fun z hz => Nat.le_trans hlo (q.2 z hz)⟩
 ·have q := lies_of (b := b3) (cs := []) [1, 6] h (by show _ ∈ xothL b1 b2 b3 b4 b5 b6 b7 b8 b9 b10; unfold xothL; simp); exact ⟨q.1, fun z hz => Nat.le_trans hlo (q.2 z hz)⟩
 ·have q := lies_of (b := b4) (cs := []) [6, 2] h (by show _ ∈ xothL b1 b2 b3 b4 b5 b6 b7 b8 b9 b10; unfold xothL; simp); exact ⟨q.1, fun z hz => Nat.le_trans hlo (q.2 z hz)⟩
 ·have q := lies_of (b := b5) (cs := []) [6, 5] h (by show _ ∈ xothL b1 b2 b3 b4 b5 b6 b7 b8 b9 b10; unfold xothL; simp); exact ⟨q.1, fun z hz => Nat.le_trans hlo (q.2 z hz)⟩
 ·have q := lies_of (b := b6) (cs := []) [4, 6] h (by show _ ∈ xothL b1 b2 b3 b4 b5 b6 b7 b8 b9 b10; unfold xothL; simp); exact ⟨q.1, fun z hz => Nat.le_trans hlo (q.2 z hz)⟩
 ·have q := lies_of (b := b7) (cs := []) [6, 4] h (by show _ ∈ xothL b1 b2 b3 b4 b5 b6 b7 b8 b9 b10; unfold xothL; simp); exact ⟨q.1, fun z hz => Nat.le_trans hlo (q.2 z hz)⟩
 ·exact ⟨.inl ⟨rfl, rfl⟩, fun q hq => by cases hq⟩
 ·have q := lies_of (b := b8) (cs := []) [2, 7] h (by show _ ∈ xothL b1 b2 b3 b4 b5 b6 b7 b8 b9 b10; unfold xothL; simp); exact ⟨q.1, fun z hz => Nat.le_trans hlo (q.2 z hz)⟩
 ·have q := lies_of (b := b9) (cs := []) [2, 7] h (by show _ ∈ xothL b1 b2 b3 b4 b5 b6 b7 b8 b9 b10; unfold xothL; simp); exact ⟨q.1, fun z hz => Nat.le_trans hlo (q.2 z hz)⟩
theorem rows_keys {lo b1 : Nat} {L : List Rw} {w : World} {ks : List Nat} (h : RowsIn lo L w [b1]) (hk : ∀ b, ks.contains b = true → b < lo ∨ b = b1) : RowsIn lo L w ks := fun r hr => by
 obtain ⟨h1, h2⟩ := h r hr
 refine ⟨?_, h2⟩
 rcases h1 with h1 | ⟨b, e, q1, q2, q3⟩
 ·exact .inl h1
 ·refine .inr ⟨b, e, q1, ?_, q3⟩
  cases hc : ks.contains b with
  | false => rfl
  | true =>
   have h3 := h2 _ e
   simp only at h3
   rcases hk b hc with h4 | h4
   ·omega
   ·rw [h4] at q2; simp at q2
theorem acc_keys {lo : Nat} {l : List (Nat × List SV)} {w : World} {ks : List Nat} (h : Acc lo l w []) (hk : ∀ b, ks.contains b = true → b < lo) : Acc lo l w ks := fun p hp => by
 obtain ⟨h1, vs, h2, h3, h4, h5⟩ := h p hp
 refine ⟨h1, vs, h2, h3, ?_, h5⟩
 cases hc : ks.contains p.1 with
 | false => rfl
 | true => have := hk _ hc; omega
theorem xoth_den (b1 b2 b3 b4 b5 b6 b7 b8 b9 b10 : Nat) : denL [] ((xothR b1 b2 b3 b4 b5 b6 b7 b8 b9).flatMap rwc) = denL [] [.str [77, 79, 86], .str [], .int .i64 1, .z9, .z9, .z9, .z9, .z9, .z9, .z9, .z9, .z9, .ff, .ff, .ff, .z9, .z9, .z9, .ff, .sla (some ⟨b1, 0, none⟩) 2 2, .str [77, 79, 86], .str [], .int .i64 2, .z9, .z9, .z9, .z9, .z9, .z9, .z9, .z9, .z9, .ff, .ff, .ff, .z9, .z9, .z9, .ff, .sla (some ⟨b2, 0, none⟩) 2 2, .str [77, 79, 86, 42], .str [], .int .i64 4, .z9, .z9, .z9, .z9, .z9, .z9, .z9, .z9, .z9, .ff, .ff, .ff, .z9, .z9, .z9, .ff, .sla (some ⟨b3, 0, none⟩) 2 2, .str [77, 79, 86, 42], .str [], .int .i64 5, .z9, .z9, .z9, .z9, .z9, .z9, .z9, .z9, .z9, .ff, .ff, .ff, .z9, .z9, .z9, .ff, .sla (some ⟨b4, 0, none⟩) 2 2, .str [77, 79, 86, 42], .str [], .int .i64 5, .z9, .z9, .z9, .z9, .z9, .z9, .z9, .z9, .z9, .ff, .ff, .ff, .z9, .z9, .z9, .ff, .sla (some ⟨b5, 0, none⟩) 2 2, .str [88, 67, 72, 71, 42], .str [], .int .i64 6, .z9, .z9, .z9, .z9, .z9, .z9, .z9, .z9, .int .i64 6, .tt, .ff, .tt, .z9, .z9, .z9, .ff, .sla (some ⟨b6, 0, none⟩) 2 2, .str [88, 65, 68, 68, 42], .str [], .int .i64 6, .z9, .z9, .z9, .z9, .z9, .z9, .z9, .z9, .int .i64 1, .tt, .ff, .tt, .z9, .z9, .z9, .ff, .sla (some ⟨b7, 0, none⟩) 2 2, .str [77, 70, 69, 78, 67, 69], .str [], .int .i64 7, .z9, .z9, .z9, .z9, .z9, .z9, .z9, .z9, .z9, .ff, .ff, .ff, .int .i64 3, .int .i64 3, .z9, .ff, .sla none 0 0, .str [74, 90], .str [], .int .i64 9, .z9, .z9, .z9, .z9, .z9, .z9, .z9, .z9, .z9, .ff, .ff, .ff, .z9, .z9, .z9, .tt, .sla (some ⟨b8, 0, none⟩) 2 2, .str [74, 78, 90], .str [], .int .i64 9, .z9, .z9, .z9, .z9, .z9, .z9, .z9, .z9, .z9, .ff, .ff, .ff, .z9, .z9, .z9, .ff, .sla (some ⟨b9, 0, none⟩) 2 2] := by rfl
theorem RowsIn.mono {lo lo2 : Nat} {L : List Rw} {w : World} {ks : List Nat} (h : RowsIn lo L w ks) (hl : lo2 ≤ lo) : RowsIn lo2 L w ks := fun r hr => ⟨(h r hr).1, fun q hq => Nat.le_trans hl ((h r hr).2 q hq)⟩
theorem RowsIn.app {lo : Nat} {L R : List Rw} {w : World} {ks : List Nat} (h : RowsIn lo L w ks) (h2 : RowsIn lo R w ks) : RowsIn lo (L ++ R) w ks := fun r hr => by
 rcases List.mem_append.1 hr with h3 | h3
 ·exact h r h3
 ·exact h2 r h3
theorem RowsIn.one {lo b : Nat} {L : List Rw} {w w' : World} {ks : List Nat} (h : RowsIn lo L w ks) (h2 : RowsIn lo L w [b]) (m : Mix ks w w') : RowsIn lo L w' [b] := fun r hr => by
 refine ⟨?_, (h r hr).2⟩
 rcases (h r hr).1.go m (ks' := []) (fun b hb => by cases hb) with h1 | ⟨q, e, q1, _, q3⟩
 ·exact .inl h1
 ·rcases (h2 r hr).1 with h3 | ⟨q', e', _, q2', _⟩
  ·rw [h3.1] at e; cases e
  ·rw [e] at e'; cases e'; exact .inr ⟨q, e, q1, q2', q3⟩
theorem Given.mix {e s m b cp : Nat} {f : Nat → List SV} {w w' : World} {ks : List Nat} (h : Given e s m f b cp w) (mx : Mix ks w w') (hk : ks.contains b = false) : Given e s m f b cp w' := by
 obtain ⟨h1, xs, h2, h3⟩ := h
 exact ⟨h1, xs, h2, own_mix h3 mx (fun k hk2 => by cases hk2; exact hk)⟩
section
variable {n : Nat} {ks : List Nat} {G0 : Gr} {w0 : World} {T : List (Nat × SV)} {H : Hp} {G : Gr} {a : Act} {w : World} {Q : Exit → Act → World → Prop} {K : List Fr} {ops : Array Oper} {o : Oper} {rest : List Oper}
theorem CALLOTH (A : Sy n T H ks G0 w0 G a w) (h1 : callS n ops T o = some (182, []))
  (k : ∀ b1 b2 b3 b4 b5 b6 b7 b8 b9 b10 vs a' w', denL [] ((xothR b1 b2 b3 b4 b5 b6 b7 b8 b9).flatMap rwc) = some vs → Lies b10 0 vs w' (keys H G) → RowsIn w.heap.size (xothR b1 b2 b3 b4 b5 b6 b7 b8 b9) w' (keys H G) → Sy n (extS T o.dst (.sla (some ⟨b10, 0, none⟩) 10 10)) H ks G0 w0 G a' w' → Goal Tryz.prog Q K (.ops ops rest) a' w') : Goal Tryz.prog Q K (.ops ops (o :: rest)) a w := by
 refine CALLR [] xoth_ A h1 rfl rfl rfl rfl fun x a' w' hJ hk A' => ?_
 obtain ⟨b1, b2, b3, b4, b5, b6, b7, b8, b9, b10, rfl, hA⟩ := hJ
 have hA := acc_keys hA hk
 obtain ⟨_, vs, q1, q2⟩ := hA _ List.mem_cons_self
 exact k b1 b2 b3 b4 b5 b6 b7 b8 b9 b10 vs a' w' ((xoth_den b1 b2 b3 b4 b5 b6 b7 b8 b9 b10).trans q1) q2 (xoth_rows hA (Nat.le_refl _)) A'
end
theorem xregs_   : Fn Tryz.prog 144 [] [] (Rt (.agg [.str [82, 65, 88], .str [82, 66, 88], .str [82, 67, 88], .str [82, 68, 88], .str [82, 83, 73], .str [82, 68, 73], .str [82, 56], .str [82, 57]]) []) :=
 enterM (n := 2) (by kernel_rfl) Tryz.func144 rfl rfl rfl fun G w a h0 A => N9 12 A rfl rfl fun A => R9 A rfl h0 rfl rfl rfl
theorem xlang_ : FnR Tryz.prog 141 [] [] (fun x w w' => ∃ (L : List Rw) (b cp : Nat), x = .agg [.str [82, 65, 88], .str [82, 66, 88], .str [82, 67, 88], .str [82, 68, 88], .str [82, 83, 73], .str [82, 68, 73], .str [82, 56], .str [82, 57], .str [66], .str [87], .str [76], .str [81], .str [36], .str [], .str [], .str [], .sla (some ⟨b, 0, none⟩) 20 cp] ∧ (L.map tm = x86T ∧ RowsIn w.heap.size L w' [b]) ∧ w.heap.size ≤ b ∧ Given 203 20 20 (fun zz => rwc (L.getD zz Rw.z)) b cp w') :=
 enterR (n := 7) (by kernel_rfl) Tryz.func141 rfl rfl rfl fun G w a h0 A => N9 7 A rfl rfl fun A => C9 [] (xregs_ ) A rfl fun A => N9 1 A rfl rfl fun A => have hz := A.mix.size; CALLROW (t := 3) (F := fun (L : List Rw) zz => rwc (L.getD zz Rw.z)) (R := fun L b w w' => L.map tm = xcomp ∧ RowsIn w.heap.size L w' [b]) xcomp_ A rfl rfl fun L b1 cp1 a1 w1 G1 hR hlo hk A => have hl : L.length = 10 := (by have q := congrArg List.length hR.1; rw [List.length_map] at q; exact q); have hI := (rows_keys hR.2 hk).mono hz; have B := A; have A := B.base;
 CALLOTH A rfl fun c1 c2 c3 c4 c5 c6 c7 c8 c9 c10 vs a2 w2 hv hL hO A => have hI := RowsIn.ok _ _ _ _ hI A.mix A.keys_own; have hO := hO.mono B.mix.size; have B := B.trans A; have A := A.base; have A := A.adoptL Rw.z rwc 20 tyR.1 tyR.2.1 tyR.2.2 (xothR c1 c2 c3 c4 c5 c6 c7 c8 c9) hL hv 4 rfl;
 q_eff A rfl (aplE hX 20 (fun zz => rwc ((L ++ (xothR c1 c2 c3 c4 c5 c6 c7 c8 c9)).getD zz Rw.z)) rfl rfl rfl rfl (Nat.le_refl _) (by decide) (show 10 ≤ 1000000 by decide) rfl (fun k hk => by show rwc _ = rwc _; rw [getD_app_l (by omega)]) (fun k hk => by show rwc ((L ++ _).getD (10 + k) Rw.z) = rwc _; rw [show 10 + k = L.length + k by omega, getD_app_r]) (fun z => ⟨_, rfl, rfl⟩) (fun k hk => ⟨_, rfl, okE_nil⟩)) fun A => match A.giveRow 3 5 (by decide) rfl rfl rfl with | ⟨b, cp, A2, hG, ho, hkb⟩ => (have hW := hI.app hO; have h1 := RowsIn.ok _ _ _ _ hW A2.mix A2.keys_own; have h2 := RowsIn.ok _ _ _ [b] hW A2.mix (fun b2 hb => by have : b2 = b := (by simpa using hb); rw [this]; exact ho); have hbl := lo_of B (fun i e he => nil_no he) ho; have B := B.trans A2; have A := A2.base;
 N9 5 A rfl rfl fun A => RETR (J := fun x w w' => ∃ (L : List Rw) (b cp : Nat), x = .agg [.str [82, 65, 88], .str [82, 66, 88], .str [82, 67, 88], .str [82, 68, 88], .str [82, 83, 73], .str [82, 68, 73], .str [82, 56], .str [82, 57], .str [66], .str [87], .str [76], .str [81], .str [36], .str [], .str [], .str [], .sla (some ⟨b, 0, none⟩) 20 cp] ∧ (L.map tm = x86T ∧ RowsIn w.heap.size L w' [b]) ∧ w.heap.size ≤ b ∧ Given 203 20 20 (fun zz => rwc (L.getD zz Rw.z)) b cp w') hX (B.trans A) (fun i e he => nil_no he) rfl rfl rfl rfl ⟨L ++ (xothR c1 c2 c3 c4 c5 c6 c7 c8 c9), b, cp, rfl, ⟨by rw [List.map_append, hR.1]; rfl, h1.one h2 A.mix⟩, hbl, hG.mix A.mix hkb⟩)
end Go.Proofs.YtbbdanhpphlbpaaGreatDoor
namespace Go.Proofs.YtbbdanhpphlbpaaGreatDoor
open Go.RowKit
set_option linter.unusedVariables false
set_option linter.unusedSimpArgs false
set_option maxRecDepth 100000
set_option maxHeartbeats 2000000
def x86G : Lg := ⟨[82, 65, 88], [82, 66, 88], [82, 67, 88], [82, 68, 88], [82, 83, 73], [82, 68, 73], [82, 56], [82, 57], [66], [87], [76], [81], [36], [], [], []⟩
section
variable {g : Lg} {q : List UInt8} {L : List Rw} {ws : List Tk} {s : Ps}
theorem tm_mem {r : Rw} {T : List (List UInt8 × List UInt8 × In × List Int)} (h : L.map tm = T) (hr : r ∈ L) : tm r ∈ T := by rw [← h]; exact List.mem_map_of_mem hr
end
end Go.Proofs.YtbbdanhpphlbpaaGreatDoor
namespace Go.Proofs.YtbbdanhpphlbpaaGreatDoor
open Go.RowKit
set_option linter.unusedVariables false
set_option linter.unusedSimpArgs false
set_option linter.unusedSectionVars false
def cn (r : Rw) : Rw := ⟨r.nm, r.wd, r.ins, none, r.ps, 0⟩
def rwOf (x : List UInt8 × List UInt8 × In × List Int) : Rw := ⟨x.1, x.2.1, x.2.2.1, none, x.2.2.2, 0⟩
theorem cn_tm {L : List Rw} {T : List (List UInt8 × List UInt8 × In × List Int)} (h : L.map tm = T) : L.map cn = T.map rwOf := by rw [← h, List.map_map]; rfl
section
variable {g : Lg} {q : List UInt8} {L R : List Rw} {ws : List Tk} {s z : Ps} {k : Nat} {t : Tk} {x : Int}
end
def x86C : List Rw := x86T.map rwOf
end Go.Proofs.YtbbdanhpphlbpaaGreatDoor
namespace Go.Proofs.YtbbdanhpphlbpaaGreatDoor
open Go.RowKit
set_option linter.unusedVariables false
set_option linter.unusedSimpArgs false
set_option maxRecDepth 100000
set_option maxHeartbeats 2000000
set_option simprocs false

section
variable {g : Lg} {L : List Rw} {i : In} {lb : List UInt8}
theorem cn_find : ∀ (L : List Rw), (L.map cn).find? (rowP i) = (L.find? (rowP i)).map cn
 | [] => rfl
 | r :: L => by
  rw [List.map_cons, List.find?_cons, List.find?_cons]
  have e : rowP i (cn r) = rowP i r := rfl
  rw [e]
  split
  ·rfl
  ·exact cn_find L
theorem cn_rowR : rowR (L.map cn) i = cn (rowR L i) := by
 unfold rowR; rw [cn_find]; cases L.find? (rowP i) <;> rfl
theorem cn_rowQ : rowQ (L.map cn) i = rowQ L i := by
 unfold rowQ; rw [cn_find]; cases L.find? (rowP i) <;> rfl
theorem cn_prP : prP g (L.map cn) i lb = prP g L i lb := by
 unfold prP; rw [cn_rowR, cn_rowQ]; rfl
theorem x86_pr (h : L.map tm = x86T) : prP x86G L i lb = prP x86G x86C i lb := by
 have := cn_prP (g := x86G) (L := L) (i := i) (lb := lb)
 rw [cn_tm h] at this
 exact this.symm
end
theorem xprint_ (i : In) (lb : List UInt8) (os : List (Nat × Obj)) (hM : ∀ w ks, Gl os w ks → ∃ m, w.cell? ⟨0, 0, none⟩ = some (.int .i64 m)) (hT : ∀ w ks, Gl os w ks → Lib.TabIs Tryz.prog w "internal/strconv.uint64pow10" .u64 Lib.pow10Tab) (hE : ∀ w ks, Gl os w ks → ∃ ev, w.cell? ⟨4, 0, none⟩ = some ev ∧ (ev = .nilIface ∨ ∃ te pe, ev = .iface te pe)) (hp : ∀ L : List Rw, L.map tm = x86T → PrOK x86G L i lb) : FnI (Gl os) Tryz.prog 110 [.agg (inQ9 i), .str lb] [] (Rt (.tup [.str ((prP x86G x86C i lb).1), .int .i64 ((prP x86G x86C i lb).2)]) []) :=
 enterI (n := 12) (by kernel_rfl) Tryz.func110 rfl rfl rfl fun G w a h0 hI A => N9 8 A rfl rfl fun A => any_in 8 hmo rfl A fun {w2} A => any_cut (fun (tail : ∀ (L : List Rw) {G1 : Gr} {a1 : Act} {w1 : World}, L.map tm = x86T → L.length = 20 → PrI os L w1 (keys [some (.blk (inQ9 i)), some (lQ9 L)] G1) → Sy 12 [(6, .agg [.str [82, 65, 88], .str [82, 66, 88], .str [82, 67, 88], .str [82, 68, 88], .str [82, 83, 73], .str [82, 68, 73], .str [82, 56], .str [82, 57], .str [66], .str [87], .str [76], .str [81], .str [36], .str [], .str [], .str [], .sl 1 L.length 0]), (7, .agg (inQ9 i)), (8, .str lb)] [some (.blk (inQ9 i)), some (lQ9 L)] (keys [] G) G w G1 a1 w1 → wpAny Tryz.prog .any _ _ _ _ a1 w1) => any_at (rs := [0, 1, 2]) (by kernel_rfl) (by decide) (fc9 ⟨any_agg (t := 6) (l := [.str [82, 65, 88], .str [82, 66, 88], .str [82, 67, 88], .str [82, 68, 88], .str [82, 83, 73], .str [82, 68, 73], .str [82, 56], .str [82, 57], .str [66], .str [87], .str [76], .str [81], .str [36], .str [], .str [], .str []]) (F := fun (L : List Rw) zz => rwc (L.getD zz Rw.z)) (R := fun L b w w' => L.map tm = x86T ∧ RowsIn w.heap.size L w' [b]) rfl xlang_ A rfl rfl fun L b cp a1 w1 G1 hR hlo hkk A => have hl20 : L.length = 20 := (by have q := congrArg List.length hR.1; rw [List.length_map] at q; exact q.trans (by decide +kernel)); have hRI := rows_keys hR.2 hkk; have B0 := A; have A := A.base; have A := A.rowAs 1 L.length (fun zz => rwc (L.getD zz Rw.z)) rfl hl20 (fun _ _ => rfl) (fun z => ⟨_, rfl, rfl⟩); have A := A.say 6 (.agg [.str [82, 65, 88], .str [82, 66, 88], .str [82, 67, 88], .str [82, 68, 88], .str [82, 83, 73], .str [82, 68, 73], .str [82, 56], .str [82, 57], .str [66], .str [87], .str [76], .str [81], .str [36], .str [], .str [], .str [], .sl 1 L.length 0]) rfl (by rw [hl20] <;> rfl); have A := A.freeze 1 rfl; have hTb := RowsIn.ok.now A hRI; have B := B0.trans A; have A := A.base; have hI2 : PrI os L _ _ := ⟨fun r hr => (hTb r hr).1, Gl.ok.now B hI⟩; any_at (rs := [1, 2]) (by kernel_rfl) (by decide) (fc9 ⟨aV9 (.agg (inQ9 i)) rfl A rfl rfl fun A => any_at (rs := [2]) (by kernel_rfl) (by decide) (fc9 ⟨aV9 (.str lb) rfl A rfl rfl fun A => tail L hR.1 hl20 (PrI.ok.now A hI2) ((B.trans A).cut [6, 7, 8] rfl),
    (fn9)⟩),
   (fc9 ⟨aV9 (.str lb) rfl A rfl rfl fun A => any_at (rs := [1]) (by kernel_rfl) (by decide) (fc9 ⟨aV9 (.agg (inQ9 i)) rfl A rfl rfl fun A => tail L hR.1 hl20 (PrI.ok.now A hI2) ((B.trans A).cut [6, 7, 8] rfl),
    (fn9)⟩),
   (fn9)⟩)⟩),
  (fc9 ⟨aV9 (.agg (inQ9 i)) rfl A rfl rfl fun A => any_at (rs := [0, 2]) (by kernel_rfl) (by decide) (fc9 ⟨any_agg (t := 6) (l := [.str [82, 65, 88], .str [82, 66, 88], .str [82, 67, 88], .str [82, 68, 88], .str [82, 83, 73], .str [82, 68, 73], .str [82, 56], .str [82, 57], .str [66], .str [87], .str [76], .str [81], .str [36], .str [], .str [], .str []]) (F := fun (L : List Rw) zz => rwc (L.getD zz Rw.z)) (R := fun L b w w' => L.map tm = x86T ∧ RowsIn w.heap.size L w' [b]) rfl xlang_ A rfl rfl fun L b cp a1 w1 G1 hR hlo hkk A => have hl20 : L.length = 20 := (by have q := congrArg List.length hR.1; rw [List.length_map] at q; exact q.trans (by decide +kernel)); have hRI := rows_keys hR.2 hkk; have B0 := A; have A := A.base; have A := A.rowAs 1 L.length (fun zz => rwc (L.getD zz Rw.z)) rfl hl20 (fun _ _ => rfl) (fun z => ⟨_, rfl, rfl⟩); have A := A.say 6 (.agg [.str [82, 65, 88], .str [82, 66, 88], .str [82, 67, 88], .str [82, 68, 88], .str [82, 83, 73], .str [82, 68, 73], .str [82, 56], .str [82, 57], .str [66], .str [87], .str [76], .str [81], .str [36], .str [], .str [], .str [], .sl 1 L.length 0]) rfl (by rw [hl20] <;> rfl); have A := A.freeze 1 rfl; have hTb := RowsIn.ok.now A hRI; have B := B0.trans A; have A := A.base; have hI2 : PrI os L _ _ := ⟨fun r hr => (hTb r hr).1, Gl.ok.now B hI⟩; any_at (rs := [2]) (by kernel_rfl) (by decide) (fc9 ⟨aV9 (.str lb) rfl A rfl rfl fun A => tail L hR.1 hl20 (PrI.ok.now A hI2) ((B.trans A).cut [6, 7, 8] rfl),
    (fn9)⟩),
   (fc9 ⟨aV9 (.str lb) rfl A rfl rfl fun A => any_at (rs := [0]) (by kernel_rfl) (by decide) (fc9 ⟨any_agg (t := 6) (l := [.str [82, 65, 88], .str [82, 66, 88], .str [82, 67, 88], .str [82, 68, 88], .str [82, 83, 73], .str [82, 68, 73], .str [82, 56], .str [82, 57], .str [66], .str [87], .str [76], .str [81], .str [36], .str [], .str [], .str []]) (F := fun (L : List Rw) zz => rwc (L.getD zz Rw.z)) (R := fun L b w w' => L.map tm = x86T ∧ RowsIn w.heap.size L w' [b]) rfl xlang_ A rfl rfl fun L b cp a1 w1 G1 hR hlo hkk A => have hl20 : L.length = 20 := (by have q := congrArg List.length hR.1; rw [List.length_map] at q; exact q.trans (by decide +kernel)); have hRI := rows_keys hR.2 hkk; have B0 := A; have A := A.base; have A := A.rowAs 1 L.length (fun zz => rwc (L.getD zz Rw.z)) rfl hl20 (fun _ _ => rfl) (fun z => ⟨_, rfl, rfl⟩); have A := A.say 6 (.agg [.str [82, 65, 88], .str [82, 66, 88], .str [82, 67, 88], .str [82, 68, 88], .str [82, 83, 73], .str [82, 68, 73], .str [82, 56], .str [82, 57], .str [66], .str [87], .str [76], .str [81], .str [36], .str [], .str [], .str [], .sl 1 L.length 0]) rfl (by rw [hl20] <;> rfl); have A := A.freeze 1 rfl; have hTb := RowsIn.ok.now A hRI; have B := B0.trans A; have A := A.base; have hI2 : PrI os L _ _ := ⟨fun r hr => (hTb r hr).1, Gl.ok.now B hI⟩; tail L hR.1 hl20 (PrI.ok.now A hI2) ((B.trans A).cut [6, 7, 8] rfl),
    (fn9)⟩),
   (fn9)⟩)⟩),
  (fc9 ⟨aV9 (.str lb) rfl A rfl rfl fun A => any_at (rs := [0, 1]) (by kernel_rfl) (by decide) (fc9 ⟨any_agg (t := 6) (l := [.str [82, 65, 88], .str [82, 66, 88], .str [82, 67, 88], .str [82, 68, 88], .str [82, 83, 73], .str [82, 68, 73], .str [82, 56], .str [82, 57], .str [66], .str [87], .str [76], .str [81], .str [36], .str [], .str [], .str []]) (F := fun (L : List Rw) zz => rwc (L.getD zz Rw.z)) (R := fun L b w w' => L.map tm = x86T ∧ RowsIn w.heap.size L w' [b]) rfl xlang_ A rfl rfl fun L b cp a1 w1 G1 hR hlo hkk A => have hl20 : L.length = 20 := (by have q := congrArg List.length hR.1; rw [List.length_map] at q; exact q.trans (by decide +kernel)); have hRI := rows_keys hR.2 hkk; have B0 := A; have A := A.base; have A := A.rowAs 1 L.length (fun zz => rwc (L.getD zz Rw.z)) rfl hl20 (fun _ _ => rfl) (fun z => ⟨_, rfl, rfl⟩); have A := A.say 6 (.agg [.str [82, 65, 88], .str [82, 66, 88], .str [82, 67, 88], .str [82, 68, 88], .str [82, 83, 73], .str [82, 68, 73], .str [82, 56], .str [82, 57], .str [66], .str [87], .str [76], .str [81], .str [36], .str [], .str [], .str [], .sl 1 L.length 0]) rfl (by rw [hl20] <;> rfl); have A := A.freeze 1 rfl; have hTb := RowsIn.ok.now A hRI; have B := B0.trans A; have A := A.base; have hI2 : PrI os L _ _ := ⟨fun r hr => (hTb r hr).1, Gl.ok.now B hI⟩; any_at (rs := [1]) (by kernel_rfl) (by decide) (fc9 ⟨aV9 (.agg (inQ9 i)) rfl A rfl rfl fun A => tail L hR.1 hl20 (PrI.ok.now A hI2) ((B.trans A).cut [6, 7, 8] rfl),
    (fn9)⟩),
   (fc9 ⟨aV9 (.agg (inQ9 i)) rfl A rfl rfl fun A => any_at (rs := [0]) (by kernel_rfl) (by decide) (fc9 ⟨any_agg (t := 6) (l := [.str [82, 65, 88], .str [82, 66, 88], .str [82, 67, 88], .str [82, 68, 88], .str [82, 83, 73], .str [82, 68, 73], .str [82, 56], .str [82, 57], .str [66], .str [87], .str [76], .str [81], .str [36], .str [], .str [], .str []]) (F := fun (L : List Rw) zz => rwc (L.getD zz Rw.z)) (R := fun L b w w' => L.map tm = x86T ∧ RowsIn w.heap.size L w' [b]) rfl xlang_ A rfl rfl fun L b cp a1 w1 G1 hR hlo hkk A => have hl20 : L.length = 20 := (by have q := congrArg List.length hR.1; rw [List.length_map] at q; exact q.trans (by decide +kernel)); have hRI := rows_keys hR.2 hkk; have B0 := A; have A := A.base; have A := A.rowAs 1 L.length (fun zz => rwc (L.getD zz Rw.z)) rfl hl20 (fun _ _ => rfl) (fun z => ⟨_, rfl, rfl⟩); have A := A.say 6 (.agg [.str [82, 65, 88], .str [82, 66, 88], .str [82, 67, 88], .str [82, 68, 88], .str [82, 83, 73], .str [82, 68, 73], .str [82, 56], .str [82, 57], .str [66], .str [87], .str [76], .str [81], .str [36], .str [], .str [], .str [], .sl 1 L.length 0]) rfl (by rw [hl20] <;> rfl); have A := A.freeze 1 rfl; have hTb := RowsIn.ok.now A hRI; have B := B0.trans A; have A := A.base; have hI2 : PrI os L _ _ := ⟨fun r hr => (hTb r hr).1, Gl.ok.now B hI⟩; tail L hR.1 hl20 (PrI.ok.now A hI2) ((B.trans A).cut [6, 7, 8] rfl),
    (fn9)⟩),
   (fn9)⟩)⟩),
  (fn9)⟩)⟩)⟩)) (fun L {G1 a1 w1} hR0 hl20 hI2 A => have hR : L.map tm = x86T ∧ True := ⟨hR0, trivial⟩; have B := A; have A := B.base; any_at (rs := [3]) (by kernel_rfl) (by decide) (fc9 ⟨any_eff (x := .tup [.str ((prP x86G L i lb).1), .int .i64 ((prP x86G L i lb).2)]) (H' := [some (.blk (inQ9 i)), some (lQ9 L)]) rfl A rfl (callIE [1] PrI.ok hI2 (lprint_ x86G L 0 i lb os hM hT hE (hp L hR.1)) rfl rfl rfl rfl rfl rfl rfl) fun A => any_at (rs := [4, 5]) (by kernel_rfl) (by decide) (fc9 ⟨aV9 (.str ((prP x86G L i lb).1)) rfl A rfl rfl fun A => any_at (rs := [5]) (by kernel_rfl) (by decide) (fc9 ⟨aV9 (.int .i64 ((prP x86G L i lb).2)) rfl A rfl rfl fun A => any_at (rs := [6]) (by kernel_rfl) (by decide) (fc9 ⟨aV9 (.str ((prP x86G L i lb).1)) rfl A rfl rfl fun A => any_at (rs := [7]) (by kernel_rfl) (by decide) (fc9 ⟨aV9 (.int .i64 ((prP x86G L i lb).2)) rfl A rfl rfl fun A => any_end (by kernel_rfl) (N9 2 A rfl rfl fun A => R9 (B.trans A) rfl h0 rfl (by rw [← x86_pr hR.1] <;> rfl) rfl),
      (fn9)⟩),
     (fn9)⟩),
    (fn9)⟩),
   (fc9 ⟨aV9 (.int .i64 ((prP x86G L i lb).2)) rfl A rfl rfl fun A => any_at (rs := [4]) (by kernel_rfl) (by decide) (fc9 ⟨aV9 (.str ((prP x86G L i lb).1)) rfl A rfl rfl fun A => any_at (rs := [6]) (by kernel_rfl) (by decide) (fc9 ⟨aV9 (.str ((prP x86G L i lb).1)) rfl A rfl rfl fun A => any_at (rs := [7]) (by kernel_rfl) (by decide) (fc9 ⟨aV9 (.int .i64 ((prP x86G L i lb).2)) rfl A rfl rfl fun A => any_end (by kernel_rfl) (N9 2 A rfl rfl fun A => R9 (B.trans A) rfl h0 rfl (by rw [← x86_pr hR.1] <;> rfl) rfl),
      (fn9)⟩),
     (fn9)⟩),
    (fn9)⟩),
   (fn9)⟩)⟩),
  (fn9)⟩))
end Go.Proofs.YtbbdanhpphlbpaaGreatDoor
namespace Go.Proofs.YtbbdanhpphlbpaaGreatDoor

end Go.Proofs.YtbbdanhpphlbpaaGreatDoor
namespace Go.Proofs.YtbbdanhpphlbpaaGreatDoor
open Go.Shelf Go.RowKit
set_option linter.unusedVariables false
def laysGrow_ren : Go.Shelf.Ren := ⟨fun | 4 => 232 | n => n, fun | 22 => 173 | 25 => 203 | n => n, fun | n => n⟩
theorem laysGrow : Go.Proofs.Lays8.n4 Tryz.prog laysGrow_ren := {
 mixed := by kernel_rfl
 f4 := ⟨"slices.Grow[[]belated/lang.Row,belated/lang.Row]", by decide, Tryz.func232.trans (congrArg some (by kernel_rfl))⟩
 t0 := Tryz.underlying0
 a0 := Tryz.isAgg0
 z0 := Tryz.sizeOf0
 v0 := Tryz.zeroValue0
 t3 := Tryz.underlying3
 a3 := Tryz.isAgg3
 z3 := Tryz.sizeOf3
 v3 := Tryz.zeroValue3
 t4 := Tryz.underlying4
 a4 := Tryz.isAgg4
 z4 := Tryz.sizeOf4
 v4 := Tryz.zeroValue4
 t9 := Tryz.underlying9
 a9 := Tryz.isAgg9
 z9 := Tryz.sizeOf9
 v9 := Tryz.zeroValue9
 t20 := Tryz.underlying20
 a20 := Tryz.isAgg20
 z20 := Tryz.sizeOf20
 v20 := Tryz.zeroValue20
 t22 := Tryz.underlying173
 a22 := Tryz.isAgg173
 z22 := Tryz.sizeOf173
 v22 := Tryz.zeroValue173 }
theorem rowInfo : ∃ ti z, Tryz.prog.info? 203 = some ti ∧ ti.zero = some z ∧ z.cells.size = 20 ∧ ti.size = 20 ∧ ti.bytes ≤ 100000 := by
 have h : (Tryz.prog.info? 203).map (fun ti => (ti.zero.map (fun z => z.cells.size), ti.size, Nat.ble ti.bytes 100000)) = some (some 20, 20, true) := by kernel_rfl
 cases e : Tryz.prog.info? 203 with
 | none => rw [e] at h; cases h
 | some ti =>
  rw [e] at h
  simp only [Option.map_some, Option.some.injEq, Prod.mk.injEq] at h
  obtain ⟨h1, h2, h3⟩ := h
  cases ez : ti.zero with
  | none => rw [ez] at h1; cases h1
  | some z =>
   rw [ez] at h1
   simp only [Option.map_some, Option.some.injEq] at h1
   exact ⟨ti, z, rfl, ez, h1, h2, Nat.le_of_ble_eq_true h3⟩
theorem grow_ (k : Nat) (h0 : 0 < k) (hk : k ≤ 1000000) : FnR Tryz.prog 232 [.sla none 0 0, .int .i64 k] [] (fun x w w' => ∃ (L : List Rw) (b cp : Nat), x = .sla (some ⟨b, 0, none⟩) 0 cp ∧ L = [] ∧ w.heap.size ≤ b ∧ Given 203 20 0 (fun zz => rwc (L.getD zz Rw.z)) b cp w') := by
 refine ⟨by kernel_rfl, fun G w vs hM hv => ?_⟩
 have hv' : some [Value.slice none 0 0, .int .i64 k] = some vs := hv
 cases hv'
 obtain ⟨ti, z, e1, e2, e3, e4, e5⟩ := rowInfo
 have hc := Any8.slices_Grow_grow laysGrow ti z e1 e2 (by omega) none 0 0 k [] w (Nat.le_refl _) (by omega) (by
  have : (0 + k) * ti.bytes ≤ 1000000 * 100000 := Nat.mul_le_mul (by omega) e5
  omega) (by omega) (by simp) (fun _ => rfl) (fun a ha => by cases ha)
 refine hc.mono ?_
 rintro e w' ⟨rfl, rfl⟩
 have hge := grownCap_ge w (0 + k) 0 203
 refine ⟨.sla (some ⟨w.heap.size, 0, none⟩) 0 (grownCap w (0 + k) 0 203), _, rfl, rfl, ((Grow.refl w).drew).alloc _, [], w.heap.size, _, rfl, rfl, Nat.le_refl _, fun k => ⟨_, rfl, rfl⟩, [], rfl, ?_⟩
 refine World.ownsRow_made w.drew _ _ (Nat.zero_le _) (grownCap_le_maxLen w (0 + k) 0 203 (by unfold maxLen; omega)) ?_
 show (([] : List Value).toArray ++ Builtin.zeroCells z.cells (0 + k - 0) ++ Builtin.zeroCells z.cells (grownCap w (0 + k) 0 203 - (0 + k))).size = _
 simp only [Array.size_append, List.size_toArray, List.length_nil, size_zeroCells, e3]
 omega
end Go.Proofs.YtbbdanhpphlbpaaGreatDoor
namespace Go.Proofs.YtbbdanhpphlbpaaGreatDoor
open Go.RowKit
set_option linter.unusedVariables false
set_option linter.unusedSimpArgs false
set_option maxRecDepth 100000
set_option maxHeartbeats 2000000
set_option simprocs false
def r5 : List (List UInt8 × Int) := [([97, 100, 100], 1), ([115, 117, 98], 2), ([120, 111, 114], 3), ([97, 110, 100], 4), ([111, 114], 5)]
theorem r5_len : ∀ k, (r5.getD k nz).1.length ≤ 3
 | 0 => by decide
 | 1 => by decide
 | 2 => by decide
 | 3 => by decide
 | 4 => by decide
 | k + 5 => by simp [r5, List.getD]
abbrev rr1 (x : List UInt8 × Int) (b1 : Nat) : Rw := ⟨x.1, [], insF 3 x.2, some ⟨b1, 0, none⟩, [1, 2, 3], 3⟩
abbrev rr2 (x : List UInt8 × Int) (b2 : Nat) : Rw := ⟨x.1 ++ [105], [], insF 3 x.2, some ⟨b2, 0, none⟩, [1, 2, 5], 3⟩
def rcomp : List (List UInt8 × List UInt8 × In × List Int) := r5.flatMap fun x => [(x.1, [], insF 3 x.2, [1, 2, 3]), (x.1 ++ [105], [], insF 3 x.2, [1, 2, 5])]
structure RC (lo : Nat) (z : List Rw × Nat) (w : World) (ks : List Nat) : Prop where
 le : z.2 ≤ 5
 tm : z.1.map tm = rcomp.take (2 * z.2)
 rw : RowsIn lo z.1 w ks
theorem RC.len {lo : Nat} {z : List Rw × Nat} {w : World} {ks : List Nat} (h : RC lo z w ks) : z.1.length = 2 * z.2 := by
 have h1 := congrArg List.length h.tm
 rw [List.length_map, List.length_take] at h1
 have h2 : rcomp.length = 10 := by decide
 have := h.le
 omega
theorem RC.nx {lo b1 b2 : Nat} {z : List Rw × Nat} {w w1 : World} {ks ks1 : List Nat} {l : List (Nat × List SV)} (h : RC lo z w ks) (hk : (z.2 : Int) < 5) (hr : RowsIn lo z.1 w1 ks1) (hA : Acc lo [(b2, [.int .i64 1, .int .i64 2, .int .i64 5]), (b1, [.int .i64 1, .int .i64 2, .int .i64 3])] w1 ks1) : RC lo (z.1 ++ [rr1 (r5.getD ((z.2 : Int)).toNat nz) b1, rr2 (r5.getD ((z.2 : Int)).toNat nz) b2], z.2 + 1) w1 ks1 := by
 refine ⟨by have := h.le; show z.2 + 1 ≤ 5; omega, ?_, fun r hr' => ?_⟩
 ·show List.map _ (z.1 ++ _) = _
  rw [List.map_append, h.tm, Int.toNat_natCast]
  have : z.2 = 0 ∨ z.2 = 1 ∨ z.2 = 2 ∨ z.2 = 3 ∨ z.2 = 4 := by omega
  rcases this with e | e | e | e | e <;> rw [e] <;> rfl
 ·rcases List.mem_append.1 hr' with h1 | h1
  ·exact hr r h1
  ·simp only [List.mem_cons, List.mem_nil_iff, or_false] at h1
   rcases h1 with rfl | rfl
   ·exact lies_of (cs := []) [1, 2, 3] hA (List.mem_cons_of_mem _ (List.mem_cons_self))
   ·exact lies_of (cs := []) [1, 2, 5] hA (List.mem_cons_self)
theorem rcomp_ : FnR Tryz.prog 194 [] [] (fun x w w' => ∃ (L : List Rw) (b cp : Nat), x = .sla (some ⟨b, 0, none⟩) 10 cp ∧ (L.map tm = rcomp ∧ RowsIn w.heap.size L w' [b]) ∧ w.heap.size ≤ b ∧ Given 203 20 10 (fun zz => rwc (L.getD zz Rw.z)) b cp w') :=
 enterR (n := 37) (by kernel_rfl) Tryz.func194 rfl rfl rfl fun G w a h0 A => N9 13 A rfl rfl fun A => have A := A.asT nz nfc 2 tyN.1 tyN.2.1 tyN.2.2 r5 0 rfl; N9 17 A rfl rfl fun A => have A := A.nilRow 2 203 20 (fun zz => rwc (([] : List Rw).getD zz Rw.z)) rfl (fun z => ⟨_, rfl, rfl⟩); LOOPJ (fun (z : List Rw × Nat) => [(0, .sla none 0 0), (2, .sl 1 z.1.length 0), (12, .sl 0 5 5), (13, .int .i64 ((5 : Nat) : Int)), (14, .int .i64 (z.2 : Int))]) (fun (z : List Rw × Nat) => [some (.lst 2 5 (fun zz => nfc (r5.getD zz nz))), some (.row 203 20 z.1.length 0 (fun zz => rwc (z.1.getD zz Rw.z)))]) (fun z w1 ks1 => RC w.heap.size z w1 ks1) (fun z => 5 - z.2) ([], 0) (A.cut [0, 2, 12, 13, 14] rfl) ⟨by decide, rfl, fun r hr => by cases hr⟩ fun z G1 a1 w1 hJ hg A B => have hA : Acc w.heap.size [] w1 _ := Acc.nil; have hR := hJ.rw;
 N9 6 A rfl rfl fun A => forkD 15 A rfl
   (fun h1 A => N9 14 A rfl (ok_d (by omega) <| ok_d (by omega) <| okE_nil) fun A => N9 4 A rfl rfl fun A => have A := sy_sayD A 20 (.agg [.int .i64 3, .z9, .z9, .z9, .z9, .z9, .z9, .z9, .z9, .int .i64 ((r5.getD (((z.2 : Int)).toNat) nz).2), .bool false, .bool false, .bool false, .z9, .z9, .z9, .bool false]) rfl (fun _ => rfl); N9 9 A rfl rfl fun A => BSCI [.int .i64 1, .int .i64 2, .int .i64 3] (X := ⟨_, true⟩) hX RowsIn.ok B hA hR A rfl rfl rfl rfl fun b1 B hA hR A =>
 N9 5 A rfl (ok_d (by have q := r5_len ((z.2 : Int)).toNat; (try simp only [List.length_append, List.length_cons, List.length_nil]); omega) <| okE_nil) fun A => BSCI [.int .i64 1, .int .i64 2, .int .i64 5] (X := ⟨_, true⟩) hX RowsIn.ok B hA hR A rfl rfl rfl rfl fun b2 B hA hR A =>
 N9 2 A rfl rfl fun A => have A := A.asT Rw.z rwc 20 tyR.1 tyR.2.1 tyR.2.2 [rr1 (r5.getD (((z.2 : Int)).toNat) nz) b1, rr2 (r5.getD (((z.2 : Int)).toNat) nz) b2] 4 rfl; q_eff A rfl (aplE hX ((z.1 ++ [rr1 (r5.getD (((z.2 : Int)).toNat) nz) b1, rr2 (r5.getD (((z.2 : Int)).toNat) nz) b2]).length) (fun zz => rwc ((z.1 ++ [rr1 (r5.getD (((z.2 : Int)).toNat) nz) b1, rr2 (r5.getD (((z.2 : Int)).toNat) nz) b2]).getD zz Rw.z)) rfl rfl rfl rfl (Nat.le_refl _) (by have := hJ.len; have := hJ.le; omega) (by decide) List.length_append (fun k hk => by show rwc _ = rwc _; rw [getD_app_l hk]) (fun k hk => by show rwc _ = rwc _; rw [getD_app_r]) (fun z => ⟨_, rfl, rfl⟩) (fun k hk => ⟨_, rfl, okE_nil⟩)) fun A =>
 N9 8 A rfl (ok_d (by omega) <| okE_nil) fun A => ⟨(z.1 ++ [rr1 (r5.getD (((z.2 : Int)).toNat) nz) b1, rr2 (r5.getD (((z.2 : Int)).toNat) nz) b2], z.2 + 1), _, (by have := h1; show _ - _ < _ - _; omega), (hJ.nx (l := []) h1 (RowsIn.ok _ _ _ _ hR A.mix fun b hb => A.keys_own b ((keys_pick (H := [some (.lst 2 5 (fun zz => nfc (r5.getD zz nz))), none, some (.blk [.str ((r5.getD (((z.2 : Int)).toNat) nz).1), .int .i64 ((r5.getD (((z.2 : Int)).toNat) nz).2)]), some (.blk [.int .i64 3, .z9, .z9, .z9, .z9, .z9, .z9, .z9, .z9, .int .i64 ((r5.getD (((z.2 : Int)).toNat) nz).2), .bool false, .bool false, .bool false, .z9, .z9, .z9, .bool false]), some (.lst 20 ([rr1 (r5.getD (((z.2 : Int)).toNat) nz) b1, rr2 (r5.getD (((z.2 : Int)).toNat) nz) b2].length) (fun zz => rwc ([rr1 (r5.getD (((z.2 : Int)).toNat) nz) b1, rr2 (r5.getD (((z.2 : Int)).toNat) nz) b2].getD zz Rw.z))), some (.row 203 20 ((z.1 ++ [rr1 (r5.getD (((z.2 : Int)).toNat) nz) b1, rr2 (r5.getD (((z.2 : Int)).toNat) nz) b2]).length) 0 (fun zz => rwc ((z.1 ++ [rr1 (r5.getD (((z.2 : Int)).toNat) nz) b1, rr2 (r5.getD (((z.2 : Int)).toNat) nz) b2]).getD zz Rw.z)))]) (m := [0, 5]) A.mem.len rfl rfl) b hb)) (hA.go A.mix fun b hb => A.keys_own b ((keys_pick (H := [some (.lst 2 5 (fun zz => nfc (r5.getD zz nz))), none, some (.blk [.str ((r5.getD (((z.2 : Int)).toNat) nz).1), .int .i64 ((r5.getD (((z.2 : Int)).toNat) nz).2)]), some (.blk [.int .i64 3, .z9, .z9, .z9, .z9, .z9, .z9, .z9, .z9, .int .i64 ((r5.getD (((z.2 : Int)).toNat) nz).2), .bool false, .bool false, .bool false, .z9, .z9, .z9, .bool false]), some (.lst 20 ([rr1 (r5.getD (((z.2 : Int)).toNat) nz) b1, rr2 (r5.getD (((z.2 : Int)).toNat) nz) b2].length) (fun zz => rwc ([rr1 (r5.getD (((z.2 : Int)).toNat) nz) b1, rr2 (r5.getD (((z.2 : Int)).toNat) nz) b2].getD zz Rw.z))), some (.row 203 20 ((z.1 ++ [rr1 (r5.getD (((z.2 : Int)).toNat) nz) b1, rr2 (r5.getD (((z.2 : Int)).toNat) nz) b2]).length) 0 (fun zz => rwc ((z.1 ++ [rr1 (r5.getD (((z.2 : Int)).toNat) nz) b1, rr2 (r5.getD (((z.2 : Int)).toNat) nz) b2]).getD zz Rw.z)))]) (m := [0, 5]) A.mem.len rfl rfl) b hb))), ((B.trans A).cut [0, 2, 12, 13, 14] rfl).mv 0 [0, 5] rfl rfl rfl rfl (by simp only [List.length_nil] at h0; omega)⟩)
   (fun h1 A => N9 10 A rfl rfl fun A => (have e5 : z.2 = 5 := (by have := hJ.le; omega); have e : z.1.length = 10 := (by have := hJ.len; omega); match A.giveRow 1 0 (by omega) rfl rfl rfl with | ⟨b, cp, A2, hG, ho, hk⟩ => RETR (J := fun x w w' => ∃ (L : List Rw) (b cp : Nat), x = .sla (some ⟨b, 0, none⟩) 10 cp ∧ (L.map tm = rcomp ∧ RowsIn w.heap.size L w' [b]) ∧ w.heap.size ≤ b ∧ Given 203 20 10 (fun zz => rwc (L.getD zz Rw.z)) b cp w') hX (B.trans A2) (fun i e he => nil_no he) rfl rfl rfl rfl ⟨z.1, b, cp, (by show SV.sla _ z.1.length cp = _; rw [e]), ⟨(by have h2 := hJ.tm; rw [e5] at h2; exact h2), (RowsIn.ok _ _ _ _ hJ.rw A.mix fun b2 hb => by have : b2 = b := (by simpa using hb); rw [this]; exact ho)⟩, lo_of B (fun i e he => nil_no he) ho, (by rw [← e]; exact hG)⟩))
abbrev sz : List UInt8 × Bool × Bool := ([], false, false)
def sfc (x : List UInt8 × Bool × Bool) : List SV := [.str x.1, .bool x.2.1, .bool x.2.2]
theorem tyS : (∀ x, (sfc x).length = 3) ∧ (∀ x, inL 0 (sfc x) = true) ∧ (∀ x, ∃ vs, denL [] (sfc x) = some vs) := ⟨fun _ => rfl, fun _ => rfl, fun _ => ⟨_, rfl⟩⟩
def a2 : List (List UInt8 × Int) := [([97, 109, 111, 115, 119, 97, 112, 46, 42], 6), ([97, 109, 111, 97, 100, 100, 46, 42], 1)]
def s4 : List (List UInt8 × Bool × Bool) := [([], false, false), ([46, 97, 113], true, false), ([46, 114, 108], false, true), ([46, 97, 113, 46, 114, 108], true, true)]
theorem a2_len : ∀ k, (a2.getD k nz).1.length ≤ 100
 | 0 => by decide
 | 1 => by decide
 | k + 2 => by simp [a2, List.getD]
theorem s4_len : ∀ k, (s4.getD k sz).1.length ≤ 100
 | 0 => by decide
 | 1 => by decide
 | 2 => by decide
 | 3 => by decide
 | k + 4 => by simp [s4, List.getD]
def insA (x : List UInt8 × Int) (y : List UInt8 × Bool × Bool) : In := ⟨6, 0, 0, 0, 0, 0, 0, 0, 0, x.2, y.2.1, false, y.2.2, 0, 0, 0, false⟩
abbrev ra1 (x : List UInt8 × Int) (y : List UInt8 × Bool × Bool) (b1 : Nat) : Rw := ⟨x.1 ++ y.1, [], insA x y, some ⟨b1, 0, none⟩, [1, 2, 6], 3⟩
def ratom : List (List UInt8 × List UInt8 × In × List Int) := a2.flatMap fun x => s4.map fun y => (x.1 ++ y.1, [], insA x y, [1, 2, 6])
structure RA (lo n : Nat) (L : List Rw) (w : World) (ks : List Nat) : Prop where
 tm : L.map tm = ratom.take n
 rw : RowsIn lo L w ks
theorem RA.len {lo n : Nat} {L : List Rw} {w : World} {ks : List Nat} (h : RA lo n L w ks) : L.length ≤ 8 ∧ (n ≤ 8 → L.length = n) := by
 have h1 := congrArg List.length h.tm
 rw [List.length_map, List.length_take] at h1
 have h2 : ratom.length = 8 := by decide
 omega
theorem RA.nx {lo b1 k j : Nat} {L : List Rw} {w w1 : World} {ks ks1 : List Nat} (h : RA lo (4 * k + j) L w ks) (hk : k < 2) (hj : j < 4) (hr : RowsIn lo L w1 ks1) (hA : Acc lo [(b1, [.int .i64 1, .int .i64 2, .int .i64 6])] w1 ks1) : RA lo (4 * k + (j + 1)) (L ++ [ra1 (a2.getD ((k : Int)).toNat nz) (s4.getD ((j : Int)).toNat sz) b1]) w1 ks1 := by
 refine ⟨?_, fun r hr' => ?_⟩
 ·rw [List.map_append, h.tm, Int.toNat_natCast, Int.toNat_natCast]
  have q1 : k = 0 ∨ k = 1 := by omega
  have q2 : j = 0 ∨ j = 1 ∨ j = 2 ∨ j = 3 := by omega
  rcases q1 with e | e <;> rcases q2 with e2 | e2 | e2 | e2 <;> rw [e, e2] <;> rfl
 ·rcases List.mem_append.1 hr' with h1 | h1
  ·exact hr r h1
  ·simp only [List.mem_cons, List.mem_nil_iff, or_false] at h1
   subst h1
   exact lies_of (cs := []) [1, 2, 6] hA List.mem_cons_self
theorem ratom_ : FnR Tryz.prog 195 [] [] (fun x w w' => ∃ (L : List Rw) (b cp : Nat), x = .sla (some ⟨b, 0, none⟩) 8 cp ∧ (L.map tm = ratom ∧ RowsIn w.heap.size L w' [b]) ∧ w.heap.size ≤ b ∧ Given 203 20 8 (fun zz => rwc (L.getD zz Rw.z)) b cp w') :=
 enterR (n := 50) (by kernel_rfl) Tryz.func195 rfl rfl rfl fun G w a h0 A => N9 10 A rfl rfl fun A => have A := A.asT nz nfc 2 tyN.1 tyN.2.1 tyN.2.2 a2 0 rfl; N9 6 A rfl rfl fun A => have A := sy_sayD A 12 (.agg [.str [], .bool false, .bool false]) rfl (fun _ => rfl); N9 1 A rfl rfl fun A => have A := sy_sayD A 13 (.agg [.str [46, 97, 113], .bool true, .bool false]) rfl (fun _ => rfl); N9 1 A rfl rfl fun A => have A := sy_sayD A 14 (.agg [.str [46, 114, 108], .bool false, .bool true]) rfl (fun _ => rfl); N9 1 A rfl rfl fun A => have A := sy_sayD A 15 (.agg [.str [46, 97, 113, 46, 114, 108], .bool true, .bool true]) rfl (fun _ => rfl); N9 1 A rfl rfl fun A => have A := A.asT sz sfc 3 tyS.1 tyS.2.1 tyS.2.2 s4 1 rfl; N9 17 A rfl rfl fun A => have A := A.nilRow 3 203 20 (fun zz => rwc (([] : List Rw).getD zz Rw.z)) rfl (fun z => ⟨_, rfl, rfl⟩); LOOPJ (fun (z : List Rw × Nat) => [(0, .sla none 0 0), (2, .sl 1 4 4), (3, .sl 2 z.1.length 0), (17, .sl 0 2 2), (18, .int .i64 ((2 : Nat) : Int)), (19, .int .i64 (z.2 : Int))]) (fun (z : List Rw × Nat) => [some (.lst 2 2 (fun zz => nfc (a2.getD zz nz))), some (.lst 3 4 (fun zz => sfc (s4.getD zz sz))), some (.row 203 20 z.1.length 0 (fun zz => rwc (z.1.getD zz Rw.z)))]) (fun z w1 ks1 => z.2 ≤ 2 ∧ RA w.heap.size (4 * z.2) z.1 w1 ks1) (fun z => 2 - z.2) ([], 0) (A.cut [0, 2, 3, 17, 18, 19] rfl) ⟨by decide, ⟨rfl, fun r hr => by cases hr⟩⟩ fun z G1 a1 w1 hJ hg A B => have hz2 := hJ.1; have hR := hJ.2.rw;
 N9 6 A rfl rfl fun A => forkD 20 A rfl
   (fun h1 A => N9 14 A rfl (ok_d (by omega) <| ok_d (by omega) <| okE_nil) fun A => N9 7 A rfl rfl fun A => have hR := RowsIn.ok _ _ _ _ hR A.mix A.keys_own; LOOPJ (fun (y : List Rw × Nat) => [(0, .sla none 0 0), (2, .sl 1 4 4), (3, .sl 2 y.1.length 0), (5, .ptr 3 0), (17, .sl 0 2 2), (18, .int .i64 ((2 : Nat) : Int)), (19, .int .i64 (z.2 : Int)), (23, .sl 1 4 4), (24, .int .i64 ((4 : Nat) : Int)), (25, .int .i64 (y.2 : Int))]) (fun (y : List Rw × Nat) => [some (.lst 2 2 (fun zz => nfc (a2.getD zz nz))), some (.lst 3 4 (fun zz => sfc (s4.getD zz sz))), some (.row 203 20 y.1.length 0 (fun zz => rwc (y.1.getD zz Rw.z))), some (.blk [.str ((a2.getD (((z.2 : Int)).toNat) nz).1), .int .i64 ((a2.getD (((z.2 : Int)).toNat) nz).2)])]) (fun y w1 ks1 => y.2 ≤ 4 ∧ RA w.heap.size (4 * z.2 + y.2) y.1 w1 ks1) (fun y => 4 - y.2) (z.1, 0) ((B.trans A).cut [0, 2, 3, 5, 17, 18, 19, 23, 24, 25] rfl) ⟨Nat.zero_le 4, ⟨hJ.2.tm, hR⟩⟩ fun y G1 a1 w1 hJ hg A B => have hA : Acc w.heap.size [] w1 _ := Acc.nil; have hR := hJ.2.rw;
 N9 6 A rfl rfl fun A => forkD 26 A rfl
     (fun h2 A => N9 14 A rfl (ok_d (by omega) <| ok_d (by omega) <| okE_nil) fun A => N9 8 A rfl rfl fun A => have A := sy_sayD A 35 (.agg [.int .i64 6, .z9, .z9, .z9, .z9, .z9, .z9, .z9, .z9, .int .i64 ((a2.getD (((z.2 : Int)).toNat) nz).2), .bool ((s4.getD (((y.2 : Int)).toNat) sz).2.1), .bool false, .bool ((s4.getD (((y.2 : Int)).toNat) sz).2.2), .z9, .z9, .z9, .bool false]) rfl (fun _ => rfl); N9 12 A rfl (ok_d (by have q := a2_len ((z.2 : Int)).toNat; have q2 := s4_len ((y.2 : Int)).toNat; (try simp only [List.length_append, List.length_cons, List.length_nil]); omega) <| okE_nil) fun A => BSCI [.int .i64 1, .int .i64 2, .int .i64 6] (X := ⟨_, true⟩) hX RowsIn.ok B hA hR A rfl rfl rfl rfl fun b1 B hA hR A =>
 N9 2 A rfl rfl fun A => have A := A.asT Rw.z rwc 20 tyR.1 tyR.2.1 tyR.2.2 [ra1 (a2.getD (((z.2 : Int)).toNat) nz) (s4.getD (((y.2 : Int)).toNat) sz) b1] 6 rfl; q_eff A rfl (aplE hX ((y.1 ++ [ra1 (a2.getD (((z.2 : Int)).toNat) nz) (s4.getD (((y.2 : Int)).toNat) sz) b1]).length) (fun zz => rwc ((y.1 ++ [ra1 (a2.getD (((z.2 : Int)).toNat) nz) (s4.getD (((y.2 : Int)).toNat) sz) b1]).getD zz Rw.z)) rfl rfl rfl rfl (Nat.le_refl _) (by have := hJ.2.len; have := hJ.1; omega) (by decide) List.length_append (fun k hk => by show rwc _ = rwc _; rw [getD_app_l hk]) (fun k hk => by show rwc _ = rwc _; rw [getD_app_r]) (fun z => ⟨_, rfl, rfl⟩) (fun k hk => ⟨_, rfl, okE_nil⟩)) fun A =>
 N9 8 A rfl (ok_d (by omega) <| okE_nil) fun A => ⟨(y.1 ++ [ra1 (a2.getD (((z.2 : Int)).toNat) nz) (s4.getD (((y.2 : Int)).toNat) sz) b1], y.2 + 1), _, (by have := h2; show _ - _ < _ - _; omega), ⟨by have := h2; show y.2 + 1 ≤ 4; omega, hJ.2.nx (by omega) (by omega) (RowsIn.ok _ _ _ _ hR A.mix fun b hb => A.keys_own b ((keys_pick (H := [some (.lst 2 2 (fun zz => nfc (a2.getD zz nz))), some (.lst 3 4 (fun zz => sfc (s4.getD zz sz))), none, some (.blk [.str ((a2.getD (((z.2 : Int)).toNat) nz).1), .int .i64 ((a2.getD (((z.2 : Int)).toNat) nz).2)]), some (.blk [.str ((s4.getD (((y.2 : Int)).toNat) sz).1), .bool ((s4.getD (((y.2 : Int)).toNat) sz).2.1), .bool ((s4.getD (((y.2 : Int)).toNat) sz).2.2)]), some (.blk [.int .i64 6, .z9, .z9, .z9, .z9, .z9, .z9, .z9, .z9, .int .i64 ((a2.getD (((z.2 : Int)).toNat) nz).2), .bool ((s4.getD (((y.2 : Int)).toNat) sz).2.1), .bool false, .bool ((s4.getD (((y.2 : Int)).toNat) sz).2.2), .z9, .z9, .z9, .bool false]), some (.lst 20 ([ra1 (a2.getD (((z.2 : Int)).toNat) nz) (s4.getD (((y.2 : Int)).toNat) sz) b1].length) (fun zz => rwc ([ra1 (a2.getD (((z.2 : Int)).toNat) nz) (s4.getD (((y.2 : Int)).toNat) sz) b1].getD zz Rw.z))), some (.row 203 20 ((y.1 ++ [ra1 (a2.getD (((z.2 : Int)).toNat) nz) (s4.getD (((y.2 : Int)).toNat) sz) b1]).length) 0 (fun zz => rwc ((y.1 ++ [ra1 (a2.getD (((z.2 : Int)).toNat) nz) (s4.getD (((y.2 : Int)).toNat) sz) b1]).getD zz Rw.z)))]) (m := [0, 1, 7, 3]) A.mem.len rfl rfl) b hb)) (hA.go A.mix fun b hb => A.keys_own b ((keys_pick (H := [some (.lst 2 2 (fun zz => nfc (a2.getD zz nz))), some (.lst 3 4 (fun zz => sfc (s4.getD zz sz))), none, some (.blk [.str ((a2.getD (((z.2 : Int)).toNat) nz).1), .int .i64 ((a2.getD (((z.2 : Int)).toNat) nz).2)]), some (.blk [.str ((s4.getD (((y.2 : Int)).toNat) sz).1), .bool ((s4.getD (((y.2 : Int)).toNat) sz).2.1), .bool ((s4.getD (((y.2 : Int)).toNat) sz).2.2)]), some (.blk [.int .i64 6, .z9, .z9, .z9, .z9, .z9, .z9, .z9, .z9, .int .i64 ((a2.getD (((z.2 : Int)).toNat) nz).2), .bool ((s4.getD (((y.2 : Int)).toNat) sz).2.1), .bool false, .bool ((s4.getD (((y.2 : Int)).toNat) sz).2.2), .z9, .z9, .z9, .bool false]), some (.lst 20 ([ra1 (a2.getD (((z.2 : Int)).toNat) nz) (s4.getD (((y.2 : Int)).toNat) sz) b1].length) (fun zz => rwc ([ra1 (a2.getD (((z.2 : Int)).toNat) nz) (s4.getD (((y.2 : Int)).toNat) sz) b1].getD zz Rw.z))), some (.row 203 20 ((y.1 ++ [ra1 (a2.getD (((z.2 : Int)).toNat) nz) (s4.getD (((y.2 : Int)).toNat) sz) b1]).length) 0 (fun zz => rwc ((y.1 ++ [ra1 (a2.getD (((z.2 : Int)).toNat) nz) (s4.getD (((y.2 : Int)).toNat) sz) b1]).getD zz Rw.z)))]) (m := [0, 1, 7, 3]) A.mem.len rfl rfl) b hb))⟩, ((B.trans A).cut [0, 2, 3, 5, 17, 18, 19, 23, 24, 25] rfl).mv 0 [0, 1, 7, 3] rfl rfl rfl rfl (by simp only [List.length_nil] at h0; omega)⟩)
     (fun h2 A => N9 8 A rfl (ok_d (by omega) <| okE_nil) fun A => ⟨(y.1, z.2 + 1), _, (by have := h1; show _ - _ < _ - _; omega), ⟨by have := h1; show z.2 + 1 ≤ 2; omega, ⟨(by have q := hJ.2.tm; have q1 := hJ.1; rw [show 4 * z.2 + y.2 = 4 * (z.2 + 1) by omega] at q; exact q), RowsIn.ok _ _ _ _ hJ.2.rw A.mix fun b hb => A.keys_own b ((keys_pick (H := [some (.lst 2 2 (fun zz => nfc (a2.getD zz nz))), some (.lst 3 4 (fun zz => sfc (s4.getD zz sz))), some (.row 203 20 y.1.length 0 (fun zz => rwc (y.1.getD zz Rw.z))), some (.blk [.str ((a2.getD (((z.2 : Int)).toNat) nz).1), .int .i64 ((a2.getD (((z.2 : Int)).toNat) nz).2)])]) (m := [0, 1, 2]) A.mem.len rfl rfl) b hb)⟩⟩, ((B.trans A).cut [0, 2, 3, 17, 18, 19] rfl).mv 0 [0, 1, 2] rfl rfl rfl rfl (by simp only [List.length_nil] at h0; omega)⟩))
   (fun h1 A => N9 10 A rfl rfl fun A => (have e5 : z.2 = 2 := (by have := hJ.1; omega); have e : z.1.length = 8 := (by have := hJ.2.len; omega); match A.giveRow 2 0 (by omega) rfl rfl rfl with | ⟨b, cp, A2, hG, ho, hk⟩ => RETR (J := fun x w w' => ∃ (L : List Rw) (b cp : Nat), x = .sla (some ⟨b, 0, none⟩) 8 cp ∧ (L.map tm = ratom ∧ RowsIn w.heap.size L w' [b]) ∧ w.heap.size ≤ b ∧ Given 203 20 8 (fun zz => rwc (L.getD zz Rw.z)) b cp w') hX (B.trans A2) (fun i e he => nil_no he) rfl rfl rfl rfl ⟨z.1, b, cp, (by show SV.sla _ z.1.length cp = _; rw [e]), ⟨(by have h2 := hJ.2.tm; rw [e5] at h2; exact h2), (RowsIn.ok _ _ _ _ hJ.2.rw A.mix fun b2 hb => by have : b2 = b := (by simpa using hb); rw [this]; exact ho)⟩, lo_of B (fun i e he => nil_no he) ho, (by rw [← e]; exact hG)⟩))
section
variable {P : Program} {n : Nat} {ks : List Nat} {G0 : Gr} {w0 : World} {T : List (Nat × SV)} {H : Hp} {G : Gr} {a : Act} {w w' : World} {Q : Exit → Act → World → Prop} {K : List Fr} {ops : Array Oper} {o : Oper} {rest : List Oper} {c : Code}
theorem RND {q : Nat} (h : Goal P Q (.lp (Code.rounds P c (wpK P Q K) q) :: K) (.code c) a w) : Code.rounds P c (wpK P Q K) (q + 1) a w := h
theorem UNR (q : Nat) (h : Code.rounds P c (wpK P Q K) q a w) : Goal P Q K (.code (.loop c)) a w := wp_loop_rounds q h
theorem CALLROWA {β : Type} {e s m t f : Nat} {az : List SV} {F : β → Nat → List SV} {R : β → Nat → World → World → Prop} (hf : FnR P f az [] (fun x w w' => ∃ (L : β) (b cp : Nat), x = .sla (some ⟨b, 0, none⟩) m cp ∧ R L b w w' ∧ w.heap.size ≤ b ∧ Given e s m (F L) b cp w')) (A : Sy n T H ks G0 w0 G a w) (hd : o.dst = some t) (h1 : callS n ops T o = some (f, az)) (h2 : renL [] az = some az)
  (k : ∀ L b cp a' w' G', R L b w w' → w.heap.size ≤ b → (∀ k, (keys (H ++ [some (.row e s m 0 (F L))]) G').contains k = true → k < w.heap.size ∨ k = b) → Sy n ((t, .sl H.length m 0) :: extS T o.dst (.sla (some ⟨b, 0, none⟩) m cp)) (H ++ [some (.row e s m 0 (F L))]) ks G0 w0 G' a' w' → Goal P Q K (.ops ops rest) a' w') : Goal P Q K (.ops ops (o :: rest)) a w := by
 refine CALLR [] hf A h1 h2 rfl rfl rfl fun x a' w' hJ hk A' => ?_
 obtain ⟨L, b, cp, rfl, hR, hlo, hg⟩ := hJ
 have hl : look (extS T o.dst (.sla (some ⟨b, 0, none⟩) m cp)) t = some (.sla (some ⟨b, 0, none⟩) m cp) := by rw [hd]; simp [extS, look, Nat.beq_refl]
 have A2 := A'.takeRow t hg (fun i e L q1 q2 q3 => by
  have := A.mem.ent i e q1
  rw [q2] at this
  have := EntOK.lt this q3
  omega) (Nat.le_trans A.mix.size hlo) hl
 refine k L b cp a' w' _ hR hlo (fun k hk' => ?_) A2
 obtain ⟨i, e', M, q1, q2, q3, q4⟩ := mem_keys.1 hk'
 have hlen := A.mem.len
 by_cases hi : i < H.length
 ·rw [List.getElem?_append_left hi] at q1
  rw [List.getElem?_append_left (by omega)] at q3
  exact .inl (hk k (mem_keys.2 ⟨i, e', M, q1, q2, q3, q4⟩))
 ·right
  have hi2 : i = G.length := by
   have := (List.getElem?_eq_some_iff.1 q3).1
   simp at this
   omega
  subst hi2
  rw [List.getElem?_append_right (Nat.le_refl _)] at q3
  simp at q3
  rw [← q4, ← q3]
end
theorem ix_p {i o s m k : Nat} (j : Nat) {q : Nat} (hq : o + j * s + k = q) : ∀ G, den G (.ix (.ptr i o) s m (j : Int) k) = den G (.ptr i q) := fun G => by
 subst hq
 unfold den
 cases hG : G[i]? with
 | none => unfold den; rw [hG]
 | some p => cases p with
  | none => unfold den; rw [hG]
  | some L => unfold den; rw [hG]; simp [Nat.add_assoc]
theorem concat_ (L1 L2 L3 : List Rw) (c1 c2 c3 : Nat) (l1 : L1.length = 10) (l12 : (L1 ++ L2).length = 18) : Fn Tryz.prog 193 [.sl 0 3 3] [some (.blk [.sl 1 10 c1, .sl 2 8 c2, .sl 3 7 c3]), some (.lst 20 10 (fun zz => rwc (L1.getD zz Rw.z))), some (.lst 20 8 (fun zz => rwc (L2.getD zz Rw.z))), some (.lst 20 7 (fun zz => rwc (L3.getD zz Rw.z)))] (Rt (.sl 4 25 0) [some (.blk [.sl 1 10 c1, .sl 2 8 c2, .sl 3 7 c3]), some (.lst 20 10 (fun zz => rwc (L1.getD zz Rw.z))), some (.lst 20 8 (fun zz => rwc (L2.getD zz Rw.z))), some (.lst 20 7 (fun zz => rwc (L3.getD zz Rw.z))), some (.row 203 20 25 0 (fun zz => rwc (((L1 ++ L2) ++ L3).getD zz Rw.z)))]) :=
 enterM (n := 36) (by kernel_rfl) Tryz.func193 rfl rfl rfl fun G w a h0 A => N9 15 A rfl rfl fun A => have A := sy_sayD A 10 (.int .i64 3) rfl (fun _ => rfl); N9 1 A rfl rfl fun A => N9 3 A rfl rfl fun A => UNR 4 (RND (have A := A.cut [0, 2, 3, 9, 10, 11] rfl;
 N9 6 A rfl rfl fun A => forkD 12 A rfl
   (fun h1 A => N9 8 A rfl (ok_d (by omega) <| okE_nil) fun A => have A := sy_sayD A 13 (.ptr 0 0) rfl (ix_p 0 rfl); N9 7 A rfl rfl fun A => N9 2 A rfl rfl fun A => have A := sy_sayD A 17 (.int .i64 10) rfl (fun _ => rfl); N9 1 A rfl (ok_d (by omega) <| okE_nil) fun A => have A := sy_sayD A 18 (.int .i64 10) rfl (fun _ => rfl); N9 6 A rfl rfl fun A => N9 3 A rfl rfl fun A => forkD 20 A rfl
    (fun h2 A => absurd h2 (by decide))
    (fun h2 A => N9 6 A rfl (ok_d (by omega) <| okE_nil) fun A => have A := sy_sayD A 22 (.int .i64 1) rfl (fun _ => rfl); N9 1 A rfl rfl fun A => N9 1 A rfl rfl fun A => RND (have A := A.cut [0, 2, 3, 9, 10, 11] rfl;
 N9 6 A rfl rfl fun A => forkD 12 A rfl
     (fun h3 A => N9 8 A rfl (ok_d (by omega) <| okE_nil) fun A => have A := sy_sayD A 13 (.ptr 0 1) rfl (ix_p 1 rfl); N9 7 A rfl rfl fun A => N9 2 A rfl rfl fun A => have A := sy_sayD A 17 (.int .i64 8) rfl (fun _ => rfl); N9 1 A rfl (ok_d (by omega) <| okE_nil) fun A => have A := sy_sayD A 18 (.int .i64 18) rfl (fun _ => rfl); N9 6 A rfl rfl fun A => N9 3 A rfl rfl fun A => forkD 20 A rfl
      (fun h4 A => absurd h4 (by decide))
      (fun h4 A => N9 6 A rfl (ok_d (by omega) <| okE_nil) fun A => have A := sy_sayD A 22 (.int .i64 2) rfl (fun _ => rfl); N9 1 A rfl rfl fun A => N9 1 A rfl rfl fun A => RND (have A := A.cut [0, 2, 3, 9, 10, 11] rfl;
 N9 6 A rfl rfl fun A => forkD 12 A rfl
       (fun h5 A => N9 8 A rfl (ok_d (by omega) <| okE_nil) fun A => have A := sy_sayD A 13 (.ptr 0 2) rfl (ix_p 2 rfl); N9 7 A rfl rfl fun A => N9 2 A rfl rfl fun A => have A := sy_sayD A 17 (.int .i64 7) rfl (fun _ => rfl); N9 1 A rfl (ok_d (by omega) <| okE_nil) fun A => have A := sy_sayD A 18 (.int .i64 25) rfl (fun _ => rfl); N9 6 A rfl rfl fun A => N9 3 A rfl rfl fun A => forkD 20 A rfl
        (fun h6 A => absurd h6 (by decide))
        (fun h6 A => N9 6 A rfl (ok_d (by omega) <| okE_nil) fun A => have A := sy_sayD A 22 (.int .i64 3) rfl (fun _ => rfl); N9 1 A rfl rfl fun A => N9 1 A rfl rfl fun A => RND (have A := A.cut [0, 2, 3, 9, 10, 11] rfl;
 N9 6 A rfl rfl fun A => forkD 12 A rfl
         (fun h7 A => absurd h7 (by decide))
         (fun h7 A => N9 6 A rfl rfl fun A => CALLROWA (t := 24) (F := fun (L : List Rw) zz => rwc (L.getD zz Rw.z)) (R := fun L b w w' => L = []) (grow_ 25 (by decide) (by decide)) A rfl rfl rfl fun L b1 cp1 a1 w1 G1 hR hlo hk A =>
 N9 8 A rfl rfl fun A => have A := sy_sayD A 26 (.int .i64 3) rfl (fun _ => rfl); N9 1 A rfl rfl fun A => N9 3 A rfl rfl fun A => UNR 4 (RND (have A := A.cut [2, 6, 25, 26, 27] rfl;
 N9 6 A rfl rfl fun A => forkD 28 A rfl
           (fun h8 A => N9 8 A rfl (ok_d (by omega) <| okE_nil) fun A => have A := sy_sayD A 29 (.ptr 0 0) rfl (ix_p 0 rfl); N9 7 A rfl rfl fun A => q_eff A rfl (aplE hX 10 (fun zz => rwc (L1.getD zz Rw.z)) rfl rfl rfl rfl (Nat.le_refl _) (by decide) (show 10 ≤ 1000000 by decide) rfl (fun k hk => absurd hk (Nat.not_lt_zero k)) (fun k hk => by show rwc (L1.getD (0 + k) Rw.z) = rwc _; rw [Nat.zero_add]) (fun z => ⟨_, rfl, rfl⟩) (fun k hk => ⟨_, rfl, okE_nil⟩)) fun A =>
 N9 6 A rfl (ok_d (by omega) <| okE_nil) fun A => have A := sy_sayD A 34 (.int .i64 1) rfl (fun _ => rfl); N9 1 A rfl rfl fun A => N9 1 A rfl rfl fun A => RND (have A := A.cut [2, 6, 25, 26, 27] rfl;
 N9 6 A rfl rfl fun A => forkD 28 A rfl
            (fun h9 A => N9 8 A rfl (ok_d (by omega) <| okE_nil) fun A => have A := sy_sayD A 29 (.ptr 0 1) rfl (ix_p 1 rfl); N9 7 A rfl rfl fun A => q_eff A rfl (aplE hX 18 (fun zz => rwc ((L1 ++ L2).getD zz Rw.z)) rfl rfl rfl rfl (Nat.le_refl _) (by decide) (show 8 ≤ 1000000 by decide) rfl (fun k hk => by show rwc _ = rwc _; rw [getD_app_l (by rw [l1]; exact hk)]) (fun k hk => by show rwc ((L1 ++ L2).getD (10 + k) Rw.z) = rwc _; rw [show 10 + k = L1.length + k by rw [l1], getD_app_r]) (fun z => ⟨_, rfl, rfl⟩) (fun k hk => ⟨_, rfl, okE_nil⟩)) fun A =>
 N9 6 A rfl (ok_d (by omega) <| okE_nil) fun A => have A := sy_sayD A 34 (.int .i64 2) rfl (fun _ => rfl); N9 1 A rfl rfl fun A => N9 1 A rfl rfl fun A => RND (have A := A.cut [2, 6, 25, 26, 27] rfl;
 N9 6 A rfl rfl fun A => forkD 28 A rfl
             (fun h10 A => N9 8 A rfl (ok_d (by omega) <| okE_nil) fun A => have A := sy_sayD A 29 (.ptr 0 2) rfl (ix_p 2 rfl); N9 7 A rfl rfl fun A => q_eff A rfl (aplE hX 25 (fun zz => rwc (((L1 ++ L2) ++ L3).getD zz Rw.z)) rfl rfl rfl rfl (Nat.le_refl _) (by decide) (show 7 ≤ 1000000 by decide) rfl (fun k hk => by show rwc _ = rwc _; rw [getD_app_l (by rw [l12]; exact hk)]) (fun k hk => by show rwc (((L1 ++ L2) ++ L3).getD (18 + k) Rw.z) = rwc _; rw [show 18 + k = (L1 ++ L2).length + k by rw [l12], getD_app_r]) (fun z => ⟨_, rfl, rfl⟩) (fun k hk => ⟨_, rfl, okE_nil⟩)) fun A =>
 N9 6 A rfl (ok_d (by omega) <| okE_nil) fun A => have A := sy_sayD A 34 (.int .i64 3) rfl (fun _ => rfl); N9 1 A rfl rfl fun A => N9 1 A rfl rfl fun A => RND (have A := A.cut [2, 6, 25, 26, 27] rfl;
 N9 6 A rfl rfl fun A => forkD 28 A rfl
              (fun h11 A => absurd h11 (by decide))
              (fun h11 A => N9 10 A rfl rfl fun A => RET hX [7] A ⟨rfl, rfl⟩ rfl rfl rfl rfl rfl rfl rfl rfl h0)))
             (fun h10 A => absurd (by decide) h10)))
            (fun h9 A => absurd (by decide) h9)))
           (fun h8 A => absurd (by decide) h8)))))))
       (fun h5 A => absurd (by decide) h5))))
     (fun h3 A => absurd (by decide) h3))))
   (fun h1 A => absurd (by decide) h1)))
abbrev rothL (b1 b2 b3 b4 b5 b6 b7 b8 : Nat) : List (Nat × List SV) := [(b8, [.str [108, 105], .str [], .int .i64 1, .z9, .z9, .z9, .z9, .z9, .z9, .z9, .z9, .z9, .ff, .ff, .ff, .z9, .z9, .z9, .ff, .sla (some ⟨b1, 0, none⟩) 2 2, .str [109, 118], .str [], .int .i64 2, .z9, .z9, .z9, .z9, .z9, .z9, .z9, .z9, .z9, .ff, .ff, .ff, .z9, .z9, .z9, .ff, .sla (some ⟨b2, 0, none⟩) 2 2, .str [108, 42], .str [], .int .i64 4, .z9, .z9, .z9, .z9, .z9, .z9, .z9, .z9, .z9, .ff, .ff, .ff, .z9, .z9, .z9, .ff, .sla (some ⟨b3, 0, none⟩) 2 2, .str [115, 42], .str [], .int .i64 5, .z9, .z9, .z9, .z9, .z9, .z9, .z9, .z9, .z9, .ff, .ff, .ff, .z9, .z9, .z9, .ff, .sla (some ⟨b4, 0, none⟩) 2 2, .str [102, 101, 110, 99, 101], .str [], .int .i64 7, .z9, .z9, .z9, .z9, .z9, .z9, .z9, .z9, .z9, .ff, .ff, .ff, .z9, .z9, .z9, .ff, .sla (some ⟨b5, 0, none⟩) 2 2, .str [98, 101, 113, 122], .str [], .int .i64 9, .z9, .z9, .z9, .z9, .z9, .z9, .z9, .z9, .z9, .ff, .ff, .ff, .z9, .z9, .z9, .tt, .sla (some ⟨b6, 0, none⟩) 2 2, .str [98, 110, 101, 122], .str [], .int .i64 9, .z9, .z9, .z9, .z9, .z9, .z9, .z9, .z9, .z9, .ff, .ff, .ff, .z9, .z9, .z9, .ff, .sla (some ⟨b7, 0, none⟩) 2 2]), (b7, [.int .i64 2, .int .i64 7]), (b6, [.int .i64 2, .int .i64 7]), (b5, [.int .i64 8, .int .i64 9]), (b4, [.int .i64 2, .int .i64 6]), (b3, [.int .i64 1, .int .i64 6]), (b2, [.int .i64 1, .int .i64 2]), (b1, [.int .i64 1, .int .i64 5])]
theorem roth_ : FnR Tryz.prog 196 [] [] (fun x w w' => ∃ b1 b2 b3 b4 b5 b6 b7 b8 : Nat, x = .sla (some ⟨b8, 0, none⟩) 7 7 ∧ Acc w.heap.size (rothL b1 b2 b3 b4 b5 b6 b7 b8) w' []) :=
 enterR (n := 23) (by kernel_rfl) Tryz.func196 rfl rfl rfl fun G w a h0 A => have B := A; have hA : Acc w.heap.size [] w _ := Acc.nil; N9 8 A rfl rfl fun A => BSCA [.int .i64 1, .int .i64 5] (X := ⟨_, true⟩) hX B hA A rfl rfl rfl rfl fun b1 B hA A =>
 N9 2 A rfl rfl fun A => BSCA [.int .i64 1, .int .i64 2] (X := ⟨_, true⟩) hX B hA A rfl rfl rfl rfl fun b2 B hA A =>
 N9 2 A rfl rfl fun A => BSCA [.int .i64 1, .int .i64 6] (X := ⟨_, true⟩) hX B hA A rfl rfl rfl rfl fun b3 B hA A =>
 N9 2 A rfl rfl fun A => BSCA [.int .i64 2, .int .i64 6] (X := ⟨_, true⟩) hX B hA A rfl rfl rfl rfl fun b4 B hA A =>
 N9 2 A rfl rfl fun A => BSCA [.int .i64 8, .int .i64 9] (X := ⟨_, true⟩) hX B hA A rfl rfl rfl rfl fun b5 B hA A =>
 N9 2 A rfl rfl fun A => BSCA [.int .i64 2, .int .i64 7] (X := ⟨_, true⟩) hX B hA A rfl rfl rfl rfl fun b6 B hA A =>
 N9 2 A rfl rfl fun A => BSCA [.int .i64 2, .int .i64 7] (X := ⟨_, true⟩) hX B hA A rfl rfl rfl rfl fun b7 B hA A =>
 N9 1 A rfl rfl fun A => BSCA [.str [108, 105], .str [], .int .i64 1, .z9, .z9, .z9, .z9, .z9, .z9, .z9, .z9, .z9, .ff, .ff, .ff, .z9, .z9, .z9, .ff, .sla (some ⟨b1, 0, none⟩) 2 2, .str [109, 118], .str [], .int .i64 2, .z9, .z9, .z9, .z9, .z9, .z9, .z9, .z9, .z9, .ff, .ff, .ff, .z9, .z9, .z9, .ff, .sla (some ⟨b2, 0, none⟩) 2 2, .str [108, 42], .str [], .int .i64 4, .z9, .z9, .z9, .z9, .z9, .z9, .z9, .z9, .z9, .ff, .ff, .ff, .z9, .z9, .z9, .ff, .sla (some ⟨b3, 0, none⟩) 2 2, .str [115, 42], .str [], .int .i64 5, .z9, .z9, .z9, .z9, .z9, .z9, .z9, .z9, .z9, .ff, .ff, .ff, .z9, .z9, .z9, .ff, .sla (some ⟨b4, 0, none⟩) 2 2, .str [102, 101, 110, 99, 101], .str [], .int .i64 7, .z9, .z9, .z9, .z9, .z9, .z9, .z9, .z9, .z9, .ff, .ff, .ff, .z9, .z9, .z9, .ff, .sla (some ⟨b5, 0, none⟩) 2 2, .str [98, 101, 113, 122], .str [], .int .i64 9, .z9, .z9, .z9, .z9, .z9, .z9, .z9, .z9, .z9, .ff, .ff, .ff, .z9, .z9, .z9, .tt, .sla (some ⟨b6, 0, none⟩) 2 2, .str [98, 110, 101, 122], .str [], .int .i64 9, .z9, .z9, .z9, .z9, .z9, .z9, .z9, .z9, .z9, .ff, .ff, .ff, .z9, .z9, .z9, .ff, .sla (some ⟨b7, 0, none⟩) 2 2] (X := ⟨_, true⟩) hX B hA A rfl rfl rfl rfl fun b8 B hA A =>
 N9 4 A rfl rfl fun A => RETR (J := fun x w w' => ∃ b1 b2 b3 b4 b5 b6 b7 b8 : Nat, x = .sla (some ⟨b8, 0, none⟩) 7 7 ∧ Acc w.heap.size (rothL b1 b2 b3 b4 b5 b6 b7 b8) w' []) hX (B.trans A) (fun i e he => nil_no he) rfl rfl rfl rfl ⟨b1, b2, b3, b4, b5, b6, b7, b8, rfl, (hA.now A).bare⟩
def rothR (b1 b2 b3 b4 b5 b6 b7 : Nat) : List Rw := [⟨[108, 105], [], ⟨1, 0, 0, 0, 0, 0, 0, 0, 0, 0, false, false, false, 0, 0, 0, false⟩, some ⟨b1, 0, none⟩, [1, 5], 2⟩, ⟨[109, 118], [], ⟨2, 0, 0, 0, 0, 0, 0, 0, 0, 0, false, false, false, 0, 0, 0, false⟩, some ⟨b2, 0, none⟩, [1, 2], 2⟩, ⟨[108, 42], [], ⟨4, 0, 0, 0, 0, 0, 0, 0, 0, 0, false, false, false, 0, 0, 0, false⟩, some ⟨b3, 0, none⟩, [1, 6], 2⟩, ⟨[115, 42], [], ⟨5, 0, 0, 0, 0, 0, 0, 0, 0, 0, false, false, false, 0, 0, 0, false⟩, some ⟨b4, 0, none⟩, [2, 6], 2⟩, ⟨[102, 101, 110, 99, 101], [], ⟨7, 0, 0, 0, 0, 0, 0, 0, 0, 0, false, false, false, 0, 0, 0, false⟩, some ⟨b5, 0, none⟩, [8, 9], 2⟩, ⟨[98, 101, 113, 122], [], ⟨9, 0, 0, 0, 0, 0, 0, 0, 0, 0, false, false, false, 0, 0, 0, true⟩, some ⟨b6, 0, none⟩, [2, 7], 2⟩, ⟨[98, 110, 101, 122], [], ⟨9, 0, 0, 0, 0, 0, 0, 0, 0, 0, false, false, false, 0, 0, 0, false⟩, some ⟨b7, 0, none⟩, [2, 7], 2⟩]
def rothT : List (List UInt8 × List UInt8 × In × List Int) := [([108, 105], [], ⟨1, 0, 0, 0, 0, 0, 0, 0, 0, 0, false, false, false, 0, 0, 0, false⟩, [1, 5]), ([109, 118], [], ⟨2, 0, 0, 0, 0, 0, 0, 0, 0, 0, false, false, false, 0, 0, 0, false⟩, [1, 2]), ([108, 42], [], ⟨4, 0, 0, 0, 0, 0, 0, 0, 0, 0, false, false, false, 0, 0, 0, false⟩, [1, 6]), ([115, 42], [], ⟨5, 0, 0, 0, 0, 0, 0, 0, 0, 0, false, false, false, 0, 0, 0, false⟩, [2, 6]), ([102, 101, 110, 99, 101], [], ⟨7, 0, 0, 0, 0, 0, 0, 0, 0, 0, false, false, false, 0, 0, 0, false⟩, [8, 9]), ([98, 101, 113, 122], [], ⟨9, 0, 0, 0, 0, 0, 0, 0, 0, 0, false, false, false, 0, 0, 0, true⟩, [2, 7]), ([98, 110, 101, 122], [], ⟨9, 0, 0, 0, 0, 0, 0, 0, 0, 0, false, false, false, 0, 0, 0, false⟩, [2, 7])]
def riscvT : List (List UInt8 × List UInt8 × In × List Int) := (rcomp ++ ratom) ++ rothT
theorem roth_rows {b1 b2 b3 b4 b5 b6 b7 b8 lo lo2 : Nat} {w : World} {ks : List Nat} (h : Acc lo (rothL b1 b2 b3 b4 b5 b6 b7 b8) w ks) (hlo : lo2 ≤ lo) : RowsIn lo2 (rothR b1 b2 b3 b4 b5 b6 b7) w ks := by
 intro r hr
 unfold rothR at hr
 simp only [List.mem_cons, List.mem_nil_iff, or_false] at hr
 rcases hr with rfl | rfl | rfl | rfl | rfl | rfl | rfl
 ·have q := lies_of (b := b1) (cs := []) [1, 5] h (by show _ ∈ rothL b1 b2 b3 b4 b5 b6 b7 b8; unfold rothL; simp); exact ⟨q.1, fun z hz => Nat.le_trans hlo (q.2 z hz)⟩
 ·have q := lies_of (b := b2) (cs := []) [1, 2] h (by show _ ∈ rothL b1 b2 b3 b4 b5 b6 b7 b8; unfold rothL; simp); exact ⟨q.1, fun z hz => Nat.le_trans hlo (q.2 z hz)⟩
 ·have q := lies_of (b := b3) (cs := []) [1, 6] h (by show _ ∈ rothL b1 b2 b3 b4 b5 b6 b7 b8; unfold rothL; simp); exact ⟨q.1, fun z hz => Nat.le_trans hlo (q.2 z hz)⟩
 ·have q := lies_of (b := b4) (cs := []) [2, 6] h (by show _ ∈ rothL b1 b2 b3 b4 b5 b6 b7 b8; unfold rothL; simp); exact ⟨q.1, fun z hz => Nat.le_trans hlo (q.2 z hz)⟩
 ·have q := lies_of (b := b5) (cs := []) [8, 9] h (by show _ ∈ rothL b1 b2 b3 b4 b5 b6 b7 b8; unfold rothL; simp); exact ⟨q.1, fun z hz => Nat.le_trans hlo (q.2 z hz)⟩
 ·have q := lies_of (b := b6) (cs := []) [2, 7] h (by show _ ∈ rothL b1 b2 b3 b4 b5 b6 b7 b8; unfold rothL; simp); exact ⟨q.1, fun z hz => Nat.le_trans hlo (q.2 z hz)⟩
 ·have q := lies_of (b := b7) (cs := []) [2, 7] h (by show _ ∈ rothL b1 b2 b3 b4 b5 b6 b7 b8; unfold rothL; simp); exact ⟨q.1, fun z hz => Nat.le_trans hlo (q.2 z hz)⟩
theorem roth_den (b1 b2 b3 b4 b5 b6 b7 b8 : Nat) : denL [] ((rothR b1 b2 b3 b4 b5 b6 b7).flatMap rwc) = denL [] [.str [108, 105], .str [], .int .i64 1, .z9, .z9, .z9, .z9, .z9, .z9, .z9, .z9, .z9, .ff, .ff, .ff, .z9, .z9, .z9, .ff, .sla (some ⟨b1, 0, none⟩) 2 2, .str [109, 118], .str [], .int .i64 2, .z9, .z9, .z9, .z9, .z9, .z9, .z9, .z9, .z9, .ff, .ff, .ff, .z9, .z9, .z9, .ff, .sla (some ⟨b2, 0, none⟩) 2 2, .str [108, 42], .str [], .int .i64 4, .z9, .z9, .z9, .z9, .z9, .z9, .z9, .z9, .z9, .ff, .ff, .ff, .z9, .z9, .z9, .ff, .sla (some ⟨b3, 0, none⟩) 2 2, .str [115, 42], .str [], .int .i64 5, .z9, .z9, .z9, .z9, .z9, .z9, .z9, .z9, .z9, .ff, .ff, .ff, .z9, .z9, .z9, .ff, .sla (some ⟨b4, 0, none⟩) 2 2, .str [102, 101, 110, 99, 101], .str [], .int .i64 7, .z9, .z9, .z9, .z9, .z9, .z9, .z9, .z9, .z9, .ff, .ff, .ff, .z9, .z9, .z9, .ff, .sla (some ⟨b5, 0, none⟩) 2 2, .str [98, 101, 113, 122], .str [], .int .i64 9, .z9, .z9, .z9, .z9, .z9, .z9, .z9, .z9, .z9, .ff, .ff, .ff, .z9, .z9, .z9, .tt, .sla (some ⟨b6, 0, none⟩) 2 2, .str [98, 110, 101, 122], .str [], .int .i64 9, .z9, .z9, .z9, .z9, .z9, .z9, .z9, .z9, .z9, .ff, .ff, .ff, .z9, .z9, .z9, .ff, .sla (some ⟨b7, 0, none⟩) 2 2] := by rfl
section
variable {n : Nat} {ks : List Nat} {G0 : Gr} {w0 : World} {T : List (Nat × SV)} {H : Hp} {G : Gr} {a : Act} {w : World} {Q : Exit → Act → World → Prop} {K : List Fr} {ops : Array Oper} {o : Oper} {rest : List Oper}
theorem CALLROTH (A : Sy n T H ks G0 w0 G a w) (h1 : callS n ops T o = some (196, []))
  (k : ∀ b1 b2 b3 b4 b5 b6 b7 b8 vs a' w', denL [] ((rothR b1 b2 b3 b4 b5 b6 b7).flatMap rwc) = some vs → Lies b8 0 vs w' (keys H G) → RowsIn w.heap.size (rothR b1 b2 b3 b4 b5 b6 b7) w' (keys H G) → Sy n (extS T o.dst (.sla (some ⟨b8, 0, none⟩) 7 7)) H ks G0 w0 G a' w' → Goal Tryz.prog Q K (.ops ops rest) a' w') : Goal Tryz.prog Q K (.ops ops (o :: rest)) a w := by
 refine CALLR [] roth_ A h1 rfl rfl rfl rfl fun x a' w' hJ hk A' => ?_
 obtain ⟨b1, b2, b3, b4, b5, b6, b7, b8, rfl, hA⟩ := hJ
 have hA := acc_keys hA hk
 obtain ⟨_, vs, q1, q2⟩ := hA _ List.mem_cons_self
 exact k b1 b2 b3 b4 b5 b6 b7 b8 vs a' w' ((roth_den b1 b2 b3 b4 b5 b6 b7 b8).trans q1) q2 (roth_rows hA (Nat.le_refl _)) A'
end
theorem rregs_   : Fn Tryz.prog 147 [] [] (Rt (.agg [.str [97, 48], .str [97, 49], .str [97, 50], .str [97, 51], .str [97, 52], .str [97, 53], .str [97, 54], .str [97, 55]]) []) :=
 enterM (n := 2) (by kernel_rfl) Tryz.func147 rfl rfl rfl fun G w a h0 A => N9 12 A rfl rfl fun A => R9 A rfl h0 rfl rfl rfl
theorem rlang_ : FnR Tryz.prog 146 [] [] (fun x w w' => ∃ (L : List Rw) (b cp : Nat), x = .agg [.str [97, 48], .str [97, 49], .str [97, 50], .str [97, 51], .str [97, 52], .str [97, 53], .str [97, 54], .str [97, 55], .str [98], .str [104], .str [119], .str [100], .str [], .str [114], .str [119], .str [114, 119], .sla (some ⟨b, 0, none⟩) 25 cp] ∧ (L.map tm = riscvT ∧ RowsIn w.heap.size L w' [b]) ∧ w.heap.size ≤ b ∧ Given 203 20 25 (fun zz => rwc (L.getD zz Rw.z)) b cp w') :=
 enterR (n := 10) (by kernel_rfl) Tryz.func146 rfl rfl rfl fun G w a h0 A => N9 7 A rfl rfl fun A => C9 [] (rregs_ ) A rfl fun A => N9 2 A rfl rfl fun A => have hz := A.mix.size; CALLROW (t := 4) (F := fun (L : List Rw) zz => rwc (L.getD zz Rw.z)) (R := fun L b w w' => L.map tm = rcomp ∧ RowsIn w.heap.size L w' [b]) rcomp_ A rfl rfl fun L1 b1 cp1 a1 w1 G1 hR1 hlo hk A => have l1 : L1.length = 10 := (by have q := congrArg List.length hR1.1; rw [List.length_map] at q; exact q); have hI := (rows_keys hR1.2 hk).mono hz; have B := A; have A := B.base;
 have hz := Nat.le_trans B.mix.size A.mix.size; CALLROW (t := 5) (F := fun (L : List Rw) zz => rwc (L.getD zz Rw.z)) (R := fun L b w w' => L.map tm = ratom ∧ RowsIn w.heap.size L w' [b]) ratom_ A rfl rfl fun L2 b2 cp2 a2_ w2 G2 hR2 hlo hk A => have l2 : L2.length = 8 := (by have q := congrArg List.length hR2.1; rw [List.length_map] at q; exact q); have hI2 := (rows_keys hR2.2 hk).mono hz; have hI := (RowsIn.ok _ _ _ _ hI A.mix A.keys_own).app hI2; have l12 : (L1 ++ L2).length = 18 := (by rw [List.length_append, l1, l2]); have B := B.trans A; have A := A.base;
 have hz := Nat.le_trans B.mix.size A.mix.size; CALLROTH A rfl fun c1 c2 c3 c4 c5 c6 c7 c8 vs a3 w3 hv hL hO A => have hI := (RowsIn.ok _ _ _ _ hI A.mix A.keys_own).app (hO.mono hz); have B := B.trans A; have A := A.base; have A := A.adoptL Rw.z rwc 20 tyR.1 tyR.2.1 tyR.2.2 (rothR c1 c2 c3 c4 c5 c6 c7) hL hv 6 rfl;
 N9 1 A rfl rfl fun A => have A := A.freeze 1 rfl; have A := A.freeze 2 rfl; C9 [4, 1, 2, 3] (concat_ L1 L2 (rothR c1 c2 c3 c4 c5 c6 c7) 0 0 7 l1 l12) A rfl fun A => match A.giveRow 5 8 (by decide) rfl rfl rfl with | ⟨b, cp, A2, hG, ho, hkb⟩ => (have h1 := RowsIn.ok _ _ _ _ hI A2.mix A2.keys_own; have h2 := RowsIn.ok _ _ _ [b] hI A2.mix (fun b2 hb => by have : b2 = b := (by simpa using hb); rw [this]; exact ho); have hbl := lo_of B (fun i e he => nil_no he) ho; have B := B.trans A2; have A := A2.base;
 N9 5 A rfl rfl fun A => RETR (J := fun x w w' => ∃ (L : List Rw) (b cp : Nat), x = .agg [.str [97, 48], .str [97, 49], .str [97, 50], .str [97, 51], .str [97, 52], .str [97, 53], .str [97, 54], .str [97, 55], .str [98], .str [104], .str [119], .str [100], .str [], .str [114], .str [119], .str [114, 119], .sla (some ⟨b, 0, none⟩) 25 cp] ∧ (L.map tm = riscvT ∧ RowsIn w.heap.size L w' [b]) ∧ w.heap.size ≤ b ∧ Given 203 20 25 (fun zz => rwc (L.getD zz Rw.z)) b cp w') hX (B.trans A) (fun i e he => nil_no he) rfl rfl rfl rfl ⟨(L1 ++ L2) ++ (rothR c1 c2 c3 c4 c5 c6 c7), b, cp, rfl, ⟨by rw [List.map_append, List.map_append, hR1.1, hR2.1]; rfl, h1.one h2 A.mix⟩, hbl, hG.mix A.mix hkb⟩)
end Go.Proofs.YtbbdanhpphlbpaaGreatDoor
namespace Go.Proofs.YtbbdanhpphlbpaaGreatDoor
open Go.RowKit
set_option linter.unusedVariables false
set_option linter.unusedSimpArgs false
set_option linter.unusedSectionVars false
set_option maxRecDepth 100000
set_option maxHeartbeats 2000000
section
variable {g : Lg} {L : List Rw} {i : In} {lb : List UInt8} {r : Rw}
theorem sound_of (h : wrongI i = false) : sound0 i.op i.dst i.ra i.rb i.imm i.loc i.off i.ix i.sz i.fn i.acq i.weak i.rel i.pred i.succ i.to_ i.zero = true := by
 cases hs : sound0 i.op i.dst i.ra i.rb i.imm i.loc i.off i.ix i.sz i.fn i.acq i.weak i.rel i.pred i.succ i.to_ i.zero with
 | true => rfl
 | false =>
  exfalso
  unfold wrongI Right0 at h
  rw [hs, Bool.not_false, Bool.or_true, if_pos rfl] at h
  exact absurd h (by decide)
theorem acc_loc (h : isAccess0 i.op i.dst i.ra i.rb i.imm i.loc i.off i.ix i.sz i.fn i.acq i.weak i.rel i.pred i.succ i.to_ i.zero = true) : 0 ≤ i.loc ∧ i.loc < 3 := by
 unfold isAccess0 at h
 split at h
 ·split at h
  ·omega
  ·cases h
 ·cases h
theorem snd_loc (h : wrongI i = false) (ho : i.op = 4 ∨ i.op = 5 ∨ i.op = 6) : 0 ≤ i.loc ∧ i.loc < 3 := by
 have hs := sound_of h
 unfold sound0 at hs
 rw [if_neg (by omega), if_neg (by omega), if_neg (by omega)] at hs
 rcases ho with ho | ho | ho
 ·rw [if_pos ho] at hs
  split at hs
  ·rw [Bool.and_eq_true] at hs; exact acc_loc hs.1
  ·cases hs
 ·rw [if_neg (by omega), if_pos ho] at hs
  split at hs
  ·exact acc_loc hs
  ·cases hs
 ·rw [if_neg (by omega), if_neg (by omega), if_pos ho] at hs
  split at hs
  ·split at hs
   ·rw [Bool.and_eq_true] at hs; exact acc_loc hs.1
   ·cases hs
  ·cases hs
theorem snd_fen (h : wrongI i = false) (ho : i.op = 7) : (1 ≤ i.pred ∧ i.pred ≤ 3) ∧ (1 ≤ i.succ ∧ i.succ ≤ 3) := by
 have hs := sound_of h
 unfold sound0 at hs
 rw [if_neg (by omega), if_neg (by omega), if_neg (by omega), if_neg (by omega), if_neg (by omega), if_neg (by omega), if_pos ho] at hs
 split at hs
 ·next hp =>
  simp only [Bool.or_eq_true, beq_iff_eq] at hp hs
  omega
 ·cases hs
theorem wstep_op (i J : In) (p : Int) : (wStep i J p).op = J.op := by
 unfold wStep
 repeat' split
 all_goals rfl
theorem lay_op (r : Rw) (i : In) : (r.lay i).op = r.ins.op := by
 have : ∀ (l : List Int) (J : In), (l.foldl (wStep i) J).op = J.op := by
  intro l
  induction l with
  | nil => intro J; rfl
  | cons p l ih => intro J; rw [List.foldl_cons, ih, wstep_op]
 exact this r.ps (bare r.ins)
theorem row_op (h : rowQ L i = true) : i.op = (rowR L i).ins.op := by
 unfold rowQ at h
 unfold rowR
 cases hf : L.find? (rowP i) with
 | none => rw [hf] at h; cases h
 | some r =>
  have := List.find?_some hf
  unfold rowP at this
  rw [Bool.and_eq_true] at this
  have h2 := this.1
  unfold eqIn at h2
  rw [Bool.and_eq_true, beq_iff_eq, lay_op] at h2
  exact h2.1.symm
end
def prB (g : Lg) (T : List (List UInt8 × List UInt8 × In × List Int)) : Bool := T.all fun x =>
 decide (x.1.length ≤ 1000) && decide (Lib.countB (S x.1) (S [42]) ≤ 1000) && decide (x.2.2.2.length ≤ 4) && decide (x.2.1.length ≤ 1000) &&
 ((List.range 4).all fun k => decide ((Lib.replace x.1 [42] (g.let.getD k []) 1).length ≤ 1000)) &&
 (x.2.2.2.all fun p => (!(p == 6) || (x.2.2.1.op == 4 || (x.2.2.1.op == 5 || x.2.2.1.op == 6))) && (!(p == 8 || p == 9) || x.2.2.1.op == 7))
theorem lens_le {B : Nat} : ∀ (l : List (List UInt8)), (∀ x ∈ l, x.length ≤ B) → Lib.lens l ≤ l.length * B
 | [], _ => by simp [Lib.lens]
 | x :: l, h => by
  have h1 := lens_le l (fun y hy => h y (List.mem_cons_of_mem _ hy))
  have h2 := h x List.mem_cons_self
  have e : Lib.lens (x :: l) = x.length + Lib.lens l := by simp [Lib.lens]
  rw [e, List.length_cons, Nat.add_mul]; omega
theorem join_le {B : Nat} (l : List (List UInt8)) (h : ∀ x ∈ l, x.length ≤ B) : (Lib.join l [44]).length ≤ l.length * (B + 1) := by
 cases l with
 | nil => exact Nat.zero_le _
 | cons x l =>
  rw [Lib.join_length]
  have := lens_le (x :: l) h
  rw [Nat.mul_add, List.length_cons] at *
  simp only [List.length_cons, List.length_nil]
  omega
theorem x86_prB : prB x86G x86T = true := by decide +kernel
theorem get3_le {a b c : List UInt8} {B : Nat} (ha : a.length ≤ B) (hb : b.length ≤ B) (hc : c.length ≤ B) (k : Nat) : ([a, b, c].getD k []).length ≤ B := by
 by_cases h : k < 3
 ·have : k = 0 ∨ k = 1 ∨ k = 2 := by omega
  rcases this with rfl | rfl | rfl
  ·exact ha
  ·exact hb
  ·exact hc
 ·rw [List.getD_eq_getElem?_getD, List.getElem?_eq_none (by simpa using h)]; exact Nat.zero_le _
structure LgL (g : Lg) : Prop where
 lg : LgOK g
 lt : ∀ k, ([g.l0, g.l1, g.l2, g.l3].getD k []).length ≤ 1000
 f0 : g.f0.length ≤ 1000
 f1 : g.f1.length ≤ 1000
 f2 : g.f2.length ≤ 1000
structure InR (i : In) : Prop where
 im : -9223372036854775808 ≤ i.imm ∧ i.imm ≤ 9223372036854775807
 of_ : -9223372036854775808 ≤ i.off ∧ i.off ≤ 9223372036854775807
section
variable {g : Lg} {L : List Rw} {i : In} {lb : List UInt8} {r : Rw}
theorem mem_le (hg : LgL g) (hi : InR i) : (memT g i).length ≤ 1100 := by
 have q1 := hg.lg.rg i.ix
 have q2 := Lib.itoa_length_le i.off hi.of_.1 hi.of_.2
 have q3 := get3_le (a := [120]) (b := [121]) (c := [122]) (B := 1) (by decide) (by decide) (by decide) (i.loc).toNat
 unfold memT memB memA
 split <;> split <;> (simp only [List.length_append, List.length_cons, List.length_nil]; omega)
theorem opd_le (hg : LgL g) (hi : InR i) (hw : r.wd.length ≤ 1000) (p : Int) : (opdT g r p i lb).length ≤ 2000 + lb.length := by
 have q1 := hg.lg.rg (regP p i).1
 have q2 := Lib.itoa_length_le i.imm hi.im.1 hi.im.2
 have q3 := hg.lg.im
 have q4 := mem_le hg hi
 have q5 := get3_le hg.f0 hg.f1 hg.f2 (i.pred - 1).toNat
 have q6 := get3_le hg.f0 hg.f1 hg.f2 (i.succ - 1).toNat
 unfold opdT
 split
 ·omega
 split
 ·rw [List.length_append]; omega
 split
 ·omega
 split
 ·omega
 split
 ·omega
 split
 ·omega
 ·omega
theorem pr_ok {T : List (List UInt8 × List UInt8 × In × List Int)} (hm : L.map tm = T) (hg : LgL g) (hB : prB g T = true) (hn : T.length ≤ 1000) (hi : InR i) (hl : lb.length ≤ 100000) : PrOK g L i lb := by
 have hlen : L.length ≤ 1000 := by have := congrArg List.length hm; rw [List.length_map] at this; omega
 have htab : ∀ r ∈ L, r.nm.length ≤ 1000 ∧ Lib.countB (S r.nm) (S [42]) ≤ 1000 ∧ r.ps.length ≤ 4 ∧ r.wd.length ≤ 1000 ∧ (∀ k, k < 4 → (Lib.replace r.nm [42] (g.let.getD k []) 1).length ≤ 1000) ∧ ∀ p ∈ r.ps, (p = 6 → r.ins.op = 4 ∨ r.ins.op = 5 ∨ r.ins.op = 6) ∧ (p = 8 ∨ p = 9 → r.ins.op = 7) := fun r hr => by
  have := (List.all_eq_true.1 hB) _ (tm_mem hm hr)
  simp only [Bool.and_eq_true, decide_eq_true_eq] at this
  obtain ⟨⟨⟨⟨⟨h1, h2⟩, h3⟩, h4⟩, h5⟩, h6⟩ := this
  refine ⟨h1, h2, h3, h4, fun k hk => ?_, fun p hp => ?_⟩
  ·have := (List.all_eq_true.1 h5) k (List.mem_range.2 hk)
   exact of_decide_eq_true this
  ·have := (List.all_eq_true.1 h6) p hp
   simp only [Bool.and_eq_true, Bool.or_eq_true, Bool.not_eq_true', beq_iff_eq, beq_eq_false_iff_ne, Bool.or_eq_false_iff] at this
   obtain ⟨a1, a2⟩ := this
   refine ⟨fun e => ?_, fun e => ?_⟩
   ·rcases a1 with a1 | a1
    ·exact absurd e a1
    ·exact a1
   ·rcases a2 with a2 | a2
    ·rcases e with e | e
     ·exact absurd e a2.1
     ·exact absurd e a2.2
    ·exact a2
 have hz : ∀ k, (L.getD k Rw.z) ∈ L ∨ L.getD k Rw.z = Rw.z := fun k => by
  by_cases h : k < L.length
  ·left; rw [List.getD_eq_getElem?_getD, List.getElem?_eq_getElem h]; exact List.getElem_mem h
  ·right; rw [List.getD_eq_getElem?_getD, List.getElem?_eq_none (by omega)]; rfl
 have hr : rowR L i ∈ L ∨ rowR L i = Rw.z := by
  unfold rowR
  cases hf : L.find? (rowP i) with
  | none => exact .inr rfl
  | some r => exact .inl (List.mem_of_find?_eq_some hf)
 have hz0 : Rw.z.nm = [] ∧ Rw.z.ps = [] ∧ Rw.z.wd = [] := ⟨rfl, rfl, rfl⟩
 have hnl : (nameR g (rowR L i).nm i.sz).length ≤ 1000 := by
  unfold nameR
  split
  ·next hk =>
   rcases hr with hr | hr
   ·exact (htab _ hr).2.2.2.2.1 _ hk
   ·rw [hr, hz0.1]
    have : szK i.sz = 0 ∨ szK i.sz = 1 ∨ szK i.sz = 2 ∨ szK i.sz = 3 := by omega
    have e : ∀ y : List UInt8, (Lib.replace [] [42] y 1) = [] := fun y => by
     unfold Lib.replace
     split
     ·rfl
     ·have hc : Lib.index [] [42] = -1 := by decide
      cases Lib.replaceNum [] [42] 1 with
      | zero => rfl
      | succ k => unfold Lib.replaceK; rw [hc]; rfl
    rw [e]; exact Nat.zero_le _
  ·rcases hr with hr | hr
   ·exact (htab _ hr).1
   ·rw [hr, hz0.1]; exact Nat.zero_le _
 refine ⟨hg.lg, hg.lt, fun k => ?_, by omega, hi.im, ?_, fun hw hq k hk => ?_, by omega, ?_⟩
 ·rcases hz k with h | h
  ·have := (htab _ h).2.2.1; omega
  ·rw [h, hz0.2.1]; exact Nat.zero_le _
 ·rcases hr with hr | hr
  ·exact ⟨(htab _ hr).1, (htab _ hr).2.1⟩
  ·rw [hr, hz0.1]; exact ⟨Nat.zero_le _, by decide⟩
 ·have hmem := row_mem hq
  have hop := row_op hq
  have hp : (rowR L i).ps.getD k 0 ∈ (rowR L i).ps := by rw [List.getD_eq_getElem?_getD, List.getElem?_eq_getElem hk]; exact List.getElem_mem hk
  obtain ⟨h6, h89⟩ := (htab _ hmem).2.2.2.2.2 _ hp
  refine ⟨fun e => ⟨snd_loc hw (by rw [hop]; exact h6 e), hi.of_⟩, fun e => (snd_fen hw (by rw [hop]; exact h89 (.inl e))).1, fun e => (snd_fen hw (by rw [hop]; exact h89 (.inr e))).2⟩
 ·have hps : (rowR L i).ps.length ≤ 4 ∧ (rowR L i).wd.length ≤ 1000 := by
   rcases hr with hr | hr
   ·exact ⟨(htab _ hr).2.2.1, (htab _ hr).2.2.2.1⟩
   ·rw [hr]; exact ⟨Nat.zero_le _, Nat.zero_le _⟩
  have h1 := join_le (B := 2000 + lb.length) (opsT g (rowR L i) i lb) (fun x hx => by
   unfold opsT at hx
   obtain ⟨p, _, rfl⟩ := List.mem_map.1 hx
   exact opd_le hg hi hps.2 p)
  have h2 : (opsT g (rowR L i) i lb).length ≤ 4 := by unfold opsT; rw [List.length_map]; exact hps.1
  have h3 : (opsT g (rowR L i) i lb).length * (2000 + lb.length + 1) ≤ 4 * (2000 + lb.length + 1) := Nat.mul_le_mul_right _ h2
  omega
end
theorem x86_lg : LgL x86G := by
 refine ⟨⟨fun r => ?_, by decide⟩, fun k => ?_, by decide, by decide, by decide⟩
 ·unfold regnm0
  split
  ·exact Nat.zero_le _
  ·next h =>
   have : (r).toNat = 0 ∨ (r).toNat = 1 ∨ (r).toNat = 2 ∨ (r).toNat = 3 ∨ (r).toNat = 4 ∨ (r).toNat = 5 ∨ (r).toNat = 6 ∨ (r).toNat = 7 := by
    simp only [Bool.or_eq_true, decide_eq_true_eq] at h; omega
   rcases this with e | e | e | e | e | e | e | e <;> rw [e] <;> decide
 ·by_cases h : k < 4
  ·have : k = 0 ∨ k = 1 ∨ k = 2 ∨ k = 3 := by omega
   rcases this with rfl | rfl | rfl | rfl <;> decide
  ·rw [List.getD_eq_getElem?_getD, List.getElem?_eq_none (by simpa using h)]; decide
theorem x86_prok {L : List Rw} {i : In} {lb : List UInt8} (hi : InR i) (hl : lb.length ≤ 100000) (hm : L.map tm = x86T) : PrOK x86G L i lb := pr_ok hm x86_lg x86_prB (by decide +kernel) hi hl
end Go.Proofs.YtbbdanhpphlbpaaGreatDoor
namespace Go.Proofs.YtbbdanhpphlbpaaGreatDoor
open Go.RowKit
set_option linter.unusedVariables false
set_option linter.unusedSimpArgs false
set_option maxRecDepth 100000
set_option maxHeartbeats 2000000
set_option simprocs false
def riscvG : Lg := ⟨[97, 48], [97, 49], [97, 50], [97, 51], [97, 52], [97, 53], [97, 54], [97, 55], [98], [104], [119], [100], [], [114], [119], [114, 119]⟩
def riscvC : List Rw := riscvT.map rwOf
theorem riscv_pr {L : List Rw} {i : In} {lb : List UInt8} (h : L.map tm = riscvT) : prP riscvG L i lb = prP riscvG riscvC i lb := by
 have := cn_prP (g := riscvG) (L := L) (i := i) (lb := lb)
 rw [cn_tm h] at this
 exact this.symm
theorem riscv_lg : LgL riscvG := by
 refine ⟨⟨fun r => ?_, by decide⟩, fun k => ?_, by decide, by decide, by decide⟩
 ·unfold regnm0
  split
  ·exact Nat.zero_le _
  ·next h =>
   have : (r).toNat = 0 ∨ (r).toNat = 1 ∨ (r).toNat = 2 ∨ (r).toNat = 3 ∨ (r).toNat = 4 ∨ (r).toNat = 5 ∨ (r).toNat = 6 ∨ (r).toNat = 7 := by
    simp only [Bool.or_eq_true, decide_eq_true_eq] at h; omega
   rcases this with e | e | e | e | e | e | e | e <;> rw [e] <;> decide
 ·by_cases h : k < 4
  ·have : k = 0 ∨ k = 1 ∨ k = 2 ∨ k = 3 := by omega
   rcases this with rfl | rfl | rfl | rfl <;> decide
  ·rw [List.getD_eq_getElem?_getD, List.getElem?_eq_none (by simpa using h)]; decide
theorem riscv_prok {L : List Rw} {i : In} {lb : List UInt8} (hi : InR i) (hl : lb.length ≤ 100000) (hm : L.map tm = riscvT) : PrOK riscvG L i lb := pr_ok hm riscv_lg (by decide +kernel) (by decide +kernel) hi hl
theorem vprint_ (i : In) (lb : List UInt8) (os : List (Nat × Obj)) (hM : ∀ w ks, Gl os w ks → ∃ m, w.cell? ⟨0, 0, none⟩ = some (.int .i64 m)) (hT : ∀ w ks, Gl os w ks → Lib.TabIs Tryz.prog w "internal/strconv.uint64pow10" .u64 Lib.pow10Tab) (hE : ∀ w ks, Gl os w ks → ∃ ev, w.cell? ⟨4, 0, none⟩ = some ev ∧ (ev = .nilIface ∨ ∃ te pe, ev = .iface te pe)) (hp : ∀ L : List Rw, L.map tm = riscvT → PrOK riscvG L i lb) : FnI (Gl os) Tryz.prog 113 [.agg (inQ9 i), .str lb] [] (Rt (.tup [.str ((prP riscvG riscvC i lb).1), .int .i64 ((prP riscvG riscvC i lb).2)]) []) :=
 enterI (n := 12) (by kernel_rfl) Tryz.func113 rfl rfl rfl fun G w a h0 hI A => N9 8 A rfl rfl fun A => any_in 8 hmo rfl A fun {w2} A => any_cut (fun (tail : ∀ (L : List Rw) {G1 : Gr} {a1 : Act} {w1 : World}, L.map tm = riscvT → L.length = 25 → PrI os L w1 (keys [some (.blk (inQ9 i)), some (lQ9 L)] G1) → Sy 12 [(6, .agg [.str [97, 48], .str [97, 49], .str [97, 50], .str [97, 51], .str [97, 52], .str [97, 53], .str [97, 54], .str [97, 55], .str [98], .str [104], .str [119], .str [100], .str [], .str [114], .str [119], .str [114, 119], .sl 1 L.length 0]), (7, .agg (inQ9 i)), (8, .str lb)] [some (.blk (inQ9 i)), some (lQ9 L)] (keys [] G) G w G1 a1 w1 → wpAny Tryz.prog .any _ _ _ _ a1 w1) => any_at (rs := [0, 1, 2]) (by kernel_rfl) (by decide) (fc9 ⟨any_agg (t := 6) (l := [.str [97, 48], .str [97, 49], .str [97, 50], .str [97, 51], .str [97, 52], .str [97, 53], .str [97, 54], .str [97, 55], .str [98], .str [104], .str [119], .str [100], .str [], .str [114], .str [119], .str [114, 119]]) (F := fun (L : List Rw) zz => rwc (L.getD zz Rw.z)) (R := fun L b w w' => L.map tm = riscvT ∧ RowsIn w.heap.size L w' [b]) rfl rlang_ A rfl rfl fun L b cp a1 w1 G1 hR hlo hkk A => have hl20 : L.length = 25 := (by have q := congrArg List.length hR.1; rw [List.length_map] at q; exact q.trans (by decide +kernel)); have hRI := rows_keys hR.2 hkk; have B0 := A; have A := A.base; have A := A.rowAs 1 L.length (fun zz => rwc (L.getD zz Rw.z)) rfl hl20 (fun _ _ => rfl) (fun z => ⟨_, rfl, rfl⟩); have A := A.say 6 (.agg [.str [97, 48], .str [97, 49], .str [97, 50], .str [97, 51], .str [97, 52], .str [97, 53], .str [97, 54], .str [97, 55], .str [98], .str [104], .str [119], .str [100], .str [], .str [114], .str [119], .str [114, 119], .sl 1 L.length 0]) rfl (by rw [hl20] <;> rfl); have A := A.freeze 1 rfl; have hTb := RowsIn.ok.now A hRI; have B := B0.trans A; have A := A.base; have hI2 : PrI os L _ _ := ⟨fun r hr => (hTb r hr).1, Gl.ok.now B hI⟩; any_at (rs := [1, 2]) (by kernel_rfl) (by decide) (fc9 ⟨aV9 (.agg (inQ9 i)) rfl A rfl rfl fun A => any_at (rs := [2]) (by kernel_rfl) (by decide) (fc9 ⟨aV9 (.str lb) rfl A rfl rfl fun A => tail L hR.1 hl20 (PrI.ok.now A hI2) ((B.trans A).cut [6, 7, 8] rfl),
    (fn9)⟩),
   (fc9 ⟨aV9 (.str lb) rfl A rfl rfl fun A => any_at (rs := [1]) (by kernel_rfl) (by decide) (fc9 ⟨aV9 (.agg (inQ9 i)) rfl A rfl rfl fun A => tail L hR.1 hl20 (PrI.ok.now A hI2) ((B.trans A).cut [6, 7, 8] rfl),
    (fn9)⟩),
   (fn9)⟩)⟩),
  (fc9 ⟨aV9 (.agg (inQ9 i)) rfl A rfl rfl fun A => any_at (rs := [0, 2]) (by kernel_rfl) (by decide) (fc9 ⟨any_agg (t := 6) (l := [.str [97, 48], .str [97, 49], .str [97, 50], .str [97, 51], .str [97, 52], .str [97, 53], .str [97, 54], .str [97, 55], .str [98], .str [104], .str [119], .str [100], .str [], .str [114], .str [119], .str [114, 119]]) (F := fun (L : List Rw) zz => rwc (L.getD zz Rw.z)) (R := fun L b w w' => L.map tm = riscvT ∧ RowsIn w.heap.size L w' [b]) rfl rlang_ A rfl rfl fun L b cp a1 w1 G1 hR hlo hkk A => have hl20 : L.length = 25 := (by have q := congrArg List.length hR.1; rw [List.length_map] at q; exact q.trans (by decide +kernel)); have hRI := rows_keys hR.2 hkk; have B0 := A; have A := A.base; have A := A.rowAs 1 L.length (fun zz => rwc (L.getD zz Rw.z)) rfl hl20 (fun _ _ => rfl) (fun z => ⟨_, rfl, rfl⟩); have A := A.say 6 (.agg [.str [97, 48], .str [97, 49], .str [97, 50], .str [97, 51], .str [97, 52], .str [97, 53], .str [97, 54], .str [97, 55], .str [98], .str [104], .str [119], .str [100], .str [], .str [114], .str [119], .str [114, 119], .sl 1 L.length 0]) rfl (by rw [hl20] <;> rfl); have A := A.freeze 1 rfl; have hTb := RowsIn.ok.now A hRI; have B := B0.trans A; have A := A.base; have hI2 : PrI os L _ _ := ⟨fun r hr => (hTb r hr).1, Gl.ok.now B hI⟩; any_at (rs := [2]) (by kernel_rfl) (by decide) (fc9 ⟨aV9 (.str lb) rfl A rfl rfl fun A => tail L hR.1 hl20 (PrI.ok.now A hI2) ((B.trans A).cut [6, 7, 8] rfl),
    (fn9)⟩),
   (fc9 ⟨aV9 (.str lb) rfl A rfl rfl fun A => any_at (rs := [0]) (by kernel_rfl) (by decide) (fc9 ⟨any_agg (t := 6) (l := [.str [97, 48], .str [97, 49], .str [97, 50], .str [97, 51], .str [97, 52], .str [97, 53], .str [97, 54], .str [97, 55], .str [98], .str [104], .str [119], .str [100], .str [], .str [114], .str [119], .str [114, 119]]) (F := fun (L : List Rw) zz => rwc (L.getD zz Rw.z)) (R := fun L b w w' => L.map tm = riscvT ∧ RowsIn w.heap.size L w' [b]) rfl rlang_ A rfl rfl fun L b cp a1 w1 G1 hR hlo hkk A => have hl20 : L.length = 25 := (by have q := congrArg List.length hR.1; rw [List.length_map] at q; exact q.trans (by decide +kernel)); have hRI := rows_keys hR.2 hkk; have B0 := A; have A := A.base; have A := A.rowAs 1 L.length (fun zz => rwc (L.getD zz Rw.z)) rfl hl20 (fun _ _ => rfl) (fun z => ⟨_, rfl, rfl⟩); have A := A.say 6 (.agg [.str [97, 48], .str [97, 49], .str [97, 50], .str [97, 51], .str [97, 52], .str [97, 53], .str [97, 54], .str [97, 55], .str [98], .str [104], .str [119], .str [100], .str [], .str [114], .str [119], .str [114, 119], .sl 1 L.length 0]) rfl (by rw [hl20] <;> rfl); have A := A.freeze 1 rfl; have hTb := RowsIn.ok.now A hRI; have B := B0.trans A; have A := A.base; have hI2 : PrI os L _ _ := ⟨fun r hr => (hTb r hr).1, Gl.ok.now B hI⟩; tail L hR.1 hl20 (PrI.ok.now A hI2) ((B.trans A).cut [6, 7, 8] rfl),
    (fn9)⟩),
   (fn9)⟩)⟩),
  (fc9 ⟨aV9 (.str lb) rfl A rfl rfl fun A => any_at (rs := [0, 1]) (by kernel_rfl) (by decide) (fc9 ⟨any_agg (t := 6) (l := [.str [97, 48], .str [97, 49], .str [97, 50], .str [97, 51], .str [97, 52], .str [97, 53], .str [97, 54], .str [97, 55], .str [98], .str [104], .str [119], .str [100], .str [], .str [114], .str [119], .str [114, 119]]) (F := fun (L : List Rw) zz => rwc (L.getD zz Rw.z)) (R := fun L b w w' => L.map tm = riscvT ∧ RowsIn w.heap.size L w' [b]) rfl rlang_ A rfl rfl fun L b cp a1 w1 G1 hR hlo hkk A => have hl20 : L.length = 25 := (by have q := congrArg List.length hR.1; rw [List.length_map] at q; exact q.trans (by decide +kernel)); have hRI := rows_keys hR.2 hkk; have B0 := A; have A := A.base; have A := A.rowAs 1 L.length (fun zz => rwc (L.getD zz Rw.z)) rfl hl20 (fun _ _ => rfl) (fun z => ⟨_, rfl, rfl⟩); have A := A.say 6 (.agg [.str [97, 48], .str [97, 49], .str [97, 50], .str [97, 51], .str [97, 52], .str [97, 53], .str [97, 54], .str [97, 55], .str [98], .str [104], .str [119], .str [100], .str [], .str [114], .str [119], .str [114, 119], .sl 1 L.length 0]) rfl (by rw [hl20] <;> rfl); have A := A.freeze 1 rfl; have hTb := RowsIn.ok.now A hRI; have B := B0.trans A; have A := A.base; have hI2 : PrI os L _ _ := ⟨fun r hr => (hTb r hr).1, Gl.ok.now B hI⟩; any_at (rs := [1]) (by kernel_rfl) (by decide) (fc9 ⟨aV9 (.agg (inQ9 i)) rfl A rfl rfl fun A => tail L hR.1 hl20 (PrI.ok.now A hI2) ((B.trans A).cut [6, 7, 8] rfl),
    (fn9)⟩),
   (fc9 ⟨aV9 (.agg (inQ9 i)) rfl A rfl rfl fun A => any_at (rs := [0]) (by kernel_rfl) (by decide) (fc9 ⟨any_agg (t := 6) (l := [.str [97, 48], .str [97, 49], .str [97, 50], .str [97, 51], .str [97, 52], .str [97, 53], .str [97, 54], .str [97, 55], .str [98], .str [104], .str [119], .str [100], .str [], .str [114], .str [119], .str [114, 119]]) (F := fun (L : List Rw) zz => rwc (L.getD zz Rw.z)) (R := fun L b w w' => L.map tm = riscvT ∧ RowsIn w.heap.size L w' [b]) rfl rlang_ A rfl rfl fun L b cp a1 w1 G1 hR hlo hkk A => have hl20 : L.length = 25 := (by have q := congrArg List.length hR.1; rw [List.length_map] at q; exact q.trans (by decide +kernel)); have hRI := rows_keys hR.2 hkk; have B0 := A; have A := A.base; have A := A.rowAs 1 L.length (fun zz => rwc (L.getD zz Rw.z)) rfl hl20 (fun _ _ => rfl) (fun z => ⟨_, rfl, rfl⟩); have A := A.say 6 (.agg [.str [97, 48], .str [97, 49], .str [97, 50], .str [97, 51], .str [97, 52], .str [97, 53], .str [97, 54], .str [97, 55], .str [98], .str [104], .str [119], .str [100], .str [], .str [114], .str [119], .str [114, 119], .sl 1 L.length 0]) rfl (by rw [hl20] <;> rfl); have A := A.freeze 1 rfl; have hTb := RowsIn.ok.now A hRI; have B := B0.trans A; have A := A.base; have hI2 : PrI os L _ _ := ⟨fun r hr => (hTb r hr).1, Gl.ok.now B hI⟩; tail L hR.1 hl20 (PrI.ok.now A hI2) ((B.trans A).cut [6, 7, 8] rfl),
    (fn9)⟩),
   (fn9)⟩)⟩),
  (fn9)⟩)⟩)⟩)) (fun L {G1 a1 w1} hR0 hl20 hI2 A => have hR : L.map tm = riscvT ∧ True := ⟨hR0, trivial⟩; have B := A; have A := B.base; any_at (rs := [3]) (by kernel_rfl) (by decide) (fc9 ⟨any_eff (x := .tup [.str ((prP riscvG L i lb).1), .int .i64 ((prP riscvG L i lb).2)]) (H' := [some (.blk (inQ9 i)), some (lQ9 L)]) rfl A rfl (callIE [1] PrI.ok hI2 (lprint_ riscvG L 0 i lb os hM hT hE (hp L hR.1)) rfl rfl rfl rfl rfl rfl rfl) fun A => any_at (rs := [4, 5]) (by kernel_rfl) (by decide) (fc9 ⟨aV9 (.str ((prP riscvG L i lb).1)) rfl A rfl rfl fun A => any_at (rs := [5]) (by kernel_rfl) (by decide) (fc9 ⟨aV9 (.int .i64 ((prP riscvG L i lb).2)) rfl A rfl rfl fun A => any_at (rs := [6]) (by kernel_rfl) (by decide) (fc9 ⟨aV9 (.str ((prP riscvG L i lb).1)) rfl A rfl rfl fun A => any_at (rs := [7]) (by kernel_rfl) (by decide) (fc9 ⟨aV9 (.int .i64 ((prP riscvG L i lb).2)) rfl A rfl rfl fun A => any_end (by kernel_rfl) (N9 2 A rfl rfl fun A => R9 (B.trans A) rfl h0 rfl (by rw [← riscv_pr hR.1] <;> rfl) rfl),
      (fn9)⟩),
     (fn9)⟩),
    (fn9)⟩),
   (fc9 ⟨aV9 (.int .i64 ((prP riscvG L i lb).2)) rfl A rfl rfl fun A => any_at (rs := [4]) (by kernel_rfl) (by decide) (fc9 ⟨aV9 (.str ((prP riscvG L i lb).1)) rfl A rfl rfl fun A => any_at (rs := [6]) (by kernel_rfl) (by decide) (fc9 ⟨aV9 (.str ((prP riscvG L i lb).1)) rfl A rfl rfl fun A => any_at (rs := [7]) (by kernel_rfl) (by decide) (fc9 ⟨aV9 (.int .i64 ((prP riscvG L i lb).2)) rfl A rfl rfl fun A => any_end (by kernel_rfl) (N9 2 A rfl rfl fun A => R9 (B.trans A) rfl h0 rfl (by rw [← riscv_pr hR.1] <;> rfl) rfl),
      (fn9)⟩),
     (fn9)⟩),
    (fn9)⟩),
   (fn9)⟩)⟩),
  (fn9)⟩))
end Go.Proofs.YtbbdanhpphlbpaaGreatDoor
namespace Go.Proofs.YtbbdanhpphlbpaaGreatDoor.Ar
open Go.RowKit
set_option linter.unusedVariables false
set_option linter.unusedSimpArgs false
set_option maxRecDepth 100000
set_option maxHeartbeats 2000000
set_option simprocs false
section
variable {P : Program} {n : Nat} {ks : List Nat} {G0 : Gr} {w0 : World} {T : List (Nat × SV)} {H : Hp} {G : Gr} {a : Act} {w w' : World} {Q : Exit → Act → World → Prop} {K : List Fr} {ops : Array Oper} {o : Oper} {rest : List Oper} {c : Code}
theorem RND {q : Nat} (h : Goal P Q (.lp (Code.rounds P c (wpK P Q K) q) :: K) (.code c) a w) : Code.rounds P c (wpK P Q K) (q + 1) a w := h
theorem UNR (q : Nat) (h : Code.rounds P c (wpK P Q K) q a w) : Goal P Q K (.code (.loop c)) a w := wp_loop_rounds q h
theorem CALLROWA {β : Type} {e s m t f : Nat} {az : List SV} {F : β → Nat → List SV} {R : β → Nat → World → World → Prop} (hf : FnR P f az [] (fun x w w' => ∃ (L : β) (b cp : Nat), x = .sla (some ⟨b, 0, none⟩) m cp ∧ R L b w w' ∧ w.heap.size ≤ b ∧ Given e s m (F L) b cp w')) (A : Sy n T H ks G0 w0 G a w) (hd : o.dst = some t) (h1 : callS n ops T o = some (f, az)) (h2 : renL [] az = some az)
  (k : ∀ L b cp a' w' G', R L b w w' → w.heap.size ≤ b → (∀ k, (keys (H ++ [some (.row e s m 0 (F L))]) G').contains k = true → k < w.heap.size ∨ k = b) → Sy n ((t, .sl H.length m 0) :: extS T o.dst (.sla (some ⟨b, 0, none⟩) m cp)) (H ++ [some (.row e s m 0 (F L))]) ks G0 w0 G' a' w' → Goal P Q K (.ops ops rest) a' w') : Goal P Q K (.ops ops (o :: rest)) a w := by
 refine CALLR [] hf A h1 h2 rfl rfl rfl fun x a' w' hJ hk A' => ?_
 obtain ⟨L, b, cp, rfl, hR, hlo, hg⟩ := hJ
 have hl : look (extS T o.dst (.sla (some ⟨b, 0, none⟩) m cp)) t = some (.sla (some ⟨b, 0, none⟩) m cp) := by rw [hd]; simp [extS, look, Nat.beq_refl]
 have A2 := A'.takeRow t hg (fun i e L q1 q2 q3 => by
  have := A.mem.ent i e q1
  rw [q2] at this
  have := EntOK.lt this q3
  omega) (Nat.le_trans A.mix.size hlo) hl
 refine k L b cp a' w' _ hR hlo (fun k hk' => ?_) A2
 obtain ⟨i, e', M, q1, q2, q3, q4⟩ := mem_keys.1 hk'
 have hlen := A.mem.len
 by_cases hi : i < H.length
 ·rw [List.getElem?_append_left hi] at q1
  rw [List.getElem?_append_left (by omega)] at q3
  exact .inl (hk k (mem_keys.2 ⟨i, e', M, q1, q2, q3, q4⟩))
 ·right
  have hi2 : i = G.length := by
   have := (List.getElem?_eq_some_iff.1 q3).1
   simp at this
   omega
  subst hi2
  rw [List.getElem?_append_right (Nat.le_refl _)] at q3
  simp at q3
  rw [← q4, ← q3]
end
theorem ix_p {i o s m k : Nat} (j : Nat) {q : Nat} (hq : o + j * s + k = q) : ∀ G, den G (.ix (.ptr i o) s m (j : Int) k) = den G (.ptr i q) := fun G => by
 subst hq
 unfold den
 cases hG : G[i]? with
 | none => unfold den; rw [hG]
 | some p => cases p with
  | none => unfold den; rw [hG]
  | some L => unfold den; rw [hG]; simp [Nat.add_assoc]
theorem concat5_ (L1 L2 L3 L4 L5 : List Rw) (c1 c2 c3 c4 c5 : Nat) (l1 : L1.length = 10) (l12 : (L1 ++ L2).length = 15) (l13 : ((L1 ++ L2) ++ L3).length = 23) (l14 : (((L1 ++ L2) ++ L3) ++ L4).length = 26) : Fn Tryz.prog 193 [.sl 0 5 5] [some (.blk [.sl 1 10 c1, .sl 2 5 c2, .sl 3 8 c3, .sl 4 3 c4, .sl 5 5 c5]), some (.lst 20 10 (fun zz => rwc (L1.getD zz Rw.z))), some (.lst 20 5 (fun zz => rwc (L2.getD zz Rw.z))), some (.lst 20 8 (fun zz => rwc (L3.getD zz Rw.z))), some (.lst 20 3 (fun zz => rwc (L4.getD zz Rw.z))), some (.lst 20 5 (fun zz => rwc (L5.getD zz Rw.z)))] (Rt (.sl 6 31 0) [some (.blk [.sl 1 10 c1, .sl 2 5 c2, .sl 3 8 c3, .sl 4 3 c4, .sl 5 5 c5]), some (.lst 20 10 (fun zz => rwc (L1.getD zz Rw.z))), some (.lst 20 5 (fun zz => rwc (L2.getD zz Rw.z))), some (.lst 20 8 (fun zz => rwc (L3.getD zz Rw.z))), some (.lst 20 3 (fun zz => rwc (L4.getD zz Rw.z))), some (.lst 20 5 (fun zz => rwc (L5.getD zz Rw.z))), some (.row 203 20 31 0 (fun zz => rwc (((((L1 ++ L2) ++ L3) ++ L4) ++ L5).getD zz Rw.z)))]) :=
 enterM (n := 36) (by kernel_rfl) Tryz.func193 rfl rfl rfl fun G w a h0 A => N9 15 A rfl rfl fun A => have A := sy_sayD A 10 (.int .i64 5) rfl (fun _ => rfl); N9 1 A rfl rfl fun A => N9 3 A rfl rfl fun A => UNR 6 (RND (have A := A.cut [0, 2, 3, 9, 10, 11] rfl;
 N9 6 A rfl rfl fun A => forkD 12 A rfl
   (fun h1 A => N9 8 A rfl (ok_d (by omega) <| okE_nil) fun A => have A := sy_sayD A 13 (.ptr 0 0) rfl (ix_p 0 rfl); N9 7 A rfl rfl fun A => N9 2 A rfl rfl fun A => have A := sy_sayD A 17 (.int .i64 10) rfl (fun _ => rfl); N9 1 A rfl (ok_d (by omega) <| okE_nil) fun A => have A := sy_sayD A 18 (.int .i64 10) rfl (fun _ => rfl); N9 6 A rfl rfl fun A => N9 3 A rfl rfl fun A => forkD 20 A rfl
    (fun h2 A => absurd h2 (by decide))
    (fun h2 A => N9 6 A rfl (ok_d (by omega) <| okE_nil) fun A => have A := sy_sayD A 22 (.int .i64 1) rfl (fun _ => rfl); N9 1 A rfl rfl fun A => N9 1 A rfl rfl fun A => RND (have A := A.cut [0, 2, 3, 9, 10, 11] rfl;
 N9 6 A rfl rfl fun A => forkD 12 A rfl
     (fun h3 A => N9 8 A rfl (ok_d (by omega) <| okE_nil) fun A => have A := sy_sayD A 13 (.ptr 0 1) rfl (ix_p 1 rfl); N9 7 A rfl rfl fun A => N9 2 A rfl rfl fun A => have A := sy_sayD A 17 (.int .i64 5) rfl (fun _ => rfl); N9 1 A rfl (ok_d (by omega) <| okE_nil) fun A => have A := sy_sayD A 18 (.int .i64 15) rfl (fun _ => rfl); N9 6 A rfl rfl fun A => N9 3 A rfl rfl fun A => forkD 20 A rfl
      (fun h4 A => absurd h4 (by decide))
      (fun h4 A => N9 6 A rfl (ok_d (by omega) <| okE_nil) fun A => have A := sy_sayD A 22 (.int .i64 2) rfl (fun _ => rfl); N9 1 A rfl rfl fun A => N9 1 A rfl rfl fun A => RND (have A := A.cut [0, 2, 3, 9, 10, 11] rfl;
 N9 6 A rfl rfl fun A => forkD 12 A rfl
       (fun h5 A => N9 8 A rfl (ok_d (by omega) <| okE_nil) fun A => have A := sy_sayD A 13 (.ptr 0 2) rfl (ix_p 2 rfl); N9 7 A rfl rfl fun A => N9 2 A rfl rfl fun A => have A := sy_sayD A 17 (.int .i64 8) rfl (fun _ => rfl); N9 1 A rfl (ok_d (by omega) <| okE_nil) fun A => have A := sy_sayD A 18 (.int .i64 23) rfl (fun _ => rfl); N9 6 A rfl rfl fun A => N9 3 A rfl rfl fun A => forkD 20 A rfl
        (fun h6 A => absurd h6 (by decide))
        (fun h6 A => N9 6 A rfl (ok_d (by omega) <| okE_nil) fun A => have A := sy_sayD A 22 (.int .i64 3) rfl (fun _ => rfl); N9 1 A rfl rfl fun A => N9 1 A rfl rfl fun A => RND (have A := A.cut [0, 2, 3, 9, 10, 11] rfl;
 N9 6 A rfl rfl fun A => forkD 12 A rfl
         (fun h7 A => N9 8 A rfl (ok_d (by omega) <| okE_nil) fun A => have A := sy_sayD A 13 (.ptr 0 3) rfl (ix_p 3 rfl); N9 7 A rfl rfl fun A => N9 2 A rfl rfl fun A => have A := sy_sayD A 17 (.int .i64 3) rfl (fun _ => rfl); N9 1 A rfl (ok_d (by omega) <| okE_nil) fun A => have A := sy_sayD A 18 (.int .i64 26) rfl (fun _ => rfl); N9 6 A rfl rfl fun A => N9 3 A rfl rfl fun A => forkD 20 A rfl
          (fun h8 A => absurd h8 (by decide))
          (fun h8 A => N9 6 A rfl (ok_d (by omega) <| okE_nil) fun A => have A := sy_sayD A 22 (.int .i64 4) rfl (fun _ => rfl); N9 1 A rfl rfl fun A => N9 1 A rfl rfl fun A => RND (have A := A.cut [0, 2, 3, 9, 10, 11] rfl;
 N9 6 A rfl rfl fun A => forkD 12 A rfl
           (fun h9 A => N9 8 A rfl (ok_d (by omega) <| okE_nil) fun A => have A := sy_sayD A 13 (.ptr 0 4) rfl (ix_p 4 rfl); N9 7 A rfl rfl fun A => N9 2 A rfl rfl fun A => have A := sy_sayD A 17 (.int .i64 5) rfl (fun _ => rfl); N9 1 A rfl (ok_d (by omega) <| okE_nil) fun A => have A := sy_sayD A 18 (.int .i64 31) rfl (fun _ => rfl); N9 6 A rfl rfl fun A => N9 3 A rfl rfl fun A => forkD 20 A rfl
            (fun h10 A => absurd h10 (by decide))
            (fun h10 A => N9 6 A rfl (ok_d (by omega) <| okE_nil) fun A => have A := sy_sayD A 22 (.int .i64 5) rfl (fun _ => rfl); N9 1 A rfl rfl fun A => N9 1 A rfl rfl fun A => RND (have A := A.cut [0, 2, 3, 9, 10, 11] rfl;
 N9 6 A rfl rfl fun A => forkD 12 A rfl
             (fun h11 A => absurd h11 (by decide))
             (fun h11 A => N9 6 A rfl rfl fun A => CALLROWA (t := 24) (F := fun (L : List Rw) zz => rwc (L.getD zz Rw.z)) (R := fun L b w w' => L = []) (grow_ 31 (by decide) (by decide)) A rfl rfl rfl fun L b1 cp1 a1 w1 G1 hR hlo hk A =>
 N9 8 A rfl rfl fun A => have A := sy_sayD A 26 (.int .i64 5) rfl (fun _ => rfl); N9 1 A rfl rfl fun A => N9 3 A rfl rfl fun A => UNR 6 (RND (have A := A.cut [2, 6, 25, 26, 27] rfl;
 N9 6 A rfl rfl fun A => forkD 28 A rfl
               (fun h12 A => N9 8 A rfl (ok_d (by omega) <| okE_nil) fun A => have A := sy_sayD A 29 (.ptr 0 0) rfl (ix_p 0 rfl); N9 7 A rfl rfl fun A => q_eff A rfl (aplE hX 10 (fun zz => rwc (L1.getD zz Rw.z)) rfl rfl rfl rfl (Nat.le_refl _) (by decide) (show 10 ≤ 1000000 by decide) rfl (fun k hk => absurd hk (Nat.not_lt_zero k)) (fun k hk => by show rwc (L1.getD (0 + k) Rw.z) = rwc _; rw [Nat.zero_add]) (fun z => ⟨_, rfl, rfl⟩) (fun k hk => ⟨_, rfl, okE_nil⟩)) fun A =>
 N9 6 A rfl (ok_d (by omega) <| okE_nil) fun A => have A := sy_sayD A 34 (.int .i64 1) rfl (fun _ => rfl); N9 1 A rfl rfl fun A => N9 1 A rfl rfl fun A => RND (have A := A.cut [2, 6, 25, 26, 27] rfl;
 N9 6 A rfl rfl fun A => forkD 28 A rfl
                (fun h13 A => N9 8 A rfl (ok_d (by omega) <| okE_nil) fun A => have A := sy_sayD A 29 (.ptr 0 1) rfl (ix_p 1 rfl); N9 7 A rfl rfl fun A => q_eff A rfl (aplE hX 15 (fun zz => rwc ((L1 ++ L2).getD zz Rw.z)) rfl rfl rfl rfl (Nat.le_refl _) (by decide) (show 5 ≤ 1000000 by decide) rfl (fun k hk => by show rwc _ = rwc _; rw [getD_app_l (by rw [l1]; exact hk)]) (fun k hk => by show rwc ((L1 ++ L2).getD (10 + k) Rw.z) = rwc _; rw [show 10 + k = L1.length + k by rw [l1], getD_app_r]) (fun z => ⟨_, rfl, rfl⟩) (fun k hk => ⟨_, rfl, okE_nil⟩)) fun A =>
 N9 6 A rfl (ok_d (by omega) <| okE_nil) fun A => have A := sy_sayD A 34 (.int .i64 2) rfl (fun _ => rfl); N9 1 A rfl rfl fun A => N9 1 A rfl rfl fun A => RND (have A := A.cut [2, 6, 25, 26, 27] rfl;
 N9 6 A rfl rfl fun A => forkD 28 A rfl
                 (fun h14 A => N9 8 A rfl (ok_d (by omega) <| okE_nil) fun A => have A := sy_sayD A 29 (.ptr 0 2) rfl (ix_p 2 rfl); N9 7 A rfl rfl fun A => q_eff A rfl (aplE hX 23 (fun zz => rwc (((L1 ++ L2) ++ L3).getD zz Rw.z)) rfl rfl rfl rfl (Nat.le_refl _) (by decide) (show 8 ≤ 1000000 by decide) rfl (fun k hk => by show rwc _ = rwc _; rw [getD_app_l (by rw [l12]; exact hk)]) (fun k hk => by show rwc (((L1 ++ L2) ++ L3).getD (15 + k) Rw.z) = rwc _; rw [show 15 + k = (L1 ++ L2).length + k by rw [l12], getD_app_r]) (fun z => ⟨_, rfl, rfl⟩) (fun k hk => ⟨_, rfl, okE_nil⟩)) fun A =>
 N9 6 A rfl (ok_d (by omega) <| okE_nil) fun A => have A := sy_sayD A 34 (.int .i64 3) rfl (fun _ => rfl); N9 1 A rfl rfl fun A => N9 1 A rfl rfl fun A => RND (have A := A.cut [2, 6, 25, 26, 27] rfl;
 N9 6 A rfl rfl fun A => forkD 28 A rfl
                  (fun h15 A => N9 8 A rfl (ok_d (by omega) <| okE_nil) fun A => have A := sy_sayD A 29 (.ptr 0 3) rfl (ix_p 3 rfl); N9 7 A rfl rfl fun A => q_eff A rfl (aplE hX 26 (fun zz => rwc ((((L1 ++ L2) ++ L3) ++ L4).getD zz Rw.z)) rfl rfl rfl rfl (Nat.le_refl _) (by decide) (show 3 ≤ 1000000 by decide) rfl (fun k hk => by show rwc _ = rwc _; rw [getD_app_l (by rw [l13]; exact hk)]) (fun k hk => by show rwc ((((L1 ++ L2) ++ L3) ++ L4).getD (23 + k) Rw.z) = rwc _; rw [show 23 + k = ((L1 ++ L2) ++ L3).length + k by rw [l13], getD_app_r]) (fun z => ⟨_, rfl, rfl⟩) (fun k hk => ⟨_, rfl, okE_nil⟩)) fun A =>
 N9 6 A rfl (ok_d (by omega) <| okE_nil) fun A => have A := sy_sayD A 34 (.int .i64 4) rfl (fun _ => rfl); N9 1 A rfl rfl fun A => N9 1 A rfl rfl fun A => RND (have A := A.cut [2, 6, 25, 26, 27] rfl;
 N9 6 A rfl rfl fun A => forkD 28 A rfl
                   (fun h16 A => N9 8 A rfl (ok_d (by omega) <| okE_nil) fun A => have A := sy_sayD A 29 (.ptr 0 4) rfl (ix_p 4 rfl); N9 7 A rfl rfl fun A => q_eff A rfl (aplE hX 31 (fun zz => rwc (((((L1 ++ L2) ++ L3) ++ L4) ++ L5).getD zz Rw.z)) rfl rfl rfl rfl (Nat.le_refl _) (by decide) (show 5 ≤ 1000000 by decide) rfl (fun k hk => by show rwc _ = rwc _; rw [getD_app_l (by rw [l14]; exact hk)]) (fun k hk => by show rwc (((((L1 ++ L2) ++ L3) ++ L4) ++ L5).getD (26 + k) Rw.z) = rwc _; rw [show 26 + k = (((L1 ++ L2) ++ L3) ++ L4).length + k by rw [l14], getD_app_r]) (fun z => ⟨_, rfl, rfl⟩) (fun k hk => ⟨_, rfl, okE_nil⟩)) fun A =>
 N9 6 A rfl (ok_d (by omega) <| okE_nil) fun A => have A := sy_sayD A 34 (.int .i64 5) rfl (fun _ => rfl); N9 1 A rfl rfl fun A => N9 1 A rfl rfl fun A => RND (have A := A.cut [2, 6, 25, 26, 27] rfl;
 N9 6 A rfl rfl fun A => forkD 28 A rfl
                    (fun h17 A => absurd h17 (by decide))
                    (fun h17 A => N9 10 A rfl rfl fun A => RET hX [11] A ⟨rfl, rfl⟩ rfl rfl rfl rfl rfl rfl rfl rfl h0)))
                   (fun h16 A => absurd (by decide) h16)))
                  (fun h15 A => absurd (by decide) h15)))
                 (fun h14 A => absurd (by decide) h14)))
                (fun h13 A => absurd (by decide) h13)))
               (fun h12 A => absurd (by decide) h12)))))))
           (fun h9 A => absurd (by decide) h9))))
         (fun h7 A => absurd (by decide) h7))))
       (fun h5 A => absurd (by decide) h5))))
     (fun h3 A => absurd (by decide) h3))))
   (fun h1 A => absurd (by decide) h1)))
end Go.Proofs.YtbbdanhpphlbpaaGreatDoor.Ar
namespace Go.Proofs.YtbbdanhpphlbpaaGreatDoor
open Go.RowKit
set_option linter.unusedVariables false
set_option linter.unusedSimpArgs false
set_option maxRecDepth 100000
set_option maxHeartbeats 2000000
set_option simprocs false
theorem aregs_   : Fn Tryz.prog 149 [] [] (Rt (.agg [.str [88, 48], .str [88, 49], .str [88, 50], .str [88, 51], .str [88, 52], .str [88, 53], .str [88, 54], .str [88, 55]]) []) :=
 enterM (n := 2) (by kernel_rfl) Tryz.func149 rfl rfl rfl fun G w a h0 A => N9 12 A rfl rfl fun A => R9 A rfl h0 rfl rfl rfl
end Go.Proofs.YtbbdanhpphlbpaaGreatDoor
namespace Go.Proofs.YtbbdanhpphlbpaaGreatDoor.Ar
open Go.RowKit
set_option linter.unusedVariables false
set_option linter.unusedSimpArgs false
set_option maxRecDepth 100000
set_option maxHeartbeats 2000000
set_option simprocs false
def c5 : List (List UInt8 × Int) := [([65, 68, 68], 1), ([83, 85, 66], 2), ([69, 79, 82], 3), ([65, 78, 68], 4), ([79, 82, 82], 5)]
abbrev cr1 (x : List UInt8 × Int) (b1 : Nat) : Rw := ⟨x.1, [], insF 3 x.2, some ⟨b1, 0, none⟩, [1, 2, 3], 3⟩
abbrev cr2 (x : List UInt8 × Int) (b2 : Nat) : Rw := ⟨x.1, [], insF 3 x.2, some ⟨b2, 0, none⟩, [1, 2, 5], 3⟩
def acomp : List (List UInt8 × List UInt8 × In × List Int) := c5.flatMap fun x => [(x.1, [], insF 3 x.2, [1, 2, 3]), (x.1, [], insF 3 x.2, [1, 2, 5])]
structure AC (lo : Nat) (z : List Rw × Nat) (w : World) (ks : List Nat) : Prop where
 le : z.2 ≤ 5
 tm : z.1.map tm = acomp.take (2 * z.2)
 rw : RowsIn lo z.1 w ks
theorem AC.len {lo : Nat} {z : List Rw × Nat} {w : World} {ks : List Nat} (h : AC lo z w ks) : z.1.length = 2 * z.2 := by
 have h1 := congrArg List.length h.tm
 rw [List.length_map, List.length_take] at h1
 have h2 : acomp.length = 10 := by decide
 have := h.le
 omega
theorem AC.nx {lo b1 b2 : Nat} {z : List Rw × Nat} {w w1 : World} {ks ks1 : List Nat} {l : List (Nat × List SV)} (h : AC lo z w ks) (hk : (z.2 : Int) < 5) (hr : RowsIn lo z.1 w1 ks1) (hA : Acc lo [(b2, [.int .i64 1, .int .i64 2, .int .i64 5]), (b1, [.int .i64 1, .int .i64 2, .int .i64 3])] w1 ks1) : AC lo (z.1 ++ [cr1 (c5.getD ((z.2 : Int)).toNat nz) b1, cr2 (c5.getD ((z.2 : Int)).toNat nz) b2], z.2 + 1) w1 ks1 := by
 refine ⟨by have := h.le; show z.2 + 1 ≤ 5; omega, ?_, fun r hr' => ?_⟩
 ·show List.map _ (z.1 ++ _) = _
  rw [List.map_append, h.tm, Int.toNat_natCast]
  have : z.2 = 0 ∨ z.2 = 1 ∨ z.2 = 2 ∨ z.2 = 3 ∨ z.2 = 4 := by omega
  rcases this with e | e | e | e | e <;> rw [e] <;> rfl
 ·rcases List.mem_append.1 hr' with h1 | h1
  ·exact hr r h1
  ·simp only [List.mem_cons, List.mem_nil_iff, or_false] at h1
   rcases h1 with rfl | rfl
   ·exact lies_of (cs := []) [1, 2, 3] hA (List.mem_cons_of_mem _ (List.mem_cons_self))
   ·exact lies_of (cs := []) [1, 2, 5] hA (List.mem_cons_self)
theorem acomp_ : FnR Tryz.prog 197 [] [] (fun x w w' => ∃ (L : List Rw) (b cp : Nat), x = .sla (some ⟨b, 0, none⟩) 10 cp ∧ (L.map tm = acomp ∧ RowsIn w.heap.size L w' [b]) ∧ w.heap.size ≤ b ∧ Given 203 20 10 (fun zz => rwc (L.getD zz Rw.z)) b cp w') :=
 enterR (n := 36) (by kernel_rfl) Tryz.func197 rfl rfl rfl fun G w a h0 A => N9 13 A rfl rfl fun A => have A := A.asT nz nfc 2 tyN.1 tyN.2.1 tyN.2.2 c5 0 rfl; N9 17 A rfl rfl fun A => have A := A.nilRow 2 203 20 (fun zz => rwc (([] : List Rw).getD zz Rw.z)) rfl (fun z => ⟨_, rfl, rfl⟩); LOOPJ (fun (z : List Rw × Nat) => [(0, .sla none 0 0), (2, .sl 1 z.1.length 0), (12, .sl 0 5 5), (13, .int .i64 ((5 : Nat) : Int)), (14, .int .i64 (z.2 : Int))]) (fun (z : List Rw × Nat) => [some (.lst 2 5 (fun zz => nfc (c5.getD zz nz))), some (.row 203 20 z.1.length 0 (fun zz => rwc (z.1.getD zz Rw.z)))]) (fun z w1 ks1 => AC w.heap.size z w1 ks1) (fun z => 5 - z.2) ([], 0) (A.cut [0, 2, 12, 13, 14] rfl) ⟨by decide, rfl, fun r hr => by cases hr⟩ fun z G1 a1 w1 hJ hg A B => have hA : Acc w.heap.size [] w1 _ := Acc.nil; have hR := hJ.rw;
 N9 6 A rfl rfl fun A => forkD 15 A rfl
   (fun h1 A => N9 14 A rfl (ok_d (by omega) <| ok_d (by omega) <| okE_nil) fun A => N9 4 A rfl rfl fun A => have A := sy_sayD A 20 (.agg [.int .i64 3, .z9, .z9, .z9, .z9, .z9, .z9, .z9, .z9, .int .i64 ((c5.getD (((z.2 : Int)).toNat) nz).2), .bool false, .bool false, .bool false, .z9, .z9, .z9, .bool false]) rfl (fun _ => rfl); N9 9 A rfl rfl fun A => BSCI [.int .i64 1, .int .i64 2, .int .i64 3] (X := ⟨_, true⟩) hX RowsIn.ok B hA hR A rfl rfl rfl rfl fun b1 B hA hR A =>
 N9 4 A rfl rfl fun A => BSCI [.int .i64 1, .int .i64 2, .int .i64 5] (X := ⟨_, true⟩) hX RowsIn.ok B hA hR A rfl rfl rfl rfl fun b2 B hA hR A =>
 N9 2 A rfl rfl fun A => have A := A.asT Rw.z rwc 20 tyR.1 tyR.2.1 tyR.2.2 [cr1 (c5.getD (((z.2 : Int)).toNat) nz) b1, cr2 (c5.getD (((z.2 : Int)).toNat) nz) b2] 4 rfl; q_eff A rfl (aplE hX ((z.1 ++ [cr1 (c5.getD (((z.2 : Int)).toNat) nz) b1, cr2 (c5.getD (((z.2 : Int)).toNat) nz) b2]).length) (fun zz => rwc ((z.1 ++ [cr1 (c5.getD (((z.2 : Int)).toNat) nz) b1, cr2 (c5.getD (((z.2 : Int)).toNat) nz) b2]).getD zz Rw.z)) rfl rfl rfl rfl (Nat.le_refl _) (by have := hJ.len; have := hJ.le; omega) (by decide) List.length_append (fun k hk => by show rwc _ = rwc _; rw [getD_app_l hk]) (fun k hk => by show rwc _ = rwc _; rw [getD_app_r]) (fun z => ⟨_, rfl, rfl⟩) (fun k hk => ⟨_, rfl, okE_nil⟩)) fun A =>
 N9 8 A rfl (ok_d (by omega) <| okE_nil) fun A => ⟨(z.1 ++ [cr1 (c5.getD (((z.2 : Int)).toNat) nz) b1, cr2 (c5.getD (((z.2 : Int)).toNat) nz) b2], z.2 + 1), _, (by have := h1; show _ - _ < _ - _; omega), (hJ.nx (l := []) h1 (RowsIn.ok _ _ _ _ hR A.mix fun b hb => A.keys_own b ((keys_pick (H := [some (.lst 2 5 (fun zz => nfc (c5.getD zz nz))), none, some (.blk [.str ((c5.getD (((z.2 : Int)).toNat) nz).1), .int .i64 ((c5.getD (((z.2 : Int)).toNat) nz).2)]), some (.blk [.int .i64 3, .z9, .z9, .z9, .z9, .z9, .z9, .z9, .z9, .int .i64 ((c5.getD (((z.2 : Int)).toNat) nz).2), .bool false, .bool false, .bool false, .z9, .z9, .z9, .bool false]), some (.lst 20 ([cr1 (c5.getD (((z.2 : Int)).toNat) nz) b1, cr2 (c5.getD (((z.2 : Int)).toNat) nz) b2].length) (fun zz => rwc ([cr1 (c5.getD (((z.2 : Int)).toNat) nz) b1, cr2 (c5.getD (((z.2 : Int)).toNat) nz) b2].getD zz Rw.z))), some (.row 203 20 ((z.1 ++ [cr1 (c5.getD (((z.2 : Int)).toNat) nz) b1, cr2 (c5.getD (((z.2 : Int)).toNat) nz) b2]).length) 0 (fun zz => rwc ((z.1 ++ [cr1 (c5.getD (((z.2 : Int)).toNat) nz) b1, cr2 (c5.getD (((z.2 : Int)).toNat) nz) b2]).getD zz Rw.z)))]) (m := [0, 5]) A.mem.len rfl rfl) b hb)) (hA.go A.mix fun b hb => A.keys_own b ((keys_pick (H := [some (.lst 2 5 (fun zz => nfc (c5.getD zz nz))), none, some (.blk [.str ((c5.getD (((z.2 : Int)).toNat) nz).1), .int .i64 ((c5.getD (((z.2 : Int)).toNat) nz).2)]), some (.blk [.int .i64 3, .z9, .z9, .z9, .z9, .z9, .z9, .z9, .z9, .int .i64 ((c5.getD (((z.2 : Int)).toNat) nz).2), .bool false, .bool false, .bool false, .z9, .z9, .z9, .bool false]), some (.lst 20 ([cr1 (c5.getD (((z.2 : Int)).toNat) nz) b1, cr2 (c5.getD (((z.2 : Int)).toNat) nz) b2].length) (fun zz => rwc ([cr1 (c5.getD (((z.2 : Int)).toNat) nz) b1, cr2 (c5.getD (((z.2 : Int)).toNat) nz) b2].getD zz Rw.z))), some (.row 203 20 ((z.1 ++ [cr1 (c5.getD (((z.2 : Int)).toNat) nz) b1, cr2 (c5.getD (((z.2 : Int)).toNat) nz) b2]).length) 0 (fun zz => rwc ((z.1 ++ [cr1 (c5.getD (((z.2 : Int)).toNat) nz) b1, cr2 (c5.getD (((z.2 : Int)).toNat) nz) b2]).getD zz Rw.z)))]) (m := [0, 5]) A.mem.len rfl rfl) b hb))), ((B.trans A).cut [0, 2, 12, 13, 14] rfl).mv 0 [0, 5] rfl rfl rfl rfl (by simp only [List.length_nil] at h0; omega)⟩)
   (fun h1 A => N9 10 A rfl rfl fun A => (have e5 : z.2 = 5 := (by have := hJ.le; omega); have e : z.1.length = 10 := (by have := hJ.len; omega); match A.giveRow 1 0 (by omega) rfl rfl rfl with | ⟨b, cp, A2, hG, ho, hk⟩ => RETR (J := fun x w w' => ∃ (L : List Rw) (b cp : Nat), x = .sla (some ⟨b, 0, none⟩) 10 cp ∧ (L.map tm = acomp ∧ RowsIn w.heap.size L w' [b]) ∧ w.heap.size ≤ b ∧ Given 203 20 10 (fun zz => rwc (L.getD zz Rw.z)) b cp w') hX (B.trans A2) (fun i e he => nil_no he) rfl rfl rfl rfl ⟨z.1, b, cp, (by show SV.sla _ z.1.length cp = _; rw [e]), ⟨(by have h2 := hJ.tm; rw [e5] at h2; exact h2), (RowsIn.ok _ _ _ _ hJ.rw A.mix fun b2 hb => by have : b2 = b := (by simpa using hb); rw [this]; exact ho)⟩, lo_of B (fun i e he => nil_no he) ho, (by rw [← e]; exact hG)⟩))
end Go.Proofs.YtbbdanhpphlbpaaGreatDoor.Ar
namespace Go.Proofs.YtbbdanhpphlbpaaGreatDoor.Ar
open Go.RowKit
set_option linter.unusedVariables false
set_option linter.unusedSimpArgs false
set_option maxRecDepth 100000
set_option maxHeartbeats 2000000
set_option simprocs false
abbrev sz : List UInt8 × Bool × Bool := ([], false, false)
def sfc (x : List UInt8 × Bool × Bool) : List SV := [.str x.1, .bool x.2.1, .bool x.2.2]
theorem tyS : (∀ x, (sfc x).length = 3) ∧ (∀ x, inL 0 (sfc x) = true) ∧ (∀ x, ∃ vs, denL [] (sfc x) = some vs) := ⟨fun _ => rfl, fun _ => rfl, fun _ => ⟨_, rfl⟩⟩
def a2 : List (List UInt8 × Int) := [([83, 87, 80], 6), ([76, 68, 65, 68, 68], 1)]
def s4 : List (List UInt8 × Bool × Bool) := [([], false, false), ([65], true, false), ([76], false, true), ([65, 76], true, true)]
theorem a2_len : ∀ k, (a2.getD k nz).1.length ≤ 100
 | 0 => by decide
 | 1 => by decide
 | k + 2 => by simp [a2, List.getD]
theorem s4_len : ∀ k, (s4.getD k sz).1.length ≤ 100
 | 0 => by decide
 | 1 => by decide
 | 2 => by decide
 | 3 => by decide
 | k + 4 => by simp [s4, List.getD]
def insA (x : List UInt8 × Int) (y : List UInt8 × Bool × Bool) : In := ⟨6, 0, 0, 0, 0, 0, 0, 0, 0, x.2, y.2.1, false, y.2.2, 0, 0, 0, false⟩
abbrev aa1 (x : List UInt8 × Int) (y : List UInt8 × Bool × Bool) (b1 : Nat) : Rw := ⟨(x.1 ++ y.1) ++ [42], [], insA x y, some ⟨b1, 0, none⟩, [2, 1, 6], 3⟩
def aatom : List (List UInt8 × List UInt8 × In × List Int) := a2.flatMap fun x => s4.map fun y => ((x.1 ++ y.1) ++ [42], [], insA x y, [2, 1, 6])
structure AA (lo n : Nat) (L : List Rw) (w : World) (ks : List Nat) : Prop where
 tm : L.map tm = aatom.take n
 rw : RowsIn lo L w ks
theorem AA.len {lo n : Nat} {L : List Rw} {w : World} {ks : List Nat} (h : AA lo n L w ks) : L.length ≤ 8 ∧ (n ≤ 8 → L.length = n) := by
 have h1 := congrArg List.length h.tm
 rw [List.length_map, List.length_take] at h1
 have h2 : aatom.length = 8 := by decide
 omega
theorem AA.nx {lo b1 k j : Nat} {L : List Rw} {w w1 : World} {ks ks1 : List Nat} (h : AA lo (4 * k + j) L w ks) (hk : k < 2) (hj : j < 4) (hr : RowsIn lo L w1 ks1) (hA : Acc lo [(b1, [.int .i64 2, .int .i64 1, .int .i64 6])] w1 ks1) : AA lo (4 * k + (j + 1)) (L ++ [aa1 (a2.getD ((k : Int)).toNat nz) (s4.getD ((j : Int)).toNat sz) b1]) w1 ks1 := by
 refine ⟨?_, fun r hr' => ?_⟩
 ·rw [List.map_append, h.tm, Int.toNat_natCast, Int.toNat_natCast]
  have q1 : k = 0 ∨ k = 1 := by omega
  have q2 : j = 0 ∨ j = 1 ∨ j = 2 ∨ j = 3 := by omega
  rcases q1 with e | e <;> rcases q2 with e2 | e2 | e2 | e2 <;> rw [e, e2] <;> rfl
 ·rcases List.mem_append.1 hr' with h1 | h1
  ·exact hr r h1
  ·simp only [List.mem_cons, List.mem_nil_iff, or_false] at h1
   subst h1
   exact lies_of (cs := []) [2, 1, 6] hA List.mem_cons_self
theorem aatom_ : FnR Tryz.prog 199 [] [] (fun x w w' => ∃ (L : List Rw) (b cp : Nat), x = .sla (some ⟨b, 0, none⟩) 8 cp ∧ (L.map tm = aatom ∧ RowsIn w.heap.size L w' [b]) ∧ w.heap.size ≤ b ∧ Given 203 20 8 (fun zz => rwc (L.getD zz Rw.z)) b cp w') :=
 enterR (n := 51) (by kernel_rfl) Tryz.func199 rfl rfl rfl fun G w a h0 A => N9 10 A rfl rfl fun A => have A := A.asT nz nfc 2 tyN.1 tyN.2.1 tyN.2.2 a2 0 rfl; N9 6 A rfl rfl fun A => have A := sy_sayD A 12 (.agg [.str [], .bool false, .bool false]) rfl (fun _ => rfl); N9 1 A rfl rfl fun A => have A := sy_sayD A 13 (.agg [.str [65], .bool true, .bool false]) rfl (fun _ => rfl); N9 1 A rfl rfl fun A => have A := sy_sayD A 14 (.agg [.str [76], .bool false, .bool true]) rfl (fun _ => rfl); N9 1 A rfl rfl fun A => have A := sy_sayD A 15 (.agg [.str [65, 76], .bool true, .bool true]) rfl (fun _ => rfl); N9 1 A rfl rfl fun A => have A := A.asT sz sfc 3 tyS.1 tyS.2.1 tyS.2.2 s4 1 rfl; N9 17 A rfl rfl fun A => have A := A.nilRow 3 203 20 (fun zz => rwc (([] : List Rw).getD zz Rw.z)) rfl (fun z => ⟨_, rfl, rfl⟩); LOOPJ (fun (z : List Rw × Nat) => [(0, .sla none 0 0), (2, .sl 1 4 4), (3, .sl 2 z.1.length 0), (17, .sl 0 2 2), (18, .int .i64 ((2 : Nat) : Int)), (19, .int .i64 (z.2 : Int))]) (fun (z : List Rw × Nat) => [some (.lst 2 2 (fun zz => nfc (a2.getD zz nz))), some (.lst 3 4 (fun zz => sfc (s4.getD zz sz))), some (.row 203 20 z.1.length 0 (fun zz => rwc (z.1.getD zz Rw.z)))]) (fun z w1 ks1 => z.2 ≤ 2 ∧ AA w.heap.size (4 * z.2) z.1 w1 ks1) (fun z => 2 - z.2) ([], 0) (A.cut [0, 2, 3, 17, 18, 19] rfl) ⟨by decide, ⟨rfl, fun r hr => by cases hr⟩⟩ fun z G1 a1 w1 hJ hg A B => have hz2 := hJ.1; have hR := hJ.2.rw;
 N9 6 A rfl rfl fun A => forkD 20 A rfl
   (fun h1 A => N9 14 A rfl (ok_d (by omega) <| ok_d (by omega) <| okE_nil) fun A => N9 7 A rfl rfl fun A => have hR := RowsIn.ok _ _ _ _ hR A.mix A.keys_own; LOOPJ (fun (y : List Rw × Nat) => [(0, .sla none 0 0), (2, .sl 1 4 4), (3, .sl 2 y.1.length 0), (5, .ptr 3 0), (17, .sl 0 2 2), (18, .int .i64 ((2 : Nat) : Int)), (19, .int .i64 (z.2 : Int)), (23, .sl 1 4 4), (24, .int .i64 ((4 : Nat) : Int)), (25, .int .i64 (y.2 : Int))]) (fun (y : List Rw × Nat) => [some (.lst 2 2 (fun zz => nfc (a2.getD zz nz))), some (.lst 3 4 (fun zz => sfc (s4.getD zz sz))), some (.row 203 20 y.1.length 0 (fun zz => rwc (y.1.getD zz Rw.z))), some (.blk [.str ((a2.getD (((z.2 : Int)).toNat) nz).1), .int .i64 ((a2.getD (((z.2 : Int)).toNat) nz).2)])]) (fun y w1 ks1 => y.2 ≤ 4 ∧ AA w.heap.size (4 * z.2 + y.2) y.1 w1 ks1) (fun y => 4 - y.2) (z.1, 0) ((B.trans A).cut [0, 2, 3, 5, 17, 18, 19, 23, 24, 25] rfl) ⟨Nat.zero_le 4, ⟨hJ.2.tm, hR⟩⟩ fun y G1 a1 w1 hJ hg A B => have hA : Acc w.heap.size [] w1 _ := Acc.nil; have hR := hJ.2.rw;
 N9 6 A rfl rfl fun A => forkD 26 A rfl
     (fun h2 A => N9 14 A rfl (ok_d (by omega) <| ok_d (by omega) <| okE_nil) fun A => N9 8 A rfl rfl fun A => have A := sy_sayD A 35 (.agg [.int .i64 6, .z9, .z9, .z9, .z9, .z9, .z9, .z9, .z9, .int .i64 ((a2.getD (((z.2 : Int)).toNat) nz).2), .bool ((s4.getD (((y.2 : Int)).toNat) sz).2.1), .bool false, .bool ((s4.getD (((y.2 : Int)).toNat) sz).2.2), .z9, .z9, .z9, .bool false]) rfl (fun _ => rfl); N9 13 A rfl (ok_d (by have q := a2_len ((z.2 : Int)).toNat; have q2 := s4_len ((y.2 : Int)).toNat; (try simp only [List.length_append, List.length_cons, List.length_nil]); omega) <| ok_d (by have q := a2_len ((z.2 : Int)).toNat; have q2 := s4_len ((y.2 : Int)).toNat; (try simp only [List.length_append, List.length_cons, List.length_nil]); omega) <| okE_nil) fun A => BSCI [.int .i64 2, .int .i64 1, .int .i64 6] (X := ⟨_, true⟩) hX RowsIn.ok B hA hR A rfl rfl rfl rfl fun b1 B hA hR A =>
 N9 2 A rfl rfl fun A => have A := A.asT Rw.z rwc 20 tyR.1 tyR.2.1 tyR.2.2 [aa1 (a2.getD (((z.2 : Int)).toNat) nz) (s4.getD (((y.2 : Int)).toNat) sz) b1] 6 rfl; q_eff A rfl (aplE hX ((y.1 ++ [aa1 (a2.getD (((z.2 : Int)).toNat) nz) (s4.getD (((y.2 : Int)).toNat) sz) b1]).length) (fun zz => rwc ((y.1 ++ [aa1 (a2.getD (((z.2 : Int)).toNat) nz) (s4.getD (((y.2 : Int)).toNat) sz) b1]).getD zz Rw.z)) rfl rfl rfl rfl (Nat.le_refl _) (by have := hJ.2.len; have := hJ.1; omega) (by decide) List.length_append (fun k hk => by show rwc _ = rwc _; rw [getD_app_l hk]) (fun k hk => by show rwc _ = rwc _; rw [getD_app_r]) (fun z => ⟨_, rfl, rfl⟩) (fun k hk => ⟨_, rfl, okE_nil⟩)) fun A =>
 N9 8 A rfl (ok_d (by omega) <| okE_nil) fun A => ⟨(y.1 ++ [aa1 (a2.getD (((z.2 : Int)).toNat) nz) (s4.getD (((y.2 : Int)).toNat) sz) b1], y.2 + 1), _, (by have := h2; show _ - _ < _ - _; omega), ⟨by have := h2; show y.2 + 1 ≤ 4; omega, hJ.2.nx (by omega) (by omega) (RowsIn.ok _ _ _ _ hR A.mix fun b hb => A.keys_own b ((keys_pick (H := [some (.lst 2 2 (fun zz => nfc (a2.getD zz nz))), some (.lst 3 4 (fun zz => sfc (s4.getD zz sz))), none, some (.blk [.str ((a2.getD (((z.2 : Int)).toNat) nz).1), .int .i64 ((a2.getD (((z.2 : Int)).toNat) nz).2)]), some (.blk [.str ((s4.getD (((y.2 : Int)).toNat) sz).1), .bool ((s4.getD (((y.2 : Int)).toNat) sz).2.1), .bool ((s4.getD (((y.2 : Int)).toNat) sz).2.2)]), some (.blk [.int .i64 6, .z9, .z9, .z9, .z9, .z9, .z9, .z9, .z9, .int .i64 ((a2.getD (((z.2 : Int)).toNat) nz).2), .bool ((s4.getD (((y.2 : Int)).toNat) sz).2.1), .bool false, .bool ((s4.getD (((y.2 : Int)).toNat) sz).2.2), .z9, .z9, .z9, .bool false]), some (.lst 20 ([aa1 (a2.getD (((z.2 : Int)).toNat) nz) (s4.getD (((y.2 : Int)).toNat) sz) b1].length) (fun zz => rwc ([aa1 (a2.getD (((z.2 : Int)).toNat) nz) (s4.getD (((y.2 : Int)).toNat) sz) b1].getD zz Rw.z))), some (.row 203 20 ((y.1 ++ [aa1 (a2.getD (((z.2 : Int)).toNat) nz) (s4.getD (((y.2 : Int)).toNat) sz) b1]).length) 0 (fun zz => rwc ((y.1 ++ [aa1 (a2.getD (((z.2 : Int)).toNat) nz) (s4.getD (((y.2 : Int)).toNat) sz) b1]).getD zz Rw.z)))]) (m := [0, 1, 7, 3]) A.mem.len rfl rfl) b hb)) (hA.go A.mix fun b hb => A.keys_own b ((keys_pick (H := [some (.lst 2 2 (fun zz => nfc (a2.getD zz nz))), some (.lst 3 4 (fun zz => sfc (s4.getD zz sz))), none, some (.blk [.str ((a2.getD (((z.2 : Int)).toNat) nz).1), .int .i64 ((a2.getD (((z.2 : Int)).toNat) nz).2)]), some (.blk [.str ((s4.getD (((y.2 : Int)).toNat) sz).1), .bool ((s4.getD (((y.2 : Int)).toNat) sz).2.1), .bool ((s4.getD (((y.2 : Int)).toNat) sz).2.2)]), some (.blk [.int .i64 6, .z9, .z9, .z9, .z9, .z9, .z9, .z9, .z9, .int .i64 ((a2.getD (((z.2 : Int)).toNat) nz).2), .bool ((s4.getD (((y.2 : Int)).toNat) sz).2.1), .bool false, .bool ((s4.getD (((y.2 : Int)).toNat) sz).2.2), .z9, .z9, .z9, .bool false]), some (.lst 20 ([aa1 (a2.getD (((z.2 : Int)).toNat) nz) (s4.getD (((y.2 : Int)).toNat) sz) b1].length) (fun zz => rwc ([aa1 (a2.getD (((z.2 : Int)).toNat) nz) (s4.getD (((y.2 : Int)).toNat) sz) b1].getD zz Rw.z))), some (.row 203 20 ((y.1 ++ [aa1 (a2.getD (((z.2 : Int)).toNat) nz) (s4.getD (((y.2 : Int)).toNat) sz) b1]).length) 0 (fun zz => rwc ((y.1 ++ [aa1 (a2.getD (((z.2 : Int)).toNat) nz) (s4.getD (((y.2 : Int)).toNat) sz) b1]).getD zz Rw.z)))]) (m := [0, 1, 7, 3]) A.mem.len rfl rfl) b hb))⟩, ((B.trans A).cut [0, 2, 3, 5, 17, 18, 19, 23, 24, 25] rfl).mv 0 [0, 1, 7, 3] rfl rfl rfl rfl (by simp only [List.length_nil] at h0; omega)⟩)
     (fun h2 A => N9 8 A rfl (ok_d (by omega) <| okE_nil) fun A => ⟨(y.1, z.2 + 1), _, (by have := h1; show _ - _ < _ - _; omega), ⟨by have := h1; show z.2 + 1 ≤ 2; omega, ⟨(by have q := hJ.2.tm; have q1 := hJ.1; rw [show 4 * z.2 + y.2 = 4 * (z.2 + 1) by omega] at q; exact q), RowsIn.ok _ _ _ _ hJ.2.rw A.mix fun b hb => A.keys_own b ((keys_pick (H := [some (.lst 2 2 (fun zz => nfc (a2.getD zz nz))), some (.lst 3 4 (fun zz => sfc (s4.getD zz sz))), some (.row 203 20 y.1.length 0 (fun zz => rwc (y.1.getD zz Rw.z))), some (.blk [.str ((a2.getD (((z.2 : Int)).toNat) nz).1), .int .i64 ((a2.getD (((z.2 : Int)).toNat) nz).2)])]) (m := [0, 1, 2]) A.mem.len rfl rfl) b hb)⟩⟩, ((B.trans A).cut [0, 2, 3, 17, 18, 19] rfl).mv 0 [0, 1, 2] rfl rfl rfl rfl (by simp only [List.length_nil] at h0; omega)⟩))
   (fun h1 A => N9 10 A rfl rfl fun A => (have e5 : z.2 = 2 := (by have := hJ.1; omega); have e : z.1.length = 8 := (by have := hJ.2.len; omega); match A.giveRow 2 0 (by omega) rfl rfl rfl with | ⟨b, cp, A2, hG, ho, hk⟩ => RETR (J := fun x w w' => ∃ (L : List Rw) (b cp : Nat), x = .sla (some ⟨b, 0, none⟩) 8 cp ∧ (L.map tm = aatom ∧ RowsIn w.heap.size L w' [b]) ∧ w.heap.size ≤ b ∧ Given 203 20 8 (fun zz => rwc (L.getD zz Rw.z)) b cp w') hX (B.trans A2) (fun i e he => nil_no he) rfl rfl rfl rfl ⟨z.1, b, cp, (by show SV.sla _ z.1.length cp = _; rw [e]), ⟨(by have h2 := hJ.2.tm; rw [e5] at h2; exact h2), (RowsIn.ok _ _ _ _ hJ.2.rw A.mix fun b2 hb => by have : b2 = b := (by simpa using hb); rw [this]; exact ho)⟩, lo_of B (fun i e he => nil_no he) ho, (by rw [← e]; exact hG)⟩))
end Go.Proofs.YtbbdanhpphlbpaaGreatDoor.Ar
namespace Go.Proofs.YtbbdanhpphlbpaaGreatDoor.Ar
open Go.RowKit
set_option linter.unusedVariables false
set_option linter.unusedSimpArgs false
set_option maxRecDepth 100000
set_option maxHeartbeats 2000000
set_option simprocs false
abbrev fz : List UInt8 × Int × Int := ([], 0, 0)
def ffc (x : List UInt8 × Int × Int) : List SV := [.str x.1, .int .i64 x.2.1, .int .i64 x.2.2]
theorem tyF : (∀ x, (ffc x).length = 3) ∧ (∀ x, inL 0 (ffc x) = true) ∧ (∀ x, ∃ vs, denL [] (ffc x) = some vs) := ⟨fun _ => rfl, fun _ => rfl, fun _ => ⟨_, rfl⟩⟩
def f3 : List (List UInt8 × Int × Int) := [([83, 89], 3, 3), ([76, 68], 1, 3), ([83, 84], 2, 2)]
def insN (x : List UInt8 × Int × Int) : In := ⟨7, 0, 0, 0, 0, 0, 0, 0, 0, 0, false, false, false, x.2.1, x.2.2, 0, false⟩
abbrev fr1 (x : List UInt8 × Int × Int) (b1 : Nat) : Rw := ⟨[68, 77, 66], x.1, insN x, some ⟨b1, 0, none⟩, [10], 1⟩
def afen : List (List UInt8 × List UInt8 × In × List Int) := f3.map fun x => ([68, 77, 66], x.1, insN x, [10])
structure AF (lo : Nat) (z : List Rw × Nat) (w : World) (ks : List Nat) : Prop where
 le : z.2 ≤ 3
 tm : z.1.map tm = afen.take z.2
 rw : RowsIn lo z.1 w ks
theorem AF.len {lo : Nat} {z : List Rw × Nat} {w : World} {ks : List Nat} (h : AF lo z w ks) : z.1.length = z.2 := by
 have h1 := congrArg List.length h.tm
 rw [List.length_map, List.length_take] at h1
 have h2 : afen.length = 3 := by decide
 have := h.le
 omega
theorem AF.nx {lo b1 : Nat} {z : List Rw × Nat} {w w1 : World} {ks ks1 : List Nat} {l : List (Nat × List SV)} (h : AF lo z w ks) (hk : (z.2 : Int) < 3) (hr : RowsIn lo z.1 w1 ks1) (hA : Acc lo [(b1, [.int .i64 10])] w1 ks1) : AF lo (z.1 ++ [fr1 (f3.getD ((z.2 : Int)).toNat fz) b1], z.2 + 1) w1 ks1 := by
 refine ⟨by have := h.le; show z.2 + 1 ≤ 3; omega, ?_, fun r hr' => ?_⟩
 ·show List.map _ (z.1 ++ _) = _
  rw [List.map_append, h.tm, Int.toNat_natCast]
  have : z.2 = 0 ∨ z.2 = 1 ∨ z.2 = 2 := by omega
  rcases this with e | e | e <;> rw [e] <;> rfl
 ·rcases List.mem_append.1 hr' with h1 | h1
  ·exact hr r h1
  ·simp only [List.mem_cons, List.mem_nil_iff, or_false] at h1
   subst h1
   exact lies_of (cs := []) [10] hA List.mem_cons_self
theorem afen_ : FnR Tryz.prog 200 [] [] (fun x w w' => ∃ (L : List Rw) (b cp : Nat), x = .sla (some ⟨b, 0, none⟩) 3 cp ∧ (L.map tm = afen ∧ RowsIn w.heap.size L w' [b]) ∧ w.heap.size ≤ b ∧ Given 203 20 3 (fun zz => rwc (L.getD zz Rw.z)) b cp w') :=
 enterR (n := 31) (by kernel_rfl) Tryz.func200 rfl rfl rfl fun G w a h0 A => N9 11 A rfl rfl fun A => have A := A.asT fz ffc 3 tyF.1 tyF.2.1 tyF.2.2 f3 0 rfl; N9 17 A rfl rfl fun A => have A := A.nilRow 2 203 20 (fun zz => rwc (([] : List Rw).getD zz Rw.z)) rfl (fun z => ⟨_, rfl, rfl⟩); LOOPJ (fun (z : List Rw × Nat) => [(0, .sla none 0 0), (2, .sl 1 z.1.length 0), (10, .sl 0 3 3), (11, .int .i64 ((3 : Nat) : Int)), (12, .int .i64 (z.2 : Int))]) (fun (z : List Rw × Nat) => [some (.lst 3 3 (fun zz => ffc (f3.getD zz fz))), some (.row 203 20 z.1.length 0 (fun zz => rwc (z.1.getD zz Rw.z)))]) (fun z w1 ks1 => AF w.heap.size z w1 ks1) (fun z => 3 - z.2) ([], 0) (A.cut [0, 2, 10, 11, 12] rfl) ⟨by decide, rfl, fun r hr => by cases hr⟩ fun z G1 a1 w1 hJ hg A B => have hA : Acc w.heap.size [] w1 _ := Acc.nil; have hR := hJ.rw;
 N9 6 A rfl rfl fun A => forkD 13 A rfl
   (fun h1 A => N9 14 A rfl (ok_d (by omega) <| ok_d (by omega) <| okE_nil) fun A => N9 6 A rfl rfl fun A => have A := sy_sayD A 20 (.agg [.int .i64 7, .z9, .z9, .z9, .z9, .z9, .z9, .z9, .z9, .z9, .bool false, .bool false, .bool false, .int .i64 ((f3.getD (((z.2 : Int)).toNat) fz).2.1), .int .i64 ((f3.getD (((z.2 : Int)).toNat) fz).2.2), .z9, .bool false]) rfl (fun _ => rfl); N9 9 A rfl rfl fun A => BSCI [.int .i64 10] (X := ⟨_, true⟩) hX RowsIn.ok B hA hR A rfl rfl rfl rfl fun b1 B hA hR A =>
 N9 2 A rfl rfl fun A => have A := A.asT Rw.z rwc 20 tyR.1 tyR.2.1 tyR.2.2 [fr1 (f3.getD (((z.2 : Int)).toNat) fz) b1] 4 rfl; q_eff A rfl (aplE hX ((z.1 ++ [fr1 (f3.getD (((z.2 : Int)).toNat) fz) b1]).length) (fun zz => rwc ((z.1 ++ [fr1 (f3.getD (((z.2 : Int)).toNat) fz) b1]).getD zz Rw.z)) rfl rfl rfl rfl (Nat.le_refl _) (by have := hJ.len; have := hJ.le; omega) (by decide) List.length_append (fun k hk => by show rwc _ = rwc _; rw [getD_app_l hk]) (fun k hk => by show rwc _ = rwc _; rw [getD_app_r]) (fun z => ⟨_, rfl, rfl⟩) (fun k hk => ⟨_, rfl, okE_nil⟩)) fun A =>
 N9 8 A rfl (ok_d (by omega) <| okE_nil) fun A => ⟨(z.1 ++ [fr1 (f3.getD (((z.2 : Int)).toNat) fz) b1], z.2 + 1), _, (by have := h1; show _ - _ < _ - _; omega), (hJ.nx (l := []) h1 (RowsIn.ok _ _ _ _ hR A.mix fun b hb => A.keys_own b ((keys_pick (H := [some (.lst 3 3 (fun zz => ffc (f3.getD zz fz))), none, some (.blk [.str ((f3.getD (((z.2 : Int)).toNat) fz).1), .int .i64 ((f3.getD (((z.2 : Int)).toNat) fz).2.1), .int .i64 ((f3.getD (((z.2 : Int)).toNat) fz).2.2)]), some (.blk [.int .i64 7, .z9, .z9, .z9, .z9, .z9, .z9, .z9, .z9, .z9, .bool false, .bool false, .bool false, .int .i64 ((f3.getD (((z.2 : Int)).toNat) fz).2.1), .int .i64 ((f3.getD (((z.2 : Int)).toNat) fz).2.2), .z9, .bool false]), some (.lst 20 ([fr1 (f3.getD (((z.2 : Int)).toNat) fz) b1].length) (fun zz => rwc ([fr1 (f3.getD (((z.2 : Int)).toNat) fz) b1].getD zz Rw.z))), some (.row 203 20 ((z.1 ++ [fr1 (f3.getD (((z.2 : Int)).toNat) fz) b1]).length) 0 (fun zz => rwc ((z.1 ++ [fr1 (f3.getD (((z.2 : Int)).toNat) fz) b1]).getD zz Rw.z)))]) (m := [0, 5]) A.mem.len rfl rfl) b hb)) (hA.go A.mix fun b hb => A.keys_own b ((keys_pick (H := [some (.lst 3 3 (fun zz => ffc (f3.getD zz fz))), none, some (.blk [.str ((f3.getD (((z.2 : Int)).toNat) fz).1), .int .i64 ((f3.getD (((z.2 : Int)).toNat) fz).2.1), .int .i64 ((f3.getD (((z.2 : Int)).toNat) fz).2.2)]), some (.blk [.int .i64 7, .z9, .z9, .z9, .z9, .z9, .z9, .z9, .z9, .z9, .bool false, .bool false, .bool false, .int .i64 ((f3.getD (((z.2 : Int)).toNat) fz).2.1), .int .i64 ((f3.getD (((z.2 : Int)).toNat) fz).2.2), .z9, .bool false]), some (.lst 20 ([fr1 (f3.getD (((z.2 : Int)).toNat) fz) b1].length) (fun zz => rwc ([fr1 (f3.getD (((z.2 : Int)).toNat) fz) b1].getD zz Rw.z))), some (.row 203 20 ((z.1 ++ [fr1 (f3.getD (((z.2 : Int)).toNat) fz) b1]).length) 0 (fun zz => rwc ((z.1 ++ [fr1 (f3.getD (((z.2 : Int)).toNat) fz) b1]).getD zz Rw.z)))]) (m := [0, 5]) A.mem.len rfl rfl) b hb))), ((B.trans A).cut [0, 2, 10, 11, 12] rfl).mv 0 [0, 5] rfl rfl rfl rfl (by simp only [List.length_nil] at h0; omega)⟩)
   (fun h1 A => N9 10 A rfl rfl fun A => (have e5 : z.2 = 3 := (by have := hJ.le; omega); have e : z.1.length = 3 := (by have := hJ.len; omega); match A.giveRow 1 0 (by omega) rfl rfl rfl with | ⟨b, cp, A2, hG, ho, hk⟩ => RETR (J := fun x w w' => ∃ (L : List Rw) (b cp : Nat), x = .sla (some ⟨b, 0, none⟩) 3 cp ∧ (L.map tm = afen ∧ RowsIn w.heap.size L w' [b]) ∧ w.heap.size ≤ b ∧ Given 203 20 3 (fun zz => rwc (L.getD zz Rw.z)) b cp w') hX (B.trans A2) (fun i e he => nil_no he) rfl rfl rfl rfl ⟨z.1, b, cp, (by show SV.sla _ z.1.length cp = _; rw [e]), ⟨(by have h2 := hJ.tm; rw [e5] at h2; exact h2), (RowsIn.ok _ _ _ _ hJ.rw A.mix fun b2 hb => by have : b2 = b := (by simpa using hb); rw [this]; exact ho)⟩, lo_of B (fun i e he => nil_no he) ho, (by rw [← e]; exact hG)⟩))
end Go.Proofs.YtbbdanhpphlbpaaGreatDoor.Ar
namespace Go.Proofs.YtbbdanhpphlbpaaGreatDoor.Ar
open Go.RowKit
set_option linter.unusedVariables false
set_option linter.unusedSimpArgs false
set_option maxRecDepth 100000
set_option maxHeartbeats 2000000
set_option simprocs false
abbrev aaccL (b1 b2 b3 : Nat) : List (Nat × List SV) := [(b3, [.str [76, 68, 82, 42], .str [], .int .i64 4, .z9, .z9, .z9, .z9, .z9, .z9, .z9, .z9, .z9, .ff, .ff, .ff, .z9, .z9, .z9, .ff, .sla (some ⟨b1, 0, none⟩) 2 2, .str [76, 68, 65, 82, 42], .str [], .int .i64 4, .z9, .z9, .z9, .z9, .z9, .z9, .z9, .z9, .z9, .tt, .ff, .ff, .z9, .z9, .z9, .ff, .sla (some ⟨b1, 0, none⟩) 2 2, .str [76, 68, 65, 80, 82, 42], .str [], .int .i64 4, .z9, .z9, .z9, .z9, .z9, .z9, .z9, .z9, .z9, .ff, .tt, .ff, .z9, .z9, .z9, .ff, .sla (some ⟨b1, 0, none⟩) 2 2, .str [83, 84, 82, 42], .str [], .int .i64 5, .z9, .z9, .z9, .z9, .z9, .z9, .z9, .z9, .z9, .ff, .ff, .ff, .z9, .z9, .z9, .ff, .sla (some ⟨b2, 0, none⟩) 2 2, .str [83, 84, 76, 82, 42], .str [], .int .i64 5, .z9, .z9, .z9, .z9, .z9, .z9, .z9, .z9, .z9, .ff, .ff, .tt, .z9, .z9, .z9, .ff, .sla (some ⟨b2, 0, none⟩) 2 2]), (b2, [.int .i64 2, .int .i64 6]), (b1, [.int .i64 1, .int .i64 6])]
theorem aacc_ : FnR Tryz.prog 198 [] [] (fun x w w' => ∃ b1 b2 b3 : Nat, x = .sla (some ⟨b3, 0, none⟩) 5 5 ∧ Acc w.heap.size (aaccL b1 b2 b3) w' []) :=
 enterR (n := 21) (by kernel_rfl) Tryz.func198 rfl rfl rfl fun G w a h0 A => have B := A; have hA : Acc w.heap.size [] w _ := Acc.nil; N9 7 A rfl rfl fun A => BSCA [.int .i64 1, .int .i64 6] (X := ⟨_, true⟩) hX B hA A rfl rfl rfl rfl fun b1 B hA A =>
 BSCA [.int .i64 2, .int .i64 6] (X := ⟨_, true⟩) hX B hA A rfl rfl rfl rfl fun b2 B hA A =>
 N9 21 A rfl rfl fun A => BSCA [.str [76, 68, 82, 42], .str [], .int .i64 4, .z9, .z9, .z9, .z9, .z9, .z9, .z9, .z9, .z9, .ff, .ff, .ff, .z9, .z9, .z9, .ff, .sla (some ⟨b1, 0, none⟩) 2 2, .str [76, 68, 65, 82, 42], .str [], .int .i64 4, .z9, .z9, .z9, .z9, .z9, .z9, .z9, .z9, .z9, .tt, .ff, .ff, .z9, .z9, .z9, .ff, .sla (some ⟨b1, 0, none⟩) 2 2, .str [76, 68, 65, 80, 82, 42], .str [], .int .i64 4, .z9, .z9, .z9, .z9, .z9, .z9, .z9, .z9, .z9, .ff, .tt, .ff, .z9, .z9, .z9, .ff, .sla (some ⟨b1, 0, none⟩) 2 2, .str [83, 84, 82, 42], .str [], .int .i64 5, .z9, .z9, .z9, .z9, .z9, .z9, .z9, .z9, .z9, .ff, .ff, .ff, .z9, .z9, .z9, .ff, .sla (some ⟨b2, 0, none⟩) 2 2, .str [83, 84, 76, 82, 42], .str [], .int .i64 5, .z9, .z9, .z9, .z9, .z9, .z9, .z9, .z9, .z9, .ff, .ff, .tt, .z9, .z9, .z9, .ff, .sla (some ⟨b2, 0, none⟩) 2 2] (X := ⟨_, true⟩) hX B hA A rfl rfl rfl rfl fun b3 B hA A =>
 N9 4 A rfl rfl fun A => RETR (J := fun x w w' => ∃ b1 b2 b3 : Nat, x = .sla (some ⟨b3, 0, none⟩) 5 5 ∧ Acc w.heap.size (aaccL b1 b2 b3) w' []) hX (B.trans A) (fun i e he => nil_no he) rfl rfl rfl rfl ⟨b1, b2, b3, rfl, (hA.now A).bare⟩
abbrev aothL (b1 b2 b3 b4 b5 : Nat) : List (Nat × List SV) := [(b5, [.str [77, 79, 86], .str [], .int .i64 1, .z9, .z9, .z9, .z9, .z9, .z9, .z9, .z9, .z9, .ff, .ff, .ff, .z9, .z9, .z9, .ff, .sla (some ⟨b1, 0, none⟩) 2 2, .str [77, 79, 86], .str [], .int .i64 2, .z9, .z9, .z9, .z9, .z9, .z9, .z9, .z9, .z9, .ff, .ff, .ff, .z9, .z9, .z9, .ff, .sla (some ⟨b2, 0, none⟩) 2 2, .str [73, 83, 66], .str [], .int .i64 8, .z9, .z9, .z9, .z9, .z9, .z9, .z9, .z9, .z9, .ff, .ff, .ff, .z9, .z9, .z9, .ff, .sla none 0 0, .str [67, 66, 90], .str [], .int .i64 9, .z9, .z9, .z9, .z9, .z9, .z9, .z9, .z9, .z9, .ff, .ff, .ff, .z9, .z9, .z9, .tt, .sla (some ⟨b3, 0, none⟩) 2 2, .str [67, 66, 78, 90], .str [], .int .i64 9, .z9, .z9, .z9, .z9, .z9, .z9, .z9, .z9, .z9, .ff, .ff, .ff, .z9, .z9, .z9, .ff, .sla (some ⟨b4, 0, none⟩) 2 2]), (b4, [.int .i64 2, .int .i64 7]), (b3, [.int .i64 2, .int .i64 7]), (b2, [.int .i64 1, .int .i64 2]), (b1, [.int .i64 1, .int .i64 5])]
theorem aoth_ : FnR Tryz.prog 201 [] [] (fun x w w' => ∃ b1 b2 b3 b4 b5 : Nat, x = .sla (some ⟨b5, 0, none⟩) 5 5 ∧ Acc w.heap.size (aothL b1 b2 b3 b4 b5) w' []) :=
 enterR (n := 16) (by kernel_rfl) Tryz.func201 rfl rfl rfl fun G w a h0 A => have B := A; have hA : Acc w.heap.size [] w _ := Acc.nil; N9 8 A rfl rfl fun A => BSCA [.int .i64 1, .int .i64 5] (X := ⟨_, true⟩) hX B hA A rfl rfl rfl rfl fun b1 B hA A =>
 N9 2 A rfl rfl fun A => BSCA [.int .i64 1, .int .i64 2] (X := ⟨_, true⟩) hX B hA A rfl rfl rfl rfl fun b2 B hA A =>
 N9 4 A rfl rfl fun A => BSCA [.int .i64 2, .int .i64 7] (X := ⟨_, true⟩) hX B hA A rfl rfl rfl rfl fun b3 B hA A =>
 N9 2 A rfl rfl fun A => BSCA [.int .i64 2, .int .i64 7] (X := ⟨_, true⟩) hX B hA A rfl rfl rfl rfl fun b4 B hA A =>
 N9 1 A rfl rfl fun A => BSCA [.str [77, 79, 86], .str [], .int .i64 1, .z9, .z9, .z9, .z9, .z9, .z9, .z9, .z9, .z9, .ff, .ff, .ff, .z9, .z9, .z9, .ff, .sla (some ⟨b1, 0, none⟩) 2 2, .str [77, 79, 86], .str [], .int .i64 2, .z9, .z9, .z9, .z9, .z9, .z9, .z9, .z9, .z9, .ff, .ff, .ff, .z9, .z9, .z9, .ff, .sla (some ⟨b2, 0, none⟩) 2 2, .str [73, 83, 66], .str [], .int .i64 8, .z9, .z9, .z9, .z9, .z9, .z9, .z9, .z9, .z9, .ff, .ff, .ff, .z9, .z9, .z9, .ff, .sla none 0 0, .str [67, 66, 90], .str [], .int .i64 9, .z9, .z9, .z9, .z9, .z9, .z9, .z9, .z9, .z9, .ff, .ff, .ff, .z9, .z9, .z9, .tt, .sla (some ⟨b3, 0, none⟩) 2 2, .str [67, 66, 78, 90], .str [], .int .i64 9, .z9, .z9, .z9, .z9, .z9, .z9, .z9, .z9, .z9, .ff, .ff, .ff, .z9, .z9, .z9, .ff, .sla (some ⟨b4, 0, none⟩) 2 2] (X := ⟨_, true⟩) hX B hA A rfl rfl rfl rfl fun b5 B hA A =>
 N9 4 A rfl rfl fun A => RETR (J := fun x w w' => ∃ b1 b2 b3 b4 b5 : Nat, x = .sla (some ⟨b5, 0, none⟩) 5 5 ∧ Acc w.heap.size (aothL b1 b2 b3 b4 b5) w' []) hX (B.trans A) (fun i e he => nil_no he) rfl rfl rfl rfl ⟨b1, b2, b3, b4, b5, rfl, (hA.now A).bare⟩
end Go.Proofs.YtbbdanhpphlbpaaGreatDoor.Ar
namespace Go.Proofs.YtbbdanhpphlbpaaGreatDoor.Ar
open Go.RowKit
set_option linter.unusedVariables false
set_option linter.unusedSimpArgs false
set_option maxRecDepth 100000
set_option maxHeartbeats 2000000
set_option simprocs false
def aaccR (b1 b2 : Nat) : List Rw := [⟨[76, 68, 82, 42], [], ⟨4, 0, 0, 0, 0, 0, 0, 0, 0, 0, false, false, false, 0, 0, 0, false⟩, some ⟨b1, 0, none⟩, [1, 6], 2⟩, ⟨[76, 68, 65, 82, 42], [], ⟨4, 0, 0, 0, 0, 0, 0, 0, 0, 0, true, false, false, 0, 0, 0, false⟩, some ⟨b1, 0, none⟩, [1, 6], 2⟩, ⟨[76, 68, 65, 80, 82, 42], [], ⟨4, 0, 0, 0, 0, 0, 0, 0, 0, 0, false, true, false, 0, 0, 0, false⟩, some ⟨b1, 0, none⟩, [1, 6], 2⟩, ⟨[83, 84, 82, 42], [], ⟨5, 0, 0, 0, 0, 0, 0, 0, 0, 0, false, false, false, 0, 0, 0, false⟩, some ⟨b2, 0, none⟩, [2, 6], 2⟩, ⟨[83, 84, 76, 82, 42], [], ⟨5, 0, 0, 0, 0, 0, 0, 0, 0, 0, false, false, true, 0, 0, 0, false⟩, some ⟨b2, 0, none⟩, [2, 6], 2⟩]
def aaccT : List (List UInt8 × List UInt8 × In × List Int) := [([76, 68, 82, 42], [], ⟨4, 0, 0, 0, 0, 0, 0, 0, 0, 0, false, false, false, 0, 0, 0, false⟩, [1, 6]), ([76, 68, 65, 82, 42], [], ⟨4, 0, 0, 0, 0, 0, 0, 0, 0, 0, true, false, false, 0, 0, 0, false⟩, [1, 6]), ([76, 68, 65, 80, 82, 42], [], ⟨4, 0, 0, 0, 0, 0, 0, 0, 0, 0, false, true, false, 0, 0, 0, false⟩, [1, 6]), ([83, 84, 82, 42], [], ⟨5, 0, 0, 0, 0, 0, 0, 0, 0, 0, false, false, false, 0, 0, 0, false⟩, [2, 6]), ([83, 84, 76, 82, 42], [], ⟨5, 0, 0, 0, 0, 0, 0, 0, 0, 0, false, false, true, 0, 0, 0, false⟩, [2, 6])]
theorem aacc_rows {b1 b2 b3 lo lo2 : Nat} {w : World} {ks : List Nat} (h : Acc lo (aaccL b1 b2 b3) w ks) (hlo : lo2 ≤ lo) : RowsIn lo2 (aaccR b1 b2) w ks := by
 intro r hr
 unfold aaccR at hr
 simp only [List.mem_cons, List.mem_nil_iff, or_false] at hr
 rcases hr with rfl | rfl | rfl | rfl | rfl
 ·have q := lies_of (b := b1) (cs := []) [1, 6] h (by show _ ∈ aaccL b1 b2 b3; unfold aaccL; simp); exact ⟨q.1, fun z hz => Nat.le_trans hlo (q.2 z hz)⟩
 ·have q := lies_of (b := b1) (cs := []) [1, 6] h (by show _ ∈ aaccL b1 b2 b3; unfold aaccL; simp); exact ⟨q.1, fun z hz => Nat.le_trans hlo (q.2 z hz)⟩
 ·have q := lies_of (b := b1) (cs := []) [1, 6] h (by show _ ∈ aaccL b1 b2 b3; unfold aaccL; simp); exact ⟨q.1, fun z hz => Nat.le_trans hlo (q.2 z hz)⟩
 ·have q := lies_of (b := b2) (cs := []) [2, 6] h (by show _ ∈ aaccL b1 b2 b3; unfold aaccL; simp); exact ⟨q.1, fun z hz => Nat.le_trans hlo (q.2 z hz)⟩
 ·have q := lies_of (b := b2) (cs := []) [2, 6] h (by show _ ∈ aaccL b1 b2 b3; unfold aaccL; simp); exact ⟨q.1, fun z hz => Nat.le_trans hlo (q.2 z hz)⟩
theorem aacc_den (b1 b2 b3 : Nat) : denL [] ((aaccR b1 b2).flatMap rwc) = denL [] [.str [76, 68, 82, 42], .str [], .int .i64 4, .z9, .z9, .z9, .z9, .z9, .z9, .z9, .z9, .z9, .ff, .ff, .ff, .z9, .z9, .z9, .ff, .sla (some ⟨b1, 0, none⟩) 2 2, .str [76, 68, 65, 82, 42], .str [], .int .i64 4, .z9, .z9, .z9, .z9, .z9, .z9, .z9, .z9, .z9, .tt, .ff, .ff, .z9, .z9, .z9, .ff, .sla (some ⟨b1, 0, none⟩) 2 2, .str [76, 68, 65, 80, 82, 42], .str [], .int .i64 4, .z9, .z9, .z9, .z9, .z9, .z9, .z9, .z9, .z9, .ff, .tt, .ff, .z9, .z9, .z9, .ff, .sla (some ⟨b1, 0, none⟩) 2 2, .str [83, 84, 82, 42], .str [], .int .i64 5, .z9, .z9, .z9, .z9, .z9, .z9, .z9, .z9, .z9, .ff, .ff, .ff, .z9, .z9, .z9, .ff, .sla (some ⟨b2, 0, none⟩) 2 2, .str [83, 84, 76, 82, 42], .str [], .int .i64 5, .z9, .z9, .z9, .z9, .z9, .z9, .z9, .z9, .z9, .ff, .ff, .tt, .z9, .z9, .z9, .ff, .sla (some ⟨b2, 0, none⟩) 2 2] := by rfl
section
variable {n : Nat} {ks : List Nat} {G0 : Gr} {w0 : World} {T : List (Nat × SV)} {H : Hp} {G : Gr} {a : Act} {w : World} {Q : Exit → Act → World → Prop} {K : List Fr} {ops : Array Oper} {o : Oper} {rest : List Oper}
theorem CALLACC (A : Sy n T H ks G0 w0 G a w) (h1 : callS n ops T o = some (198, []))
  (k : ∀ b1 b2 b3 vs a' w', denL [] ((aaccR b1 b2).flatMap rwc) = some vs → Lies b3 0 vs w' (keys H G) → RowsIn w.heap.size (aaccR b1 b2) w' (keys H G) → Sy n (extS T o.dst (.sla (some ⟨b3, 0, none⟩) 5 5)) H ks G0 w0 G a' w' → Goal Tryz.prog Q K (.ops ops rest) a' w') : Goal Tryz.prog Q K (.ops ops (o :: rest)) a w := by
 refine CALLR [] aacc_ A h1 rfl rfl rfl rfl fun x a' w' hJ hk A' => ?_
 obtain ⟨b1, b2, b3, rfl, hA⟩ := hJ
 have hA := acc_keys hA hk
 obtain ⟨_, vs, q1, q2⟩ := hA _ List.mem_cons_self
 exact k b1 b2 b3 vs a' w' ((aacc_den b1 b2 b3).trans q1) q2 (aacc_rows hA (Nat.le_refl _)) A'
end
def aothR (b1 b2 b3 b4 : Nat) : List Rw := [⟨[77, 79, 86], [], ⟨1, 0, 0, 0, 0, 0, 0, 0, 0, 0, false, false, false, 0, 0, 0, false⟩, some ⟨b1, 0, none⟩, [1, 5], 2⟩, ⟨[77, 79, 86], [], ⟨2, 0, 0, 0, 0, 0, 0, 0, 0, 0, false, false, false, 0, 0, 0, false⟩, some ⟨b2, 0, none⟩, [1, 2], 2⟩, ⟨[73, 83, 66], [], ⟨8, 0, 0, 0, 0, 0, 0, 0, 0, 0, false, false, false, 0, 0, 0, false⟩, none, [], 0⟩, ⟨[67, 66, 90], [], ⟨9, 0, 0, 0, 0, 0, 0, 0, 0, 0, false, false, false, 0, 0, 0, true⟩, some ⟨b3, 0, none⟩, [2, 7], 2⟩, ⟨[67, 66, 78, 90], [], ⟨9, 0, 0, 0, 0, 0, 0, 0, 0, 0, false, false, false, 0, 0, 0, false⟩, some ⟨b4, 0, none⟩, [2, 7], 2⟩]
def aothT : List (List UInt8 × List UInt8 × In × List Int) := [([77, 79, 86], [], ⟨1, 0, 0, 0, 0, 0, 0, 0, 0, 0, false, false, false, 0, 0, 0, false⟩, [1, 5]), ([77, 79, 86], [], ⟨2, 0, 0, 0, 0, 0, 0, 0, 0, 0, false, false, false, 0, 0, 0, false⟩, [1, 2]), ([73, 83, 66], [], ⟨8, 0, 0, 0, 0, 0, 0, 0, 0, 0, false, false, false, 0, 0, 0, false⟩, []), ([67, 66, 90], [], ⟨9, 0, 0, 0, 0, 0, 0, 0, 0, 0, false, false, false, 0, 0, 0, true⟩, [2, 7]), ([67, 66, 78, 90], [], ⟨9, 0, 0, 0, 0, 0, 0, 0, 0, 0, false, false, false, 0, 0, 0, false⟩, [2, 7])]
theorem aoth_rows {b1 b2 b3 b4 b5 lo lo2 : Nat} {w : World} {ks : List Nat} (h : Acc lo (aothL b1 b2 b3 b4 b5) w ks) (hlo : lo2 ≤ lo) : RowsIn lo2 (aothR b1 b2 b3 b4) w ks := by
 intro r hr
 unfold aothR at hr
 simp only [List.mem_cons, List.mem_nil_iff, or_false] at hr
 rcases hr with rfl | rfl | rfl | rfl | rfl
 ·have q := lies_of (b := b1) (cs := []) [1, 5] h (by show _ ∈ aothL b1 b2 b3 b4 b5; unfold aothL; simp); exact ⟨q.1, fun z hz => Nat.le_trans hlo (q.2 z hz)⟩
 ·have q := lies_of (b := b2) (cs := []) [1, 2] h (by show _ ∈ aothL b1 b2 b3 b4 b5; unfold aothL; simp); exact ⟨q.1, fun z hz => Nat.le_trans hlo (q.2 z hz)⟩
 ·exact ⟨.inl ⟨rfl, rfl⟩, fun q hq => by cases hq⟩
 ·have q := lies_of (b := b3) (cs := []) [2, 7] h (by show _ ∈ aothL b1 b2 b3 b4 b5; unfold aothL; simp); exact ⟨q.1, fun z hz => Nat.le_trans hlo (q.2 z hz)⟩
 ·have q := lies_of (b := b4) (cs := []) [2, 7] h (by show _ ∈ aothL b1 b2 b3 b4 b5; unfold aothL; simp); exact ⟨q.1, fun z hz => Nat.le_trans hlo (q.2 z hz)⟩
theorem aoth_den (b1 b2 b3 b4 b5 : Nat) : denL [] ((aothR b1 b2 b3 b4).flatMap rwc) = denL [] [.str [77, 79, 86], .str [], .int .i64 1, .z9, .z9, .z9, .z9, .z9, .z9, .z9, .z9, .z9, .ff, .ff, .ff, .z9, .z9, .z9, .ff, .sla (some ⟨b1, 0, none⟩) 2 2, .str [77, 79, 86], .str [], .int .i64 2, .z9, .z9, .z9, .z9, .z9, .z9, .z9, .z9, .z9, .ff, .ff, .ff, .z9, .z9, .z9, .ff, .sla (some ⟨b2, 0, none⟩) 2 2, .str [73, 83, 66], .str [], .int .i64 8, .z9, .z9, .z9, .z9, .z9, .z9, .z9, .z9, .z9, .ff, .ff, .ff, .z9, .z9, .z9, .ff, .sla none 0 0, .str [67, 66, 90], .str [], .int .i64 9, .z9, .z9, .z9, .z9, .z9, .z9, .z9, .z9, .z9, .ff, .ff, .ff, .z9, .z9, .z9, .tt, .sla (some ⟨b3, 0, none⟩) 2 2, .str [67, 66, 78, 90], .str [], .int .i64 9, .z9, .z9, .z9, .z9, .z9, .z9, .z9, .z9, .z9, .ff, .ff, .ff, .z9, .z9, .z9, .ff, .sla (some ⟨b4, 0, none⟩) 2 2] := by rfl
section
variable {n : Nat} {ks : List Nat} {G0 : Gr} {w0 : World} {T : List (Nat × SV)} {H : Hp} {G : Gr} {a : Act} {w : World} {Q : Exit → Act → World → Prop} {K : List Fr} {ops : Array Oper} {o : Oper} {rest : List Oper}
theorem CALLAOT (A : Sy n T H ks G0 w0 G a w) (h1 : callS n ops T o = some (201, []))
  (k : ∀ b1 b2 b3 b4 b5 vs a' w', denL [] ((aothR b1 b2 b3 b4).flatMap rwc) = some vs → Lies b5 0 vs w' (keys H G) → RowsIn w.heap.size (aothR b1 b2 b3 b4) w' (keys H G) → Sy n (extS T o.dst (.sla (some ⟨b5, 0, none⟩) 5 5)) H ks G0 w0 G a' w' → Goal Tryz.prog Q K (.ops ops rest) a' w') : Goal Tryz.prog Q K (.ops ops (o :: rest)) a w := by
 refine CALLR [] aoth_ A h1 rfl rfl rfl rfl fun x a' w' hJ hk A' => ?_
 obtain ⟨b1, b2, b3, b4, b5, rfl, hA⟩ := hJ
 have hA := acc_keys hA hk
 obtain ⟨_, vs, q1, q2⟩ := hA _ List.mem_cons_self
 exact k b1 b2 b3 b4 b5 vs a' w' ((aoth_den b1 b2 b3 b4 b5).trans q1) q2 (aoth_rows hA (Nat.le_refl _)) A'
end
def armT : List (List UInt8 × List UInt8 × In × List Int) := (((acomp ++ aaccT) ++ aatom) ++ afen) ++ aothT
theorem alang_ : FnR Tryz.prog 148 [] [] (fun x w w' => ∃ (L : List Rw) (b cp : Nat), x = .agg [.str [88, 48], .str [88, 49], .str [88, 50], .str [88, 51], .str [88, 52], .str [88, 53], .str [88, 54], .str [88, 55], .str [66], .str [72], .str [87], .str [], .str [35], .str [], .str [], .str [], .sla (some ⟨b, 0, none⟩) 31 cp] ∧ (L.map tm = armT ∧ RowsIn w.heap.size L w' [b]) ∧ w.heap.size ≤ b ∧ Given 203 20 31 (fun zz => rwc (L.getD zz Rw.z)) b cp w') :=
 enterR (n := 11) (by kernel_rfl) Tryz.func148 rfl rfl rfl fun G w a h0 A => N9 7 A rfl rfl fun A => C9 [] (aregs_ ) A rfl fun A => N9 1 A rfl rfl fun A => have hz := A.mix.size; CALLROW (t := 3) (F := fun (L : List Rw) zz => rwc (L.getD zz Rw.z)) (R := fun L b w w' => L.map tm = acomp ∧ RowsIn w.heap.size L w' [b]) acomp_ A rfl rfl fun L1 e1 cp1 a1_ w1 G1 hR1 hlo hk A => have l1 : L1.length = 10 := (by have q := congrArg List.length hR1.1; rw [List.length_map] at q; exact q); have hI := (rows_keys hR1.2 hk).mono hz; have B := A; have A := B.base; 
 have hz := Nat.le_trans B.mix.size A.mix.size; CALLACC A rfl fun p1 p2 p3 vp a2_ w2 hv hL hO A => have hI := (RowsIn.ok _ _ _ _ hI A.mix A.keys_own).app (hO.mono hz); have lx2 : (aaccR p1 p2).length = 5 := rfl; have l12 : (L1 ++ (aaccR p1 p2)).length = 15 := (by rw [List.length_append, l1, lx2]); have B := B.trans A; have A := A.base; have A := A.adoptL Rw.z rwc 20 tyR.1 tyR.2.1 tyR.2.2 (aaccR p1 p2) hL hv 4 rfl;
 have hz := Nat.le_trans B.mix.size A.mix.size; CALLROW (t := 5) (F := fun (L : List Rw) zz => rwc (L.getD zz Rw.z)) (R := fun L b w w' => L.map tm = aatom ∧ RowsIn w.heap.size L w' [b]) aatom_ A rfl rfl fun L3 e3 cp3 a3_ w3 G3 hR3 hlo hk A => have lx3 : L3.length = 8 := (by have q := congrArg List.length hR3.1; rw [List.length_map] at q; exact q); have hI2 := (rows_keys hR3.2 hk).mono hz; have hI := (RowsIn.ok _ _ _ _ hI A.mix A.keys_own).app hI2; have l13 : ((L1 ++ (aaccR p1 p2)) ++ L3).length = 23 := (by rw [List.length_append, l12, lx3]); have B := B.trans A; have A := A.base; 
 have hz := Nat.le_trans B.mix.size A.mix.size; CALLROW (t := 6) (F := fun (L : List Rw) zz => rwc (L.getD zz Rw.z)) (R := fun L b w w' => L.map tm = afen ∧ RowsIn w.heap.size L w' [b]) afen_ A rfl rfl fun L4 e4 cp4 a4_ w4 G4 hR4 hlo hk A => have lx4 : L4.length = 3 := (by have q := congrArg List.length hR4.1; rw [List.length_map] at q; exact q); have hI2 := (rows_keys hR4.2 hk).mono hz; have hI := (RowsIn.ok _ _ _ _ hI A.mix A.keys_own).app hI2; have l14 : (((L1 ++ (aaccR p1 p2)) ++ L3) ++ L4).length = 26 := (by rw [List.length_append, l13, lx4]); have B := B.trans A; have A := A.base; 
 have hz := Nat.le_trans B.mix.size A.mix.size; CALLAOT A rfl fun q1 q2 q3 q4 q5 vq a5_ w5 hv hL hO A => have hI := (RowsIn.ok _ _ _ _ hI A.mix A.keys_own).app (hO.mono hz); have lx5 : (aothR q1 q2 q3 q4).length = 5 := rfl; have l15 : ((((L1 ++ (aaccR p1 p2)) ++ L3) ++ L4) ++ (aothR q1 q2 q3 q4)).length = 31 := (by rw [List.length_append, l14, lx5]); have B := B.trans A; have A := A.base; have A := A.adoptL Rw.z rwc 20 tyR.1 tyR.2.1 tyR.2.2 (aothR q1 q2 q3 q4) hL hv 7 rfl;
 N9 1 A rfl rfl fun A => have A := A.freeze 1 rfl; have A := A.freeze 3 rfl; have A := A.freeze 4 rfl; C9 [6, 1, 2, 3, 4, 5] (concat5_ L1 (aaccR p1 p2) L3 L4 (aothR q1 q2 q3 q4) 0 5 0 0 5 l1 l12 l13 l14) A rfl fun A => match A.giveRow 7 9 (by decide) rfl rfl rfl with | ⟨b, cp, A2, hG, ho, hkb⟩ => (have h1 := RowsIn.ok _ _ _ _ hI A2.mix A2.keys_own; have h2 := RowsIn.ok _ _ _ [b] hI A2.mix (fun b2 hb => by have : b2 = b := (by simpa using hb); rw [this]; exact ho); have hbl := lo_of B (fun i e he => nil_no he) ho; have B := B.trans A2; have A := A2.base;
 N9 5 A rfl rfl fun A => RETR (J := fun x w w' => ∃ (L : List Rw) (b cp : Nat), x = .agg [.str [88, 48], .str [88, 49], .str [88, 50], .str [88, 51], .str [88, 52], .str [88, 53], .str [88, 54], .str [88, 55], .str [66], .str [72], .str [87], .str [], .str [35], .str [], .str [], .str [], .sla (some ⟨b, 0, none⟩) 31 cp] ∧ (L.map tm = armT ∧ RowsIn w.heap.size L w' [b]) ∧ w.heap.size ≤ b ∧ Given 203 20 31 (fun zz => rwc (L.getD zz Rw.z)) b cp w') hX (B.trans A) (fun i e he => nil_no he) rfl rfl rfl rfl ⟨((((L1 ++ (aaccR p1 p2)) ++ L3) ++ L4) ++ (aothR q1 q2 q3 q4)), b, cp, rfl, ⟨by rw [List.map_append, List.map_append, List.map_append, List.map_append, hR1.1, hR3.1, hR4.1]; rfl, h1.one h2 A.mix⟩, hbl, hG.mix A.mix hkb⟩)
end Go.Proofs.YtbbdanhpphlbpaaGreatDoor.Ar
namespace Go.Proofs.YtbbdanhpphlbpaaGreatDoor

end Go.Proofs.YtbbdanhpphlbpaaGreatDoor
namespace Go.Proofs.YtbbdanhpphlbpaaGreatDoor.Ar
open Go.RowKit
set_option linter.unusedVariables false
set_option linter.unusedSimpArgs false
set_option maxRecDepth 100000
set_option maxHeartbeats 2000000
set_option simprocs false
def armG : Lg := ⟨[88, 48], [88, 49], [88, 50], [88, 51], [88, 52], [88, 53], [88, 54], [88, 55], [66], [72], [87], [], [35], [], [], []⟩
def armC : List Rw := armT.map rwOf
theorem arm_pr {L : List Rw} {i : In} {lb : List UInt8} (h : L.map tm = armT) : prP armG L i lb = prP armG armC i lb := by
 have := cn_prP (g := armG) (L := L) (i := i) (lb := lb)
 rw [cn_tm h] at this
 exact this.symm
theorem arm_lg : LgL armG := by
 refine ⟨⟨fun r => ?_, by decide⟩, fun k => ?_, by decide, by decide, by decide⟩
 ·unfold regnm0
  split
  ·exact Nat.zero_le _
  ·next h =>
   have : (r).toNat = 0 ∨ (r).toNat = 1 ∨ (r).toNat = 2 ∨ (r).toNat = 3 ∨ (r).toNat = 4 ∨ (r).toNat = 5 ∨ (r).toNat = 6 ∨ (r).toNat = 7 := by
    simp only [Bool.or_eq_true, decide_eq_true_eq] at h; omega
   rcases this with e | e | e | e | e | e | e | e <;> rw [e] <;> decide
 ·by_cases h : k < 4
  ·have : k = 0 ∨ k = 1 ∨ k = 2 ∨ k = 3 := by omega
   rcases this with rfl | rfl | rfl | rfl <;> decide
  ·rw [List.getD_eq_getElem?_getD, List.getElem?_eq_none (by simpa using h)]; decide
theorem arm_prok {L : List Rw} {i : In} {lb : List UInt8} (hi : InR i) (hl : lb.length ≤ 100000) (hm : L.map tm = armT) : PrOK armG L i lb := pr_ok hm arm_lg (by decide +kernel) (by decide +kernel) hi hl
theorem aprint_ (i : In) (lb : List UInt8) (os : List (Nat × Obj)) (hM : ∀ w ks, Gl os w ks → ∃ m, w.cell? ⟨0, 0, none⟩ = some (.int .i64 m)) (hT : ∀ w ks, Gl os w ks → Lib.TabIs Tryz.prog w "internal/strconv.uint64pow10" .u64 Lib.pow10Tab) (hE : ∀ w ks, Gl os w ks → ∃ ev, w.cell? ⟨4, 0, none⟩ = some ev ∧ (ev = .nilIface ∨ ∃ te pe, ev = .iface te pe)) (hp : ∀ L : List Rw, L.map tm = armT → PrOK armG L i lb) : FnI (Gl os) Tryz.prog 116 [.agg (inQ9 i), .str lb] [] (Rt (.tup [.str ((prP armG armC i lb).1), .int .i64 ((prP armG armC i lb).2)]) []) :=
 enterI (n := 12) (by kernel_rfl) Tryz.func116 rfl rfl rfl fun G w a h0 hI A => N9 8 A rfl rfl fun A => any_in 8 hmo rfl A fun {w2} A => any_cut (fun (tail : ∀ (L : List Rw) {G1 : Gr} {a1 : Act} {w1 : World}, L.map tm = armT → L.length = 31 → PrI os L w1 (keys [some (.blk (inQ9 i)), some (lQ9 L)] G1) → Sy 12 [(6, .agg [.str [88, 48], .str [88, 49], .str [88, 50], .str [88, 51], .str [88, 52], .str [88, 53], .str [88, 54], .str [88, 55], .str [66], .str [72], .str [87], .str [], .str [35], .str [], .str [], .str [], .sl 1 L.length 0]), (7, .agg (inQ9 i)), (8, .str lb)] [some (.blk (inQ9 i)), some (lQ9 L)] (keys [] G) G w G1 a1 w1 → wpAny Tryz.prog .any _ _ _ _ a1 w1) => any_at (rs := [0, 1, 2]) (by kernel_rfl) (by decide) (fc9 ⟨any_agg (t := 6) (l := [.str [88, 48], .str [88, 49], .str [88, 50], .str [88, 51], .str [88, 52], .str [88, 53], .str [88, 54], .str [88, 55], .str [66], .str [72], .str [87], .str [], .str [35], .str [], .str [], .str []]) (F := fun (L : List Rw) zz => rwc (L.getD zz Rw.z)) (R := fun L b w w' => L.map tm = armT ∧ RowsIn w.heap.size L w' [b]) rfl alang_ A rfl rfl fun L b cp a1 w1 G1 hR hlo hkk A => have hl20 : L.length = 31 := (by have q := congrArg List.length hR.1; rw [List.length_map] at q; exact q.trans (by decide +kernel)); have hRI := rows_keys hR.2 hkk; have B0 := A; have A := A.base; have A := A.rowAs 1 L.length (fun zz => rwc (L.getD zz Rw.z)) rfl hl20 (fun _ _ => rfl) (fun z => ⟨_, rfl, rfl⟩); have A := A.say 6 (.agg [.str [88, 48], .str [88, 49], .str [88, 50], .str [88, 51], .str [88, 52], .str [88, 53], .str [88, 54], .str [88, 55], .str [66], .str [72], .str [87], .str [], .str [35], .str [], .str [], .str [], .sl 1 L.length 0]) rfl (by rw [hl20] <;> rfl); have A := A.freeze 1 rfl; have hTb := RowsIn.ok.now A hRI; have B := B0.trans A; have A := A.base; have hI2 : PrI os L _ _ := ⟨fun r hr => (hTb r hr).1, Gl.ok.now B hI⟩; any_at (rs := [1, 2]) (by kernel_rfl) (by decide) (fc9 ⟨aV9 (.agg (inQ9 i)) rfl A rfl rfl fun A => any_at (rs := [2]) (by kernel_rfl) (by decide) (fc9 ⟨aV9 (.str lb) rfl A rfl rfl fun A => tail L hR.1 hl20 (PrI.ok.now A hI2) ((B.trans A).cut [6, 7, 8] rfl),
    (fn9)⟩),
   (fc9 ⟨aV9 (.str lb) rfl A rfl rfl fun A => any_at (rs := [1]) (by kernel_rfl) (by decide) (fc9 ⟨aV9 (.agg (inQ9 i)) rfl A rfl rfl fun A => tail L hR.1 hl20 (PrI.ok.now A hI2) ((B.trans A).cut [6, 7, 8] rfl),
    (fn9)⟩),
   (fn9)⟩)⟩),
  (fc9 ⟨aV9 (.agg (inQ9 i)) rfl A rfl rfl fun A => any_at (rs := [0, 2]) (by kernel_rfl) (by decide) (fc9 ⟨any_agg (t := 6) (l := [.str [88, 48], .str [88, 49], .str [88, 50], .str [88, 51], .str [88, 52], .str [88, 53], .str [88, 54], .str [88, 55], .str [66], .str [72], .str [87], .str [], .str [35], .str [], .str [], .str []]) (F := fun (L : List Rw) zz => rwc (L.getD zz Rw.z)) (R := fun L b w w' => L.map tm = armT ∧ RowsIn w.heap.size L w' [b]) rfl alang_ A rfl rfl fun L b cp a1 w1 G1 hR hlo hkk A => have hl20 : L.length = 31 := (by have q := congrArg List.length hR.1; rw [List.length_map] at q; exact q.trans (by decide +kernel)); have hRI := rows_keys hR.2 hkk; have B0 := A; have A := A.base; have A := A.rowAs 1 L.length (fun zz => rwc (L.getD zz Rw.z)) rfl hl20 (fun _ _ => rfl) (fun z => ⟨_, rfl, rfl⟩); have A := A.say 6 (.agg [.str [88, 48], .str [88, 49], .str [88, 50], .str [88, 51], .str [88, 52], .str [88, 53], .str [88, 54], .str [88, 55], .str [66], .str [72], .str [87], .str [], .str [35], .str [], .str [], .str [], .sl 1 L.length 0]) rfl (by rw [hl20] <;> rfl); have A := A.freeze 1 rfl; have hTb := RowsIn.ok.now A hRI; have B := B0.trans A; have A := A.base; have hI2 : PrI os L _ _ := ⟨fun r hr => (hTb r hr).1, Gl.ok.now B hI⟩; any_at (rs := [2]) (by kernel_rfl) (by decide) (fc9 ⟨aV9 (.str lb) rfl A rfl rfl fun A => tail L hR.1 hl20 (PrI.ok.now A hI2) ((B.trans A).cut [6, 7, 8] rfl),
    (fn9)⟩),
   (fc9 ⟨aV9 (.str lb) rfl A rfl rfl fun A => any_at (rs := [0]) (by kernel_rfl) (by decide) (fc9 ⟨any_agg (t := 6) (l := [.str [88, 48], .str [88, 49], .str [88, 50], .str [88, 51], .str [88, 52], .str [88, 53], .str [88, 54], .str [88, 55], .str [66], .str [72], .str [87], .str [], .str [35], .str [], .str [], .str []]) (F := fun (L : List Rw) zz => rwc (L.getD zz Rw.z)) (R := fun L b w w' => L.map tm = armT ∧ RowsIn w.heap.size L w' [b]) rfl alang_ A rfl rfl fun L b cp a1 w1 G1 hR hlo hkk A => have hl20 : L.length = 31 := (by have q := congrArg List.length hR.1; rw [List.length_map] at q; exact q.trans (by decide +kernel)); have hRI := rows_keys hR.2 hkk; have B0 := A; have A := A.base; have A := A.rowAs 1 L.length (fun zz => rwc (L.getD zz Rw.z)) rfl hl20 (fun _ _ => rfl) (fun z => ⟨_, rfl, rfl⟩); have A := A.say 6 (.agg [.str [88, 48], .str [88, 49], .str [88, 50], .str [88, 51], .str [88, 52], .str [88, 53], .str [88, 54], .str [88, 55], .str [66], .str [72], .str [87], .str [], .str [35], .str [], .str [], .str [], .sl 1 L.length 0]) rfl (by rw [hl20] <;> rfl); have A := A.freeze 1 rfl; have hTb := RowsIn.ok.now A hRI; have B := B0.trans A; have A := A.base; have hI2 : PrI os L _ _ := ⟨fun r hr => (hTb r hr).1, Gl.ok.now B hI⟩; tail L hR.1 hl20 (PrI.ok.now A hI2) ((B.trans A).cut [6, 7, 8] rfl),
    (fn9)⟩),
   (fn9)⟩)⟩),
  (fc9 ⟨aV9 (.str lb) rfl A rfl rfl fun A => any_at (rs := [0, 1]) (by kernel_rfl) (by decide) (fc9 ⟨any_agg (t := 6) (l := [.str [88, 48], .str [88, 49], .str [88, 50], .str [88, 51], .str [88, 52], .str [88, 53], .str [88, 54], .str [88, 55], .str [66], .str [72], .str [87], .str [], .str [35], .str [], .str [], .str []]) (F := fun (L : List Rw) zz => rwc (L.getD zz Rw.z)) (R := fun L b w w' => L.map tm = armT ∧ RowsIn w.heap.size L w' [b]) rfl alang_ A rfl rfl fun L b cp a1 w1 G1 hR hlo hkk A => have hl20 : L.length = 31 := (by have q := congrArg List.length hR.1; rw [List.length_map] at q; exact q.trans (by decide +kernel)); have hRI := rows_keys hR.2 hkk; have B0 := A; have A := A.base; have A := A.rowAs 1 L.length (fun zz => rwc (L.getD zz Rw.z)) rfl hl20 (fun _ _ => rfl) (fun z => ⟨_, rfl, rfl⟩); have A := A.say 6 (.agg [.str [88, 48], .str [88, 49], .str [88, 50], .str [88, 51], .str [88, 52], .str [88, 53], .str [88, 54], .str [88, 55], .str [66], .str [72], .str [87], .str [], .str [35], .str [], .str [], .str [], .sl 1 L.length 0]) rfl (by rw [hl20] <;> rfl); have A := A.freeze 1 rfl; have hTb := RowsIn.ok.now A hRI; have B := B0.trans A; have A := A.base; have hI2 : PrI os L _ _ := ⟨fun r hr => (hTb r hr).1, Gl.ok.now B hI⟩; any_at (rs := [1]) (by kernel_rfl) (by decide) (fc9 ⟨aV9 (.agg (inQ9 i)) rfl A rfl rfl fun A => tail L hR.1 hl20 (PrI.ok.now A hI2) ((B.trans A).cut [6, 7, 8] rfl),
    (fn9)⟩),
   (fc9 ⟨aV9 (.agg (inQ9 i)) rfl A rfl rfl fun A => any_at (rs := [0]) (by kernel_rfl) (by decide) (fc9 ⟨any_agg (t := 6) (l := [.str [88, 48], .str [88, 49], .str [88, 50], .str [88, 51], .str [88, 52], .str [88, 53], .str [88, 54], .str [88, 55], .str [66], .str [72], .str [87], .str [], .str [35], .str [], .str [], .str []]) (F := fun (L : List Rw) zz => rwc (L.getD zz Rw.z)) (R := fun L b w w' => L.map tm = armT ∧ RowsIn w.heap.size L w' [b]) rfl alang_ A rfl rfl fun L b cp a1 w1 G1 hR hlo hkk A => have hl20 : L.length = 31 := (by have q := congrArg List.length hR.1; rw [List.length_map] at q; exact q.trans (by decide +kernel)); have hRI := rows_keys hR.2 hkk; have B0 := A; have A := A.base; have A := A.rowAs 1 L.length (fun zz => rwc (L.getD zz Rw.z)) rfl hl20 (fun _ _ => rfl) (fun z => ⟨_, rfl, rfl⟩); have A := A.say 6 (.agg [.str [88, 48], .str [88, 49], .str [88, 50], .str [88, 51], .str [88, 52], .str [88, 53], .str [88, 54], .str [88, 55], .str [66], .str [72], .str [87], .str [], .str [35], .str [], .str [], .str [], .sl 1 L.length 0]) rfl (by rw [hl20] <;> rfl); have A := A.freeze 1 rfl; have hTb := RowsIn.ok.now A hRI; have B := B0.trans A; have A := A.base; have hI2 : PrI os L _ _ := ⟨fun r hr => (hTb r hr).1, Gl.ok.now B hI⟩; tail L hR.1 hl20 (PrI.ok.now A hI2) ((B.trans A).cut [6, 7, 8] rfl),
    (fn9)⟩),
   (fn9)⟩)⟩),
  (fn9)⟩)⟩)⟩)) (fun L {G1 a1 w1} hR0 hl20 hI2 A => have hR : L.map tm = armT ∧ True := ⟨hR0, trivial⟩; have B := A; have A := B.base; any_at (rs := [3]) (by kernel_rfl) (by decide) (fc9 ⟨any_eff (x := .tup [.str ((prP armG L i lb).1), .int .i64 ((prP armG L i lb).2)]) (H' := [some (.blk (inQ9 i)), some (lQ9 L)]) rfl A rfl (callIE [1] PrI.ok hI2 (lprint_ armG L 0 i lb os hM hT hE (hp L hR.1)) rfl rfl rfl rfl rfl rfl rfl) fun A => any_at (rs := [4, 5]) (by kernel_rfl) (by decide) (fc9 ⟨aV9 (.str ((prP armG L i lb).1)) rfl A rfl rfl fun A => any_at (rs := [5]) (by kernel_rfl) (by decide) (fc9 ⟨aV9 (.int .i64 ((prP armG L i lb).2)) rfl A rfl rfl fun A => any_at (rs := [6]) (by kernel_rfl) (by decide) (fc9 ⟨aV9 (.str ((prP armG L i lb).1)) rfl A rfl rfl fun A => any_at (rs := [7]) (by kernel_rfl) (by decide) (fc9 ⟨aV9 (.int .i64 ((prP armG L i lb).2)) rfl A rfl rfl fun A => any_end (by kernel_rfl) (N9 2 A rfl rfl fun A => R9 (B.trans A) rfl h0 rfl (by rw [← arm_pr hR.1] <;> rfl) rfl),
      (fn9)⟩),
     (fn9)⟩),
    (fn9)⟩),
   (fc9 ⟨aV9 (.int .i64 ((prP armG L i lb).2)) rfl A rfl rfl fun A => any_at (rs := [4]) (by kernel_rfl) (by decide) (fc9 ⟨aV9 (.str ((prP armG L i lb).1)) rfl A rfl rfl fun A => any_at (rs := [6]) (by kernel_rfl) (by decide) (fc9 ⟨aV9 (.str ((prP armG L i lb).1)) rfl A rfl rfl fun A => any_at (rs := [7]) (by kernel_rfl) (by decide) (fc9 ⟨aV9 (.int .i64 ((prP armG L i lb).2)) rfl A rfl rfl fun A => any_end (by kernel_rfl) (N9 2 A rfl rfl fun A => R9 (B.trans A) rfl h0 rfl (by rw [← arm_pr hR.1] <;> rfl) rfl),
      (fn9)⟩),
     (fn9)⟩),
    (fn9)⟩),
   (fn9)⟩)⟩),
  (fn9)⟩))
end Go.Proofs.YtbbdanhpphlbpaaGreatDoor.Ar
namespace Go.Proofs.YtbbdanhpphlbpaaGreatDoor
open Go.RowKit
set_option linter.unusedVariables false
set_option linter.unusedSimpArgs false
set_option maxRecDepth 100000
set_option maxHeartbeats 2000000
set_option simprocs false
def labL (k : Int) : List UInt8 := [76] ++ Lib.itoa k
theorem labL_len (k : Int) (h1 : -9223372036854775808 ≤ k) (h2 : k ≤ 9223372036854775807) : (labL k).length ≤ 22 := by
 have := Lib.itoa_length_le k h1 h2
 unfold labL; rw [List.length_append]; show 1 + _ ≤ _; omega
def GC (os : List (Nat × Obj)) (cs : List Cde) : Amb := fun w ks => Gl os w ks ∧ CodesAt cs w ks
theorem GC.ok {os : List (Nat × Obj)} {cs : List Cde} : Amb.OK (GC os cs) := fun w ks w' ks' h m hk => ⟨Gl.ok _ _ _ _ h.1 m hk, CodesAt.ok _ _ _ _ h.2 m hk⟩
def okI (i : In) : Prop := InR i ∧ -9223372036854775808 ≤ i.to_ ∧ i.to_ ≤ 9223372036854775807
def prAll (pe : In → Int) (cs : List Cde) : Bool := cs.all fun c => c.l.all fun i => pe i == 0
structure Q1 (pe : In → Int) (cs : List Cde) (i : Nat) : Prop where
 le : i ≤ cs.length
 ok : ∀ j, j < i → ((cs.getD j Cde.z).l.all fun i => pe i == 0) = true
structure Q2 (pe : In → Int) (c : Cde) (k : Nat) : Prop where
 le : k ≤ c.l.length
 ok : ∀ j, j < k → pe (c.l.getD j In.z) = 0
section
variable {pe : In → Int} {cs : List Cde} {c : Cde} {i k : Nat}
theorem in_at (h : (k : Int) < ((c.l.length : Nat) : Int)) : c.l.getD ((k : Int)).toNat In.z ∈ c.l := by
 rw [Int.toNat_natCast, List.getD_eq_getElem?_getD, List.getElem?_eq_getElem (by omega)]; exact List.getElem_mem _
theorem cd_at (h : (i : Int) < ((cs.length : Nat) : Int)) : cs.getD ((i : Int)).toNat Cde.z ∈ cs := by
 rw [Int.toNat_natCast, List.getD_eq_getElem?_getD, List.getElem?_eq_getElem (by omega)]; exact List.getElem_mem _
theorem Q2.i0 : Q2 pe c 0 := ⟨Nat.zero_le _, fun j hj => by omega⟩
theorem Q2.nx (h : Q2 pe c k) (h1 : (k : Int) < ((c.l.length : Nat) : Int)) (h2 : pe (c.l.getD ((k : Int)).toNat In.z) = 0) : Q2 pe c (k + 1) := ⟨by omega, fun j hj => by
 by_cases e : j = k
 ·subst e; rw [Int.toNat_natCast] at h2; exact h2
 ·exact h.ok j (by omega)⟩
theorem Q2.good (h : Q2 pe c k) (h1 : ¬ (k : Int) < ((c.l.length : Nat) : Int)) : (c.l.all fun i => pe i == 0) = true := by
 rw [List.all_eq_true]
 intro i hi
 obtain ⟨j, hj, rfl⟩ := List.mem_iff_getElem.1 hi
 have := h.ok j (by omega)
 rw [List.getD_eq_getElem?_getD, List.getElem?_eq_getElem hj] at this
 exact beq_iff_eq.2 this
theorem Q1.i0 : Q1 pe cs 0 := ⟨Nat.zero_le _, fun j hj => by omega⟩
theorem Q1.nx (h : Q1 pe cs i) (h1 : (i : Int) < ((cs.length : Nat) : Int)) (h2 : ((cs.getD ((i : Int)).toNat Cde.z).l.all fun i => pe i == 0) = true) : Q1 pe cs (i + 1) := ⟨by omega, fun j hj => by
 by_cases e : j = i
 ·subst e; rw [Int.toNat_natCast] at h2; exact h2
 ·exact h.ok j (by omega)⟩
theorem Q1.good (h : Q1 pe cs i) (h1 : ¬ (i : Int) < ((cs.length : Nat) : Int)) : prAll pe cs = true := by
 unfold prAll
 rw [List.all_eq_true]
 intro c hc
 obtain ⟨j, hj, rfl⟩ := List.mem_iff_getElem.1 hc
 have := h.ok j (by omega)
 rw [List.getD_eq_getElem?_getD, List.getElem?_eq_getElem hj] at this
 exact this
theorem prAll_bad (h1 : (i : Int) < ((cs.length : Nat) : Int)) (h2 : (k : Int) < (((cs.getD ((i : Int)).toNat Cde.z).l.length : Nat) : Int)) (h3 : pe ((cs.getD ((i : Int)).toNat Cde.z).l.getD ((k : Int)).toNat In.z) ≠ 0) : prAll pe cs = false := by
 cases hq : prAll pe cs with
 | false => rfl
 | true =>
  unfold prAll at hq
  have e1 := List.all_eq_true.1 hq _ (cd_at h1)
  have e2 := List.all_eq_true.1 e1 _ (in_at h2)
  exact absurd (eq_of_beq e2) h3
end
theorem lab_ (k : Int) (os : List (Nat × Obj)) (hM : ∀ w ks, Gl os w ks → ∃ m, w.cell? ⟨0, 0, none⟩ = some (.int .i64 m)) (hT : ∀ w ks, Gl os w ks → Lib.TabIs Tryz.prog w "internal/strconv.uint64pow10" .u64 Lib.pow10Tab) (hE : ∀ w ks, Gl os w ks → ∃ ev, w.cell? ⟨4, 0, none⟩ = some ev ∧ (ev = .nilIface ∨ ∃ te pe, ev = .iface te pe)) (h1 : -9223372036854775808 ≤ k) (h2 : k ≤ 9223372036854775807) : FnI (Gl os) Tryz.prog 84 [.int .i64 k] [] (Rt (.str (labL k)) []) :=
 enterI (n := 6) (by kernel_rfl) Tryz.func84 rfl rfl rfl fun G w a h0 hI A => N9 8 A rfl rfl fun A => I9 [] Gl.ok hI (itoaI_ k os hM hT h1 h2) A rfl fun A => N9 5 A rfl (ok_d (by have := Lib.itoa_length_le k h1 h2; (try simp only [List.length_append, List.length_cons, List.length_nil]); omega) <| okE_nil) fun A => R9 A rfl h0 rfl rfl rfl
theorem printsAll_ (cs : List Cde) (cx : Nat) (tt : List UInt8) (f1 fp f3 : Nat) (pt : In → List UInt8 → List UInt8) (pe : In → List UInt8 → Int) (os : List (Nat × Obj)) (hM : ∀ w ks, Gl os w ks → ∃ m, w.cell? ⟨0, 0, none⟩ = some (.int .i64 m)) (hT : ∀ w ks, Gl os w ks → Lib.TabIs Tryz.prog w "internal/strconv.uint64pow10" .u64 Lib.pow10Tab) (hE : ∀ w ks, Gl os w ks → ∃ ev, w.cell? ⟨4, 0, none⟩ = some ev ∧ (ev = .nilIface ∨ ∃ te pe, ev = .iface te pe)) (hp : ∀ (i : In) (lb : List UInt8), InR i → lb.length ≤ 100000 → FnI (Gl os) Tryz.prog fp [.agg (insS i), .str lb] [] (Rt (.tup [.str (pt i lb), .int .i64 (pe i lb)]) [])) (hs : ∀ c ∈ cs, c.l.length ≤ 9223372036854775807) (hn : cs.length ≤ 9223372036854775807) (hR : ∀ c ∈ cs, ∀ i ∈ c.l, okI i) : FnI (GC os cs) Tryz.prog 49 [.agg [.str tt, .fn f1 [], .fn fp [], .fn f3 []], .sl 0 cs.length cx] [some (cdL9 cs)] (Rt (.bool (prAll (fun i => pe i (labL i.to_)) cs)) [some (cdL9 cs)]) :=
 enterI (n := 37) (by kernel_rfl) Tryz.func49 rfl rfl rfl fun G w a h0 hI A => N9 15 A rfl rfl fun A => LOOP1 (fun (i : Nat) => [(2, .ptr 1 0), (4, .ff), (11, .sl 0 cs.length cx), (12, .int .i64 ((cs.length : Nat) : Int)), (13, .int .i64 (i : Int))]) (fun (i : Nat) => [some (cdL9 cs), some (.blk [.str tt, .fn f1 [], .fn fp [], .fn f3 []])]) (fun (i : Nat) => Q1 (fun i => pe i (labL i.to_)) cs i) (fun (i : Nat) => cs.length - i) 0 Q1.i0 ((A.cut [2, 4, 11, 12, 13] rfl).trunc 2 rfl rfl rfl (by simp only [List.length_cons, List.length_nil] at h0; omega)) fun i hJ {G a w} A => N9 6 A rfl rfl fun A => forkD 14 A rfl
   (fun h1 A => N9 13 A rfl (ok_d (by (try have hy := len_at hs ((i : Int)).toNat); (try have := hK.le); (try have := hJ.le); omega) <| ok_d (by (try have hy := len_at hs ((i : Int)).toNat); (try have := hK.le); (try have := hJ.le); omega) <| okE_nil) fun A => N9 7 A rfl rfl fun A => LOOP1 (fun (k : Nat) => [(2, .ptr 1 0), (4, .ff), (11, .sl 0 cs.length cx), (12, .int .i64 ((cs.length : Nat) : Int)), (13, .int .i64 (i : Int)), (17, .sla ((cs.getD (((i : Int)).toNat) Cde.z).ao) ((cs.getD (((i : Int)).toNat) Cde.z).l.length) ((cs.getD (((i : Int)).toNat) Cde.z).cp)), (18, .int .i64 (((cs.getD (((i : Int)).toNat) Cde.z).l.length : Nat) : Int)), (19, .int .i64 (k : Int))]) (fun (k : Nat) => [some (cdL9 cs), some (.blk [.str tt, .fn f1 [], .fn fp [], .fn f3 []])]) (fun (k : Nat) => Q2 (fun i => pe i (labL i.to_)) (cs.getD ((i : Int)).toNat Cde.z) k) (fun (k : Nat) => (cs.getD ((i : Int)).toNat Cde.z).l.length - k) 0 Q2.i0 ((A.cut [2, 4, 11, 12, 13, 17, 18, 19] rfl).trunc 2 rfl rfl rfl (by simp only [List.length_cons, List.length_nil] at h0; omega)) fun k hK {G a w} A => N9 6 A rfl rfl fun A => forkD 20 A rfl
     (fun h2 A => N9 7 A rfl rfl fun A => ADOPTN (ao := (cs.getD (((i : Int)).toNat) Cde.z).ao) (s := 17) (m := (cs.getD (((i : Int)).toNat) Cde.z).l.length) (f := fun zz => insS ((cs.getD (((i : Int)).toNat) Cde.z).l.getD zz In.z)) hX 21 17 (hI.2.at (by omega)) (by omega) A rfl rfl rfl rfl rfl rfl (ok_d (by (try have hy := len_at hs ((i : Int)).toNat); (try have := hK.le); (try have := hJ.le); omega) <| okE_nil) fun A => N9 6 A rfl (ok_d (by (try have hy := len_at hs ((i : Int)).toNat); (try have := hK.le); (try have := hJ.le); omega) <| okE_nil) fun A => ANY hmo [.ptr 1 2, .fn fp [], .agg (inQ9 ((cs.getD (((i : Int)).toNat) Cde.z).l.getD (((k : Int)).toNat) In.z)), .ptr 3 15, .int .i64 (((cs.getD (((i : Int)).toNat) Cde.z).l.getD (((k : Int)).toNat) In.z).to_), .str (labL (((cs.getD (((i : Int)).toNat) Cde.z).l.getD (((k : Int)).toNat) In.z).to_)), .tup [.str (pt ((cs.getD (((i : Int)).toNat) Cde.z).l.getD (((k : Int)).toNat) In.z) (labL (((cs.getD (((i : Int)).toNat) Cde.z).l.getD (((k : Int)).toNat) In.z).to_))), .int .i64 (pe ((cs.getD (((i : Int)).toNat) Cde.z).l.getD (((k : Int)).toNat) In.z) (labL (((cs.getD (((i : Int)).toNat) Cde.z).l.getD (((k : Int)).toNat) In.z).to_)))], .tup [.str (pt ((cs.getD (((i : Int)).toNat) Cde.z).l.getD (((k : Int)).toNat) In.z) (labL (((cs.getD (((i : Int)).toNat) Cde.z).l.getD (((k : Int)).toNat) In.z).to_))), .int .i64 (pe ((cs.getD (((i : Int)).toNat) Cde.z).l.getD (((k : Int)).toNat) In.z) (labL (((cs.getD (((i : Int)).toNat) Cde.z).l.getD (((k : Int)).toNat) In.z).to_)))], .str (pt ((cs.getD (((i : Int)).toNat) Cde.z).l.getD (((k : Int)).toNat) In.z) (labL (((cs.getD (((i : Int)).toNat) Cde.z).l.getD (((k : Int)).toNat) In.z).to_))), .int .i64 (pe ((cs.getD (((i : Int)).toNat) Cde.z).l.getD (((k : Int)).toNat) In.z) (labL (((cs.getD (((i : Int)).toNat) Cde.z).l.getD (((k : Int)).toNat) In.z).to_))), .str (pt ((cs.getD (((i : Int)).toNat) Cde.z).l.getD (((k : Int)).toNat) In.z) (labL (((cs.getD (((i : Int)).toNat) Cde.z).l.getD (((k : Int)).toNat) In.z).to_))), .int .i64 (pe ((cs.getD (((i : Int)).toNat) Cde.z).l.getD (((k : Int)).toNat) In.z) (labL (((cs.getD (((i : Int)).toNat) Cde.z).l.getD (((k : Int)).toNat) In.z).to_)))] [] [] 0 [([], [], [some (cdL9 cs), some (.blk [.str tt, .fn f1 [], .fn fp [], .fn f3 []]), some (.lst 17 ((cs.getD (((i : Int)).toNat) Cde.z).l.length) (fun zz => insS ((cs.getD (((i : Int)).toNat) Cde.z).l.getD zz In.z))), some (.blk (inQ9 ((cs.getD (((i : Int)).toNat) Cde.z).l.getD (((k : Int)).toNat) In.z)))])] [[true, true, true, true, true, true, true, true, true, true, true, true]] A rfl rfl rfl rfl (by kernel_rfl) rfl (by kernel_rfl) ⟨⟨oV9 0 rfl rfl, ⟨oV9 0 rfl rfl, ⟨oV9 0 rfl rfl, ⟨oV9 0 rfl rfl, ⟨oV9 0 rfl rfl, ⟨oE9 0 rfl (callIE [] GC.ok hI (FnI.mono (lab_ (((cs.getD (((i : Int)).toNat) Cde.z).l.getD (((k : Int)).toNat) In.z).to_) os hM hT hE (hR _ (cd_at h1) _ (in_at h2)).2.1 (hR _ (cd_at h1) _ (in_at h2)).2.2) fun _ _ q => q.1) rfl rfl rfl rfl rfl rfl rfl), ⟨oE9 0 rfl (callIE [] GC.ok hI (FnI.mono (hp ((cs.getD (((i : Int)).toNat) Cde.z).l.getD (((k : Int)).toNat) In.z) (labL (((cs.getD (((i : Int)).toNat) Cde.z).l.getD (((k : Int)).toNat) In.z).to_)) (hR _ (cd_at h1) _ (in_at h2)).1 (Nat.le_trans (labL_len _ (hR _ (cd_at h1) _ (in_at h2)).2.1 (hR _ (cd_at h1) _ (in_at h2)).2.2) (by decide))) fun _ _ q => q.1) rfl rfl rfl rfl rfl rfl rfl), ⟨oV9 0 rfl rfl, ⟨oV9 0 rfl rfl, ⟨oV9 0 rfl rfl, ⟨oV9 0 rfl rfl, ⟨oV9 0 rfl rfl, trivial⟩⟩⟩⟩⟩⟩⟩⟩⟩⟩⟩⟩, trivial⟩ fun A => N9 7 A rfl rfl fun A => forkN 34 A rfl
      (fun h3 A => N9 7 A rfl rfl fun A => R9 A rfl h0 rfl (by rw [prAll_bad (pe := (fun i => pe i (labL i.to_))) h1 h2 h3]; rfl) rfl)
      (fun h3 A => N9 8 A rfl (ok_d (by (try have hy := len_at hs ((i : Int)).toNat); (try have := hK.le); (try have := hJ.le); omega) <| okE_nil) fun A => ⟨k + 1, _, (by omega), (hK.nx h2 h3), ((A.cut [2, 4, 11, 12, 13, 17, 18, 19] rfl).trunc 2 rfl rfl rfl (by simp only [List.length_cons, List.length_nil] at h0; omega))⟩))
     (fun h2 A => N9 8 A rfl (ok_d (by (try have hy := len_at hs ((i : Int)).toNat); (try have := hK.le); (try have := hJ.le); omega) <| okE_nil) fun A => ⟨i + 1, _, (by omega), (hJ.nx h1 (hK.good h2)), ((A.cut [2, 4, 11, 12, 13] rfl).trunc 2 rfl rfl rfl (by simp only [List.length_cons, List.length_nil] at h0; omega))⟩))
   (fun h1 A => N9 9 A rfl rfl fun A => R9 A rfl h0 rfl (by rw [hJ.good h1]; rfl) rfl)
theorem langs_   : Fn Tryz.prog 80 [] [] (Rt (.sl 0 3 3) [some (.blk [.str [88, 56, 54], .fn 109 [], .fn 110 [], .fn 111 [], .str [82, 73, 83, 67, 86], .fn 112 [], .fn 113 [], .fn 114 [], .str [65, 82, 77], .fn 115 [], .fn 116 [], .fn 117 []])]) :=
 enterM (n := 5) (by kernel_rfl) Tryz.func80 rfl rfl rfl fun G w a h0 A => N9 15 A rfl rfl fun A => RET hX [0] A ⟨rfl, rfl⟩ rfl rfl rfl rfl rfl rfl rfl rfl h0
theorem langOf1   : Fn Tryz.prog 46 [.int .i64 1] [] (Rt (.tup [.agg [.str [88, 56, 54], .fn 109 [], .fn 110 [], .fn 111 []], .tt]) []) :=
 enterM (n := 16) (by kernel_rfl) Tryz.func46 rfl rfl rfl fun G w a h0 A => N9 17 A rfl rfl fun A => fork 9 A rfl
  (fun h1 A => absurd h1 (by decide))
  (fun h1 A => N9 5 A rfl rfl fun A => C9 [] langs_ A rfl fun A => N9 2 A rfl (ok_d (by decide) <| okE_nil) fun A => have A := sy_sayD A 13 (.int .i64 0) rfl (fun _ => rfl); N9 1 A rfl (ok_d (by decide) <| okE_nil) fun A => have A := sy_sayD A 14 (.ptr 1 0) rfl (ix_ptr 0 rfl); N9 6 A rfl rfl fun A => R9 A rfl h0 rfl rfl rfl)
theorem langOf2   : Fn Tryz.prog 46 [.int .i64 2] [] (Rt (.tup [.agg [.str [82, 73, 83, 67, 86], .fn 112 [], .fn 113 [], .fn 114 []], .tt]) []) :=
 enterM (n := 16) (by kernel_rfl) Tryz.func46 rfl rfl rfl fun G w a h0 A => N9 17 A rfl rfl fun A => fork 9 A rfl
  (fun h1 A => absurd h1 (by decide))
  (fun h1 A => N9 5 A rfl rfl fun A => C9 [] langs_ A rfl fun A => N9 2 A rfl (ok_d (by decide) <| okE_nil) fun A => have A := sy_sayD A 13 (.int .i64 1) rfl (fun _ => rfl); N9 1 A rfl (ok_d (by decide) <| okE_nil) fun A => have A := sy_sayD A 14 (.ptr 1 4) rfl (ix_ptr 1 rfl); N9 6 A rfl rfl fun A => R9 A rfl h0 rfl rfl rfl)
theorem langOf3   : Fn Tryz.prog 46 [.int .i64 3] [] (Rt (.tup [.agg [.str [65, 82, 77], .fn 115 [], .fn 116 [], .fn 117 []], .tt]) []) :=
 enterM (n := 16) (by kernel_rfl) Tryz.func46 rfl rfl rfl fun G w a h0 A => N9 17 A rfl rfl fun A => fork 9 A rfl
  (fun h1 A => absurd h1 (by decide))
  (fun h1 A => N9 5 A rfl rfl fun A => C9 [] langs_ A rfl fun A => N9 2 A rfl (ok_d (by decide) <| okE_nil) fun A => have A := sy_sayD A 13 (.int .i64 2) rfl (fun _ => rfl); N9 1 A rfl (ok_d (by decide) <| okE_nil) fun A => have A := sy_sayD A 14 (.ptr 1 8) rfl (ix_ptr 2 rfl); N9 6 A rfl rfl fun A => R9 A rfl h0 rfl rfl rfl)
theorem langOf0 (ar : Int) (ha : ¬ (1 ≤ ar ∧ ar ≤ 3)) : Fn Tryz.prog 46 [.int .i64 ar] [] (Rt (.tup [.agg [.str [], .v .nilFunc, .v .nilFunc, .v .nilFunc], .ff]) []) :=
 enterM (n := 16) (by kernel_rfl) Tryz.func46 rfl rfl rfl fun G w a h0 A => N9 17 A rfl rfl fun A => fork 9 A rfl
  (fun h1 A => N9 9 A rfl rfl fun A => R9 A rfl h0 rfl rfl rfl)
  (fun h1 A => absurd h1 (by simp only [Bool.or_eq_false_iff, decide_eq_false_iff_not]; omega))
def quan0 (qu : Int) : List UInt8 := if qu = 1 then [101, 120, 105, 115, 116, 115] else if qu = 2 then [126, 32, 101, 120, 105, 115, 116, 115] else if qu = 3 then [102, 111, 114, 97, 108, 108] else []
theorem quan_ (qu : Int)  : Fn Tryz.prog 50 [.int .i64 qu] [] (Rt (.str (quan0 qu)) []) :=
 enterM (n := 10) (by kernel_rfl) Tryz.func50 rfl rfl rfl fun G w a h0 A => N9 18 A rfl rfl fun A => forkE 4 A rfl
  (fun h1 A => N9 7 A rfl rfl fun A => R9 A rfl h0 rfl (by simp only [oneS, nb, nbL, nbH, quan0, if_pos h1]) rfl)
  (fun h1 A => N9 7 A rfl rfl fun A => forkE 6 A rfl
   (fun h2 A => N9 7 A rfl rfl fun A => R9 A rfl h0 rfl (by simp only [oneS, nb, nbL, nbH, quan0, if_neg (h1), if_pos h2]) rfl)
   (fun h2 A => N9 7 A rfl rfl fun A => forkE 8 A rfl
    (fun h3 A => N9 7 A rfl rfl fun A => R9 A rfl h0 rfl (by simp only [oneS, nb, nbL, nbH, quan0, if_neg (h1), if_neg (h2), if_pos h3]) rfl)
    (fun h3 A => N9 10 A rfl rfl fun A => R9 A rfl h0 rfl (by simp only [oneS, nb, nbL, nbH, quan0, if_neg (h1), if_neg (h2), if_neg (h3)]) rfl)))
end Go.Proofs.YtbbdanhpphlbpaaGreatDoor
namespace Go.Proofs.YtbbdanhpphlbpaaGreatDoor
open Go.RowKit
set_option linter.unusedVariables false
set_option linter.unusedSimpArgs false
set_option linter.unusedSectionVars false
section
variable {P : Program} {n : Nat} {ks : List Nat} {G0 : Gr} {w0 : World} {T : List (Nat × SV)} {H : Hp} {G : Gr} {a : Act} {w w' : World} {ops : Array Oper} {o : Oper} {rest : List Oper} {Q : Exit → Act → World → Prop} {K : List Fr}
end
def RdAt (ao : Option Addr) (l : List Int) (w : World) (ks : List Nat) : Prop :=
 l = [] ∨ ∃ b o, ao = some ⟨b, o, none⟩ ∧ b < w.heap.size ∧ ks.contains b = false ∧ w.rangeAt b o (l.map (Value.int .i64))
theorem RdAt.at {ao : Option Addr} {x : Int} {l : List Int} {w : World} {ks : List Nat} (h : RdAt ao (x :: l) w ks) : ∃ b o, ao = some ⟨b, o, none⟩ := by
 rcases h with h | ⟨b, o, h1, _⟩
 ·cases h
 ·exact ⟨b, o, h1⟩
section
variable {P : Program} {Y : Tb} {n : Nat} {ks : List Nat} {G0 : Gr} {w0 : World} {T : List (Nat × SV)} {H : Hp} {ops : Array Oper} {o : Oper} {rest : List Oper} {Q : Exit → Act → World → Prop} {K : List Fr}
end
section
variable {P : Program} {n : Nat} {ks : List Nat} {G0 : Gr} {w0 : World} {T : List (Nat × SV)} {H : Hp} {ops : Array Oper} {o : Oper}
theorem arrE {x y : Operand} {t e m s i q k : Nat} {cs : List SV} {p2 : Nat} (hop : o.op = .slice t x (some y) none none) (hg : guardS ops T o.guard = some .run) (hx : evS T x = some (.ptr i q)) (hy : evS T y = some (.int .i64 (k : Int))) (hb : H[i]? = some (some (.blk cs))) (ht : arrB P t m e s = true) (hk : k ≤ m) (h2 : (if m = k then q else q + k * s) = p2) :
  EffOK P n ops ks G0 w0 T H o (.sp (.ptr i p2) (m - k) (m - k)) H := fun G a w A => by
 subst h2
 have hw := gd_run (gd := none) A hg
 obtain ⟨d, op, ty, pos, af, gd⟩ := o
 simp only at hop
 subst hop
 have hvx := A.ev hx
 have hvy := A.ev hy
 obtain ⟨L, vs, hL, _, _⟩ := A.mem.ent i _ hb
 have hG : G[i]? = some (some L) := by
  cases hq : G[i]? with
  | none => rw [hq] at hL; cases hL
  | some p => rw [hq] at hL; simp at hL; rw [hL]
 unfold den at hvx hvy
 rw [hG] at hvx
 simp only [Option.some.injEq] at hvx hvy
 obtain ⟨hu, hsz⟩ := arr_facts ht
 refine does_val (v := .slice (some ⟨L.b, L.pre.length + (if m = k then q else q + k * s), none⟩) (m - k) (m - k)) (w' := w) hw ?_ ⟨[], ?_, by simpa using A.ms⟩
 ·have hsb : (Instr.sliceBounds false m m (some (.int .i64 (k : Int))) none none).run P w = .ok (k, m, m) w := by
   simp [Instr.sliceBounds, run_sliceBound (P := P) w .i64 (k : Int) m _ (by omega) (by omega)]
  unfold execOp
  simp only [← hvx, ← hvy, Option.map_some, Option.map_none, Instr.sliceAt, Sem.run_bind, run_underlying hu, Instr.sureAddr, Sem.run_pure, hsb, Result.andThen_ok, run_size hsz]
  by_cases hc : m = k
  ·simp [hc]
  ·simp [hc, Addr.add_mid, Nat.add_assoc]
 ·rw [List.append_nil]
  unfold den
  have : den G (.ptr i (if m = k then q else q + k * s)) = some (.pointer (some ⟨L.b, L.pre.length + (if m = k then q else q + k * s), none⟩)) := by unfold den; rw [hG]
  rw [this]; rfl
end
end Go.Proofs.YtbbdanhpphlbpaaGreatDoor
namespace Go.Proofs.YtbbdanhpphlbpaaGreatDoor
open Go.RowKit
set_option linter.unusedVariables false
set_option linter.unusedSimpArgs false
set_option maxRecDepth 100000
set_option maxHeartbeats 2000000
set_option simprocs false
abbrev _root_.Go.Proofs.YtbbdanhpphlbpaaGreatDoor.tsQ9 (ar : Int) (nm : List UInt8) (mi r : Nat → Int) (c : SV) (q : Int) (k : SV) : List SV := [.int .i64 ar, .str nm, .int .i64 (mi 0), .int .i64 (mi 1), .int .i64 (mi 2), .int .i64 (r 0), .int .i64 (r 1), .int .i64 (r 2), .int .i64 (r 3), .int .i64 (r 4), .int .i64 (r 5), .int .i64 (r 6), .int .i64 (r 7), .int .i64 (r 8), .int .i64 (r 9), .int .i64 (r 10), .int .i64 (r 11), .int .i64 (r 12), .int .i64 (r 13), .int .i64 (r 14), .int .i64 (r 15), .int .i64 (r 16), .int .i64 (r 17), .int .i64 (r 18), .int .i64 (r 19), .int .i64 (r 20), .int .i64 (r 21), .int .i64 (r 22), .int .i64 (r 23), c, .int .i64 q, k]
abbrev _root_.Go.Proofs.YtbbdanhpphlbpaaGreatDoor.tpQ9 (ar : Int) (nm : List UInt8) (mi r : Nat → Int) : List SV := [.int .i64 ar, .str nm, .int .i64 (mi 0), .int .i64 (mi 1), .int .i64 (mi 2), .int .i64 (r 0), .int .i64 (r 1), .int .i64 (r 2), .int .i64 (r 3), .int .i64 (r 4), .int .i64 (r 5), .int .i64 (r 6), .int .i64 (r 7), .int .i64 (r 8), .int .i64 (r 9), .int .i64 (r 10), .int .i64 (r 11), .int .i64 (r 12), .int .i64 (r 13), .int .i64 (r 14), .int .i64 (r 15), .int .i64 (r 16), .int .i64 (r 17), .int .i64 (r 18), .int .i64 (r 19), .int .i64 (r 20), .int .i64 (r 21), .int .i64 (r 22), .int .i64 (r 23)]
def rowZ (r : Nat → Int) : Nat → Bool
 | 0 => ((r 0 == 0) && ((r 1 == 0) && ((r 2 == 0) && ((r 3 == 0) && ((r 4 == 0) && ((r 5 == 0) && ((r 6 == 0) && (r 7 == 0))))))))
 | 1 => ((r 8 == 0) && ((r 9 == 0) && ((r 10 == 0) && ((r 11 == 0) && ((r 12 == 0) && ((r 13 == 0) && ((r 14 == 0) && (r 15 == 0))))))))
 | _ => ((r 16 == 0) && ((r 17 == 0) && ((r 18 == 0) && ((r 19 == 0) && ((r 20 == 0) && ((r 21 == 0) && ((r 22 == 0) && (r 23 == 0))))))))
def setO (r : Nat → Int) (k : Nat) : Bool := (List.range (3 - k)).any fun j => !(rowZ r (k + j))
structure SoI (r : Nat → Int) (k j : Nat) : Prop where
 le : j ≤ 3 - k
 ok : ∀ q, q < j → rowZ r (k + q) = true
theorem SoI.i0 {r : Nat → Int} {k : Nat} : SoI r k 0 := ⟨Nat.zero_le _, fun q hq => by omega⟩
theorem SoI.nx {r : Nat → Int} {k j : Nat} (h : SoI r k j) (h1 : j < 3 - k) (h2 : (!(rowZ r (k + j))) = false) : SoI r k (j + 1) := ⟨by omega, fun q hq => by
 by_cases e : q = j
 ·subst e; cases hz : rowZ r (k + q) with
  | true => rfl
  | false => rw [hz] at h2; cases h2
 ·exact h.ok q (by omega)⟩
theorem SoI.good {r : Nat → Int} {k j : Nat} (h : SoI r k j) (h1 : ¬ j < 3 - k) : setO r k = false := by
 unfold setO
 rw [List.any_eq_false]
 intro q hq
 have := h.ok q (by have := List.mem_range.1 hq; omega)
 rw [this]; decide
theorem setO_bad {r : Nat → Int} {k j : Nat} (h1 : j < 3 - k) (h2 : (!(rowZ r (k + j))) = true) : setO r k = true := by
 unfold setO
 rw [List.any_eq_true]
 exact ⟨j, List.mem_range.2 h1, h2⟩
abbrev _root_.Go.Proofs.YtbbdanhpphlbpaaGreatDoor.cnL9 (kd : List Cn) : Ent := .lst 5 kd.length (fun zz => cc (kd.getD zz Cn.z))
theorem setsO1 (ar : Int) (nm : List UInt8) (mi r : Nat → Int) (cs : List Cde) (cx : Nat) (qu : Int) (kd : List Cn) (ck : Nat) (hk : cs.length = 1) : Fn Tryz.prog 52 [.agg (tsQ9 ar nm mi r (.sl 0 cs.length cx) qu (.sl 1 kd.length ck))] [some (cdL9 cs), some (cnL9 kd)] (Rt (.bool (setO r 1)) [some (cdL9 cs), some (cnL9 kd)]) :=
 enterM (n := 19) (by kernel_rfl) Tryz.func52 rfl rfl rfl fun G w a h0 A => N9 13 A rfl rfl fun A => have A := sy_sayD A 8 (.int .i64 1) rfl (fun _ => by rw [hk]; rfl); q_eff A rfl (arrE (m := 3) (s := 8) (e := 23) (k := 1) rfl rfl rfl rfl rfl (by kernel_rfl) (by decide) rfl) fun A => N9 5 A rfl rfl fun A => LOOP1 (fun (j : Nat) => [(2, .ff), (9, .sp (.ptr 2 13) 2 2), (10, .int .i64 ((2 : Nat) : Int)), (11, .int .i64 (j : Int))]) (fun (j : Nat) => [some (cdL9 cs), some (cnL9 kd), some (.blk (tsQ9 ar nm mi r (.sl 0 cs.length cx) qu (.sl 1 kd.length ck)))]) (fun (j : Nat) => SoI r 1 j) (fun (j : Nat) => 2 - j) 0 SoI.i0 ((A.cut [2, 9, 10, 11] rfl).trunc 3 rfl rfl rfl (by simp only [List.length_cons, List.length_nil] at h0; omega)) fun j hJ {G a w} A => N9 6 A rfl rfl fun A => forkD 12 A rfl
   (fun h1 A => N9 7 A rfl rfl fun A => Decidable.byCases (p := j = 0) (fun e0 => have A := A.say 11 (.int .i64 0) rfl (by rw [e0]; rfl); N9 1 A rfl (ok_d (by (try have := hJ.le); omega) <| okE_nil) fun A => have A := sy_sayD A 13 (.ptr 2 13) rfl (ix_ptr 0 rfl); N9 12 A rfl rfl fun A => fork 17 A rfl
     (fun h2 A => N9 7 A rfl rfl fun A => R9 A rfl h0 rfl (by rw [setO_bad (k := 1) (j := 0) (by decide) h2]; rfl) rfl)
     (fun h2 A => N9 8 A rfl (ok_d (by (try have := hJ.le); omega) <| okE_nil) fun A => ⟨j + 1, _, (by omega), (hJ.nx (by omega) (by rw [e0]; exact h2)), ((A.cut [2, 9, 10, 11] rfl).trunc 3 rfl rfl rfl (by simp only [List.length_cons, List.length_nil] at h0; omega)).sayT (by rw [e0]; rfl)⟩)) fun ne0 => (have e1 : j = 1 := (by omega); have A := A.say 11 (.int .i64 1) rfl (by rw [e1]; rfl); N9 1 A rfl (ok_d (by (try have := hJ.le); omega) <| okE_nil) fun A => have A := sy_sayD A 13 (.ptr 2 21) rfl (ix_ptr 1 rfl); N9 12 A rfl rfl fun A => fork 17 A rfl
     (fun h3 A => N9 7 A rfl rfl fun A => R9 A rfl h0 rfl (by rw [setO_bad (k := 1) (j := 1) (by decide) h3]; rfl) rfl)
     (fun h3 A => N9 8 A rfl (ok_d (by (try have := hJ.le); omega) <| okE_nil) fun A => ⟨j + 1, _, (by omega), (hJ.nx (by omega) (by rw [e1]; exact h3)), ((A.cut [2, 9, 10, 11] rfl).trunc 3 rfl rfl rfl (by simp only [List.length_cons, List.length_nil] at h0; omega)).sayT (by rw [e1]; rfl)⟩)))
   (fun h1 A => N9 9 A rfl rfl fun A => R9 A rfl h0 rfl (by rw [hJ.good (by omega)]; rfl) rfl)
theorem setsO2 (ar : Int) (nm : List UInt8) (mi r : Nat → Int) (cs : List Cde) (cx : Nat) (qu : Int) (kd : List Cn) (ck : Nat) (hk : cs.length = 2) : Fn Tryz.prog 52 [.agg (tsQ9 ar nm mi r (.sl 0 cs.length cx) qu (.sl 1 kd.length ck))] [some (cdL9 cs), some (cnL9 kd)] (Rt (.bool (setO r 2)) [some (cdL9 cs), some (cnL9 kd)]) :=
 enterM (n := 19) (by kernel_rfl) Tryz.func52 rfl rfl rfl fun G w a h0 A => N9 13 A rfl rfl fun A => have A := sy_sayD A 8 (.int .i64 2) rfl (fun _ => by rw [hk]; rfl); q_eff A rfl (arrE (m := 3) (s := 8) (e := 23) (k := 2) rfl rfl rfl rfl rfl (by kernel_rfl) (by decide) rfl) fun A => N9 5 A rfl rfl fun A => LOOP1 (fun (j : Nat) => [(2, .ff), (9, .sp (.ptr 2 21) 1 1), (10, .int .i64 ((1 : Nat) : Int)), (11, .int .i64 (j : Int))]) (fun (j : Nat) => [some (cdL9 cs), some (cnL9 kd), some (.blk (tsQ9 ar nm mi r (.sl 0 cs.length cx) qu (.sl 1 kd.length ck)))]) (fun (j : Nat) => SoI r 2 j) (fun (j : Nat) => 1 - j) 0 SoI.i0 ((A.cut [2, 9, 10, 11] rfl).trunc 3 rfl rfl rfl (by simp only [List.length_cons, List.length_nil] at h0; omega)) fun j hJ {G a w} A => N9 6 A rfl rfl fun A => forkD 12 A rfl
   (fun h1 A => N9 7 A rfl rfl fun A => (have e0 : j = 0 := (by omega); have A := A.say 11 (.int .i64 0) rfl (by rw [e0]; rfl); N9 1 A rfl (ok_d (by (try have := hJ.le); omega) <| okE_nil) fun A => have A := sy_sayD A 13 (.ptr 2 21) rfl (ix_ptr 0 rfl); N9 12 A rfl rfl fun A => fork 17 A rfl
     (fun h2 A => N9 7 A rfl rfl fun A => R9 A rfl h0 rfl (by rw [setO_bad (k := 2) (j := 0) (by decide) h2]; rfl) rfl)
     (fun h2 A => N9 8 A rfl (ok_d (by (try have := hJ.le); omega) <| okE_nil) fun A => ⟨j + 1, _, (by omega), (hJ.nx (by omega) (by rw [e0]; exact h2)), ((A.cut [2, 9, 10, 11] rfl).trunc 3 rfl rfl rfl (by simp only [List.length_cons, List.length_nil] at h0; omega)).sayT (by rw [e0]; rfl)⟩)))
   (fun h1 A => N9 9 A rfl rfl fun A => R9 A rfl h0 rfl (by rw [hJ.good (by omega)]; rfl) rfl)
theorem setsO3 (ar : Int) (nm : List UInt8) (mi r : Nat → Int) (cs : List Cde) (cx : Nat) (qu : Int) (kd : List Cn) (ck : Nat) (hk : cs.length = 3) : Fn Tryz.prog 52 [.agg (tsQ9 ar nm mi r (.sl 0 cs.length cx) qu (.sl 1 kd.length ck))] [some (cdL9 cs), some (cnL9 kd)] (Rt (.bool (setO r 3)) [some (cdL9 cs), some (cnL9 kd)]) :=
 enterM (n := 19) (by kernel_rfl) Tryz.func52 rfl rfl rfl fun G w a h0 A => N9 13 A rfl rfl fun A => have A := sy_sayD A 8 (.int .i64 3) rfl (fun _ => by rw [hk]; rfl); q_eff A rfl (arrE (m := 3) (s := 8) (e := 23) (k := 3) rfl rfl rfl rfl rfl (by kernel_rfl) (by decide) rfl) fun A => N9 5 A rfl rfl fun A => LOOP1 (fun (j : Nat) => [(2, .ff), (9, .sp (.ptr 2 5) 0 0), (10, .int .i64 ((0 : Nat) : Int)), (11, .int .i64 (j : Int))]) (fun (j : Nat) => [some (cdL9 cs), some (cnL9 kd), some (.blk (tsQ9 ar nm mi r (.sl 0 cs.length cx) qu (.sl 1 kd.length ck)))]) (fun (j : Nat) => SoI r 3 j) (fun (j : Nat) => 0 - j) 0 SoI.i0 ((A.cut [2, 9, 10, 11] rfl).trunc 3 rfl rfl rfl (by simp only [List.length_cons, List.length_nil] at h0; omega)) fun j hJ {G a w} A => N9 6 A rfl rfl fun A => forkD 12 A rfl
   (fun h1 A => N9 7 A rfl rfl fun A => absurd h1 (by omega))
   (fun h1 A => N9 9 A rfl rfl fun A => R9 A rfl h0 rfl (by rw [hJ.good (by omega)]; rfl) rfl)
theorem bel_ (p q : Int)  : Fn Tryz.prog 126 [.int .i64 p, .int .i64 q] [] (Rt (.bool ((decide (0 ≤ p)) && (decide (p < q)))) []) :=
 enterM (n := 12) (by kernel_rfl) Tryz.func126 rfl rfl rfl fun G w a h0 A => N9 18 A rfl rfl fun A => R9 A rfl h0 rfl rfl rfl
def nod0 (kd th rg lc vl : Int) : Bool := if kd = 1 then if ((decide (0 ≤ th)) && (decide (th < 3))) = true then ((decide (0 ≤ rg)) && (decide (rg < 8))) && (lc == 0) else false else if kd = 2 then (((decide (0 ≤ lc)) && (decide (lc < 3))) && (th == 0)) && (rg == 0) else if kd = 3 then ((kd == kd) && ((th == 0) && ((rg == 0) && ((lc == 0) && (vl == 0))))) else if kd = 4 then ((kd == kd) && ((th == 0) && ((rg == 0) && ((lc == 0) && (vl == 0))))) else if kd = 5 then ((kd == kd) && ((th == 0) && ((rg == 0) && ((lc == 0) && (vl == 0))))) else false
theorem nod_ (kd th rg lc vl : Int)  : Fn Tryz.prog 85 [.agg [.int .i64 kd, .int .i64 th, .int .i64 rg, .int .i64 lc, .int .i64 vl]] [] (Rt (.bool (nod0 kd th rg lc vl)) []) :=
 enterM (n := 44) (by kernel_rfl) Tryz.func85 rfl rfl rfl fun G w a h0 A => N9 20 A rfl rfl fun A => forkE 5 A rfl
  (fun h1 A => N9 5 A rfl rfl fun A => C9 [] (bel_ th 3) A rfl fun A => N9 1 A rfl rfl fun A => fork 10 A rfl
   (fun h2 A => N9 2 A rfl rfl fun A => C9 [] (bel_ rg 8) A rfl fun A => N9 10 A rfl rfl fun A => R9 A rfl h0 rfl (by simp only [oneS, nb, nbL, nbH, nod0, if_pos h1, if_pos h2]) rfl)
   (fun h2 A => N9 13 A rfl rfl fun A => R9 A rfl h0 rfl (by simp only [oneS, nb, nbL, nbH, nod0, if_pos h1, if_neg (ne_true_of_eq_false h2)]) rfl))
  (fun h1 A => N9 7 A rfl rfl fun A => forkE 20 A rfl
   (fun h3 A => N9 5 A rfl rfl fun A => C9 [] (bel_ lc 3) A rfl fun A => N9 14 A rfl rfl fun A => R9 A rfl h0 rfl (by simp only [oneS, nb, nbL, nbH, nod0, if_neg (h1), if_pos h3]) rfl)
   (fun h3 A => N9 8 A rfl rfl fun A => forkE 35 A rfl
    (fun h4 A => N9 15 A rfl rfl fun A => R9 A rfl h0 rfl (by simp only [oneS, nb, nbL, nbH, nod0, if_neg (h1), if_neg (h3), if_pos h4]) rfl)
    (fun h4 A => N9 7 A rfl rfl fun A => forkE 35 A rfl
     (fun h5 A => N9 15 A rfl rfl fun A => R9 A rfl h0 rfl (by simp only [oneS, nb, nbL, nbH, nod0, if_neg (h1), if_neg (h3), if_neg (h4), if_pos h5]) rfl)
     (fun h5 A => N9 6 A rfl rfl fun A => forkE 35 A rfl
      (fun h6 A => N9 12 A rfl rfl fun A => R9 A rfl h0 rfl (by simp only [oneS, nb, nbL, nbH, nod0, if_neg (h1), if_neg (h3), if_neg (h4), if_neg (h5), if_pos h6]) rfl)
      (fun h6 A => N9 10 A rfl rfl fun A => R9 A rfl h0 rfl (by simp only [oneS, nb, nbL, nbH, nod0, if_neg (h1), if_neg (h3), if_neg (h4), if_neg (h5), if_neg (h6)]) rfl)))))
def pts0 (kd : Int) : Int := if kd = 3 then 1 else if kd = 4 then 2 else if kd = 5 then 2 else 0
theorem pts_ (kd : Int)  : Fn Tryz.prog 86 [.int .i64 kd] [] (Rt (.int .i64 (pts0 kd)) []) :=
 enterM (n := 9) (by kernel_rfl) Tryz.func86 rfl rfl rfl fun G w a h0 A => N9 18 A rfl rfl fun A => forkE 4 A rfl
  (fun h1 A => N9 7 A rfl rfl fun A => R9 A rfl h0 rfl (by simp only [oneS, nb, nbL, nbH, pts0, if_pos h1]) rfl)
  (fun h1 A => N9 8 A rfl rfl fun A => forkE 6 A rfl
   (fun h2 A => N9 10 A rfl rfl fun A => R9 A rfl h0 rfl (by simp only [oneS, nb, nbL, nbH, pts0, if_neg (h1), if_pos h2]) rfl)
   (fun h2 A => N9 6 A rfl rfl fun A => forkE 6 A rfl
    (fun h3 A => N9 7 A rfl rfl fun A => R9 A rfl h0 rfl (by simp only [oneS, nb, nbL, nbH, pts0, if_neg (h1), if_neg (h2), if_pos h3]) rfl)
    (fun h3 A => N9 10 A rfl rfl fun A => R9 A rfl h0 rfl (by simp only [oneS, nb, nbL, nbH, pts0, if_neg (h1), if_neg (h2), if_neg (h3)]) rfl)))
def nodC (c : Cn) : Bool := nod0 c.k c.t c.r c.l c.v
def rgo : List Cn → Int → Bool
 | [], h => h == 1
 | c :: l, h => if nodC c = false ∨ h < pts0 c.k then false else rgo l (h + (1 - pts0 c.k))
def rgt (l : List Cn) : Bool := if ((l.length : Nat) : Int) > 32 then false else rgo l 0
theorem pts_rng (k : Int) : 0 ≤ pts0 k ∧ pts0 k ≤ 2 := by unfold pts0; split <;> (try split) <;> (try split) <;> omega
structure RgI (kd : List Cn) (i : Nat) (h : Int) : Prop where
 le : i ≤ kd.length
 h0 : 0 ≤ h
 h1 : h ≤ i
 eq : rgo kd 0 = rgo (kd.drop i) h
section
variable {kd : List Cn} {i : Nat} {h : Int}
theorem RgI.i0 : RgI kd 0 0 := ⟨Nat.zero_le _, by omega, by omega, by rw [List.drop_zero]⟩
theorem RgI.at (hI : RgI kd i h) (h1 : (i : Int) < ((kd.length : Nat) : Int)) : rgo kd 0 = if nodC (kd.getD ((i : Int)).toNat Cn.z) = false ∨ h < pts0 (kd.getD ((i : Int)).toNat Cn.z).k then false else rgo (kd.drop (i + 1)) (h + (1 - pts0 (kd.getD ((i : Int)).toNat Cn.z).k)) := by
 have hi : i < kd.length := by omega
 have e : (kd.getD ((i : Int)).toNat Cn.z) = kd[i] := by rw [Int.toNat_natCast, List.getD_eq_getElem?_getD, List.getElem?_eq_getElem hi]; rfl
 rw [hI.eq, List.drop_eq_getElem_cons hi, rgo, e]
theorem RgI.b1 (hI : RgI kd i h) (h1 : (i : Int) < ((kd.length : Nat) : Int)) (h2 : (!(nodC (kd.getD ((i : Int)).toNat Cn.z))) = true) : rgo kd 0 = false := by
 rw [hI.at h1, if_pos (.inl (by cases hq : nodC (kd.getD ((i : Int)).toNat Cn.z); rfl; rw [hq] at h2; cases h2))]
theorem RgI.b2 (hI : RgI kd i h) (h1 : (i : Int) < ((kd.length : Nat) : Int)) (h2 : h < pts0 (kd.getD ((i : Int)).toNat Cn.z).k) : rgo kd 0 = false := by rw [hI.at h1, if_pos (.inr h2)]
theorem RgI.nx (hI : RgI kd i h) (h1 : (i : Int) < ((kd.length : Nat) : Int)) (h2 : (!(nodC (kd.getD ((i : Int)).toNat Cn.z))) = false) (h3 : ¬ h < pts0 (kd.getD ((i : Int)).toNat Cn.z).k) : RgI kd (i + 1) (h + (1 - pts0 (kd.getD ((i : Int)).toNat Cn.z).k)) := by
 have hn : nodC (kd.getD ((i : Int)).toNat Cn.z) = true := by cases hq : nodC (kd.getD ((i : Int)).toNat Cn.z); (rw [hq] at h2; cases h2); rfl
 have hp := pts_rng (kd.getD ((i : Int)).toNat Cn.z).k
 have k0 := hI.h0; have k1 := hI.h1
 refine ⟨by omega, by omega, by omega, ?_⟩
 rw [hI.at h1, if_neg (by rintro (e | e); rw [hn] at e; cases e; exact h3 e)]
theorem RgI.fi (hI : RgI kd i h) (h1 : ¬ (i : Int) < ((kd.length : Nat) : Int)) : rgo kd 0 = (h == 1) := by
 rw [hI.eq, List.drop_eq_nil_of_le (by omega), rgo]
end
theorem cRight_ (kd : List Cn) (ck : Nat)  : Fn Tryz.prog 51 [.sl 0 kd.length ck] [some (cnL9 kd)] (Rt (.bool (rgt kd)) [some (cnL9 kd)]) :=
 enterM (n := 34) (by kernel_rfl) Tryz.func51 rfl rfl rfl fun G w a h0 A => N9 13 A rfl rfl fun A => forkD 8 A rfl
  (fun h1 A => N9 7 A rfl rfl fun A => R9 A rfl h0 rfl (by unfold rgt; rw [if_pos h1]; rfl) rfl)
  (fun h1 A => N9 17 A rfl rfl fun A => LOOP2 (fun (i : Nat) (h : Int) => [(2, .ff), (3, .int .i64 h), (9, .sl 0 kd.length ck), (10, .int .i64 ((kd.length : Nat) : Int)), (11, .int .i64 (i : Int))]) (fun (i : Nat) (h : Int) => [some (cnL9 kd)]) (fun (i : Nat) (h : Int) => RgI kd i h) (fun (i : Nat) (h : Int) => kd.length - i) 0 0 RgI.i0 ((A.cut [2, 3, 9, 10, 11] rfl).trunc 1 rfl rfl rfl (by simp only [List.length_cons, List.length_nil] at h0; omega)) fun i h hJ {G a w} A => N9 6 A rfl rfl fun A => forkD 12 A rfl
    (fun h2 A => N9 15 A rfl (ok_d (by (try have hp := pts_rng (kd.getD ((i : Int)).toNat Cn.z).k); (try have := hJ.le); (try have := hJ.h0); (try have := hJ.h1); omega) <| ok_d (by (try have hp := pts_rng (kd.getD ((i : Int)).toNat Cn.z).k); (try have := hJ.le); (try have := hJ.h0); (try have := hJ.h1); omega) <| okE_nil) fun A => N9 2 A rfl rfl fun A => C9 [] (nod_ (kd.getD (((i : Int)).toNat) Cn.z).k (kd.getD (((i : Int)).toNat) Cn.z).t (kd.getD (((i : Int)).toNat) Cn.z).r (kd.getD (((i : Int)).toNat) Cn.z).l (kd.getD (((i : Int)).toNat) Cn.z).v) A rfl fun A => N9 2 A rfl rfl fun A => fork 18 A rfl
     (fun h3 A => N9 15 A rfl rfl fun A => R9 A rfl h0 rfl (by unfold rgt; rw [if_neg h1, hJ.b1 h2 h3]; rfl) rfl)
     (fun h3 A => N9 3 A rfl rfl fun A => C9 [] (pts_ ((kd.getD (((i : Int)).toNat) Cn.z).k)) A rfl fun A => N9 4 A rfl rfl fun A => forkD 24 A rfl
      (fun h4 A => N9 7 A rfl rfl fun A => R9 A rfl h0 rfl (by unfold rgt; rw [if_neg h1, hJ.b2 h2 h4]; rfl) rfl)
      (fun h4 A => N9 7 A rfl rfl fun A => C9 [] (pts_ ((kd.getD (((i : Int)).toNat) Cn.z).k)) A rfl fun A => N9 6 A rfl (ok_d (by (try have hp := pts_rng (kd.getD ((i : Int)).toNat Cn.z).k); (try have := hJ.le); (try have := hJ.h0); (try have := hJ.h1); omega) <| ok_d (by (try have hp := pts_rng (kd.getD ((i : Int)).toNat Cn.z).k); (try have := hJ.le); (try have := hJ.h0); (try have := hJ.h1); omega) <| okE_nil) fun A => N9 4 A rfl (ok_d (by (try have hp := pts_rng (kd.getD ((i : Int)).toNat Cn.z).k); (try have := hJ.le); (try have := hJ.h0); (try have := hJ.h1); omega) <| okE_nil) fun A => ⟨i + 1, h + (1 - pts0 (kd.getD ((i : Int)).toNat Cn.z).k), _, (by omega), (hJ.nx h2 h3 h4), ((A.cut [2, 3, 9, 10, 11] rfl).trunc 1 rfl rfl rfl (by simp only [List.length_cons, List.length_nil] at h0; omega))⟩)))
    (fun h2 A => N9 11 A rfl rfl fun A => R9 A rfl h0 rfl (by unfold rgt; rw [if_neg h1, hJ.fi h2]; rfl) rfl))
theorem setsOA (ar : Int) (nm : List UInt8) (mi r : Nat → Int) (cs : List Cde) (cx : Nat) (qu : Int) (kd : List Cn) (ck : Nat) (h : 1 ≤ cs.length ∧ cs.length ≤ 3) : Fn Tryz.prog 52 [.agg (tsQ9 ar nm mi r (.sl 0 cs.length cx) qu (.sl 1 kd.length ck))] [some (cdL9 cs), some (cnL9 kd)] (Rt (.bool (setO r cs.length)) [some (cdL9 cs), some (cnL9 kd)]) := by
 have e : cs.length = 1 ∨ cs.length = 2 ∨ cs.length = 3 := by omega
 rcases e with e | e | e
 ·have := setsO1 ar nm mi r cs cx qu kd ck e
  rw [show setO r cs.length = setO r 1 by rw [e]]
  exact this
 ·have := setsO2 ar nm mi r cs cx qu kd ck e
  rw [show setO r cs.length = setO r 2 by rw [e]]
  exact this
 ·have := setsO3 ar nm mi r cs cx qu kd ck e
  rw [show setO r cs.length = setO r 3 by rw [e]]
  exact this
theorem ck_len {cs : List Cde} (h : ckE cs = 0) : 1 ≤ cs.length ∧ cs.length ≤ 3 := by
 unfold ckE at h
 split at h
 ·cases h
 ·next hh => simp only [Bool.or_eq_true, decide_eq_true_eq] at hh; omega
def litC (pe : In → Int) (nm : List UInt8) (cs : List Cde) (qu : Int) (kd : List Cn) (r : Nat → Int) : Int :=
 if (nm.length : Int) > 16 then 40 else if oneN nm = false then 40 else if ckE cs ≠ 0 then ckE cs else if prAll pe cs = false then 36 else
 if quan0 qu = [] then 22 else if rgt kd = false then 22 else if setO r cs.length = true then 1 else 0
theorem litCheck1 (nm : List UInt8) (mi r : Nat → Int) (cs : List Cde) (cx : Nat) (qu : Int) (kd : List Cn) (ck : Nat) (os : List (Nat × Obj)) (hM : ∀ w ks, Gl os w ks → ∃ m, w.cell? ⟨0, 0, none⟩ = some (.int .i64 m)) (hT : ∀ w ks, Gl os w ks → Lib.TabIs Tryz.prog w "internal/strconv.uint64pow10" .u64 Lib.pow10Tab) (hE : ∀ w ks, Gl os w ks → ∃ ev, w.cell? ⟨4, 0, none⟩ = some ev ∧ (ev = .nilIface ∨ ∃ te pe, ev = .iface te pe)) (hs : ∀ c ∈ cs, c.l.length ≤ 9223372036854775807) (hR : ∀ c ∈ cs, ∀ i ∈ c.l, okI i) (hn : cs.length ≤ 9223372036854775807) : FnI (GC os cs) Tryz.prog 9 [.agg (tsQ9 1 nm mi r (.sl 0 cs.length cx) qu (.sl 1 kd.length ck))] [some (cdL9 cs), some (cnL9 kd)] (Rt (.int .i64 (litC (fun i => (fun (i : In) (lb : List UInt8) => (prP x86G x86C i lb).2) i (labL i.to_)) nm cs qu kd r)) [some (cdL9 cs), some (cnL9 kd)]) :=
 enterI (n := 53) (by kernel_rfl) Tryz.func9 rfl rfl rfl fun G w a h0 hI A => N9 10 A rfl rfl fun A => C9 [] langOf1 A rfl fun A => N9 26 A rfl rfl fun A => forkD 20 A rfl
  (fun h1 A => N9 14 A rfl rfl fun A => R9 A rfl h0 rfl (by unfold litC; rw [if_pos h1]; rfl) rfl)
  (fun h1 A => N9 2 A rfl rfl fun A => I9 [] GC.ok hI (FnI.mono (isName_ nm os hM hE) fun _ _ q => q.1) A rfl fun A => N9 4 A rfl rfl fun A => fork 25 A rfl
   (fun h2 A => N9 7 A rfl rfl fun A => R9 A rfl h0 rfl (by unfold litC; rw [if_neg h1]; rw [if_pos (by revert h2; cases oneN nm <;> simp)]; rfl) rfl)
   (fun h2 A => N9 8 A rfl rfl fun A => I9 [0] GC.ok hI (FnI.mono (uCheck_ cs cx hs (fun h8 h3 => ucc_ cs cx (fun c hc => Nat.le_trans (bad1_le h8 c hc) (by decide)) (by omega))) fun _ _ q => q.2) A rfl fun A => N9 15 A rfl rfl fun A => forkN 34 A rfl
    (fun h3 A => N9 8 A rfl rfl fun A => R9 A rfl h0 rfl (by unfold litC; rw [if_neg h1]; rw [if_neg (by revert h2; cases oneN nm <;> simp)]; rw [if_pos h3]; rfl) rfl)
    (fun h3 A => N9 9 A rfl rfl fun A => I9 [0] GC.ok hI (printsAll_ cs cx [88, 56, 54] 109 110 111 (fun i lb => (prP x86G x86C i lb).1) (fun i lb => (prP x86G x86C i lb).2) os hM hT hE (fun i lb hi hl => xprint_ i lb os hM hT hE (fun L hL => x86_prok hi hl hL)) hs hn hR) A rfl fun A => N9 3 A rfl rfl fun A => fork 40 A rfl
     (fun h4 A => N9 7 A rfl rfl fun A => R9 A rfl h0 rfl (by unfold litC; rw [if_neg h1]; rw [if_neg (by revert h2; cases oneN nm <;> simp)]; rw [if_neg (not_not_intro h3)]; rw [if_pos (by revert h4; cases prAll _ cs <;> simp)]; rfl) rfl)
     (fun h4 A => N9 8 A rfl rfl fun A => C9 [] (quan_ qu) A rfl fun A => N9 2 A rfl rfl fun A => forkE 45 A rfl
      (fun h5 A => N9 14 A rfl rfl fun A => R9 A rfl h0 rfl (by unfold litC; rw [if_neg h1]; rw [if_neg (by revert h2; cases oneN nm <;> simp)]; rw [if_neg (not_not_intro h3)]; rw [if_neg (by revert h4; cases prAll _ cs <;> simp)]; rw [if_pos h5]; rfl) rfl)
      (fun h5 A => N9 2 A rfl rfl fun A => C9 [1] (cRight_ kd ck) A rfl fun A => N9 4 A rfl rfl fun A => fork 50 A rfl
       (fun h6 A => N9 7 A rfl rfl fun A => R9 A rfl h0 rfl (by unfold litC; rw [if_neg h1]; rw [if_neg (by revert h2; cases oneN nm <;> simp)]; rw [if_neg (not_not_intro h3)]; rw [if_neg (by revert h4; cases prAll _ cs <;> simp)]; rw [if_neg h5]; rw [if_pos (by revert h6; cases rgt kd <;> simp)]; rfl) rfl)
       (fun h6 A => N9 7 A rfl rfl fun A => C9 [0, 1] (setsOA 1 nm mi r cs cx qu kd ck (ck_len h3)) A rfl fun A => N9 2 A rfl rfl fun A => fork 52 A rfl
        (fun h7 A => N9 7 A rfl rfl fun A => R9 A rfl h0 rfl (by unfold litC; rw [if_neg h1]; rw [if_neg (by revert h2; cases oneN nm <;> simp)]; rw [if_neg (not_not_intro h3)]; rw [if_neg (by revert h4; cases prAll _ cs <;> simp)]; rw [if_neg h5]; rw [if_neg (by revert h6; cases rgt kd <;> simp)]; rw [if_pos h7]; rfl) rfl)
        (fun h7 A => N9 9 A rfl rfl fun A => R9 A rfl h0 rfl (by unfold litC; rw [if_neg h1]; rw [if_neg (by revert h2; cases oneN nm <;> simp)]; rw [if_neg (not_not_intro h3)]; rw [if_neg (by revert h4; cases prAll _ cs <;> simp)]; rw [if_neg h5]; rw [if_neg (by revert h6; cases rgt kd <;> simp)]; rw [if_neg (by rw [h7]; decide)]; rfl) rfl)))))))
theorem litCheck2 (nm : List UInt8) (mi r : Nat → Int) (cs : List Cde) (cx : Nat) (qu : Int) (kd : List Cn) (ck : Nat) (os : List (Nat × Obj)) (hM : ∀ w ks, Gl os w ks → ∃ m, w.cell? ⟨0, 0, none⟩ = some (.int .i64 m)) (hT : ∀ w ks, Gl os w ks → Lib.TabIs Tryz.prog w "internal/strconv.uint64pow10" .u64 Lib.pow10Tab) (hE : ∀ w ks, Gl os w ks → ∃ ev, w.cell? ⟨4, 0, none⟩ = some ev ∧ (ev = .nilIface ∨ ∃ te pe, ev = .iface te pe)) (hs : ∀ c ∈ cs, c.l.length ≤ 9223372036854775807) (hR : ∀ c ∈ cs, ∀ i ∈ c.l, okI i) (hn : cs.length ≤ 9223372036854775807) : FnI (GC os cs) Tryz.prog 9 [.agg (tsQ9 2 nm mi r (.sl 0 cs.length cx) qu (.sl 1 kd.length ck))] [some (cdL9 cs), some (cnL9 kd)] (Rt (.int .i64 (litC (fun i => (fun (i : In) (lb : List UInt8) => (prP riscvG riscvC i lb).2) i (labL i.to_)) nm cs qu kd r)) [some (cdL9 cs), some (cnL9 kd)]) :=
 enterI (n := 53) (by kernel_rfl) Tryz.func9 rfl rfl rfl fun G w a h0 hI A => N9 10 A rfl rfl fun A => C9 [] langOf2 A rfl fun A => N9 26 A rfl rfl fun A => forkD 20 A rfl
  (fun h1 A => N9 14 A rfl rfl fun A => R9 A rfl h0 rfl (by unfold litC; rw [if_pos h1]; rfl) rfl)
  (fun h1 A => N9 2 A rfl rfl fun A => I9 [] GC.ok hI (FnI.mono (isName_ nm os hM hE) fun _ _ q => q.1) A rfl fun A => N9 4 A rfl rfl fun A => fork 25 A rfl
   (fun h2 A => N9 7 A rfl rfl fun A => R9 A rfl h0 rfl (by unfold litC; rw [if_neg h1]; rw [if_pos (by revert h2; cases oneN nm <;> simp)]; rfl) rfl)
   (fun h2 A => N9 8 A rfl rfl fun A => I9 [0] GC.ok hI (FnI.mono (uCheck_ cs cx hs (fun h8 h3 => ucc_ cs cx (fun c hc => Nat.le_trans (bad1_le h8 c hc) (by decide)) (by omega))) fun _ _ q => q.2) A rfl fun A => N9 15 A rfl rfl fun A => forkN 34 A rfl
    (fun h3 A => N9 8 A rfl rfl fun A => R9 A rfl h0 rfl (by unfold litC; rw [if_neg h1]; rw [if_neg (by revert h2; cases oneN nm <;> simp)]; rw [if_pos h3]; rfl) rfl)
    (fun h3 A => N9 9 A rfl rfl fun A => I9 [0] GC.ok hI (printsAll_ cs cx [82, 73, 83, 67, 86] 112 113 114 (fun i lb => (prP riscvG riscvC i lb).1) (fun i lb => (prP riscvG riscvC i lb).2) os hM hT hE (fun i lb hi hl => vprint_ i lb os hM hT hE (fun L hL => riscv_prok hi hl hL)) hs hn hR) A rfl fun A => N9 3 A rfl rfl fun A => fork 40 A rfl
     (fun h4 A => N9 7 A rfl rfl fun A => R9 A rfl h0 rfl (by unfold litC; rw [if_neg h1]; rw [if_neg (by revert h2; cases oneN nm <;> simp)]; rw [if_neg (not_not_intro h3)]; rw [if_pos (by revert h4; cases prAll _ cs <;> simp)]; rfl) rfl)
     (fun h4 A => N9 8 A rfl rfl fun A => C9 [] (quan_ qu) A rfl fun A => N9 2 A rfl rfl fun A => forkE 45 A rfl
      (fun h5 A => N9 14 A rfl rfl fun A => R9 A rfl h0 rfl (by unfold litC; rw [if_neg h1]; rw [if_neg (by revert h2; cases oneN nm <;> simp)]; rw [if_neg (not_not_intro h3)]; rw [if_neg (by revert h4; cases prAll _ cs <;> simp)]; rw [if_pos h5]; rfl) rfl)
      (fun h5 A => N9 2 A rfl rfl fun A => C9 [1] (cRight_ kd ck) A rfl fun A => N9 4 A rfl rfl fun A => fork 50 A rfl
       (fun h6 A => N9 7 A rfl rfl fun A => R9 A rfl h0 rfl (by unfold litC; rw [if_neg h1]; rw [if_neg (by revert h2; cases oneN nm <;> simp)]; rw [if_neg (not_not_intro h3)]; rw [if_neg (by revert h4; cases prAll _ cs <;> simp)]; rw [if_neg h5]; rw [if_pos (by revert h6; cases rgt kd <;> simp)]; rfl) rfl)
       (fun h6 A => N9 7 A rfl rfl fun A => C9 [0, 1] (setsOA 2 nm mi r cs cx qu kd ck (ck_len h3)) A rfl fun A => N9 2 A rfl rfl fun A => fork 52 A rfl
        (fun h7 A => N9 7 A rfl rfl fun A => R9 A rfl h0 rfl (by unfold litC; rw [if_neg h1]; rw [if_neg (by revert h2; cases oneN nm <;> simp)]; rw [if_neg (not_not_intro h3)]; rw [if_neg (by revert h4; cases prAll _ cs <;> simp)]; rw [if_neg h5]; rw [if_neg (by revert h6; cases rgt kd <;> simp)]; rw [if_pos h7]; rfl) rfl)
        (fun h7 A => N9 9 A rfl rfl fun A => R9 A rfl h0 rfl (by unfold litC; rw [if_neg h1]; rw [if_neg (by revert h2; cases oneN nm <;> simp)]; rw [if_neg (not_not_intro h3)]; rw [if_neg (by revert h4; cases prAll _ cs <;> simp)]; rw [if_neg h5]; rw [if_neg (by revert h6; cases rgt kd <;> simp)]; rw [if_neg (by rw [h7]; decide)]; rfl) rfl)))))))
theorem litCheck3 (nm : List UInt8) (mi r : Nat → Int) (cs : List Cde) (cx : Nat) (qu : Int) (kd : List Cn) (ck : Nat) (os : List (Nat × Obj)) (hM : ∀ w ks, Gl os w ks → ∃ m, w.cell? ⟨0, 0, none⟩ = some (.int .i64 m)) (hT : ∀ w ks, Gl os w ks → Lib.TabIs Tryz.prog w "internal/strconv.uint64pow10" .u64 Lib.pow10Tab) (hE : ∀ w ks, Gl os w ks → ∃ ev, w.cell? ⟨4, 0, none⟩ = some ev ∧ (ev = .nilIface ∨ ∃ te pe, ev = .iface te pe)) (hs : ∀ c ∈ cs, c.l.length ≤ 9223372036854775807) (hR : ∀ c ∈ cs, ∀ i ∈ c.l, okI i) (hn : cs.length ≤ 9223372036854775807) : FnI (GC os cs) Tryz.prog 9 [.agg (tsQ9 3 nm mi r (.sl 0 cs.length cx) qu (.sl 1 kd.length ck))] [some (cdL9 cs), some (cnL9 kd)] (Rt (.int .i64 (litC (fun i => (fun (i : In) (lb : List UInt8) => (prP Ar.armG Ar.armC i lb).2) i (labL i.to_)) nm cs qu kd r)) [some (cdL9 cs), some (cnL9 kd)]) :=
 enterI (n := 53) (by kernel_rfl) Tryz.func9 rfl rfl rfl fun G w a h0 hI A => N9 10 A rfl rfl fun A => C9 [] langOf3 A rfl fun A => N9 26 A rfl rfl fun A => forkD 20 A rfl
  (fun h1 A => N9 14 A rfl rfl fun A => R9 A rfl h0 rfl (by unfold litC; rw [if_pos h1]; rfl) rfl)
  (fun h1 A => N9 2 A rfl rfl fun A => I9 [] GC.ok hI (FnI.mono (isName_ nm os hM hE) fun _ _ q => q.1) A rfl fun A => N9 4 A rfl rfl fun A => fork 25 A rfl
   (fun h2 A => N9 7 A rfl rfl fun A => R9 A rfl h0 rfl (by unfold litC; rw [if_neg h1]; rw [if_pos (by revert h2; cases oneN nm <;> simp)]; rfl) rfl)
   (fun h2 A => N9 8 A rfl rfl fun A => I9 [0] GC.ok hI (FnI.mono (uCheck_ cs cx hs (fun h8 h3 => ucc_ cs cx (fun c hc => Nat.le_trans (bad1_le h8 c hc) (by decide)) (by omega))) fun _ _ q => q.2) A rfl fun A => N9 15 A rfl rfl fun A => forkN 34 A rfl
    (fun h3 A => N9 8 A rfl rfl fun A => R9 A rfl h0 rfl (by unfold litC; rw [if_neg h1]; rw [if_neg (by revert h2; cases oneN nm <;> simp)]; rw [if_pos h3]; rfl) rfl)
    (fun h3 A => N9 9 A rfl rfl fun A => I9 [0] GC.ok hI (printsAll_ cs cx [65, 82, 77] 115 116 117 (fun i lb => (prP Ar.armG Ar.armC i lb).1) (fun i lb => (prP Ar.armG Ar.armC i lb).2) os hM hT hE (fun i lb hi hl => Ar.aprint_ i lb os hM hT hE (fun L hL => Ar.arm_prok hi hl hL)) hs hn hR) A rfl fun A => N9 3 A rfl rfl fun A => fork 40 A rfl
     (fun h4 A => N9 7 A rfl rfl fun A => R9 A rfl h0 rfl (by unfold litC; rw [if_neg h1]; rw [if_neg (by revert h2; cases oneN nm <;> simp)]; rw [if_neg (not_not_intro h3)]; rw [if_pos (by revert h4; cases prAll _ cs <;> simp)]; rfl) rfl)
     (fun h4 A => N9 8 A rfl rfl fun A => C9 [] (quan_ qu) A rfl fun A => N9 2 A rfl rfl fun A => forkE 45 A rfl
      (fun h5 A => N9 14 A rfl rfl fun A => R9 A rfl h0 rfl (by unfold litC; rw [if_neg h1]; rw [if_neg (by revert h2; cases oneN nm <;> simp)]; rw [if_neg (not_not_intro h3)]; rw [if_neg (by revert h4; cases prAll _ cs <;> simp)]; rw [if_pos h5]; rfl) rfl)
      (fun h5 A => N9 2 A rfl rfl fun A => C9 [1] (cRight_ kd ck) A rfl fun A => N9 4 A rfl rfl fun A => fork 50 A rfl
       (fun h6 A => N9 7 A rfl rfl fun A => R9 A rfl h0 rfl (by unfold litC; rw [if_neg h1]; rw [if_neg (by revert h2; cases oneN nm <;> simp)]; rw [if_neg (not_not_intro h3)]; rw [if_neg (by revert h4; cases prAll _ cs <;> simp)]; rw [if_neg h5]; rw [if_pos (by revert h6; cases rgt kd <;> simp)]; rfl) rfl)
       (fun h6 A => N9 7 A rfl rfl fun A => C9 [0, 1] (setsOA 3 nm mi r cs cx qu kd ck (ck_len h3)) A rfl fun A => N9 2 A rfl rfl fun A => fork 52 A rfl
        (fun h7 A => N9 7 A rfl rfl fun A => R9 A rfl h0 rfl (by unfold litC; rw [if_neg h1]; rw [if_neg (by revert h2; cases oneN nm <;> simp)]; rw [if_neg (not_not_intro h3)]; rw [if_neg (by revert h4; cases prAll _ cs <;> simp)]; rw [if_neg h5]; rw [if_neg (by revert h6; cases rgt kd <;> simp)]; rw [if_pos h7]; rfl) rfl)
        (fun h7 A => N9 9 A rfl rfl fun A => R9 A rfl h0 rfl (by unfold litC; rw [if_neg h1]; rw [if_neg (by revert h2; cases oneN nm <;> simp)]; rw [if_neg (not_not_intro h3)]; rw [if_neg (by revert h4; cases prAll _ cs <;> simp)]; rw [if_neg h5]; rw [if_neg (by revert h6; cases rgt kd <;> simp)]; rw [if_neg (by rw [h7]; decide)]; rfl) rfl)))))))
theorem litCheck0 (ar : Int) (nm : List UInt8) (mi r : Nat → Int) (cs : List Cde) (cx : Nat) (qu : Int) (kd : List Cn) (ck : Nat) (ha : ¬ (1 ≤ ar ∧ ar ≤ 3)) : Fn Tryz.prog 9 [.agg (tsQ9 ar nm mi r (.sl 0 cs.length cx) qu (.sl 1 kd.length ck))] [some (cdL9 cs), some (cnL9 kd)] (Rt (.int .i64 36) [some (cdL9 cs), some (cnL9 kd)]) :=
 enterM (n := 53) (by kernel_rfl) Tryz.func9 rfl rfl rfl fun G w a h0 A => N9 10 A rfl rfl fun A => C9 [] (langOf0 ar ha) A rfl fun A => N9 10 A rfl rfl fun A => N9 12 A rfl rfl fun A => R9 A rfl h0 rfl rfl rfl
end Go.Proofs.YtbbdanhpphlbpaaGreatDoor
namespace Go.Proofs.YtbbdanhpphlbpaaGreatDoor
set_option linter.unusedSimpArgs false
set_option linter.unusedVariables false
set_option maxRecDepth 100000
open Go.ChangeShapes Go.WideShapes Go.ChangeAt Go.RowKit Go.Deep
theorem wf_rng {n : Int} (h : (Lit.int .i64 n).wf = true) : -9223372036854775808 ≤ n ∧ n ≤ 9223372036854775807 := by
 have h' : (decide ((IntKind.i64).min ≤ n) && decide (n ≤ (IntKind.i64).max)) = true := h
 rw [Bool.and_eq_true, decide_eq_true_eq, decide_eq_true_eq, show (IntKind.i64).min = -9223372036854775808 from rfl, show (IntKind.i64).max = 9223372036854775807 from rfl] at h'
 exact h'
def insC (i : In) : Array Value := #[.int .i64 i.op, .int .i64 i.dst, .int .i64 i.ra, .int .i64 i.rb, .int .i64 i.imm, .int .i64 i.loc, .int .i64 i.off, .int .i64 i.ix, .int .i64 i.sz, .int .i64 i.fn, .bool i.acq, .bool i.weak, .bool i.rel, .int .i64 i.pred, .int .i64 i.succ, .int .i64 i.to_, .bool i.zero]
def inE (i : In) : List Value := (insC i).toList
def insT (k : Nat) : Nat := if k == 10 || k == 11 || k == 12 || k == 16 then 4 else 3
def insFs (P : Program) : Option (Array Field) := match P.underlying 63 with | some (.struct fs) => some fs | _ => none
def insFB (P : Program) : Bool := match insFs P with | some fs => (List.range 17).all (fun k => match fs[k]? with | some f => f.offset == k && f.type == insT k | none => false) | none => false
theorem insFB_true : insFB Tryz.prog = true := by kernel_rfl
theorem ins_fields : ∃ fs : Array Field, Tryz.prog.underlying 63 = some (.struct fs) ∧ ∀ k, k < 17 → ∃ f, fs[k]? = some f ∧ f.offset = k ∧ f.type = insT k := by
 have h := insFB_true
 unfold insFB at h
 cases hq : insFs Tryz.prog with
 | none => simp [hq] at h
 | some fs =>
  rw [hq] at h
  refine ⟨fs, ?_, fun k hk => ?_⟩
  ·unfold insFs at hq
   split at hq
   ·rename_i fs' he; rw [he]; cases hq; rfl
   ·cases hq
  ·have h1 := List.all_eq_true.1 h k (List.mem_range.2 hk)
   cases hf : fs[k]? with
   | none => simp [hf] at h1
   | some f => rw [hf] at h1; simp only [Bool.and_eq_true, beq_iff_eq] at h1; exact ⟨f, rfl, h1.1, h1.2⟩
theorem int_cells : Tryz.prog.cellsOf 3 = 1 := by kernel_rfl
theorem bool_cells : Tryz.prog.cellsOf 4 = 1 := by kernel_rfl
theorem take_one {l : List Value} {k : Nat} {v : Value} (h : (l.drop k).take 1 = [v]) : l[k]? = some v := by
 have := congrArg (fun l => l[0]?) h
 simpa using this
section
variable {H : Type} {enc : TypeId × Value → H} {W : World} {base : Nat} {spare : Nat → Bool} {held : Bool} {base' : Nat}
theorem open_inL (cs : List Value) (n : Nat) (x : DataW H × List MemPlace) (h : DataW.trod enc Tryz.prog W base' spare held n 63 cs = some x) (hl : cs.length = 17) : ∃ i : In, cs = inE i ∧ okI i := by
 obtain ⟨fs, hu, hfs⟩ := ins_fields
 obtain ⟨xs, n, _, _, _, hlen, hx⟩ := DataW.trod_struct hu h
 have int : ∀ k, k < 17 → insT k = 3 → ∃ m : Int, cs[k]? = some (.int .i64 m) ∧ -9223372036854775808 ≤ m ∧ m ≤ 9223372036854775807 := fun k hk ht => by
  obtain ⟨f, hf1, ho, hty⟩ := hfs k hk
  have h1 := hx k f hf1
  have hl := (Array.getElem?_eq_some_iff.1 hf1).1
  rw [ho, hty, ht, int_cells, List.getElem?_eq_getElem (by omega)] at h1
  obtain ⟨m, h2, _, h3⟩ := DataW.trod_int Tryz.underlying3 h1
  exact ⟨m, take_one h2, wf_rng h3⟩
 have bool : ∀ k, k < 17 → insT k = 4 → ∃ b : Bool, cs[k]? = some (.bool b) := fun k hk ht => by
  obtain ⟨f, hf1, ho, hty⟩ := hfs k hk
  have h1 := hx k f hf1
  have hl := (Array.getElem?_eq_some_iff.1 hf1).1
  rw [ho, hty, ht, bool_cells, List.getElem?_eq_getElem (by omega)] at h1
  obtain ⟨m, h2, _⟩ := DataW.trod_bool Tryz.underlying4 h1
  exact ⟨m, take_one h2⟩
 obtain ⟨c0, h0, w0⟩ := int 0 (by decide) rfl
 obtain ⟨c1, h1, w1⟩ := int 1 (by decide) rfl
 obtain ⟨c2, h2, w2⟩ := int 2 (by decide) rfl
 obtain ⟨c3, h3, w3⟩ := int 3 (by decide) rfl
 obtain ⟨c4, h4, w4⟩ := int 4 (by decide) rfl
 obtain ⟨c5, h5, w5⟩ := int 5 (by decide) rfl
 obtain ⟨c6, h6, w6⟩ := int 6 (by decide) rfl
 obtain ⟨c7, h7, w7⟩ := int 7 (by decide) rfl
 obtain ⟨c8, h8, w8⟩ := int 8 (by decide) rfl
 obtain ⟨c9, h9, w9⟩ := int 9 (by decide) rfl
 obtain ⟨c10, h10⟩ := bool 10 (by decide) rfl
 obtain ⟨c11, h11⟩ := bool 11 (by decide) rfl
 obtain ⟨c12, h12⟩ := bool 12 (by decide) rfl
 obtain ⟨c13, h13, w13⟩ := int 13 (by decide) rfl
 obtain ⟨c14, h14, w14⟩ := int 14 (by decide) rfl
 obtain ⟨c15, h15, w15⟩ := int 15 (by decide) rfl
 obtain ⟨c16, h16⟩ := bool 16 (by decide) rfl
 refine ⟨⟨c0, c1, c2, c3, c4, c5, c6, c7, c8, c9, c10, c11, c12, c13, c14, c15, c16⟩, ?_, ⟨w4, w6⟩, w15⟩
 apply List.ext_getElem?
 intro k
 by_cases hk : k < 17
 ·have : k = 0 ∨ k = 1 ∨ k = 2 ∨ k = 3 ∨ k = 4 ∨ k = 5 ∨ k = 6 ∨ k = 7 ∨ k = 8 ∨ k = 9 ∨ k = 10 ∨ k = 11 ∨ k = 12 ∨ k = 13 ∨ k = 14 ∨ k = 15 ∨ k = 16 := by omega
  rcases this with rfl | rfl | rfl | rfl | rfl | rfl | rfl | rfl | rfl | rfl | rfl | rfl | rfl | rfl | rfl | rfl | rfl
  ·exact h0
  ·exact h1
  ·exact h2
  ·exact h3
  ·exact h4
  ·exact h5
  ·exact h6
  ·exact h7
  ·exact h8
  ·exact h9
  ·exact h10
  ·exact h11
  ·exact h12
  ·exact h13
  ·exact h14
  ·exact h15
  ·exact h16
 ·rw [List.getElem?_eq_none (by omega), List.getElem?_eq_none (by simp [inE, insC]; omega)]
theorem weights_mem {P : Program} {e : Nat} {d : DataW H} : ∀ {l : List (DataW H)}, d ∈ l → (DataW.weightsAll P e l).all (· ≤ reachBytes) = true → (d.weights P e).all (· ≤ reachBytes) = true
 | [], h, _ => by cases h
 | x :: l, h, hw => by
  unfold DataW.weightsAll at hw
  rw [List.all_append, Bool.and_eq_true] at hw
  rcases List.mem_cons.1 h with rfl | h
  ·exact hw.1
  ·exact weights_mem h hw.2
theorem each_at {P : Program} {t : Nat} {d : DataW H} : ∀ {ts : List Nat} {l : List (DataW H)} {i : Nat}, ts[i]? = some t → l[i]? = some d → (DataW.weightsEach P ts l).all (· ≤ reachBytes) = true → (d.weights P t).all (· ≤ reachBytes) = true
 | [], _, _, h, _, _ => by simp at h
 | _ :: _, [], _, _, h, _ => by simp at h
 | t' :: ts, x :: l, i, h1, h2, hw => by
  unfold DataW.weightsEach at hw
  rw [List.all_append, Bool.and_eq_true] at hw
  cases i with
  | zero => simp at h1 h2; subst h1; subst h2; exact hw.1
  | succ i => exact each_at (by simpa using h1) (by simpa using h2) hw.2
theorem open_listT {α : Type} [Inhabited α] {en : α → List Value} {Q : α → Prop} {t e s fuel : Nat} {cells : List Value} {x : DataW H × List MemPlace} (ht : Tryz.prog.underlying t = some (.slice e)) (hc : Tryz.prog.cellsOf e = s) (h0 : 0 < s)
  (hel : ∀ cs n x, DataW.trod enc Tryz.prog W base' spare held n e cs = some x → cs.length = s → (x.1.weights Tryz.prog e).all (· ≤ reachBytes) = true → ∃ y : α, cs = en y ∧ Q y)
  (hf : DataW.trod enc Tryz.prog W base' spare held fuel t cells = some x) (hwt : (x.1.weights Tryz.prog t).all (· ≤ reachBytes) = true) :
  ∃ (ao : Option Addr) (l : List α) (cap : Nat), cells = [.slice ao l.length cap] ∧ (l.length ≤ 9223372036854775807 ∧ l.length * Tryz.prog.bytesOf e ≤ reachBytes) ∧ Sl en s W.heap.size W (.slice ao l.length cap) l ∧ ∀ y ∈ l, Q y := by
 rcases open_slice ht hf with ⟨hcs, _⟩ | ⟨a, len0, cap0, m, n, D, Pl, hcs, hb, hl, hm, hmm, hxe, hx⟩
 ·exact ⟨none, [], 0, hcs, by simp, Sl.nil, fun y hy => by cases hy⟩
 ·have hlm : len0 ≤ m := by rw [hmm]; split <;> omega
  have hml : maxLen = 9223372036854775807 := rfl
  rw [hxe] at hwt
  unfold DataW.weights at hwt
  rw [ht] at hwt
  simp only [List.all_cons, List.all_append, Bool.and_eq_true, decide_eq_true_eq, List.length_map, List.length_range] at hwt
  have hbl : len0 * Tryz.prog.bytesOf e ≤ reachBytes := Nat.le_trans (Nat.mul_le_mul_right _ (Nat.le_add_right _ _)) hwt.1
  rw [hc] at hx
  obtain ⟨Y, hY⟩ := choose_lt (α := α) (n := len0) (p := fun i y => Q y ∧ (en y).length = s ∧ ∀ k, k < s → W.cell? ((a.add (i * s)).add k) = (en y)[k]?) (fun i hi => by
   obtain ⟨cs', h1, h2⟩ := hx i (by omega)
   obtain ⟨_, hlen, hcell⟩ := World.cells?_some h1
   obtain ⟨y, rfl, hq⟩ := hel cs' n _ h2 hlen (weights_mem (l := (List.range len0).map D) (List.mem_map.2 ⟨i, List.mem_range.2 hi, rfl⟩) hwt.2.1)
   exact ⟨y, hq, hlen, hcell⟩)
  have hlen : ((List.range len0).map Y).length = len0 := by simp
  refine ⟨some a, (List.range len0).map Y, cap0, by rw [hlen]; exact hcs, by rw [hlen]; exact ⟨by omega, hbl⟩, ⟨some a, cap0, by rw [hlen], by rw [hlen]; exact hl, fun j x hj => ?_⟩, fun y hy => ?_⟩
  ·have hjl : j < len0 := by have := (List.getElem?_eq_some_iff.1 hj).1; simpa using this
   have hxe : x = Y j := by simp [hjl] at hj; exact hj.symm
   subst hxe
   obtain ⟨_, hyl, hcell⟩ := hY j hjl
   obtain ⟨b, o, spot⟩ := a
   obtain ⟨_, hy0, hcell0⟩ := hY 0 (by omega)
   have h00 := hcell0 0 h0
   rw [List.getElem?_eq_getElem (by omega)] at h00
   have hspot : spot = none := by simpa [Addr.add] using World.cell?_spot h00
   subst hspot
   refine ⟨b, o, rfl, ?_, fun k u hu => ?_⟩
   ·have := World.block_lt_of_cell? W _ h00
    rw [Addr.add_mid, Addr.add_mid] at this
    exact this
   ·have hk : k < s := by have := (List.getElem?_eq_some_iff.1 hu).1; omega
    have := hcell k hk
    rw [hu, Addr.add_mid, Addr.add_mid] at this
    exact this
  ·obtain ⟨i, hi, rfl⟩ := List.mem_map.1 hy
   exact (hY i (by simpa using hi)).1
def cdV (c : Cde) : List Value := [.slice c.ao c.l.length c.cp]
instance : Inhabited Cde := ⟨Cde.z⟩
instance : Inhabited In := ⟨In.z⟩
structure CdOK (W : World) (c : Cde) : Prop where
 sl : Sl inE 17 W.heap.size W (.slice c.ao c.l.length c.cp) c.l
 le : c.l.length ≤ 9223372036854775807
 wl : c.l.length * 120 ≤ reachBytes
 ok : ∀ i ∈ c.l, okI i
theorem open_cdL (cs : List Value) (n : Nat) (x : DataW H × List MemPlace) (h : DataW.trod enc Tryz.prog W base' spare held n 64 cs = some x) (hl : cs.length = 1) (hwt : (x.1.weights Tryz.prog 64).all (· ≤ reachBytes) = true) : ∃ c : Cde, cs = cdV c ∧ CdOK W c := by
 obtain ⟨ao, l, cap, h1, h2, h3, h4⟩ := open_listT (t := 64) (e := 63) (s := 17) (by kernel_rfl) (by kernel_rfl) (by omega) (fun cs n x h hl _ => open_inL cs n x h hl) h hwt
 rw [show Tryz.prog.bytesOf 63 = 120 by kernel_rfl] at h2
 exact ⟨⟨ao, l, cap⟩, h1, h3, h2.1, h2.2, h4⟩
def AI (enc : TypeId × Value → H) (W : World) (base' : Nat) (spare : Nat → Bool) (held : Bool) (t s : Nat) : Prop := Tryz.prog.cellsOf t = s ∧ ∀ (cs : List Value) (n : Nat) (x : DataW H × List MemPlace), DataW.trod enc Tryz.prog W base' spare held n t cs = some x → ∀ k, k < s → ∃ m : Int, cs[k]? = some (.int .i64 m) ∧ -9223372036854775808 ≤ m ∧ m ≤ 9223372036854775807
theorem AI.int : AI enc W base' spare held 3 1 := ⟨by kernel_rfl, fun cs n x h k hk => by
 obtain ⟨m, h2, _, h3⟩ := DataW.trod_int Tryz.underlying3 h
 obtain rfl : k = 0 := by omega
 exact ⟨m, by rw [h2]; rfl, wf_rng h3⟩⟩
theorem sub_at {cs : List Value} {o s j : Nat} (hj : j < s) : ((cs.drop o).take s)[j]? = cs[o + j]? := by
 rw [List.getElem?_take_of_lt hj, List.getElem?_drop]
theorem AI.arr {t n e s : Nat} (ht : Tryz.prog.underlying t = some (.array n e)) (hc : Tryz.prog.cellsOf t = n * s) (h0 : 0 < s) (he : AI enc W base' spare held e s) : AI enc W base' spare held t (n * s) := ⟨hc, fun cs f x h k hk => by
 obtain ⟨xs, m, _, _, _, hxl, hx⟩ := DataW.trod_array ht h
 have hi : k / s < n := (Nat.div_lt_iff_lt_mul h0).2 hk
 have h1 := hx (k / s) hi
 rw [he.1, List.getElem?_eq_getElem (by omega)] at h1
 obtain ⟨z, h2, h3⟩ := he.2 _ _ _ h1 (k % s) (Nat.mod_lt _ h0)
 rw [sub_at (Nat.mod_lt _ h0)] at h2
 have e : k / s * s + k % s = k := by rw [Nat.mul_comm]; exact Nat.div_add_mod k s
 rw [e] at h2
 exact ⟨z, h2, h3⟩⟩
def fldAt (P : Program) (t i : Nat) : Option (Nat × Nat) := match P.underlying t with | some (.struct fs) => (fs[i]?).map fun f => (f.offset, f.type) | _ => none
theorem fld {t i o u fuel : Nat} {cs : List Value} {x : DataW H × List MemPlace} (h : DataW.trod enc Tryz.prog W base' spare held fuel t cs = some x) (h1 : fldAt Tryz.prog t i = some (o, u)) : ∃ n z, DataW.trod enc Tryz.prog W base' spare held n u ((cs.drop o).take (Tryz.prog.cellsOf u)) = some z := by
 unfold fldAt at h1
 split at h1
 ·next fs hu =>
  obtain ⟨xs, m, _, _, _, hxl, hx⟩ := DataW.trod_struct hu h
  obtain ⟨f, hf1, hf2⟩ := Option.map_eq_some_iff.1 h1
  cases hf2
  have h5 := hx i f hf1
  have hil := (Array.getElem?_eq_some_iff.1 hf1).1
  rw [List.getElem?_eq_getElem (by omega)] at h5
  exact ⟨m, _, h5⟩
 ·cases h1
theorem AI.str {t s : Nat} (hc : Tryz.prog.cellsOf t = s) (hf : ∀ k, k < s → ∃ i o u z, fldAt Tryz.prog t i = some (o, u) ∧ AI enc W base' spare held u z ∧ o ≤ k ∧ k < o + z) : AI enc W base' spare held t s := ⟨hc, fun cs n x h k hk => by
 obtain ⟨i, o, u, z, h1, h2, h3, h4⟩ := hf k hk
 obtain ⟨m, z', h5⟩ := fld h h1
 rw [h2.1] at h5
 obtain ⟨q, h6, h7⟩ := h2.2 _ _ _ h5 (k - o) (by omega)
 rw [sub_at (by omega), show o + (k - o) = k by omega] at h6
 exact ⟨q, h6, h7⟩⟩
theorem AI.cond : AI enc W base' spare held 66 5 := by
 refine AI.str (by kernel_rfl) fun k hk => ?_
 have : k = 0 ∨ k = 1 ∨ k = 2 ∨ k = 3 ∨ k = 4 := by omega
 rcases this with rfl | rfl | rfl | rfl | rfl
 ·exact ⟨0, 0, 3, 1, by kernel_rfl, AI.int, by omega, by omega⟩
 ·exact ⟨1, 1, 3, 1, by kernel_rfl, AI.int, by omega, by omega⟩
 ·exact ⟨2, 2, 3, 1, by kernel_rfl, AI.int, by omega, by omega⟩
 ·exact ⟨3, 3, 3, 1, by kernel_rfl, AI.int, by omega, by omega⟩
 ·exact ⟨4, 4, 3, 1, by kernel_rfl, AI.int, by omega, by omega⟩
def ccV (c : Cn) : List Value := [.int .i64 c.k, .int .i64 c.t, .int .i64 c.r, .int .i64 c.l, .int .i64 c.v]
def wfC (c : Cn) : Prop := -9223372036854775808 ≤ c.v ∧ c.v ≤ 9223372036854775807
instance : Inhabited Cn := ⟨Cn.z⟩
theorem open_cnL (cs : List Value) (n : Nat) (x : DataW H × List MemPlace) (h : DataW.trod enc Tryz.prog W base' spare held n 66 cs = some x) (hl : cs.length = 5) : ∃ y : Cn, cs = ccV y ∧ wfC y := by
 have A := AI.cond.2 cs n x h
 obtain ⟨a, ha, _⟩ := A 0 (by omega)
 obtain ⟨b, hb, _⟩ := A 1 (by omega)
 obtain ⟨c, hc, _⟩ := A 2 (by omega)
 obtain ⟨d, hd, _⟩ := A 3 (by omega)
 obtain ⟨e, he, h5⟩ := A 4 (by omega)
 refine ⟨⟨a, b, c, d, e⟩, ?_, h5⟩
 match cs, hl, ha, hb, hc, hd, he with
 | [u0, u1, u2, u3, u4], _, ha, hb, hc, hd, he => simp at ha hb hc hd he; subst ha hb hc hd he; rfl
theorem fldW {t i o u fuel : Nat} {cs : List Value} {x : DataW H × List MemPlace} (h : DataW.trod enc Tryz.prog W base' spare held fuel t cs = some x) (hwt : (x.1.weights Tryz.prog t).all (· ≤ reachBytes) = true) (h1 : fldAt Tryz.prog t i = some (o, u)) : ∃ n z, DataW.trod enc Tryz.prog W base' spare held n u ((cs.drop o).take (Tryz.prog.cellsOf u)) = some z ∧ (z.1.weights Tryz.prog u).all (· ≤ reachBytes) = true := by
 unfold fldAt at h1
 split at h1
 ·next fs hu =>
  obtain ⟨xs, m, _, hxe, _, hxl, hx⟩ := DataW.trod_struct hu h
  obtain ⟨f, hf1, hf2⟩ := Option.map_eq_some_iff.1 h1
  cases hf2
  have h5 := hx i f hf1
  have hil := (Array.getElem?_eq_some_iff.1 hf1).1
  rw [List.getElem?_eq_getElem (by omega)] at h5
  refine ⟨m, _, h5, ?_⟩
  rw [hxe] at hwt
  unfold DataW.weights at hwt
  rw [hu] at hwt
  exact each_at (i := i) (by rw [List.getElem?_map]; simp [hf1]) (by rw [List.getElem?_map, List.getElem?_eq_getElem (by omega)]; rfl) hwt
 ·cases h1
structure Ts where (ar : Int) (nm : List UInt8) (mi r : Nat → Int) (bo : BO) (cs : List Cde) (cx : Nat) (qu : Int) (co : BO) (kd : List Cn) (ck : Nat)
def tsV (y : Ts) : List Value := [.int .i64 y.ar, .string (S y.nm), .int .i64 (y.mi 0), .int .i64 (y.mi 1), .int .i64 (y.mi 2), .int .i64 (y.r 0), .int .i64 (y.r 1), .int .i64 (y.r 2), .int .i64 (y.r 3), .int .i64 (y.r 4), .int .i64 (y.r 5), .int .i64 (y.r 6), .int .i64 (y.r 7), .int .i64 (y.r 8), .int .i64 (y.r 9), .int .i64 (y.r 10), .int .i64 (y.r 11), .int .i64 (y.r 12), .int .i64 (y.r 13), .int .i64 (y.r 14), .int .i64 (y.r 15), .int .i64 (y.r 16), .int .i64 (y.r 17), .int .i64 (y.r 18), .int .i64 (y.r 19), .int .i64 (y.r 20), .int .i64 (y.r 21), .int .i64 (y.r 22), .int .i64 (y.r 23), .slice (adB y.bo) y.cs.length y.cx, .int .i64 y.qu, .slice (adB y.co) y.kd.length y.ck]
structure TsOK (W : World) (y : Ts) : Prop where
 codes : Sl cdV 1 W.heap.size W (.slice (adB y.bo) y.cs.length y.cx) y.cs
 conds : Sl ccV 5 W.heap.size W (.slice (adB y.co) y.kd.length y.ck) y.kd
 code : ∀ c ∈ y.cs, CdOK W c
 cond : ∀ c ∈ y.kd, wfC c
 le : y.cs.length ≤ 9223372036854775807
 lk : y.kd.length ≤ 9223372036854775807
 ln : y.nm.length ≤ 9223372036854775807
 wc : y.cs.length * 24 ≤ reachBytes
 wk : y.kd.length * 40 ≤ reachBytes
 wn : y.nm.length ≤ reachBytes
 ar : -9223372036854775808 ≤ y.ar ∧ y.ar ≤ 9223372036854775807
 qu : -9223372036854775808 ≤ y.qu ∧ y.qu ≤ 9223372036854775807
 mi : ∀ k, k < 3 → -9223372036854775808 ≤ y.mi k ∧ y.mi k ≤ 9223372036854775807
 r : ∀ k, k < 24 → -9223372036854775808 ≤ y.r k ∧ y.r k ≤ 9223372036854775807
def tsTs : List Nat := [3, 9, 3, 3, 3, 3, 3, 3, 3, 3, 3, 3, 3, 3, 3, 3, 3, 3, 3, 3, 3, 3, 3, 3, 3, 3, 3, 3, 3, 25, 3, 26]
theorem ts_types : Tryz.prog.cellTypes Tryz.prog.depth 28 = some tsTs := by kernel_rfl
theorem slice_spot {t e n cap : Nat} {ao : Option Addr} (ht : Tryz.prog.underlying t = some (.slice e)) (hv : Cell.okWide Tryz.prog W .any base t (.slice ao n cap)) : ∃ bo : BO, ao = adB bo := by
 cases ao with
 | none => exact ⟨none, rfl⟩
 | some a =>
  simp only [Cell.okWide, ht, Cell.ok] at hv
  obtain ⟨b, o, s⟩ := a
  have : s = none := hv.2.2.2.1
  subst this
  exact ⟨some (b, o), rfl⟩
def isStr (P : Program) (t : Nat) : Bool := match P.underlying t with | some (.struct _) => true | _ => false
theorem str_of {t : Nat} (h : isStr Tryz.prog t = true) : ∃ fs, Tryz.prog.underlying t = some (.struct fs) := by
 unfold isStr at h
 split at h
 ·next fs he => exact ⟨fs, he⟩
 ·cases h
theorem open_test {v : Value} {d : DataW H} {ps : List MemPlace} (hv : Value.okWide Tryz.prog W .any base 28 v) (h : DataW.Trod enc Tryz.prog W base' spare held 28 v d ps) (hwt : (d.weights Tryz.prog 28).all (· ≤ reachBytes) = true) : ∃ y : Ts, v = .agg (tsV y).toArray ∧ TsOK W y := by
 obtain ⟨fs, hu⟩ := str_of (t := 28) (by kernel_rfl)
 simp only [Value.okWide, hu] at hv
 obtain ⟨ca, rfl, hsz, ts, hts, _, hrow⟩ := hv
 rw [ts_types] at hts
 cases hts
 rw [show Tryz.prog.cellsOf 28 = 32 by kernel_rfl] at hsz
 obtain ⟨fuel, hf⟩ := h
 have hcl : ∀ k : Nat, ca[k]? = ca.toList[k]? := fun k => by simp
 have hf : DataW.trod enc Tryz.prog W base' spare held fuel 28 ca.toList = some (d, ps) := by simpa [Value.cells] using hf
 have hl : ca.toList.length = 32 := by simpa using hsz
 have one : ∀ (i o u s : Nat), fldAt Tryz.prog 28 i = some (o, u) → AI enc W base' spare held u s → ∀ k, k < s → ∃ m : Int, ca.toList[o + k]? = some (.int .i64 m) ∧ -9223372036854775808 ≤ m ∧ m ≤ 9223372036854775807 := fun i o u s h1 h2 k hk => by
  obtain ⟨n, z, h3⟩ := fld hf h1
  rw [h2.1] at h3
  obtain ⟨m, h4, h5⟩ := h2.2 _ _ _ h3 k hk
  rw [sub_at hk] at h4
  exact ⟨m, h4, h5⟩
 obtain ⟨ar, h0, har⟩ := one 0 0 3 1 (by kernel_rfl) AI.int 0 (by decide)
 obtain ⟨qu, h30, hqu⟩ := one 5 30 3 1 (by kernel_rfl) AI.int 0 (by decide)
 obtain ⟨mi, hmi⟩ := choose_lt (α := Int) (n := 3) (one 2 2 22 3 (by kernel_rfl) (AI.arr (n := 3) (s := 1) (e := 3) (by kernel_rfl) (by kernel_rfl) (by decide) AI.int))
 obtain ⟨r, hr⟩ := choose_lt (α := Int) (n := 24) (one 3 5 24 24 (by kernel_rfl) (AI.arr (n := 3) (s := 8) (e := 23) (by kernel_rfl) (by kernel_rfl) (by decide) (AI.arr (n := 8) (s := 1) (e := 3) (by kernel_rfl) (by kernel_rfl) (by decide) AI.int)))
 obtain ⟨n1, z1, hn, hwn⟩ := fldW hf hwt (i := 1) (o := 1) (u := 9) (by kernel_rfl)
 obtain ⟨nm, hnm, hnx, hln⟩ := DataW.trod_string (by kernel_rfl) hn
 rw [show Tryz.prog.cellsOf 9 = 1 by kernel_rfl] at hnm
 have h1 := take_one hnm
 obtain ⟨n2, z2, hc, hwc⟩ := fldW hf hwt (i := 4) (o := 29) (u := 25) (by kernel_rfl)
 obtain ⟨ao, cs, cx, hc1, hle, hsl, hcd⟩ := open_listT (t := 25) (e := 64) (s := 1) (by kernel_rfl) (by kernel_rfl) (by omega) open_cdL hc hwc
 rw [show Tryz.prog.cellsOf 25 = 1 by kernel_rfl] at hc1
 have h29 := take_one hc1
 obtain ⟨n3, z3, hk, hwk⟩ := fldW hf hwt (i := 6) (o := 31) (u := 26) (by kernel_rfl)
 obtain ⟨ao', kd, ck, hk1, hlk, hsk, hkd⟩ := open_listT (t := 26) (e := 66) (s := 5) (by kernel_rfl) (by kernel_rfl) (by omega) (fun cs n x h hl _ => open_cnL cs n x h hl) hk hwk
 rw [show Tryz.prog.bytesOf 64 = 24 by kernel_rfl] at hle
 rw [show Tryz.prog.bytesOf 66 = 40 by kernel_rfl] at hlk
 rw [hnx] at hwn
 rw [show Tryz.prog.cellsOf 26 = 1 by kernel_rfl] at hk1
 have h31 := take_one hk1
 obtain ⟨u, hu1, hu2⟩ := hrow 29 _ ((hcl 29).trans h29)
 cases hu1
 obtain ⟨bo, rfl⟩ := slice_spot (e := 64) (by kernel_rfl) hu2
 obtain ⟨u, hu3, hu4⟩ := hrow 31 _ ((hcl 31).trans h31)
 cases hu3
 obtain ⟨co, rfl⟩ := slice_spot (e := 66) (by kernel_rfl) hu4
 refine ⟨⟨ar, nm.data.toList, mi, r, bo, cs, cx, qu, co, kd, ck⟩, ?_, hsl, hsk, hcd, hkd, hle.1, hlk.1, ?_, hle.2, hlk.2, (by unfold DataW.weights at hwn; simpa using hwn), har, hqu, fun k hk => (hmi k hk).2, fun k hk => (hr k hk).2⟩
 ·have e : ca.toList = tsV ⟨ar, nm.data.toList, mi, r, bo, cs, cx, qu, co, kd, ck⟩ := by
   apply List.ext_getElem?
   intro k
   by_cases hk : k < 32
   ·have : k = 0 ∨ k = 1 ∨ k = 2 ∨ k = 3 ∨ k = 4 ∨ k = 5 ∨ k = 6 ∨ k = 7 ∨ k = 8 ∨ k = 9 ∨ k = 10 ∨ k = 11 ∨ k = 12 ∨ k = 13 ∨ k = 14 ∨ k = 15 ∨ k = 16 ∨ k = 17 ∨ k = 18 ∨ k = 19 ∨ k = 20 ∨ k = 21 ∨ k = 22 ∨ k = 23 ∨ k = 24 ∨ k = 25 ∨ k = 26 ∨ k = 27 ∨ k = 28 ∨ k = 29 ∨ k = 30 ∨ k = 31 := by omega
    rcases this with rfl | rfl | rfl | rfl | rfl | rfl | rfl | rfl | rfl | rfl | rfl | rfl | rfl | rfl | rfl | rfl | rfl | rfl | rfl | rfl | rfl | rfl | rfl | rfl | rfl | rfl | rfl | rfl | rfl | rfl | rfl | rfl
    ·exact h0
    ·exact h1
    ·exact (hmi 0 (by decide)).1
    ·exact (hmi 1 (by decide)).1
    ·exact (hmi 2 (by decide)).1
    ·exact (hr 0 (by decide)).1
    ·exact (hr 1 (by decide)).1
    ·exact (hr 2 (by decide)).1
    ·exact (hr 3 (by decide)).1
    ·exact (hr 4 (by decide)).1
    ·exact (hr 5 (by decide)).1
    ·exact (hr 6 (by decide)).1
    ·exact (hr 7 (by decide)).1
    ·exact (hr 8 (by decide)).1
    ·exact (hr 9 (by decide)).1
    ·exact (hr 10 (by decide)).1
    ·exact (hr 11 (by decide)).1
    ·exact (hr 12 (by decide)).1
    ·exact (hr 13 (by decide)).1
    ·exact (hr 14 (by decide)).1
    ·exact (hr 15 (by decide)).1
    ·exact (hr 16 (by decide)).1
    ·exact (hr 17 (by decide)).1
    ·exact (hr 18 (by decide)).1
    ·exact (hr 19 (by decide)).1
    ·exact (hr 20 (by decide)).1
    ·exact (hr 21 (by decide)).1
    ·exact (hr 22 (by decide)).1
    ·exact (hr 23 (by decide)).1
    ·exact h29
    ·exact h30
    ·exact h31
   ·rw [List.getElem?_eq_none (by omega), List.getElem?_eq_none (by simp [tsV]; omega)]
  rw [← e]
 ·have hml : maxLen = 9223372036854775807 := rfl
  show nm.data.toList.length ≤ _
  have e2 : nm.data.toList.length = nm.size := Array.length_toList
  rw [e2]
  exact hln
end
end Go.Proofs.YtbbdanhpphlbpaaGreatDoor
namespace Go.Proofs.YtbbdanhpphlbpaaGreatDoor
open Go.ChangeShapes Go.WideShapes Go.ChangeAt Go.RowKit
set_option linter.unusedVariables false
set_option linter.unusedSimpArgs false
set_option maxRecDepth 100000
def tsS (y : Ts) : SV := .agg (tsQ9 y.ar y.nm y.mi y.r (.sl 0 y.cs.length y.cx) y.qu (.sl 1 y.kd.length y.ck))
def tsH (y : Ts) : Hp := [some (.lst 1 y.cs.length (fun zz => cdc (y.cs.getD zz Cde.z))), some (.lst 5 y.kd.length (fun zz => cc (y.kd.getD zz Cn.z)))]
def tsG (y : Ts) : Gr := [locB y.bo, locB y.co]
section
variable {W : World} {y : Ts}
theorem ts_l1 (h : TsOK W y) : den (tsG y) (.sl 0 y.cs.length y.cx) = some (.slice (adB y.bo) y.cs.length y.cx) ∧ EntOK (tsG y) W (locB y.bo) (.lst 1 y.cs.length (fun zz => cdc (y.cs.getD zz Cde.z))) :=
 (lst_of (bo := y.bo) (enc := cdV) (f := fun zz => cdc (y.cs.getD zz Cde.z)) h.codes (Nat.le_refl _) (fun k x hx => by show denL [] (cdc (y.cs.getD k Cde.z)) = _; rw [List.getD_eq_getElem?_getD, hx]; rfl) (fun k => ⟨_, rfl⟩)).2 [] [locB y.co]
theorem ts_l2 (h : TsOK W y) : den (tsG y) (.sl 1 y.kd.length y.ck) = some (.slice (adB y.co) y.kd.length y.ck) ∧ EntOK (tsG y) W (locB y.co) (.lst 5 y.kd.length (fun zz => cc (y.kd.getD zz Cn.z))) :=
 (lst_of (bo := y.co) (enc := ccV) (f := fun zz => cc (y.kd.getD zz Cn.z)) h.conds (Nat.le_refl _) (fun k x hx => by show denL [] (cc (y.kd.getD k Cn.z)) = _; rw [List.getD_eq_getElem?_getD, hx]; rfl) (fun k => ⟨_, rfl⟩)).2 [locB y.bo] []
theorem ts_ro : ∀ (i : Nat) (e : Ent), (tsH y)[i]? = some (some e) → e.mut = false := fun i e he => by
 match i, he with
 | 0, he => cases he; rfl
 | 1, he => cases he; rfl
 | n + 2, he => simp [tsH] at he
theorem ts_mem (h : TsOK W y) : Mem (tsH y) (tsG y) W := ⟨rfl, fun i e he => by
  match i, he with
  | 0, he => cases he; exact (ts_l1 h).2
  | 1, he => cases he; exact (ts_l2 h).2
  | n + 2, he => simp [tsH] at he, fun i j e f L M _ hi _ hm _ _ _ => by rw [ts_ro i e hi] at hm; cases hm⟩
theorem ts_den (h : TsOK W y) : denL (tsG y) [tsS y] = some [.agg (tsV y).toArray] := by
 have e1 := (ts_l1 h).1
 have e2 := (ts_l2 h).1
 generalize tsG y = G at e1 e2
 unfold tsS tsV
 simp only [denL, den, Option.map_some] at e1 e2 ⊢
 rw [e1, e2]
 rfl
theorem ts_codes (h : TsOK W y) {ks : List Nat} (hk : ∀ b, ks.contains b = false) : CodesAt y.cs W ks := fun c hc => by
 obtain ⟨ao, cap, hv, hlc, he⟩ := (h.code c hc).sl
 injection hv with q1 q2 q3
 refine ⟨fun k => ⟨_, rfl⟩, ?_⟩
 by_cases h0 : c.l.length = 0
 ·exact .inl h0
 ·obtain ⟨b, o, e, hb, _⟩ := he 0 c.l[0] (List.getElem?_eq_getElem (by omega))
  refine .inr ⟨b, o, q1.trans e, hb, hk b, fun k hkl => ?_⟩
  obtain ⟨b', o', e', _, hr⟩ := he k c.l[k] (List.getElem?_eq_getElem hkl)
  rw [e] at e'
  cases e'
  exact ⟨inE c.l[k], (by show denL [] (insS (c.l.getD k In.z)) = _; rw [List.getD_eq_getElem?_getD, List.getElem?_eq_getElem hkl]; rfl), hr⟩
theorem tab_fac (h : Lib.TabIs Tryz.prog W "internal/strconv.uint64pow10" .u64 Lib.pow10Tab) : ∃ (g : Nat) (o : Obj), W.heap[g]? = some o ∧ ∀ w : World, w.heap[g]? = some o → Lib.TabIs Tryz.prog w "internal/strconv.uint64pow10" .u64 Lib.pow10Tab := by
 unfold Lib.TabIs World.var? at h
 cases hg : Tryz.prog.globalNamed "internal/strconv.uint64pow10" with
 | none => rw [hg] at h; simp at h
 | some g =>
  rw [hg] at h
  cases ho : W.heap[g]? with
  | none => simp [ho] at h
  | some o =>
   refine ⟨g, o, ho, fun w hw => ?_⟩
   unfold Lib.TabIs World.var?
   rw [hg]
   simp only [Option.bind_some, ho, hw] at h ⊢
   exact h
theorem cell_fac {b k : Nat} {v : Value} (h : W.cell? ⟨b, k, none⟩ = some v) : ∃ o, W.heap[b]? = some o ∧ ∀ w : World, w.heap[b]? = some o → w.cell? ⟨b, k, none⟩ = some v := by
 cases ho : W.heap[b]? with
 | none => unfold World.cell? at h; simp [ho] at h
 | some o =>
  refine ⟨o, rfl, fun w hw => ?_⟩
  unfold World.cell? at h ⊢
  simp only [ho, hw] at h ⊢
  exact h
end
end Go.Proofs.YtbbdanhpphlbpaaGreatDoor
namespace Go.Proofs.YtbbdanhpphlbpaaGreatDoor.Mc
open Go.RowKit
set_option linter.unusedVariables false
set_option linter.unusedSimpArgs false
set_option maxRecDepth 100000
set_option maxHeartbeats 2000000
def prX (ar : Int) : In → Int := fun i => if ar = 1 then (prP x86G x86C i (labL i.to_)).2 else if ar = 2 then (prP riscvG riscvC i (labL i.to_)).2 else (prP Ar.armG Ar.armC i (labL i.to_)).2
def chkV (ar : Int) (nm : List UInt8) (cs : List Cde) (qu : Int) (kd : List Cn) (r : Nat → Int) : Int := if 1 ≤ ar ∧ ar ≤ 3 then litC (prX ar) nm cs qu kd r else 36
theorem litCheck_ (ar : Int) (nm : List UInt8) (mi r : Nat → Int) (cs : List Cde) (cx : Nat) (qu : Int) (kd : List Cn) (ck : Nat) (os : List (Nat × Obj)) (hM : ∀ w ks, Gl os w ks → ∃ m, w.cell? ⟨0, 0, none⟩ = some (.int .i64 m)) (hT : ∀ w ks, Gl os w ks → Lib.TabIs Tryz.prog w "internal/strconv.uint64pow10" .u64 Lib.pow10Tab) (hE : ∀ w ks, Gl os w ks → ∃ ev, w.cell? ⟨4, 0, none⟩ = some ev ∧ (ev = .nilIface ∨ ∃ te pe, ev = .iface te pe)) (hs : ∀ c ∈ cs, c.l.length ≤ 9223372036854775807) (hR : ∀ c ∈ cs, ∀ i ∈ c.l, okI i) (hn : cs.length ≤ 9223372036854775807) : FnI (GC os cs) Tryz.prog 9 [.agg (tsQ9 ar nm mi r (.sl 0 cs.length cx) qu (.sl 1 kd.length ck))] [some (cdL9 cs), some (cnL9 kd)] (Rt (.int .i64 (chkV ar nm cs qu kd r)) [some (cdL9 cs), some (cnL9 kd)]) := by
 by_cases h : 1 ≤ ar ∧ ar ≤ 3
 ·have hc : ar = 1 ∨ ar = 2 ∨ ar = 3 := by omega
  unfold chkV
  rw [if_pos h]
  rcases hc with rfl | rfl | rfl
  ·exact litCheck1 nm mi r cs cx qu kd ck os hM hT hE hs hR hn
  ·exact litCheck2 nm mi r cs cx qu kd ck os hM hT hE hs hR hn
  ·exact litCheck3 nm mi r cs cx qu kd ck os hM hT hE hs hR hn
 ·unfold chkV
  rw [if_neg h]
  exact (litCheck0 ar nm mi r cs cx qu kd ck h).toI
section
variable {W : World} {y : Ts}
theorem lst_G {G : Gr} {p : Option Loc} {s n : Nat} {f : Nat → List SV} (h : EntOK [] W p (.lst s n f)) : EntOK G W p (.lst s n f) := h
end
end Go.Proofs.YtbbdanhpphlbpaaGreatDoor.Mc
namespace Go.Proofs.YtbbdanhpphlbpaaGreatDoor.Mc
open Go.RowKit
set_option linter.unusedVariables false
set_option linter.unusedSimpArgs false
set_option maxRecDepth 100000
set_option maxHeartbeats 2000000
set_option simprocs false
theorem and_le (x c : Int) {n : Nat} (hc : (BitVec.ofInt (IntKind.bits .i64) c).toNat = n) (hn : n < 64) : ∃ k : Nat, IntKind.wrap .i64 ((((BitVec.ofInt (IntKind.bits .i64) x) &&& (BitVec.ofInt (IntKind.bits .i64) c)).toNat : Nat) : Int) = (k : Int) ∧ k ≤ n := by
 have h : ((BitVec.ofInt (IntKind.bits .i64) x) &&& (BitVec.ofInt (IntKind.bits .i64) c)).toNat ≤ n := by
  rw [BitVec.toNat_and, hc]; exact Nat.and_le_right
 exact ⟨_, wrap_in (by omega), h⟩
theorem os_of {kz an : Nat} {o s : Int} (h1 : kz ≤ 3) (h2 : an ≤ 7) (hs : [1, 2, 4, 8].getD ((kz : Int)).toNat 0 = s) (ho : (IntKind.wrap .i64 (Int.tdiv (an : Int) s)) * s = o) : OS o s := by
 subst hs; subst ho
 have key : ∀ kz : Fin 4, ∀ an : Fin 8, OS ((IntKind.wrap .i64 (Int.tdiv ((an.val : Nat) : Int) ([1, 2, 4, 8].getD (((kz.val : Nat) : Int)).toNat 0))) * ([1, 2, 4, 8].getD (((kz.val : Nat) : Int)).toNat 0)) ([1, 2, 4, 8].getD (((kz.val : Nat) : Int)).toNat 0) := by unfold OS; decide +kernel
 exact key ⟨kz, by omega⟩ ⟨an, by omega⟩
theorem ckB_ {o s : Int} (b1 : Nat) (hO : OS o s) : ckE (csB b1 o s) = 0 := by
 rcases hO with ⟨rfl, rfl⟩ | ⟨rfl, rfl⟩ | ⟨rfl, rfl⟩ | ⟨rfl, rfl⟩ | ⟨rfl, rfl⟩ | ⟨rfl, rfl⟩ | ⟨rfl, rfl⟩ | ⟨rfl, rfl⟩ | ⟨rfl, rfl⟩ | ⟨rfl, rfl⟩ | ⟨rfl, rfl⟩ | ⟨rfl, rfl⟩ | ⟨rfl, rfl⟩ | ⟨rfl, rfl⟩ | ⟨rfl, rfl⟩ <;> rfl
theorem accNil {n : Nat} {T : List (Nat × SV)} {H : Hp} {ks : List Nat} {G0 G : Gr} {w0 w : World} {a : Act} (A : Sy n T H ks G0 w0 G a w) : Acc w0.heap.size [] w (keys H G) := Acc.nil
theorem beqT {x : Int} : (x == x) = true := beq_self_eq_true x
theorem beqF {x : Int} : (!(x == x)) = false := by rw [beq_self_eq_true]; rfl
theorem tsoBuffers_ (ar : Int) (nm : List UInt8) (mi r : Nat → Int) (cs : List Cde) (cx : Nat) (qu : Int) (kd : List Cn) (ck : Nat) (R : List Int) (cr : Nat) (v0 off size : Int) (os : List (Nat × Obj)) (hM : ∀ w ks, Gl os w ks → ∃ m, w.cell? ⟨0, 0, none⟩ = some (.int .i64 m)) (hT : ∀ w ks, Gl os w ks → Lib.TabIs Tryz.prog w "internal/strconv.uint64pow10" .u64 Lib.pow10Tab) (hE : ∀ w ks, Gl os w ks → ∃ ev, w.cell? ⟨4, 0, none⟩ = some ev ∧ (ev = .nilIface ∨ ∃ te pe, ev = .iface te pe)) (hls : ∀ c ∈ cs, c.l.length ≤ 9223372036854775807) (hR : ∀ c ∈ cs, ∀ i ∈ c.l, okI i) (hn : cs.length ≤ 9223372036854775807) (hD : ∀ w ks, Gl os w ks → DbAt w ks) (hv0 : -9223372036854775808 ≤ v0 ∧ v0 ≤ 9223372036854775807) : FnI (GC os cs) Tryz.prog 7 [.agg (tsQ9 ar nm mi r (.sl 0 cs.length cx) qu (.sl 1 kd.length ck)), .sl 2 R.length cr, .int .i64 v0, .int .i64 off, .int .i64 size] [some (cdL9 cs), some (cnL9 kd), some (.lst 1 R.length (fun j => [.int .i64 (R.getD j 0)]))] (Rt (.tt) [some (cdL9 cs), some (cnL9 kd), some (.lst 1 R.length (fun j => [.int .i64 (R.getD j 0)]))]) :=
 enterI (n := 129) (by kernel_rfl) Tryz.func7 rfl rfl rfl fun G w a h0 hI A => N9 9 A rfl rfl fun A => I9 [] LstAt.ok (hD _ _ hI.1) able_ A rfl fun A => N9 10 A rfl rfl fun A => I9 [0, 1] GC.ok hI (litCheck_ ar nm mi r cs cx qu kd ck os hM hT hE hls hR hn) A rfl fun A => N9 8 A rfl rfl fun A => fork 27 A rfl
  (fun h1 A => N9 7 A rfl rfl fun A => R9 A rfl h0 rfl rfl rfl)
  (fun h1 A => N9 4 A rfl rfl fun A => Exists.elim (and_le size 3 (n := 3) (by decide) (by decide)) fun kz hkz => Exists.elim (and_le off 7 (n := 7) (by decide) (by decide)) fun an han => Exists.elim (⟨_, rfl⟩ : ∃ s : Int, [1, 2, 4, 8].getD ((kz : Int)).toNat 0 = s) fun s hs => Exists.elim (⟨_, rfl⟩ : ∃ o : Int, (IntKind.wrap .i64 (Int.tdiv (an : Int) s)) * s = o) fun o ho => have hO : OS o s := os_of hkz.2 han.2 hs ho; have hs4 := os_s hO; Exists.elim (⟨2, rfl⟩ : ∃ lc : Int, lc = 2) fun lc hlc => Exists.elim (⟨_, rfl⟩ : ∃ v : Int, v = bget0 v0 s) fun v hv =>
 have hDf := hD _ _ hI.1; have hk4 : kz < 4 := Nat.lt_succ_of_le hkz.2; have B := A; have hA := accNil B; have A := B.base; have h00 := h0; have h0 := B.mem.len;
 N9 4 A rfl rfl fun A => have A := sy_sayD A 30 (.int .i64 (kz : Int)) rfl (fun _ => congrArg (fun z => some (Value.int .i64 z)) hkz.1); N9 2 A rfl (ok_d (by first | exact hk4 | exact ⟨Int.natCast_nonneg _, Int.ofNat_lt.2 hk4⟩ | omega) <| ok_d (by first | exact hk4 | exact ⟨Int.natCast_nonneg _, Int.ofNat_lt.2 hk4⟩ | omega) <| okE_nil) fun A => have A := sy_sayD A 32 (.int .i64 s) rfl (fun _ => congrArg (fun z => some (Value.int .i64 z)) hs); N9 7 A rfl rfl fun A => have A := sy_sayD A 34 (.int .i64 (an : Int)) rfl (fun _ => congrArg (fun z => some (Value.int .i64 z)) han.1); N9 4 A rfl (ok_d (by omega) <| ok_d (by rw [ho]; have := os_o hO; omega) <| okE_nil) fun A => have A := sy_sayD A 38 (.int .i64 o) rfl (fun _ => congrArg (fun z => some (Value.int .i64 z)) ho); N9 29 A rfl rfl fun A => BSCA [.int .i64 5, .int .i64 (-1), .int .i64 7, .int .i64 (-1), .z9, .int .i64 2, .int .i64 o, .int .i64 (-1), .int .i64 s, .z9, .ff, .ff, .ff, .z9, .z9, .z9, .ff, .int .i64 4, .int .i64 6, .int .i64 (-1), .int .i64 (-1), .z9, .int .i64 2, .int .i64 o, .int .i64 (-1), .int .i64 s, .z9, .ff, .ff, .ff, .z9, .z9, .z9, .ff] (X := ⟨_, true⟩) hX B hA A rfl rfl rfl rfl fun b1 B hA A =>
 BSCA [.sla (some ⟨b1, 0, none⟩) 2 2] (X := ⟨_, true⟩) hX B hA A rfl rfl rfl rfl fun b2 B hA A =>
 N9 1 A rfl rfl fun A => BSCA [.int .i64 2, .z9, .z9, .z9, .z9] (X := ⟨_, true⟩) hX B hA A rfl rfl rfl rfl fun b3 B hA A =>
 N9 11 A rfl (ok_d (by omega) <| okE_nil) fun A => have A := sy_sayD A 59 (.ptr 7 13) rfl (ix_ptr 1 rfl); N9 3 A rfl (ok_d (by omega) <| okE_nil) fun A => have A := sy_sayD A 61 (.ptr 7 21) rfl (ix_ptr 2 rfl); N9 8 A rfl (ok_d (by omega) <| okE_nil) fun A => have A := sy_sayD A 64 (.ptr 7 5) rfl (ix_ptr 0 rfl); N9 1 A rfl (ok_d (by omega) <| okE_nil) fun A => have A := sy_sayD A 65 (.ptr 7 12) rfl (ix_ptr 7 rfl); N9 6 A rfl rfl fun A => NEWM (H' := fun cs1 => [some (cdL9 cs), some (cnL9 kd), some (.lst 1 R.length (fun j => [.int .i64 (R.getD j 0)])), some (.blk (tsQ9 ar nm mi r (.sl 0 cs.length cx) qu (.sl 1 kd.length ck))), some (.blk [.int .i64 1, .int .i64 2, .int .i64 4, .int .i64 8]), some (.blk [.int .i64 5, .int .i64 (-1), .int .i64 7, .int .i64 (-1), .z9, .int .i64 2, .int .i64 o, .int .i64 (-1), .int .i64 s, .z9, .ff, .ff, .ff, .z9, .z9, .z9, .ff]), some (.blk [.int .i64 4, .int .i64 6, .int .i64 (-1), .int .i64 (-1), .z9, .int .i64 2, .int .i64 o, .int .i64 (-1), .int .i64 s, .z9, .ff, .ff, .ff, .z9, .z9, .z9, .ff]), some (.blk [.int .i64 1, .str [66], .int .i64 (mi 0), .int .i64 (mi 1), .int .i64 (mi 2), .int .i64 (r 0), .int .i64 (r 1), .int .i64 (r 2), .int .i64 (r 3), .int .i64 (r 4), .int .i64 (r 5), .int .i64 (r 6), .int .i64 v0, .z9, .z9, .z9, .z9, .z9, .z9, .z9, .z9, .z9, .z9, .z9, .z9, .z9, .z9, .z9, .z9, .sla (some ⟨b2, 0, none⟩) 1 1, .int .i64 1, .sla (some ⟨b3, 0, none⟩) 1 1]), some (coR9 cs1 (iniL (csB b1 o s) (rgB r v0)) 1), some (.blk [.sl 8 1 0]), some (.blk [.ptr 9 0, .int .i64 (mi 0), .int .i64 (mi 1), .int .i64 (mi 2), .sla none 0 0, .sla none 0 0, .sla none 0 0])]) (new_ (csB b1 o s) (some ⟨b2, 0, none⟩) 1 (rgB r v0) mi 1 1 [66] (some ⟨b3, 0, none⟩) 1 1 (ckB_ b1 hO) (show 0 < 1 by decide)) A (preB (hA.now A) rfl) rfl rfl rfl (fun _ => rfl) fun cs1 {gA1 _ wA1} hok1 he1 hC1 A => have hA := hA.now A; have B := B.trans A; have hDb := LstAt.ok.now B hDf; have A := B.base; have h0 := B.mem.len; have he1 := he1 0 (show 0 < 1 by decide); have hI1 := (⟨hC1, hDb⟩ : TI cs1 _ _); 
 N9 5 A rfl rfl fun A => have A := A.cut [2, 3, 4, 5, 10, 11, 12, 15, 16] rfl; any_in 21 hmo rfl A fun {w2} A => any_cut (fun (tail : ∀ {G1 : Gr} {a1 : Act} {w1 : World}, Sy 129 [(2, .int .i64 v0), (3, .int .i64 off), (4, .int .i64 size), (5, .ptr 3 0), (10, .ff), (11, .int .i64 s), (12, .int .i64 o), (15, .ptr 7 0), (16, .ptr 10 0), (68, .ptr 10 0), (69, .tt), (70, .ff), (71, .ff), (72, .ptr 10 0), (73, .int .i64 1), (74, .ff), (75, .ff), (76, .ff), (77, .ptr 10 0), (78, .int .i64 (mi 2)), (79, .ptr 3 2), (80, .ptr 3 4), (81, .int .i64 (mi 2))] [some (cdL9 cs), some (cnL9 kd), some (.lst 1 R.length (fun j => [.int .i64 (R.getD j 0)])), some (.blk (tsQ9 ar nm mi r (.sl 0 cs.length cx) qu (.sl 1 kd.length ck))), some (.blk [.int .i64 1, .int .i64 2, .int .i64 4, .int .i64 8]), some (.blk [.int .i64 5, .int .i64 (-1), .int .i64 7, .int .i64 (-1), .z9, .int .i64 2, .int .i64 o, .int .i64 (-1), .int .i64 s, .z9, .ff, .ff, .ff, .z9, .z9, .z9, .ff]), some (.blk [.int .i64 4, .int .i64 6, .int .i64 (-1), .int .i64 (-1), .z9, .int .i64 2, .int .i64 o, .int .i64 (-1), .int .i64 s, .z9, .ff, .ff, .ff, .z9, .z9, .z9, .ff]), some (.blk [.int .i64 1, .str [66], .int .i64 (mi 0), .int .i64 (mi 1), .int .i64 (mi 2), .int .i64 (r 0), .int .i64 (r 1), .int .i64 (r 2), .int .i64 (r 3), .int .i64 (r 4), .int .i64 (r 5), .int .i64 (r 6), .int .i64 v0, .z9, .z9, .z9, .z9, .z9, .z9, .z9, .z9, .z9, .z9, .z9, .z9, .z9, .z9, .z9, .z9, .sla (some ⟨b2, 0, none⟩) 1 1, .int .i64 1, .sla (some ⟨b3, 0, none⟩) 1 1]), some (coR9 cs1 (setTh cs1 (iniL (csB b1 o s) (rgB r v0)) 0 0) 1), some (.blk [.sl 8 1 0]), some (.blk [.ptr 9 0, .int .i64 (mi 0), .int .i64 (mi 1), .int .i64 (mi 2), .sl 11 1 0, .sla none 0 0, .sla none 0 0]), some (.row 123 3 1 0 (fun _ => [.int .i64 lc, .int .i64 (mskN o s), .int .i64 v]))] (keys [some (cdL9 cs), some (cnL9 kd), some (.lst 1 R.length (fun j => [.int .i64 (R.getD j 0)])), some (.blk (tsQ9 ar nm mi r (.sl 0 cs.length cx) qu (.sl 1 kd.length ck))), some (.blk [.int .i64 1, .int .i64 2, .int .i64 4, .int .i64 8]), some (.blk [.int .i64 5, .int .i64 (-1), .int .i64 7, .int .i64 (-1), .z9, .int .i64 2, .int .i64 o, .int .i64 (-1), .int .i64 s, .z9, .ff, .ff, .ff, .z9, .z9, .z9, .ff]), some (.blk [.int .i64 4, .int .i64 6, .int .i64 (-1), .int .i64 (-1), .z9, .int .i64 2, .int .i64 o, .int .i64 (-1), .int .i64 s, .z9, .ff, .ff, .ff, .z9, .z9, .z9, .ff]), some (.blk [.int .i64 1, .str [66], .int .i64 (mi 0), .int .i64 (mi 1), .int .i64 (mi 2), .int .i64 (r 0), .int .i64 (r 1), .int .i64 (r 2), .int .i64 (r 3), .int .i64 (r 4), .int .i64 (r 5), .int .i64 (r 6), .int .i64 v0, .z9, .z9, .z9, .z9, .z9, .z9, .z9, .z9, .z9, .z9, .z9, .z9, .z9, .z9, .z9, .z9, .sla (some ⟨b2, 0, none⟩) 1 1, .int .i64 1, .sla (some ⟨b3, 0, none⟩) 1 1]), some (coR9 cs1 (iniL (csB b1 o s) (rgB r v0)) 1), some (.blk [.sl 8 1 0]), some (.blk [.ptr 9 0, .int .i64 (mi 0), .int .i64 (mi 1), .int .i64 (mi 2), .sla none 0 0, .sla none 0 0, .sla none 0 0])] gA1) gA1 wA1 G1 a1 w1 → wpAny Tryz.prog .any _ _ _ _ a1 w1) => any_at (rs := [0]) (by kernel_rfl) (by decide) (fc9 ⟨aV9 (.ptr 10 0) rfl A rfl rfl fun A => any_at (rs := [1]) (by kernel_rfl) (by decide) (fc9 ⟨any_eff (x := .tt) (H' := [some (cdL9 cs), some (cnL9 kd), some (.lst 1 R.length (fun j => [.int .i64 (R.getD j 0)])), some (.blk (tsQ9 ar nm mi r (.sl 0 cs.length cx) qu (.sl 1 kd.length ck))), some (.blk [.int .i64 1, .int .i64 2, .int .i64 4, .int .i64 8]), some (.blk [.int .i64 5, .int .i64 (-1), .int .i64 7, .int .i64 (-1), .z9, .int .i64 2, .int .i64 o, .int .i64 (-1), .int .i64 s, .z9, .ff, .ff, .ff, .z9, .z9, .z9, .ff]), some (.blk [.int .i64 4, .int .i64 6, .int .i64 (-1), .int .i64 (-1), .z9, .int .i64 2, .int .i64 o, .int .i64 (-1), .int .i64 s, .z9, .ff, .ff, .ff, .z9, .z9, .z9, .ff]), some (.blk [.int .i64 1, .str [66], .int .i64 (mi 0), .int .i64 (mi 1), .int .i64 (mi 2), .int .i64 (r 0), .int .i64 (r 1), .int .i64 (r 2), .int .i64 (r 3), .int .i64 (r 4), .int .i64 (r 5), .int .i64 (r 6), .int .i64 v0, .z9, .z9, .z9, .z9, .z9, .z9, .z9, .z9, .z9, .z9, .z9, .z9, .z9, .z9, .z9, .z9, .sla (some ⟨b2, 0, none⟩) 1 1, .int .i64 1, .sla (some ⟨b3, 0, none⟩) 1 1]), some (coR9 cs1 (setTh cs1 (iniL (csB b1 o s) (rgB r v0)) 0 0) 1), some (.blk [.sl 8 1 0]), some (.blk [.ptr 9 0, .int .i64 (mi 0), .int .i64 (mi 1), .int .i64 (mi 2), .sl 11 1 0, .sla none 0 0, .sla none 0 0]), some (.row 123 3 1 0 (fun _ => [.int .i64 lc, .int .i64 (mskN o s), .int .i64 v]))]) rfl A rfl (callIE [10, 9, 8] TI.ok hI1 (lD0_ (m := mi) hok1 he1 hO hlc hv) rfl rfl rfl rfl rfl rfl rfl) fun A => any_at (rs := [2]) (by kernel_rfl) (by decide) (fc9 ⟨aV9 (.ff) rfl A rfl rfl fun A => any_at (rs := [3]) (by kernel_rfl) (by decide) (fc9 ⟨aV9 (.ff) rfl A rfl rfl fun A => any_at (rs := [4]) (by kernel_rfl) (by decide) (fc9 ⟨aV9 (.ptr 10 0) rfl A rfl rfl fun A => any_at (rs := [5]) (by kernel_rfl) (by decide) (fc9 ⟨any_eff (x := .int .i64 1) (H' := [some (cdL9 cs), some (cnL9 kd), some (.lst 1 R.length (fun j => [.int .i64 (R.getD j 0)])), some (.blk (tsQ9 ar nm mi r (.sl 0 cs.length cx) qu (.sl 1 kd.length ck))), some (.blk [.int .i64 1, .int .i64 2, .int .i64 4, .int .i64 8]), some (.blk [.int .i64 5, .int .i64 (-1), .int .i64 7, .int .i64 (-1), .z9, .int .i64 2, .int .i64 o, .int .i64 (-1), .int .i64 s, .z9, .ff, .ff, .ff, .z9, .z9, .z9, .ff]), some (.blk [.int .i64 4, .int .i64 6, .int .i64 (-1), .int .i64 (-1), .z9, .int .i64 2, .int .i64 o, .int .i64 (-1), .int .i64 s, .z9, .ff, .ff, .ff, .z9, .z9, .z9, .ff]), some (.blk [.int .i64 1, .str [66], .int .i64 (mi 0), .int .i64 (mi 1), .int .i64 (mi 2), .int .i64 (r 0), .int .i64 (r 1), .int .i64 (r 2), .int .i64 (r 3), .int .i64 (r 4), .int .i64 (r 5), .int .i64 (r 6), .int .i64 v0, .z9, .z9, .z9, .z9, .z9, .z9, .z9, .z9, .z9, .z9, .z9, .z9, .z9, .z9, .z9, .z9, .sla (some ⟨b2, 0, none⟩) 1 1, .int .i64 1, .sla (some ⟨b3, 0, none⟩) 1 1]), some (coR9 cs1 (setTh cs1 (iniL (csB b1 o s) (rgB r v0)) 0 0) 1), some (.blk [.sl 8 1 0]), some (.blk [.ptr 9 0, .int .i64 (mi 0), .int .i64 (mi 1), .int .i64 (mi 2), .sl 11 1 0, .sla none 0 0, .sla none 0 0]), some (.row 123 3 1 0 (fun _ => [.int .i64 lc, .int .i64 (mskN o s), .int .i64 v]))]) rfl A rfl (callE [10, 9, 8, 11] (bufB_ mi cs1 (setTh cs1 (iniL (csB b1 o s) (rgB r v0)) 0 0) 1 lc o s v 0 (by decide)) rfl rfl rfl rfl rfl rfl rfl) fun A => any_at (rs := [6]) (by kernel_rfl) (by decide) (fc9 ⟨aV9 (.bool (!(1 == 1))) rfl A rfl rfl fun A => have A := sy_sayD A 74 (.ff) rfl (fun _ => congrArg (fun b => some (Value.bool b)) beqF); any_at (rs := [7]) (by kernel_rfl) (by decide) (fc9 ⟨aV9 (.ff) rfl A rfl rfl fun A => any_at (rs := [8]) (by kernel_rfl) (by decide) (fc9 ⟨aV9 (.ff) rfl A rfl rfl fun A => any_at (rs := [9, 11]) (by kernel_rfl) (by decide) (fc9 ⟨aV9 (.ptr 10 0) rfl A rfl rfl fun A => any_at (rs := [10, 11]) (by kernel_rfl) (by decide) (fc9 ⟨any_eff (x := .int .i64 (mi 2)) (H' := [some (cdL9 cs), some (cnL9 kd), some (.lst 1 R.length (fun j => [.int .i64 (R.getD j 0)])), some (.blk (tsQ9 ar nm mi r (.sl 0 cs.length cx) qu (.sl 1 kd.length ck))), some (.blk [.int .i64 1, .int .i64 2, .int .i64 4, .int .i64 8]), some (.blk [.int .i64 5, .int .i64 (-1), .int .i64 7, .int .i64 (-1), .z9, .int .i64 2, .int .i64 o, .int .i64 (-1), .int .i64 s, .z9, .ff, .ff, .ff, .z9, .z9, .z9, .ff]), some (.blk [.int .i64 4, .int .i64 6, .int .i64 (-1), .int .i64 (-1), .z9, .int .i64 2, .int .i64 o, .int .i64 (-1), .int .i64 s, .z9, .ff, .ff, .ff, .z9, .z9, .z9, .ff]), some (.blk [.int .i64 1, .str [66], .int .i64 (mi 0), .int .i64 (mi 1), .int .i64 (mi 2), .int .i64 (r 0), .int .i64 (r 1), .int .i64 (r 2), .int .i64 (r 3), .int .i64 (r 4), .int .i64 (r 5), .int .i64 (r 6), .int .i64 v0, .z9, .z9, .z9, .z9, .z9, .z9, .z9, .z9, .z9, .z9, .z9, .z9, .z9, .z9, .z9, .z9, .sla (some ⟨b2, 0, none⟩) 1 1, .int .i64 1, .sla (some ⟨b3, 0, none⟩) 1 1]), some (coR9 cs1 (setTh cs1 (iniL (csB b1 o s) (rgB r v0)) 0 0) 1), some (.blk [.sl 8 1 0]), some (.blk [.ptr 9 0, .int .i64 (mi 0), .int .i64 (mi 1), .int .i64 (mi 2), .sl 11 1 0, .sla none 0 0, .sla none 0 0]), some (.row 123 3 1 0 (fun _ => [.int .i64 lc, .int .i64 (mskN o s), .int .i64 v]))]) rfl A rfl (callE [10, 9, 8, 11] (memB_ mi cs1 (setTh cs1 (iniL (csB b1 o s) (rgB r v0)) 0 0) 1 lc o s v 2 (by decide)) rfl rfl rfl rfl rfl rfl rfl) fun A => any_at (rs := [11]) (by kernel_rfl) (by decide) (fc9 ⟨aV9 (.ptr 3 2) rfl A rfl rfl fun A => any_at (rs := [12]) (by kernel_rfl) (by decide) (fc9 ⟨aV9 (.ix (.ptr 3 2) 1 3 2 0) rfl A rfl (ok_d (by omega) <| okE_nil) fun A => have A := sy_sayD A 80 (.ptr 3 4) rfl (ix_ptr 2 rfl); any_at (rs := [13]) (by kernel_rfl) (by decide) (fc9 ⟨aV9 (.int .i64 (mi 2)) rfl A rfl rfl fun A => tail (A.cut [2, 3, 4, 5, 10, 11, 12, 15, 16, 68, 69, 70, 71, 72, 73, 74, 75, 76, 77, 78, 79, 80, 81] rfl),
                (fn9)⟩),
               (fn9)⟩),
              (fn9)⟩),
             (fc9 ⟨aV9 (.ptr 3 2) rfl A rfl rfl fun A => any_at (rs := [10, 12]) (by kernel_rfl) (by decide) (fc9 ⟨any_eff (x := .int .i64 (mi 2)) (H' := [some (cdL9 cs), some (cnL9 kd), some (.lst 1 R.length (fun j => [.int .i64 (R.getD j 0)])), some (.blk (tsQ9 ar nm mi r (.sl 0 cs.length cx) qu (.sl 1 kd.length ck))), some (.blk [.int .i64 1, .int .i64 2, .int .i64 4, .int .i64 8]), some (.blk [.int .i64 5, .int .i64 (-1), .int .i64 7, .int .i64 (-1), .z9, .int .i64 2, .int .i64 o, .int .i64 (-1), .int .i64 s, .z9, .ff, .ff, .ff, .z9, .z9, .z9, .ff]), some (.blk [.int .i64 4, .int .i64 6, .int .i64 (-1), .int .i64 (-1), .z9, .int .i64 2, .int .i64 o, .int .i64 (-1), .int .i64 s, .z9, .ff, .ff, .ff, .z9, .z9, .z9, .ff]), some (.blk [.int .i64 1, .str [66], .int .i64 (mi 0), .int .i64 (mi 1), .int .i64 (mi 2), .int .i64 (r 0), .int .i64 (r 1), .int .i64 (r 2), .int .i64 (r 3), .int .i64 (r 4), .int .i64 (r 5), .int .i64 (r 6), .int .i64 v0, .z9, .z9, .z9, .z9, .z9, .z9, .z9, .z9, .z9, .z9, .z9, .z9, .z9, .z9, .z9, .z9, .sla (some ⟨b2, 0, none⟩) 1 1, .int .i64 1, .sla (some ⟨b3, 0, none⟩) 1 1]), some (coR9 cs1 (setTh cs1 (iniL (csB b1 o s) (rgB r v0)) 0 0) 1), some (.blk [.sl 8 1 0]), some (.blk [.ptr 9 0, .int .i64 (mi 0), .int .i64 (mi 1), .int .i64 (mi 2), .sl 11 1 0, .sla none 0 0, .sla none 0 0]), some (.row 123 3 1 0 (fun _ => [.int .i64 lc, .int .i64 (mskN o s), .int .i64 v]))]) rfl A rfl (callE [10, 9, 8, 11] (memB_ mi cs1 (setTh cs1 (iniL (csB b1 o s) (rgB r v0)) 0 0) 1 lc o s v 2 (by decide)) rfl rfl rfl rfl rfl rfl rfl) fun A => any_at (rs := [12]) (by kernel_rfl) (by decide) (fc9 ⟨aV9 (.ix (.ptr 3 2) 1 3 2 0) rfl A rfl (ok_d (by omega) <| okE_nil) fun A => have A := sy_sayD A 80 (.ptr 3 4) rfl (ix_ptr 2 rfl); any_at (rs := [13]) (by kernel_rfl) (by decide) (fc9 ⟨aV9 (.int .i64 (mi 2)) rfl A rfl rfl fun A => tail (A.cut [2, 3, 4, 5, 10, 11, 12, 15, 16, 68, 69, 70, 71, 72, 73, 74, 75, 76, 77, 78, 79, 80, 81] rfl),
                (fn9)⟩),
               (fn9)⟩),
              (fc9 ⟨aV9 (.ix (.ptr 3 2) 1 3 2 0) rfl A rfl (ok_d (by omega) <| okE_nil) fun A => have A := sy_sayD A 80 (.ptr 3 4) rfl (ix_ptr 2 rfl); any_at (rs := [10, 13]) (by kernel_rfl) (by decide) (fc9 ⟨any_eff (x := .int .i64 (mi 2)) (H' := [some (cdL9 cs), some (cnL9 kd), some (.lst 1 R.length (fun j => [.int .i64 (R.getD j 0)])), some (.blk (tsQ9 ar nm mi r (.sl 0 cs.length cx) qu (.sl 1 kd.length ck))), some (.blk [.int .i64 1, .int .i64 2, .int .i64 4, .int .i64 8]), some (.blk [.int .i64 5, .int .i64 (-1), .int .i64 7, .int .i64 (-1), .z9, .int .i64 2, .int .i64 o, .int .i64 (-1), .int .i64 s, .z9, .ff, .ff, .ff, .z9, .z9, .z9, .ff]), some (.blk [.int .i64 4, .int .i64 6, .int .i64 (-1), .int .i64 (-1), .z9, .int .i64 2, .int .i64 o, .int .i64 (-1), .int .i64 s, .z9, .ff, .ff, .ff, .z9, .z9, .z9, .ff]), some (.blk [.int .i64 1, .str [66], .int .i64 (mi 0), .int .i64 (mi 1), .int .i64 (mi 2), .int .i64 (r 0), .int .i64 (r 1), .int .i64 (r 2), .int .i64 (r 3), .int .i64 (r 4), .int .i64 (r 5), .int .i64 (r 6), .int .i64 v0, .z9, .z9, .z9, .z9, .z9, .z9, .z9, .z9, .z9, .z9, .z9, .z9, .z9, .z9, .z9, .z9, .sla (some ⟨b2, 0, none⟩) 1 1, .int .i64 1, .sla (some ⟨b3, 0, none⟩) 1 1]), some (coR9 cs1 (setTh cs1 (iniL (csB b1 o s) (rgB r v0)) 0 0) 1), some (.blk [.sl 8 1 0]), some (.blk [.ptr 9 0, .int .i64 (mi 0), .int .i64 (mi 1), .int .i64 (mi 2), .sl 11 1 0, .sla none 0 0, .sla none 0 0]), some (.row 123 3 1 0 (fun _ => [.int .i64 lc, .int .i64 (mskN o s), .int .i64 v]))]) rfl A rfl (callE [10, 9, 8, 11] (memB_ mi cs1 (setTh cs1 (iniL (csB b1 o s) (rgB r v0)) 0 0) 1 lc o s v 2 (by decide)) rfl rfl rfl rfl rfl rfl rfl) fun A => any_at (rs := [13]) (by kernel_rfl) (by decide) (fc9 ⟨aV9 (.int .i64 (mi 2)) rfl A rfl rfl fun A => tail (A.cut [2, 3, 4, 5, 10, 11, 12, 15, 16, 68, 69, 70, 71, 72, 73, 74, 75, 76, 77, 78, 79, 80, 81] rfl),
                (fn9)⟩),
               (fc9 ⟨aV9 (.int .i64 (mi 2)) rfl A rfl rfl fun A => any_at (rs := [10]) (by kernel_rfl) (by decide) (fc9 ⟨any_eff (x := .int .i64 (mi 2)) (H' := [some (cdL9 cs), some (cnL9 kd), some (.lst 1 R.length (fun j => [.int .i64 (R.getD j 0)])), some (.blk (tsQ9 ar nm mi r (.sl 0 cs.length cx) qu (.sl 1 kd.length ck))), some (.blk [.int .i64 1, .int .i64 2, .int .i64 4, .int .i64 8]), some (.blk [.int .i64 5, .int .i64 (-1), .int .i64 7, .int .i64 (-1), .z9, .int .i64 2, .int .i64 o, .int .i64 (-1), .int .i64 s, .z9, .ff, .ff, .ff, .z9, .z9, .z9, .ff]), some (.blk [.int .i64 4, .int .i64 6, .int .i64 (-1), .int .i64 (-1), .z9, .int .i64 2, .int .i64 o, .int .i64 (-1), .int .i64 s, .z9, .ff, .ff, .ff, .z9, .z9, .z9, .ff]), some (.blk [.int .i64 1, .str [66], .int .i64 (mi 0), .int .i64 (mi 1), .int .i64 (mi 2), .int .i64 (r 0), .int .i64 (r 1), .int .i64 (r 2), .int .i64 (r 3), .int .i64 (r 4), .int .i64 (r 5), .int .i64 (r 6), .int .i64 v0, .z9, .z9, .z9, .z9, .z9, .z9, .z9, .z9, .z9, .z9, .z9, .z9, .z9, .z9, .z9, .z9, .sla (some ⟨b2, 0, none⟩) 1 1, .int .i64 1, .sla (some ⟨b3, 0, none⟩) 1 1]), some (coR9 cs1 (setTh cs1 (iniL (csB b1 o s) (rgB r v0)) 0 0) 1), some (.blk [.sl 8 1 0]), some (.blk [.ptr 9 0, .int .i64 (mi 0), .int .i64 (mi 1), .int .i64 (mi 2), .sl 11 1 0, .sla none 0 0, .sla none 0 0]), some (.row 123 3 1 0 (fun _ => [.int .i64 lc, .int .i64 (mskN o s), .int .i64 v]))]) rfl A rfl (callE [10, 9, 8, 11] (memB_ mi cs1 (setTh cs1 (iniL (csB b1 o s) (rgB r v0)) 0 0) 1 lc o s v 2 (by decide)) rfl rfl rfl rfl rfl rfl rfl) fun A => tail (A.cut [2, 3, 4, 5, 10, 11, 12, 15, 16, 68, 69, 70, 71, 72, 73, 74, 75, 76, 77, 78, 79, 80, 81] rfl),
                (fn9)⟩),
               (fn9)⟩)⟩),
              (fn9)⟩)⟩),
             (fn9)⟩)⟩),
            (fc9 ⟨aV9 (.ptr 3 2) rfl A rfl rfl fun A => any_at (rs := [9, 12]) (by kernel_rfl) (by decide) (fc9 ⟨aV9 (.ptr 10 0) rfl A rfl rfl fun A => any_at (rs := [10, 12]) (by kernel_rfl) (by decide) (fc9 ⟨any_eff (x := .int .i64 (mi 2)) (H' := [some (cdL9 cs), some (cnL9 kd), some (.lst 1 R.length (fun j => [.int .i64 (R.getD j 0)])), some (.blk (tsQ9 ar nm mi r (.sl 0 cs.length cx) qu (.sl 1 kd.length ck))), some (.blk [.int .i64 1, .int .i64 2, .int .i64 4, .int .i64 8]), some (.blk [.int .i64 5, .int .i64 (-1), .int .i64 7, .int .i64 (-1), .z9, .int .i64 2, .int .i64 o, .int .i64 (-1), .int .i64 s, .z9, .ff, .ff, .ff, .z9, .z9, .z9, .ff]), some (.blk [.int .i64 4, .int .i64 6, .int .i64 (-1), .int .i64 (-1), .z9, .int .i64 2, .int .i64 o, .int .i64 (-1), .int .i64 s, .z9, .ff, .ff, .ff, .z9, .z9, .z9, .ff]), some (.blk [.int .i64 1, .str [66], .int .i64 (mi 0), .int .i64 (mi 1), .int .i64 (mi 2), .int .i64 (r 0), .int .i64 (r 1), .int .i64 (r 2), .int .i64 (r 3), .int .i64 (r 4), .int .i64 (r 5), .int .i64 (r 6), .int .i64 v0, .z9, .z9, .z9, .z9, .z9, .z9, .z9, .z9, .z9, .z9, .z9, .z9, .z9, .z9, .z9, .z9, .sla (some ⟨b2, 0, none⟩) 1 1, .int .i64 1, .sla (some ⟨b3, 0, none⟩) 1 1]), some (coR9 cs1 (setTh cs1 (iniL (csB b1 o s) (rgB r v0)) 0 0) 1), some (.blk [.sl 8 1 0]), some (.blk [.ptr 9 0, .int .i64 (mi 0), .int .i64 (mi 1), .int .i64 (mi 2), .sl 11 1 0, .sla none 0 0, .sla none 0 0]), some (.row 123 3 1 0 (fun _ => [.int .i64 lc, .int .i64 (mskN o s), .int .i64 v]))]) rfl A rfl (callE [10, 9, 8, 11] (memB_ mi cs1 (setTh cs1 (iniL (csB b1 o s) (rgB r v0)) 0 0) 1 lc o s v 2 (by decide)) rfl rfl rfl rfl rfl rfl rfl) fun A => any_at (rs := [12]) (by kernel_rfl) (by decide) (fc9 ⟨aV9 (.ix (.ptr 3 2) 1 3 2 0) rfl A rfl (ok_d (by omega) <| okE_nil) fun A => have A := sy_sayD A 80 (.ptr 3 4) rfl (ix_ptr 2 rfl); any_at (rs := [13]) (by kernel_rfl) (by decide) (fc9 ⟨aV9 (.int .i64 (mi 2)) rfl A rfl rfl fun A => tail (A.cut [2, 3, 4, 5, 10, 11, 12, 15, 16, 68, 69, 70, 71, 72, 73, 74, 75, 76, 77, 78, 79, 80, 81] rfl),
                (fn9)⟩),
               (fn9)⟩),
              (fc9 ⟨aV9 (.ix (.ptr 3 2) 1 3 2 0) rfl A rfl (ok_d (by omega) <| okE_nil) fun A => have A := sy_sayD A 80 (.ptr 3 4) rfl (ix_ptr 2 rfl); any_at (rs := [10, 13]) (by kernel_rfl) (by decide) (fc9 ⟨any_eff (x := .int .i64 (mi 2)) (H' := [some (cdL9 cs), some (cnL9 kd), some (.lst 1 R.length (fun j => [.int .i64 (R.getD j 0)])), some (.blk (tsQ9 ar nm mi r (.sl 0 cs.length cx) qu (.sl 1 kd.length ck))), some (.blk [.int .i64 1, .int .i64 2, .int .i64 4, .int .i64 8]), some (.blk [.int .i64 5, .int .i64 (-1), .int .i64 7, .int .i64 (-1), .z9, .int .i64 2, .int .i64 o, .int .i64 (-1), .int .i64 s, .z9, .ff, .ff, .ff, .z9, .z9, .z9, .ff]), some (.blk [.int .i64 4, .int .i64 6, .int .i64 (-1), .int .i64 (-1), .z9, .int .i64 2, .int .i64 o, .int .i64 (-1), .int .i64 s, .z9, .ff, .ff, .ff, .z9, .z9, .z9, .ff]), some (.blk [.int .i64 1, .str [66], .int .i64 (mi 0), .int .i64 (mi 1), .int .i64 (mi 2), .int .i64 (r 0), .int .i64 (r 1), .int .i64 (r 2), .int .i64 (r 3), .int .i64 (r 4), .int .i64 (r 5), .int .i64 (r 6), .int .i64 v0, .z9, .z9, .z9, .z9, .z9, .z9, .z9, .z9, .z9, .z9, .z9, .z9, .z9, .z9, .z9, .z9, .sla (some ⟨b2, 0, none⟩) 1 1, .int .i64 1, .sla (some ⟨b3, 0, none⟩) 1 1]), some (coR9 cs1 (setTh cs1 (iniL (csB b1 o s) (rgB r v0)) 0 0) 1), some (.blk [.sl 8 1 0]), some (.blk [.ptr 9 0, .int .i64 (mi 0), .int .i64 (mi 1), .int .i64 (mi 2), .sl 11 1 0, .sla none 0 0, .sla none 0 0]), some (.row 123 3 1 0 (fun _ => [.int .i64 lc, .int .i64 (mskN o s), .int .i64 v]))]) rfl A rfl (callE [10, 9, 8, 11] (memB_ mi cs1 (setTh cs1 (iniL (csB b1 o s) (rgB r v0)) 0 0) 1 lc o s v 2 (by decide)) rfl rfl rfl rfl rfl rfl rfl) fun A => any_at (rs := [13]) (by kernel_rfl) (by decide) (fc9 ⟨aV9 (.int .i64 (mi 2)) rfl A rfl rfl fun A => tail (A.cut [2, 3, 4, 5, 10, 11, 12, 15, 16, 68, 69, 70, 71, 72, 73, 74, 75, 76, 77, 78, 79, 80, 81] rfl),
                (fn9)⟩),
               (fc9 ⟨aV9 (.int .i64 (mi 2)) rfl A rfl rfl fun A => any_at (rs := [10]) (by kernel_rfl) (by decide) (fc9 ⟨any_eff (x := .int .i64 (mi 2)) (H' := [some (cdL9 cs), some (cnL9 kd), some (.lst 1 R.length (fun j => [.int .i64 (R.getD j 0)])), some (.blk (tsQ9 ar nm mi r (.sl 0 cs.length cx) qu (.sl 1 kd.length ck))), some (.blk [.int .i64 1, .int .i64 2, .int .i64 4, .int .i64 8]), some (.blk [.int .i64 5, .int .i64 (-1), .int .i64 7, .int .i64 (-1), .z9, .int .i64 2, .int .i64 o, .int .i64 (-1), .int .i64 s, .z9, .ff, .ff, .ff, .z9, .z9, .z9, .ff]), some (.blk [.int .i64 4, .int .i64 6, .int .i64 (-1), .int .i64 (-1), .z9, .int .i64 2, .int .i64 o, .int .i64 (-1), .int .i64 s, .z9, .ff, .ff, .ff, .z9, .z9, .z9, .ff]), some (.blk [.int .i64 1, .str [66], .int .i64 (mi 0), .int .i64 (mi 1), .int .i64 (mi 2), .int .i64 (r 0), .int .i64 (r 1), .int .i64 (r 2), .int .i64 (r 3), .int .i64 (r 4), .int .i64 (r 5), .int .i64 (r 6), .int .i64 v0, .z9, .z9, .z9, .z9, .z9, .z9, .z9, .z9, .z9, .z9, .z9, .z9, .z9, .z9, .z9, .z9, .sla (some ⟨b2, 0, none⟩) 1 1, .int .i64 1, .sla (some ⟨b3, 0, none⟩) 1 1]), some (coR9 cs1 (setTh cs1 (iniL (csB b1 o s) (rgB r v0)) 0 0) 1), some (.blk [.sl 8 1 0]), some (.blk [.ptr 9 0, .int .i64 (mi 0), .int .i64 (mi 1), .int .i64 (mi 2), .sl 11 1 0, .sla none 0 0, .sla none 0 0]), some (.row 123 3 1 0 (fun _ => [.int .i64 lc, .int .i64 (mskN o s), .int .i64 v]))]) rfl A rfl (callE [10, 9, 8, 11] (memB_ mi cs1 (setTh cs1 (iniL (csB b1 o s) (rgB r v0)) 0 0) 1 lc o s v 2 (by decide)) rfl rfl rfl rfl rfl rfl rfl) fun A => tail (A.cut [2, 3, 4, 5, 10, 11, 12, 15, 16, 68, 69, 70, 71, 72, 73, 74, 75, 76, 77, 78, 79, 80, 81] rfl),
                (fn9)⟩),
               (fn9)⟩)⟩),
              (fn9)⟩)⟩),
             (fc9 ⟨aV9 (.ix (.ptr 3 2) 1 3 2 0) rfl A rfl (ok_d (by omega) <| okE_nil) fun A => have A := sy_sayD A 80 (.ptr 3 4) rfl (ix_ptr 2 rfl); any_at (rs := [9, 13]) (by kernel_rfl) (by decide) (fc9 ⟨aV9 (.ptr 10 0) rfl A rfl rfl fun A => any_at (rs := [10, 13]) (by kernel_rfl) (by decide) (fc9 ⟨any_eff (x := .int .i64 (mi 2)) (H' := [some (cdL9 cs), some (cnL9 kd), some (.lst 1 R.length (fun j => [.int .i64 (R.getD j 0)])), some (.blk (tsQ9 ar nm mi r (.sl 0 cs.length cx) qu (.sl 1 kd.length ck))), some (.blk [.int .i64 1, .int .i64 2, .int .i64 4, .int .i64 8]), some (.blk [.int .i64 5, .int .i64 (-1), .int .i64 7, .int .i64 (-1), .z9, .int .i64 2, .int .i64 o, .int .i64 (-1), .int .i64 s, .z9, .ff, .ff, .ff, .z9, .z9, .z9, .ff]), some (.blk [.int .i64 4, .int .i64 6, .int .i64 (-1), .int .i64 (-1), .z9, .int .i64 2, .int .i64 o, .int .i64 (-1), .int .i64 s, .z9, .ff, .ff, .ff, .z9, .z9, .z9, .ff]), some (.blk [.int .i64 1, .str [66], .int .i64 (mi 0), .int .i64 (mi 1), .int .i64 (mi 2), .int .i64 (r 0), .int .i64 (r 1), .int .i64 (r 2), .int .i64 (r 3), .int .i64 (r 4), .int .i64 (r 5), .int .i64 (r 6), .int .i64 v0, .z9, .z9, .z9, .z9, .z9, .z9, .z9, .z9, .z9, .z9, .z9, .z9, .z9, .z9, .z9, .z9, .sla (some ⟨b2, 0, none⟩) 1 1, .int .i64 1, .sla (some ⟨b3, 0, none⟩) 1 1]), some (coR9 cs1 (setTh cs1 (iniL (csB b1 o s) (rgB r v0)) 0 0) 1), some (.blk [.sl 8 1 0]), some (.blk [.ptr 9 0, .int .i64 (mi 0), .int .i64 (mi 1), .int .i64 (mi 2), .sl 11 1 0, .sla none 0 0, .sla none 0 0]), some (.row 123 3 1 0 (fun _ => [.int .i64 lc, .int .i64 (mskN o s), .int .i64 v]))]) rfl A rfl (callE [10, 9, 8, 11] (memB_ mi cs1 (setTh cs1 (iniL (csB b1 o s) (rgB r v0)) 0 0) 1 lc o s v 2 (by decide)) rfl rfl rfl rfl rfl rfl rfl) fun A => any_at (rs := [13]) (by kernel_rfl) (by decide) (fc9 ⟨aV9 (.int .i64 (mi 2)) rfl A rfl rfl fun A => tail (A.cut [2, 3, 4, 5, 10, 11, 12, 15, 16, 68, 69, 70, 71, 72, 73, 74, 75, 76, 77, 78, 79, 80, 81] rfl),
                (fn9)⟩),
               (fc9 ⟨aV9 (.int .i64 (mi 2)) rfl A rfl rfl fun A => any_at (rs := [10]) (by kernel_rfl) (by decide) (fc9 ⟨any_eff (x := .int .i64 (mi 2)) (H' := [some (cdL9 cs), some (cnL9 kd), some (.lst 1 R.length (fun j => [.int .i64 (R.getD j 0)])), some (.blk (tsQ9 ar nm mi r (.sl 0 cs.length cx) qu (.sl 1 kd.length ck))), some (.blk [.int .i64 1, .int .i64 2, .int .i64 4, .int .i64 8]), some (.blk [.int .i64 5, .int .i64 (-1), .int .i64 7, .int .i64 (-1), .z9, .int .i64 2, .int .i64 o, .int .i64 (-1), .int .i64 s, .z9, .ff, .ff, .ff, .z9, .z9, .z9, .ff]), some (.blk [.int .i64 4, .int .i64 6, .int .i64 (-1), .int .i64 (-1), .z9, .int .i64 2, .int .i64 o, .int .i64 (-1), .int .i64 s, .z9, .ff, .ff, .ff, .z9, .z9, .z9, .ff]), some (.blk [.int .i64 1, .str [66], .int .i64 (mi 0), .int .i64 (mi 1), .int .i64 (mi 2), .int .i64 (r 0), .int .i64 (r 1), .int .i64 (r 2), .int .i64 (r 3), .int .i64 (r 4), .int .i64 (r 5), .int .i64 (r 6), .int .i64 v0, .z9, .z9, .z9, .z9, .z9, .z9, .z9, .z9, .z9, .z9, .z9, .z9, .z9, .z9, .z9, .z9, .sla (some ⟨b2, 0, none⟩) 1 1, .int .i64 1, .sla (some ⟨b3, 0, none⟩) 1 1]), some (coR9 cs1 (setTh cs1 (iniL (csB b1 o s) (rgB r v0)) 0 0) 1), some (.blk [.sl 8 1 0]), some (.blk [.ptr 9 0, .int .i64 (mi 0), .int .i64 (mi 1), .int .i64 (mi 2), .sl 11 1 0, .sla none 0 0, .sla none 0 0]), some (.row 123 3 1 0 (fun _ => [.int .i64 lc, .int .i64 (mskN o s), .int .i64 v]))]) rfl A rfl (callE [10, 9, 8, 11] (memB_ mi cs1 (setTh cs1 (iniL (csB b1 o s) (rgB r v0)) 0 0) 1 lc o s v 2 (by decide)) rfl rfl rfl rfl rfl rfl rfl) fun A => tail (A.cut [2, 3, 4, 5, 10, 11, 12, 15, 16, 68, 69, 70, 71, 72, 73, 74, 75, 76, 77, 78, 79, 80, 81] rfl),
                (fn9)⟩),
               (fn9)⟩)⟩),
              (fc9 ⟨aV9 (.int .i64 (mi 2)) rfl A rfl rfl fun A => any_at (rs := [9]) (by kernel_rfl) (by decide) (fc9 ⟨aV9 (.ptr 10 0) rfl A rfl rfl fun A => any_at (rs := [10]) (by kernel_rfl) (by decide) (fc9 ⟨any_eff (x := .int .i64 (mi 2)) (H' := [some (cdL9 cs), some (cnL9 kd), some (.lst 1 R.length (fun j => [.int .i64 (R.getD j 0)])), some (.blk (tsQ9 ar nm mi r (.sl 0 cs.length cx) qu (.sl 1 kd.length ck))), some (.blk [.int .i64 1, .int .i64 2, .int .i64 4, .int .i64 8]), some (.blk [.int .i64 5, .int .i64 (-1), .int .i64 7, .int .i64 (-1), .z9, .int .i64 2, .int .i64 o, .int .i64 (-1), .int .i64 s, .z9, .ff, .ff, .ff, .z9, .z9, .z9, .ff]), some (.blk [.int .i64 4, .int .i64 6, .int .i64 (-1), .int .i64 (-1), .z9, .int .i64 2, .int .i64 o, .int .i64 (-1), .int .i64 s, .z9, .ff, .ff, .ff, .z9, .z9, .z9, .ff]), some (.blk [.int .i64 1, .str [66], .int .i64 (mi 0), .int .i64 (mi 1), .int .i64 (mi 2), .int .i64 (r 0), .int .i64 (r 1), .int .i64 (r 2), .int .i64 (r 3), .int .i64 (r 4), .int .i64 (r 5), .int .i64 (r 6), .int .i64 v0, .z9, .z9, .z9, .z9, .z9, .z9, .z9, .z9, .z9, .z9, .z9, .z9, .z9, .z9, .z9, .z9, .sla (some ⟨b2, 0, none⟩) 1 1, .int .i64 1, .sla (some ⟨b3, 0, none⟩) 1 1]), some (coR9 cs1 (setTh cs1 (iniL (csB b1 o s) (rgB r v0)) 0 0) 1), some (.blk [.sl 8 1 0]), some (.blk [.ptr 9 0, .int .i64 (mi 0), .int .i64 (mi 1), .int .i64 (mi 2), .sl 11 1 0, .sla none 0 0, .sla none 0 0]), some (.row 123 3 1 0 (fun _ => [.int .i64 lc, .int .i64 (mskN o s), .int .i64 v]))]) rfl A rfl (callE [10, 9, 8, 11] (memB_ mi cs1 (setTh cs1 (iniL (csB b1 o s) (rgB r v0)) 0 0) 1 lc o s v 2 (by decide)) rfl rfl rfl rfl rfl rfl rfl) fun A => tail (A.cut [2, 3, 4, 5, 10, 11, 12, 15, 16, 68, 69, 70, 71, 72, 73, 74, 75, 76, 77, 78, 79, 80, 81] rfl),
                (fn9)⟩),
               (fn9)⟩),
              (fn9)⟩)⟩),
             (fn9)⟩)⟩),
            (fn9)⟩)⟩),
           (fn9)⟩),
          (fn9)⟩),
         (fn9)⟩),
        (fn9)⟩),
       (fn9)⟩),
      (fn9)⟩),
     (fn9)⟩),
    (fn9)⟩),
   (fn9)⟩)) (fun {G1 a1 w1} A => any_at (rs := [14]) (by kernel_rfl) (by decide) (fc9 ⟨aV9 (.bool (!((mi 2) == (mi 2)))) rfl A rfl rfl fun A => have A := sy_sayD A 82 (.ff) rfl (fun _ => congrArg (fun b => some (Value.bool b)) beqF); any_at (rs := [15]) (by kernel_rfl) (by decide) (fc9 ⟨aV9 (.ff) rfl A rfl rfl fun A => any_at (rs := [16]) (by kernel_rfl) (by decide) (fc9 ⟨aV9 (.ff) rfl A rfl rfl fun A => any_at (rs := [17]) (by kernel_rfl) (by decide) (fc9 ⟨aV9 (.ptr 10 0) rfl A rfl rfl fun A => any_at (rs := [18]) (by kernel_rfl) (by decide) (fc9 ⟨any_eff (x := .tt) (H' := [some (cdL9 cs), some (cnL9 kd), some (.lst 1 R.length (fun j => [.int .i64 (R.getD j 0)])), some (.blk (tsQ9 ar nm mi r (.sl 0 cs.length cx) qu (.sl 1 kd.length ck))), some (.blk [.int .i64 1, .int .i64 2, .int .i64 4, .int .i64 8]), some (.blk [.int .i64 5, .int .i64 (-1), .int .i64 7, .int .i64 (-1), .z9, .int .i64 2, .int .i64 o, .int .i64 (-1), .int .i64 s, .z9, .ff, .ff, .ff, .z9, .z9, .z9, .ff]), some (.blk [.int .i64 4, .int .i64 6, .int .i64 (-1), .int .i64 (-1), .z9, .int .i64 2, .int .i64 o, .int .i64 (-1), .int .i64 s, .z9, .ff, .ff, .ff, .z9, .z9, .z9, .ff]), some (.blk [.int .i64 1, .str [66], .int .i64 (mi 0), .int .i64 (mi 1), .int .i64 (mi 2), .int .i64 (r 0), .int .i64 (r 1), .int .i64 (r 2), .int .i64 (r 3), .int .i64 (r 4), .int .i64 (r 5), .int .i64 (r 6), .int .i64 v0, .z9, .z9, .z9, .z9, .z9, .z9, .z9, .z9, .z9, .z9, .z9, .z9, .z9, .z9, .z9, .z9, .sla (some ⟨b2, 0, none⟩) 1 1, .int .i64 1, .sla (some ⟨b3, 0, none⟩) 1 1]), some (.row 125 10 1 0 (fun zz => rnT (cs1.getD zz Cde.z) ((setTh cs1 (setTh cs1 (iniL (csB b1 o s) (rgB r v0)) 0 0) 0 (bgeta0 ((updR mi lc.toNat (bputa0 (mi lc.toNat) o s v)) lc.toNat) o s)).getD zz Th.z))), some (.blk [.sl 8 1 0]), some (.blk [.ptr 9 0, .int .i64 (mi 0), .int .i64 (mi 1), .int .i64 (mi 2), .sl 11 1 0, .sla none 0 0, .sla none 0 0]), some (.row 123 3 1 0 (fun _ => [.int .i64 lc, .int .i64 (mskN o s), .int .i64 v]))]) rfl A rfl (callIE [10, 9, 8, 11] TI.ok hI1 (lD1_ (m := mi) hok1 he1 hO hlc hv) rfl rfl rfl rfl rfl rfl rfl) fun A => any_at (rs := [19]) (by kernel_rfl) (by decide) (fc9 ⟨aV9 (.ff) rfl A rfl rfl fun A => any_at (rs := [20]) (by kernel_rfl) (by decide) (fc9 ⟨aV9 (.ff) rfl A rfl rfl fun A => any_end (by kernel_rfl) (N9 7 A rfl rfl fun A => NEWM (H' := fun cs2 => [some (cdL9 cs), some (cnL9 kd), some (.lst 1 R.length (fun j => [.int .i64 (R.getD j 0)])), some (.blk (tsQ9 ar nm mi r (.sl 0 cs.length cx) qu (.sl 1 kd.length ck))), some (.blk [.int .i64 1, .int .i64 2, .int .i64 4, .int .i64 8]), some (.blk [.int .i64 5, .int .i64 (-1), .int .i64 7, .int .i64 (-1), .z9, .int .i64 2, .int .i64 o, .int .i64 (-1), .int .i64 s, .z9, .ff, .ff, .ff, .z9, .z9, .z9, .ff]), some (.blk [.int .i64 4, .int .i64 6, .int .i64 (-1), .int .i64 (-1), .z9, .int .i64 2, .int .i64 o, .int .i64 (-1), .int .i64 s, .z9, .ff, .ff, .ff, .z9, .z9, .z9, .ff]), some (.blk [.int .i64 1, .str [66], .int .i64 (mi 0), .int .i64 (mi 1), .int .i64 (mi 2), .int .i64 (r 0), .int .i64 (r 1), .int .i64 (r 2), .int .i64 (r 3), .int .i64 (r 4), .int .i64 (r 5), .int .i64 (r 6), .int .i64 v0, .z9, .z9, .z9, .z9, .z9, .z9, .z9, .z9, .z9, .z9, .z9, .z9, .z9, .z9, .z9, .z9, .sla (some ⟨b2, 0, none⟩) 1 1, .int .i64 1, .sla (some ⟨b3, 0, none⟩) 1 1]), some (.row 125 10 1 0 (fun zz => rnT (cs1.getD zz Cde.z) ((setTh cs1 (setTh cs1 (iniL (csB b1 o s) (rgB r v0)) 0 0) 0 (bgeta0 ((updR mi lc.toNat (bputa0 (mi lc.toNat) o s v)) lc.toNat) o s)).getD zz Th.z))), some (.blk [.sl 8 1 0]), some (.blk [.ptr 9 0, .int .i64 (mi 0), .int .i64 (mi 1), .int .i64 (mi 2), .sl 11 1 0, .sla none 0 0, .sla none 0 0]), some (.row 123 3 1 0 (fun _ => [.int .i64 lc, .int .i64 (mskN o s), .int .i64 v])), some (coR9 cs2 (iniL (csB b1 o s) (rgB r v0)) 1), some (.blk [.sl 12 1 0]), some (.blk [.ptr 13 0, .int .i64 (mi 0), .int .i64 (mi 1), .int .i64 (mi 2), .sla none 0 0, .sla none 0 0, .sla none 0 0])]) (new_ (csB b1 o s) (some ⟨b2, 0, none⟩) 1 (rgB r v0) mi 1 1 [66] (some ⟨b3, 0, none⟩) 1 1 (ckB_ b1 hO) (show 0 < 1 by decide)) A (preB (hA.now A) rfl) rfl rfl rfl (fun _ => rfl) fun cs2 {gA2 _ wA2} hok2 he2 hC2 A => have hC1 := CodesAt.ok.now A hC1; have hA := hA.now A; have B := B.trans A; have hDb := LstAt.ok.now B hDf; have A := B.base; have h0 := B.mem.len; have he2 := he2 0 (show 0 < 1 by decide); have hI1 := (⟨hC1, hDb⟩ : TI cs1 _ _); have hI2 := (⟨hC2, hDb⟩ : TI cs2 _ _); 
 N9 6 A rfl rfl fun A => I9 [14, 13, 12] TI.ok hI2 (lD0_ (m := mi) hok2 he2 hO hlc hv) A rfl fun A => N9 5 A rfl rfl fun A => I9 [14, 13, 12, 15] TI.ok hI2 (lD3_ (m := mi) hok2 he2 hO hlc hv) A rfl fun A => N9 8 A rfl rfl fun A => I9 [9, 8] TI.ok hI1 (lRg_ (m := mi) hok1 he1 hO hlc hv hv0) A rfl fun A => N9 2 A rfl rfl fun A => C9 [] (mask_ v0 s hs4) A rfl fun A => N9 1 A rfl rfl fun A => have A := sy_sayD A 103 (.tt) rfl (fun _ => congrArg (fun b => some (Value.bool b)) beqT); N9 2 A rfl rfl fun A => C9 [10, 9, 8, 11] (bufB_ mi cs1 (setTh cs1 (setTh cs1 (iniL (csB b1 o s) (rgB r v0)) 0 0) 0 (bgeta0 ((updR mi lc.toNat (bputa0 (mi lc.toNat) o s v)) lc.toNat) o s)) 1 lc o s v 0 (by decide)) A rfl fun A => N9 1 A rfl rfl fun A => have A := sy_sayD A 107 (.tt) rfl (fun _ => congrArg (fun b => some (Value.bool b)) beqT); N9 3 A rfl rfl fun A => I9 [10, 9, 8, 11] TI.ok hI1 (lD2_ (m := mi) hok1 he1 hO hlc hv) A rfl fun A => N9 3 A rfl rfl fun A => I9 [10, 9, 8, 11] TI.ok hI1 (lDn_ (m := mi) hok1 he1) A rfl fun A => N9 3 A rfl rfl fun A => C9 [14, 13, 12, 15] (bufC_ (updR mi lc.toNat (bputa0 (mi lc.toNat) o s v)) cs2 (setTh cs2 (iniL (csB b1 o s) (rgB r v0)) 0 0) 1 lc o s v 0 (by decide)) A rfl fun A => N9 1 A rfl rfl fun A => have A := sy_sayD A 120 (.tt) rfl (fun _ => congrArg (fun b => some (Value.bool b)) beqT); N9 3 A rfl rfl fun A => C9 [14, 13, 12, 15] (memC_ (updR mi lc.toNat (bputa0 (mi lc.toNat) o s v)) cs2 (setTh cs2 (iniL (csB b1 o s) (rgB r v0)) 0 0) 1 lc o s v 2 (by decide)) A rfl fun A => N9 1 A rfl rfl fun A => C9 [10, 9, 8, 11] (memC_ (updR mi lc.toNat (bputa0 (mi lc.toNat) o s v)) cs1 (setTh cs1 (setTh cs1 (iniL (csB b1 o s) (rgB r v0)) 0 0) 0 (bgeta0 ((updR mi lc.toNat (bputa0 (mi lc.toNat) o s v)) lc.toNat) o s)) 1 lc o s v 2 (by decide)) A rfl fun A => N9 1 A rfl rfl fun A => have A := sy_sayD A 127 (.tt) rfl (fun _ => congrArg (fun b => some (Value.bool b)) beqT); N9 5 A rfl rfl fun A => R9 (B.trans A) rfl h00 rfl rfl rfl),
         (fn9)⟩),
        (fn9)⟩),
       (fn9)⟩),
      (fn9)⟩),
     (fn9)⟩),
    (fn9)⟩),
   (fn9)⟩)))
end Go.Proofs.YtbbdanhpphlbpaaGreatDoor.Mc
namespace Go.Proofs.YtbbdanhpphlbpaaGreatDoor.Mc
set_option linter.unusedSimpArgs false
set_option linter.unusedVariables false
set_option maxRecDepth 100000
open Go.ChangeShapes Go.WideShapes Go.ChangeAt Go.RowKit Go.Deep
def nmV (a : Int) : List Value := [.int .i64 a]
section
variable {H : Type} {enc : TypeId × Value → H} {W : World} {base : Nat} {spare : Nat → Bool} {held : Bool} {base' : Nat}
theorem open_nmL (cs : List Value) (n : Nat) (x : DataW H × List MemPlace) (h : DataW.trod enc Tryz.prog W base' spare held n 3 cs = some x) (hl : cs.length = 1) : ∃ y : Int, cs = nmV y ∧ True := by
 obtain ⟨m, h2, _, _⟩ := DataW.trod_int Tryz.underlying3 h
 exact ⟨m, h2, trivial⟩
theorem slice_bo {t e n cap : Nat} {ao : Option Addr} (ht : Tryz.prog.underlying t = some (.slice e)) (hv : Value.okWide Tryz.prog W .any base t (.slice ao n cap)) : ∃ bo : BO, ao = adB bo := by
 cases ao with
 | none => exact ⟨none, rfl⟩
 | some a =>
  unfold Value.okWide at hv
  rw [ht] at hv
  simp only [Cell.okWide, ht, Cell.ok] at hv
  obtain ⟨b, o, s⟩ := a
  have : s = none := hv.2.2.2.1
  subst this
  exact ⟨some (b, o), rfl⟩
theorem open_nums {v : Value} {d : DataW H} {ps : List MemPlace} (hv : Value.okWide Tryz.prog W .any base 29 v) (h : DataW.Trod enc Tryz.prog W base' spare held 29 v d ps) (hwt : (d.weights Tryz.prog 29).all (· ≤ reachBytes) = true) : ∃ (bo : BO) (l : List Int) (cap : Nat), v = .slice (adB bo) l.length cap ∧ l.length * 8 ≤ reachBytes ∧ Sl nmV 1 W.heap.size W (.slice (adB bo) l.length cap) l := by
 obtain ⟨fuel, hf⟩ := h
 obtain ⟨ao, l, cap, h1, h2, h3, _⟩ := open_listT (α := Int) (en := nmV) (Q := fun _ => True) (t := 29) (e := 3) (s := 1) (by kernel_rfl) (by kernel_rfl) (by omega) (fun cs n x h hl _ => open_nmL cs n x h hl) hf hwt
 rw [show Tryz.prog.bytesOf 3 = 8 by kernel_rfl] at h2
 have hu : Tryz.prog.underlying 29 = some (.slice 3) := by kernel_rfl
 obtain ⟨a0, len0, cap0, rfl⟩ := okWide_slice hu hv
 simp [Value.cells] at h1
 obtain ⟨rfl, rfl, rfl⟩ := h1
 obtain ⟨bo, rfl⟩ := slice_bo (t := 29) (e := 3) hu hv
 exact ⟨bo, l, _, rfl, h2.2, h3⟩
end
theorem lstN_of {bo : BO} {n cap : Nat} {w : World} {l : List Int} (h : Sl nmV 1 w.heap.size w (.slice (adB bo) n cap) l) : n = l.length ∧ ∀ (G F : Gr), den (G ++ locB bo :: F) (.sl G.length l.length cap) = some (.slice (adB bo) n cap) ∧ EntOK (G ++ locB bo :: F) w (locB bo) (.lst 1 l.length (fun j => [.int .i64 (l.getD j 0)])) := lst_of (f := fun j => [.int .i64 (l.getD j 0)]) h (Nat.le_refl _) (fun k x hx => by show denL [] [SV.int .i64 (l.getD k 0)] = _; rw [List.getD_eq_getElem?_getD, hx]; rfl) (fun k => ⟨_, rfl⟩)
end Go.Proofs.YtbbdanhpphlbpaaGreatDoor.Mc
