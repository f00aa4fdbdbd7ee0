/- CoreLocal, part 5: the engine, contracts, theory. -/
import Derived.Test.YtjkppaijicjpoaaGreatDoorCoreLocalP4
import Derived.WalkSmall
import Derived.ProofKit
import Derived.OpenShut
import Derived.ChangeOld
import Derived.Deep.Slices
import Derived.Lib.LaidTab
namespace Go.Proofs.YtjkppaijicjpoaaGreatDoor
open Go.RowKit
set_option linter.unusedVariables false
set_option linter.unusedSimpArgs false
set_option maxRecDepth 100000
set_option maxHeartbeats 2000000
set_option simprocs false
theorem aregs_   : Fn Tryz.prog 104 [] [] (Rt (.agg [.str [88, 48], .str [88, 49], .str [88, 50], .str [88, 51], .str [88, 52], .str [88, 53], .str [88, 54], .str [88, 55]]) []) :=
 enterM (n := 2) (by kernel_rfl) Tryz.func104 rfl rfl rfl fun G w a h0 A => N9 12 A rfl rfl fun A => R9 A rfl h0 rfl rfl rfl
end Go.Proofs.YtjkppaijicjpoaaGreatDoor
namespace Go.Proofs.YtjkppaijicjpoaaGreatDoor.Ar
open Go.RowKit
set_option linter.unusedVariables false
set_option linter.unusedSimpArgs false
set_option maxRecDepth 100000
set_option maxHeartbeats 2000000
set_option simprocs false
def c5 : List (List UInt8 × Int) := [([65, 68, 68], 1), ([83, 85, 66], 2), ([69, 79, 82], 3), ([65, 78, 68], 4), ([79, 82, 82], 5)]
abbrev cr1 (x : List UInt8 × Int) (b1 : Nat) : Rw := ⟨x.1, [], insF 3 x.2, some ⟨b1, 0, none⟩, [1, 2, 3], 3⟩
abbrev cr2 (x : List UInt8 × Int) (b2 : Nat) : Rw := ⟨x.1, [], insF 3 x.2, some ⟨b2, 0, none⟩, [1, 2, 5], 3⟩
def acomp : List (List UInt8 × List UInt8 × In × List Int) := c5.flatMap fun x => [(x.1, [], insF 3 x.2, [1, 2, 3]), (x.1, [], insF 3 x.2, [1, 2, 5])]
structure AC (lo : Nat) (z : List Rw × Nat) (w : World) (ks : List Nat) : Prop where
 le : z.2 ≤ 5
 tm : z.1.map tm = acomp.take (2 * z.2)
 rw : RowsIn lo z.1 w ks
theorem AC.len {lo : Nat} {z : List Rw × Nat} {w : World} {ks : List Nat} (h : AC lo z w ks) : z.1.length = 2 * z.2 := by
 have h1 := congrArg List.length h.tm
 rw [List.length_map, List.length_take] at h1
 have h2 : acomp.length = 10 := by decide
 have := h.le
 omega
theorem AC.nx {lo b1 b2 : Nat} {z : List Rw × Nat} {w w1 : World} {ks ks1 : List Nat} {l : List (Nat × List SV)} (h : AC lo z w ks) (hk : (z.2 : Int) < 5) (hr : RowsIn lo z.1 w1 ks1) (hA : Acc lo [(b2, [.int .i64 1, .int .i64 2, .int .i64 5]), (b1, [.int .i64 1, .int .i64 2, .int .i64 3])] w1 ks1) : AC lo (z.1 ++ [cr1 (c5.getD ((z.2 : Int)).toNat nz) b1, cr2 (c5.getD ((z.2 : Int)).toNat nz) b2], z.2 + 1) w1 ks1 := by
 refine ⟨by have := h.le; show z.2 + 1 ≤ 5; omega, ?_, fun r hr' => ?_⟩
 ·show List.map _ (z.1 ++ _) = _
  rw [List.map_append, h.tm, Int.toNat_natCast]
  have : z.2 = 0 ∨ z.2 = 1 ∨ z.2 = 2 ∨ z.2 = 3 ∨ z.2 = 4 := by omega
  rcases this with e | e | e | e | e <;> rw [e] <;> rfl
 ·rcases List.mem_append.1 hr' with h1 | h1
  ·exact hr r h1
  ·simp only [List.mem_cons, List.mem_nil_iff, or_false] at h1
   rcases h1 with rfl | rfl
   ·exact lies_of (cs := []) [1, 2, 3] hA (List.mem_cons_of_mem _ (List.mem_cons_self))
   ·exact lies_of (cs := []) [1, 2, 5] hA (List.mem_cons_self)
theorem acomp_ : FnR Tryz.prog 144 [] [] (fun x w w' => ∃ (L : List Rw) (b cp : Nat), x = .sla (some ⟨b, 0, none⟩) 10 cp ∧ (L.map tm = acomp ∧ RowsIn w.heap.size L w' [b]) ∧ w.heap.size ≤ b ∧ Given 164 20 10 (fun zz => rwc (L.getD zz Rw.z)) b cp w') :=
 enterR (n := 36) (by kernel_rfl) Tryz.func144 rfl rfl rfl fun G w a h0 A => N9 13 A rfl rfl fun A => have A := A.asT nz nfc 2 tyN.1 tyN.2.1 tyN.2.2 c5 0 rfl; N9 17 A rfl rfl fun A => have A := A.nilRow 2 164 20 (fun zz => rwc (([] : List Rw).getD zz Rw.z)) rfl (fun z => ⟨_, rfl, rfl⟩); LOOPJ (fun (z : List Rw × Nat) => [(0, .sla none 0 0), (2, .sl 1 z.1.length 0), (12, .sl 0 5 5), (13, .int .i64 ((5 : Nat) : Int)), (14, .int .i64 (z.2 : Int))]) (fun (z : List Rw × Nat) => [some (.lst 2 5 (fun zz => nfc (c5.getD zz nz))), some (.row 164 20 z.1.length 0 (fun zz => rwc (z.1.getD zz Rw.z)))]) (fun z w1 ks1 => AC w.heap.size z w1 ks1) (fun z => 5 - z.2) ([], 0) (A.cut [0, 2, 12, 13, 14] rfl) ⟨by decide, rfl, fun r hr => by cases hr⟩ fun z G1 a1 w1 hJ hg A B => have hA : Acc w.heap.size [] w1 _ := Acc.nil; have hR := hJ.rw;
 N9 6 A rfl rfl fun A => forkD 15 A rfl
   (fun h1 A => N9 14 A rfl (ok_d (by omega) <| ok_d (by omega) <| okE_nil) fun A => N9 4 A rfl rfl fun A => have A := sy_sayD A 20 (.agg [.int .i64 3, .z9, .z9, .z9, .z9, .z9, .z9, .z9, .z9, .int .i64 ((c5.getD (((z.2 : Int)).toNat) nz).2), .bool false, .bool false, .bool false, .z9, .z9, .z9, .bool false]) rfl (fun _ => rfl); N9 9 A rfl rfl fun A => BSCI [.int .i64 1, .int .i64 2, .int .i64 3] (X := ⟨_, true⟩) hX RowsIn.ok B hA hR A rfl rfl rfl rfl fun b1 B hA hR A =>
 N9 4 A rfl rfl fun A => BSCI [.int .i64 1, .int .i64 2, .int .i64 5] (X := ⟨_, true⟩) hX RowsIn.ok B hA hR A rfl rfl rfl rfl fun b2 B hA hR A =>
 N9 2 A rfl rfl fun A => have A := A.asT Rw.z rwc 20 tyR.1 tyR.2.1 tyR.2.2 [cr1 (c5.getD (((z.2 : Int)).toNat) nz) b1, cr2 (c5.getD (((z.2 : Int)).toNat) nz) b2] 4 rfl; q_eff A rfl (aplE hX ((z.1 ++ [cr1 (c5.getD (((z.2 : Int)).toNat) nz) b1, cr2 (c5.getD (((z.2 : Int)).toNat) nz) b2]).length) (fun zz => rwc ((z.1 ++ [cr1 (c5.getD (((z.2 : Int)).toNat) nz) b1, cr2 (c5.getD (((z.2 : Int)).toNat) nz) b2]).getD zz Rw.z)) rfl rfl rfl rfl (Nat.le_refl _) (by have := hJ.len; have := hJ.le; omega) (by decide) List.length_append (fun k hk => by show rwc _ = rwc _; rw [getD_app_l hk]) (fun k hk => by show rwc _ = rwc _; rw [getD_app_r]) (fun z => ⟨_, rfl, rfl⟩) (fun k hk => ⟨_, rfl, okE_nil⟩)) fun A =>
 N9 8 A rfl (ok_d (by omega) <| okE_nil) fun A => ⟨(z.1 ++ [cr1 (c5.getD (((z.2 : Int)).toNat) nz) b1, cr2 (c5.getD (((z.2 : Int)).toNat) nz) b2], z.2 + 1), _, (by have := h1; show _ - _ < _ - _; omega), (hJ.nx (l := []) h1 (RowsIn.ok _ _ _ _ hR A.mix fun b hb => A.keys_own b ((keys_pick (H := [some (.lst 2 5 (fun zz => nfc (c5.getD zz nz))), none, some (.blk [.str ((c5.getD (((z.2 : Int)).toNat) nz).1), .int .i64 ((c5.getD (((z.2 : Int)).toNat) nz).2)]), some (.blk [.int .i64 3, .z9, .z9, .z9, .z9, .z9, .z9, .z9, .z9, .int .i64 ((c5.getD (((z.2 : Int)).toNat) nz).2), .bool false, .bool false, .bool false, .z9, .z9, .z9, .bool false]), some (.lst 20 ([cr1 (c5.getD (((z.2 : Int)).toNat) nz) b1, cr2 (c5.getD (((z.2 : Int)).toNat) nz) b2].length) (fun zz => rwc ([cr1 (c5.getD (((z.2 : Int)).toNat) nz) b1, cr2 (c5.getD (((z.2 : Int)).toNat) nz) b2].getD zz Rw.z))), some (.row 164 20 ((z.1 ++ [cr1 (c5.getD (((z.2 : Int)).toNat) nz) b1, cr2 (c5.getD (((z.2 : Int)).toNat) nz) b2]).length) 0 (fun zz => rwc ((z.1 ++ [cr1 (c5.getD (((z.2 : Int)).toNat) nz) b1, cr2 (c5.getD (((z.2 : Int)).toNat) nz) b2]).getD zz Rw.z)))]) (m := [0, 5]) A.mem.len rfl rfl) b hb)) (hA.go A.mix fun b hb => A.keys_own b ((keys_pick (H := [some (.lst 2 5 (fun zz => nfc (c5.getD zz nz))), none, some (.blk [.str ((c5.getD (((z.2 : Int)).toNat) nz).1), .int .i64 ((c5.getD (((z.2 : Int)).toNat) nz).2)]), some (.blk [.int .i64 3, .z9, .z9, .z9, .z9, .z9, .z9, .z9, .z9, .int .i64 ((c5.getD (((z.2 : Int)).toNat) nz).2), .bool false, .bool false, .bool false, .z9, .z9, .z9, .bool false]), some (.lst 20 ([cr1 (c5.getD (((z.2 : Int)).toNat) nz) b1, cr2 (c5.getD (((z.2 : Int)).toNat) nz) b2].length) (fun zz => rwc ([cr1 (c5.getD (((z.2 : Int)).toNat) nz) b1, cr2 (c5.getD (((z.2 : Int)).toNat) nz) b2].getD zz Rw.z))), some (.row 164 20 ((z.1 ++ [cr1 (c5.getD (((z.2 : Int)).toNat) nz) b1, cr2 (c5.getD (((z.2 : Int)).toNat) nz) b2]).length) 0 (fun zz => rwc ((z.1 ++ [cr1 (c5.getD (((z.2 : Int)).toNat) nz) b1, cr2 (c5.getD (((z.2 : Int)).toNat) nz) b2]).getD zz Rw.z)))]) (m := [0, 5]) A.mem.len rfl rfl) b hb))), ((B.trans A).cut [0, 2, 12, 13, 14] rfl).mv 0 [0, 5] rfl rfl rfl rfl (by simp only [List.length_nil] at h0; omega)⟩)
   (fun h1 A => N9 10 A rfl rfl fun A => (have e5 : z.2 = 5 := (by have := hJ.le; omega); have e : z.1.length = 10 := (by have := hJ.len; omega); match A.giveRow 1 0 (by omega) rfl rfl rfl with | ⟨b, cp, A2, hG, ho, hk⟩ => RETR (J := fun x w w' => ∃ (L : List Rw) (b cp : Nat), x = .sla (some ⟨b, 0, none⟩) 10 cp ∧ (L.map tm = acomp ∧ RowsIn w.heap.size L w' [b]) ∧ w.heap.size ≤ b ∧ Given 164 20 10 (fun zz => rwc (L.getD zz Rw.z)) b cp w') hX (B.trans A2) (fun i e he => nil_no he) rfl rfl rfl rfl ⟨z.1, b, cp, (by show SV.sla _ z.1.length cp = _; rw [e]), ⟨(by have h2 := hJ.tm; rw [e5] at h2; exact h2), (RowsIn.ok _ _ _ _ hJ.rw A.mix fun b2 hb => by have : b2 = b := (by simpa using hb); rw [this]; exact ho)⟩, lo_of B (fun i e he => nil_no he) ho, (by rw [← e]; exact hG)⟩))
end Go.Proofs.YtjkppaijicjpoaaGreatDoor.Ar
namespace Go.Proofs.YtjkppaijicjpoaaGreatDoor.Ar
open Go.RowKit
set_option linter.unusedVariables false
set_option linter.unusedSimpArgs false
set_option maxRecDepth 100000
set_option maxHeartbeats 2000000
set_option simprocs false
abbrev sz : List UInt8 × Bool × Bool := ([], false, false)
def sfc (x : List UInt8 × Bool × Bool) : List SV := [.str x.1, .bool x.2.1, .bool x.2.2]
theorem tyS : (∀ x, (sfc x).length = 3) ∧ (∀ x, inL 0 (sfc x) = true) ∧ (∀ x, ∃ vs, denL [] (sfc x) = some vs) := ⟨fun _ => rfl, fun _ => rfl, fun _ => ⟨_, rfl⟩⟩
def a2 : List (List UInt8 × Int) := [([83, 87, 80], 6), ([76, 68, 65, 68, 68], 1)]
def s4 : List (List UInt8 × Bool × Bool) := [([], false, false), ([65], true, false), ([76], false, true), ([65, 76], true, true)]
theorem a2_len : ∀ k, (a2.getD k nz).1.length ≤ 100
 | 0 => by decide
 | 1 => by decide
 | k + 2 => by simp [a2, List.getD]
theorem s4_len : ∀ k, (s4.getD k sz).1.length ≤ 100
 | 0 => by decide
 | 1 => by decide
 | 2 => by decide
 | 3 => by decide
 | k + 4 => by simp [s4, List.getD]
def insA (x : List UInt8 × Int) (y : List UInt8 × Bool × Bool) : In := ⟨6, 0, 0, 0, 0, 0, 0, 0, 0, x.2, y.2.1, false, y.2.2, 0, 0, 0, false⟩
abbrev aa1 (x : List UInt8 × Int) (y : List UInt8 × Bool × Bool) (b1 : Nat) : Rw := ⟨(x.1 ++ y.1) ++ [42], [], insA x y, some ⟨b1, 0, none⟩, [2, 1, 6], 3⟩
def aatom : List (List UInt8 × List UInt8 × In × List Int) := a2.flatMap fun x => s4.map fun y => ((x.1 ++ y.1) ++ [42], [], insA x y, [2, 1, 6])
structure AA (lo n : Nat) (L : List Rw) (w : World) (ks : List Nat) : Prop where
 tm : L.map tm = aatom.take n
 rw : RowsIn lo L w ks
theorem AA.len {lo n : Nat} {L : List Rw} {w : World} {ks : List Nat} (h : AA lo n L w ks) : L.length ≤ 8 ∧ (n ≤ 8 → L.length = n) := by
 have h1 := congrArg List.length h.tm
 rw [List.length_map, List.length_take] at h1
 have h2 : aatom.length = 8 := by decide
 omega
theorem AA.nx {lo b1 k j : Nat} {L : List Rw} {w w1 : World} {ks ks1 : List Nat} (h : AA lo (4 * k + j) L w ks) (hk : k < 2) (hj : j < 4) (hr : RowsIn lo L w1 ks1) (hA : Acc lo [(b1, [.int .i64 2, .int .i64 1, .int .i64 6])] w1 ks1) : AA lo (4 * k + (j + 1)) (L ++ [aa1 (a2.getD ((k : Int)).toNat nz) (s4.getD ((j : Int)).toNat sz) b1]) w1 ks1 := by
 refine ⟨?_, fun r hr' => ?_⟩
 ·rw [List.map_append, h.tm, Int.toNat_natCast, Int.toNat_natCast]
  have q1 : k = 0 ∨ k = 1 := by omega
  have q2 : j = 0 ∨ j = 1 ∨ j = 2 ∨ j = 3 := by omega
  rcases q1 with e | e <;> rcases q2 with e2 | e2 | e2 | e2 <;> rw [e, e2] <;> rfl
 ·rcases List.mem_append.1 hr' with h1 | h1
  ·exact hr r h1
  ·simp only [List.mem_cons, List.mem_nil_iff, or_false] at h1
   subst h1
   exact lies_of (cs := []) [2, 1, 6] hA List.mem_cons_self
theorem aatom_ : FnR Tryz.prog 146 [] [] (fun x w w' => ∃ (L : List Rw) (b cp : Nat), x = .sla (some ⟨b, 0, none⟩) 8 cp ∧ (L.map tm = aatom ∧ RowsIn w.heap.size L w' [b]) ∧ w.heap.size ≤ b ∧ Given 164 20 8 (fun zz => rwc (L.getD zz Rw.z)) b cp w') :=
 enterR (n := 51) (by kernel_rfl) Tryz.func146 rfl rfl rfl fun G w a h0 A => N9 10 A rfl rfl fun A => have A := A.asT nz nfc 2 tyN.1 tyN.2.1 tyN.2.2 a2 0 rfl; N9 6 A rfl rfl fun A => have A := sy_sayD A 12 (.agg [.str [], .bool false, .bool false]) rfl (fun _ => rfl); N9 1 A rfl rfl fun A => have A := sy_sayD A 13 (.agg [.str [65], .bool true, .bool false]) rfl (fun _ => rfl); N9 1 A rfl rfl fun A => have A := sy_sayD A 14 (.agg [.str [76], .bool false, .bool true]) rfl (fun _ => rfl); N9 1 A rfl rfl fun A => have A := sy_sayD A 15 (.agg [.str [65, 76], .bool true, .bool true]) rfl (fun _ => rfl); N9 1 A rfl rfl fun A => have A := A.asT sz sfc 3 tyS.1 tyS.2.1 tyS.2.2 s4 1 rfl; N9 17 A rfl rfl fun A => have A := A.nilRow 3 164 20 (fun zz => rwc (([] : List Rw).getD zz Rw.z)) rfl (fun z => ⟨_, rfl, rfl⟩); LOOPJ (fun (z : List Rw × Nat) => [(0, .sla none 0 0), (2, .sl 1 4 4), (3, .sl 2 z.1.length 0), (17, .sl 0 2 2), (18, .int .i64 ((2 : Nat) : Int)), (19, .int .i64 (z.2 : Int))]) (fun (z : List Rw × Nat) => [some (.lst 2 2 (fun zz => nfc (a2.getD zz nz))), some (.lst 3 4 (fun zz => sfc (s4.getD zz sz))), some (.row 164 20 z.1.length 0 (fun zz => rwc (z.1.getD zz Rw.z)))]) (fun z w1 ks1 => z.2 ≤ 2 ∧ AA w.heap.size (4 * z.2) z.1 w1 ks1) (fun z => 2 - z.2) ([], 0) (A.cut [0, 2, 3, 17, 18, 19] rfl) ⟨by decide, ⟨rfl, fun r hr => by cases hr⟩⟩ fun z G1 a1 w1 hJ hg A B => have hz2 := hJ.1; have hR := hJ.2.rw;
 N9 6 A rfl rfl fun A => forkD 20 A rfl
   (fun h1 A => N9 14 A rfl (ok_d (by omega) <| ok_d (by omega) <| okE_nil) fun A => N9 7 A rfl rfl fun A => have hR := RowsIn.ok _ _ _ _ hR A.mix A.keys_own; LOOPJ (fun (y : List Rw × Nat) => [(0, .sla none 0 0), (2, .sl 1 4 4), (3, .sl 2 y.1.length 0), (5, .ptr 3 0), (17, .sl 0 2 2), (18, .int .i64 ((2 : Nat) : Int)), (19, .int .i64 (z.2 : Int)), (23, .sl 1 4 4), (24, .int .i64 ((4 : Nat) : Int)), (25, .int .i64 (y.2 : Int))]) (fun (y : List Rw × Nat) => [some (.lst 2 2 (fun zz => nfc (a2.getD zz nz))), some (.lst 3 4 (fun zz => sfc (s4.getD zz sz))), some (.row 164 20 y.1.length 0 (fun zz => rwc (y.1.getD zz Rw.z))), some (.blk [.str ((a2.getD (((z.2 : Int)).toNat) nz).1), .int .i64 ((a2.getD (((z.2 : Int)).toNat) nz).2)])]) (fun y w1 ks1 => y.2 ≤ 4 ∧ AA w.heap.size (4 * z.2 + y.2) y.1 w1 ks1) (fun y => 4 - y.2) (z.1, 0) ((B.trans A).cut [0, 2, 3, 5, 17, 18, 19, 23, 24, 25] rfl) ⟨Nat.zero_le 4, ⟨hJ.2.tm, hR⟩⟩ fun y G1 a1 w1 hJ hg A B => have hA : Acc w.heap.size [] w1 _ := Acc.nil; have hR := hJ.2.rw;
 N9 6 A rfl rfl fun A => forkD 26 A rfl
     (fun h2 A => N9 14 A rfl (ok_d (by omega) <| ok_d (by omega) <| okE_nil) fun A => N9 8 A rfl rfl fun A => have A := sy_sayD A 35 (.agg [.int .i64 6, .z9, .z9, .z9, .z9, .z9, .z9, .z9, .z9, .int .i64 ((a2.getD (((z.2 : Int)).toNat) nz).2), .bool ((s4.getD (((y.2 : Int)).toNat) sz).2.1), .bool false, .bool ((s4.getD (((y.2 : Int)).toNat) sz).2.2), .z9, .z9, .z9, .bool false]) rfl (fun _ => rfl); N9 13 A rfl (ok_d (by have q := a2_len ((z.2 : Int)).toNat; have q2 := s4_len ((y.2 : Int)).toNat; (try simp only [List.length_append, List.length_cons, List.length_nil]); omega) <| ok_d (by have q := a2_len ((z.2 : Int)).toNat; have q2 := s4_len ((y.2 : Int)).toNat; (try simp only [List.length_append, List.length_cons, List.length_nil]); omega) <| okE_nil) fun A => BSCI [.int .i64 2, .int .i64 1, .int .i64 6] (X := ⟨_, true⟩) hX RowsIn.ok B hA hR A rfl rfl rfl rfl fun b1 B hA hR A =>
 N9 2 A rfl rfl fun A => have A := A.asT Rw.z rwc 20 tyR.1 tyR.2.1 tyR.2.2 [aa1 (a2.getD (((z.2 : Int)).toNat) nz) (s4.getD (((y.2 : Int)).toNat) sz) b1] 6 rfl; q_eff A rfl (aplE hX ((y.1 ++ [aa1 (a2.getD (((z.2 : Int)).toNat) nz) (s4.getD (((y.2 : Int)).toNat) sz) b1]).length) (fun zz => rwc ((y.1 ++ [aa1 (a2.getD (((z.2 : Int)).toNat) nz) (s4.getD (((y.2 : Int)).toNat) sz) b1]).getD zz Rw.z)) rfl rfl rfl rfl (Nat.le_refl _) (by have := hJ.2.len; have := hJ.1; omega) (by decide) List.length_append (fun k hk => by show rwc _ = rwc _; rw [getD_app_l hk]) (fun k hk => by show rwc _ = rwc _; rw [getD_app_r]) (fun z => ⟨_, rfl, rfl⟩) (fun k hk => ⟨_, rfl, okE_nil⟩)) fun A =>
 N9 8 A rfl (ok_d (by omega) <| okE_nil) fun A => ⟨(y.1 ++ [aa1 (a2.getD (((z.2 : Int)).toNat) nz) (s4.getD (((y.2 : Int)).toNat) sz) b1], y.2 + 1), _, (by have := h2; show _ - _ < _ - _; omega), ⟨by have := h2; show y.2 + 1 ≤ 4; omega, hJ.2.nx (by omega) (by omega) (RowsIn.ok _ _ _ _ hR A.mix fun b hb => A.keys_own b ((keys_pick (H := [some (.lst 2 2 (fun zz => nfc (a2.getD zz nz))), some (.lst 3 4 (fun zz => sfc (s4.getD zz sz))), none, some (.blk [.str ((a2.getD (((z.2 : Int)).toNat) nz).1), .int .i64 ((a2.getD (((z.2 : Int)).toNat) nz).2)]), some (.blk [.str ((s4.getD (((y.2 : Int)).toNat) sz).1), .bool ((s4.getD (((y.2 : Int)).toNat) sz).2.1), .bool ((s4.getD (((y.2 : Int)).toNat) sz).2.2)]), some (.blk [.int .i64 6, .z9, .z9, .z9, .z9, .z9, .z9, .z9, .z9, .int .i64 ((a2.getD (((z.2 : Int)).toNat) nz).2), .bool ((s4.getD (((y.2 : Int)).toNat) sz).2.1), .bool false, .bool ((s4.getD (((y.2 : Int)).toNat) sz).2.2), .z9, .z9, .z9, .bool false]), some (.lst 20 ([aa1 (a2.getD (((z.2 : Int)).toNat) nz) (s4.getD (((y.2 : Int)).toNat) sz) b1].length) (fun zz => rwc ([aa1 (a2.getD (((z.2 : Int)).toNat) nz) (s4.getD (((y.2 : Int)).toNat) sz) b1].getD zz Rw.z))), some (.row 164 20 ((y.1 ++ [aa1 (a2.getD (((z.2 : Int)).toNat) nz) (s4.getD (((y.2 : Int)).toNat) sz) b1]).length) 0 (fun zz => rwc ((y.1 ++ [aa1 (a2.getD (((z.2 : Int)).toNat) nz) (s4.getD (((y.2 : Int)).toNat) sz) b1]).getD zz Rw.z)))]) (m := [0, 1, 7, 3]) A.mem.len rfl rfl) b hb)) (hA.go A.mix fun b hb => A.keys_own b ((keys_pick (H := [some (.lst 2 2 (fun zz => nfc (a2.getD zz nz))), some (.lst 3 4 (fun zz => sfc (s4.getD zz sz))), none, some (.blk [.str ((a2.getD (((z.2 : Int)).toNat) nz).1), .int .i64 ((a2.getD (((z.2 : Int)).toNat) nz).2)]), some (.blk [.str ((s4.getD (((y.2 : Int)).toNat) sz).1), .bool ((s4.getD (((y.2 : Int)).toNat) sz).2.1), .bool ((s4.getD (((y.2 : Int)).toNat) sz).2.2)]), some (.blk [.int .i64 6, .z9, .z9, .z9, .z9, .z9, .z9, .z9, .z9, .int .i64 ((a2.getD (((z.2 : Int)).toNat) nz).2), .bool ((s4.getD (((y.2 : Int)).toNat) sz).2.1), .bool false, .bool ((s4.getD (((y.2 : Int)).toNat) sz).2.2), .z9, .z9, .z9, .bool false]), some (.lst 20 ([aa1 (a2.getD (((z.2 : Int)).toNat) nz) (s4.getD (((y.2 : Int)).toNat) sz) b1].length) (fun zz => rwc ([aa1 (a2.getD (((z.2 : Int)).toNat) nz) (s4.getD (((y.2 : Int)).toNat) sz) b1].getD zz Rw.z))), some (.row 164 20 ((y.1 ++ [aa1 (a2.getD (((z.2 : Int)).toNat) nz) (s4.getD (((y.2 : Int)).toNat) sz) b1]).length) 0 (fun zz => rwc ((y.1 ++ [aa1 (a2.getD (((z.2 : Int)).toNat) nz) (s4.getD (((y.2 : Int)).toNat) sz) b1]).getD zz Rw.z)))]) (m := [0, 1, 7, 3]) A.mem.len rfl rfl) b hb))⟩, ((B.trans A).cut [0, 2, 3, 5, 17, 18, 19, 23, 24, 25] rfl).mv 0 [0, 1, 7, 3] rfl rfl rfl rfl (by simp only [List.length_nil] at h0; omega)⟩)
     (fun h2 A => N9 8 A rfl (ok_d (by omega) <| okE_nil) fun A => ⟨(y.1, z.2 + 1), _, (by have := h1; show _ - _ < _ - _; omega), ⟨by have := h1; show z.2 + 1 ≤ 2; omega, ⟨(by have q := hJ.2.tm; have q1 := hJ.1; rw [show 4 * z.2 + y.2 = 4 * (z.2 + 1) by omega] at q; exact q), RowsIn.ok _ _ _ _ hJ.2.rw A.mix fun b hb => A.keys_own b ((keys_pick (H := [some (.lst 2 2 (fun zz => nfc (a2.getD zz nz))), some (.lst 3 4 (fun zz => sfc (s4.getD zz sz))), some (.row 164 20 y.1.length 0 (fun zz => rwc (y.1.getD zz Rw.z))), some (.blk [.str ((a2.getD (((z.2 : Int)).toNat) nz).1), .int .i64 ((a2.getD (((z.2 : Int)).toNat) nz).2)])]) (m := [0, 1, 2]) A.mem.len rfl rfl) b hb)⟩⟩, ((B.trans A).cut [0, 2, 3, 17, 18, 19] rfl).mv 0 [0, 1, 2] rfl rfl rfl rfl (by simp only [List.length_nil] at h0; omega)⟩))
   (fun h1 A => N9 10 A rfl rfl fun A => (have e5 : z.2 = 2 := (by have := hJ.1; omega); have e : z.1.length = 8 := (by have := hJ.2.len; omega); match A.giveRow 2 0 (by omega) rfl rfl rfl with | ⟨b, cp, A2, hG, ho, hk⟩ => RETR (J := fun x w w' => ∃ (L : List Rw) (b cp : Nat), x = .sla (some ⟨b, 0, none⟩) 8 cp ∧ (L.map tm = aatom ∧ RowsIn w.heap.size L w' [b]) ∧ w.heap.size ≤ b ∧ Given 164 20 8 (fun zz => rwc (L.getD zz Rw.z)) b cp w') hX (B.trans A2) (fun i e he => nil_no he) rfl rfl rfl rfl ⟨z.1, b, cp, (by show SV.sla _ z.1.length cp = _; rw [e]), ⟨(by have h2 := hJ.2.tm; rw [e5] at h2; exact h2), (RowsIn.ok _ _ _ _ hJ.2.rw A.mix fun b2 hb => by have : b2 = b := (by simpa using hb); rw [this]; exact ho)⟩, lo_of B (fun i e he => nil_no he) ho, (by rw [← e]; exact hG)⟩))
end Go.Proofs.YtjkppaijicjpoaaGreatDoor.Ar
namespace Go.Proofs.YtjkppaijicjpoaaGreatDoor.Ar
open Go.RowKit
set_option linter.unusedVariables false
set_option linter.unusedSimpArgs false
set_option maxRecDepth 100000
set_option maxHeartbeats 2000000
set_option simprocs false
abbrev fz : List UInt8 × Int × Int := ([], 0, 0)
def ffc (x : List UInt8 × Int × Int) : List SV := [.str x.1, .int .i64 x.2.1, .int .i64 x.2.2]
theorem tyF : (∀ x, (ffc x).length = 3) ∧ (∀ x, inL 0 (ffc x) = true) ∧ (∀ x, ∃ vs, denL [] (ffc x) = some vs) := ⟨fun _ => rfl, fun _ => rfl, fun _ => ⟨_, rfl⟩⟩
def f3 : List (List UInt8 × Int × Int) := [([83, 89], 3, 3), ([76, 68], 1, 3), ([83, 84], 2, 2)]
def insN (x : List UInt8 × Int × Int) : In := ⟨7, 0, 0, 0, 0, 0, 0, 0, 0, 0, false, false, false, x.2.1, x.2.2, 0, false⟩
abbrev fr1 (x : List UInt8 × Int × Int) (b1 : Nat) : Rw := ⟨[68, 77, 66], x.1, insN x, some ⟨b1, 0, none⟩, [10], 1⟩
def afen : List (List UInt8 × List UInt8 × In × List Int) := f3.map fun x => ([68, 77, 66], x.1, insN x, [10])
structure AF (lo : Nat) (z : List Rw × Nat) (w : World) (ks : List Nat) : Prop where
 le : z.2 ≤ 3
 tm : z.1.map tm = afen.take z.2
 rw : RowsIn lo z.1 w ks
theorem AF.len {lo : Nat} {z : List Rw × Nat} {w : World} {ks : List Nat} (h : AF lo z w ks) : z.1.length = z.2 := by
 have h1 := congrArg List.length h.tm
 rw [List.length_map, List.length_take] at h1
 have h2 : afen.length = 3 := by decide
 have := h.le
 omega
theorem AF.nx {lo b1 : Nat} {z : List Rw × Nat} {w w1 : World} {ks ks1 : List Nat} {l : List (Nat × List SV)} (h : AF lo z w ks) (hk : (z.2 : Int) < 3) (hr : RowsIn lo z.1 w1 ks1) (hA : Acc lo [(b1, [.int .i64 10])] w1 ks1) : AF lo (z.1 ++ [fr1 (f3.getD ((z.2 : Int)).toNat fz) b1], z.2 + 1) w1 ks1 := by
 refine ⟨by have := h.le; show z.2 + 1 ≤ 3; omega, ?_, fun r hr' => ?_⟩
 ·show List.map _ (z.1 ++ _) = _
  rw [List.map_append, h.tm, Int.toNat_natCast]
  have : z.2 = 0 ∨ z.2 = 1 ∨ z.2 = 2 := by omega
  rcases this with e | e | e <;> rw [e] <;> rfl
 ·rcases List.mem_append.1 hr' with h1 | h1
  ·exact hr r h1
  ·simp only [List.mem_cons, List.mem_nil_iff, or_false] at h1
   subst h1
   exact lies_of (cs := []) [10] hA List.mem_cons_self
theorem afen_ : FnR Tryz.prog 147 [] [] (fun x w w' => ∃ (L : List Rw) (b cp : Nat), x = .sla (some ⟨b, 0, none⟩) 3 cp ∧ (L.map tm = afen ∧ RowsIn w.heap.size L w' [b]) ∧ w.heap.size ≤ b ∧ Given 164 20 3 (fun zz => rwc (L.getD zz Rw.z)) b cp w') :=
 enterR (n := 31) (by kernel_rfl) Tryz.func147 rfl rfl rfl fun G w a h0 A => N9 11 A rfl rfl fun A => have A := A.asT fz ffc 3 tyF.1 tyF.2.1 tyF.2.2 f3 0 rfl; N9 17 A rfl rfl fun A => have A := A.nilRow 2 164 20 (fun zz => rwc (([] : List Rw).getD zz Rw.z)) rfl (fun z => ⟨_, rfl, rfl⟩); LOOPJ (fun (z : List Rw × Nat) => [(0, .sla none 0 0), (2, .sl 1 z.1.length 0), (10, .sl 0 3 3), (11, .int .i64 ((3 : Nat) : Int)), (12, .int .i64 (z.2 : Int))]) (fun (z : List Rw × Nat) => [some (.lst 3 3 (fun zz => ffc (f3.getD zz fz))), some (.row 164 20 z.1.length 0 (fun zz => rwc (z.1.getD zz Rw.z)))]) (fun z w1 ks1 => AF w.heap.size z w1 ks1) (fun z => 3 - z.2) ([], 0) (A.cut [0, 2, 10, 11, 12] rfl) ⟨by decide, rfl, fun r hr => by cases hr⟩ fun z G1 a1 w1 hJ hg A B => have hA : Acc w.heap.size [] w1 _ := Acc.nil; have hR := hJ.rw;
 N9 6 A rfl rfl fun A => forkD 13 A rfl
   (fun h1 A => N9 14 A rfl (ok_d (by omega) <| ok_d (by omega) <| okE_nil) fun A => N9 6 A rfl rfl fun A => have A := sy_sayD A 20 (.agg [.int .i64 7, .z9, .z9, .z9, .z9, .z9, .z9, .z9, .z9, .z9, .bool false, .bool false, .bool false, .int .i64 ((f3.getD (((z.2 : Int)).toNat) fz).2.1), .int .i64 ((f3.getD (((z.2 : Int)).toNat) fz).2.2), .z9, .bool false]) rfl (fun _ => rfl); N9 9 A rfl rfl fun A => BSCI [.int .i64 10] (X := ⟨_, true⟩) hX RowsIn.ok B hA hR A rfl rfl rfl rfl fun b1 B hA hR A =>
 N9 2 A rfl rfl fun A => have A := A.asT Rw.z rwc 20 tyR.1 tyR.2.1 tyR.2.2 [fr1 (f3.getD (((z.2 : Int)).toNat) fz) b1] 4 rfl; q_eff A rfl (aplE hX ((z.1 ++ [fr1 (f3.getD (((z.2 : Int)).toNat) fz) b1]).length) (fun zz => rwc ((z.1 ++ [fr1 (f3.getD (((z.2 : Int)).toNat) fz) b1]).getD zz Rw.z)) rfl rfl rfl rfl (Nat.le_refl _) (by have := hJ.len; have := hJ.le; omega) (by decide) List.length_append (fun k hk => by show rwc _ = rwc _; rw [getD_app_l hk]) (fun k hk => by show rwc _ = rwc _; rw [getD_app_r]) (fun z => ⟨_, rfl, rfl⟩) (fun k hk => ⟨_, rfl, okE_nil⟩)) fun A =>
 N9 8 A rfl (ok_d (by omega) <| okE_nil) fun A => ⟨(z.1 ++ [fr1 (f3.getD (((z.2 : Int)).toNat) fz) b1], z.2 + 1), _, (by have := h1; show _ - _ < _ - _; omega), (hJ.nx (l := []) h1 (RowsIn.ok _ _ _ _ hR A.mix fun b hb => A.keys_own b ((keys_pick (H := [some (.lst 3 3 (fun zz => ffc (f3.getD zz fz))), none, some (.blk [.str ((f3.getD (((z.2 : Int)).toNat) fz).1), .int .i64 ((f3.getD (((z.2 : Int)).toNat) fz).2.1), .int .i64 ((f3.getD (((z.2 : Int)).toNat) fz).2.2)]), some (.blk [.int .i64 7, .z9, .z9, .z9, .z9, .z9, .z9, .z9, .z9, .z9, .bool false, .bool false, .bool false, .int .i64 ((f3.getD (((z.2 : Int)).toNat) fz).2.1), .int .i64 ((f3.getD (((z.2 : Int)).toNat) fz).2.2), .z9, .bool false]), some (.lst 20 ([fr1 (f3.getD (((z.2 : Int)).toNat) fz) b1].length) (fun zz => rwc ([fr1 (f3.getD (((z.2 : Int)).toNat) fz) b1].getD zz Rw.z))), some (.row 164 20 ((z.1 ++ [fr1 (f3.getD (((z.2 : Int)).toNat) fz) b1]).length) 0 (fun zz => rwc ((z.1 ++ [fr1 (f3.getD (((z.2 : Int)).toNat) fz) b1]).getD zz Rw.z)))]) (m := [0, 5]) A.mem.len rfl rfl) b hb)) (hA.go A.mix fun b hb => A.keys_own b ((keys_pick (H := [some (.lst 3 3 (fun zz => ffc (f3.getD zz fz))), none, some (.blk [.str ((f3.getD (((z.2 : Int)).toNat) fz).1), .int .i64 ((f3.getD (((z.2 : Int)).toNat) fz).2.1), .int .i64 ((f3.getD (((z.2 : Int)).toNat) fz).2.2)]), some (.blk [.int .i64 7, .z9, .z9, .z9, .z9, .z9, .z9, .z9, .z9, .z9, .bool false, .bool false, .bool false, .int .i64 ((f3.getD (((z.2 : Int)).toNat) fz).2.1), .int .i64 ((f3.getD (((z.2 : Int)).toNat) fz).2.2), .z9, .bool false]), some (.lst 20 ([fr1 (f3.getD (((z.2 : Int)).toNat) fz) b1].length) (fun zz => rwc ([fr1 (f3.getD (((z.2 : Int)).toNat) fz) b1].getD zz Rw.z))), some (.row 164 20 ((z.1 ++ [fr1 (f3.getD (((z.2 : Int)).toNat) fz) b1]).length) 0 (fun zz => rwc ((z.1 ++ [fr1 (f3.getD (((z.2 : Int)).toNat) fz) b1]).getD zz Rw.z)))]) (m := [0, 5]) A.mem.len rfl rfl) b hb))), ((B.trans A).cut [0, 2, 10, 11, 12] rfl).mv 0 [0, 5] rfl rfl rfl rfl (by simp only [List.length_nil] at h0; omega)⟩)
   (fun h1 A => N9 10 A rfl rfl fun A => (have e5 : z.2 = 3 := (by have := hJ.le; omega); have e : z.1.length = 3 := (by have := hJ.len; omega); match A.giveRow 1 0 (by omega) rfl rfl rfl with | ⟨b, cp, A2, hG, ho, hk⟩ => RETR (J := fun x w w' => ∃ (L : List Rw) (b cp : Nat), x = .sla (some ⟨b, 0, none⟩) 3 cp ∧ (L.map tm = afen ∧ RowsIn w.heap.size L w' [b]) ∧ w.heap.size ≤ b ∧ Given 164 20 3 (fun zz => rwc (L.getD zz Rw.z)) b cp w') hX (B.trans A2) (fun i e he => nil_no he) rfl rfl rfl rfl ⟨z.1, b, cp, (by show SV.sla _ z.1.length cp = _; rw [e]), ⟨(by have h2 := hJ.tm; rw [e5] at h2; exact h2), (RowsIn.ok _ _ _ _ hJ.rw A.mix fun b2 hb => by have : b2 = b := (by simpa using hb); rw [this]; exact ho)⟩, lo_of B (fun i e he => nil_no he) ho, (by rw [← e]; exact hG)⟩))
end Go.Proofs.YtjkppaijicjpoaaGreatDoor.Ar
namespace Go.Proofs.YtjkppaijicjpoaaGreatDoor.Ar
open Go.RowKit
set_option linter.unusedVariables false
set_option linter.unusedSimpArgs false
set_option maxRecDepth 100000
set_option maxHeartbeats 2000000
set_option simprocs false
abbrev aaccL (b1 b2 b3 : Nat) : List (Nat × List SV) := [(b3, [.str [76, 68, 82, 42], .str [], .int .i64 4, .z9, .z9, .z9, .z9, .z9, .z9, .z9, .z9, .z9, .ff, .ff, .ff, .z9, .z9, .z9, .ff, .sla (some ⟨b1, 0, none⟩) 2 2, .str [76, 68, 65, 82, 42], .str [], .int .i64 4, .z9, .z9, .z9, .z9, .z9, .z9, .z9, .z9, .z9, .tt, .ff, .ff, .z9, .z9, .z9, .ff, .sla (some ⟨b1, 0, none⟩) 2 2, .str [76, 68, 65, 80, 82, 42], .str [], .int .i64 4, .z9, .z9, .z9, .z9, .z9, .z9, .z9, .z9, .z9, .ff, .tt, .ff, .z9, .z9, .z9, .ff, .sla (some ⟨b1, 0, none⟩) 2 2, .str [83, 84, 82, 42], .str [], .int .i64 5, .z9, .z9, .z9, .z9, .z9, .z9, .z9, .z9, .z9, .ff, .ff, .ff, .z9, .z9, .z9, .ff, .sla (some ⟨b2, 0, none⟩) 2 2, .str [83, 84, 76, 82, 42], .str [], .int .i64 5, .z9, .z9, .z9, .z9, .z9, .z9, .z9, .z9, .z9, .ff, .ff, .tt, .z9, .z9, .z9, .ff, .sla (some ⟨b2, 0, none⟩) 2 2]), (b2, [.int .i64 2, .int .i64 6]), (b1, [.int .i64 1, .int .i64 6])]
theorem aacc_ : FnR Tryz.prog 145 [] [] (fun x w w' => ∃ b1 b2 b3 : Nat, x = .sla (some ⟨b3, 0, none⟩) 5 5 ∧ Acc w.heap.size (aaccL b1 b2 b3) w' []) :=
 enterR (n := 21) (by kernel_rfl) Tryz.func145 rfl rfl rfl fun G w a h0 A => have B := A; have hA : Acc w.heap.size [] w _ := Acc.nil; N9 7 A rfl rfl fun A => BSCA [.int .i64 1, .int .i64 6] (X := ⟨_, true⟩) hX B hA A rfl rfl rfl rfl fun b1 B hA A =>
 BSCA [.int .i64 2, .int .i64 6] (X := ⟨_, true⟩) hX B hA A rfl rfl rfl rfl fun b2 B hA A =>
 N9 21 A rfl rfl fun A => BSCA [.str [76, 68, 82, 42], .str [], .int .i64 4, .z9, .z9, .z9, .z9, .z9, .z9, .z9, .z9, .z9, .ff, .ff, .ff, .z9, .z9, .z9, .ff, .sla (some ⟨b1, 0, none⟩) 2 2, .str [76, 68, 65, 82, 42], .str [], .int .i64 4, .z9, .z9, .z9, .z9, .z9, .z9, .z9, .z9, .z9, .tt, .ff, .ff, .z9, .z9, .z9, .ff, .sla (some ⟨b1, 0, none⟩) 2 2, .str [76, 68, 65, 80, 82, 42], .str [], .int .i64 4, .z9, .z9, .z9, .z9, .z9, .z9, .z9, .z9, .z9, .ff, .tt, .ff, .z9, .z9, .z9, .ff, .sla (some ⟨b1, 0, none⟩) 2 2, .str [83, 84, 82, 42], .str [], .int .i64 5, .z9, .z9, .z9, .z9, .z9, .z9, .z9, .z9, .z9, .ff, .ff, .ff, .z9, .z9, .z9, .ff, .sla (some ⟨b2, 0, none⟩) 2 2, .str [83, 84, 76, 82, 42], .str [], .int .i64 5, .z9, .z9, .z9, .z9, .z9, .z9, .z9, .z9, .z9, .ff, .ff, .tt, .z9, .z9, .z9, .ff, .sla (some ⟨b2, 0, none⟩) 2 2] (X := ⟨_, true⟩) hX B hA A rfl rfl rfl rfl fun b3 B hA A =>
 N9 4 A rfl rfl fun A => RETR (J := fun x w w' => ∃ b1 b2 b3 : Nat, x = .sla (some ⟨b3, 0, none⟩) 5 5 ∧ Acc w.heap.size (aaccL b1 b2 b3) w' []) hX (B.trans A) (fun i e he => nil_no he) rfl rfl rfl rfl ⟨b1, b2, b3, rfl, (hA.now A).bare⟩
abbrev aothL (b1 b2 b3 b4 b5 : Nat) : List (Nat × List SV) := [(b5, [.str [77, 79, 86], .str [], .int .i64 1, .z9, .z9, .z9, .z9, .z9, .z9, .z9, .z9, .z9, .ff, .ff, .ff, .z9, .z9, .z9, .ff, .sla (some ⟨b1, 0, none⟩) 2 2, .str [77, 79, 86], .str [], .int .i64 2, .z9, .z9, .z9, .z9, .z9, .z9, .z9, .z9, .z9, .ff, .ff, .ff, .z9, .z9, .z9, .ff, .sla (some ⟨b2, 0, none⟩) 2 2, .str [73, 83, 66], .str [], .int .i64 8, .z9, .z9, .z9, .z9, .z9, .z9, .z9, .z9, .z9, .ff, .ff, .ff, .z9, .z9, .z9, .ff, .sla none 0 0, .str [67, 66, 90], .str [], .int .i64 9, .z9, .z9, .z9, .z9, .z9, .z9, .z9, .z9, .z9, .ff, .ff, .ff, .z9, .z9, .z9, .tt, .sla (some ⟨b3, 0, none⟩) 2 2, .str [67, 66, 78, 90], .str [], .int .i64 9, .z9, .z9, .z9, .z9, .z9, .z9, .z9, .z9, .z9, .ff, .ff, .ff, .z9, .z9, .z9, .ff, .sla (some ⟨b4, 0, none⟩) 2 2]), (b4, [.int .i64 2, .int .i64 7]), (b3, [.int .i64 2, .int .i64 7]), (b2, [.int .i64 1, .int .i64 2]), (b1, [.int .i64 1, .int .i64 5])]
theorem aoth_ : FnR Tryz.prog 148 [] [] (fun x w w' => ∃ b1 b2 b3 b4 b5 : Nat, x = .sla (some ⟨b5, 0, none⟩) 5 5 ∧ Acc w.heap.size (aothL b1 b2 b3 b4 b5) w' []) :=
 enterR (n := 16) (by kernel_rfl) Tryz.func148 rfl rfl rfl fun G w a h0 A => have B := A; have hA : Acc w.heap.size [] w _ := Acc.nil; N9 8 A rfl rfl fun A => BSCA [.int .i64 1, .int .i64 5] (X := ⟨_, true⟩) hX B hA A rfl rfl rfl rfl fun b1 B hA A =>
 N9 2 A rfl rfl fun A => BSCA [.int .i64 1, .int .i64 2] (X := ⟨_, true⟩) hX B hA A rfl rfl rfl rfl fun b2 B hA A =>
 N9 4 A rfl rfl fun A => BSCA [.int .i64 2, .int .i64 7] (X := ⟨_, true⟩) hX B hA A rfl rfl rfl rfl fun b3 B hA A =>
 N9 2 A rfl rfl fun A => BSCA [.int .i64 2, .int .i64 7] (X := ⟨_, true⟩) hX B hA A rfl rfl rfl rfl fun b4 B hA A =>
 N9 1 A rfl rfl fun A => BSCA [.str [77, 79, 86], .str [], .int .i64 1, .z9, .z9, .z9, .z9, .z9, .z9, .z9, .z9, .z9, .ff, .ff, .ff, .z9, .z9, .z9, .ff, .sla (some ⟨b1, 0, none⟩) 2 2, .str [77, 79, 86], .str [], .int .i64 2, .z9, .z9, .z9, .z9, .z9, .z9, .z9, .z9, .z9, .ff, .ff, .ff, .z9, .z9, .z9, .ff, .sla (some ⟨b2, 0, none⟩) 2 2, .str [73, 83, 66], .str [], .int .i64 8, .z9, .z9, .z9, .z9, .z9, .z9, .z9, .z9, .z9, .ff, .ff, .ff, .z9, .z9, .z9, .ff, .sla none 0 0, .str [67, 66, 90], .str [], .int .i64 9, .z9, .z9, .z9, .z9, .z9, .z9, .z9, .z9, .z9, .ff, .ff, .ff, .z9, .z9, .z9, .tt, .sla (some ⟨b3, 0, none⟩) 2 2, .str [67, 66, 78, 90], .str [], .int .i64 9, .z9, .z9, .z9, .z9, .z9, .z9, .z9, .z9, .z9, .ff, .ff, .ff, .z9, .z9, .z9, .ff, .sla (some ⟨b4, 0, none⟩) 2 2] (X := ⟨_, true⟩) hX B hA A rfl rfl rfl rfl fun b5 B hA A =>
 N9 4 A rfl rfl fun A => RETR (J := fun x w w' => ∃ b1 b2 b3 b4 b5 : Nat, x = .sla (some ⟨b5, 0, none⟩) 5 5 ∧ Acc w.heap.size (aothL b1 b2 b3 b4 b5) w' []) hX (B.trans A) (fun i e he => nil_no he) rfl rfl rfl rfl ⟨b1, b2, b3, b4, b5, rfl, (hA.now A).bare⟩
end Go.Proofs.YtjkppaijicjpoaaGreatDoor.Ar
namespace Go.Proofs.YtjkppaijicjpoaaGreatDoor.Ar
open Go.RowKit
set_option linter.unusedVariables false
set_option linter.unusedSimpArgs false
set_option maxRecDepth 100000
set_option maxHeartbeats 2000000
set_option simprocs false
def aaccR (b1 b2 : Nat) : List Rw := [⟨[76, 68, 82, 42], [], ⟨4, 0, 0, 0, 0, 0, 0, 0, 0, 0, false, false, false, 0, 0, 0, false⟩, some ⟨b1, 0, none⟩, [1, 6], 2⟩, ⟨[76, 68, 65, 82, 42], [], ⟨4, 0, 0, 0, 0, 0, 0, 0, 0, 0, true, false, false, 0, 0, 0, false⟩, some ⟨b1, 0, none⟩, [1, 6], 2⟩, ⟨[76, 68, 65, 80, 82, 42], [], ⟨4, 0, 0, 0, 0, 0, 0, 0, 0, 0, false, true, false, 0, 0, 0, false⟩, some ⟨b1, 0, none⟩, [1, 6], 2⟩, ⟨[83, 84, 82, 42], [], ⟨5, 0, 0, 0, 0, 0, 0, 0, 0, 0, false, false, false, 0, 0, 0, false⟩, some ⟨b2, 0, none⟩, [2, 6], 2⟩, ⟨[83, 84, 76, 82, 42], [], ⟨5, 0, 0, 0, 0, 0, 0, 0, 0, 0, false, false, true, 0, 0, 0, false⟩, some ⟨b2, 0, none⟩, [2, 6], 2⟩]
def aaccT : List (List UInt8 × List UInt8 × In × List Int) := [([76, 68, 82, 42], [], ⟨4, 0, 0, 0, 0, 0, 0, 0, 0, 0, false, false, false, 0, 0, 0, false⟩, [1, 6]), ([76, 68, 65, 82, 42], [], ⟨4, 0, 0, 0, 0, 0, 0, 0, 0, 0, true, false, false, 0, 0, 0, false⟩, [1, 6]), ([76, 68, 65, 80, 82, 42], [], ⟨4, 0, 0, 0, 0, 0, 0, 0, 0, 0, false, true, false, 0, 0, 0, false⟩, [1, 6]), ([83, 84, 82, 42], [], ⟨5, 0, 0, 0, 0, 0, 0, 0, 0, 0, false, false, false, 0, 0, 0, false⟩, [2, 6]), ([83, 84, 76, 82, 42], [], ⟨5, 0, 0, 0, 0, 0, 0, 0, 0, 0, false, false, true, 0, 0, 0, false⟩, [2, 6])]
theorem aacc_rows {b1 b2 b3 lo lo2 : Nat} {w : World} {ks : List Nat} (h : Acc lo (aaccL b1 b2 b3) w ks) (hlo : lo2 ≤ lo) : RowsIn lo2 (aaccR b1 b2) w ks := by
 intro r hr
 unfold aaccR at hr
 simp only [List.mem_cons, List.mem_nil_iff, or_false] at hr
 rcases hr with rfl | rfl | rfl | rfl | rfl
 ·have q := lies_of (b := b1) (cs := []) [1, 6] h (by show _ ∈ aaccL b1 b2 b3; unfold aaccL; simp); exact ⟨q.1, fun z hz => Nat.le_trans hlo (q.2 z hz)⟩
 ·have q := lies_of (b := b1) (cs := []) [1, 6] h (by show _ ∈ aaccL b1 b2 b3; unfold aaccL; simp); exact ⟨q.1, fun z hz => Nat.le_trans hlo (q.2 z hz)⟩
 ·have q := lies_of (b := b1) (cs := []) [1, 6] h (by show _ ∈ aaccL b1 b2 b3; unfold aaccL; simp); exact ⟨q.1, fun z hz => Nat.le_trans hlo (q.2 z hz)⟩
 ·have q := lies_of (b := b2) (cs := []) [2, 6] h (by show _ ∈ aaccL b1 b2 b3; unfold aaccL; simp); exact ⟨q.1, fun z hz => Nat.le_trans hlo (q.2 z hz)⟩
 ·have q := lies_of (b := b2) (cs := []) [2, 6] h (by show _ ∈ aaccL b1 b2 b3; unfold aaccL; simp); exact ⟨q.1, fun z hz => Nat.le_trans hlo (q.2 z hz)⟩
theorem aacc_den (b1 b2 b3 : Nat) : denL [] ((aaccR b1 b2).flatMap rwc) = denL [] [.str [76, 68, 82, 42], .str [], .int .i64 4, .z9, .z9, .z9, .z9, .z9, .z9, .z9, .z9, .z9, .ff, .ff, .ff, .z9, .z9, .z9, .ff, .sla (some ⟨b1, 0, none⟩) 2 2, .str [76, 68, 65, 82, 42], .str [], .int .i64 4, .z9, .z9, .z9, .z9, .z9, .z9, .z9, .z9, .z9, .tt, .ff, .ff, .z9, .z9, .z9, .ff, .sla (some ⟨b1, 0, none⟩) 2 2, .str [76, 68, 65, 80, 82, 42], .str [], .int .i64 4, .z9, .z9, .z9, .z9, .z9, .z9, .z9, .z9, .z9, .ff, .tt, .ff, .z9, .z9, .z9, .ff, .sla (some ⟨b1, 0, none⟩) 2 2, .str [83, 84, 82, 42], .str [], .int .i64 5, .z9, .z9, .z9, .z9, .z9, .z9, .z9, .z9, .z9, .ff, .ff, .ff, .z9, .z9, .z9, .ff, .sla (some ⟨b2, 0, none⟩) 2 2, .str [83, 84, 76, 82, 42], .str [], .int .i64 5, .z9, .z9, .z9, .z9, .z9, .z9, .z9, .z9, .z9, .ff, .ff, .tt, .z9, .z9, .z9, .ff, .sla (some ⟨b2, 0, none⟩) 2 2] := by rfl
section
variable {n : Nat} {ks : List Nat} {G0 : Gr} {w0 : World} {T : List (Nat × SV)} {H : Hp} {G : Gr} {a : Act} {w : World} {Q : Exit → Act → World → Prop} {K : List Fr} {ops : Array Oper} {o : Oper} {rest : List Oper}
theorem CALLACC (A : Sy n T H ks G0 w0 G a w) (h1 : callS n ops T o = some (145, []))
  (k : ∀ b1 b2 b3 vs a' w', denL [] ((aaccR b1 b2).flatMap rwc) = some vs → Lies b3 0 vs w' (keys H G) → RowsIn w.heap.size (aaccR b1 b2) w' (keys H G) → Sy n (extS T o.dst (.sla (some ⟨b3, 0, none⟩) 5 5)) H ks G0 w0 G a' w' → Goal Tryz.prog Q K (.ops ops rest) a' w') : Goal Tryz.prog Q K (.ops ops (o :: rest)) a w := by
 refine CALLR [] aacc_ A h1 rfl rfl rfl rfl fun x a' w' hJ hk A' => ?_
 obtain ⟨b1, b2, b3, rfl, hA⟩ := hJ
 have hA := acc_keys hA hk
 obtain ⟨_, vs, q1, q2⟩ := hA _ List.mem_cons_self
 exact k b1 b2 b3 vs a' w' ((aacc_den b1 b2 b3).trans q1) q2 (aacc_rows hA (Nat.le_refl _)) A'
end
def aothR (b1 b2 b3 b4 : Nat) : List Rw := [⟨[77, 79, 86], [], ⟨1, 0, 0, 0, 0, 0, 0, 0, 0, 0, false, false, false, 0, 0, 0, false⟩, some ⟨b1, 0, none⟩, [1, 5], 2⟩, ⟨[77, 79, 86], [], ⟨2, 0, 0, 0, 0, 0, 0, 0, 0, 0, false, false, false, 0, 0, 0, false⟩, some ⟨b2, 0, none⟩, [1, 2], 2⟩, ⟨[73, 83, 66], [], ⟨8, 0, 0, 0, 0, 0, 0, 0, 0, 0, false, false, false, 0, 0, 0, false⟩, none, [], 0⟩, ⟨[67, 66, 90], [], ⟨9, 0, 0, 0, 0, 0, 0, 0, 0, 0, false, false, false, 0, 0, 0, true⟩, some ⟨b3, 0, none⟩, [2, 7], 2⟩, ⟨[67, 66, 78, 90], [], ⟨9, 0, 0, 0, 0, 0, 0, 0, 0, 0, false, false, false, 0, 0, 0, false⟩, some ⟨b4, 0, none⟩, [2, 7], 2⟩]
def aothT : List (List UInt8 × List UInt8 × In × List Int) := [([77, 79, 86], [], ⟨1, 0, 0, 0, 0, 0, 0, 0, 0, 0, false, false, false, 0, 0, 0, false⟩, [1, 5]), ([77, 79, 86], [], ⟨2, 0, 0, 0, 0, 0, 0, 0, 0, 0, false, false, false, 0, 0, 0, false⟩, [1, 2]), ([73, 83, 66], [], ⟨8, 0, 0, 0, 0, 0, 0, 0, 0, 0, false, false, false, 0, 0, 0, false⟩, []), ([67, 66, 90], [], ⟨9, 0, 0, 0, 0, 0, 0, 0, 0, 0, false, false, false, 0, 0, 0, true⟩, [2, 7]), ([67, 66, 78, 90], [], ⟨9, 0, 0, 0, 0, 0, 0, 0, 0, 0, false, false, false, 0, 0, 0, false⟩, [2, 7])]
theorem aoth_rows {b1 b2 b3 b4 b5 lo lo2 : Nat} {w : World} {ks : List Nat} (h : Acc lo (aothL b1 b2 b3 b4 b5) w ks) (hlo : lo2 ≤ lo) : RowsIn lo2 (aothR b1 b2 b3 b4) w ks := by
 intro r hr
 unfold aothR at hr
 simp only [List.mem_cons, List.mem_nil_iff, or_false] at hr
 rcases hr with rfl | rfl | rfl | rfl | rfl
 ·have q := lies_of (b := b1) (cs := []) [1, 5] h (by show _ ∈ aothL b1 b2 b3 b4 b5; unfold aothL; simp); exact ⟨q.1, fun z hz => Nat.le_trans hlo (q.2 z hz)⟩
 ·have q := lies_of (b := b2) (cs := []) [1, 2] h (by show _ ∈ aothL b1 b2 b3 b4 b5; unfold aothL; simp); exact ⟨q.1, fun z hz => Nat.le_trans hlo (q.2 z hz)⟩
 ·exact ⟨.inl ⟨rfl, rfl⟩, fun q hq => by cases hq⟩
 ·have q := lies_of (b := b3) (cs := []) [2, 7] h (by show _ ∈ aothL b1 b2 b3 b4 b5; unfold aothL; simp); exact ⟨q.1, fun z hz => Nat.le_trans hlo (q.2 z hz)⟩
 ·have q := lies_of (b := b4) (cs := []) [2, 7] h (by show _ ∈ aothL b1 b2 b3 b4 b5; unfold aothL; simp); exact ⟨q.1, fun z hz => Nat.le_trans hlo (q.2 z hz)⟩
theorem aoth_den (b1 b2 b3 b4 b5 : Nat) : denL [] ((aothR b1 b2 b3 b4).flatMap rwc) = denL [] [.str [77, 79, 86], .str [], .int .i64 1, .z9, .z9, .z9, .z9, .z9, .z9, .z9, .z9, .z9, .ff, .ff, .ff, .z9, .z9, .z9, .ff, .sla (some ⟨b1, 0, none⟩) 2 2, .str [77, 79, 86], .str [], .int .i64 2, .z9, .z9, .z9, .z9, .z9, .z9, .z9, .z9, .z9, .ff, .ff, .ff, .z9, .z9, .z9, .ff, .sla (some ⟨b2, 0, none⟩) 2 2, .str [73, 83, 66], .str [], .int .i64 8, .z9, .z9, .z9, .z9, .z9, .z9, .z9, .z9, .z9, .ff, .ff, .ff, .z9, .z9, .z9, .ff, .sla none 0 0, .str [67, 66, 90], .str [], .int .i64 9, .z9, .z9, .z9, .z9, .z9, .z9, .z9, .z9, .z9, .ff, .ff, .ff, .z9, .z9, .z9, .tt, .sla (some ⟨b3, 0, none⟩) 2 2, .str [67, 66, 78, 90], .str [], .int .i64 9, .z9, .z9, .z9, .z9, .z9, .z9, .z9, .z9, .z9, .ff, .ff, .ff, .z9, .z9, .z9, .ff, .sla (some ⟨b4, 0, none⟩) 2 2] := by rfl
section
variable {n : Nat} {ks : List Nat} {G0 : Gr} {w0 : World} {T : List (Nat × SV)} {H : Hp} {G : Gr} {a : Act} {w : World} {Q : Exit → Act → World → Prop} {K : List Fr} {ops : Array Oper} {o : Oper} {rest : List Oper}
theorem CALLAOT (A : Sy n T H ks G0 w0 G a w) (h1 : callS n ops T o = some (148, []))
  (k : ∀ b1 b2 b3 b4 b5 vs a' w', denL [] ((aothR b1 b2 b3 b4).flatMap rwc) = some vs → Lies b5 0 vs w' (keys H G) → RowsIn w.heap.size (aothR b1 b2 b3 b4) w' (keys H G) → Sy n (extS T o.dst (.sla (some ⟨b5, 0, none⟩) 5 5)) H ks G0 w0 G a' w' → Goal Tryz.prog Q K (.ops ops rest) a' w') : Goal Tryz.prog Q K (.ops ops (o :: rest)) a w := by
 refine CALLR [] aoth_ A h1 rfl rfl rfl rfl fun x a' w' hJ hk A' => ?_
 obtain ⟨b1, b2, b3, b4, b5, rfl, hA⟩ := hJ
 have hA := acc_keys hA hk
 obtain ⟨_, vs, q1, q2⟩ := hA _ List.mem_cons_self
 exact k b1 b2 b3 b4 b5 vs a' w' ((aoth_den b1 b2 b3 b4 b5).trans q1) q2 (aoth_rows hA (Nat.le_refl _)) A'
end
def armT : List (List UInt8 × List UInt8 × In × List Int) := (((acomp ++ aaccT) ++ aatom) ++ afen) ++ aothT
theorem alang_ : FnR Tryz.prog 103 [] [] (fun x w w' => ∃ (L : List Rw) (b cp : Nat), x = .agg [.str [88, 48], .str [88, 49], .str [88, 50], .str [88, 51], .str [88, 52], .str [88, 53], .str [88, 54], .str [88, 55], .str [66], .str [72], .str [87], .str [], .str [35], .str [], .str [], .str [], .sla (some ⟨b, 0, none⟩) 31 cp] ∧ (L.map tm = armT ∧ RowsIn w.heap.size L w' [b]) ∧ w.heap.size ≤ b ∧ Given 164 20 31 (fun zz => rwc (L.getD zz Rw.z)) b cp w') :=
 enterR (n := 11) (by kernel_rfl) Tryz.func103 rfl rfl rfl fun G w a h0 A => N9 7 A rfl rfl fun A => C9 [] (aregs_ ) A rfl fun A => N9 1 A rfl rfl fun A => have hz := A.mix.size; CALLROW (t := 3) (F := fun (L : List Rw) zz => rwc (L.getD zz Rw.z)) (R := fun L b w w' => L.map tm = acomp ∧ RowsIn w.heap.size L w' [b]) acomp_ A rfl rfl fun L1 e1 cp1 a1_ w1 G1 hR1 hlo hk A => have l1 : L1.length = 10 := (by have q := congrArg List.length hR1.1; rw [List.length_map] at q; exact q); have hI := (rows_keys hR1.2 hk).mono hz; have B := A; have A := B.base; 
 have hz := Nat.le_trans B.mix.size A.mix.size; CALLACC A rfl fun p1 p2 p3 vp a2_ w2 hv hL hO A => have hI := (RowsIn.ok _ _ _ _ hI A.mix A.keys_own).app (hO.mono hz); have lx2 : (aaccR p1 p2).length = 5 := rfl; have l12 : (L1 ++ (aaccR p1 p2)).length = 15 := (by rw [List.length_append, l1, lx2]); have B := B.trans A; have A := A.base; have A := A.adoptL Rw.z rwc 20 tyR.1 tyR.2.1 tyR.2.2 (aaccR p1 p2) hL hv 4 rfl;
 have hz := Nat.le_trans B.mix.size A.mix.size; CALLROW (t := 5) (F := fun (L : List Rw) zz => rwc (L.getD zz Rw.z)) (R := fun L b w w' => L.map tm = aatom ∧ RowsIn w.heap.size L w' [b]) aatom_ A rfl rfl fun L3 e3 cp3 a3_ w3 G3 hR3 hlo hk A => have lx3 : L3.length = 8 := (by have q := congrArg List.length hR3.1; rw [List.length_map] at q; exact q); have hI2 := (rows_keys hR3.2 hk).mono hz; have hI := (RowsIn.ok _ _ _ _ hI A.mix A.keys_own).app hI2; have l13 : ((L1 ++ (aaccR p1 p2)) ++ L3).length = 23 := (by rw [List.length_append, l12, lx3]); have B := B.trans A; have A := A.base; 
 have hz := Nat.le_trans B.mix.size A.mix.size; CALLROW (t := 6) (F := fun (L : List Rw) zz => rwc (L.getD zz Rw.z)) (R := fun L b w w' => L.map tm = afen ∧ RowsIn w.heap.size L w' [b]) afen_ A rfl rfl fun L4 e4 cp4 a4_ w4 G4 hR4 hlo hk A => have lx4 : L4.length = 3 := (by have q := congrArg List.length hR4.1; rw [List.length_map] at q; exact q); have hI2 := (rows_keys hR4.2 hk).mono hz; have hI := (RowsIn.ok _ _ _ _ hI A.mix A.keys_own).app hI2; have l14 : (((L1 ++ (aaccR p1 p2)) ++ L3) ++ L4).length = 26 := (by rw [List.length_append, l13, lx4]); have B := B.trans A; have A := A.base; 
 have hz := Nat.le_trans B.mix.size A.mix.size; CALLAOT A rfl fun q1 q2 q3 q4 q5 vq a5_ w5 hv hL hO A => have hI := (RowsIn.ok _ _ _ _ hI A.mix A.keys_own).app (hO.mono hz); have lx5 : (aothR q1 q2 q3 q4).length = 5 := rfl; have l15 : ((((L1 ++ (aaccR p1 p2)) ++ L3) ++ L4) ++ (aothR q1 q2 q3 q4)).length = 31 := (by rw [List.length_append, l14, lx5]); have B := B.trans A; have A := A.base; have A := A.adoptL Rw.z rwc 20 tyR.1 tyR.2.1 tyR.2.2 (aothR q1 q2 q3 q4) hL hv 7 rfl;
 N9 1 A rfl rfl fun A => have A := A.freeze 1 rfl; have A := A.freeze 3 rfl; have A := A.freeze 4 rfl; C9 [6, 1, 2, 3, 4, 5] (concat5_ L1 (aaccR p1 p2) L3 L4 (aothR q1 q2 q3 q4) 0 5 0 0 5 l1 l12 l13 l14) A rfl fun A => match A.giveRow 7 9 (by decide) rfl rfl rfl with | ⟨b, cp, A2, hG, ho, hkb⟩ => (have h1 := RowsIn.ok _ _ _ _ hI A2.mix A2.keys_own; have h2 := RowsIn.ok _ _ _ [b] hI A2.mix (fun b2 hb => by have : b2 = b := (by simpa using hb); rw [this]; exact ho); have hbl := lo_of B (fun i e he => nil_no he) ho; have B := B.trans A2; have A := A2.base;
 N9 5 A rfl rfl fun A => RETR (J := fun x w w' => ∃ (L : List Rw) (b cp : Nat), x = .agg [.str [88, 48], .str [88, 49], .str [88, 50], .str [88, 51], .str [88, 52], .str [88, 53], .str [88, 54], .str [88, 55], .str [66], .str [72], .str [87], .str [], .str [35], .str [], .str [], .str [], .sla (some ⟨b, 0, none⟩) 31 cp] ∧ (L.map tm = armT ∧ RowsIn w.heap.size L w' [b]) ∧ w.heap.size ≤ b ∧ Given 164 20 31 (fun zz => rwc (L.getD zz Rw.z)) b cp w') hX (B.trans A) (fun i e he => nil_no he) rfl rfl rfl rfl ⟨((((L1 ++ (aaccR p1 p2)) ++ L3) ++ L4) ++ (aothR q1 q2 q3 q4)), b, cp, rfl, ⟨by rw [List.map_append, List.map_append, List.map_append, List.map_append, hR1.1, hR3.1, hR4.1]; rfl, h1.one h2 A.mix⟩, hbl, hG.mix A.mix hkb⟩)
end Go.Proofs.YtjkppaijicjpoaaGreatDoor.Ar
namespace Go.Proofs.YtjkppaijicjpoaaGreatDoor

end Go.Proofs.YtjkppaijicjpoaaGreatDoor
namespace Go.Proofs.YtjkppaijicjpoaaGreatDoor.Ar
open Go.RowKit
set_option linter.unusedVariables false
set_option linter.unusedSimpArgs false
set_option maxRecDepth 100000
set_option maxHeartbeats 2000000
set_option simprocs false
def armG : Lg := ⟨[88, 48], [88, 49], [88, 50], [88, 51], [88, 52], [88, 53], [88, 54], [88, 55], [66], [72], [87], [], [35], [], [], []⟩
def armC : List Rw := armT.map rwOf
theorem arm_pr {L : List Rw} {i : In} {lb : List UInt8} (h : L.map tm = armT) : prP armG L i lb = prP armG armC i lb := by
 have := cn_prP (g := armG) (L := L) (i := i) (lb := lb)
 rw [cn_tm h] at this
 exact this.symm
theorem arm_lg : LgL armG := by
 refine ⟨⟨fun r => ?_, by decide⟩, fun k => ?_, by decide, by decide, by decide⟩
 ·unfold regnm0
  split
  ·exact Nat.zero_le _
  ·next h =>
   have : (r).toNat = 0 ∨ (r).toNat = 1 ∨ (r).toNat = 2 ∨ (r).toNat = 3 ∨ (r).toNat = 4 ∨ (r).toNat = 5 ∨ (r).toNat = 6 ∨ (r).toNat = 7 := by
    simp only [Bool.or_eq_true, decide_eq_true_eq] at h; omega
   rcases this with e | e | e | e | e | e | e | e <;> rw [e] <;> decide
 ·by_cases h : k < 4
  ·have : k = 0 ∨ k = 1 ∨ k = 2 ∨ k = 3 := by omega
   rcases this with rfl | rfl | rfl | rfl <;> decide
  ·rw [List.getD_eq_getElem?_getD, List.getElem?_eq_none (by simpa using h)]; decide
theorem arm_prok {L : List Rw} {i : In} {lb : List UInt8} (hi : InR i) (hl : lb.length ≤ 100000) (hm : L.map tm = armT) : PrOK armG L i lb := pr_ok hm arm_lg (by decide +kernel) (by decide +kernel) hi hl
theorem aprint_ (i : In) (lb : List UInt8) (os : List (Nat × Obj)) (hM : ∀ w ks, Gl os w ks → ∃ m, w.cell? ⟨1, 0, none⟩ = some (.int .i64 m)) (hT : ∀ w ks, Gl os w ks → Lib.TabIs Tryz.prog w "internal/strconv.uint64pow10" .u64 Lib.pow10Tab) (hE : ∀ w ks, Gl os w ks → ∃ ev, w.cell? ⟨4, 0, none⟩ = some ev ∧ (ev = .nilIface ∨ ∃ te pe, ev = .iface te pe)) (hp : ∀ L : List Rw, L.map tm = armT → PrOK armG L i lb) : FnI (Gl os) Tryz.prog 77 [.agg (inQ9 i), .str lb] [] (Rt (.tup [.str ((prP armG armC i lb).1), .int .i64 ((prP armG armC i lb).2)]) []) :=
 enterI (n := 12) (by kernel_rfl) Tryz.func77 rfl rfl rfl fun G w a h0 hI A => N9 8 A rfl rfl fun A => any_in 8 hmo rfl A fun A => any_at (rs := [0, 1, 2]) (by kernel_rfl) (by decide) (fc9 ⟨any_agg (t := 6) (l := [.str [88, 48], .str [88, 49], .str [88, 50], .str [88, 51], .str [88, 52], .str [88, 53], .str [88, 54], .str [88, 55], .str [66], .str [72], .str [87], .str [], .str [35], .str [], .str [], .str []]) (F := fun (L : List Rw) zz => rwc (L.getD zz Rw.z)) (R := fun L b w w' => L.map tm = armT ∧ RowsIn w.heap.size L w' [b]) rfl alang_ A rfl rfl fun L b cp a1 w1 G1 hR hlo hkk A => have hl20 : L.length = 31 := (by have q := congrArg List.length hR.1; rw [List.length_map] at q; exact q.trans (by decide +kernel)); have hRI := rows_keys hR.2 hkk; have B0 := A; have A := A.base; have A := A.rowAs 1 L.length (fun zz => rwc (L.getD zz Rw.z)) rfl hl20 (fun _ _ => rfl) (fun z => ⟨_, rfl, rfl⟩); have A := A.say 6 (.agg [.str [88, 48], .str [88, 49], .str [88, 50], .str [88, 51], .str [88, 52], .str [88, 53], .str [88, 54], .str [88, 55], .str [66], .str [72], .str [87], .str [], .str [35], .str [], .str [], .str [], .sl 1 L.length 0]) rfl (by rw [hl20] <;> rfl); have A := A.freeze 1 rfl; have hTb := RowsIn.ok.now A hRI; have B := B0.trans A; have A := A.base; have hI2 : PrI os L _ _ := ⟨fun r hr => (hTb r hr).1, Gl.ok.now B hI⟩; any_at (rs := [1, 2]) (by kernel_rfl) (by decide) (fc9 ⟨aV9 (.agg (inQ9 i)) rfl A rfl rfl fun A => any_at (rs := [2]) (by kernel_rfl) (by decide) (fc9 ⟨aV9 (.str lb) rfl A rfl rfl fun A => any_at (rs := [3]) (by kernel_rfl) (by decide) (fc9 ⟨any_eff (x := .tup [.str ((prP armG L i lb).1), .int .i64 ((prP armG L i lb).2)]) (H' := [some (.blk (inQ9 i)), some (lQ9 L)]) rfl A rfl (callIE [1] PrI.ok hI2 (lprint_ armG L 0 i lb os hM hT hE (hp L hR.1)) rfl rfl rfl rfl rfl rfl rfl) fun A => any_at (rs := [4, 5]) (by kernel_rfl) (by decide) (fc9 ⟨aV9 (.str ((prP armG L i lb).1)) rfl A rfl rfl fun A => any_at (rs := [5]) (by kernel_rfl) (by decide) (fc9 ⟨aV9 (.int .i64 ((prP armG L i lb).2)) rfl A rfl rfl fun A => any_at (rs := [6]) (by kernel_rfl) (by decide) (fc9 ⟨aV9 (.str ((prP armG L i lb).1)) rfl A rfl rfl fun A => any_at (rs := [7]) (by kernel_rfl) (by decide) (fc9 ⟨aV9 (.int .i64 ((prP armG L i lb).2)) rfl A rfl rfl fun A => any_end (by kernel_rfl) (N9 2 A rfl rfl fun A => R9 (B.trans A) rfl h0 rfl (by rw [← arm_pr hR.1] <;> rfl) rfl),
         (fn9)⟩),
        (fn9)⟩),
       (fn9)⟩),
      (fc9 ⟨aV9 (.int .i64 ((prP armG L i lb).2)) rfl A rfl rfl fun A => any_at (rs := [4]) (by kernel_rfl) (by decide) (fc9 ⟨aV9 (.str ((prP armG L i lb).1)) rfl A rfl rfl fun A => any_at (rs := [6]) (by kernel_rfl) (by decide) (fc9 ⟨aV9 (.str ((prP armG L i lb).1)) rfl A rfl rfl fun A => any_at (rs := [7]) (by kernel_rfl) (by decide) (fc9 ⟨aV9 (.int .i64 ((prP armG L i lb).2)) rfl A rfl rfl fun A => any_end (by kernel_rfl) (N9 2 A rfl rfl fun A => R9 (B.trans A) rfl h0 rfl (by rw [← arm_pr hR.1] <;> rfl) rfl),
         (fn9)⟩),
        (fn9)⟩),
       (fn9)⟩),
      (fn9)⟩)⟩),
     (fn9)⟩),
    (fn9)⟩),
   (fc9 ⟨aV9 (.str lb) rfl A rfl rfl fun A => any_at (rs := [1]) (by kernel_rfl) (by decide) (fc9 ⟨aV9 (.agg (inQ9 i)) rfl A rfl rfl fun A => any_at (rs := [3]) (by kernel_rfl) (by decide) (fc9 ⟨any_eff (x := .tup [.str ((prP armG L i lb).1), .int .i64 ((prP armG L i lb).2)]) (H' := [some (.blk (inQ9 i)), some (lQ9 L)]) rfl A rfl (callIE [1] PrI.ok hI2 (lprint_ armG L 0 i lb os hM hT hE (hp L hR.1)) rfl rfl rfl rfl rfl rfl rfl) fun A => any_at (rs := [4, 5]) (by kernel_rfl) (by decide) (fc9 ⟨aV9 (.str ((prP armG L i lb).1)) rfl A rfl rfl fun A => any_at (rs := [5]) (by kernel_rfl) (by decide) (fc9 ⟨aV9 (.int .i64 ((prP armG L i lb).2)) rfl A rfl rfl fun A => any_at (rs := [6]) (by kernel_rfl) (by decide) (fc9 ⟨aV9 (.str ((prP armG L i lb).1)) rfl A rfl rfl fun A => any_at (rs := [7]) (by kernel_rfl) (by decide) (fc9 ⟨aV9 (.int .i64 ((prP armG L i lb).2)) rfl A rfl rfl fun A => any_end (by kernel_rfl) (N9 2 A rfl rfl fun A => R9 (B.trans A) rfl h0 rfl (by rw [← arm_pr hR.1] <;> rfl) rfl),
         (fn9)⟩),
        (fn9)⟩),
       (fn9)⟩),
      (fc9 ⟨aV9 (.int .i64 ((prP armG L i lb).2)) rfl A rfl rfl fun A => any_at (rs := [4]) (by kernel_rfl) (by decide) (fc9 ⟨aV9 (.str ((prP armG L i lb).1)) rfl A rfl rfl fun A => any_at (rs := [6]) (by kernel_rfl) (by decide) (fc9 ⟨aV9 (.str ((prP armG L i lb).1)) rfl A rfl rfl fun A => any_at (rs := [7]) (by kernel_rfl) (by decide) (fc9 ⟨aV9 (.int .i64 ((prP armG L i lb).2)) rfl A rfl rfl fun A => any_end (by kernel_rfl) (N9 2 A rfl rfl fun A => R9 (B.trans A) rfl h0 rfl (by rw [← arm_pr hR.1] <;> rfl) rfl),
         (fn9)⟩),
        (fn9)⟩),
       (fn9)⟩),
      (fn9)⟩)⟩),
     (fn9)⟩),
    (fn9)⟩),
   (fn9)⟩)⟩),
  (fc9 ⟨aV9 (.agg (inQ9 i)) rfl A rfl rfl fun A => any_at (rs := [0, 2]) (by kernel_rfl) (by decide) (fc9 ⟨any_agg (t := 6) (l := [.str [88, 48], .str [88, 49], .str [88, 50], .str [88, 51], .str [88, 52], .str [88, 53], .str [88, 54], .str [88, 55], .str [66], .str [72], .str [87], .str [], .str [35], .str [], .str [], .str []]) (F := fun (L : List Rw) zz => rwc (L.getD zz Rw.z)) (R := fun L b w w' => L.map tm = armT ∧ RowsIn w.heap.size L w' [b]) rfl alang_ A rfl rfl fun L b cp a1 w1 G1 hR hlo hkk A => have hl20 : L.length = 31 := (by have q := congrArg List.length hR.1; rw [List.length_map] at q; exact q.trans (by decide +kernel)); have hRI := rows_keys hR.2 hkk; have B0 := A; have A := A.base; have A := A.rowAs 1 L.length (fun zz => rwc (L.getD zz Rw.z)) rfl hl20 (fun _ _ => rfl) (fun z => ⟨_, rfl, rfl⟩); have A := A.say 6 (.agg [.str [88, 48], .str [88, 49], .str [88, 50], .str [88, 51], .str [88, 52], .str [88, 53], .str [88, 54], .str [88, 55], .str [66], .str [72], .str [87], .str [], .str [35], .str [], .str [], .str [], .sl 1 L.length 0]) rfl (by rw [hl20] <;> rfl); have A := A.freeze 1 rfl; have hTb := RowsIn.ok.now A hRI; have B := B0.trans A; have A := A.base; have hI2 : PrI os L _ _ := ⟨fun r hr => (hTb r hr).1, Gl.ok.now B hI⟩; any_at (rs := [2]) (by kernel_rfl) (by decide) (fc9 ⟨aV9 (.str lb) rfl A rfl rfl fun A => any_at (rs := [3]) (by kernel_rfl) (by decide) (fc9 ⟨any_eff (x := .tup [.str ((prP armG L i lb).1), .int .i64 ((prP armG L i lb).2)]) (H' := [some (.blk (inQ9 i)), some (lQ9 L)]) rfl A rfl (callIE [1] PrI.ok hI2 (lprint_ armG L 0 i lb os hM hT hE (hp L hR.1)) rfl rfl rfl rfl rfl rfl rfl) fun A => any_at (rs := [4, 5]) (by kernel_rfl) (by decide) (fc9 ⟨aV9 (.str ((prP armG L i lb).1)) rfl A rfl rfl fun A => any_at (rs := [5]) (by kernel_rfl) (by decide) (fc9 ⟨aV9 (.int .i64 ((prP armG L i lb).2)) rfl A rfl rfl fun A => any_at (rs := [6]) (by kernel_rfl) (by decide) (fc9 ⟨aV9 (.str ((prP armG L i lb).1)) rfl A rfl rfl fun A => any_at (rs := [7]) (by kernel_rfl) (by decide) (fc9 ⟨aV9 (.int .i64 ((prP armG L i lb).2)) rfl A rfl rfl fun A => any_end (by kernel_rfl) (N9 2 A rfl rfl fun A => R9 (B.trans A) rfl h0 rfl (by rw [← arm_pr hR.1] <;> rfl) rfl),
         (fn9)⟩),
        (fn9)⟩),
       (fn9)⟩),
      (fc9 ⟨aV9 (.int .i64 ((prP armG L i lb).2)) rfl A rfl rfl fun A => any_at (rs := [4]) (by kernel_rfl) (by decide) (fc9 ⟨aV9 (.str ((prP armG L i lb).1)) rfl A rfl rfl fun A => any_at (rs := [6]) (by kernel_rfl) (by decide) (fc9 ⟨aV9 (.str ((prP armG L i lb).1)) rfl A rfl rfl fun A => any_at (rs := [7]) (by kernel_rfl) (by decide) (fc9 ⟨aV9 (.int .i64 ((prP armG L i lb).2)) rfl A rfl rfl fun A => any_end (by kernel_rfl) (N9 2 A rfl rfl fun A => R9 (B.trans A) rfl h0 rfl (by rw [← arm_pr hR.1] <;> rfl) rfl),
         (fn9)⟩),
        (fn9)⟩),
       (fn9)⟩),
      (fn9)⟩)⟩),
     (fn9)⟩),
    (fn9)⟩),
   (fc9 ⟨aV9 (.str lb) rfl A rfl rfl fun A => any_at (rs := [0]) (by kernel_rfl) (by decide) (fc9 ⟨any_agg (t := 6) (l := [.str [88, 48], .str [88, 49], .str [88, 50], .str [88, 51], .str [88, 52], .str [88, 53], .str [88, 54], .str [88, 55], .str [66], .str [72], .str [87], .str [], .str [35], .str [], .str [], .str []]) (F := fun (L : List Rw) zz => rwc (L.getD zz Rw.z)) (R := fun L b w w' => L.map tm = armT ∧ RowsIn w.heap.size L w' [b]) rfl alang_ A rfl rfl fun L b cp a1 w1 G1 hR hlo hkk A => have hl20 : L.length = 31 := (by have q := congrArg List.length hR.1; rw [List.length_map] at q; exact q.trans (by decide +kernel)); have hRI := rows_keys hR.2 hkk; have B0 := A; have A := A.base; have A := A.rowAs 1 L.length (fun zz => rwc (L.getD zz Rw.z)) rfl hl20 (fun _ _ => rfl) (fun z => ⟨_, rfl, rfl⟩); have A := A.say 6 (.agg [.str [88, 48], .str [88, 49], .str [88, 50], .str [88, 51], .str [88, 52], .str [88, 53], .str [88, 54], .str [88, 55], .str [66], .str [72], .str [87], .str [], .str [35], .str [], .str [], .str [], .sl 1 L.length 0]) rfl (by rw [hl20] <;> rfl); have A := A.freeze 1 rfl; have hTb := RowsIn.ok.now A hRI; have B := B0.trans A; have A := A.base; have hI2 : PrI os L _ _ := ⟨fun r hr => (hTb r hr).1, Gl.ok.now B hI⟩; any_at (rs := [3]) (by kernel_rfl) (by decide) (fc9 ⟨any_eff (x := .tup [.str ((prP armG L i lb).1), .int .i64 ((prP armG L i lb).2)]) (H' := [some (.blk (inQ9 i)), some (lQ9 L)]) rfl A rfl (callIE [1] PrI.ok hI2 (lprint_ armG L 0 i lb os hM hT hE (hp L hR.1)) rfl rfl rfl rfl rfl rfl rfl) fun A => any_at (rs := [4, 5]) (by kernel_rfl) (by decide) (fc9 ⟨aV9 (.str ((prP armG L i lb).1)) rfl A rfl rfl fun A => any_at (rs := [5]) (by kernel_rfl) (by decide) (fc9 ⟨aV9 (.int .i64 ((prP armG L i lb).2)) rfl A rfl rfl fun A => any_at (rs := [6]) (by kernel_rfl) (by decide) (fc9 ⟨aV9 (.str ((prP armG L i lb).1)) rfl A rfl rfl fun A => any_at (rs := [7]) (by kernel_rfl) (by decide) (fc9 ⟨aV9 (.int .i64 ((prP armG L i lb).2)) rfl A rfl rfl fun A => any_end (by kernel_rfl) (N9 2 A rfl rfl fun A => R9 (B.trans A) rfl h0 rfl (by rw [← arm_pr hR.1] <;> rfl) rfl),
         (fn9)⟩),
        (fn9)⟩),
       (fn9)⟩),
      (fc9 ⟨aV9 (.int .i64 ((prP armG L i lb).2)) rfl A rfl rfl fun A => any_at (rs := [4]) (by kernel_rfl) (by decide) (fc9 ⟨aV9 (.str ((prP armG L i lb).1)) rfl A rfl rfl fun A => any_at (rs := [6]) (by kernel_rfl) (by decide) (fc9 ⟨aV9 (.str ((prP armG L i lb).1)) rfl A rfl rfl fun A => any_at (rs := [7]) (by kernel_rfl) (by decide) (fc9 ⟨aV9 (.int .i64 ((prP armG L i lb).2)) rfl A rfl rfl fun A => any_end (by kernel_rfl) (N9 2 A rfl rfl fun A => R9 (B.trans A) rfl h0 rfl (by rw [← arm_pr hR.1] <;> rfl) rfl),
         (fn9)⟩),
        (fn9)⟩),
       (fn9)⟩),
      (fn9)⟩)⟩),
     (fn9)⟩),
    (fn9)⟩),
   (fn9)⟩)⟩),
  (fc9 ⟨aV9 (.str lb) rfl A rfl rfl fun A => any_at (rs := [0, 1]) (by kernel_rfl) (by decide) (fc9 ⟨any_agg (t := 6) (l := [.str [88, 48], .str [88, 49], .str [88, 50], .str [88, 51], .str [88, 52], .str [88, 53], .str [88, 54], .str [88, 55], .str [66], .str [72], .str [87], .str [], .str [35], .str [], .str [], .str []]) (F := fun (L : List Rw) zz => rwc (L.getD zz Rw.z)) (R := fun L b w w' => L.map tm = armT ∧ RowsIn w.heap.size L w' [b]) rfl alang_ A rfl rfl fun L b cp a1 w1 G1 hR hlo hkk A => have hl20 : L.length = 31 := (by have q := congrArg List.length hR.1; rw [List.length_map] at q; exact q.trans (by decide +kernel)); have hRI := rows_keys hR.2 hkk; have B0 := A; have A := A.base; have A := A.rowAs 1 L.length (fun zz => rwc (L.getD zz Rw.z)) rfl hl20 (fun _ _ => rfl) (fun z => ⟨_, rfl, rfl⟩); have A := A.say 6 (.agg [.str [88, 48], .str [88, 49], .str [88, 50], .str [88, 51], .str [88, 52], .str [88, 53], .str [88, 54], .str [88, 55], .str [66], .str [72], .str [87], .str [], .str [35], .str [], .str [], .str [], .sl 1 L.length 0]) rfl (by rw [hl20] <;> rfl); have A := A.freeze 1 rfl; have hTb := RowsIn.ok.now A hRI; have B := B0.trans A; have A := A.base; have hI2 : PrI os L _ _ := ⟨fun r hr => (hTb r hr).1, Gl.ok.now B hI⟩; any_at (rs := [1]) (by kernel_rfl) (by decide) (fc9 ⟨aV9 (.agg (inQ9 i)) rfl A rfl rfl fun A => any_at (rs := [3]) (by kernel_rfl) (by decide) (fc9 ⟨any_eff (x := .tup [.str ((prP armG L i lb).1), .int .i64 ((prP armG L i lb).2)]) (H' := [some (.blk (inQ9 i)), some (lQ9 L)]) rfl A rfl (callIE [1] PrI.ok hI2 (lprint_ armG L 0 i lb os hM hT hE (hp L hR.1)) rfl rfl rfl rfl rfl rfl rfl) fun A => any_at (rs := [4, 5]) (by kernel_rfl) (by decide) (fc9 ⟨aV9 (.str ((prP armG L i lb).1)) rfl A rfl rfl fun A => any_at (rs := [5]) (by kernel_rfl) (by decide) (fc9 ⟨aV9 (.int .i64 ((prP armG L i lb).2)) rfl A rfl rfl fun A => any_at (rs := [6]) (by kernel_rfl) (by decide) (fc9 ⟨aV9 (.str ((prP armG L i lb).1)) rfl A rfl rfl fun A => any_at (rs := [7]) (by kernel_rfl) (by decide) (fc9 ⟨aV9 (.int .i64 ((prP armG L i lb).2)) rfl A rfl rfl fun A => any_end (by kernel_rfl) (N9 2 A rfl rfl fun A => R9 (B.trans A) rfl h0 rfl (by rw [← arm_pr hR.1] <;> rfl) rfl),
         (fn9)⟩),
        (fn9)⟩),
       (fn9)⟩),
      (fc9 ⟨aV9 (.int .i64 ((prP armG L i lb).2)) rfl A rfl rfl fun A => any_at (rs := [4]) (by kernel_rfl) (by decide) (fc9 ⟨aV9 (.str ((prP armG L i lb).1)) rfl A rfl rfl fun A => any_at (rs := [6]) (by kernel_rfl) (by decide) (fc9 ⟨aV9 (.str ((prP armG L i lb).1)) rfl A rfl rfl fun A => any_at (rs := [7]) (by kernel_rfl) (by decide) (fc9 ⟨aV9 (.int .i64 ((prP armG L i lb).2)) rfl A rfl rfl fun A => any_end (by kernel_rfl) (N9 2 A rfl rfl fun A => R9 (B.trans A) rfl h0 rfl (by rw [← arm_pr hR.1] <;> rfl) rfl),
         (fn9)⟩),
        (fn9)⟩),
       (fn9)⟩),
      (fn9)⟩)⟩),
     (fn9)⟩),
    (fn9)⟩),
   (fc9 ⟨aV9 (.agg (inQ9 i)) rfl A rfl rfl fun A => any_at (rs := [0]) (by kernel_rfl) (by decide) (fc9 ⟨any_agg (t := 6) (l := [.str [88, 48], .str [88, 49], .str [88, 50], .str [88, 51], .str [88, 52], .str [88, 53], .str [88, 54], .str [88, 55], .str [66], .str [72], .str [87], .str [], .str [35], .str [], .str [], .str []]) (F := fun (L : List Rw) zz => rwc (L.getD zz Rw.z)) (R := fun L b w w' => L.map tm = armT ∧ RowsIn w.heap.size L w' [b]) rfl alang_ A rfl rfl fun L b cp a1 w1 G1 hR hlo hkk A => have hl20 : L.length = 31 := (by have q := congrArg List.length hR.1; rw [List.length_map] at q; exact q.trans (by decide +kernel)); have hRI := rows_keys hR.2 hkk; have B0 := A; have A := A.base; have A := A.rowAs 1 L.length (fun zz => rwc (L.getD zz Rw.z)) rfl hl20 (fun _ _ => rfl) (fun z => ⟨_, rfl, rfl⟩); have A := A.say 6 (.agg [.str [88, 48], .str [88, 49], .str [88, 50], .str [88, 51], .str [88, 52], .str [88, 53], .str [88, 54], .str [88, 55], .str [66], .str [72], .str [87], .str [], .str [35], .str [], .str [], .str [], .sl 1 L.length 0]) rfl (by rw [hl20] <;> rfl); have A := A.freeze 1 rfl; have hTb := RowsIn.ok.now A hRI; have B := B0.trans A; have A := A.base; have hI2 : PrI os L _ _ := ⟨fun r hr => (hTb r hr).1, Gl.ok.now B hI⟩; any_at (rs := [3]) (by kernel_rfl) (by decide) (fc9 ⟨any_eff (x := .tup [.str ((prP armG L i lb).1), .int .i64 ((prP armG L i lb).2)]) (H' := [some (.blk (inQ9 i)), some (lQ9 L)]) rfl A rfl (callIE [1] PrI.ok hI2 (lprint_ armG L 0 i lb os hM hT hE (hp L hR.1)) rfl rfl rfl rfl rfl rfl rfl) fun A => any_at (rs := [4, 5]) (by kernel_rfl) (by decide) (fc9 ⟨aV9 (.str ((prP armG L i lb).1)) rfl A rfl rfl fun A => any_at (rs := [5]) (by kernel_rfl) (by decide) (fc9 ⟨aV9 (.int .i64 ((prP armG L i lb).2)) rfl A rfl rfl fun A => any_at (rs := [6]) (by kernel_rfl) (by decide) (fc9 ⟨aV9 (.str ((prP armG L i lb).1)) rfl A rfl rfl fun A => any_at (rs := [7]) (by kernel_rfl) (by decide) (fc9 ⟨aV9 (.int .i64 ((prP armG L i lb).2)) rfl A rfl rfl fun A => any_end (by kernel_rfl) (N9 2 A rfl rfl fun A => R9 (B.trans A) rfl h0 rfl (by rw [← arm_pr hR.1] <;> rfl) rfl),
         (fn9)⟩),
        (fn9)⟩),
       (fn9)⟩),
      (fc9 ⟨aV9 (.int .i64 ((prP armG L i lb).2)) rfl A rfl rfl fun A => any_at (rs := [4]) (by kernel_rfl) (by decide) (fc9 ⟨aV9 (.str ((prP armG L i lb).1)) rfl A rfl rfl fun A => any_at (rs := [6]) (by kernel_rfl) (by decide) (fc9 ⟨aV9 (.str ((prP armG L i lb).1)) rfl A rfl rfl fun A => any_at (rs := [7]) (by kernel_rfl) (by decide) (fc9 ⟨aV9 (.int .i64 ((prP armG L i lb).2)) rfl A rfl rfl fun A => any_end (by kernel_rfl) (N9 2 A rfl rfl fun A => R9 (B.trans A) rfl h0 rfl (by rw [← arm_pr hR.1] <;> rfl) rfl),
         (fn9)⟩),
        (fn9)⟩),
       (fn9)⟩),
      (fn9)⟩)⟩),
     (fn9)⟩),
    (fn9)⟩),
   (fn9)⟩)⟩),
  (fn9)⟩)⟩)⟩)
end Go.Proofs.YtjkppaijicjpoaaGreatDoor.Ar
namespace Go.Proofs.YtjkppaijicjpoaaGreatDoor
open Go.RowKit
set_option linter.unusedVariables false
set_option linter.unusedSimpArgs false
set_option maxRecDepth 100000
set_option maxHeartbeats 2000000
set_option simprocs false
def labL (k : Int) : List UInt8 := [76] ++ Lib.itoa k
theorem labL_len (k : Int) (h1 : -9223372036854775808 ≤ k) (h2 : k ≤ 9223372036854775807) : (labL k).length ≤ 22 := by
 have := Lib.itoa_length_le k h1 h2
 unfold labL; rw [List.length_append]; show 1 + _ ≤ _; omega
def GC (os : List (Nat × Obj)) (cs : List Cde) : Amb := fun w ks => Gl os w ks ∧ CodesAt cs w ks
theorem GC.ok {os : List (Nat × Obj)} {cs : List Cde} : Amb.OK (GC os cs) := fun w ks w' ks' h m hk => ⟨Gl.ok _ _ _ _ h.1 m hk, CodesAt.ok _ _ _ _ h.2 m hk⟩
def okI (i : In) : Prop := InR i ∧ -9223372036854775808 ≤ i.to_ ∧ i.to_ ≤ 9223372036854775807
def prAll (pe : In → Int) (cs : List Cde) : Bool := cs.all fun c => c.l.all fun i => pe i == 0
structure Q1 (pe : In → Int) (cs : List Cde) (i : Nat) : Prop where
 le : i ≤ cs.length
 ok : ∀ j, j < i → ((cs.getD j Cde.z).l.all fun i => pe i == 0) = true
structure Q2 (pe : In → Int) (c : Cde) (k : Nat) : Prop where
 le : k ≤ c.l.length
 ok : ∀ j, j < k → pe (c.l.getD j In.z) = 0
section
variable {pe : In → Int} {cs : List Cde} {c : Cde} {i k : Nat}
theorem in_at (h : (k : Int) < ((c.l.length : Nat) : Int)) : c.l.getD ((k : Int)).toNat In.z ∈ c.l := by
 rw [Int.toNat_natCast, List.getD_eq_getElem?_getD, List.getElem?_eq_getElem (by omega)]; exact List.getElem_mem _
theorem cd_at (h : (i : Int) < ((cs.length : Nat) : Int)) : cs.getD ((i : Int)).toNat Cde.z ∈ cs := by
 rw [Int.toNat_natCast, List.getD_eq_getElem?_getD, List.getElem?_eq_getElem (by omega)]; exact List.getElem_mem _
theorem Q2.i0 : Q2 pe c 0 := ⟨Nat.zero_le _, fun j hj => by omega⟩
theorem Q2.nx (h : Q2 pe c k) (h1 : (k : Int) < ((c.l.length : Nat) : Int)) (h2 : pe (c.l.getD ((k : Int)).toNat In.z) = 0) : Q2 pe c (k + 1) := ⟨by omega, fun j hj => by
 by_cases e : j = k
 ·subst e; rw [Int.toNat_natCast] at h2; exact h2
 ·exact h.ok j (by omega)⟩
theorem Q2.good (h : Q2 pe c k) (h1 : ¬ (k : Int) < ((c.l.length : Nat) : Int)) : (c.l.all fun i => pe i == 0) = true := by
 rw [List.all_eq_true]
 intro i hi
 obtain ⟨j, hj, rfl⟩ := List.mem_iff_getElem.1 hi
 have := h.ok j (by omega)
 rw [List.getD_eq_getElem?_getD, List.getElem?_eq_getElem hj] at this
 exact beq_iff_eq.2 this
theorem Q1.i0 : Q1 pe cs 0 := ⟨Nat.zero_le _, fun j hj => by omega⟩
theorem Q1.nx (h : Q1 pe cs i) (h1 : (i : Int) < ((cs.length : Nat) : Int)) (h2 : ((cs.getD ((i : Int)).toNat Cde.z).l.all fun i => pe i == 0) = true) : Q1 pe cs (i + 1) := ⟨by omega, fun j hj => by
 by_cases e : j = i
 ·subst e; rw [Int.toNat_natCast] at h2; exact h2
 ·exact h.ok j (by omega)⟩
theorem Q1.good (h : Q1 pe cs i) (h1 : ¬ (i : Int) < ((cs.length : Nat) : Int)) : prAll pe cs = true := by
 unfold prAll
 rw [List.all_eq_true]
 intro c hc
 obtain ⟨j, hj, rfl⟩ := List.mem_iff_getElem.1 hc
 have := h.ok j (by omega)
 rw [List.getD_eq_getElem?_getD, List.getElem?_eq_getElem hj] at this
 exact this
theorem prAll_bad (h1 : (i : Int) < ((cs.length : Nat) : Int)) (h2 : (k : Int) < (((cs.getD ((i : Int)).toNat Cde.z).l.length : Nat) : Int)) (h3 : pe ((cs.getD ((i : Int)).toNat Cde.z).l.getD ((k : Int)).toNat In.z) ≠ 0) : prAll pe cs = false := by
 cases hq : prAll pe cs with
 | false => rfl
 | true =>
  unfold prAll at hq
  have e1 := List.all_eq_true.1 hq _ (cd_at h1)
  have e2 := List.all_eq_true.1 e1 _ (in_at h2)
  exact absurd (eq_of_beq e2) h3
end
theorem lab_ (k : Int) (os : List (Nat × Obj)) (hM : ∀ w ks, Gl os w ks → ∃ m, w.cell? ⟨1, 0, none⟩ = some (.int .i64 m)) (hT : ∀ w ks, Gl os w ks → Lib.TabIs Tryz.prog w "internal/strconv.uint64pow10" .u64 Lib.pow10Tab) (hE : ∀ w ks, Gl os w ks → ∃ ev, w.cell? ⟨4, 0, none⟩ = some ev ∧ (ev = .nilIface ∨ ∃ te pe, ev = .iface te pe)) (h1 : -9223372036854775808 ≤ k) (h2 : k ≤ 9223372036854775807) : FnI (Gl os) Tryz.prog 51 [.int .i64 k] [] (Rt (.str (labL k)) []) :=
 enterI (n := 6) (by kernel_rfl) Tryz.func51 rfl rfl rfl fun G w a h0 hI A => N9 8 A rfl rfl fun A => I9 [] Gl.ok hI (itoaI_ k os hM hT h1 h2) A rfl fun A => N9 5 A rfl (ok_d (by have := Lib.itoa_length_le k h1 h2; (try simp only [List.length_append, List.length_cons, List.length_nil]); omega) <| okE_nil) fun A => R9 A rfl h0 rfl rfl rfl
theorem printsAll_ (cs : List Cde) (cx : Nat) (tt : List UInt8) (f1 fp f3 : Nat) (pt : In → List UInt8 → List UInt8) (pe : In → List UInt8 → Int) (os : List (Nat × Obj)) (hM : ∀ w ks, Gl os w ks → ∃ m, w.cell? ⟨1, 0, none⟩ = some (.int .i64 m)) (hT : ∀ w ks, Gl os w ks → Lib.TabIs Tryz.prog w "internal/strconv.uint64pow10" .u64 Lib.pow10Tab) (hE : ∀ w ks, Gl os w ks → ∃ ev, w.cell? ⟨4, 0, none⟩ = some ev ∧ (ev = .nilIface ∨ ∃ te pe, ev = .iface te pe)) (hp : ∀ (i : In) (lb : List UInt8), InR i → lb.length ≤ 100000 → FnI (Gl os) Tryz.prog fp [.agg (insS i), .str lb] [] (Rt (.tup [.str (pt i lb), .int .i64 (pe i lb)]) [])) (hs : ∀ c ∈ cs, c.l.length ≤ 9223372036854775807) (hn : cs.length ≤ 9223372036854775807) (hR : ∀ c ∈ cs, ∀ i ∈ c.l, okI i) : FnI (GC os cs) Tryz.prog 26 [.agg [.str tt, .fn f1 [], .fn fp [], .fn f3 []], .sl 0 cs.length cx] [some (.lst 1 cs.length (fun zz => cdc (cs.getD zz Cde.z)))] (Rt (.bool (prAll (fun i => pe i (labL i.to_)) cs)) [some (.lst 1 cs.length (fun zz => cdc (cs.getD zz Cde.z)))]) :=
 enterI (n := 37) (by kernel_rfl) Tryz.func26 rfl rfl rfl fun G w a h0 hI A => N9 15 A rfl rfl fun A => LOOP1 (fun (i : Nat) => [(2, .ptr 1 0), (4, .ff), (11, .sl 0 cs.length cx), (12, .int .i64 ((cs.length : Nat) : Int)), (13, .int .i64 (i : Int))]) (fun (i : Nat) => [some (.lst 1 cs.length (fun zz => cdc (cs.getD zz Cde.z))), some (.blk [.str tt, .fn f1 [], .fn fp [], .fn f3 []])]) (fun (i : Nat) => Q1 (fun i => pe i (labL i.to_)) cs i) (fun (i : Nat) => cs.length - i) 0 Q1.i0 ((A.cut [2, 4, 11, 12, 13] rfl).trunc 2 rfl rfl rfl (by simp only [List.length_cons, List.length_nil] at h0; omega)) fun i hJ {G a w} A => N9 6 A rfl rfl fun A => forkD 14 A rfl
   (fun h1 A => N9 13 A rfl (ok_d (by (try have hy := len_at hs ((i : Int)).toNat); (try have := hK.le); (try have := hJ.le); omega) <| ok_d (by (try have hy := len_at hs ((i : Int)).toNat); (try have := hK.le); (try have := hJ.le); omega) <| okE_nil) fun A => N9 7 A rfl rfl fun A => LOOP1 (fun (k : Nat) => [(2, .ptr 1 0), (4, .ff), (11, .sl 0 cs.length cx), (12, .int .i64 ((cs.length : Nat) : Int)), (13, .int .i64 (i : Int)), (17, .sla ((cs.getD (((i : Int)).toNat) Cde.z).ao) ((cs.getD (((i : Int)).toNat) Cde.z).l.length) ((cs.getD (((i : Int)).toNat) Cde.z).cp)), (18, .int .i64 (((cs.getD (((i : Int)).toNat) Cde.z).l.length : Nat) : Int)), (19, .int .i64 (k : Int))]) (fun (k : Nat) => [some (.lst 1 cs.length (fun zz => cdc (cs.getD zz Cde.z))), some (.blk [.str tt, .fn f1 [], .fn fp [], .fn f3 []])]) (fun (k : Nat) => Q2 (fun i => pe i (labL i.to_)) (cs.getD ((i : Int)).toNat Cde.z) k) (fun (k : Nat) => (cs.getD ((i : Int)).toNat Cde.z).l.length - k) 0 Q2.i0 ((A.cut [2, 4, 11, 12, 13, 17, 18, 19] rfl).trunc 2 rfl rfl rfl (by simp only [List.length_cons, List.length_nil] at h0; omega)) fun k hK {G a w} A => N9 6 A rfl rfl fun A => forkD 20 A rfl
     (fun h2 A => N9 7 A rfl rfl fun A => ADOPTN (ao := (cs.getD (((i : Int)).toNat) Cde.z).ao) (s := 17) (m := (cs.getD (((i : Int)).toNat) Cde.z).l.length) (f := fun zz => insS ((cs.getD (((i : Int)).toNat) Cde.z).l.getD zz In.z)) hX 21 17 (hI.2.at (by omega)) (by omega) A rfl rfl rfl rfl rfl rfl (ok_d (by (try have hy := len_at hs ((i : Int)).toNat); (try have := hK.le); (try have := hJ.le); omega) <| okE_nil) fun A => N9 6 A rfl (ok_d (by (try have hy := len_at hs ((i : Int)).toNat); (try have := hK.le); (try have := hJ.le); omega) <| okE_nil) fun A => ANY hmo [.ptr 1 2, .fn fp [], .agg (inQ9 ((cs.getD (((i : Int)).toNat) Cde.z).l.getD (((k : Int)).toNat) In.z)), .ptr 3 15, .int .i64 (((cs.getD (((i : Int)).toNat) Cde.z).l.getD (((k : Int)).toNat) In.z).to_), .str (labL (((cs.getD (((i : Int)).toNat) Cde.z).l.getD (((k : Int)).toNat) In.z).to_)), .tup [.str (pt ((cs.getD (((i : Int)).toNat) Cde.z).l.getD (((k : Int)).toNat) In.z) (labL (((cs.getD (((i : Int)).toNat) Cde.z).l.getD (((k : Int)).toNat) In.z).to_))), .int .i64 (pe ((cs.getD (((i : Int)).toNat) Cde.z).l.getD (((k : Int)).toNat) In.z) (labL (((cs.getD (((i : Int)).toNat) Cde.z).l.getD (((k : Int)).toNat) In.z).to_)))], .tup [.str (pt ((cs.getD (((i : Int)).toNat) Cde.z).l.getD (((k : Int)).toNat) In.z) (labL (((cs.getD (((i : Int)).toNat) Cde.z).l.getD (((k : Int)).toNat) In.z).to_))), .int .i64 (pe ((cs.getD (((i : Int)).toNat) Cde.z).l.getD (((k : Int)).toNat) In.z) (labL (((cs.getD (((i : Int)).toNat) Cde.z).l.getD (((k : Int)).toNat) In.z).to_)))], .str (pt ((cs.getD (((i : Int)).toNat) Cde.z).l.getD (((k : Int)).toNat) In.z) (labL (((cs.getD (((i : Int)).toNat) Cde.z).l.getD (((k : Int)).toNat) In.z).to_))), .int .i64 (pe ((cs.getD (((i : Int)).toNat) Cde.z).l.getD (((k : Int)).toNat) In.z) (labL (((cs.getD (((i : Int)).toNat) Cde.z).l.getD (((k : Int)).toNat) In.z).to_))), .str (pt ((cs.getD (((i : Int)).toNat) Cde.z).l.getD (((k : Int)).toNat) In.z) (labL (((cs.getD (((i : Int)).toNat) Cde.z).l.getD (((k : Int)).toNat) In.z).to_))), .int .i64 (pe ((cs.getD (((i : Int)).toNat) Cde.z).l.getD (((k : Int)).toNat) In.z) (labL (((cs.getD (((i : Int)).toNat) Cde.z).l.getD (((k : Int)).toNat) In.z).to_)))] [] [] 0 [([], [], [some (.lst 1 cs.length (fun zz => cdc (cs.getD zz Cde.z))), some (.blk [.str tt, .fn f1 [], .fn fp [], .fn f3 []]), some (.lst 17 ((cs.getD (((i : Int)).toNat) Cde.z).l.length) (fun zz => insS ((cs.getD (((i : Int)).toNat) Cde.z).l.getD zz In.z))), some (.blk (inQ9 ((cs.getD (((i : Int)).toNat) Cde.z).l.getD (((k : Int)).toNat) In.z)))])] [[true, true, true, true, true, true, true, true, true, true, true, true]] A rfl rfl rfl rfl (by kernel_rfl) rfl (by kernel_rfl) ⟨⟨oV9 0 rfl rfl, ⟨oV9 0 rfl rfl, ⟨oV9 0 rfl rfl, ⟨oV9 0 rfl rfl, ⟨oV9 0 rfl rfl, ⟨⟨_, _, _, _, 0, rfl, rfl, rfl, rfl, eff_at (callIE [] GC.ok hI (FnI.mono (lab_ (((cs.getD (((i : Int)).toNat) Cde.z).l.getD (((k : Int)).toNat) In.z).to_) os hM hT hE (hR _ (cd_at h1) _ (in_at h2)).2.1 (hR _ (cd_at h1) _ (in_at h2)).2.2) fun _ _ q => q.1) rfl rfl rfl rfl rfl rfl rfl) rfl⟩, ⟨⟨_, _, _, _, 0, rfl, rfl, rfl, rfl, eff_at (callIE [] GC.ok hI (FnI.mono (hp ((cs.getD (((i : Int)).toNat) Cde.z).l.getD (((k : Int)).toNat) In.z) (labL (((cs.getD (((i : Int)).toNat) Cde.z).l.getD (((k : Int)).toNat) In.z).to_)) (hR _ (cd_at h1) _ (in_at h2)).1 (Nat.le_trans (labL_len _ (hR _ (cd_at h1) _ (in_at h2)).2.1 (hR _ (cd_at h1) _ (in_at h2)).2.2) (by decide))) fun _ _ q => q.1) rfl rfl rfl rfl rfl rfl rfl) rfl⟩, ⟨oV9 0 rfl rfl, ⟨oV9 0 rfl rfl, ⟨oV9 0 rfl rfl, ⟨oV9 0 rfl rfl, ⟨oV9 0 rfl rfl, trivial⟩⟩⟩⟩⟩⟩⟩⟩⟩⟩⟩⟩, trivial⟩ fun A => N9 7 A rfl rfl fun A => forkN 34 A rfl
      (fun h3 A => N9 7 A rfl rfl fun A => R9 A rfl h0 rfl (by rw [prAll_bad (pe := (fun i => pe i (labL i.to_))) h1 h2 h3]; rfl) rfl)
      (fun h3 A => N9 8 A rfl (ok_d (by (try have hy := len_at hs ((i : Int)).toNat); (try have := hK.le); (try have := hJ.le); omega) <| okE_nil) fun A => ⟨k + 1, _, (by omega), (hK.nx h2 h3), ((A.cut [2, 4, 11, 12, 13, 17, 18, 19] rfl).trunc 2 rfl rfl rfl (by simp only [List.length_cons, List.length_nil] at h0; omega))⟩))
     (fun h2 A => N9 8 A rfl (ok_d (by (try have hy := len_at hs ((i : Int)).toNat); (try have := hK.le); (try have := hJ.le); omega) <| okE_nil) fun A => ⟨i + 1, _, (by omega), (hJ.nx h1 (hK.good h2)), ((A.cut [2, 4, 11, 12, 13] rfl).trunc 2 rfl rfl rfl (by simp only [List.length_cons, List.length_nil] at h0; omega))⟩))
   (fun h1 A => N9 9 A rfl rfl fun A => R9 A rfl h0 rfl (by rw [hJ.good h1]; rfl) rfl)
theorem langs_   : Fn Tryz.prog 47 [] [] (Rt (.sl 0 3 3) [some (.blk [.str [88, 56, 54], .fn 70 [], .fn 71 [], .fn 72 [], .str [82, 73, 83, 67, 86], .fn 73 [], .fn 74 [], .fn 75 [], .str [65, 82, 77], .fn 76 [], .fn 77 [], .fn 78 []])]) :=
 enterM (n := 5) (by kernel_rfl) Tryz.func47 rfl rfl rfl fun G w a h0 A => N9 15 A rfl rfl fun A => RET hX [0] A ⟨rfl, rfl⟩ rfl rfl rfl rfl rfl rfl rfl rfl h0
theorem langOf1   : Fn Tryz.prog 23 [.int .i64 1] [] (Rt (.tup [.agg [.str [88, 56, 54], .fn 70 [], .fn 71 [], .fn 72 []], .tt]) []) :=
 enterM (n := 16) (by kernel_rfl) Tryz.func23 rfl rfl rfl fun G w a h0 A => N9 17 A rfl rfl fun A => fork 9 A rfl
  (fun h1 A => absurd h1 (by decide))
  (fun h1 A => N9 5 A rfl rfl fun A => C9 [] langs_ A rfl fun A => N9 2 A rfl (ok_d (by decide) <| okE_nil) fun A => have A := sy_sayD A 13 (.int .i64 0) rfl (fun _ => rfl); N9 1 A rfl (ok_d (by decide) <| okE_nil) fun A => have A := sy_sayD A 14 (.ptr 1 0) rfl (ix_ptr 0 rfl); N9 6 A rfl rfl fun A => R9 A rfl h0 rfl rfl rfl)
theorem langOf2   : Fn Tryz.prog 23 [.int .i64 2] [] (Rt (.tup [.agg [.str [82, 73, 83, 67, 86], .fn 73 [], .fn 74 [], .fn 75 []], .tt]) []) :=
 enterM (n := 16) (by kernel_rfl) Tryz.func23 rfl rfl rfl fun G w a h0 A => N9 17 A rfl rfl fun A => fork 9 A rfl
  (fun h1 A => absurd h1 (by decide))
  (fun h1 A => N9 5 A rfl rfl fun A => C9 [] langs_ A rfl fun A => N9 2 A rfl (ok_d (by decide) <| okE_nil) fun A => have A := sy_sayD A 13 (.int .i64 1) rfl (fun _ => rfl); N9 1 A rfl (ok_d (by decide) <| okE_nil) fun A => have A := sy_sayD A 14 (.ptr 1 4) rfl (ix_ptr 1 rfl); N9 6 A rfl rfl fun A => R9 A rfl h0 rfl rfl rfl)
theorem langOf3   : Fn Tryz.prog 23 [.int .i64 3] [] (Rt (.tup [.agg [.str [65, 82, 77], .fn 76 [], .fn 77 [], .fn 78 []], .tt]) []) :=
 enterM (n := 16) (by kernel_rfl) Tryz.func23 rfl rfl rfl fun G w a h0 A => N9 17 A rfl rfl fun A => fork 9 A rfl
  (fun h1 A => absurd h1 (by decide))
  (fun h1 A => N9 5 A rfl rfl fun A => C9 [] langs_ A rfl fun A => N9 2 A rfl (ok_d (by decide) <| okE_nil) fun A => have A := sy_sayD A 13 (.int .i64 2) rfl (fun _ => rfl); N9 1 A rfl (ok_d (by decide) <| okE_nil) fun A => have A := sy_sayD A 14 (.ptr 1 8) rfl (ix_ptr 2 rfl); N9 6 A rfl rfl fun A => R9 A rfl h0 rfl rfl rfl)
theorem langOf0 (ar : Int) (ha : ¬ (1 ≤ ar ∧ ar ≤ 3)) : Fn Tryz.prog 23 [.int .i64 ar] [] (Rt (.tup [.agg [.str [], .v .nilFunc, .v .nilFunc, .v .nilFunc], .ff]) []) :=
 enterM (n := 16) (by kernel_rfl) Tryz.func23 rfl rfl rfl fun G w a h0 A => N9 17 A rfl rfl fun A => fork 9 A rfl
  (fun h1 A => N9 9 A rfl rfl fun A => R9 A rfl h0 rfl rfl rfl)
  (fun h1 A => absurd h1 (by simp only [Bool.or_eq_false_iff, decide_eq_false_iff_not]; omega))
def quan0 (qu : Int) : List UInt8 := if qu = 1 then [101, 120, 105, 115, 116, 115] else if qu = 2 then [126, 32, 101, 120, 105, 115, 116, 115] else if qu = 3 then [102, 111, 114, 97, 108, 108] else []
theorem quan_ (qu : Int)  : Fn Tryz.prog 27 [.int .i64 qu] [] (Rt (.str (quan0 qu)) []) :=
 enterM (n := 10) (by kernel_rfl) Tryz.func27 rfl rfl rfl fun G w a h0 A => N9 18 A rfl rfl fun A => forkE 4 A rfl
  (fun h1 A => N9 7 A rfl rfl fun A => R9 A rfl h0 rfl (by simp only [oneS, nb, nbL, nbH, quan0, if_pos h1]) rfl)
  (fun h1 A => N9 7 A rfl rfl fun A => forkE 6 A rfl
   (fun h2 A => N9 7 A rfl rfl fun A => R9 A rfl h0 rfl (by simp only [oneS, nb, nbL, nbH, quan0, if_neg (h1), if_pos h2]) rfl)
   (fun h2 A => N9 7 A rfl rfl fun A => forkE 8 A rfl
    (fun h3 A => N9 7 A rfl rfl fun A => R9 A rfl h0 rfl (by simp only [oneS, nb, nbL, nbH, quan0, if_neg (h1), if_neg (h2), if_pos h3]) rfl)
    (fun h3 A => N9 10 A rfl rfl fun A => R9 A rfl h0 rfl (by simp only [oneS, nb, nbL, nbH, quan0, if_neg (h1), if_neg (h2), if_neg (h3)]) rfl)))
end Go.Proofs.YtjkppaijicjpoaaGreatDoor
namespace Go.Proofs.YtjkppaijicjpoaaGreatDoor
open Go.RowKit
set_option linter.unusedVariables false
set_option linter.unusedSimpArgs false
set_option linter.unusedSectionVars false
section
variable {P : Program} {n : Nat} {ks : List Nat} {G0 : Gr} {w0 : World} {T : List (Nat × SV)} {H : Hp} {G : Gr} {a : Act} {w w' : World} {ops : Array Oper} {o : Oper} {rest : List Oper} {Q : Exit → Act → World → Prop} {K : List Fr}
end
def RdAt (ao : Option Addr) (l : List Int) (w : World) (ks : List Nat) : Prop :=
 l = [] ∨ ∃ b o, ao = some ⟨b, o, none⟩ ∧ b < w.heap.size ∧ ks.contains b = false ∧ w.rangeAt b o (l.map (Value.int .i64))
theorem RdAt.go {ao : Option Addr} {l : List Int} {w w' : World} {ks ks' : List Nat} (h : RdAt ao l w ks) (m : Mix ks w w') (hk : ∀ b, ks'.contains b = true → ks.contains b = true ∨ w.heap.size ≤ b) : RdAt ao l w' ks' := by
 rcases h with h | ⟨b, o, h1, h2, h3, h4⟩
 ·exact .inl h
 ·refine .inr ⟨b, o, h1, Nat.lt_of_lt_of_le h2 m.size, ?_, range_mix h4 m h2 h3⟩
  cases hc : ks'.contains b with
  | false => rfl
  | true =>
   rcases hk b hc with h | h
   ·rw [h] at h3; cases h3
   ·omega
def tlA (ao : Option Addr) (c : Nat) : Option Addr := ao.map fun a => if c = 1 then a else ⟨a.block, a.off + 1, none⟩
theorem RdAt.tl {ao : Option Addr} {x : Int} {l : List Int} {w : World} {ks : List Nat} {c : Nat} (h : RdAt ao (x :: l) w ks) (hc : (x :: l).length ≤ c) : RdAt (tlA ao c) l w ks := by
 rcases h with h | ⟨b, o, h1, h2, h3, h4⟩
 ·cases h
 ·cases l with
  | nil => exact .inl rfl
  | cons y l =>
   right
   subst h1
   refine ⟨b, o + 1, by simp at hc; simp [tlA]; omega, h2, h3, fun j u hu => ?_⟩
   have := h4 (j + 1) u (by simpa using hu)
   rw [show o + 1 + j = o + (j + 1) by omega]
   exact this
theorem RdAt.at {ao : Option Addr} {x : Int} {l : List Int} {w : World} {ks : List Nat} (h : RdAt ao (x :: l) w ks) : ∃ b o, ao = some ⟨b, o, none⟩ := by
 rcases h with h | ⟨b, o, h1, _⟩
 ·cases h
 ·exact ⟨b, o, h1⟩
section
variable {P : Program} {Y : Tb} {n : Nat} {ks : List Nat} {G0 : Gr} {w0 : World} {T : List (Nat × SV)} {H : Hp} {ops : Array Oper} {o : Oper} {rest : List Oper} {Q : Exit → Act → World → Prop} {K : List Fr}
theorem ix0E {x y : Operand} {t e nn cp : Nat} {ao : Option Addr} (hop : o.op = .indexAddr t x y) (hg : guardS ops T o.guard = some .run) (hx : evS T x = some (.sla ao nn cp)) (hy : evS T y = some (.int .i64 0)) (hao : ∃ b q, ao = some ⟨b, q, none⟩) (ht : sliceB P t e 1 = true) (hn : 0 < nn) :
  EffOK P n ops ks G0 w0 T H o (.v (.pointer ao)) H := fun G a w A => by
 obtain ⟨b, q, rfl⟩ := hao
 have hw := gd_run (gd := none) A hg
 obtain ⟨d, op, ty, pos, af, gd⟩ := o
 simp only at hop
 subst hop
 have hvx := A.ev hx
 have hvy := A.ev hy
 unfold den at hvx hvy
 simp only [Option.some.injEq] at hvx hvy
 exact d_indexAt (n := nn) (b := b) (o := q) (j := 0) hw hvx.symm hvy.symm ht ⟨q, cp, rfl, by simp⟩ hn ⟨[], rfl, by simpa using A.ms⟩
theorem ld0E {x : Operand} {t : Nat} {ao : Option Addr} {z : Int} {l : List Int} (hop : o.op = .load t x) (hg : guardS ops T o.guard = some .run) (hx : evS T x = some (.v (.pointer ao))) (h1 : oneB P t = true) (hr : RdAt ao (z :: l) w0 ks) :
  EffOK P n ops ks G0 w0 T H o (.int .i64 z) H := fun G a w A => by
 have hw := gd_run (gd := none) A hg
 obtain ⟨d, op, ty, pos, af, gd⟩ := o
 simp only at hop
 subst hop
 have hvx := A.ev hx
 unfold den at hvx
 simp only [Option.some.injEq] at hvx
 rcases hr.go A.mix (ks' := ks) (fun b hb => .inl hb) with h | ⟨b, q, rfl, h2, h3, h4⟩
 ·cases h
 ·have hc := h4 0 (.int .i64 z) rfl
  exact d_load hw hvx.symm h1 hc ⟨[], rfl, by simpa using A.ms⟩
theorem tlE {x y : Operand} {t e nn cp : Nat} {ao : Option Addr} (hop : o.op = .slice t x (some y) none none) (hg : guardS ops T o.guard = some .run) (hx : evS T x = some (.sla ao nn cp)) (hy : evS T y = some (.int .i64 1)) (hao : ∃ b q, ao = some ⟨b, q, none⟩) (ht : sliceB P t e 1 = true) (hn : 1 ≤ nn) (hc : nn ≤ cp) :
  EffOK P n ops ks G0 w0 T H o (.sla (tlA ao cp) (nn - 1) (cp - 1)) H := fun G a w A => by
 obtain ⟨b, q, rfl⟩ := hao
 have hw := gd_run (gd := none) A hg
 obtain ⟨d, op, ty, pos, af, gd⟩ := o
 simp only at hop
 subst hop
 have hvx := A.ev hx
 have hvy := A.ev hy
 unfold den at hvx hvy
 simp only [Option.some.injEq] at hvx hvy
 obtain ⟨f1, f2⟩ := slice_facts ht
 refine does_val (v := .slice (tlA (some ⟨b, q, none⟩) cp) (nn - 1) (cp - 1)) (w' := w) hw ?_ ⟨[], rfl, by simpa using A.ms⟩
 have hsb : (Instr.sliceBounds true nn cp (some (.int .i64 1)) none none).run P w = .ok (1, nn, cp) w := by
  simp [Instr.sliceBounds, run_sliceBound (P := P) w .i64 1 nn _ (by omega) (by omega)]
 unfold execOp
 simp only [← hvx, ← hvy, Option.map_some, Option.map_none, Instr.sliceAt, Instr.slice, Sem.run_bind, run_underlying f1, hsb, Result.andThen_ok, run_size f2, Sem.run_pure]
 by_cases hc : cp = 1 <;> simp [hc, tlA, Addr.add_mid]
end
section
variable {P : Program} {n : Nat} {ks : List Nat} {G0 : Gr} {w0 : World} {T : List (Nat × SV)} {H : Hp} {ops : Array Oper} {o : Oper}
theorem arrE {x y : Operand} {t e m s i q k : Nat} {cs : List SV} {p2 : Nat} (hop : o.op = .slice t x (some y) none none) (hg : guardS ops T o.guard = some .run) (hx : evS T x = some (.ptr i q)) (hy : evS T y = some (.int .i64 (k : Int))) (hb : H[i]? = some (some (.blk cs))) (ht : arrB P t m e s = true) (hk : k ≤ m) (h2 : (if m = k then q else q + k * s) = p2) :
  EffOK P n ops ks G0 w0 T H o (.sp (.ptr i p2) (m - k) (m - k)) H := fun G a w A => by
 subst h2
 have hw := gd_run (gd := none) A hg
 obtain ⟨d, op, ty, pos, af, gd⟩ := o
 simp only at hop
 subst hop
 have hvx := A.ev hx
 have hvy := A.ev hy
 obtain ⟨L, vs, hL, _, _⟩ := A.mem.ent i _ hb
 have hG : G[i]? = some (some L) := by
  cases hq : G[i]? with
  | none => rw [hq] at hL; cases hL
  | some p => rw [hq] at hL; simp at hL; rw [hL]
 unfold den at hvx hvy
 rw [hG] at hvx
 simp only [Option.some.injEq] at hvx hvy
 obtain ⟨hu, hsz⟩ := arr_facts ht
 refine does_val (v := .slice (some ⟨L.b, L.pre.length + (if m = k then q else q + k * s), none⟩) (m - k) (m - k)) (w' := w) hw ?_ ⟨[], ?_, by simpa using A.ms⟩
 ·have hsb : (Instr.sliceBounds false m m (some (.int .i64 (k : Int))) none none).run P w = .ok (k, m, m) w := by
   simp [Instr.sliceBounds, run_sliceBound (P := P) w .i64 (k : Int) m _ (by omega) (by omega)]
  unfold execOp
  simp only [← hvx, ← hvy, Option.map_some, Option.map_none, Instr.sliceAt, Sem.run_bind, run_underlying hu, Instr.sureAddr, Sem.run_pure, hsb, Result.andThen_ok, run_size hsz]
  by_cases hc : m = k
  ·simp [hc]
  ·simp [hc, Addr.add_mid, Nat.add_assoc]
 ·rw [List.append_nil]
  unfold den
  have : den G (.ptr i (if m = k then q else q + k * s)) = some (.pointer (some ⟨L.b, L.pre.length + (if m = k then q else q + k * s), none⟩)) := by unfold den; rw [hG]
  rw [this]; rfl
end
end Go.Proofs.YtjkppaijicjpoaaGreatDoor
namespace Go.Proofs.YtjkppaijicjpoaaGreatDoor
open Go.RowKit
set_option linter.unusedVariables false
set_option linter.unusedSimpArgs false
set_option maxRecDepth 100000
set_option maxHeartbeats 2000000
set_option simprocs false
def rowZ (r : Nat → Int) : Nat → Bool
 | 0 => ((r 0 == 0) && ((r 1 == 0) && ((r 2 == 0) && ((r 3 == 0) && ((r 4 == 0) && ((r 5 == 0) && ((r 6 == 0) && (r 7 == 0))))))))
 | 1 => ((r 8 == 0) && ((r 9 == 0) && ((r 10 == 0) && ((r 11 == 0) && ((r 12 == 0) && ((r 13 == 0) && ((r 14 == 0) && (r 15 == 0))))))))
 | _ => ((r 16 == 0) && ((r 17 == 0) && ((r 18 == 0) && ((r 19 == 0) && ((r 20 == 0) && ((r 21 == 0) && ((r 22 == 0) && (r 23 == 0))))))))
def setO (r : Nat → Int) (k : Nat) : Bool := (List.range (3 - k)).any fun j => !(rowZ r (k + j))
structure SoI (r : Nat → Int) (k j : Nat) : Prop where
 le : j ≤ 3 - k
 ok : ∀ q, q < j → rowZ r (k + q) = true
theorem SoI.i0 {r : Nat → Int} {k : Nat} : SoI r k 0 := ⟨Nat.zero_le _, fun q hq => by omega⟩
theorem SoI.nx {r : Nat → Int} {k j : Nat} (h : SoI r k j) (h1 : j < 3 - k) (h2 : (!(rowZ r (k + j))) = false) : SoI r k (j + 1) := ⟨by omega, fun q hq => by
 by_cases e : q = j
 ·subst e; cases hz : rowZ r (k + q) with
  | true => rfl
  | false => rw [hz] at h2; cases h2
 ·exact h.ok q (by omega)⟩
theorem SoI.good {r : Nat → Int} {k j : Nat} (h : SoI r k j) (h1 : ¬ j < 3 - k) : setO r k = false := by
 unfold setO
 rw [List.any_eq_false]
 intro q hq
 have := h.ok q (by have := List.mem_range.1 hq; omega)
 rw [this]; decide
theorem setO_bad {r : Nat → Int} {k j : Nat} (h1 : j < 3 - k) (h2 : (!(rowZ r (k + j))) = true) : setO r k = true := by
 unfold setO
 rw [List.any_eq_true]
 exact ⟨j, List.mem_range.2 h1, h2⟩
theorem setsO1 (ar : Int) (nm : List UInt8) (mi r : Nat → Int) (cs : List Cde) (cx : Nat) (qu : Int) (kd : List Cn) (ck : Nat) (hk : cs.length = 1) : Fn Tryz.prog 29 [.agg (tsQ9 ar nm mi r (.sl 0 cs.length cx) qu (.sl 1 kd.length ck))] [some (.lst 1 cs.length (fun zz => cdc (cs.getD zz Cde.z))), some (.lst 5 kd.length (fun zz => cc (kd.getD zz Cn.z)))] (Rt (.bool (setO r 1)) [some (.lst 1 cs.length (fun zz => cdc (cs.getD zz Cde.z))), some (.lst 5 kd.length (fun zz => cc (kd.getD zz Cn.z)))]) :=
 enterM (n := 19) (by kernel_rfl) Tryz.func29 rfl rfl rfl fun G w a h0 A => N9 13 A rfl rfl fun A => have A := sy_sayD A 8 (.int .i64 1) rfl (fun _ => by rw [hk]; rfl); q_eff A rfl (arrE (m := 3) (s := 8) (e := 23) (k := 1) rfl rfl rfl rfl rfl (by kernel_rfl) (by decide) rfl) fun A => N9 5 A rfl rfl fun A => LOOP1 (fun (j : Nat) => [(2, .ff), (9, .sp (.ptr 2 13) 2 2), (10, .int .i64 ((2 : Nat) : Int)), (11, .int .i64 (j : Int))]) (fun (j : Nat) => [some (.lst 1 cs.length (fun zz => cdc (cs.getD zz Cde.z))), some (.lst 5 kd.length (fun zz => cc (kd.getD zz Cn.z))), some (.blk (tsQ9 ar nm mi r (.sl 0 cs.length cx) qu (.sl 1 kd.length ck)))]) (fun (j : Nat) => SoI r 1 j) (fun (j : Nat) => 2 - j) 0 SoI.i0 ((A.cut [2, 9, 10, 11] rfl).trunc 3 rfl rfl rfl (by simp only [List.length_cons, List.length_nil] at h0; omega)) fun j hJ {G a w} A => N9 6 A rfl rfl fun A => forkD 12 A rfl
   (fun h1 A => N9 7 A rfl rfl fun A => Decidable.byCases (p := j = 0) (fun e0 => have A := A.say 11 (.int .i64 0) rfl (by rw [e0]; rfl); N9 1 A rfl (ok_d (by (try have := hJ.le); omega) <| okE_nil) fun A => have A := sy_sayD A 13 (.ptr 2 13) rfl (ix_ptr 0 rfl); N9 12 A rfl rfl fun A => fork 17 A rfl
     (fun h2 A => N9 7 A rfl rfl fun A => R9 A rfl h0 rfl (by rw [setO_bad (k := 1) (j := 0) (by decide) h2]; rfl) rfl)
     (fun h2 A => N9 8 A rfl (ok_d (by (try have := hJ.le); omega) <| okE_nil) fun A => ⟨j + 1, _, (by omega), (hJ.nx (by omega) (by rw [e0]; exact h2)), ((A.cut [2, 9, 10, 11] rfl).trunc 3 rfl rfl rfl (by simp only [List.length_cons, List.length_nil] at h0; omega)).sayT (by rw [e0]; rfl)⟩)) fun ne0 => (have e1 : j = 1 := (by omega); have A := A.say 11 (.int .i64 1) rfl (by rw [e1]; rfl); N9 1 A rfl (ok_d (by (try have := hJ.le); omega) <| okE_nil) fun A => have A := sy_sayD A 13 (.ptr 2 21) rfl (ix_ptr 1 rfl); N9 12 A rfl rfl fun A => fork 17 A rfl
     (fun h3 A => N9 7 A rfl rfl fun A => R9 A rfl h0 rfl (by rw [setO_bad (k := 1) (j := 1) (by decide) h3]; rfl) rfl)
     (fun h3 A => N9 8 A rfl (ok_d (by (try have := hJ.le); omega) <| okE_nil) fun A => ⟨j + 1, _, (by omega), (hJ.nx (by omega) (by rw [e1]; exact h3)), ((A.cut [2, 9, 10, 11] rfl).trunc 3 rfl rfl rfl (by simp only [List.length_cons, List.length_nil] at h0; omega)).sayT (by rw [e1]; rfl)⟩)))
   (fun h1 A => N9 9 A rfl rfl fun A => R9 A rfl h0 rfl (by rw [hJ.good (by omega)]; rfl) rfl)
theorem setsO2 (ar : Int) (nm : List UInt8) (mi r : Nat → Int) (cs : List Cde) (cx : Nat) (qu : Int) (kd : List Cn) (ck : Nat) (hk : cs.length = 2) : Fn Tryz.prog 29 [.agg (tsQ9 ar nm mi r (.sl 0 cs.length cx) qu (.sl 1 kd.length ck))] [some (.lst 1 cs.length (fun zz => cdc (cs.getD zz Cde.z))), some (.lst 5 kd.length (fun zz => cc (kd.getD zz Cn.z)))] (Rt (.bool (setO r 2)) [some (.lst 1 cs.length (fun zz => cdc (cs.getD zz Cde.z))), some (.lst 5 kd.length (fun zz => cc (kd.getD zz Cn.z)))]) :=
 enterM (n := 19) (by kernel_rfl) Tryz.func29 rfl rfl rfl fun G w a h0 A => N9 13 A rfl rfl fun A => have A := sy_sayD A 8 (.int .i64 2) rfl (fun _ => by rw [hk]; rfl); q_eff A rfl (arrE (m := 3) (s := 8) (e := 23) (k := 2) rfl rfl rfl rfl rfl (by kernel_rfl) (by decide) rfl) fun A => N9 5 A rfl rfl fun A => LOOP1 (fun (j : Nat) => [(2, .ff), (9, .sp (.ptr 2 21) 1 1), (10, .int .i64 ((1 : Nat) : Int)), (11, .int .i64 (j : Int))]) (fun (j : Nat) => [some (.lst 1 cs.length (fun zz => cdc (cs.getD zz Cde.z))), some (.lst 5 kd.length (fun zz => cc (kd.getD zz Cn.z))), some (.blk (tsQ9 ar nm mi r (.sl 0 cs.length cx) qu (.sl 1 kd.length ck)))]) (fun (j : Nat) => SoI r 2 j) (fun (j : Nat) => 1 - j) 0 SoI.i0 ((A.cut [2, 9, 10, 11] rfl).trunc 3 rfl rfl rfl (by simp only [List.length_cons, List.length_nil] at h0; omega)) fun j hJ {G a w} A => N9 6 A rfl rfl fun A => forkD 12 A rfl
   (fun h1 A => N9 7 A rfl rfl fun A => (have e0 : j = 0 := (by omega); have A := A.say 11 (.int .i64 0) rfl (by rw [e0]; rfl); N9 1 A rfl (ok_d (by (try have := hJ.le); omega) <| okE_nil) fun A => have A := sy_sayD A 13 (.ptr 2 21) rfl (ix_ptr 0 rfl); N9 12 A rfl rfl fun A => fork 17 A rfl
     (fun h2 A => N9 7 A rfl rfl fun A => R9 A rfl h0 rfl (by rw [setO_bad (k := 2) (j := 0) (by decide) h2]; rfl) rfl)
     (fun h2 A => N9 8 A rfl (ok_d (by (try have := hJ.le); omega) <| okE_nil) fun A => ⟨j + 1, _, (by omega), (hJ.nx (by omega) (by rw [e0]; exact h2)), ((A.cut [2, 9, 10, 11] rfl).trunc 3 rfl rfl rfl (by simp only [List.length_cons, List.length_nil] at h0; omega)).sayT (by rw [e0]; rfl)⟩)))
   (fun h1 A => N9 9 A rfl rfl fun A => R9 A rfl h0 rfl (by rw [hJ.good (by omega)]; rfl) rfl)
theorem setsO3 (ar : Int) (nm : List UInt8) (mi r : Nat → Int) (cs : List Cde) (cx : Nat) (qu : Int) (kd : List Cn) (ck : Nat) (hk : cs.length = 3) : Fn Tryz.prog 29 [.agg (tsQ9 ar nm mi r (.sl 0 cs.length cx) qu (.sl 1 kd.length ck))] [some (.lst 1 cs.length (fun zz => cdc (cs.getD zz Cde.z))), some (.lst 5 kd.length (fun zz => cc (kd.getD zz Cn.z)))] (Rt (.bool (setO r 3)) [some (.lst 1 cs.length (fun zz => cdc (cs.getD zz Cde.z))), some (.lst 5 kd.length (fun zz => cc (kd.getD zz Cn.z)))]) :=
 enterM (n := 19) (by kernel_rfl) Tryz.func29 rfl rfl rfl fun G w a h0 A => N9 13 A rfl rfl fun A => have A := sy_sayD A 8 (.int .i64 3) rfl (fun _ => by rw [hk]; rfl); q_eff A rfl (arrE (m := 3) (s := 8) (e := 23) (k := 3) rfl rfl rfl rfl rfl (by kernel_rfl) (by decide) rfl) fun A => N9 5 A rfl rfl fun A => LOOP1 (fun (j : Nat) => [(2, .ff), (9, .sp (.ptr 2 5) 0 0), (10, .int .i64 ((0 : Nat) : Int)), (11, .int .i64 (j : Int))]) (fun (j : Nat) => [some (.lst 1 cs.length (fun zz => cdc (cs.getD zz Cde.z))), some (.lst 5 kd.length (fun zz => cc (kd.getD zz Cn.z))), some (.blk (tsQ9 ar nm mi r (.sl 0 cs.length cx) qu (.sl 1 kd.length ck)))]) (fun (j : Nat) => SoI r 3 j) (fun (j : Nat) => 0 - j) 0 SoI.i0 ((A.cut [2, 9, 10, 11] rfl).trunc 3 rfl rfl rfl (by simp only [List.length_cons, List.length_nil] at h0; omega)) fun j hJ {G a w} A => N9 6 A rfl rfl fun A => forkD 12 A rfl
   (fun h1 A => N9 7 A rfl rfl fun A => absurd h1 (by omega))
   (fun h1 A => N9 9 A rfl rfl fun A => R9 A rfl h0 rfl (by rw [hJ.good (by omega)]; rfl) rfl)
theorem bel_ (p q : Int)  : Fn Tryz.prog 87 [.int .i64 p, .int .i64 q] [] (Rt (.bool ((decide (0 ≤ p)) && (decide (p < q)))) []) :=
 enterM (n := 12) (by kernel_rfl) Tryz.func87 rfl rfl rfl fun G w a h0 A => N9 18 A rfl rfl fun A => R9 A rfl h0 rfl rfl rfl
def nod0 (kd th rg lc vl : Int) : Bool := if kd = 1 then if ((decide (0 ≤ th)) && (decide (th < 3))) = true then ((decide (0 ≤ rg)) && (decide (rg < 8))) && (lc == 0) else false else if kd = 2 then (((decide (0 ≤ lc)) && (decide (lc < 3))) && (th == 0)) && (rg == 0) else if kd = 3 then ((kd == kd) && ((th == 0) && ((rg == 0) && ((lc == 0) && (vl == 0))))) else if kd = 4 then ((kd == kd) && ((th == 0) && ((rg == 0) && ((lc == 0) && (vl == 0))))) else if kd = 5 then ((kd == kd) && ((th == 0) && ((rg == 0) && ((lc == 0) && (vl == 0))))) else false
theorem nod_ (kd th rg lc vl : Int)  : Fn Tryz.prog 52 [.agg [.int .i64 kd, .int .i64 th, .int .i64 rg, .int .i64 lc, .int .i64 vl]] [] (Rt (.bool (nod0 kd th rg lc vl)) []) :=
 enterM (n := 44) (by kernel_rfl) Tryz.func52 rfl rfl rfl fun G w a h0 A => N9 20 A rfl rfl fun A => forkE 5 A rfl
  (fun h1 A => N9 5 A rfl rfl fun A => C9 [] (bel_ th 3) A rfl fun A => N9 1 A rfl rfl fun A => fork 10 A rfl
   (fun h2 A => N9 2 A rfl rfl fun A => C9 [] (bel_ rg 8) A rfl fun A => N9 10 A rfl rfl fun A => R9 A rfl h0 rfl (by simp only [oneS, nb, nbL, nbH, nod0, if_pos h1, if_pos h2]) rfl)
   (fun h2 A => N9 13 A rfl rfl fun A => R9 A rfl h0 rfl (by simp only [oneS, nb, nbL, nbH, nod0, if_pos h1, if_neg (ne_true_of_eq_false h2)]) rfl))
  (fun h1 A => N9 7 A rfl rfl fun A => forkE 20 A rfl
   (fun h3 A => N9 5 A rfl rfl fun A => C9 [] (bel_ lc 3) A rfl fun A => N9 14 A rfl rfl fun A => R9 A rfl h0 rfl (by simp only [oneS, nb, nbL, nbH, nod0, if_neg (h1), if_pos h3]) rfl)
   (fun h3 A => N9 8 A rfl rfl fun A => forkE 35 A rfl
    (fun h4 A => N9 15 A rfl rfl fun A => R9 A rfl h0 rfl (by simp only [oneS, nb, nbL, nbH, nod0, if_neg (h1), if_neg (h3), if_pos h4]) rfl)
    (fun h4 A => N9 7 A rfl rfl fun A => forkE 35 A rfl
     (fun h5 A => N9 15 A rfl rfl fun A => R9 A rfl h0 rfl (by simp only [oneS, nb, nbL, nbH, nod0, if_neg (h1), if_neg (h3), if_neg (h4), if_pos h5]) rfl)
     (fun h5 A => N9 6 A rfl rfl fun A => forkE 35 A rfl
      (fun h6 A => N9 12 A rfl rfl fun A => R9 A rfl h0 rfl (by simp only [oneS, nb, nbL, nbH, nod0, if_neg (h1), if_neg (h3), if_neg (h4), if_neg (h5), if_pos h6]) rfl)
      (fun h6 A => N9 10 A rfl rfl fun A => R9 A rfl h0 rfl (by simp only [oneS, nb, nbL, nbH, nod0, if_neg (h1), if_neg (h3), if_neg (h4), if_neg (h5), if_neg (h6)]) rfl)))))
def pts0 (kd : Int) : Int := if kd = 3 then 1 else if kd = 4 then 2 else if kd = 5 then 2 else 0
theorem pts_ (kd : Int)  : Fn Tryz.prog 53 [.int .i64 kd] [] (Rt (.int .i64 (pts0 kd)) []) :=
 enterM (n := 9) (by kernel_rfl) Tryz.func53 rfl rfl rfl fun G w a h0 A => N9 18 A rfl rfl fun A => forkE 4 A rfl
  (fun h1 A => N9 7 A rfl rfl fun A => R9 A rfl h0 rfl (by simp only [oneS, nb, nbL, nbH, pts0, if_pos h1]) rfl)
  (fun h1 A => N9 8 A rfl rfl fun A => forkE 6 A rfl
   (fun h2 A => N9 10 A rfl rfl fun A => R9 A rfl h0 rfl (by simp only [oneS, nb, nbL, nbH, pts0, if_neg (h1), if_pos h2]) rfl)
   (fun h2 A => N9 6 A rfl rfl fun A => forkE 6 A rfl
    (fun h3 A => N9 7 A rfl rfl fun A => R9 A rfl h0 rfl (by simp only [oneS, nb, nbL, nbH, pts0, if_neg (h1), if_neg (h2), if_pos h3]) rfl)
    (fun h3 A => N9 10 A rfl rfl fun A => R9 A rfl h0 rfl (by simp only [oneS, nb, nbL, nbH, pts0, if_neg (h1), if_neg (h2), if_neg (h3)]) rfl)))
def nodC (c : Cn) : Bool := nod0 c.k c.t c.r c.l c.v
def rgo : List Cn → Int → Bool
 | [], h => h == 1
 | c :: l, h => if nodC c = false ∨ h < pts0 c.k then false else rgo l (h + (1 - pts0 c.k))
def rgt (l : List Cn) : Bool := if ((l.length : Nat) : Int) > 32 then false else rgo l 0
theorem pts_rng (k : Int) : 0 ≤ pts0 k ∧ pts0 k ≤ 2 := by unfold pts0; split <;> (try split) <;> (try split) <;> omega
structure RgI (kd : List Cn) (i : Nat) (h : Int) : Prop where
 le : i ≤ kd.length
 h0 : 0 ≤ h
 h1 : h ≤ i
 eq : rgo kd 0 = rgo (kd.drop i) h
section
variable {kd : List Cn} {i : Nat} {h : Int}
theorem RgI.i0 : RgI kd 0 0 := ⟨Nat.zero_le _, by omega, by omega, by rw [List.drop_zero]⟩
theorem RgI.at (hI : RgI kd i h) (h1 : (i : Int) < ((kd.length : Nat) : Int)) : rgo kd 0 = if nodC (kd.getD ((i : Int)).toNat Cn.z) = false ∨ h < pts0 (kd.getD ((i : Int)).toNat Cn.z).k then false else rgo (kd.drop (i + 1)) (h + (1 - pts0 (kd.getD ((i : Int)).toNat Cn.z).k)) := by
 have hi : i < kd.length := by omega
 have e : (kd.getD ((i : Int)).toNat Cn.z) = kd[i] := by rw [Int.toNat_natCast, List.getD_eq_getElem?_getD, List.getElem?_eq_getElem hi]; rfl
 rw [hI.eq, List.drop_eq_getElem_cons hi, rgo, e]
theorem RgI.b1 (hI : RgI kd i h) (h1 : (i : Int) < ((kd.length : Nat) : Int)) (h2 : (!(nodC (kd.getD ((i : Int)).toNat Cn.z))) = true) : rgo kd 0 = false := by
 rw [hI.at h1, if_pos (.inl (by cases hq : nodC (kd.getD ((i : Int)).toNat Cn.z); rfl; rw [hq] at h2; cases h2))]
theorem RgI.b2 (hI : RgI kd i h) (h1 : (i : Int) < ((kd.length : Nat) : Int)) (h2 : h < pts0 (kd.getD ((i : Int)).toNat Cn.z).k) : rgo kd 0 = false := by rw [hI.at h1, if_pos (.inr h2)]
theorem RgI.nx (hI : RgI kd i h) (h1 : (i : Int) < ((kd.length : Nat) : Int)) (h2 : (!(nodC (kd.getD ((i : Int)).toNat Cn.z))) = false) (h3 : ¬ h < pts0 (kd.getD ((i : Int)).toNat Cn.z).k) : RgI kd (i + 1) (h + (1 - pts0 (kd.getD ((i : Int)).toNat Cn.z).k)) := by
 have hn : nodC (kd.getD ((i : Int)).toNat Cn.z) = true := by cases hq : nodC (kd.getD ((i : Int)).toNat Cn.z); (rw [hq] at h2; cases h2); rfl
 have hp := pts_rng (kd.getD ((i : Int)).toNat Cn.z).k
 have k0 := hI.h0; have k1 := hI.h1
 refine ⟨by omega, by omega, by omega, ?_⟩
 rw [hI.at h1, if_neg (by rintro (e | e); rw [hn] at e; cases e; exact h3 e)]
theorem RgI.fi (hI : RgI kd i h) (h1 : ¬ (i : Int) < ((kd.length : Nat) : Int)) : rgo kd 0 = (h == 1) := by
 rw [hI.eq, List.drop_eq_nil_of_le (by omega), rgo]
end
theorem cRight_ (kd : List Cn) (ck : Nat)  : Fn Tryz.prog 28 [.sl 0 kd.length ck] [some (.lst 5 kd.length (fun zz => cc (kd.getD zz Cn.z)))] (Rt (.bool (rgt kd)) [some (.lst 5 kd.length (fun zz => cc (kd.getD zz Cn.z)))]) :=
 enterM (n := 34) (by kernel_rfl) Tryz.func28 rfl rfl rfl fun G w a h0 A => N9 13 A rfl rfl fun A => forkD 8 A rfl
  (fun h1 A => N9 7 A rfl rfl fun A => R9 A rfl h0 rfl (by unfold rgt; rw [if_pos h1]; rfl) rfl)
  (fun h1 A => N9 17 A rfl rfl fun A => LOOP2 (fun (i : Nat) (h : Int) => [(2, .ff), (3, .int .i64 h), (9, .sl 0 kd.length ck), (10, .int .i64 ((kd.length : Nat) : Int)), (11, .int .i64 (i : Int))]) (fun (i : Nat) (h : Int) => [some (.lst 5 kd.length (fun zz => cc (kd.getD zz Cn.z)))]) (fun (i : Nat) (h : Int) => RgI kd i h) (fun (i : Nat) (h : Int) => kd.length - i) 0 0 RgI.i0 ((A.cut [2, 3, 9, 10, 11] rfl).trunc 1 rfl rfl rfl (by simp only [List.length_cons, List.length_nil] at h0; omega)) fun i h hJ {G a w} A => N9 6 A rfl rfl fun A => forkD 12 A rfl
    (fun h2 A => N9 15 A rfl (ok_d (by (try have hp := pts_rng (kd.getD ((i : Int)).toNat Cn.z).k); (try have := hJ.le); (try have := hJ.h0); (try have := hJ.h1); omega) <| ok_d (by (try have hp := pts_rng (kd.getD ((i : Int)).toNat Cn.z).k); (try have := hJ.le); (try have := hJ.h0); (try have := hJ.h1); omega) <| okE_nil) fun A => N9 2 A rfl rfl fun A => C9 [] (nod_ (kd.getD (((i : Int)).toNat) Cn.z).k (kd.getD (((i : Int)).toNat) Cn.z).t (kd.getD (((i : Int)).toNat) Cn.z).r (kd.getD (((i : Int)).toNat) Cn.z).l (kd.getD (((i : Int)).toNat) Cn.z).v) A rfl fun A => N9 2 A rfl rfl fun A => fork 18 A rfl
     (fun h3 A => N9 15 A rfl rfl fun A => R9 A rfl h0 rfl (by unfold rgt; rw [if_neg h1, hJ.b1 h2 h3]; rfl) rfl)
     (fun h3 A => N9 3 A rfl rfl fun A => C9 [] (pts_ ((kd.getD (((i : Int)).toNat) Cn.z).k)) A rfl fun A => N9 4 A rfl rfl fun A => forkD 24 A rfl
      (fun h4 A => N9 7 A rfl rfl fun A => R9 A rfl h0 rfl (by unfold rgt; rw [if_neg h1, hJ.b2 h2 h4]; rfl) rfl)
      (fun h4 A => N9 7 A rfl rfl fun A => C9 [] (pts_ ((kd.getD (((i : Int)).toNat) Cn.z).k)) A rfl fun A => N9 6 A rfl (ok_d (by (try have hp := pts_rng (kd.getD ((i : Int)).toNat Cn.z).k); (try have := hJ.le); (try have := hJ.h0); (try have := hJ.h1); omega) <| ok_d (by (try have hp := pts_rng (kd.getD ((i : Int)).toNat Cn.z).k); (try have := hJ.le); (try have := hJ.h0); (try have := hJ.h1); omega) <| okE_nil) fun A => N9 4 A rfl (ok_d (by (try have hp := pts_rng (kd.getD ((i : Int)).toNat Cn.z).k); (try have := hJ.le); (try have := hJ.h0); (try have := hJ.h1); omega) <| okE_nil) fun A => ⟨i + 1, h + (1 - pts0 (kd.getD ((i : Int)).toNat Cn.z).k), _, (by omega), (hJ.nx h2 h3 h4), ((A.cut [2, 3, 9, 10, 11] rfl).trunc 1 rfl rfl rfl (by simp only [List.length_cons, List.length_nil] at h0; omega))⟩)))
    (fun h2 A => N9 11 A rfl rfl fun A => R9 A rfl h0 rfl (by unfold rgt; rw [if_neg h1, hJ.fi h2]; rfl) rfl))
theorem setsOA (ar : Int) (nm : List UInt8) (mi r : Nat → Int) (cs : List Cde) (cx : Nat) (qu : Int) (kd : List Cn) (ck : Nat) (h : 1 ≤ cs.length ∧ cs.length ≤ 3) : Fn Tryz.prog 29 [.agg (tsQ9 ar nm mi r (.sl 0 cs.length cx) qu (.sl 1 kd.length ck))] [some (.lst 1 cs.length (fun zz => cdc (cs.getD zz Cde.z))), some (.lst 5 kd.length (fun zz => cc (kd.getD zz Cn.z)))] (Rt (.bool (setO r cs.length)) [some (.lst 1 cs.length (fun zz => cdc (cs.getD zz Cde.z))), some (.lst 5 kd.length (fun zz => cc (kd.getD zz Cn.z)))]) := by
 have e : cs.length = 1 ∨ cs.length = 2 ∨ cs.length = 3 := by omega
 rcases e with e | e | e
 ·have := setsO1 ar nm mi r cs cx qu kd ck e
  rw [show setO r cs.length = setO r 1 by rw [e]]
  exact this
 ·have := setsO2 ar nm mi r cs cx qu kd ck e
  rw [show setO r cs.length = setO r 2 by rw [e]]
  exact this
 ·have := setsO3 ar nm mi r cs cx qu kd ck e
  rw [show setO r cs.length = setO r 3 by rw [e]]
  exact this
theorem ck_len {cs : List Cde} (h : ckE cs = 0) : 1 ≤ cs.length ∧ cs.length ≤ 3 := by
 unfold ckE at h
 split at h
 ·cases h
 ·next hh => simp only [Bool.or_eq_true, decide_eq_true_eq] at hh; omega
def litC (pe : In → Int) (nm : List UInt8) (cs : List Cde) (qu : Int) (kd : List Cn) (r : Nat → Int) : Int :=
 if (nm.length : Int) > 16 then 40 else if oneN nm = false then 40 else if ckE cs ≠ 0 then ckE cs else if prAll pe cs = false then 36 else
 if quan0 qu = [] then 22 else if rgt kd = false then 22 else if setO r cs.length = true then 1 else 0
theorem litCheck1 (nm : List UInt8) (mi r : Nat → Int) (cs : List Cde) (cx : Nat) (qu : Int) (kd : List Cn) (ck : Nat) (os : List (Nat × Obj)) (hM : ∀ w ks, Gl os w ks → ∃ m, w.cell? ⟨1, 0, none⟩ = some (.int .i64 m)) (hT : ∀ w ks, Gl os w ks → Lib.TabIs Tryz.prog w "internal/strconv.uint64pow10" .u64 Lib.pow10Tab) (hE : ∀ w ks, Gl os w ks → ∃ ev, w.cell? ⟨4, 0, none⟩ = some ev ∧ (ev = .nilIface ∨ ∃ te pe, ev = .iface te pe)) (hs : ∀ c ∈ cs, c.l.length ≤ 9223372036854775807) (hR : ∀ c ∈ cs, ∀ i ∈ c.l, okI i) (hn : cs.length ≤ 9223372036854775807) : FnI (GC os cs) Tryz.prog 7 [.agg (tsQ9 1 nm mi r (.sl 0 cs.length cx) qu (.sl 1 kd.length ck))] [some (.lst 1 cs.length (fun zz => cdc (cs.getD zz Cde.z))), some (.lst 5 kd.length (fun zz => cc (kd.getD zz Cn.z)))] (Rt (.int .i64 (litC (fun i => (fun (i : In) (lb : List UInt8) => (prP x86G x86C i lb).2) i (labL i.to_)) nm cs qu kd r)) [some (.lst 1 cs.length (fun zz => cdc (cs.getD zz Cde.z))), some (.lst 5 kd.length (fun zz => cc (kd.getD zz Cn.z)))]) :=
 enterI (n := 53) (by kernel_rfl) Tryz.func7 rfl rfl rfl fun G w a h0 hI A => N9 10 A rfl rfl fun A => C9 [] langOf1 A rfl fun A => N9 26 A rfl rfl fun A => forkD 20 A rfl
  (fun h1 A => N9 14 A rfl rfl fun A => R9 A rfl h0 rfl (by unfold litC; rw [if_pos h1]; rfl) rfl)
  (fun h1 A => N9 2 A rfl rfl fun A => I9 [] GC.ok hI (FnI.mono (isName_ nm os hM hE) fun _ _ q => q.1) A rfl fun A => N9 4 A rfl rfl fun A => fork 25 A rfl
   (fun h2 A => N9 7 A rfl rfl fun A => R9 A rfl h0 rfl (by unfold litC; rw [if_neg h1]; rw [if_pos (by revert h2; cases oneN nm <;> simp)]; rfl) rfl)
   (fun h2 A => N9 8 A rfl rfl fun A => I9 [0] GC.ok hI (FnI.mono (uCheck_ cs cx hs (fun h8 h3 => ucc_ cs cx (fun c hc => Nat.le_trans (bad1_le h8 c hc) (by decide)) (by omega))) fun _ _ q => q.2) A rfl fun A => N9 15 A rfl rfl fun A => forkN 34 A rfl
    (fun h3 A => N9 8 A rfl rfl fun A => R9 A rfl h0 rfl (by unfold litC; rw [if_neg h1]; rw [if_neg (by revert h2; cases oneN nm <;> simp)]; rw [if_pos h3]; rfl) rfl)
    (fun h3 A => N9 9 A rfl rfl fun A => I9 [0] GC.ok hI (printsAll_ cs cx [88, 56, 54] 70 71 72 (fun i lb => (prP x86G x86C i lb).1) (fun i lb => (prP x86G x86C i lb).2) os hM hT hE (fun i lb hi hl => xprint_ i lb os hM hT hE (fun L hL => x86_prok hi hl hL)) hs hn hR) A rfl fun A => N9 3 A rfl rfl fun A => fork 40 A rfl
     (fun h4 A => N9 7 A rfl rfl fun A => R9 A rfl h0 rfl (by unfold litC; rw [if_neg h1]; rw [if_neg (by revert h2; cases oneN nm <;> simp)]; rw [if_neg (not_not_intro h3)]; rw [if_pos (by revert h4; cases prAll _ cs <;> simp)]; rfl) rfl)
     (fun h4 A => N9 8 A rfl rfl fun A => C9 [] (quan_ qu) A rfl fun A => N9 2 A rfl rfl fun A => forkE 45 A rfl
      (fun h5 A => N9 14 A rfl rfl fun A => R9 A rfl h0 rfl (by unfold litC; rw [if_neg h1]; rw [if_neg (by revert h2; cases oneN nm <;> simp)]; rw [if_neg (not_not_intro h3)]; rw [if_neg (by revert h4; cases prAll _ cs <;> simp)]; rw [if_pos h5]; rfl) rfl)
      (fun h5 A => N9 2 A rfl rfl fun A => C9 [1] (cRight_ kd ck) A rfl fun A => N9 4 A rfl rfl fun A => fork 50 A rfl
       (fun h6 A => N9 7 A rfl rfl fun A => R9 A rfl h0 rfl (by unfold litC; rw [if_neg h1]; rw [if_neg (by revert h2; cases oneN nm <;> simp)]; rw [if_neg (not_not_intro h3)]; rw [if_neg (by revert h4; cases prAll _ cs <;> simp)]; rw [if_neg h5]; rw [if_pos (by revert h6; cases rgt kd <;> simp)]; rfl) rfl)
       (fun h6 A => N9 7 A rfl rfl fun A => C9 [0, 1] (setsOA 1 nm mi r cs cx qu kd ck (ck_len h3)) A rfl fun A => N9 2 A rfl rfl fun A => fork 52 A rfl
        (fun h7 A => N9 7 A rfl rfl fun A => R9 A rfl h0 rfl (by unfold litC; rw [if_neg h1]; rw [if_neg (by revert h2; cases oneN nm <;> simp)]; rw [if_neg (not_not_intro h3)]; rw [if_neg (by revert h4; cases prAll _ cs <;> simp)]; rw [if_neg h5]; rw [if_neg (by revert h6; cases rgt kd <;> simp)]; rw [if_pos h7]; rfl) rfl)
        (fun h7 A => N9 9 A rfl rfl fun A => R9 A rfl h0 rfl (by unfold litC; rw [if_neg h1]; rw [if_neg (by revert h2; cases oneN nm <;> simp)]; rw [if_neg (not_not_intro h3)]; rw [if_neg (by revert h4; cases prAll _ cs <;> simp)]; rw [if_neg h5]; rw [if_neg (by revert h6; cases rgt kd <;> simp)]; rw [if_neg (by rw [h7]; decide)]; rfl) rfl)))))))
theorem litCheck2 (nm : List UInt8) (mi r : Nat → Int) (cs : List Cde) (cx : Nat) (qu : Int) (kd : List Cn) (ck : Nat) (os : List (Nat × Obj)) (hM : ∀ w ks, Gl os w ks → ∃ m, w.cell? ⟨1, 0, none⟩ = some (.int .i64 m)) (hT : ∀ w ks, Gl os w ks → Lib.TabIs Tryz.prog w "internal/strconv.uint64pow10" .u64 Lib.pow10Tab) (hE : ∀ w ks, Gl os w ks → ∃ ev, w.cell? ⟨4, 0, none⟩ = some ev ∧ (ev = .nilIface ∨ ∃ te pe, ev = .iface te pe)) (hs : ∀ c ∈ cs, c.l.length ≤ 9223372036854775807) (hR : ∀ c ∈ cs, ∀ i ∈ c.l, okI i) (hn : cs.length ≤ 9223372036854775807) : FnI (GC os cs) Tryz.prog 7 [.agg (tsQ9 2 nm mi r (.sl 0 cs.length cx) qu (.sl 1 kd.length ck))] [some (.lst 1 cs.length (fun zz => cdc (cs.getD zz Cde.z))), some (.lst 5 kd.length (fun zz => cc (kd.getD zz Cn.z)))] (Rt (.int .i64 (litC (fun i => (fun (i : In) (lb : List UInt8) => (prP riscvG riscvC i lb).2) i (labL i.to_)) nm cs qu kd r)) [some (.lst 1 cs.length (fun zz => cdc (cs.getD zz Cde.z))), some (.lst 5 kd.length (fun zz => cc (kd.getD zz Cn.z)))]) :=
 enterI (n := 53) (by kernel_rfl) Tryz.func7 rfl rfl rfl fun G w a h0 hI A => N9 10 A rfl rfl fun A => C9 [] langOf2 A rfl fun A => N9 26 A rfl rfl fun A => forkD 20 A rfl
  (fun h1 A => N9 14 A rfl rfl fun A => R9 A rfl h0 rfl (by unfold litC; rw [if_pos h1]; rfl) rfl)
  (fun h1 A => N9 2 A rfl rfl fun A => I9 [] GC.ok hI (FnI.mono (isName_ nm os hM hE) fun _ _ q => q.1) A rfl fun A => N9 4 A rfl rfl fun A => fork 25 A rfl
   (fun h2 A => N9 7 A rfl rfl fun A => R9 A rfl h0 rfl (by unfold litC; rw [if_neg h1]; rw [if_pos (by revert h2; cases oneN nm <;> simp)]; rfl) rfl)
   (fun h2 A => N9 8 A rfl rfl fun A => I9 [0] GC.ok hI (FnI.mono (uCheck_ cs cx hs (fun h8 h3 => ucc_ cs cx (fun c hc => Nat.le_trans (bad1_le h8 c hc) (by decide)) (by omega))) fun _ _ q => q.2) A rfl fun A => N9 15 A rfl rfl fun A => forkN 34 A rfl
    (fun h3 A => N9 8 A rfl rfl fun A => R9 A rfl h0 rfl (by unfold litC; rw [if_neg h1]; rw [if_neg (by revert h2; cases oneN nm <;> simp)]; rw [if_pos h3]; rfl) rfl)
    (fun h3 A => N9 9 A rfl rfl fun A => I9 [0] GC.ok hI (printsAll_ cs cx [82, 73, 83, 67, 86] 73 74 75 (fun i lb => (prP riscvG riscvC i lb).1) (fun i lb => (prP riscvG riscvC i lb).2) os hM hT hE (fun i lb hi hl => vprint_ i lb os hM hT hE (fun L hL => riscv_prok hi hl hL)) hs hn hR) A rfl fun A => N9 3 A rfl rfl fun A => fork 40 A rfl
     (fun h4 A => N9 7 A rfl rfl fun A => R9 A rfl h0 rfl (by unfold litC; rw [if_neg h1]; rw [if_neg (by revert h2; cases oneN nm <;> simp)]; rw [if_neg (not_not_intro h3)]; rw [if_pos (by revert h4; cases prAll _ cs <;> simp)]; rfl) rfl)
     (fun h4 A => N9 8 A rfl rfl fun A => C9 [] (quan_ qu) A rfl fun A => N9 2 A rfl rfl fun A => forkE 45 A rfl
      (fun h5 A => N9 14 A rfl rfl fun A => R9 A rfl h0 rfl (by unfold litC; rw [if_neg h1]; rw [if_neg (by revert h2; cases oneN nm <;> simp)]; rw [if_neg (not_not_intro h3)]; rw [if_neg (by revert h4; cases prAll _ cs <;> simp)]; rw [if_pos h5]; rfl) rfl)
      (fun h5 A => N9 2 A rfl rfl fun A => C9 [1] (cRight_ kd ck) A rfl fun A => N9 4 A rfl rfl fun A => fork 50 A rfl
       (fun h6 A => N9 7 A rfl rfl fun A => R9 A rfl h0 rfl (by unfold litC; rw [if_neg h1]; rw [if_neg (by revert h2; cases oneN nm <;> simp)]; rw [if_neg (not_not_intro h3)]; rw [if_neg (by revert h4; cases prAll _ cs <;> simp)]; rw [if_neg h5]; rw [if_pos (by revert h6; cases rgt kd <;> simp)]; rfl) rfl)
       (fun h6 A => N9 7 A rfl rfl fun A => C9 [0, 1] (setsOA 2 nm mi r cs cx qu kd ck (ck_len h3)) A rfl fun A => N9 2 A rfl rfl fun A => fork 52 A rfl
        (fun h7 A => N9 7 A rfl rfl fun A => R9 A rfl h0 rfl (by unfold litC; rw [if_neg h1]; rw [if_neg (by revert h2; cases oneN nm <;> simp)]; rw [if_neg (not_not_intro h3)]; rw [if_neg (by revert h4; cases prAll _ cs <;> simp)]; rw [if_neg h5]; rw [if_neg (by revert h6; cases rgt kd <;> simp)]; rw [if_pos h7]; rfl) rfl)
        (fun h7 A => N9 9 A rfl rfl fun A => R9 A rfl h0 rfl (by unfold litC; rw [if_neg h1]; rw [if_neg (by revert h2; cases oneN nm <;> simp)]; rw [if_neg (not_not_intro h3)]; rw [if_neg (by revert h4; cases prAll _ cs <;> simp)]; rw [if_neg h5]; rw [if_neg (by revert h6; cases rgt kd <;> simp)]; rw [if_neg (by rw [h7]; decide)]; rfl) rfl)))))))
theorem litCheck3 (nm : List UInt8) (mi r : Nat → Int) (cs : List Cde) (cx : Nat) (qu : Int) (kd : List Cn) (ck : Nat) (os : List (Nat × Obj)) (hM : ∀ w ks, Gl os w ks → ∃ m, w.cell? ⟨1, 0, none⟩ = some (.int .i64 m)) (hT : ∀ w ks, Gl os w ks → Lib.TabIs Tryz.prog w "internal/strconv.uint64pow10" .u64 Lib.pow10Tab) (hE : ∀ w ks, Gl os w ks → ∃ ev, w.cell? ⟨4, 0, none⟩ = some ev ∧ (ev = .nilIface ∨ ∃ te pe, ev = .iface te pe)) (hs : ∀ c ∈ cs, c.l.length ≤ 9223372036854775807) (hR : ∀ c ∈ cs, ∀ i ∈ c.l, okI i) (hn : cs.length ≤ 9223372036854775807) : FnI (GC os cs) Tryz.prog 7 [.agg (tsQ9 3 nm mi r (.sl 0 cs.length cx) qu (.sl 1 kd.length ck))] [some (.lst 1 cs.length (fun zz => cdc (cs.getD zz Cde.z))), some (.lst 5 kd.length (fun zz => cc (kd.getD zz Cn.z)))] (Rt (.int .i64 (litC (fun i => (fun (i : In) (lb : List UInt8) => (prP Ar.armG Ar.armC i lb).2) i (labL i.to_)) nm cs qu kd r)) [some (.lst 1 cs.length (fun zz => cdc (cs.getD zz Cde.z))), some (.lst 5 kd.length (fun zz => cc (kd.getD zz Cn.z)))]) :=
 enterI (n := 53) (by kernel_rfl) Tryz.func7 rfl rfl rfl fun G w a h0 hI A => N9 10 A rfl rfl fun A => C9 [] langOf3 A rfl fun A => N9 26 A rfl rfl fun A => forkD 20 A rfl
  (fun h1 A => N9 14 A rfl rfl fun A => R9 A rfl h0 rfl (by unfold litC; rw [if_pos h1]; rfl) rfl)
  (fun h1 A => N9 2 A rfl rfl fun A => I9 [] GC.ok hI (FnI.mono (isName_ nm os hM hE) fun _ _ q => q.1) A rfl fun A => N9 4 A rfl rfl fun A => fork 25 A rfl
   (fun h2 A => N9 7 A rfl rfl fun A => R9 A rfl h0 rfl (by unfold litC; rw [if_neg h1]; rw [if_pos (by revert h2; cases oneN nm <;> simp)]; rfl) rfl)
   (fun h2 A => N9 8 A rfl rfl fun A => I9 [0] GC.ok hI (FnI.mono (uCheck_ cs cx hs (fun h8 h3 => ucc_ cs cx (fun c hc => Nat.le_trans (bad1_le h8 c hc) (by decide)) (by omega))) fun _ _ q => q.2) A rfl fun A => N9 15 A rfl rfl fun A => forkN 34 A rfl
    (fun h3 A => N9 8 A rfl rfl fun A => R9 A rfl h0 rfl (by unfold litC; rw [if_neg h1]; rw [if_neg (by revert h2; cases oneN nm <;> simp)]; rw [if_pos h3]; rfl) rfl)
    (fun h3 A => N9 9 A rfl rfl fun A => I9 [0] GC.ok hI (printsAll_ cs cx [65, 82, 77] 76 77 78 (fun i lb => (prP Ar.armG Ar.armC i lb).1) (fun i lb => (prP Ar.armG Ar.armC i lb).2) os hM hT hE (fun i lb hi hl => Ar.aprint_ i lb os hM hT hE (fun L hL => Ar.arm_prok hi hl hL)) hs hn hR) A rfl fun A => N9 3 A rfl rfl fun A => fork 40 A rfl
     (fun h4 A => N9 7 A rfl rfl fun A => R9 A rfl h0 rfl (by unfold litC; rw [if_neg h1]; rw [if_neg (by revert h2; cases oneN nm <;> simp)]; rw [if_neg (not_not_intro h3)]; rw [if_pos (by revert h4; cases prAll _ cs <;> simp)]; rfl) rfl)
     (fun h4 A => N9 8 A rfl rfl fun A => C9 [] (quan_ qu) A rfl fun A => N9 2 A rfl rfl fun A => forkE 45 A rfl
      (fun h5 A => N9 14 A rfl rfl fun A => R9 A rfl h0 rfl (by unfold litC; rw [if_neg h1]; rw [if_neg (by revert h2; cases oneN nm <;> simp)]; rw [if_neg (not_not_intro h3)]; rw [if_neg (by revert h4; cases prAll _ cs <;> simp)]; rw [if_pos h5]; rfl) rfl)
      (fun h5 A => N9 2 A rfl rfl fun A => C9 [1] (cRight_ kd ck) A rfl fun A => N9 4 A rfl rfl fun A => fork 50 A rfl
       (fun h6 A => N9 7 A rfl rfl fun A => R9 A rfl h0 rfl (by unfold litC; rw [if_neg h1]; rw [if_neg (by revert h2; cases oneN nm <;> simp)]; rw [if_neg (not_not_intro h3)]; rw [if_neg (by revert h4; cases prAll _ cs <;> simp)]; rw [if_neg h5]; rw [if_pos (by revert h6; cases rgt kd <;> simp)]; rfl) rfl)
       (fun h6 A => N9 7 A rfl rfl fun A => C9 [0, 1] (setsOA 3 nm mi r cs cx qu kd ck (ck_len h3)) A rfl fun A => N9 2 A rfl rfl fun A => fork 52 A rfl
        (fun h7 A => N9 7 A rfl rfl fun A => R9 A rfl h0 rfl (by unfold litC; rw [if_neg h1]; rw [if_neg (by revert h2; cases oneN nm <;> simp)]; rw [if_neg (not_not_intro h3)]; rw [if_neg (by revert h4; cases prAll _ cs <;> simp)]; rw [if_neg h5]; rw [if_neg (by revert h6; cases rgt kd <;> simp)]; rw [if_pos h7]; rfl) rfl)
        (fun h7 A => N9 9 A rfl rfl fun A => R9 A rfl h0 rfl (by unfold litC; rw [if_neg h1]; rw [if_neg (by revert h2; cases oneN nm <;> simp)]; rw [if_neg (not_not_intro h3)]; rw [if_neg (by revert h4; cases prAll _ cs <;> simp)]; rw [if_neg h5]; rw [if_neg (by revert h6; cases rgt kd <;> simp)]; rw [if_neg (by rw [h7]; decide)]; rfl) rfl)))))))
theorem litCheck0 (ar : Int) (nm : List UInt8) (mi r : Nat → Int) (cs : List Cde) (cx : Nat) (qu : Int) (kd : List Cn) (ck : Nat) (ha : ¬ (1 ≤ ar ∧ ar ≤ 3)) : Fn Tryz.prog 7 [.agg (tsQ9 ar nm mi r (.sl 0 cs.length cx) qu (.sl 1 kd.length ck))] [some (.lst 1 cs.length (fun zz => cdc (cs.getD zz Cde.z))), some (.lst 5 kd.length (fun zz => cc (kd.getD zz Cn.z)))] (Rt (.int .i64 36) [some (.lst 1 cs.length (fun zz => cdc (cs.getD zz Cde.z))), some (.lst 5 kd.length (fun zz => cc (kd.getD zz Cn.z)))]) :=
 enterM (n := 53) (by kernel_rfl) Tryz.func7 rfl rfl rfl fun G w a h0 A => N9 10 A rfl rfl fun A => C9 [] (langOf0 ar ha) A rfl fun A => N9 10 A rfl rfl fun A => N9 12 A rfl rfl fun A => R9 A rfl h0 rfl rfl rfl
end Go.Proofs.YtjkppaijicjpoaaGreatDoor
namespace Go.Proofs.YtjkppaijicjpoaaGreatDoor
set_option linter.unusedSimpArgs false
set_option linter.unusedVariables false
set_option maxRecDepth 100000
open Go.ChangeShapes Go.WideShapes Go.ChangeAt Go.RowKit Go.Deep
theorem wf_rng {n : Int} (h : (Lit.int .i64 n).wf = true) : -9223372036854775808 ≤ n ∧ n ≤ 9223372036854775807 := by
 have h' : (decide ((IntKind.i64).min ≤ n) && decide (n ≤ (IntKind.i64).max)) = true := h
 rw [Bool.and_eq_true, decide_eq_true_eq, decide_eq_true_eq, show (IntKind.i64).min = -9223372036854775808 from rfl, show (IntKind.i64).max = 9223372036854775807 from rfl] at h'
 exact h'
def insC (i : In) : Array Value := #[.int .i64 i.op, .int .i64 i.dst, .int .i64 i.ra, .int .i64 i.rb, .int .i64 i.imm, .int .i64 i.loc, .int .i64 i.off, .int .i64 i.ix, .int .i64 i.sz, .int .i64 i.fn, .bool i.acq, .bool i.weak, .bool i.rel, .int .i64 i.pred, .int .i64 i.succ, .int .i64 i.to_, .bool i.zero]
def inE (i : In) : List Value := (insC i).toList
def insT (k : Nat) : Nat := if k == 10 || k == 11 || k == 12 || k == 16 then 4 else 3
def insFs (P : Program) : Option (Array Field) := match P.underlying 56 with | some (.struct fs) => some fs | _ => none
def insFB (P : Program) : Bool := match insFs P with | some fs => (List.range 17).all (fun k => match fs[k]? with | some f => f.offset == k && f.type == insT k | none => false) | none => false
theorem insFB_true : insFB Tryz.prog = true := by kernel_rfl
theorem ins_fields : ∃ fs : Array Field, Tryz.prog.underlying 56 = some (.struct fs) ∧ ∀ k, k < 17 → ∃ f, fs[k]? = some f ∧ f.offset = k ∧ f.type = insT k := by
 have h := insFB_true
 unfold insFB at h
 cases hq : insFs Tryz.prog with
 | none => simp [hq] at h
 | some fs =>
  rw [hq] at h
  refine ⟨fs, ?_, fun k hk => ?_⟩
  ·unfold insFs at hq
   split at hq
   ·rename_i fs' he; rw [he]; cases hq; rfl
   ·cases hq
  ·have h1 := List.all_eq_true.1 h k (List.mem_range.2 hk)
   cases hf : fs[k]? with
   | none => simp [hf] at h1
   | some f => rw [hf] at h1; simp only [Bool.and_eq_true, beq_iff_eq] at h1; exact ⟨f, rfl, h1.1, h1.2⟩
theorem int_cells : Tryz.prog.cellsOf 3 = 1 := by kernel_rfl
theorem bool_cells : Tryz.prog.cellsOf 4 = 1 := by kernel_rfl
theorem take_one {l : List Value} {k : Nat} {v : Value} (h : (l.drop k).take 1 = [v]) : l[k]? = some v := by
 have := congrArg (fun l => l[0]?) h
 simpa using this
section
variable {H : Type} {enc : TypeId × Value → H} {W : World} {base : Nat} {spare : Nat → Bool} {held : Bool} {base' : Nat}
theorem open_inL (cs : List Value) (n : Nat) (x : DataW H × List MemPlace) (h : DataW.trod enc Tryz.prog W base' spare held n 56 cs = some x) (hl : cs.length = 17) : ∃ i : In, cs = inE i ∧ okI i := by
 obtain ⟨fs, hu, hfs⟩ := ins_fields
 obtain ⟨xs, n, _, _, _, hlen, hx⟩ := DataW.trod_struct hu h
 have int : ∀ k, k < 17 → insT k = 3 → ∃ m : Int, cs[k]? = some (.int .i64 m) ∧ -9223372036854775808 ≤ m ∧ m ≤ 9223372036854775807 := fun k hk ht => by
  obtain ⟨f, hf1, ho, hty⟩ := hfs k hk
  have h1 := hx k f hf1
  have hl := (Array.getElem?_eq_some_iff.1 hf1).1
  rw [ho, hty, ht, int_cells, List.getElem?_eq_getElem (by omega)] at h1
  obtain ⟨m, h2, _, h3⟩ := DataW.trod_int Tryz.underlying3 h1
  exact ⟨m, take_one h2, wf_rng h3⟩
 have bool : ∀ k, k < 17 → insT k = 4 → ∃ b : Bool, cs[k]? = some (.bool b) := fun k hk ht => by
  obtain ⟨f, hf1, ho, hty⟩ := hfs k hk
  have h1 := hx k f hf1
  have hl := (Array.getElem?_eq_some_iff.1 hf1).1
  rw [ho, hty, ht, bool_cells, List.getElem?_eq_getElem (by omega)] at h1
  obtain ⟨m, h2, _⟩ := DataW.trod_bool Tryz.underlying4 h1
  exact ⟨m, take_one h2⟩
 obtain ⟨c0, h0, w0⟩ := int 0 (by decide) rfl
 obtain ⟨c1, h1, w1⟩ := int 1 (by decide) rfl
 obtain ⟨c2, h2, w2⟩ := int 2 (by decide) rfl
 obtain ⟨c3, h3, w3⟩ := int 3 (by decide) rfl
 obtain ⟨c4, h4, w4⟩ := int 4 (by decide) rfl
 obtain ⟨c5, h5, w5⟩ := int 5 (by decide) rfl
 obtain ⟨c6, h6, w6⟩ := int 6 (by decide) rfl
 obtain ⟨c7, h7, w7⟩ := int 7 (by decide) rfl
 obtain ⟨c8, h8, w8⟩ := int 8 (by decide) rfl
 obtain ⟨c9, h9, w9⟩ := int 9 (by decide) rfl
 obtain ⟨c10, h10⟩ := bool 10 (by decide) rfl
 obtain ⟨c11, h11⟩ := bool 11 (by decide) rfl
 obtain ⟨c12, h12⟩ := bool 12 (by decide) rfl
 obtain ⟨c13, h13, w13⟩ := int 13 (by decide) rfl
 obtain ⟨c14, h14, w14⟩ := int 14 (by decide) rfl
 obtain ⟨c15, h15, w15⟩ := int 15 (by decide) rfl
 obtain ⟨c16, h16⟩ := bool 16 (by decide) rfl
 refine ⟨⟨c0, c1, c2, c3, c4, c5, c6, c7, c8, c9, c10, c11, c12, c13, c14, c15, c16⟩, ?_, ⟨w4, w6⟩, w15⟩
 apply List.ext_getElem?
 intro k
 by_cases hk : k < 17
 ·have : k = 0 ∨ k = 1 ∨ k = 2 ∨ k = 3 ∨ k = 4 ∨ k = 5 ∨ k = 6 ∨ k = 7 ∨ k = 8 ∨ k = 9 ∨ k = 10 ∨ k = 11 ∨ k = 12 ∨ k = 13 ∨ k = 14 ∨ k = 15 ∨ k = 16 := by omega
  rcases this with rfl | rfl | rfl | rfl | rfl | rfl | rfl | rfl | rfl | rfl | rfl | rfl | rfl | rfl | rfl | rfl | rfl
  ·exact h0
  ·exact h1
  ·exact h2
  ·exact h3
  ·exact h4
  ·exact h5
  ·exact h6
  ·exact h7
  ·exact h8
  ·exact h9
  ·exact h10
  ·exact h11
  ·exact h12
  ·exact h13
  ·exact h14
  ·exact h15
  ·exact h16
 ·rw [List.getElem?_eq_none (by omega), List.getElem?_eq_none (by simp [inE, insC]; omega)]
theorem weights_mem {P : Program} {e : Nat} {d : DataW H} : ∀ {l : List (DataW H)}, d ∈ l → (DataW.weightsAll P e l).all (· ≤ reachBytes) = true → (d.weights P e).all (· ≤ reachBytes) = true
 | [], h, _ => by cases h
 | x :: l, h, hw => by
  unfold DataW.weightsAll at hw
  rw [List.all_append, Bool.and_eq_true] at hw
  rcases List.mem_cons.1 h with rfl | h
  ·exact hw.1
  ·exact weights_mem h hw.2
theorem each_at {P : Program} {t : Nat} {d : DataW H} : ∀ {ts : List Nat} {l : List (DataW H)} {i : Nat}, ts[i]? = some t → l[i]? = some d → (DataW.weightsEach P ts l).all (· ≤ reachBytes) = true → (d.weights P t).all (· ≤ reachBytes) = true
 | [], _, _, h, _, _ => by simp at h
 | _ :: _, [], _, _, h, _ => by simp at h
 | t' :: ts, x :: l, i, h1, h2, hw => by
  unfold DataW.weightsEach at hw
  rw [List.all_append, Bool.and_eq_true] at hw
  cases i with
  | zero => simp at h1 h2; subst h1; subst h2; exact hw.1
  | succ i => exact each_at (by simpa using h1) (by simpa using h2) hw.2
theorem open_listT {α : Type} [Inhabited α] {en : α → List Value} {Q : α → Prop} {t e s fuel : Nat} {cells : List Value} {x : DataW H × List MemPlace} (ht : Tryz.prog.underlying t = some (.slice e)) (hc : Tryz.prog.cellsOf e = s) (h0 : 0 < s)
  (hel : ∀ cs n x, DataW.trod enc Tryz.prog W base' spare held n e cs = some x → cs.length = s → (x.1.weights Tryz.prog e).all (· ≤ reachBytes) = true → ∃ y : α, cs = en y ∧ Q y)
  (hf : DataW.trod enc Tryz.prog W base' spare held fuel t cells = some x) (hwt : (x.1.weights Tryz.prog t).all (· ≤ reachBytes) = true) :
  ∃ (ao : Option Addr) (l : List α) (cap : Nat), cells = [.slice ao l.length cap] ∧ (l.length ≤ 9223372036854775807 ∧ l.length * Tryz.prog.bytesOf e ≤ reachBytes) ∧ Sl en s W.heap.size W (.slice ao l.length cap) l ∧ ∀ y ∈ l, Q y := by
 rcases open_slice ht hf with ⟨hcs, _⟩ | ⟨a, len0, cap0, m, n, D, Pl, hcs, hb, hl, hm, hmm, hxe, hx⟩
 ·exact ⟨none, [], 0, hcs, by simp, Sl.nil, fun y hy => by cases hy⟩
 ·have hlm : len0 ≤ m := by rw [hmm]; split <;> omega
  have hml : maxLen = 9223372036854775807 := rfl
  rw [hxe] at hwt
  unfold DataW.weights at hwt
  rw [ht] at hwt
  simp only [List.all_cons, List.all_append, Bool.and_eq_true, decide_eq_true_eq, List.length_map, List.length_range] at hwt
  have hbl : len0 * Tryz.prog.bytesOf e ≤ reachBytes := Nat.le_trans (Nat.mul_le_mul_right _ (Nat.le_add_right _ _)) hwt.1
  rw [hc] at hx
  obtain ⟨Y, hY⟩ := choose_lt (α := α) (n := len0) (p := fun i y => Q y ∧ (en y).length = s ∧ ∀ k, k < s → W.cell? ((a.add (i * s)).add k) = (en y)[k]?) (fun i hi => by
   obtain ⟨cs', h1, h2⟩ := hx i (by omega)
   obtain ⟨_, hlen, hcell⟩ := World.cells?_some h1
   obtain ⟨y, rfl, hq⟩ := hel cs' n _ h2 hlen (weights_mem (l := (List.range len0).map D) (List.mem_map.2 ⟨i, List.mem_range.2 hi, rfl⟩) hwt.2.1)
   exact ⟨y, hq, hlen, hcell⟩)
  have hlen : ((List.range len0).map Y).length = len0 := by simp
  refine ⟨some a, (List.range len0).map Y, cap0, by rw [hlen]; exact hcs, by rw [hlen]; exact ⟨by omega, hbl⟩, ⟨some a, cap0, by rw [hlen], by rw [hlen]; exact hl, fun j x hj => ?_⟩, fun y hy => ?_⟩
  ·have hjl : j < len0 := by have := (List.getElem?_eq_some_iff.1 hj).1; simpa using this
   have hxe : x = Y j := by simp [hjl] at hj; exact hj.symm
   subst hxe
   obtain ⟨_, hyl, hcell⟩ := hY j hjl
   obtain ⟨b, o, spot⟩ := a
   obtain ⟨_, hy0, hcell0⟩ := hY 0 (by omega)
   have h00 := hcell0 0 h0
   rw [List.getElem?_eq_getElem (by omega)] at h00
   have hspot : spot = none := by simpa [Addr.add] using World.cell?_spot h00
   subst hspot
   refine ⟨b, o, rfl, ?_, fun k u hu => ?_⟩
   ·have := World.block_lt_of_cell? W _ h00
    rw [Addr.add_mid, Addr.add_mid] at this
    exact this
   ·have hk : k < s := by have := (List.getElem?_eq_some_iff.1 hu).1; omega
    have := hcell k hk
    rw [hu, Addr.add_mid, Addr.add_mid] at this
    exact this
  ·obtain ⟨i, hi, rfl⟩ := List.mem_map.1 hy
   exact (hY i (by simpa using hi)).1
def cdV (c : Cde) : List Value := [.slice c.ao c.l.length c.cp]
instance : Inhabited Cde := ⟨Cde.z⟩
instance : Inhabited In := ⟨In.z⟩
structure CdOK (W : World) (c : Cde) : Prop where
 sl : Sl inE 17 W.heap.size W (.slice c.ao c.l.length c.cp) c.l
 le : c.l.length ≤ 9223372036854775807
 wl : c.l.length * 120 ≤ reachBytes
 ok : ∀ i ∈ c.l, okI i
theorem open_cdL (cs : List Value) (n : Nat) (x : DataW H × List MemPlace) (h : DataW.trod enc Tryz.prog W base' spare held n 38 cs = some x) (hl : cs.length = 1) (hwt : (x.1.weights Tryz.prog 38).all (· ≤ reachBytes) = true) : ∃ c : Cde, cs = cdV c ∧ CdOK W c := by
 obtain ⟨ao, l, cap, h1, h2, h3, h4⟩ := open_listT (t := 38) (e := 56) (s := 17) (by kernel_rfl) (by kernel_rfl) (by omega) (fun cs n x h hl _ => open_inL cs n x h hl) h hwt
 rw [show Tryz.prog.bytesOf 56 = 120 by kernel_rfl] at h2
 exact ⟨⟨ao, l, cap⟩, h1, h3, h2.1, h2.2, h4⟩
def AI (enc : TypeId × Value → H) (W : World) (base' : Nat) (spare : Nat → Bool) (held : Bool) (t s : Nat) : Prop := Tryz.prog.cellsOf t = s ∧ ∀ (cs : List Value) (n : Nat) (x : DataW H × List MemPlace), DataW.trod enc Tryz.prog W base' spare held n t cs = some x → ∀ k, k < s → ∃ m : Int, cs[k]? = some (.int .i64 m) ∧ -9223372036854775808 ≤ m ∧ m ≤ 9223372036854775807
theorem AI.int : AI enc W base' spare held 3 1 := ⟨by kernel_rfl, fun cs n x h k hk => by
 obtain ⟨m, h2, _, h3⟩ := DataW.trod_int Tryz.underlying3 h
 obtain rfl : k = 0 := by omega
 exact ⟨m, by rw [h2]; rfl, wf_rng h3⟩⟩
theorem sub_at {cs : List Value} {o s j : Nat} (hj : j < s) : ((cs.drop o).take s)[j]? = cs[o + j]? := by
 rw [List.getElem?_take_of_lt hj, List.getElem?_drop]
theorem AI.arr {t n e s : Nat} (ht : Tryz.prog.underlying t = some (.array n e)) (hc : Tryz.prog.cellsOf t = n * s) (h0 : 0 < s) (he : AI enc W base' spare held e s) : AI enc W base' spare held t (n * s) := ⟨hc, fun cs f x h k hk => by
 obtain ⟨xs, m, _, _, _, hxl, hx⟩ := DataW.trod_array ht h
 have hi : k / s < n := (Nat.div_lt_iff_lt_mul h0).2 hk
 have h1 := hx (k / s) hi
 rw [he.1, List.getElem?_eq_getElem (by omega)] at h1
 obtain ⟨z, h2, h3⟩ := he.2 _ _ _ h1 (k % s) (Nat.mod_lt _ h0)
 rw [sub_at (Nat.mod_lt _ h0)] at h2
 have e : k / s * s + k % s = k := by rw [Nat.mul_comm]; exact Nat.div_add_mod k s
 rw [e] at h2
 exact ⟨z, h2, h3⟩⟩
def fldAt (P : Program) (t i : Nat) : Option (Nat × Nat) := match P.underlying t with | some (.struct fs) => (fs[i]?).map fun f => (f.offset, f.type) | _ => none
theorem fld {t i o u fuel : Nat} {cs : List Value} {x : DataW H × List MemPlace} (h : DataW.trod enc Tryz.prog W base' spare held fuel t cs = some x) (h1 : fldAt Tryz.prog t i = some (o, u)) : ∃ n z, DataW.trod enc Tryz.prog W base' spare held n u ((cs.drop o).take (Tryz.prog.cellsOf u)) = some z := by
 unfold fldAt at h1
 split at h1
 ·next fs hu =>
  obtain ⟨xs, m, _, _, _, hxl, hx⟩ := DataW.trod_struct hu h
  obtain ⟨f, hf1, hf2⟩ := Option.map_eq_some_iff.1 h1
  cases hf2
  have h5 := hx i f hf1
  have hil := (Array.getElem?_eq_some_iff.1 hf1).1
  rw [List.getElem?_eq_getElem (by omega)] at h5
  exact ⟨m, _, h5⟩
 ·cases h1
theorem AI.str {t s : Nat} (hc : Tryz.prog.cellsOf t = s) (hf : ∀ k, k < s → ∃ i o u z, fldAt Tryz.prog t i = some (o, u) ∧ AI enc W base' spare held u z ∧ o ≤ k ∧ k < o + z) : AI enc W base' spare held t s := ⟨hc, fun cs n x h k hk => by
 obtain ⟨i, o, u, z, h1, h2, h3, h4⟩ := hf k hk
 obtain ⟨m, z', h5⟩ := fld h h1
 rw [h2.1] at h5
 obtain ⟨q, h6, h7⟩ := h2.2 _ _ _ h5 (k - o) (by omega)
 rw [sub_at (by omega), show o + (k - o) = k by omega] at h6
 exact ⟨q, h6, h7⟩⟩
theorem AI.cond : AI enc W base' spare held 67 5 := by
 refine AI.str (by kernel_rfl) fun k hk => ?_
 have : k = 0 ∨ k = 1 ∨ k = 2 ∨ k = 3 ∨ k = 4 := by omega
 rcases this with rfl | rfl | rfl | rfl | rfl
 ·exact ⟨0, 0, 3, 1, by kernel_rfl, AI.int, by omega, by omega⟩
 ·exact ⟨1, 1, 3, 1, by kernel_rfl, AI.int, by omega, by omega⟩
 ·exact ⟨2, 2, 3, 1, by kernel_rfl, AI.int, by omega, by omega⟩
 ·exact ⟨3, 3, 3, 1, by kernel_rfl, AI.int, by omega, by omega⟩
 ·exact ⟨4, 4, 3, 1, by kernel_rfl, AI.int, by omega, by omega⟩
def ccV (c : Cn) : List Value := [.int .i64 c.k, .int .i64 c.t, .int .i64 c.r, .int .i64 c.l, .int .i64 c.v]
def wfC (c : Cn) : Prop := -9223372036854775808 ≤ c.v ∧ c.v ≤ 9223372036854775807
instance : Inhabited Cn := ⟨Cn.z⟩
theorem open_cnL (cs : List Value) (n : Nat) (x : DataW H × List MemPlace) (h : DataW.trod enc Tryz.prog W base' spare held n 67 cs = some x) (hl : cs.length = 5) : ∃ y : Cn, cs = ccV y ∧ wfC y := by
 have A := AI.cond.2 cs n x h
 obtain ⟨a, ha, _⟩ := A 0 (by omega)
 obtain ⟨b, hb, _⟩ := A 1 (by omega)
 obtain ⟨c, hc, _⟩ := A 2 (by omega)
 obtain ⟨d, hd, _⟩ := A 3 (by omega)
 obtain ⟨e, he, h5⟩ := A 4 (by omega)
 refine ⟨⟨a, b, c, d, e⟩, ?_, h5⟩
 match cs, hl, ha, hb, hc, hd, he with
 | [u0, u1, u2, u3, u4], _, ha, hb, hc, hd, he => simp at ha hb hc hd he; subst ha hb hc hd he; rfl
theorem fldW {t i o u fuel : Nat} {cs : List Value} {x : DataW H × List MemPlace} (h : DataW.trod enc Tryz.prog W base' spare held fuel t cs = some x) (hwt : (x.1.weights Tryz.prog t).all (· ≤ reachBytes) = true) (h1 : fldAt Tryz.prog t i = some (o, u)) : ∃ n z, DataW.trod enc Tryz.prog W base' spare held n u ((cs.drop o).take (Tryz.prog.cellsOf u)) = some z ∧ (z.1.weights Tryz.prog u).all (· ≤ reachBytes) = true := by
 unfold fldAt at h1
 split at h1
 ·next fs hu =>
  obtain ⟨xs, m, _, hxe, _, hxl, hx⟩ := DataW.trod_struct hu h
  obtain ⟨f, hf1, hf2⟩ := Option.map_eq_some_iff.1 h1
  cases hf2
  have h5 := hx i f hf1
  have hil := (Array.getElem?_eq_some_iff.1 hf1).1
  rw [List.getElem?_eq_getElem (by omega)] at h5
  refine ⟨m, _, h5, ?_⟩
  rw [hxe] at hwt
  unfold DataW.weights at hwt
  rw [hu] at hwt
  exact each_at (i := i) (by rw [List.getElem?_map]; simp [hf1]) (by rw [List.getElem?_map, List.getElem?_eq_getElem (by omega)]; rfl) hwt
 ·cases h1
structure Ts where (ar : Int) (nm : List UInt8) (mi r : Nat → Int) (bo : BO) (cs : List Cde) (cx : Nat) (qu : Int) (co : BO) (kd : List Cn) (ck : Nat)
def tsV (y : Ts) : List Value := [.int .i64 y.ar, .string (S y.nm), .int .i64 (y.mi 0), .int .i64 (y.mi 1), .int .i64 (y.mi 2), .int .i64 (y.r 0), .int .i64 (y.r 1), .int .i64 (y.r 2), .int .i64 (y.r 3), .int .i64 (y.r 4), .int .i64 (y.r 5), .int .i64 (y.r 6), .int .i64 (y.r 7), .int .i64 (y.r 8), .int .i64 (y.r 9), .int .i64 (y.r 10), .int .i64 (y.r 11), .int .i64 (y.r 12), .int .i64 (y.r 13), .int .i64 (y.r 14), .int .i64 (y.r 15), .int .i64 (y.r 16), .int .i64 (y.r 17), .int .i64 (y.r 18), .int .i64 (y.r 19), .int .i64 (y.r 20), .int .i64 (y.r 21), .int .i64 (y.r 22), .int .i64 (y.r 23), .slice (adB y.bo) y.cs.length y.cx, .int .i64 y.qu, .slice (adB y.co) y.kd.length y.ck]
structure TsOK (W : World) (y : Ts) : Prop where
 codes : Sl cdV 1 W.heap.size W (.slice (adB y.bo) y.cs.length y.cx) y.cs
 conds : Sl ccV 5 W.heap.size W (.slice (adB y.co) y.kd.length y.ck) y.kd
 code : ∀ c ∈ y.cs, CdOK W c
 cond : ∀ c ∈ y.kd, wfC c
 le : y.cs.length ≤ 9223372036854775807
 lk : y.kd.length ≤ 9223372036854775807
 ln : y.nm.length ≤ 9223372036854775807
 wc : y.cs.length * 24 ≤ reachBytes
 wk : y.kd.length * 40 ≤ reachBytes
 wn : y.nm.length ≤ reachBytes
 ar : -9223372036854775808 ≤ y.ar ∧ y.ar ≤ 9223372036854775807
 qu : -9223372036854775808 ≤ y.qu ∧ y.qu ≤ 9223372036854775807
 mi : ∀ k, k < 3 → -9223372036854775808 ≤ y.mi k ∧ y.mi k ≤ 9223372036854775807
 r : ∀ k, k < 24 → -9223372036854775808 ≤ y.r k ∧ y.r k ≤ 9223372036854775807
def tsTs : List Nat := [3, 9, 3, 3, 3, 3, 3, 3, 3, 3, 3, 3, 3, 3, 3, 3, 3, 3, 3, 3, 3, 3, 3, 3, 3, 3, 3, 3, 3, 25, 3, 26]
theorem ts_types : Tryz.prog.cellTypes Tryz.prog.depth 28 = some tsTs := by kernel_rfl
theorem slice_spot {t e n cap : Nat} {ao : Option Addr} (ht : Tryz.prog.underlying t = some (.slice e)) (hv : Cell.okWide Tryz.prog W .any base t (.slice ao n cap)) : ∃ bo : BO, ao = adB bo := by
 cases ao with
 | none => exact ⟨none, rfl⟩
 | some a =>
  simp only [Cell.okWide, ht, Cell.ok] at hv
  obtain ⟨b, o, s⟩ := a
  have : s = none := hv.2.2.2.1
  subst this
  exact ⟨some (b, o), rfl⟩
def isStr (P : Program) (t : Nat) : Bool := match P.underlying t with | some (.struct _) => true | _ => false
theorem str_of {t : Nat} (h : isStr Tryz.prog t = true) : ∃ fs, Tryz.prog.underlying t = some (.struct fs) := by
 unfold isStr at h
 split at h
 ·next fs he => exact ⟨fs, he⟩
 ·cases h
theorem open_test {v : Value} {d : DataW H} {ps : List MemPlace} (hv : Value.okWide Tryz.prog W .any base 28 v) (h : DataW.Trod enc Tryz.prog W base' spare held 28 v d ps) (hwt : (d.weights Tryz.prog 28).all (· ≤ reachBytes) = true) : ∃ y : Ts, v = .agg (tsV y).toArray ∧ TsOK W y := by
 obtain ⟨fs, hu⟩ := str_of (t := 28) (by kernel_rfl)
 simp only [Value.okWide, hu] at hv
 obtain ⟨ca, rfl, hsz, ts, hts, _, hrow⟩ := hv
 rw [ts_types] at hts
 cases hts
 rw [show Tryz.prog.cellsOf 28 = 32 by kernel_rfl] at hsz
 obtain ⟨fuel, hf⟩ := h
 have hcl : ∀ k : Nat, ca[k]? = ca.toList[k]? := fun k => by simp
 have hf : DataW.trod enc Tryz.prog W base' spare held fuel 28 ca.toList = some (d, ps) := by simpa [Value.cells] using hf
 have hl : ca.toList.length = 32 := by simpa using hsz
 have one : ∀ (i o u s : Nat), fldAt Tryz.prog 28 i = some (o, u) → AI enc W base' spare held u s → ∀ k, k < s → ∃ m : Int, ca.toList[o + k]? = some (.int .i64 m) ∧ -9223372036854775808 ≤ m ∧ m ≤ 9223372036854775807 := fun i o u s h1 h2 k hk => by
  obtain ⟨n, z, h3⟩ := fld hf h1
  rw [h2.1] at h3
  obtain ⟨m, h4, h5⟩ := h2.2 _ _ _ h3 k hk
  rw [sub_at hk] at h4
  exact ⟨m, h4, h5⟩
 obtain ⟨ar, h0, har⟩ := one 0 0 3 1 (by kernel_rfl) AI.int 0 (by decide)
 obtain ⟨qu, h30, hqu⟩ := one 5 30 3 1 (by kernel_rfl) AI.int 0 (by decide)
 obtain ⟨mi, hmi⟩ := choose_lt (α := Int) (n := 3) (one 2 2 22 3 (by kernel_rfl) (AI.arr (n := 3) (s := 1) (e := 3) (by kernel_rfl) (by kernel_rfl) (by decide) AI.int))
 obtain ⟨r, hr⟩ := choose_lt (α := Int) (n := 24) (one 3 5 24 24 (by kernel_rfl) (AI.arr (n := 3) (s := 8) (e := 23) (by kernel_rfl) (by kernel_rfl) (by decide) (AI.arr (n := 8) (s := 1) (e := 3) (by kernel_rfl) (by kernel_rfl) (by decide) AI.int)))
 obtain ⟨n1, z1, hn, hwn⟩ := fldW hf hwt (i := 1) (o := 1) (u := 9) (by kernel_rfl)
 obtain ⟨nm, hnm, hnx, hln⟩ := DataW.trod_string (by kernel_rfl) hn
 rw [show Tryz.prog.cellsOf 9 = 1 by kernel_rfl] at hnm
 have h1 := take_one hnm
 obtain ⟨n2, z2, hc, hwc⟩ := fldW hf hwt (i := 4) (o := 29) (u := 25) (by kernel_rfl)
 obtain ⟨ao, cs, cx, hc1, hle, hsl, hcd⟩ := open_listT (t := 25) (e := 38) (s := 1) (by kernel_rfl) (by kernel_rfl) (by omega) open_cdL hc hwc
 rw [show Tryz.prog.cellsOf 25 = 1 by kernel_rfl] at hc1
 have h29 := take_one hc1
 obtain ⟨n3, z3, hk, hwk⟩ := fldW hf hwt (i := 6) (o := 31) (u := 26) (by kernel_rfl)
 obtain ⟨ao', kd, ck, hk1, hlk, hsk, hkd⟩ := open_listT (t := 26) (e := 67) (s := 5) (by kernel_rfl) (by kernel_rfl) (by omega) (fun cs n x h hl _ => open_cnL cs n x h hl) hk hwk
 rw [show Tryz.prog.bytesOf 38 = 24 by kernel_rfl] at hle
 rw [show Tryz.prog.bytesOf 67 = 40 by kernel_rfl] at hlk
 rw [hnx] at hwn
 rw [show Tryz.prog.cellsOf 26 = 1 by kernel_rfl] at hk1
 have h31 := take_one hk1
 obtain ⟨u, hu1, hu2⟩ := hrow 29 _ ((hcl 29).trans h29)
 cases hu1
 obtain ⟨bo, rfl⟩ := slice_spot (e := 38) (by kernel_rfl) hu2
 obtain ⟨u, hu3, hu4⟩ := hrow 31 _ ((hcl 31).trans h31)
 cases hu3
 obtain ⟨co, rfl⟩ := slice_spot (e := 67) (by kernel_rfl) hu4
 refine ⟨⟨ar, nm.data.toList, mi, r, bo, cs, cx, qu, co, kd, ck⟩, ?_, hsl, hsk, hcd, hkd, hle.1, hlk.1, ?_, hle.2, hlk.2, (by unfold DataW.weights at hwn; simpa using hwn), har, hqu, fun k hk => (hmi k hk).2, fun k hk => (hr k hk).2⟩
 ·have e : ca.toList = tsV ⟨ar, nm.data.toList, mi, r, bo, cs, cx, qu, co, kd, ck⟩ := by
   apply List.ext_getElem?
   intro k
   by_cases hk : k < 32
   ·have : k = 0 ∨ k = 1 ∨ k = 2 ∨ k = 3 ∨ k = 4 ∨ k = 5 ∨ k = 6 ∨ k = 7 ∨ k = 8 ∨ k = 9 ∨ k = 10 ∨ k = 11 ∨ k = 12 ∨ k = 13 ∨ k = 14 ∨ k = 15 ∨ k = 16 ∨ k = 17 ∨ k = 18 ∨ k = 19 ∨ k = 20 ∨ k = 21 ∨ k = 22 ∨ k = 23 ∨ k = 24 ∨ k = 25 ∨ k = 26 ∨ k = 27 ∨ k = 28 ∨ k = 29 ∨ k = 30 ∨ k = 31 := by omega
    rcases this with rfl | rfl | rfl | rfl | rfl | rfl | rfl | rfl | rfl | rfl | rfl | rfl | rfl | rfl | rfl | rfl | rfl | rfl | rfl | rfl | rfl | rfl | rfl | rfl | rfl | rfl | rfl | rfl | rfl | rfl | rfl | rfl
    ·exact h0
    ·exact h1
    ·exact (hmi 0 (by decide)).1
    ·exact (hmi 1 (by decide)).1
    ·exact (hmi 2 (by decide)).1
    ·exact (hr 0 (by decide)).1
    ·exact (hr 1 (by decide)).1
    ·exact (hr 2 (by decide)).1
    ·exact (hr 3 (by decide)).1
    ·exact (hr 4 (by decide)).1
    ·exact (hr 5 (by decide)).1
    ·exact (hr 6 (by decide)).1
    ·exact (hr 7 (by decide)).1
    ·exact (hr 8 (by decide)).1
    ·exact (hr 9 (by decide)).1
    ·exact (hr 10 (by decide)).1
    ·exact (hr 11 (by decide)).1
    ·exact (hr 12 (by decide)).1
    ·exact (hr 13 (by decide)).1
    ·exact (hr 14 (by decide)).1
    ·exact (hr 15 (by decide)).1
    ·exact (hr 16 (by decide)).1
    ·exact (hr 17 (by decide)).1
    ·exact (hr 18 (by decide)).1
    ·exact (hr 19 (by decide)).1
    ·exact (hr 20 (by decide)).1
    ·exact (hr 21 (by decide)).1
    ·exact (hr 22 (by decide)).1
    ·exact (hr 23 (by decide)).1
    ·exact h29
    ·exact h30
    ·exact h31
   ·rw [List.getElem?_eq_none (by omega), List.getElem?_eq_none (by simp [tsV]; omega)]
  rw [← e]
 ·have hml : maxLen = 9223372036854775807 := rfl
  show nm.data.toList.length ≤ _
  have e2 : nm.data.toList.length = nm.size := Array.length_toList
  rw [e2]
  exact hln
end
end Go.Proofs.YtjkppaijicjpoaaGreatDoor
namespace Go.Proofs.YtjkppaijicjpoaaGreatDoor
open Go.ChangeShapes Go.WideShapes Go.ChangeAt Go.RowKit
set_option linter.unusedVariables false
set_option linter.unusedSimpArgs false
set_option maxRecDepth 100000
def tsS (y : Ts) : SV := .agg (tsQ9 y.ar y.nm y.mi y.r (.sl 0 y.cs.length y.cx) y.qu (.sl 1 y.kd.length y.ck))
def tsH (y : Ts) : Hp := [some (.lst 1 y.cs.length (fun zz => cdc (y.cs.getD zz Cde.z))), some (.lst 5 y.kd.length (fun zz => cc (y.kd.getD zz Cn.z)))]
def tsG (y : Ts) : Gr := [locB y.bo, locB y.co]
section
variable {W : World} {y : Ts}
theorem ts_l1 (h : TsOK W y) : den (tsG y) (.sl 0 y.cs.length y.cx) = some (.slice (adB y.bo) y.cs.length y.cx) ∧ EntOK (tsG y) W (locB y.bo) (.lst 1 y.cs.length (fun zz => cdc (y.cs.getD zz Cde.z))) :=
 (lst_of (bo := y.bo) (enc := cdV) (f := fun zz => cdc (y.cs.getD zz Cde.z)) h.codes (Nat.le_refl _) (fun k x hx => by show denL [] (cdc (y.cs.getD k Cde.z)) = _; rw [List.getD_eq_getElem?_getD, hx]; rfl) (fun k => ⟨_, rfl⟩)).2 [] [locB y.co]
theorem ts_l2 (h : TsOK W y) : den (tsG y) (.sl 1 y.kd.length y.ck) = some (.slice (adB y.co) y.kd.length y.ck) ∧ EntOK (tsG y) W (locB y.co) (.lst 5 y.kd.length (fun zz => cc (y.kd.getD zz Cn.z))) :=
 (lst_of (bo := y.co) (enc := ccV) (f := fun zz => cc (y.kd.getD zz Cn.z)) h.conds (Nat.le_refl _) (fun k x hx => by show denL [] (cc (y.kd.getD k Cn.z)) = _; rw [List.getD_eq_getElem?_getD, hx]; rfl) (fun k => ⟨_, rfl⟩)).2 [locB y.bo] []
theorem ts_ro : ∀ (i : Nat) (e : Ent), (tsH y)[i]? = some (some e) → e.mut = false := fun i e he => by
 match i, he with
 | 0, he => cases he; rfl
 | 1, he => cases he; rfl
 | n + 2, he => simp [tsH] at he
theorem ts_mem (h : TsOK W y) : Mem (tsH y) (tsG y) W := ⟨rfl, fun i e he => by
  match i, he with
  | 0, he => cases he; exact (ts_l1 h).2
  | 1, he => cases he; exact (ts_l2 h).2
  | n + 2, he => simp [tsH] at he, fun i j e f L M _ hi _ hm _ _ _ => by rw [ts_ro i e hi] at hm; cases hm⟩
theorem ts_den (h : TsOK W y) : denL (tsG y) [tsS y] = some [.agg (tsV y).toArray] := by
 have e1 := (ts_l1 h).1
 have e2 := (ts_l2 h).1
 generalize tsG y = G at e1 e2
 unfold tsS tsV
 simp only [denL, den, Option.map_some] at e1 e2 ⊢
 rw [e1, e2]
 rfl
theorem ts_codes (h : TsOK W y) {ks : List Nat} (hk : ∀ b, ks.contains b = false) : CodesAt y.cs W ks := fun c hc => by
 obtain ⟨ao, cap, hv, hlc, he⟩ := (h.code c hc).sl
 injection hv with q1 q2 q3
 refine ⟨fun k => ⟨_, rfl⟩, ?_⟩
 by_cases h0 : c.l.length = 0
 ·exact .inl h0
 ·obtain ⟨b, o, e, hb, _⟩ := he 0 c.l[0] (List.getElem?_eq_getElem (by omega))
  refine .inr ⟨b, o, q1.trans e, hb, hk b, fun k hkl => ?_⟩
  obtain ⟨b', o', e', _, hr⟩ := he k c.l[k] (List.getElem?_eq_getElem hkl)
  rw [e] at e'
  cases e'
  exact ⟨inE c.l[k], (by show denL [] (insS (c.l.getD k In.z)) = _; rw [List.getD_eq_getElem?_getD, List.getElem?_eq_getElem hkl]; rfl), hr⟩
theorem tab_fac (h : Lib.TabIs Tryz.prog W "internal/strconv.uint64pow10" .u64 Lib.pow10Tab) : ∃ (g : Nat) (o : Obj), W.heap[g]? = some o ∧ ∀ w : World, w.heap[g]? = some o → Lib.TabIs Tryz.prog w "internal/strconv.uint64pow10" .u64 Lib.pow10Tab := by
 unfold Lib.TabIs World.var? at h
 cases hg : Tryz.prog.globalNamed "internal/strconv.uint64pow10" with
 | none => rw [hg] at h; simp at h
 | some g =>
  rw [hg] at h
  cases ho : W.heap[g]? with
  | none => simp [ho] at h
  | some o =>
   refine ⟨g, o, ho, fun w hw => ?_⟩
   unfold Lib.TabIs World.var?
   rw [hg]
   simp only [Option.bind_some, ho, hw] at h ⊢
   exact h
theorem cell_fac {b k : Nat} {v : Value} (h : W.cell? ⟨b, k, none⟩ = some v) : ∃ o, W.heap[b]? = some o ∧ ∀ w : World, w.heap[b]? = some o → w.cell? ⟨b, k, none⟩ = some v := by
 cases ho : W.heap[b]? with
 | none => unfold World.cell? at h; simp [ho] at h
 | some o =>
  refine ⟨o, rfl, fun w hw => ?_⟩
  unfold World.cell? at h ⊢
  simp only [ho, hw] at h ⊢
  exact h
end
end Go.Proofs.YtjkppaijicjpoaaGreatDoor
namespace Go.Proofs.YtjkppaijicjpoaaGreatDoor
open Go.RowKit
set_option linter.unusedVariables false
set_option linter.unusedSimpArgs false
set_option linter.unusedSectionVars false
section
variable {P : Program} {Y : Tb} {n : Nat} {ks : List Nat} {G0 : Gr} {w0 : World} {T : List (Nat × SV)} {H : Hp} {G : Gr} {a : Act} {w : World} {Q : Exit → Act → World → Prop} {K : List Fr} {pos : Pos} {ops : Array Oper} {o : Oper} {rest : List Oper} {pre : World → Prop}
theorem keysN (h : ∀ (i : Nat) (e : Ent), H[i]? = some (some e) → e.mut = false) (b : Nat) : (keys H G).contains b = false := by
 cases hz : (keys H G).contains b with
 | false => rfl
 | true =>
  obtain ⟨i, e', L, q1, q2, _⟩ := mem_keys.1 hz
  rw [h i e' q1] at q2; cases q2
end
end Go.Proofs.YtjkppaijicjpoaaGreatDoor
namespace Go.Proofs.YtjkppaijicjpoaaGreatDoor.Mc
open Go.RowKit
set_option linter.unusedVariables false
set_option linter.unusedSimpArgs false
set_option maxRecDepth 100000
set_option maxHeartbeats 2000000
def prX (ar : Int) : In → Int := fun i => if ar = 1 then (prP x86G x86C i (labL i.to_)).2 else if ar = 2 then (prP riscvG riscvC i (labL i.to_)).2 else (prP Ar.armG Ar.armC i (labL i.to_)).2
def chkV (ar : Int) (nm : List UInt8) (cs : List Cde) (qu : Int) (kd : List Cn) (r : Nat → Int) : Int := if 1 ≤ ar ∧ ar ≤ 3 then litC (prX ar) nm cs qu kd r else 36
theorem litCheck_ (ar : Int) (nm : List UInt8) (mi r : Nat → Int) (cs : List Cde) (cx : Nat) (qu : Int) (kd : List Cn) (ck : Nat) (os : List (Nat × Obj)) (hM : ∀ w ks, Gl os w ks → ∃ m, w.cell? ⟨1, 0, none⟩ = some (.int .i64 m)) (hT : ∀ w ks, Gl os w ks → Lib.TabIs Tryz.prog w "internal/strconv.uint64pow10" .u64 Lib.pow10Tab) (hE : ∀ w ks, Gl os w ks → ∃ ev, w.cell? ⟨4, 0, none⟩ = some ev ∧ (ev = .nilIface ∨ ∃ te pe, ev = .iface te pe)) (hs : ∀ c ∈ cs, c.l.length ≤ 9223372036854775807) (hR : ∀ c ∈ cs, ∀ i ∈ c.l, okI i) (hn : cs.length ≤ 9223372036854775807) : FnI (GC os cs) Tryz.prog 7 [.agg (tsQ9 ar nm mi r (.sl 0 cs.length cx) qu (.sl 1 kd.length ck))] [some (.lst 1 cs.length (fun zz => cdc (cs.getD zz Cde.z))), some (.lst 5 kd.length (fun zz => cc (kd.getD zz Cn.z)))] (Rt (.int .i64 (chkV ar nm cs qu kd r)) [some (.lst 1 cs.length (fun zz => cdc (cs.getD zz Cde.z))), some (.lst 5 kd.length (fun zz => cc (kd.getD zz Cn.z)))]) := by
 by_cases h : 1 ≤ ar ∧ ar ≤ 3
 ·have hc : ar = 1 ∨ ar = 2 ∨ ar = 3 := by omega
  unfold chkV
  rw [if_pos h]
  rcases hc with rfl | rfl | rfl
  ·exact litCheck1 nm mi r cs cx qu kd ck os hM hT hE hs hR hn
  ·exact litCheck2 nm mi r cs cx qu kd ck os hM hT hE hs hR hn
  ·exact litCheck3 nm mi r cs cx qu kd ck os hM hT hE hs hR hn
 ·unfold chkV
  rw [if_neg h]
  exact (litCheck0 ar nm mi r cs cx qu kd ck h).toI
theorem chk0 {ar : Int} {nm : List UInt8} {cs : List Cde} {qu : Int} {kd : List Cn} {r : Nat → Int} (h : chkV ar nm cs qu kd r = 0) : ckE cs = 0 ∧ kd.length ≤ 32 := by
 unfold chkV at h
 split at h
 ·unfold litC at h
  split at h
  ·omega
  split at h
  ·omega
  split at h
  ·next hh => exact absurd h hh
  ·next hh =>
   refine ⟨Decidable.not_not.1 hh, ?_⟩
   split at h
   ·omega
   split at h
   ·omega
   split at h
   ·omega
   ·next hr =>
    have hr : rgt kd = true := by simpa using hr
    unfold rgt at hr
    split at hr
    ·cases hr
    ·omega
 ·omega
section
variable {W : World} {y : Ts}
theorem lst_G {G : Gr} {p : Option Loc} {s n : Nat} {f : Nat → List SV} (h : EntOK [] W p (.lst s n f)) : EntOK G W p (.lst s n f) := h
theorem call_ofTX {f : Nat} {x : SV} {v : Value} {ex : List SV} {Hx : Hp} {Gx : Gr} {vx : List Value} (hx : ∀ G : Gr, den G x = some v) (hO : TsOK W y) (hT0 : Lib.TabIs Tryz.prog W "internal/strconv.uint64pow10" .u64 Lib.pow10Tab) (m0 : Int) (hm : W.cell? ⟨1, 0, none⟩ = some (.int .i64 m0)) (ev : Value) (he : W.cell? ⟨4, 0, none⟩ = some ev) (hev : ev = .nilIface ∨ ∃ te pe, ev = .iface te pe)
  (hlen : Hx.length = Gx.length) (hMx : ∀ (i : Nat) (e : Ent), Hx[i]? = some (some e) → ∃ s n f, e = .lst s n f ∧ EntOK [] W ((Gx[i]?).getD none) (.lst s n f)) (hdx : denL (tsG y ++ Gx) ex = some vx)
  (h : ∀ (os : List (Nat × Obj)) (hM : ∀ w ks, Gl os w ks → ∃ m, w.cell? ⟨1, 0, none⟩ = some (.int .i64 m)) (hT : ∀ w ks, Gl os w ks → Lib.TabIs Tryz.prog w "internal/strconv.uint64pow10" .u64 Lib.pow10Tab) (hE : ∀ w ks, Gl os w ks → ∃ ev, w.cell? ⟨4, 0, none⟩ = some ev ∧ (ev = .nilIface ∨ ∃ te pe, ev = .iface te pe)), FnI (GC os y.cs) Tryz.prog f (tsS y :: ex) (tsH y ++ Hx) (Rt x (tsH y ++ Hx))) : Calls Tryz.prog f (.agg (tsV y).toArray :: vx).toArray W fun e W' => e = .returned v ∧ Grow W W' := by
 have hl2 : (tsH y).length = (tsG y).length := rfl
 have hro : ∀ (i : Nat) (e : Ent), (tsH y ++ Hx)[i]? = some (some e) → e.mut = false := fun i e hi => by
  by_cases q : i < (tsH y).length
  ·rw [List.getElem?_append_left q] at hi; exact ts_ro i e hi
  ·rw [List.getElem?_append_right (by omega)] at hi
   obtain ⟨s, n, f, rfl, _⟩ := hMx _ e hi
   rfl
 have hMem : Mem (tsH y ++ Hx) (tsG y ++ Gx) W := by
  refine mem_ro (by rw [List.length_append, List.length_append, hl2, hlen]) fun i e hi => ⟨hro i e hi, ?_⟩
  by_cases q : i < (tsH y).length
  ·rw [List.getElem?_append_left q] at hi
   rw [List.getElem?_append_left (by omega)]
   have := ((ts_mem hO).ent i e hi).more Gx
   exact this
  ·rw [List.getElem?_append_right (by omega)] at hi
   rw [List.getElem?_append_right (by omega), ← hl2]
   obtain ⟨s, n, f, rfl, h2⟩ := hMx _ e hi
   exact lst_G h2
 obtain ⟨g5, o5, k5, c5⟩ := tab_fac hT0
 obtain ⟨o0, k0, c0⟩ := cell_fac hm
 obtain ⟨o1, k1, c1⟩ := cell_fac he
 have hk : ∀ k, (keys (tsH y ++ Hx) (tsG y ++ Gx)).contains k = false := fun k => keysN hro k
 have hk0 : ∀ k, (keys (tsH y) (tsG y)).contains k = false := fun k => keysN ts_ro k
 have hG : Gl [(1, o0), (4, o1), (g5, o5)] W (keys (tsH y ++ Hx) (tsG y ++ Gx)) := fun p hp => by
  simp only [List.mem_cons, List.not_mem_nil, or_false] at hp
  rcases hp with rfl | rfl | rfl
  ·exact ⟨k0, hk _⟩
  ·exact ⟨k1, hk _⟩
  ·exact ⟨k5, hk _⟩
 have hcodes : CodesAt y.cs W (keys (tsH y ++ Hx) (tsG y ++ Gx)) := CodesAt.ok _ _ _ _ (ts_codes hO hk0) (Mix.refl _ _) (fun b hb => by rw [hk b] at hb; cases hb)
 have hf := h [(1, o0), (4, o1), (g5, o5)] (fun w ks hg => ⟨m0, c0 w (hg (1, o0) (by simp)).1⟩) (fun w ks hg => c5 w (hg (g5, o5) (by simp)).1) (fun w ks hg => ⟨ev, c1 w (hg (4, o1) (by simp)).1, hev⟩)
 have hden : denL (tsG y ++ Gx) (tsS y :: ex) = some (.agg (tsV y).toArray :: vx) := by
  have h1 := denL_mono Gx [tsS y] (ts_den hO)
  obtain ⟨v1, ws, e1, e2, e3⟩ := denL_cons h1
  cases e2
  cases e3
  exact denL_mk e1 hdx
 refine Calls.mono (hf.2 (tsG y ++ Gx) W _ hMem ⟨hG, hcodes⟩ hden) fun e W' hp => ?_
 obtain ⟨v', F, h1, h2, _, h4⟩ := post_ro hp hro
 rw [hx] at h1
 cases h1
 exact ⟨h2, h4⟩
end
end Go.Proofs.YtjkppaijicjpoaaGreatDoor.Mc
namespace Go.Proofs.YtjkppaijicjpoaaGreatDoor.Mc
open Go.RowKit
set_option linter.unusedVariables false
set_option linter.unusedSimpArgs false
set_option maxRecDepth 100000
set_option maxHeartbeats 2000000
theorem gd_mem {α : Type} {l : List α} {k : Nat} {d : α} (h : k < l.length) : l.getD k d ∈ l := by rw [List.getD_eq_getElem?_getD, List.getElem?_eq_getElem h]; exact List.getElem_mem h
/- numbers as texts -/
def dv (l : List UInt8) : Nat := l.foldl (fun a c => a * 10 + (c.toNat - 48)) 0
def w1 (s : Th) : List (List UInt8 × UInt8) := [(Lib.itoa ((s.at_ : Nat) : Int), 32), (Lib.itoa (s.r 0), 32), (Lib.itoa (s.r 1), 32), (Lib.itoa (s.r 2), 32), (Lib.itoa (s.r 3), 32), (Lib.itoa (s.r 4), 32), (Lib.itoa (s.r 5), 32), (Lib.itoa (s.r 6), 32), (Lib.itoa (s.r 7), 59)]
end Go.Proofs.YtjkppaijicjpoaaGreatDoor.Mc
namespace Go.Proofs.YtjkppaijicjpoaaGreatDoor.Mc
open Go.RowKit
set_option linter.unusedVariables false
set_option linter.unusedSimpArgs false
set_option maxRecDepth 100000
set_option maxHeartbeats 2000000
theorem l_all {cs cs' : List Cde} (hl : cs'.length = cs.length) (he : ∀ k, k < cs.length → (cs'.getD k Cde.z).l = (cs.getD k Cde.z).l) : ∀ k, (cs'.getD k Cde.z).l = (cs.getD k Cde.z).l := fun k => by
 by_cases hk : k < cs.length
 ·exact he k hk
 ·rw [List.getD_eq_getElem?_getD, List.getD_eq_getElem?_getD, List.getElem?_eq_none (by omega), List.getElem?_eq_none (by omega)]
theorem map_l {cs cs' : List Cde} (hl : cs'.length = cs.length) (he : ∀ k, k < cs.length → (cs'.getD k Cde.z).l = (cs.getD k Cde.z).l) : cs'.map (·.l) = cs.map (·.l) := by
 refine List.ext_getElem (by simp [hl]) fun k h1 h2 => ?_
 rw [List.length_map] at h1 h2
 have := he k h2
 rw [List.getD_eq_getElem?_getD, List.getD_eq_getElem?_getD, List.getElem?_eq_getElem h1, List.getElem?_eq_getElem h2] at this
 simpa using this
theorem badC_l {c d : Cde} (h : c.l = d.l) : badC c = badC d := by unfold badC; rw [h]
theorem cnt_l {cs cs' : List Cde} (h : cs'.map (·.l) = cs.map (·.l)) (p : In → Bool) : cntA p cs' = cntA p cs := by
 unfold cntA
 have e : ∀ x : List Cde, (x.map fun c => cntI p c.l) = (x.map (·.l)).map (cntI p) := fun x => by rw [List.map_map]; rfl
 rw [e, e, h]
theorem ckE_l {cs cs' : List Cde} (hl : cs'.length = cs.length) (he : ∀ k, k < cs.length → (cs'.getD k Cde.z).l = (cs.getD k Cde.z).l) (h : ckE cs = 0) : ckE cs' = 0 := by
 have hA := l_all hl he
 have hm := map_l hl he
 have e1 : bad1 cs' = bad1 cs := by unfold bad1; rw [hl]; congr 1; funext k; rw [hA k]
 have e2 : bad2 cs' = bad2 cs := by unfold bad2; rw [hl]; congr 1; funext k; rw [badC_l (hA k)]
 have e3 : cntEr cs' = cntEr cs := by unfold cntEr; rw [cnt_l hm, cnt_l hm]
 unfold ckE at h ⊢
 rw [hl, e1, e2, e3]
 revert h
 split
 ·exact id
 ·split
  ·exact id
  ·split
   ·next k _ => rw [badC_l (hA k), hA k]; exact id
   ·exact id
theorem TWIN {P : Program} {n : Nat} {ks : List Nat} {G0 : Gr} {w0 : World} {T : List (Nat × SV)} {H : Hp} {G : Gr} {a : Act} {w : World} {Q : Exit → Act → World → Prop} {K : List Fr} {ops : Array Oper} {o : Oper} {rest : List Oper} {f : Nat} {args az : List SV} {pre : World → Prop} {t : Nat} {cs : List Cde} {kd : List Cn} {ar qu : Int} {nm : List UInt8} {mi r : Nat → Int} {H' l : Hp} (m : List Nat) (hf : FnW P f args H' [] pre (TwJ cs kd ar nm mi r qu)) (A : Sy n T H ks G0 w0 G a w) (hp : pre w) (h1 : callS n ops T o = some (f, az)) (h2 : renL m args = some az) (h3 : renH m H' = some l) (h4 : pickH H m = some l) (h5 : ndB m = true) (hd : o.dst = some t)
  (k : ∀ (ao1 ao2 : Option Addr) (cp1 cp2 : Nat) (cs' : List Cde) {a' w'}, cs'.length = cs.length → (∀ k, k < cs.length → (cs'.getD k Cde.z).l = (cs.getD k Cde.z).l) → (LstAt ao1 1 cs'.length (fun zz => cdc (cs'.getD zz Cde.z)) w' [] ∧ CodesAt cs' w' []) → Sy n ((t, .agg (tsQ9 ar nm mi r (.sla ao1 cs'.length cp1) qu (.sla ao2 kd.length cp2))) :: T) H ks G0 w0 G a' w' → Goal P Q K (.ops ops rest) a' w') : Goal P Q K (.ops ops (o :: rest)) a w := by
 refine CALLW m hf A hp Off.nil (fun b h => by cases h) h1 h2 h3 h4 h5 fun {x a' w'} hm hJ A' => ?_
 obtain ⟨ao1, ao2, cp1, cp2, cs', hx, hl, he, hK⟩ := hJ
 have h0 := hK [] (fun b h => by cases h)
 rw [← hl] at hx h0
 subst hx
 rw [hd] at A'
 exact k ao1 ao2 cp1 cp2 cs' hl he h0 A'
theorem codes_bare {cs : List Cde} {w : World} {ks : List Nat} (h : CodesAt cs w ks) : CodesAt cs w [] := CodesAt.ok _ _ _ _ h (Mix.refl _ _) (fun b hb => by cases hb)
end Go.Proofs.YtjkppaijicjpoaaGreatDoor.Mc
namespace Go.Proofs.YtjkppaijicjpoaaGreatDoor.Mc.Lo
open Go.RowKit
set_option linter.unusedVariables false
set_option linter.unusedSimpArgs false
set_option maxRecDepth 100000
set_option maxHeartbeats 2000000
set_option simprocs false
theorem Reads_ (i : In)  : Fn Tryz.prog 16 [.agg (inQ9 i)] [] (Rt (.bool ((i.op == 4) || (i.op == 6))) []) :=
 enterM (n := 11) (by kernel_rfl) Tryz.func16 rfl rfl rfl fun G w a h0 A => N9 20 A rfl rfl fun A => R9 A rfl h0 rfl rfl rfl
theorem Writes_ (i : In)  : Fn Tryz.prog 93 [.agg (inQ9 i)] [] (Rt (.bool ((i.op == 5) || (i.op == 6))) []) :=
 enterM (n := 11) (by kernel_rfl) Tryz.func93 rfl rfl rfl fun G w a h0 A => N9 20 A rfl rfl fun A => R9 A rfl h0 rfl rfl rfl
def brmw0 (fn v1 a1 s1 : Int) : Int := if fn = 6 then bget0 a1 s1 else if fn = 1 then bget0 (IntKind.wrap .i64 (v1 + a1)) s1 else 0
theorem brmw_ (fn v1 a1 s1 : Int) (hs : s1 = 1 ∨ s1 = 2 ∨ s1 = 4 ∨ s1 = 8) : Fn Tryz.prog 123 [.int .i64 fn, .int .i64 v1, .int .i64 a1, .int .i64 s1] [] (Rt (.int .i64 (brmw0 fn v1 a1 s1)) []) :=
 enterM (n := 22) (by kernel_rfl) Tryz.func123 rfl rfl rfl fun G w a h0 A => M hX 18 A rfl rfl fun A => forkE 10 A rfl
  (fun h1 A => M hX 5 A rfl rfl fun A => C9 [] (bget_ a1 s1 hs) A rfl fun A => M hX 4 A rfl rfl fun A => R9 A rfl h0 rfl (by simp only [oneS, nb, nbL, nbH, brmw0, if_pos h1]) rfl)
  (fun h1 A => M hX 7 A rfl rfl fun A => forkE 15 A rfl
   (fun h2 A => M hX 7 A rfl rfl fun A => C9 [] (bget_ (IntKind.wrap .i64 (v1 + a1)) s1 hs) A rfl fun A => M hX 4 A rfl rfl fun A => R9 A rfl h0 rfl (by simp only [oneS, nb, nbL, nbH, brmw0, if_neg (h1), if_pos h2]) rfl)
   (fun h2 A => M hX 10 A rfl rfl fun A => R9 A rfl h0 rfl (by simp only [oneS, nb, nbL, nbH, brmw0, if_neg (h1), if_neg (h2)]) rfl))
end Go.Proofs.YtjkppaijicjpoaaGreatDoor.Mc.Lo
namespace Go.Proofs.YtjkppaijicjpoaaGreatDoor.Mc.Lo
open Go.RowKit
set_option linter.unusedVariables false
set_option linter.unusedSimpArgs false
set_option maxRecDepth 100000
set_option maxHeartbeats 2000000
set_option simprocs false
structure Ev where
 pos : Int
 at_ : Int
 op : Int
 loc : Int
 mask : Int
 rd : Bool
 wr : Bool
 old : Int
 new : Int
 acq : Bool
 weak : Bool
 rel : Bool
 pred : Int
 succ : Int
def Ev.z : Ev := ⟨0, 0, 0, 0, 0, false, false, 0, 0, false, false, false, 0, 0⟩
abbrev evtS (e : Ev) : List SV := [.z9, .int .i64 e.pos, .int .i64 e.at_, .int .i64 e.op, .int .i64 e.loc, .int .i64 e.mask, .bool e.rd, .bool e.wr, .int .i64 e.old, .int .i64 e.new, .bool e.acq, .bool e.weak, .bool e.rel, .int .i64 e.pred, .int .i64 e.succ]
theorem regOr_ (at_ : Int) (r : Rg) (ra : Option Addr) (rn rc : Nat) (es : List Ev) (ps : List Int) (g o1 : Int) (hg : -1 ≤ g ∧ g < 8) : Fn Tryz.prog 62 [.ptr 0 0, .int .i64 g, .int .i64 o1] [some (.blk [.int .i64 at_, .int .i64 (r 0), .int .i64 (r 1), .int .i64 (r 2), .int .i64 (r 3), .int .i64 (r 4), .int .i64 (r 5), .int .i64 (r 6), .int .i64 (r 7), .sla ra rn rc, .sl 1 es.length 0, .sl 2 ps.length 0]), some (.row 49 15 es.length 0 (fun j => evtS (es.getD j Ev.z))), some (.row 3 1 ps.length 0 (fun j => [.int .i64 (ps.getD j 0)]))] (Rt (.int .i64 (rgO r g o1)) [some (.blk [.int .i64 at_, .int .i64 (r 0), .int .i64 (r 1), .int .i64 (r 2), .int .i64 (r 3), .int .i64 (r 4), .int .i64 (r 5), .int .i64 (r 6), .int .i64 (r 7), .sla ra rn rc, .sl 1 es.length 0, .sl 2 ps.length 0]), some (.row 49 15 es.length 0 (fun j => evtS (es.getD j Ev.z))), some (.row 3 1 ps.length 0 (fun j => [.int .i64 (ps.getD j 0)]))]) :=
 enterM (n := 16) (by kernel_rfl) Tryz.func62 rfl rfl rfl fun G w a h0 A => N9 12 A rfl rfl fun A => forkE 8 A rfl
  (fun h1 A => N9 8 A rfl rfl fun A => R9 A rfl h0 rfl (by unfold rgO; rw [if_pos h1] <;> rfl) rfl)
  (fun h1 A => N9 10 A rfl (ok_d (by omega) <| okE_nil) fun A => q_eff A rfl (ldwE (r := r) hX rfl rfl rfl rfl rfl rfl rfl (by omega)) fun A => N9 4 A rfl rfl fun A => R9 A rfl h0 rfl (by unfold rgO; rw [if_neg h1] <;> rfl) rfl)
theorem event_ (at_ : Int) (r : Rg) (ra : Option Addr) (rn rc : Nat) (es : List Ev) (ps : List Int) (i : In)  : Fn Tryz.prog 64 [.ptr 0 0, .agg (inQ9 i)] [some (.blk [.int .i64 at_, .int .i64 (r 0), .int .i64 (r 1), .int .i64 (r 2), .int .i64 (r 3), .int .i64 (r 4), .int .i64 (r 5), .int .i64 (r 6), .int .i64 (r 7), .sla ra rn rc, .sl 1 es.length 0, .sl 2 ps.length 0]), some (.row 49 15 es.length 0 (fun j => evtS (es.getD j Ev.z))), some (.row 3 1 ps.length 0 (fun j => [.int .i64 (ps.getD j 0)]))] (Rt (.agg [.z9, .int .i64 ((ps.length : Nat) : Int), .int .i64 at_, .int .i64 i.op, .z9, .z9, .bool ((i.op == 4) || (i.op == 6)), .bool ((i.op == 5) || (i.op == 6)), .z9, .z9, .bool i.acq, .bool i.weak, .bool i.rel, .int .i64 i.pred, .int .i64 i.succ]) [some (.blk [.int .i64 at_, .int .i64 (r 0), .int .i64 (r 1), .int .i64 (r 2), .int .i64 (r 3), .int .i64 (r 4), .int .i64 (r 5), .int .i64 (r 6), .int .i64 (r 7), .sla ra rn rc, .sl 1 es.length 0, .sl 2 ps.length 0]), some (.row 49 15 es.length 0 (fun j => evtS (es.getD j Ev.z))), some (.row 3 1 ps.length 0 (fun j => [.int .i64 (ps.getD j 0)]))]) :=
 enterM (n := 31) (by kernel_rfl) Tryz.func64 rfl rfl rfl fun G w a h0 A => N9 7 A rfl rfl fun A => DRAWN hX hmo [(12, .bool ((i.op == 4) || (i.op == 6))), (14, .bool ((i.op == 5) || (i.op == 6)))] [] A rfl rfl rfl rfl (by kernel_rfl) (effAll_nil _ _) ⟨.inl ⟨_, _, rfl, rfl, Reads_ i ⟩, ⟨.inl ⟨_, _, rfl, rfl, Writes_ i ⟩, trivial⟩⟩ fun A => N9 2 A rfl rfl fun A => R9 A rfl h0 rfl rfl rfl
def wrF (r : Rg) (i : In) (old : Int) : Int := if i.op = 6 then brmw0 i.fn old (r i.ra.toNat) i.sz else bget0 (rgO r i.ra i.imm) i.sz
theorem written_ (at_ : Int) (r : Rg) (ra : Option Addr) (rn rc : Nat) (es : List Ev) (ps : List Int) (i : In) (old : Int) (hs : i.sz = 1 ∨ i.sz = 2 ∨ i.sz = 4 ∨ i.sz = 8) (ha : -1 ≤ i.ra ∧ i.ra < 8) (hw : i.op = 6 → 0 ≤ i.ra ∧ i.ra < 8) : Fn Tryz.prog 92 [.ptr 0 0, .agg (inQ9 i), .int .i64 old] [some (.blk [.int .i64 at_, .int .i64 (r 0), .int .i64 (r 1), .int .i64 (r 2), .int .i64 (r 3), .int .i64 (r 4), .int .i64 (r 5), .int .i64 (r 6), .int .i64 (r 7), .sla ra rn rc, .sl 1 es.length 0, .sl 2 ps.length 0]), some (.row 49 15 es.length 0 (fun j => evtS (es.getD j Ev.z))), some (.row 3 1 ps.length 0 (fun j => [.int .i64 (ps.getD j 0)]))] (Rt (.int .i64 (wrF r i old)) [some (.blk [.int .i64 at_, .int .i64 (r 0), .int .i64 (r 1), .int .i64 (r 2), .int .i64 (r 3), .int .i64 (r 4), .int .i64 (r 5), .int .i64 (r 6), .int .i64 (r 7), .sla ra rn rc, .sl 1 es.length 0, .sl 2 ps.length 0]), some (.row 49 15 es.length 0 (fun j => evtS (es.getD j Ev.z))), some (.row 3 1 ps.length 0 (fun j => [.int .i64 (ps.getD j 0)]))]) :=
 enterM (n := 32) (by kernel_rfl) Tryz.func92 rfl rfl rfl fun G w a h0 A => N9 14 A rfl rfl fun A => forkE 9 A rfl
  (fun h1 A => N9 2 A rfl rfl fun A => ANY hmo [.ptr 3 9, .int .i64 i.fn, .int .i64 old, .ptr 0 0, .ptr 3 2, .int .i64 i.ra, .ptr 0 0, .ptr 0 1, .ix (.ptr 0 1) 1 8 i.ra 0, .int .i64 (r (i.ra).toNat), .ptr 3 8, .int .i64 i.sz, .int .i64 (brmw0 i.fn old (r (i.ra).toNat) i.sz), .int .i64 (brmw0 i.fn old (r (i.ra).toNat) i.sz)] [] [] 0 [([], [], [some (.blk [.int .i64 at_, .int .i64 (r 0), .int .i64 (r 1), .int .i64 (r 2), .int .i64 (r 3), .int .i64 (r 4), .int .i64 (r 5), .int .i64 (r 6), .int .i64 (r 7), .sla ra rn rc, .sl 1 es.length 0, .sl 2 ps.length 0]), some (.row 49 15 es.length 0 (fun j => evtS (es.getD j Ev.z))), some (.row 3 1 ps.length 0 (fun j => [.int .i64 (ps.getD j 0)])), some (.blk (inQ9 i))])] [[true, true, true, true, true, true, true, true, true, true, true, true, true, true]] A rfl rfl rfl rfl (by kernel_rfl) rfl (by kernel_rfl) ⟨⟨oV9 0 rfl rfl, ⟨oV9 0 rfl rfl, ⟨oV9 0 rfl rfl, ⟨oV9 0 rfl rfl, ⟨oV9 0 rfl rfl, ⟨oV9 0 rfl rfl, ⟨oV9 0 rfl rfl, ⟨oV9 0 rfl rfl, ⟨oV9 0 rfl (ok_d (by omega) <| okE_nil), ⟨⟨_, _, _, _, 0, rfl, rfl, rfl, rfl, eff_at (ldwE (r := r) hX rfl rfl rfl rfl rfl rfl rfl (hw h1)) rfl⟩, ⟨oV9 0 rfl rfl, ⟨oV9 0 rfl rfl, ⟨⟨_, _, _, _, 0, rfl, rfl, rfl, rfl, eff_at (eff_pure rfl rfl (brmw_ i.fn old (r (i.ra).toNat) i.sz hs)) rfl⟩, ⟨oV9 0 rfl rfl, trivial⟩⟩⟩⟩⟩⟩⟩⟩⟩⟩⟩⟩⟩⟩, trivial⟩ fun A => N9 2 A rfl rfl fun A => R9 A rfl h0 rfl (by unfold wrF; rw [if_pos h1] <;> rfl) rfl)
  (fun h1 A => N9 4 A rfl rfl fun A => DRAWN hX hmo [(8, .int .i64 (bget0 (rgO r i.ra i.imm) i.sz))] [(5, .int .i64 (rgO r i.ra i.imm), [some (.blk [.int .i64 at_, .int .i64 (r 0), .int .i64 (r 1), .int .i64 (r 2), .int .i64 (r 3), .int .i64 (r 4), .int .i64 (r 5), .int .i64 (r 6), .int .i64 (r 7), .sla ra rn rc, .sl 1 es.length 0, .sl 2 ps.length 0]), some (.row 49 15 es.length 0 (fun j => evtS (es.getD j Ev.z))), some (.row 3 1 ps.length 0 (fun j => [.int .i64 (ps.getD j 0)])), some (.blk (inQ9 i))])] A rfl rfl rfl rfl (by kernel_rfl) ⟨callE [0, 1, 2] (regOr_ at_ r ra rn rc es ps i.ra i.imm ha) rfl rfl rfl rfl rfl rfl rfl, trivial⟩ ⟨.inl ⟨_, _, rfl, rfl, bget_ (rgO r i.ra i.imm) i.sz hs⟩, trivial⟩ fun A => N9 2 A rfl rfl fun A => R9 A rfl h0 rfl (by unfold wrF; rw [if_neg h1] <;> rfl) rfl)
end Go.Proofs.YtjkppaijicjpoaaGreatDoor.Mc.Lo
namespace Go.Proofs.YtjkppaijicjpoaaGreatDoor.Mc.Lo
open Go.RowKit
set_option linter.unusedVariables false
set_option linter.unusedSimpArgs false
set_option maxRecDepth 100000
set_option maxHeartbeats 2000000
set_option simprocs false
def RdA (ra : Option Addr) (lr : List Int) : Amb := fun w ks => RdAt ra lr w ks
theorem RdA.ok {ra : Option Addr} {lr : List Int} : Amb.OK (RdA ra lr) := fun w ks w' ks' h m hk => RdAt.go h m hk
theorem rdH {ra : Option Addr} {lr : List Int} {w : World} {ks : List Nat} (h : RdA ra lr w ks) (hn : lr.length ≠ 0) : RdAt ra (lr.headD 0 :: lr.tail) w ks := by
 cases lr with
 | nil => exact absurd rfl hn
 | cons x l => exact h
theorem getD_lE {l : List Ev} {e : Ev} {k : Nat} (h : k < l.length) : (l ++ [e]).getD k Ev.z = l.getD k Ev.z := by
 rw [List.getD_eq_getElem?_getD, List.getD_eq_getElem?_getD, List.getElem?_append_left h]
theorem getD_1E {l : List Ev} {e : Ev} : (l ++ [e]).getD l.length Ev.z = e := by
 rw [List.getD_eq_getElem?_getD, List.getElem?_append_right (Nat.le_refl _)]; simp
def acOld (i : In) (lr : List Int) : Int := if ((i.op == 4) || (i.op == 6)) = true then bget0 (lr.headD 0) i.sz else 0
def acNew (r : Rg) (i : In) (lr : List Int) : Int := if ((i.op == 5) || (i.op == 6)) = true then wrF r i (acOld i lr) else 0
def acR (r : Rg) (i : In) (lr : List Int) : Rg := if ((i.op == 4) || (i.op == 6)) = true then updR r i.dst.toNat (acOld i lr) else r
def acA (ra : Option Addr) (rc : Nat) (i : In) : Option Addr := if ((i.op == 4) || (i.op == 6)) = true then tlA ra rc else ra
def acN (n : Nat) (i : In) : Nat := if ((i.op == 4) || (i.op == 6)) = true then n - 1 else n
def acE (at_ : Int) (r : Rg) (pn : Int) (i : In) (lr : List Int) : Ev := ⟨pn, at_, i.op, i.loc, bmask0 (bplace0 i.off (rgO r i.ix 0) i.sz) i.sz, (i.op == 4) || (i.op == 6), (i.op == 5) || (i.op == 6), acOld i lr, acNew r i lr, i.acq, i.weak, i.rel, i.pred, i.succ⟩
theorem access_ (at_ : Int) (r : Rg) (ra : Option Addr) (lr : List Int) (rc : Nat) (es : List Ev) (ps : List Int) (i : In) (hs : i.sz = 1 ∨ i.sz = 2 ∨ i.sz = 4 ∨ i.sz = 8) (hx : -1 ≤ i.ix ∧ i.ix < 8) (ha : ((i.op == 5) || (i.op == 6)) = true → -1 ≤ i.ra ∧ i.ra < 8) (hw : i.op = 6 → 0 ≤ i.ra ∧ i.ra < 8) (hd : ((i.op == 4) || (i.op == 6)) = true → 0 ≤ i.dst ∧ i.dst < 8) (hrd : ((i.op == 4) || (i.op == 6)) = true → lr.length ≠ 0) (hlc : lr.length ≤ rc) (hln : lr.length ≤ 1000000) (hes : es.length ≤ 1000000) : FnI (RdA ra lr) Tryz.prog 63 [.ptr 0 0, .agg (inQ9 i)] [some (.blk [.int .i64 at_, .int .i64 (r 0), .int .i64 (r 1), .int .i64 (r 2), .int .i64 (r 3), .int .i64 (r 4), .int .i64 (r 5), .int .i64 (r 6), .int .i64 (r 7), .sla ra lr.length rc, .sl 1 es.length 0, .sl 2 ps.length 0]), some (.row 49 15 es.length 0 (fun j => evtS (es.getD j Ev.z))), some (.row 3 1 ps.length 0 (fun j => [.int .i64 (ps.getD j 0)]))] (Rt (.tt) [some (.blk [.int .i64 at_, .int .i64 ((acR r i lr) 0), .int .i64 ((acR r i lr) 1), .int .i64 ((acR r i lr) 2), .int .i64 ((acR r i lr) 3), .int .i64 ((acR r i lr) 4), .int .i64 ((acR r i lr) 5), .int .i64 ((acR r i lr) 6), .int .i64 ((acR r i lr) 7), .sla (acA ra rc i) (acN lr.length i) (acN rc i), .sl 3 (es.length + 1) 0, .sl 2 ps.length 0]), none, some (.row 3 1 ps.length 0 (fun j => [.int .i64 (ps.getD j 0)])), some (.row 49 15 (es.length + 1) 0 (fun j => evtS ((es ++ [acE at_ r ((ps.length : Nat) : Int) i lr]).getD j Ev.z)))]) :=
 enterI (n := 81) (by kernel_rfl) Tryz.func63 rfl rfl rfl fun G w a h0 hI A => N9 10 A rfl rfl fun A => C9 [0, 1, 2] (event_ at_ r ra lr.length rc es ps i) A rfl fun A => N9 5 A rfl rfl fun A => DRAWN hX hmo [(8, .int .i64 (bplace0 i.off (rgO r i.ix 0) i.sz))] [(5, .int .i64 (rgO r i.ix 0), [some (.blk [.int .i64 at_, .int .i64 (r 0), .int .i64 (r 1), .int .i64 (r 2), .int .i64 (r 3), .int .i64 (r 4), .int .i64 (r 5), .int .i64 (r 6), .int .i64 (r 7), .sla ra lr.length rc, .sl 1 es.length 0, .sl 2 ps.length 0]), some (.row 49 15 es.length 0 (fun j => evtS (es.getD j Ev.z))), some (.row 3 1 ps.length 0 (fun j => [.int .i64 (ps.getD j 0)])), some (.blk (inQ9 i)), some (.blk [.z9, .int .i64 ((ps.length : Nat) : Int), .int .i64 at_, .int .i64 i.op, .z9, .z9, .bool ((i.op == 4) || (i.op == 6)), .bool ((i.op == 5) || (i.op == 6)), .z9, .z9, .bool i.acq, .bool i.weak, .bool i.rel, .int .i64 i.pred, .int .i64 i.succ])])] A rfl rfl rfl rfl (by kernel_rfl) ⟨callE [0, 1, 2] (regOr_ at_ r ra lr.length rc es ps i.ix 0 (by omega)) rfl rfl rfl rfl rfl rfl rfl, trivial⟩ ⟨.inl ⟨_, _, rfl, rfl, bplace_ i.off (rgO r i.ix 0) i.sz⟩, trivial⟩ fun A => N9 2 A rfl rfl fun A => DRAWN hX hmo [(5, .int .i64 (bmask0 (bplace0 i.off (rgO r i.ix 0) i.sz) i.sz))] [] A rfl rfl rfl rfl (by kernel_rfl) (effAll_nil _ _) ⟨.inl ⟨_, _, rfl, rfl, bmask_ (bplace0 i.off (rgO r i.ix 0) i.sz) i.sz hs⟩, trivial⟩ fun A => N9 8 A rfl rfl fun A => fork 28 A rfl
  (fun h1 A => N9 12 A rfl rfl fun A => forkE 34 A rfl
   (fun h2 A => N9 7 A rfl rfl fun A => absurd (by omega) (hrd h1))
   (fun h2 A => N9 4 A rfl rfl fun A => ANY hmo [.ptr 0 0, .ptr 0 0, .ptr 0 9, .sla ra lr.length rc, .v (.pointer ra), .int .i64 (lr.headD 0), .ptr 3 8, .int .i64 i.sz, .int .i64 (bget0 (lr.headD 0) i.sz), .ptr 4 8, .tup []] [10] [] 0 [([], [], [some (.blk [.int .i64 at_, .int .i64 (r 0), .int .i64 (r 1), .int .i64 (r 2), .int .i64 (r 3), .int .i64 (r 4), .int .i64 (r 5), .int .i64 (r 6), .int .i64 (r 7), .sla ra lr.length rc, .sl 1 es.length 0, .sl 2 ps.length 0]), some (.row 49 15 es.length 0 (fun j => evtS (es.getD j Ev.z))), some (.row 3 1 ps.length 0 (fun j => [.int .i64 (ps.getD j 0)])), some (.blk (inQ9 i)), some (.blk [.z9, .int .i64 ((ps.length : Nat) : Int), .int .i64 at_, .int .i64 i.op, .int .i64 i.loc, .int .i64 (bmask0 (bplace0 i.off (rgO r i.ix 0) i.sz) i.sz), .bool ((i.op == 4) || (i.op == 6)), .bool ((i.op == 5) || (i.op == 6)), .z9, .z9, .bool i.acq, .bool i.weak, .bool i.rel, .int .i64 i.pred, .int .i64 i.succ])]), ([10], [], [some (.blk [.int .i64 at_, .int .i64 (r 0), .int .i64 (r 1), .int .i64 (r 2), .int .i64 (r 3), .int .i64 (r 4), .int .i64 (r 5), .int .i64 (r 6), .int .i64 (r 7), .sla ra lr.length rc, .sl 1 es.length 0, .sl 2 ps.length 0]), some (.row 49 15 es.length 0 (fun j => evtS (es.getD j Ev.z))), some (.row 3 1 ps.length 0 (fun j => [.int .i64 (ps.getD j 0)])), some (.blk (inQ9 i)), some (.blk [.z9, .int .i64 ((ps.length : Nat) : Int), .int .i64 at_, .int .i64 i.op, .int .i64 i.loc, .int .i64 (bmask0 (bplace0 i.off (rgO r i.ix 0) i.sz) i.sz), .bool ((i.op == 4) || (i.op == 6)), .bool ((i.op == 5) || (i.op == 6)), .int .i64 (bget0 (lr.headD 0) i.sz), .z9, .bool i.acq, .bool i.weak, .bool i.rel, .int .i64 i.pred, .int .i64 i.succ])])] [[true, true, true, true, true, true, true, true, true, true, true], [false, false, false, false, false, false, false, false, false, false, false]] A rfl rfl rfl rfl (by kernel_rfl) rfl (by kernel_rfl) ⟨⟨oV9 0 rfl rfl, ⟨oV9 0 rfl rfl, ⟨oV9 0 rfl rfl, ⟨oV9 0 rfl rfl, ⟨⟨_, _, _, _, 0, rfl, rfl, rfl, rfl, eff_at (ix0E (e := 3) rfl rfl rfl rfl (rdH hI (by omega)).at (by kernel_rfl) (by omega)) rfl⟩, ⟨⟨_, _, _, _, 0, rfl, rfl, rfl, rfl, eff_at (ld0E rfl rfl rfl (by kernel_rfl) (rdH hI (by omega))) rfl⟩, ⟨oV9 0 rfl rfl, ⟨oV9 0 rfl rfl, ⟨⟨_, _, _, _, 0, rfl, rfl, rfl, rfl, eff_at (eff_pure rfl rfl (bget_ (lr.headD 0) i.sz hs)) rfl⟩, ⟨oV9 0 rfl rfl, ⟨⟨_, _, _, _, 1, rfl, rfl, rfl, rfl, eff_at (eff_auto (X := ⟨_, true⟩) (out := .upd 4 [.z9, .int .i64 ((ps.length : Nat) : Int), .int .i64 at_, .int .i64 i.op, .int .i64 i.loc, .int .i64 (bmask0 (bplace0 i.off (rgO r i.ix 0) i.sz) i.sz), .bool ((i.op == 4) || (i.op == 6)), .bool ((i.op == 5) || (i.op == 6)), .int .i64 (bget0 (lr.headD 0) i.sz), .z9, .bool i.acq, .bool i.weak, .bool i.rel, .int .i64 i.pred, .int .i64 i.succ] _) hX rfl rfl) rfl⟩, trivial⟩⟩⟩⟩⟩⟩⟩⟩⟩⟩⟩, ⟨trivial, trivial⟩⟩ fun A => N9 7 A rfl rfl fun A => q_eff A rfl (tlE (e := 3) rfl rfl rfl rfl (rdH hI (by omega)).at (by kernel_rfl) (by omega) hlc) fun A => N9 12 A rfl rfl fun A => fork 54 A rfl
    (fun h3 A => N9 6 A rfl rfl fun A => C9 [0, 1, 2] (written_ at_ r (tlA ra rc) (lr.length - 1) (rc - 1) es ps i (bget0 (lr.headD 0) i.sz) hs (ha h3) hw) A rfl fun A => N9 11 A rfl rfl fun A => fork 62 A rfl
     (fun h4 A => N9 1 A rfl rfl fun A => DRAWN hX hmo [] [(8, .tup [], [some (.blk [.int .i64 at_, .int .i64 ((updR r (i.dst).toNat (bget0 (lr.headD 0) i.sz)) 0), .int .i64 ((updR r (i.dst).toNat (bget0 (lr.headD 0) i.sz)) 1), .int .i64 ((updR r (i.dst).toNat (bget0 (lr.headD 0) i.sz)) 2), .int .i64 ((updR r (i.dst).toNat (bget0 (lr.headD 0) i.sz)) 3), .int .i64 ((updR r (i.dst).toNat (bget0 (lr.headD 0) i.sz)) 4), .int .i64 ((updR r (i.dst).toNat (bget0 (lr.headD 0) i.sz)) 5), .int .i64 ((updR r (i.dst).toNat (bget0 (lr.headD 0) i.sz)) 6), .int .i64 ((updR r (i.dst).toNat (bget0 (lr.headD 0) i.sz)) 7), .sla (tlA ra rc) (lr.length - 1) (rc - 1), .sl 1 es.length 0, .sl 2 ps.length 0]), some (.row 49 15 es.length 0 (fun j => evtS (es.getD j Ev.z))), some (.row 3 1 ps.length 0 (fun j => [.int .i64 (ps.getD j 0)])), some (.blk (inQ9 i)), some (.blk [.z9, .int .i64 ((ps.length : Nat) : Int), .int .i64 at_, .int .i64 i.op, .int .i64 i.loc, .int .i64 (bmask0 (bplace0 i.off (rgO r i.ix 0) i.sz) i.sz), .bool ((i.op == 4) || (i.op == 6)), .bool ((i.op == 5) || (i.op == 6)), .int .i64 (bget0 (lr.headD 0) i.sz), .int .i64 (wrF r i (bget0 (lr.headD 0) i.sz)), .bool i.acq, .bool i.weak, .bool i.rel, .int .i64 i.pred, .int .i64 i.succ])])] A rfl (ok_d (by have := hd h1; omega) <| okE_nil) rfl rfl (by kernel_rfl) ⟨stwE (i := 0) (r := r) hX rfl rfl rfl rfl rfl rfl rfl rfl (hd h1), trivial⟩ trivial fun A => N9 2 A rfl rfl fun A => DRAWN hX hmo [] [(7, .sl 6 (es.length + 1) 0, [some (.blk [.int .i64 at_, .int .i64 ((updR r (i.dst).toNat (bget0 (lr.headD 0) i.sz)) 0), .int .i64 ((updR r (i.dst).toNat (bget0 (lr.headD 0) i.sz)) 1), .int .i64 ((updR r (i.dst).toNat (bget0 (lr.headD 0) i.sz)) 2), .int .i64 ((updR r (i.dst).toNat (bget0 (lr.headD 0) i.sz)) 3), .int .i64 ((updR r (i.dst).toNat (bget0 (lr.headD 0) i.sz)) 4), .int .i64 ((updR r (i.dst).toNat (bget0 (lr.headD 0) i.sz)) 5), .int .i64 ((updR r (i.dst).toNat (bget0 (lr.headD 0) i.sz)) 6), .int .i64 ((updR r (i.dst).toNat (bget0 (lr.headD 0) i.sz)) 7), .sla (tlA ra rc) (lr.length - 1) (rc - 1), .sl 1 es.length 0, .sl 2 ps.length 0]), none, some (.row 3 1 ps.length 0 (fun j => [.int .i64 (ps.getD j 0)])), some (.blk (inQ9 i)), some (.blk [.z9, .int .i64 ((ps.length : Nat) : Int), .int .i64 at_, .int .i64 i.op, .int .i64 i.loc, .int .i64 (bmask0 (bplace0 i.off (rgO r i.ix 0) i.sz) i.sz), .bool ((i.op == 4) || (i.op == 6)), .bool ((i.op == 5) || (i.op == 6)), .int .i64 (bget0 (lr.headD 0) i.sz), .int .i64 (wrF r i (bget0 (lr.headD 0) i.sz)), .bool i.acq, .bool i.weak, .bool i.rel, .int .i64 i.pred, .int .i64 i.succ]), some (.blk [.z9, .int .i64 ((ps.length : Nat) : Int), .int .i64 at_, .int .i64 i.op, .int .i64 i.loc, .int .i64 (bmask0 (bplace0 i.off (rgO r i.ix 0) i.sz) i.sz), .bool ((i.op == 4) || (i.op == 6)), .bool ((i.op == 5) || (i.op == 6)), .int .i64 (bget0 (lr.headD 0) i.sz), .int .i64 (wrF r i (bget0 (lr.headD 0) i.sz)), .bool i.acq, .bool i.weak, .bool i.rel, .int .i64 i.pred, .int .i64 i.succ]), some (.row 49 15 (es.length + 1) 0 (fun j => evtS ((es ++ [(⟨((ps.length : Nat) : Int), at_, i.op, i.loc, bmask0 (bplace0 i.off (rgO r i.ix 0) i.sz) i.sz, (i.op == 4) || (i.op == 6), (i.op == 5) || (i.op == 6), bget0 (lr.headD 0) i.sz, wrF r i (bget0 (lr.headD 0) i.sz), i.acq, i.weak, i.rel, i.pred, i.succ⟩ : Ev)]).getD j Ev.z)))])] A rfl rfl rfl rfl (by kernel_rfl) ⟨trivial, ⟨appE (i := 1) hX (es.length + 1) (fun j => evtS ((es ++ [(⟨((ps.length : Nat) : Int), at_, i.op, i.loc, bmask0 (bplace0 i.off (rgO r i.ix 0) i.sz) i.sz, (i.op == 4) || (i.op == 6), (i.op == 5) || (i.op == 6), bget0 (lr.headD 0) i.sz, wrF r i (bget0 (lr.headD 0) i.sz), i.acq, i.weak, i.rel, i.pred, i.succ⟩ : Ev)]).getD j Ev.z)) rfl rfl rfl rfl hes rfl (fun k hk => by show evtS _ = evtS _; rw [getD_lE hk]) (by show evtS _ = _; rw [getD_1E]) (fun z => ⟨_, rfl, rfl⟩), ⟨trivial, trivial⟩⟩⟩ trivial fun A => N9 7 A rfl rfl fun A => RET hX [6] A ⟨rfl, (by simp only [acE, acNew, acOld, acR, acA, acN, if_pos h1, if_pos h3] <;> rfl)⟩ rfl rfl rfl rfl rfl rfl rfl rfl h0)
     (fun h4 A => absurd (h1.symm.trans h4) (by decide)))
    (fun h3 A => N9 10 A rfl rfl fun A => fork 62 A rfl
     (fun h5 A => N9 1 A rfl rfl fun A => DRAWN hX hmo [] [(8, .tup [], [some (.blk [.int .i64 at_, .int .i64 ((updR r (i.dst).toNat (bget0 (lr.headD 0) i.sz)) 0), .int .i64 ((updR r (i.dst).toNat (bget0 (lr.headD 0) i.sz)) 1), .int .i64 ((updR r (i.dst).toNat (bget0 (lr.headD 0) i.sz)) 2), .int .i64 ((updR r (i.dst).toNat (bget0 (lr.headD 0) i.sz)) 3), .int .i64 ((updR r (i.dst).toNat (bget0 (lr.headD 0) i.sz)) 4), .int .i64 ((updR r (i.dst).toNat (bget0 (lr.headD 0) i.sz)) 5), .int .i64 ((updR r (i.dst).toNat (bget0 (lr.headD 0) i.sz)) 6), .int .i64 ((updR r (i.dst).toNat (bget0 (lr.headD 0) i.sz)) 7), .sla (tlA ra rc) (lr.length - 1) (rc - 1), .sl 1 es.length 0, .sl 2 ps.length 0]), some (.row 49 15 es.length 0 (fun j => evtS (es.getD j Ev.z))), some (.row 3 1 ps.length 0 (fun j => [.int .i64 (ps.getD j 0)])), some (.blk (inQ9 i)), some (.blk [.z9, .int .i64 ((ps.length : Nat) : Int), .int .i64 at_, .int .i64 i.op, .int .i64 i.loc, .int .i64 (bmask0 (bplace0 i.off (rgO r i.ix 0) i.sz) i.sz), .bool ((i.op == 4) || (i.op == 6)), .bool ((i.op == 5) || (i.op == 6)), .int .i64 (bget0 (lr.headD 0) i.sz), .z9, .bool i.acq, .bool i.weak, .bool i.rel, .int .i64 i.pred, .int .i64 i.succ])])] A rfl (ok_d (by have := hd h1; omega) <| okE_nil) rfl rfl (by kernel_rfl) ⟨stwE (i := 0) (r := r) hX rfl rfl rfl rfl rfl rfl rfl rfl (hd h1), trivial⟩ trivial fun A => N9 2 A rfl rfl fun A => DRAWN hX hmo [] [(7, .sl 6 (es.length + 1) 0, [some (.blk [.int .i64 at_, .int .i64 ((updR r (i.dst).toNat (bget0 (lr.headD 0) i.sz)) 0), .int .i64 ((updR r (i.dst).toNat (bget0 (lr.headD 0) i.sz)) 1), .int .i64 ((updR r (i.dst).toNat (bget0 (lr.headD 0) i.sz)) 2), .int .i64 ((updR r (i.dst).toNat (bget0 (lr.headD 0) i.sz)) 3), .int .i64 ((updR r (i.dst).toNat (bget0 (lr.headD 0) i.sz)) 4), .int .i64 ((updR r (i.dst).toNat (bget0 (lr.headD 0) i.sz)) 5), .int .i64 ((updR r (i.dst).toNat (bget0 (lr.headD 0) i.sz)) 6), .int .i64 ((updR r (i.dst).toNat (bget0 (lr.headD 0) i.sz)) 7), .sla (tlA ra rc) (lr.length - 1) (rc - 1), .sl 1 es.length 0, .sl 2 ps.length 0]), none, some (.row 3 1 ps.length 0 (fun j => [.int .i64 (ps.getD j 0)])), some (.blk (inQ9 i)), some (.blk [.z9, .int .i64 ((ps.length : Nat) : Int), .int .i64 at_, .int .i64 i.op, .int .i64 i.loc, .int .i64 (bmask0 (bplace0 i.off (rgO r i.ix 0) i.sz) i.sz), .bool ((i.op == 4) || (i.op == 6)), .bool ((i.op == 5) || (i.op == 6)), .int .i64 (bget0 (lr.headD 0) i.sz), .z9, .bool i.acq, .bool i.weak, .bool i.rel, .int .i64 i.pred, .int .i64 i.succ]), some (.blk [.z9, .int .i64 ((ps.length : Nat) : Int), .int .i64 at_, .int .i64 i.op, .int .i64 i.loc, .int .i64 (bmask0 (bplace0 i.off (rgO r i.ix 0) i.sz) i.sz), .bool ((i.op == 4) || (i.op == 6)), .bool ((i.op == 5) || (i.op == 6)), .int .i64 (bget0 (lr.headD 0) i.sz), .z9, .bool i.acq, .bool i.weak, .bool i.rel, .int .i64 i.pred, .int .i64 i.succ]), some (.row 49 15 (es.length + 1) 0 (fun j => evtS ((es ++ [(⟨((ps.length : Nat) : Int), at_, i.op, i.loc, bmask0 (bplace0 i.off (rgO r i.ix 0) i.sz) i.sz, (i.op == 4) || (i.op == 6), (i.op == 5) || (i.op == 6), bget0 (lr.headD 0) i.sz, 0, i.acq, i.weak, i.rel, i.pred, i.succ⟩ : Ev)]).getD j Ev.z)))])] A rfl rfl rfl rfl (by kernel_rfl) ⟨trivial, ⟨appE (i := 1) hX (es.length + 1) (fun j => evtS ((es ++ [(⟨((ps.length : Nat) : Int), at_, i.op, i.loc, bmask0 (bplace0 i.off (rgO r i.ix 0) i.sz) i.sz, (i.op == 4) || (i.op == 6), (i.op == 5) || (i.op == 6), bget0 (lr.headD 0) i.sz, 0, i.acq, i.weak, i.rel, i.pred, i.succ⟩ : Ev)]).getD j Ev.z)) rfl rfl rfl rfl hes rfl (fun k hk => by show evtS _ = evtS _; rw [getD_lE hk]) (by show evtS _ = _; rw [getD_1E]) (fun z => ⟨_, rfl, rfl⟩), ⟨trivial, trivial⟩⟩⟩ trivial fun A => N9 7 A rfl rfl fun A => RET hX [6] A ⟨rfl, (by simp only [acE, acNew, acOld, acR, acA, acN, if_pos h1, if_neg (ne_true_of_eq_false h3)] <;> rfl)⟩ rfl rfl rfl rfl rfl rfl rfl rfl h0)
     (fun h5 A => absurd (h1.symm.trans h5) (by decide)))))
  (fun h1 A => N9 10 A rfl rfl fun A => fork 54 A rfl
   (fun h6 A => N9 6 A rfl rfl fun A => C9 [0, 1, 2] (written_ at_ r ra lr.length rc es ps i 0 hs (ha h6) hw) A rfl fun A => N9 11 A rfl rfl fun A => fork 62 A rfl
    (fun h7 A => absurd (h1.symm.trans h7) (by decide))
    (fun h7 A => N9 4 A rfl rfl fun A => DRAWN hX hmo [] [(7, .sl 6 (es.length + 1) 0, [some (.blk [.int .i64 at_, .int .i64 (r 0), .int .i64 (r 1), .int .i64 (r 2), .int .i64 (r 3), .int .i64 (r 4), .int .i64 (r 5), .int .i64 (r 6), .int .i64 (r 7), .sla ra lr.length rc, .sl 1 es.length 0, .sl 2 ps.length 0]), none, some (.row 3 1 ps.length 0 (fun j => [.int .i64 (ps.getD j 0)])), some (.blk (inQ9 i)), some (.blk [.z9, .int .i64 ((ps.length : Nat) : Int), .int .i64 at_, .int .i64 i.op, .int .i64 i.loc, .int .i64 (bmask0 (bplace0 i.off (rgO r i.ix 0) i.sz) i.sz), .bool ((i.op == 4) || (i.op == 6)), .bool ((i.op == 5) || (i.op == 6)), .z9, .int .i64 (wrF r i 0), .bool i.acq, .bool i.weak, .bool i.rel, .int .i64 i.pred, .int .i64 i.succ]), some (.blk [.z9, .int .i64 ((ps.length : Nat) : Int), .int .i64 at_, .int .i64 i.op, .int .i64 i.loc, .int .i64 (bmask0 (bplace0 i.off (rgO r i.ix 0) i.sz) i.sz), .bool ((i.op == 4) || (i.op == 6)), .bool ((i.op == 5) || (i.op == 6)), .z9, .int .i64 (wrF r i 0), .bool i.acq, .bool i.weak, .bool i.rel, .int .i64 i.pred, .int .i64 i.succ]), some (.row 49 15 (es.length + 1) 0 (fun j => evtS ((es ++ [(⟨((ps.length : Nat) : Int), at_, i.op, i.loc, bmask0 (bplace0 i.off (rgO r i.ix 0) i.sz) i.sz, (i.op == 4) || (i.op == 6), (i.op == 5) || (i.op == 6), 0, wrF r i 0, i.acq, i.weak, i.rel, i.pred, i.succ⟩ : Ev)]).getD j Ev.z)))])] A rfl rfl rfl rfl (by kernel_rfl) ⟨trivial, ⟨appE (i := 1) hX (es.length + 1) (fun j => evtS ((es ++ [(⟨((ps.length : Nat) : Int), at_, i.op, i.loc, bmask0 (bplace0 i.off (rgO r i.ix 0) i.sz) i.sz, (i.op == 4) || (i.op == 6), (i.op == 5) || (i.op == 6), 0, wrF r i 0, i.acq, i.weak, i.rel, i.pred, i.succ⟩ : Ev)]).getD j Ev.z)) rfl rfl rfl rfl hes rfl (fun k hk => by show evtS _ = evtS _; rw [getD_lE hk]) (by show evtS _ = _; rw [getD_1E]) (fun z => ⟨_, rfl, rfl⟩), ⟨trivial, trivial⟩⟩⟩ trivial fun A => N9 7 A rfl rfl fun A => RET hX [6] A ⟨rfl, (by simp only [acE, acNew, acOld, acR, acA, acN, if_neg (ne_true_of_eq_false h1), if_pos h6] <;> rfl)⟩ rfl rfl rfl rfl rfl rfl rfl rfl h0))
   (fun h6 A => N9 10 A rfl rfl fun A => fork 62 A rfl
    (fun h8 A => absurd (h1.symm.trans h8) (by decide))
    (fun h8 A => N9 4 A rfl rfl fun A => DRAWN hX hmo [] [(7, .sl 6 (es.length + 1) 0, [some (.blk [.int .i64 at_, .int .i64 (r 0), .int .i64 (r 1), .int .i64 (r 2), .int .i64 (r 3), .int .i64 (r 4), .int .i64 (r 5), .int .i64 (r 6), .int .i64 (r 7), .sla ra lr.length rc, .sl 1 es.length 0, .sl 2 ps.length 0]), none, some (.row 3 1 ps.length 0 (fun j => [.int .i64 (ps.getD j 0)])), some (.blk (inQ9 i)), some (.blk [.z9, .int .i64 ((ps.length : Nat) : Int), .int .i64 at_, .int .i64 i.op, .int .i64 i.loc, .int .i64 (bmask0 (bplace0 i.off (rgO r i.ix 0) i.sz) i.sz), .bool ((i.op == 4) || (i.op == 6)), .bool ((i.op == 5) || (i.op == 6)), .z9, .z9, .bool i.acq, .bool i.weak, .bool i.rel, .int .i64 i.pred, .int .i64 i.succ]), some (.blk [.z9, .int .i64 ((ps.length : Nat) : Int), .int .i64 at_, .int .i64 i.op, .int .i64 i.loc, .int .i64 (bmask0 (bplace0 i.off (rgO r i.ix 0) i.sz) i.sz), .bool ((i.op == 4) || (i.op == 6)), .bool ((i.op == 5) || (i.op == 6)), .z9, .z9, .bool i.acq, .bool i.weak, .bool i.rel, .int .i64 i.pred, .int .i64 i.succ]), some (.row 49 15 (es.length + 1) 0 (fun j => evtS ((es ++ [(⟨((ps.length : Nat) : Int), at_, i.op, i.loc, bmask0 (bplace0 i.off (rgO r i.ix 0) i.sz) i.sz, (i.op == 4) || (i.op == 6), (i.op == 5) || (i.op == 6), 0, 0, i.acq, i.weak, i.rel, i.pred, i.succ⟩ : Ev)]).getD j Ev.z)))])] A rfl rfl rfl rfl (by kernel_rfl) ⟨trivial, ⟨appE (i := 1) hX (es.length + 1) (fun j => evtS ((es ++ [(⟨((ps.length : Nat) : Int), at_, i.op, i.loc, bmask0 (bplace0 i.off (rgO r i.ix 0) i.sz) i.sz, (i.op == 4) || (i.op == 6), (i.op == 5) || (i.op == 6), 0, 0, i.acq, i.weak, i.rel, i.pred, i.succ⟩ : Ev)]).getD j Ev.z)) rfl rfl rfl rfl hes rfl (fun k hk => by show evtS _ = evtS _; rw [getD_lE hk]) (by show evtS _ = _; rw [getD_1E]) (fun z => ⟨_, rfl, rfl⟩), ⟨trivial, trivial⟩⟩⟩ trivial fun A => N9 7 A rfl rfl fun A => RET hX [6] A ⟨rfl, (by simp only [acE, acNew, acOld, acR, acA, acN, if_neg (ne_true_of_eq_false h1), if_neg (ne_true_of_eq_false h6)] <;> rfl)⟩ rfl rfl rfl rfl rfl rfl rfl rfl h0)))
end Go.Proofs.YtjkppaijicjpoaaGreatDoor.Mc.Lo
namespace Go.Proofs.YtjkppaijicjpoaaGreatDoor.Mc.Lo
open Go.RowKit
set_option linter.unusedVariables false
set_option linter.unusedSimpArgs false
set_option maxRecDepth 100000
set_option maxHeartbeats 2000000
set_option simprocs false
def stTo (at_ : Int) (r : Rg) (i : In) : Int := if (r i.ra.toNat == 0) = i.zero then i.to_ else at_ + 1
def feE (at_ pn : Int) (i : In) : Ev := ⟨pn, at_, i.op, 0, 0, (i.op == 4) || (i.op == 6), (i.op == 5) || (i.op == 6), 0, 0, i.acq, i.weak, i.rel, i.pred, i.succ⟩
theorem step1_ (at_ : Int) (r : Rg) (ra : Option Addr) (lr : List Int) (rc : Nat) (es : List Ev) (ps : List Int) (i : In) (hop : i.op = 1) (hd : 0 ≤ i.dst ∧ i.dst < 8) (hat : 0 ≤ at_ ∧ at_ ≤ 1000) (hes : es.length ≤ 1000000) (hps : ps.length ≤ 1000000) : FnI (RdA ra lr) Tryz.prog 42 [.ptr 0 0, .agg (inQ9 i)] [some (.blk [.int .i64 at_, .int .i64 (r 0), .int .i64 (r 1), .int .i64 (r 2), .int .i64 (r 3), .int .i64 (r 4), .int .i64 (r 5), .int .i64 (r 6), .int .i64 (r 7), .sla ra lr.length rc, .sl 1 es.length 0, .sl 2 ps.length 0]), some (.row 49 15 es.length 0 (fun j => evtS (es.getD j Ev.z))), some (.row 3 1 ps.length 0 (fun j => [.int .i64 (ps.getD j 0)]))] (Rt (.tt) [some (.blk [.int .i64 (at_ + 1), .int .i64 ((updR r (i.dst).toNat i.imm) 0), .int .i64 ((updR r (i.dst).toNat i.imm) 1), .int .i64 ((updR r (i.dst).toNat i.imm) 2), .int .i64 ((updR r (i.dst).toNat i.imm) 3), .int .i64 ((updR r (i.dst).toNat i.imm) 4), .int .i64 ((updR r (i.dst).toNat i.imm) 5), .int .i64 ((updR r (i.dst).toNat i.imm) 6), .int .i64 ((updR r (i.dst).toNat i.imm) 7), .sla ra lr.length rc, .sl 1 es.length 0, .sl 3 (ps.length + 1) 0]), some (.row 49 15 es.length 0 (fun j => evtS (es.getD j Ev.z))), none, some (.row 3 1 (ps.length + 1) 0 (fun j => [.int .i64 ((ps ++ [at_]).getD j 0)]))]) :=
 enterI (n := 117) (by kernel_rfl) Tryz.func42 rfl rfl rfl fun G w a h0 hI A => N9 18 A rfl (ok_d (by omega) <| okE_nil) fun A => N9 12 A rfl rfl fun A => forkE 13 A rfl
  (fun h1 A => N9 1 A rfl rfl fun A => DRAWN hX hmo [] [(8, .tup [], [some (.blk [.int .i64 at_, .int .i64 ((updR r (i.dst).toNat i.imm) 0), .int .i64 ((updR r (i.dst).toNat i.imm) 1), .int .i64 ((updR r (i.dst).toNat i.imm) 2), .int .i64 ((updR r (i.dst).toNat i.imm) 3), .int .i64 ((updR r (i.dst).toNat i.imm) 4), .int .i64 ((updR r (i.dst).toNat i.imm) 5), .int .i64 ((updR r (i.dst).toNat i.imm) 6), .int .i64 ((updR r (i.dst).toNat i.imm) 7), .sla ra lr.length rc, .sl 1 es.length 0, .sl 2 ps.length 0]), some (.row 49 15 es.length 0 (fun j => evtS (es.getD j Ev.z))), some (.row 3 1 ps.length 0 (fun j => [.int .i64 (ps.getD j 0)])), some (.blk (inQ9 i))])] A rfl (ok_d (by omega) <| okE_nil) rfl rfl (by kernel_rfl) ⟨stwE (i := 0) (r := r) hX rfl rfl rfl rfl rfl rfl rfl rfl (by omega), trivial⟩ trivial fun A => N9 3 A rfl rfl fun A => DRAWN hX hmo [] [(10, .sl 5 (ps.length + 1) 0, [some (.blk [.int .i64 at_, .int .i64 ((updR r (i.dst).toNat i.imm) 0), .int .i64 ((updR r (i.dst).toNat i.imm) 1), .int .i64 ((updR r (i.dst).toNat i.imm) 2), .int .i64 ((updR r (i.dst).toNat i.imm) 3), .int .i64 ((updR r (i.dst).toNat i.imm) 4), .int .i64 ((updR r (i.dst).toNat i.imm) 5), .int .i64 ((updR r (i.dst).toNat i.imm) 6), .int .i64 ((updR r (i.dst).toNat i.imm) 7), .sla ra lr.length rc, .sl 1 es.length 0, .sl 2 ps.length 0]), some (.row 49 15 es.length 0 (fun j => evtS (es.getD j Ev.z))), none, some (.blk (inQ9 i)), some (.blk [.int .i64 at_]), some (.row 3 1 (ps.length + 1) 0 (fun j => [.int .i64 ((ps ++ [at_]).getD j 0)]))])] A rfl rfl rfl rfl (by kernel_rfl) ⟨trivial, ⟨appE (i := 2) hX (ps.length + 1) (fun j => [.int .i64 ((ps ++ [at_]).getD j 0)]) rfl rfl rfl rfl hps rfl (fun k hk => by show [SV.int .i64 _] = [SV.int .i64 _]; rw [getD_app_l hk]) (by show [SV.int .i64 _] = _; rw [getD_app_1]) (fun z => ⟨_, rfl, rfl⟩), ⟨trivial, trivial⟩⟩⟩ trivial fun A => N9 16 A rfl rfl fun A => RET hX [5] A ⟨rfl, rfl⟩ rfl rfl rfl rfl rfl rfl rfl rfl h0)
  (fun h1 A => absurd (by omega) h1)
theorem step2_ (at_ : Int) (r : Rg) (ra : Option Addr) (lr : List Int) (rc : Nat) (es : List Ev) (ps : List Int) (i : In) (hop : i.op = 2) (hd : 0 ≤ i.dst ∧ i.dst < 8) (ha : 0 ≤ i.ra ∧ i.ra < 8) (hat : 0 ≤ at_ ∧ at_ ≤ 1000) (hes : es.length ≤ 1000000) (hps : ps.length ≤ 1000000) : FnI (RdA ra lr) Tryz.prog 42 [.ptr 0 0, .agg (inQ9 i)] [some (.blk [.int .i64 at_, .int .i64 (r 0), .int .i64 (r 1), .int .i64 (r 2), .int .i64 (r 3), .int .i64 (r 4), .int .i64 (r 5), .int .i64 (r 6), .int .i64 (r 7), .sla ra lr.length rc, .sl 1 es.length 0, .sl 2 ps.length 0]), some (.row 49 15 es.length 0 (fun j => evtS (es.getD j Ev.z))), some (.row 3 1 ps.length 0 (fun j => [.int .i64 (ps.getD j 0)]))] (Rt (.tt) [some (.blk [.int .i64 (at_ + 1), .int .i64 ((updR r (i.dst).toNat (r (i.ra).toNat)) 0), .int .i64 ((updR r (i.dst).toNat (r (i.ra).toNat)) 1), .int .i64 ((updR r (i.dst).toNat (r (i.ra).toNat)) 2), .int .i64 ((updR r (i.dst).toNat (r (i.ra).toNat)) 3), .int .i64 ((updR r (i.dst).toNat (r (i.ra).toNat)) 4), .int .i64 ((updR r (i.dst).toNat (r (i.ra).toNat)) 5), .int .i64 ((updR r (i.dst).toNat (r (i.ra).toNat)) 6), .int .i64 ((updR r (i.dst).toNat (r (i.ra).toNat)) 7), .sla ra lr.length rc, .sl 1 es.length 0, .sl 3 (ps.length + 1) 0]), some (.row 49 15 es.length 0 (fun j => evtS (es.getD j Ev.z))), none, some (.row 3 1 (ps.length + 1) 0 (fun j => [.int .i64 ((ps ++ [at_]).getD j 0)]))]) :=
 enterI (n := 117) (by kernel_rfl) Tryz.func42 rfl rfl rfl fun G w a h0 hI A => N9 18 A rfl (ok_d (by omega) <| okE_nil) fun A => N9 12 A rfl rfl fun A => forkE 13 A rfl
  (fun h1 A => absurd h1 (by omega))
  (fun h1 A => N9 7 A rfl rfl fun A => forkE 23 A rfl
   (fun h2 A => N9 1 A rfl rfl fun A => ANY hmo [.ptr 0 0, .ptr 3 1, .int .i64 i.dst, .ptr 0 0, .ptr 3 2, .int .i64 i.ra, .ptr 0 0, .ptr 0 1, .ix (.ptr 0 1) 1 8 i.ra 0, .int .i64 (r (i.ra).toNat), .ptr 0 0, .ptr 0 1, .ix (.ptr 0 1) 1 8 i.dst 0, .tup []] [13] [] 0 [([], [], [some (.blk [.int .i64 at_, .int .i64 (r 0), .int .i64 (r 1), .int .i64 (r 2), .int .i64 (r 3), .int .i64 (r 4), .int .i64 (r 5), .int .i64 (r 6), .int .i64 (r 7), .sla ra lr.length rc, .sl 1 es.length 0, .sl 2 ps.length 0]), some (.row 49 15 es.length 0 (fun j => evtS (es.getD j Ev.z))), some (.row 3 1 ps.length 0 (fun j => [.int .i64 (ps.getD j 0)])), some (.blk (inQ9 i))]), ([13], [], [some (.blk [.int .i64 at_, .int .i64 ((updR r (i.dst).toNat (r (i.ra).toNat)) 0), .int .i64 ((updR r (i.dst).toNat (r (i.ra).toNat)) 1), .int .i64 ((updR r (i.dst).toNat (r (i.ra).toNat)) 2), .int .i64 ((updR r (i.dst).toNat (r (i.ra).toNat)) 3), .int .i64 ((updR r (i.dst).toNat (r (i.ra).toNat)) 4), .int .i64 ((updR r (i.dst).toNat (r (i.ra).toNat)) 5), .int .i64 ((updR r (i.dst).toNat (r (i.ra).toNat)) 6), .int .i64 ((updR r (i.dst).toNat (r (i.ra).toNat)) 7), .sla ra lr.length rc, .sl 1 es.length 0, .sl 2 ps.length 0]), some (.row 49 15 es.length 0 (fun j => evtS (es.getD j Ev.z))), some (.row 3 1 ps.length 0 (fun j => [.int .i64 (ps.getD j 0)])), some (.blk (inQ9 i))])] [[true, true, true, true, true, true, true, true, true, true, true, true, true, true], [false, false, false, false, false, false, false, false, false, false, true, true, false, false]] A rfl rfl rfl rfl (by kernel_rfl) rfl (by kernel_rfl) ⟨⟨oV9 0 rfl rfl, ⟨oV9 0 rfl rfl, ⟨oV9 0 rfl rfl, ⟨oV9 0 rfl rfl, ⟨oV9 0 rfl rfl, ⟨oV9 0 rfl rfl, ⟨oV9 0 rfl rfl, ⟨oV9 0 rfl rfl, ⟨oV9 0 rfl (ok_d (by omega) <| okE_nil), ⟨⟨_, _, _, _, 0, rfl, rfl, rfl, rfl, eff_at (ldwE (r := r) hX rfl rfl rfl rfl rfl rfl rfl (by omega)) rfl⟩, ⟨oV9 0 rfl rfl, ⟨oV9 0 rfl rfl, ⟨oV9 0 rfl (ok_d (by omega) <| okE_nil), ⟨⟨_, _, _, _, 1, rfl, rfl, rfl, rfl, eff_at (stwE (i := 0) (r := r) hX rfl rfl rfl rfl rfl rfl rfl rfl (by omega)) rfl⟩, trivial⟩⟩⟩⟩⟩⟩⟩⟩⟩⟩⟩⟩⟩⟩, ⟨⟨oV9 1 rfl rfl, ⟨oV9 1 rfl rfl, trivial⟩⟩, trivial⟩⟩ fun A => N9 3 A rfl rfl fun A => DRAWN hX hmo [] [(10, .sl 5 (ps.length + 1) 0, [some (.blk [.int .i64 at_, .int .i64 ((updR r (i.dst).toNat (r (i.ra).toNat)) 0), .int .i64 ((updR r (i.dst).toNat (r (i.ra).toNat)) 1), .int .i64 ((updR r (i.dst).toNat (r (i.ra).toNat)) 2), .int .i64 ((updR r (i.dst).toNat (r (i.ra).toNat)) 3), .int .i64 ((updR r (i.dst).toNat (r (i.ra).toNat)) 4), .int .i64 ((updR r (i.dst).toNat (r (i.ra).toNat)) 5), .int .i64 ((updR r (i.dst).toNat (r (i.ra).toNat)) 6), .int .i64 ((updR r (i.dst).toNat (r (i.ra).toNat)) 7), .sla ra lr.length rc, .sl 1 es.length 0, .sl 2 ps.length 0]), some (.row 49 15 es.length 0 (fun j => evtS (es.getD j Ev.z))), none, some (.blk (inQ9 i)), some (.blk [.int .i64 at_]), some (.row 3 1 (ps.length + 1) 0 (fun j => [.int .i64 ((ps ++ [at_]).getD j 0)]))])] A rfl rfl rfl rfl (by kernel_rfl) ⟨trivial, ⟨appE (i := 2) hX (ps.length + 1) (fun j => [.int .i64 ((ps ++ [at_]).getD j 0)]) rfl rfl rfl rfl hps rfl (fun k hk => by show [SV.int .i64 _] = [SV.int .i64 _]; rw [getD_app_l hk]) (by show [SV.int .i64 _] = _; rw [getD_app_1]) (fun z => ⟨_, rfl, rfl⟩), ⟨trivial, trivial⟩⟩⟩ trivial fun A => N9 16 A rfl rfl fun A => RET hX [5] A ⟨rfl, rfl⟩ rfl rfl rfl rfl rfl rfl rfl rfl h0)
   (fun h2 A => absurd (by omega) h2))
theorem step3_ (at_ : Int) (r : Rg) (ra : Option Addr) (lr : List Int) (rc : Nat) (es : List Ev) (ps : List Int) (i : In) (hop : i.op = 3) (hd : 0 ≤ i.dst ∧ i.dst < 8) (ha : 0 ≤ i.ra ∧ i.ra < 8) (hb : -1 ≤ i.rb ∧ i.rb < 8) (hat : 0 ≤ at_ ∧ at_ ≤ 1000) (hes : es.length ≤ 1000000) (hps : ps.length ≤ 1000000) : FnI (RdA ra lr) Tryz.prog 42 [.ptr 0 0, .agg (inQ9 i)] [some (.blk [.int .i64 at_, .int .i64 (r 0), .int .i64 (r 1), .int .i64 (r 2), .int .i64 (r 3), .int .i64 (r 4), .int .i64 (r 5), .int .i64 (r 6), .int .i64 (r 7), .sla ra lr.length rc, .sl 1 es.length 0, .sl 2 ps.length 0]), some (.row 49 15 es.length 0 (fun j => evtS (es.getD j Ev.z))), some (.row 3 1 ps.length 0 (fun j => [.int .i64 (ps.getD j 0)]))] (Rt (.tt) [some (.blk [.int .i64 (at_ + 1), .int .i64 ((updR r (i.dst).toNat (balu0 i.fn (r (i.ra).toNat) (rgO r i.rb i.imm))) 0), .int .i64 ((updR r (i.dst).toNat (balu0 i.fn (r (i.ra).toNat) (rgO r i.rb i.imm))) 1), .int .i64 ((updR r (i.dst).toNat (balu0 i.fn (r (i.ra).toNat) (rgO r i.rb i.imm))) 2), .int .i64 ((updR r (i.dst).toNat (balu0 i.fn (r (i.ra).toNat) (rgO r i.rb i.imm))) 3), .int .i64 ((updR r (i.dst).toNat (balu0 i.fn (r (i.ra).toNat) (rgO r i.rb i.imm))) 4), .int .i64 ((updR r (i.dst).toNat (balu0 i.fn (r (i.ra).toNat) (rgO r i.rb i.imm))) 5), .int .i64 ((updR r (i.dst).toNat (balu0 i.fn (r (i.ra).toNat) (rgO r i.rb i.imm))) 6), .int .i64 ((updR r (i.dst).toNat (balu0 i.fn (r (i.ra).toNat) (rgO r i.rb i.imm))) 7), .sla ra lr.length rc, .sl 1 es.length 0, .sl 3 (ps.length + 1) 0]), some (.row 49 15 es.length 0 (fun j => evtS (es.getD j Ev.z))), none, some (.row 3 1 (ps.length + 1) 0 (fun j => [.int .i64 ((ps ++ [at_]).getD j 0)]))]) :=
 enterI (n := 117) (by kernel_rfl) Tryz.func42 rfl rfl rfl fun G w a h0 hI A => N9 18 A rfl (ok_d (by omega) <| okE_nil) fun A => N9 12 A rfl rfl fun A => forkE 13 A rfl
  (fun h1 A => absurd h1 (by omega))
  (fun h1 A => N9 7 A rfl rfl fun A => forkE 23 A rfl
   (fun h2 A => absurd h2 (by omega))
   (fun h2 A => N9 7 A rfl rfl fun A => forkE 38 A rfl
    (fun h3 A => N9 1 A rfl rfl fun A => ANY hmo [.ptr 0 0, .ptr 3 1, .int .i64 i.dst, .ptr 3 9, .int .i64 i.fn, .ptr 0 0, .ptr 3 2, .int .i64 i.ra, .ptr 0 0, .ptr 0 1, .ix (.ptr 0 1) 1 8 i.ra 0, .int .i64 (r (i.ra).toNat), .ptr 0 0, .ptr 3 3, .int .i64 i.rb, .ptr 3 4, .int .i64 i.imm, .int .i64 (rgO r i.rb i.imm), .int .i64 (balu0 i.fn (r (i.ra).toNat) (rgO r i.rb i.imm)), .ptr 0 0, .ptr 0 1, .ix (.ptr 0 1) 1 8 i.dst 0, .tup []] [17, 22] [] 0 [([], [], [some (.blk [.int .i64 at_, .int .i64 (r 0), .int .i64 (r 1), .int .i64 (r 2), .int .i64 (r 3), .int .i64 (r 4), .int .i64 (r 5), .int .i64 (r 6), .int .i64 (r 7), .sla ra lr.length rc, .sl 1 es.length 0, .sl 2 ps.length 0]), some (.row 49 15 es.length 0 (fun j => evtS (es.getD j Ev.z))), some (.row 3 1 ps.length 0 (fun j => [.int .i64 (ps.getD j 0)])), some (.blk (inQ9 i))]), ([17], [], [some (.blk [.int .i64 at_, .int .i64 (r 0), .int .i64 (r 1), .int .i64 (r 2), .int .i64 (r 3), .int .i64 (r 4), .int .i64 (r 5), .int .i64 (r 6), .int .i64 (r 7), .sla ra lr.length rc, .sl 1 es.length 0, .sl 2 ps.length 0]), some (.row 49 15 es.length 0 (fun j => evtS (es.getD j Ev.z))), some (.row 3 1 ps.length 0 (fun j => [.int .i64 (ps.getD j 0)])), some (.blk (inQ9 i))]), ([17, 22], [], [some (.blk [.int .i64 at_, .int .i64 ((updR r (i.dst).toNat (balu0 i.fn (r (i.ra).toNat) (rgO r i.rb i.imm))) 0), .int .i64 ((updR r (i.dst).toNat (balu0 i.fn (r (i.ra).toNat) (rgO r i.rb i.imm))) 1), .int .i64 ((updR r (i.dst).toNat (balu0 i.fn (r (i.ra).toNat) (rgO r i.rb i.imm))) 2), .int .i64 ((updR r (i.dst).toNat (balu0 i.fn (r (i.ra).toNat) (rgO r i.rb i.imm))) 3), .int .i64 ((updR r (i.dst).toNat (balu0 i.fn (r (i.ra).toNat) (rgO r i.rb i.imm))) 4), .int .i64 ((updR r (i.dst).toNat (balu0 i.fn (r (i.ra).toNat) (rgO r i.rb i.imm))) 5), .int .i64 ((updR r (i.dst).toNat (balu0 i.fn (r (i.ra).toNat) (rgO r i.rb i.imm))) 6), .int .i64 ((updR r (i.dst).toNat (balu0 i.fn (r (i.ra).toNat) (rgO r i.rb i.imm))) 7), .sla ra lr.length rc, .sl 1 es.length 0, .sl 2 ps.length 0]), some (.row 49 15 es.length 0 (fun j => evtS (es.getD j Ev.z))), some (.row 3 1 ps.length 0 (fun j => [.int .i64 (ps.getD j 0)])), some (.blk (inQ9 i))])] [[true, true, true, true, true, true, true, true, true, true, true, true, true, true, true, true, true, true, false, true, true, false, false], [true, true, true, true, true, true, true, true, true, true, true, true, false, true, false, true, false, false, true, true, true, true, true], [false, false, false, false, false, false, false, false, false, false, false, false, false, false, false, false, false, false, false, true, true, false, false]] A rfl rfl rfl rfl (by kernel_rfl) rfl (by kernel_rfl) ⟨⟨oV9 0 rfl rfl, ⟨oV9 0 rfl rfl, ⟨oV9 0 rfl rfl, ⟨oV9 0 rfl rfl, ⟨oV9 0 rfl rfl, ⟨oV9 0 rfl rfl, ⟨oV9 0 rfl rfl, ⟨oV9 0 rfl rfl, ⟨oV9 0 rfl rfl, ⟨oV9 0 rfl rfl, ⟨oV9 0 rfl (ok_d (by omega) <| okE_nil), ⟨⟨_, _, _, _, 0, rfl, rfl, rfl, rfl, eff_at (ldwE (r := r) hX rfl rfl rfl rfl rfl rfl rfl (by omega)) rfl⟩, ⟨oV9 0 rfl rfl, ⟨oV9 0 rfl rfl, ⟨oV9 0 rfl rfl, ⟨oV9 0 rfl rfl, ⟨oV9 0 rfl rfl, ⟨⟨_, _, _, _, 1, rfl, rfl, rfl, rfl, eff_at (callE [0, 1, 2] (regOr_ at_ r ra lr.length rc es ps i.rb i.imm (by omega)) rfl rfl rfl rfl rfl rfl rfl) rfl⟩, ⟨oV9 0 rfl rfl, ⟨oV9 0 rfl rfl, trivial⟩⟩⟩⟩⟩⟩⟩⟩⟩⟩⟩⟩⟩⟩⟩⟩⟩⟩⟩⟩, ⟨⟨oV9 1 rfl rfl, ⟨oV9 1 rfl rfl, ⟨oV9 1 rfl rfl, ⟨oV9 1 rfl rfl, ⟨oV9 1 rfl rfl, ⟨oV9 1 rfl rfl, ⟨oV9 1 rfl rfl, ⟨oV9 1 rfl rfl, ⟨oV9 1 rfl rfl, ⟨oV9 1 rfl rfl, ⟨oV9 1 rfl (ok_d (by omega) <| okE_nil), ⟨⟨_, _, _, _, 1, rfl, rfl, rfl, rfl, eff_at (ldwE (r := r) hX rfl rfl rfl rfl rfl rfl rfl (by omega)) rfl⟩, ⟨oV9 1 rfl rfl, ⟨oV9 1 rfl rfl, ⟨⟨_, _, _, _, 1, rfl, rfl, rfl, rfl, eff_at (eff_pure rfl rfl (balu_ i.fn (r (i.ra).toNat) (rgO r i.rb i.imm))) rfl⟩, ⟨oV9 1 rfl rfl, ⟨oV9 1 rfl rfl, ⟨oV9 1 rfl (ok_d (by omega) <| okE_nil), ⟨⟨_, _, _, _, 2, rfl, rfl, rfl, rfl, eff_at (stwE (i := 0) (r := r) hX rfl rfl rfl rfl rfl rfl rfl rfl (by omega)) rfl⟩, trivial⟩⟩⟩⟩⟩⟩⟩⟩⟩⟩⟩⟩⟩⟩⟩⟩⟩⟩⟩, ⟨⟨oV9 2 rfl rfl, ⟨oV9 2 rfl rfl, trivial⟩⟩, trivial⟩⟩⟩ fun A => N9 3 A rfl rfl fun A => DRAWN hX hmo [] [(10, .sl 5 (ps.length + 1) 0, [some (.blk [.int .i64 at_, .int .i64 ((updR r (i.dst).toNat (balu0 i.fn (r (i.ra).toNat) (rgO r i.rb i.imm))) 0), .int .i64 ((updR r (i.dst).toNat (balu0 i.fn (r (i.ra).toNat) (rgO r i.rb i.imm))) 1), .int .i64 ((updR r (i.dst).toNat (balu0 i.fn (r (i.ra).toNat) (rgO r i.rb i.imm))) 2), .int .i64 ((updR r (i.dst).toNat (balu0 i.fn (r (i.ra).toNat) (rgO r i.rb i.imm))) 3), .int .i64 ((updR r (i.dst).toNat (balu0 i.fn (r (i.ra).toNat) (rgO r i.rb i.imm))) 4), .int .i64 ((updR r (i.dst).toNat (balu0 i.fn (r (i.ra).toNat) (rgO r i.rb i.imm))) 5), .int .i64 ((updR r (i.dst).toNat (balu0 i.fn (r (i.ra).toNat) (rgO r i.rb i.imm))) 6), .int .i64 ((updR r (i.dst).toNat (balu0 i.fn (r (i.ra).toNat) (rgO r i.rb i.imm))) 7), .sla ra lr.length rc, .sl 1 es.length 0, .sl 2 ps.length 0]), some (.row 49 15 es.length 0 (fun j => evtS (es.getD j Ev.z))), none, some (.blk (inQ9 i)), some (.blk [.int .i64 at_]), some (.row 3 1 (ps.length + 1) 0 (fun j => [.int .i64 ((ps ++ [at_]).getD j 0)]))])] A rfl rfl rfl rfl (by kernel_rfl) ⟨trivial, ⟨appE (i := 2) hX (ps.length + 1) (fun j => [.int .i64 ((ps ++ [at_]).getD j 0)]) rfl rfl rfl rfl hps rfl (fun k hk => by show [SV.int .i64 _] = [SV.int .i64 _]; rw [getD_app_l hk]) (by show [SV.int .i64 _] = _; rw [getD_app_1]) (fun z => ⟨_, rfl, rfl⟩), ⟨trivial, trivial⟩⟩⟩ trivial fun A => N9 16 A rfl rfl fun A => RET hX [5] A ⟨rfl, rfl⟩ rfl rfl rfl rfl rfl rfl rfl rfl h0)
    (fun h3 A => absurd (by omega) h3)))
theorem step9_ (at_ : Int) (r : Rg) (ra : Option Addr) (lr : List Int) (rc : Nat) (es : List Ev) (ps : List Int) (i : In) (hop : i.op = 9) (ha : 0 ≤ i.ra ∧ i.ra < 8) (hat : 0 ≤ at_ ∧ at_ ≤ 1000) (hes : es.length ≤ 1000000) (hps : ps.length ≤ 1000000) : FnI (RdA ra lr) Tryz.prog 42 [.ptr 0 0, .agg (inQ9 i)] [some (.blk [.int .i64 at_, .int .i64 (r 0), .int .i64 (r 1), .int .i64 (r 2), .int .i64 (r 3), .int .i64 (r 4), .int .i64 (r 5), .int .i64 (r 6), .int .i64 (r 7), .sla ra lr.length rc, .sl 1 es.length 0, .sl 2 ps.length 0]), some (.row 49 15 es.length 0 (fun j => evtS (es.getD j Ev.z))), some (.row 3 1 ps.length 0 (fun j => [.int .i64 (ps.getD j 0)]))] (Rt (.tt) [some (.blk [.int .i64 (stTo at_ r i), .int .i64 (r 0), .int .i64 (r 1), .int .i64 (r 2), .int .i64 (r 3), .int .i64 (r 4), .int .i64 (r 5), .int .i64 (r 6), .int .i64 (r 7), .sla ra lr.length rc, .sl 1 es.length 0, .sl 3 (ps.length + 1) 0]), some (.row 49 15 es.length 0 (fun j => evtS (es.getD j Ev.z))), none, some (.row 3 1 (ps.length + 1) 0 (fun j => [.int .i64 ((ps ++ [at_]).getD j 0)]))]) :=
 enterI (n := 117) (by kernel_rfl) Tryz.func42 rfl rfl rfl fun G w a h0 hI A => N9 18 A rfl (ok_d (by omega) <| okE_nil) fun A => N9 12 A rfl rfl fun A => forkE 13 A rfl
  (fun h1 A => absurd h1 (by omega))
  (fun h1 A => N9 7 A rfl rfl fun A => forkE 23 A rfl
   (fun h2 A => absurd h2 (by omega))
   (fun h2 A => N9 7 A rfl rfl fun A => forkE 38 A rfl
    (fun h3 A => absurd h3 (by omega))
    (fun h3 A => N9 8 A rfl rfl fun A => forkE 62 A rfl
     (fun h4 A => absurd h4 (by omega))
     (fun h4 A => N9 7 A rfl rfl fun A => forkE 62 A rfl
      (fun h5 A => absurd h5 (by omega))
      (fun h5 A => N9 6 A rfl rfl fun A => forkE 62 A rfl
       (fun h6 A => absurd h6 (by omega))
       (fun h6 A => N9 8 A rfl rfl fun A => forkE 70 A rfl
        (fun h7 A => absurd h7 (by omega))
        (fun h7 A => N9 6 A rfl rfl fun A => forkE 70 A rfl
         (fun h8 A => absurd h8 (by omega))
         (fun h8 A => N9 7 A rfl rfl fun A => forkE 85 A rfl
          (fun h9 A => N9 2 A rfl rfl fun A => ANY hmo [.ptr 0 0, .ptr 3 2, .int .i64 i.ra, .ptr 0 0, .ptr 0 1, .ix (.ptr 0 1) 1 8 i.ra 0, .int .i64 (r (i.ra).toNat), .bool ((r (i.ra).toNat) == 0), .ptr 3 16, .bool i.zero, .bool (((r (i.ra).toNat) == 0) == i.zero)] [] [] 0 [([], [], [some (.blk [.int .i64 at_, .int .i64 (r 0), .int .i64 (r 1), .int .i64 (r 2), .int .i64 (r 3), .int .i64 (r 4), .int .i64 (r 5), .int .i64 (r 6), .int .i64 (r 7), .sla ra lr.length rc, .sl 1 es.length 0, .sl 2 ps.length 0]), some (.row 49 15 es.length 0 (fun j => evtS (es.getD j Ev.z))), some (.row 3 1 ps.length 0 (fun j => [.int .i64 (ps.getD j 0)])), some (.blk (inQ9 i))])] [[true, true, true, true, true, true, true, true, true, true, true]] A rfl rfl rfl rfl (by kernel_rfl) rfl (by kernel_rfl) ⟨⟨oV9 0 rfl rfl, ⟨oV9 0 rfl rfl, ⟨oV9 0 rfl rfl, ⟨oV9 0 rfl rfl, ⟨oV9 0 rfl rfl, ⟨oV9 0 rfl (ok_d (by omega) <| okE_nil), ⟨⟨_, _, _, _, 0, rfl, rfl, rfl, rfl, eff_at (ldwE (r := r) hX rfl rfl rfl rfl rfl rfl rfl (by omega)) rfl⟩, ⟨oV9 0 rfl rfl, ⟨oV9 0 rfl rfl, ⟨oV9 0 rfl rfl, ⟨oV9 0 rfl rfl, trivial⟩⟩⟩⟩⟩⟩⟩⟩⟩⟩⟩, trivial⟩ fun A => N9 1 A rfl rfl fun A => forkE 97 A rfl
           (fun h10 A => N9 9 A rfl rfl fun A => DRAWN hX hmo [] [(10, .sl 5 (ps.length + 1) 0, [some (.blk [.int .i64 at_, .int .i64 (r 0), .int .i64 (r 1), .int .i64 (r 2), .int .i64 (r 3), .int .i64 (r 4), .int .i64 (r 5), .int .i64 (r 6), .int .i64 (r 7), .sla ra lr.length rc, .sl 1 es.length 0, .sl 2 ps.length 0]), some (.row 49 15 es.length 0 (fun j => evtS (es.getD j Ev.z))), none, some (.blk (inQ9 i)), some (.blk [.int .i64 at_]), some (.row 3 1 (ps.length + 1) 0 (fun j => [.int .i64 ((ps ++ [at_]).getD j 0)]))])] A rfl rfl rfl rfl (by kernel_rfl) ⟨trivial, ⟨appE (i := 2) hX (ps.length + 1) (fun j => [.int .i64 ((ps ++ [at_]).getD j 0)]) rfl rfl rfl rfl hps rfl (fun k hk => by show [SV.int .i64 _] = [SV.int .i64 _]; rw [getD_app_l hk]) (by show [SV.int .i64 _] = _; rw [getD_app_1]) (fun z => ⟨_, rfl, rfl⟩), ⟨trivial, trivial⟩⟩⟩ trivial fun A => N9 16 A rfl rfl fun A => RET hX [5] A ⟨rfl, (by simp only [stTo, if_pos h10] <;> rfl)⟩ rfl rfl rfl rfl rfl rfl rfl rfl h0)
           (fun h10 A => N9 5 A rfl rfl fun A => DRAWN hX hmo [] [(10, .sl 5 (ps.length + 1) 0, [some (.blk [.int .i64 at_, .int .i64 (r 0), .int .i64 (r 1), .int .i64 (r 2), .int .i64 (r 3), .int .i64 (r 4), .int .i64 (r 5), .int .i64 (r 6), .int .i64 (r 7), .sla ra lr.length rc, .sl 1 es.length 0, .sl 2 ps.length 0]), some (.row 49 15 es.length 0 (fun j => evtS (es.getD j Ev.z))), none, some (.blk (inQ9 i)), some (.blk [.int .i64 at_]), some (.row 3 1 (ps.length + 1) 0 (fun j => [.int .i64 ((ps ++ [at_]).getD j 0)]))])] A rfl rfl rfl rfl (by kernel_rfl) ⟨trivial, ⟨appE (i := 2) hX (ps.length + 1) (fun j => [.int .i64 ((ps ++ [at_]).getD j 0)]) rfl rfl rfl rfl hps rfl (fun k hk => by show [SV.int .i64 _] = [SV.int .i64 _]; rw [getD_app_l hk]) (by show [SV.int .i64 _] = _; rw [getD_app_1]) (fun z => ⟨_, rfl, rfl⟩), ⟨trivial, trivial⟩⟩⟩ trivial fun A => N9 16 A rfl rfl fun A => RET hX [5] A ⟨rfl, (by simp only [stTo, if_neg h10] <;> rfl)⟩ rfl rfl rfl rfl rfl rfl rfl rfl h0))
          (fun h9 A => absurd (by omega) h9)))))))))
theorem step7_ (at_ : Int) (r : Rg) (ra : Option Addr) (lr : List Int) (rc : Nat) (es : List Ev) (ps : List Int) (i : In) (hop : i.op = 7 ∨ i.op = 8)  (hat : 0 ≤ at_ ∧ at_ ≤ 1000) (hes : es.length ≤ 1000000) (hps : ps.length ≤ 1000000) : FnI (RdA ra lr) Tryz.prog 42 [.ptr 0 0, .agg (inQ9 i)] [some (.blk [.int .i64 at_, .int .i64 (r 0), .int .i64 (r 1), .int .i64 (r 2), .int .i64 (r 3), .int .i64 (r 4), .int .i64 (r 5), .int .i64 (r 6), .int .i64 (r 7), .sla ra lr.length rc, .sl 1 es.length 0, .sl 2 ps.length 0]), some (.row 49 15 es.length 0 (fun j => evtS (es.getD j Ev.z))), some (.row 3 1 ps.length 0 (fun j => [.int .i64 (ps.getD j 0)]))] (Rt (.tt) [some (.blk [.int .i64 (at_ + 1), .int .i64 (r 0), .int .i64 (r 1), .int .i64 (r 2), .int .i64 (r 3), .int .i64 (r 4), .int .i64 (r 5), .int .i64 (r 6), .int .i64 (r 7), .sla ra lr.length rc, .sl 3 (es.length + 1) 0, .sl 4 (ps.length + 1) 0]), none, none, some (.row 49 15 (es.length + 1) 0 (fun j => evtS ((es ++ [feE at_ ((ps.length : Nat) : Int) i]).getD j Ev.z))), some (.row 3 1 (ps.length + 1) 0 (fun j => [.int .i64 ((ps ++ [at_]).getD j 0)]))]) :=
 enterI (n := 117) (by kernel_rfl) Tryz.func42 rfl rfl rfl fun G w a h0 hI A => N9 18 A rfl (ok_d (by omega) <| okE_nil) fun A => N9 12 A rfl rfl fun A => forkE 13 A rfl
  (fun h1 A => absurd h1 (by omega))
  (fun h1 A => N9 7 A rfl rfl fun A => forkE 23 A rfl
   (fun h2 A => absurd h2 (by omega))
   (fun h2 A => N9 7 A rfl rfl fun A => forkE 38 A rfl
    (fun h3 A => absurd h3 (by omega))
    (fun h3 A => N9 8 A rfl rfl fun A => forkE 62 A rfl
     (fun h4 A => absurd h4 (by omega))
     (fun h4 A => N9 7 A rfl rfl fun A => forkE 62 A rfl
      (fun h5 A => absurd h5 (by omega))
      (fun h5 A => N9 6 A rfl rfl fun A => forkE 62 A rfl
       (fun h6 A => absurd h6 (by omega))
       (fun h6 A => N9 8 A rfl rfl fun A => forkE 70 A rfl
        (fun h8 A => N9 4 A rfl rfl fun A => DRAWN hX hmo [] [(7, .agg [.z9, .int .i64 ((ps.length : Nat) : Int), .int .i64 at_, .int .i64 i.op, .z9, .z9, .bool ((i.op == 4) || (i.op == 6)), .bool ((i.op == 5) || (i.op == 6)), .z9, .z9, .bool i.acq, .bool i.weak, .bool i.rel, .int .i64 i.pred, .int .i64 i.succ], [some (.blk [.int .i64 at_, .int .i64 (r 0), .int .i64 (r 1), .int .i64 (r 2), .int .i64 (r 3), .int .i64 (r 4), .int .i64 (r 5), .int .i64 (r 6), .int .i64 (r 7), .sla ra lr.length rc, .sl 1 es.length 0, .sl 2 ps.length 0]), some (.row 49 15 es.length 0 (fun j => evtS (es.getD j Ev.z))), some (.row 3 1 ps.length 0 (fun j => [.int .i64 (ps.getD j 0)])), some (.blk (inQ9 i))]), (9, .sl 5 (es.length + 1) 0, [some (.blk [.int .i64 at_, .int .i64 (r 0), .int .i64 (r 1), .int .i64 (r 2), .int .i64 (r 3), .int .i64 (r 4), .int .i64 (r 5), .int .i64 (r 6), .int .i64 (r 7), .sla ra lr.length rc, .sl 1 es.length 0, .sl 2 ps.length 0]), none, some (.row 3 1 ps.length 0 (fun j => [.int .i64 (ps.getD j 0)])), some (.blk (inQ9 i)), some (.blk [.z9, .int .i64 ((ps.length : Nat) : Int), .int .i64 at_, .int .i64 i.op, .z9, .z9, .bool ((i.op == 4) || (i.op == 6)), .bool ((i.op == 5) || (i.op == 6)), .z9, .z9, .bool i.acq, .bool i.weak, .bool i.rel, .int .i64 i.pred, .int .i64 i.succ]), some (.row 49 15 (es.length + 1) 0 (fun j => evtS ((es ++ [(⟨((ps.length : Nat) : Int), at_, i.op, 0, 0, (i.op == 4) || (i.op == 6), (i.op == 5) || (i.op == 6), 0, 0, i.acq, i.weak, i.rel, i.pred, i.succ⟩ : Ev)]).getD j Ev.z)))])] A rfl rfl rfl rfl (by kernel_rfl) ⟨callE [0, 1, 2] (event_ at_ r ra lr.length rc es ps i) rfl rfl rfl rfl rfl rfl rfl, ⟨trivial, ⟨appE (i := 1) hX (es.length + 1) (fun j => evtS ((es ++ [(⟨((ps.length : Nat) : Int), at_, i.op, 0, 0, (i.op == 4) || (i.op == 6), (i.op == 5) || (i.op == 6), 0, 0, i.acq, i.weak, i.rel, i.pred, i.succ⟩ : Ev)]).getD j Ev.z)) rfl rfl rfl rfl hes rfl (fun k hk => by show evtS _ = evtS _; rw [getD_lE hk]) (by show evtS _ = _; rw [getD_1E]) (fun z => ⟨_, rfl, rfl⟩), ⟨trivial, trivial⟩⟩⟩⟩ trivial fun A => N9 3 A rfl rfl fun A => DRAWN hX hmo [] [(10, .sl 7 (ps.length + 1) 0, [some (.blk [.int .i64 at_, .int .i64 (r 0), .int .i64 (r 1), .int .i64 (r 2), .int .i64 (r 3), .int .i64 (r 4), .int .i64 (r 5), .int .i64 (r 6), .int .i64 (r 7), .sla ra lr.length rc, .sl 5 (es.length + 1) 0, .sl 2 ps.length 0]), none, none, some (.blk (inQ9 i)), some (.blk [.z9, .int .i64 ((ps.length : Nat) : Int), .int .i64 at_, .int .i64 i.op, .z9, .z9, .bool ((i.op == 4) || (i.op == 6)), .bool ((i.op == 5) || (i.op == 6)), .z9, .z9, .bool i.acq, .bool i.weak, .bool i.rel, .int .i64 i.pred, .int .i64 i.succ]), some (.row 49 15 (es.length + 1) 0 (fun j => evtS ((es ++ [(⟨((ps.length : Nat) : Int), at_, i.op, 0, 0, (i.op == 4) || (i.op == 6), (i.op == 5) || (i.op == 6), 0, 0, i.acq, i.weak, i.rel, i.pred, i.succ⟩ : Ev)]).getD j Ev.z))), some (.blk [.int .i64 at_]), some (.row 3 1 (ps.length + 1) 0 (fun j => [.int .i64 ((ps ++ [at_]).getD j 0)]))])] A rfl rfl rfl rfl (by kernel_rfl) ⟨trivial, ⟨appE (i := 2) hX (ps.length + 1) (fun j => [.int .i64 ((ps ++ [at_]).getD j 0)]) rfl rfl rfl rfl hps rfl (fun k hk => by show [SV.int .i64 _] = [SV.int .i64 _]; rw [getD_app_l hk]) (by show [SV.int .i64 _] = _; rw [getD_app_1]) (fun z => ⟨_, rfl, rfl⟩), ⟨trivial, trivial⟩⟩⟩ trivial fun A => N9 16 A rfl rfl fun A => RET hX [5, 7] A ⟨rfl, rfl⟩ rfl rfl rfl rfl rfl rfl rfl rfl h0)
        (fun h8 A => N9 6 A rfl rfl fun A => forkE 70 A rfl
         (fun h10 A => N9 1 A rfl rfl fun A => DRAWN hX hmo [] [(7, .agg [.z9, .int .i64 ((ps.length : Nat) : Int), .int .i64 at_, .int .i64 i.op, .z9, .z9, .bool ((i.op == 4) || (i.op == 6)), .bool ((i.op == 5) || (i.op == 6)), .z9, .z9, .bool i.acq, .bool i.weak, .bool i.rel, .int .i64 i.pred, .int .i64 i.succ], [some (.blk [.int .i64 at_, .int .i64 (r 0), .int .i64 (r 1), .int .i64 (r 2), .int .i64 (r 3), .int .i64 (r 4), .int .i64 (r 5), .int .i64 (r 6), .int .i64 (r 7), .sla ra lr.length rc, .sl 1 es.length 0, .sl 2 ps.length 0]), some (.row 49 15 es.length 0 (fun j => evtS (es.getD j Ev.z))), some (.row 3 1 ps.length 0 (fun j => [.int .i64 (ps.getD j 0)])), some (.blk (inQ9 i))]), (9, .sl 5 (es.length + 1) 0, [some (.blk [.int .i64 at_, .int .i64 (r 0), .int .i64 (r 1), .int .i64 (r 2), .int .i64 (r 3), .int .i64 (r 4), .int .i64 (r 5), .int .i64 (r 6), .int .i64 (r 7), .sla ra lr.length rc, .sl 1 es.length 0, .sl 2 ps.length 0]), none, some (.row 3 1 ps.length 0 (fun j => [.int .i64 (ps.getD j 0)])), some (.blk (inQ9 i)), some (.blk [.z9, .int .i64 ((ps.length : Nat) : Int), .int .i64 at_, .int .i64 i.op, .z9, .z9, .bool ((i.op == 4) || (i.op == 6)), .bool ((i.op == 5) || (i.op == 6)), .z9, .z9, .bool i.acq, .bool i.weak, .bool i.rel, .int .i64 i.pred, .int .i64 i.succ]), some (.row 49 15 (es.length + 1) 0 (fun j => evtS ((es ++ [(⟨((ps.length : Nat) : Int), at_, i.op, 0, 0, (i.op == 4) || (i.op == 6), (i.op == 5) || (i.op == 6), 0, 0, i.acq, i.weak, i.rel, i.pred, i.succ⟩ : Ev)]).getD j Ev.z)))])] A rfl rfl rfl rfl (by kernel_rfl) ⟨callE [0, 1, 2] (event_ at_ r ra lr.length rc es ps i) rfl rfl rfl rfl rfl rfl rfl, ⟨trivial, ⟨appE (i := 1) hX (es.length + 1) (fun j => evtS ((es ++ [(⟨((ps.length : Nat) : Int), at_, i.op, 0, 0, (i.op == 4) || (i.op == 6), (i.op == 5) || (i.op == 6), 0, 0, i.acq, i.weak, i.rel, i.pred, i.succ⟩ : Ev)]).getD j Ev.z)) rfl rfl rfl rfl hes rfl (fun k hk => by show evtS _ = evtS _; rw [getD_lE hk]) (by show evtS _ = _; rw [getD_1E]) (fun z => ⟨_, rfl, rfl⟩), ⟨trivial, trivial⟩⟩⟩⟩ trivial fun A => N9 3 A rfl rfl fun A => DRAWN hX hmo [] [(10, .sl 7 (ps.length + 1) 0, [some (.blk [.int .i64 at_, .int .i64 (r 0), .int .i64 (r 1), .int .i64 (r 2), .int .i64 (r 3), .int .i64 (r 4), .int .i64 (r 5), .int .i64 (r 6), .int .i64 (r 7), .sla ra lr.length rc, .sl 5 (es.length + 1) 0, .sl 2 ps.length 0]), none, none, some (.blk (inQ9 i)), some (.blk [.z9, .int .i64 ((ps.length : Nat) : Int), .int .i64 at_, .int .i64 i.op, .z9, .z9, .bool ((i.op == 4) || (i.op == 6)), .bool ((i.op == 5) || (i.op == 6)), .z9, .z9, .bool i.acq, .bool i.weak, .bool i.rel, .int .i64 i.pred, .int .i64 i.succ]), some (.row 49 15 (es.length + 1) 0 (fun j => evtS ((es ++ [(⟨((ps.length : Nat) : Int), at_, i.op, 0, 0, (i.op == 4) || (i.op == 6), (i.op == 5) || (i.op == 6), 0, 0, i.acq, i.weak, i.rel, i.pred, i.succ⟩ : Ev)]).getD j Ev.z))), some (.blk [.int .i64 at_]), some (.row 3 1 (ps.length + 1) 0 (fun j => [.int .i64 ((ps ++ [at_]).getD j 0)]))])] A rfl rfl rfl rfl (by kernel_rfl) ⟨trivial, ⟨appE (i := 2) hX (ps.length + 1) (fun j => [.int .i64 ((ps ++ [at_]).getD j 0)]) rfl rfl rfl rfl hps rfl (fun k hk => by show [SV.int .i64 _] = [SV.int .i64 _]; rw [getD_app_l hk]) (by show [SV.int .i64 _] = _; rw [getD_app_1]) (fun z => ⟨_, rfl, rfl⟩), ⟨trivial, trivial⟩⟩⟩ trivial fun A => N9 16 A rfl rfl fun A => RET hX [5, 7] A ⟨rfl, rfl⟩ rfl rfl rfl rfl rfl rfl rfl rfl h0)
         (fun h10 A => N9 7 A rfl rfl fun A => forkE 85 A rfl
          (fun h11 A => absurd h11 (by omega))
          (fun h11 A => N9 5 A rfl rfl fun A => DRAWN hX hmo [] [(10, .sl 5 (ps.length + 1) 0, [some (.blk [.int .i64 at_, .int .i64 (r 0), .int .i64 (r 1), .int .i64 (r 2), .int .i64 (r 3), .int .i64 (r 4), .int .i64 (r 5), .int .i64 (r 6), .int .i64 (r 7), .sla ra lr.length rc, .sl 1 es.length 0, .sl 2 ps.length 0]), some (.row 49 15 es.length 0 (fun j => evtS (es.getD j Ev.z))), none, some (.blk (inQ9 i)), some (.blk [.int .i64 at_]), some (.row 3 1 (ps.length + 1) 0 (fun j => [.int .i64 ((ps ++ [at_]).getD j 0)]))])] A rfl rfl rfl rfl (by kernel_rfl) ⟨trivial, ⟨appE (i := 2) hX (ps.length + 1) (fun j => [.int .i64 ((ps ++ [at_]).getD j 0)]) rfl rfl rfl rfl hps rfl (fun k hk => by show [SV.int .i64 _] = [SV.int .i64 _]; rw [getD_app_l hk]) (by show [SV.int .i64 _] = _; rw [getD_app_1]) (fun z => ⟨_, rfl, rfl⟩), ⟨trivial, trivial⟩⟩⟩ trivial fun A => N9 16 A rfl rfl fun A => False.elim (by omega))))))))))
theorem step4_ (at_ : Int) (r : Rg) (ra : Option Addr) (lr : List Int) (rc : Nat) (es : List Ev) (ps : List Int) (i : In) (hop : i.op = 4 ∨ i.op = 5 ∨ i.op = 6) (hs : i.sz = 1 ∨ i.sz = 2 ∨ i.sz = 4 ∨ i.sz = 8) (hx : -1 ≤ i.ix ∧ i.ix < 8) (ha : ((i.op == 5) || (i.op == 6)) = true → -1 ≤ i.ra ∧ i.ra < 8) (hw : i.op = 6 → 0 ≤ i.ra ∧ i.ra < 8) (hd : ((i.op == 4) || (i.op == 6)) = true → 0 ≤ i.dst ∧ i.dst < 8) (hrd : ((i.op == 4) || (i.op == 6)) = true → lr.length ≠ 0) (hlc : lr.length ≤ rc) (hln : lr.length ≤ 1000000) (hat : 0 ≤ at_ ∧ at_ ≤ 1000) (hes : es.length ≤ 1000000) (hps : ps.length ≤ 1000000) : FnI (RdA ra lr) Tryz.prog 42 [.ptr 0 0, .agg (inQ9 i)] [some (.blk [.int .i64 at_, .int .i64 (r 0), .int .i64 (r 1), .int .i64 (r 2), .int .i64 (r 3), .int .i64 (r 4), .int .i64 (r 5), .int .i64 (r 6), .int .i64 (r 7), .sla ra lr.length rc, .sl 1 es.length 0, .sl 2 ps.length 0]), some (.row 49 15 es.length 0 (fun j => evtS (es.getD j Ev.z))), some (.row 3 1 ps.length 0 (fun j => [.int .i64 (ps.getD j 0)]))] (Rt (.tt) [some (.blk [.int .i64 (at_ + 1), .int .i64 ((acR r i lr) 0), .int .i64 ((acR r i lr) 1), .int .i64 ((acR r i lr) 2), .int .i64 ((acR r i lr) 3), .int .i64 ((acR r i lr) 4), .int .i64 ((acR r i lr) 5), .int .i64 ((acR r i lr) 6), .int .i64 ((acR r i lr) 7), .sla (acA ra rc i) (acN lr.length i) (acN rc i), .sl 3 (es.length + 1) 0, .sl 4 (ps.length + 1) 0]), none, none, some (.row 49 15 (es.length + 1) 0 (fun j => evtS ((es ++ [acE at_ r ((ps.length : Nat) : Int) i lr]).getD j Ev.z))), some (.row 3 1 (ps.length + 1) 0 (fun j => [.int .i64 ((ps ++ [at_]).getD j 0)]))]) :=
 enterI (n := 117) (by kernel_rfl) Tryz.func42 rfl rfl rfl fun G w a h0 hI A => N9 18 A rfl (ok_d (by omega) <| okE_nil) fun A => N9 12 A rfl rfl fun A => forkE 13 A rfl
  (fun h1 A => absurd h1 (by omega))
  (fun h1 A => N9 7 A rfl rfl fun A => forkE 23 A rfl
   (fun h2 A => absurd h2 (by omega))
   (fun h2 A => N9 7 A rfl rfl fun A => forkE 38 A rfl
    (fun h3 A => absurd h3 (by omega))
    (fun h3 A => N9 8 A rfl rfl fun A => forkE 62 A rfl
     (fun h5 A => N9 8 A rfl rfl fun A => I9 [0, 1, 2] RdA.ok hI (access_ at_ r ra lr rc es ps i hs hx ha hw hd hrd hlc hln hes) A rfl fun A => N9 8 A rfl rfl fun A => DRAWN hX hmo [] [(10, .sl 6 (ps.length + 1) 0, [some (.blk [.int .i64 at_, .int .i64 ((acR r i lr) 0), .int .i64 ((acR r i lr) 1), .int .i64 ((acR r i lr) 2), .int .i64 ((acR r i lr) 3), .int .i64 ((acR r i lr) 4), .int .i64 ((acR r i lr) 5), .int .i64 ((acR r i lr) 6), .int .i64 ((acR r i lr) 7), .sla (acA ra rc i) (acN lr.length i) (acN rc i), .sl 4 (es.length + 1) 0, .sl 2 ps.length 0]), none, none, some (.blk (inQ9 i)), some (.row 49 15 (es.length + 1) 0 (fun j => evtS ((es ++ [acE at_ r ((ps.length : Nat) : Int) i lr]).getD j Ev.z))), some (.blk [.int .i64 at_]), some (.row 3 1 (ps.length + 1) 0 (fun j => [.int .i64 ((ps ++ [at_]).getD j 0)]))])] A rfl rfl rfl rfl (by kernel_rfl) ⟨trivial, ⟨appE (i := 2) hX (ps.length + 1) (fun j => [.int .i64 ((ps ++ [at_]).getD j 0)]) rfl rfl rfl rfl hps rfl (fun k hk => by show [SV.int .i64 _] = [SV.int .i64 _]; rw [getD_app_l hk]) (by show [SV.int .i64 _] = _; rw [getD_app_1]) (fun z => ⟨_, rfl, rfl⟩), ⟨trivial, trivial⟩⟩⟩ trivial fun A => N9 16 A rfl rfl fun A => RET hX [4, 6] A ⟨rfl, rfl⟩ rfl rfl rfl rfl rfl rfl rfl rfl h0)
     (fun h5 A => N9 7 A rfl rfl fun A => forkE 62 A rfl
      (fun h7 A => N9 8 A rfl rfl fun A => I9 [0, 1, 2] RdA.ok hI (access_ at_ r ra lr rc es ps i hs hx ha hw hd hrd hlc hln hes) A rfl fun A => N9 8 A rfl rfl fun A => DRAWN hX hmo [] [(10, .sl 6 (ps.length + 1) 0, [some (.blk [.int .i64 at_, .int .i64 ((acR r i lr) 0), .int .i64 ((acR r i lr) 1), .int .i64 ((acR r i lr) 2), .int .i64 ((acR r i lr) 3), .int .i64 ((acR r i lr) 4), .int .i64 ((acR r i lr) 5), .int .i64 ((acR r i lr) 6), .int .i64 ((acR r i lr) 7), .sla (acA ra rc i) (acN lr.length i) (acN rc i), .sl 4 (es.length + 1) 0, .sl 2 ps.length 0]), none, none, some (.blk (inQ9 i)), some (.row 49 15 (es.length + 1) 0 (fun j => evtS ((es ++ [acE at_ r ((ps.length : Nat) : Int) i lr]).getD j Ev.z))), some (.blk [.int .i64 at_]), some (.row 3 1 (ps.length + 1) 0 (fun j => [.int .i64 ((ps ++ [at_]).getD j 0)]))])] A rfl rfl rfl rfl (by kernel_rfl) ⟨trivial, ⟨appE (i := 2) hX (ps.length + 1) (fun j => [.int .i64 ((ps ++ [at_]).getD j 0)]) rfl rfl rfl rfl hps rfl (fun k hk => by show [SV.int .i64 _] = [SV.int .i64 _]; rw [getD_app_l hk]) (by show [SV.int .i64 _] = _; rw [getD_app_1]) (fun z => ⟨_, rfl, rfl⟩), ⟨trivial, trivial⟩⟩⟩ trivial fun A => N9 16 A rfl rfl fun A => RET hX [4, 6] A ⟨rfl, rfl⟩ rfl rfl rfl rfl rfl rfl rfl rfl h0)
      (fun h7 A => N9 6 A rfl rfl fun A => forkE 62 A rfl
       (fun h9 A => N9 5 A rfl rfl fun A => I9 [0, 1, 2] RdA.ok hI (access_ at_ r ra lr rc es ps i hs hx ha hw hd hrd hlc hln hes) A rfl fun A => N9 8 A rfl rfl fun A => DRAWN hX hmo [] [(10, .sl 6 (ps.length + 1) 0, [some (.blk [.int .i64 at_, .int .i64 ((acR r i lr) 0), .int .i64 ((acR r i lr) 1), .int .i64 ((acR r i lr) 2), .int .i64 ((acR r i lr) 3), .int .i64 ((acR r i lr) 4), .int .i64 ((acR r i lr) 5), .int .i64 ((acR r i lr) 6), .int .i64 ((acR r i lr) 7), .sla (acA ra rc i) (acN lr.length i) (acN rc i), .sl 4 (es.length + 1) 0, .sl 2 ps.length 0]), none, none, some (.blk (inQ9 i)), some (.row 49 15 (es.length + 1) 0 (fun j => evtS ((es ++ [acE at_ r ((ps.length : Nat) : Int) i lr]).getD j Ev.z))), some (.blk [.int .i64 at_]), some (.row 3 1 (ps.length + 1) 0 (fun j => [.int .i64 ((ps ++ [at_]).getD j 0)]))])] A rfl rfl rfl rfl (by kernel_rfl) ⟨trivial, ⟨appE (i := 2) hX (ps.length + 1) (fun j => [.int .i64 ((ps ++ [at_]).getD j 0)]) rfl rfl rfl rfl hps rfl (fun k hk => by show [SV.int .i64 _] = [SV.int .i64 _]; rw [getD_app_l hk]) (by show [SV.int .i64 _] = _; rw [getD_app_1]) (fun z => ⟨_, rfl, rfl⟩), ⟨trivial, trivial⟩⟩⟩ trivial fun A => N9 16 A rfl rfl fun A => RET hX [4, 6] A ⟨rfl, rfl⟩ rfl rfl rfl rfl rfl rfl rfl rfl h0)
       (fun h9 A => N9 8 A rfl rfl fun A => forkE 70 A rfl
        (fun h10 A => absurd h10 (by omega))
        (fun h10 A => N9 6 A rfl rfl fun A => forkE 70 A rfl
         (fun h11 A => absurd h11 (by omega))
         (fun h11 A => N9 7 A rfl rfl fun A => forkE 85 A rfl
          (fun h12 A => absurd h12 (by omega))
          (fun h12 A => N9 5 A rfl rfl fun A => DRAWN hX hmo [] [(10, .sl 5 (ps.length + 1) 0, [some (.blk [.int .i64 at_, .int .i64 (r 0), .int .i64 (r 1), .int .i64 (r 2), .int .i64 (r 3), .int .i64 (r 4), .int .i64 (r 5), .int .i64 (r 6), .int .i64 (r 7), .sla ra lr.length rc, .sl 1 es.length 0, .sl 2 ps.length 0]), some (.row 49 15 es.length 0 (fun j => evtS (es.getD j Ev.z))), none, some (.blk (inQ9 i)), some (.blk [.int .i64 at_]), some (.row 3 1 (ps.length + 1) 0 (fun j => [.int .i64 ((ps ++ [at_]).getD j 0)]))])] A rfl rfl rfl rfl (by kernel_rfl) ⟨trivial, ⟨appE (i := 2) hX (ps.length + 1) (fun j => [.int .i64 ((ps ++ [at_]).getD j 0)]) rfl rfl rfl rfl hps rfl (fun k hk => by show [SV.int .i64 _] = [SV.int .i64 _]; rw [getD_app_l hk]) (by show [SV.int .i64 _] = _; rw [getD_app_1]) (fun z => ⟨_, rfl, rfl⟩), ⟨trivial, trivial⟩⟩⟩ trivial fun A => N9 16 A rfl rfl fun A => False.elim (by omega))))))))))
end Go.Proofs.YtjkppaijicjpoaaGreatDoor.Mc.Lo
namespace Go.Proofs.YtjkppaijicjpoaaGreatDoor.Mc.Lo
open Go.RowKit
set_option linter.unusedVariables false
set_option linter.unusedSimpArgs false
set_option maxRecDepth 100000
set_option maxHeartbeats 2000000
set_option simprocs false
theorem accessN_ (at_ : Int) (r : Rg) (ra : Option Addr) (lr : List Int) (rc : Nat) (es : List Ev) (ps : List Int) (i : In) (hr : ((i.op == 4) || (i.op == 6)) = true) (hl0 : lr.length = 0) (hs : i.sz = 1 ∨ i.sz = 2 ∨ i.sz = 4 ∨ i.sz = 8) (hx : -1 ≤ i.ix ∧ i.ix < 8) : FnI (RdA ra lr) Tryz.prog 63 [.ptr 0 0, .agg (inQ9 i)] [some (.blk [.int .i64 at_, .int .i64 (r 0), .int .i64 (r 1), .int .i64 (r 2), .int .i64 (r 3), .int .i64 (r 4), .int .i64 (r 5), .int .i64 (r 6), .int .i64 (r 7), .sla ra lr.length rc, .sl 1 es.length 0, .sl 2 ps.length 0]), some (.row 49 15 es.length 0 (fun j => evtS (es.getD j Ev.z))), some (.row 3 1 ps.length 0 (fun j => [.int .i64 (ps.getD j 0)]))] (Rt (.ff) [some (.blk [.int .i64 at_, .int .i64 (r 0), .int .i64 (r 1), .int .i64 (r 2), .int .i64 (r 3), .int .i64 (r 4), .int .i64 (r 5), .int .i64 (r 6), .int .i64 (r 7), .sla ra lr.length rc, .sl 1 es.length 0, .sl 2 ps.length 0]), some (.row 49 15 es.length 0 (fun j => evtS (es.getD j Ev.z))), some (.row 3 1 ps.length 0 (fun j => [.int .i64 (ps.getD j 0)]))]) :=
 enterI (n := 81) (by kernel_rfl) Tryz.func63 rfl rfl rfl fun G w a h0 hI A => N9 10 A rfl rfl fun A => C9 [0, 1, 2] (event_ at_ r ra lr.length rc es ps i) A rfl fun A => N9 5 A rfl rfl fun A => DRAWN hX hmo [(8, .int .i64 (bplace0 i.off (rgO r i.ix 0) i.sz))] [(5, .int .i64 (rgO r i.ix 0), [some (.blk [.int .i64 at_, .int .i64 (r 0), .int .i64 (r 1), .int .i64 (r 2), .int .i64 (r 3), .int .i64 (r 4), .int .i64 (r 5), .int .i64 (r 6), .int .i64 (r 7), .sla ra lr.length rc, .sl 1 es.length 0, .sl 2 ps.length 0]), some (.row 49 15 es.length 0 (fun j => evtS (es.getD j Ev.z))), some (.row 3 1 ps.length 0 (fun j => [.int .i64 (ps.getD j 0)])), some (.blk (inQ9 i)), some (.blk [.z9, .int .i64 ((ps.length : Nat) : Int), .int .i64 at_, .int .i64 i.op, .z9, .z9, .bool ((i.op == 4) || (i.op == 6)), .bool ((i.op == 5) || (i.op == 6)), .z9, .z9, .bool i.acq, .bool i.weak, .bool i.rel, .int .i64 i.pred, .int .i64 i.succ])])] A rfl rfl rfl rfl (by kernel_rfl) ⟨callE [0, 1, 2] (regOr_ at_ r ra lr.length rc es ps i.ix 0 (by omega)) rfl rfl rfl rfl rfl rfl rfl, trivial⟩ ⟨.inl ⟨_, _, rfl, rfl, bplace_ i.off (rgO r i.ix 0) i.sz⟩, trivial⟩ fun A => N9 2 A rfl rfl fun A => DRAWN hX hmo [(5, .int .i64 (bmask0 (bplace0 i.off (rgO r i.ix 0) i.sz) i.sz))] [] A rfl rfl rfl rfl (by kernel_rfl) (effAll_nil _ _) ⟨.inl ⟨_, _, rfl, rfl, bmask_ (bplace0 i.off (rgO r i.ix 0) i.sz) i.sz hs⟩, trivial⟩ fun A => N9 8 A rfl rfl fun A => fork 28 A rfl
  (fun h1 A => N9 12 A rfl rfl fun A => forkE 34 A rfl
   (fun h2 A => N9 7 A rfl rfl fun A => RET hX [] A ⟨rfl, rfl⟩ rfl rfl rfl rfl rfl rfl rfl rfl h0)
   (fun h2 A => absurd (by omega) h2))
  (fun h1 A => absurd (hr.symm.trans h1) (by decide))
theorem stepN_ (at_ : Int) (r : Rg) (ra : Option Addr) (lr : List Int) (rc : Nat) (es : List Ev) (ps : List Int) (i : In) (hop : i.op = 4 ∨ i.op = 6) (hr : ((i.op == 4) || (i.op == 6)) = true) (hl0 : lr.length = 0) (hs : i.sz = 1 ∨ i.sz = 2 ∨ i.sz = 4 ∨ i.sz = 8) (hx : -1 ≤ i.ix ∧ i.ix < 8) (hat : 0 ≤ at_ ∧ at_ ≤ 1000) (hes : es.length ≤ 1000000) (hps : ps.length ≤ 1000000) : FnI (RdA ra lr) Tryz.prog 42 [.ptr 0 0, .agg (inQ9 i)] [some (.blk [.int .i64 at_, .int .i64 (r 0), .int .i64 (r 1), .int .i64 (r 2), .int .i64 (r 3), .int .i64 (r 4), .int .i64 (r 5), .int .i64 (r 6), .int .i64 (r 7), .sla ra lr.length rc, .sl 1 es.length 0, .sl 2 ps.length 0]), some (.row 49 15 es.length 0 (fun j => evtS (es.getD j Ev.z))), some (.row 3 1 ps.length 0 (fun j => [.int .i64 (ps.getD j 0)]))] (Rt (.ff) [some (.blk [.int .i64 at_, .int .i64 (r 0), .int .i64 (r 1), .int .i64 (r 2), .int .i64 (r 3), .int .i64 (r 4), .int .i64 (r 5), .int .i64 (r 6), .int .i64 (r 7), .sla ra lr.length rc, .sl 1 es.length 0, .sl 2 ps.length 0]), some (.row 49 15 es.length 0 (fun j => evtS (es.getD j Ev.z))), some (.row 3 1 ps.length 0 (fun j => [.int .i64 (ps.getD j 0)]))]) :=
 enterI (n := 117) (by kernel_rfl) Tryz.func42 rfl rfl rfl fun G w a h0 hI A => N9 18 A rfl (ok_d (by omega) <| okE_nil) fun A => N9 12 A rfl rfl fun A => forkE 13 A rfl
  (fun h1 A => absurd h1 (by omega))
  (fun h1 A => N9 7 A rfl rfl fun A => forkE 23 A rfl
   (fun h2 A => absurd h2 (by omega))
   (fun h2 A => N9 7 A rfl rfl fun A => forkE 38 A rfl
    (fun h3 A => absurd h3 (by omega))
    (fun h3 A => N9 8 A rfl rfl fun A => forkE 62 A rfl
     (fun h5 A => N9 8 A rfl rfl fun A => I9 [0, 1, 2] RdA.ok hI (accessN_ at_ r ra lr rc es ps i hr hl0 hs hx) A rfl fun A => N9 10 A rfl rfl fun A => RET hX [] A ⟨rfl, rfl⟩ rfl rfl rfl rfl rfl rfl rfl rfl h0)
     (fun h5 A => N9 7 A rfl rfl fun A => forkE 62 A rfl
      (fun h6 A => absurd h6 (by omega))
      (fun h6 A => N9 6 A rfl rfl fun A => forkE 62 A rfl
       (fun h8 A => N9 5 A rfl rfl fun A => I9 [0, 1, 2] RdA.ok hI (accessN_ at_ r ra lr rc es ps i hr hl0 hs hx) A rfl fun A => N9 10 A rfl rfl fun A => RET hX [] A ⟨rfl, rfl⟩ rfl rfl rfl rfl rfl rfl rfl rfl h0)
       (fun h8 A => N9 8 A rfl rfl fun A => forkE 70 A rfl
        (fun h9 A => absurd h9 (by omega))
        (fun h9 A => N9 6 A rfl rfl fun A => forkE 70 A rfl
         (fun h10 A => absurd h10 (by omega))
         (fun h10 A => N9 7 A rfl rfl fun A => forkE 85 A rfl
          (fun h11 A => absurd h11 (by omega))
          (fun h11 A => N9 5 A rfl rfl fun A => DRAWN hX hmo [] [(10, .sl 5 (ps.length + 1) 0, [some (.blk [.int .i64 at_, .int .i64 (r 0), .int .i64 (r 1), .int .i64 (r 2), .int .i64 (r 3), .int .i64 (r 4), .int .i64 (r 5), .int .i64 (r 6), .int .i64 (r 7), .sla ra lr.length rc, .sl 1 es.length 0, .sl 2 ps.length 0]), some (.row 49 15 es.length 0 (fun j => evtS (es.getD j Ev.z))), none, some (.blk (inQ9 i)), some (.blk [.int .i64 at_]), some (.row 3 1 (ps.length + 1) 0 (fun j => [.int .i64 ((ps ++ [at_]).getD j 0)]))])] A rfl rfl rfl rfl (by kernel_rfl) ⟨trivial, ⟨appE (i := 2) hX (ps.length + 1) (fun j => [.int .i64 ((ps ++ [at_]).getD j 0)]) rfl rfl rfl rfl hps rfl (fun k hk => by show [SV.int .i64 _] = [SV.int .i64 _]; rw [getD_app_l hk]) (by show [SV.int .i64 _] = _; rw [getD_app_1]) (fun z => ⟨_, rfl, rfl⟩), ⟨trivial, trivial⟩⟩⟩ trivial fun A => N9 16 A rfl rfl fun A => False.elim (by omega))))))))))
end Go.Proofs.YtjkppaijicjpoaaGreatDoor.Mc.Lo
namespace Go.Proofs.YtjkppaijicjpoaaGreatDoor.Mc.Lo
open Go.RowKit
set_option linter.unusedVariables false
set_option linter.unusedSimpArgs false
set_option linter.unusedSectionVars false
set_option maxRecDepth 100000
set_option maxHeartbeats 2000000
set_option simprocs false
abbrev iv (ps : List Int) : List Value := ps.map (Value.int .i64)
theorem bl_some {b k : Nat} : (bl (some ⟨b, 0, none⟩)).contains k = true ↔ k = b := by simp [bl]
theorem flat_ints (g : List Int) : flatV (fun j => [.int .i64 (g.getD j 0)]) g.length = some (iv g) := by
 have h : ∀ n, n ≤ g.length → flatV (fun j => [.int .i64 (g.getD j 0)]) n = some (iv (g.take n)) := by
  intro n hn
  induction n with
  | zero => simp [flatV]
  | succ n ih =>
   unfold flatV
   rw [ih (by omega)]
   have e : g.take (n + 1) = g.take n ++ [g.getD n 0] := by
    rw [List.take_add_one, List.getD_eq_getElem?_getD, List.getElem?_eq_getElem (by omega)]; rfl
   rw [e]
   simp [denL, den]
 have := h g.length (Nat.le_refl _)
 rwa [List.take_length] at this
theorem _root_.Go.Proofs.YtjkppaijicjpoaaGreatDoor.Given.ints {g : List Int} {b cp : Nat} {w : World} (h : Given 3 1 g.length (fun j => [.int .i64 (g.getD j 0)]) b cp w) : Ro 3 w (some ⟨b, 0, none⟩) g.length cp (iv g) := by
 obtain ⟨_, xs, h2, h3⟩ := h
 rw [flat_ints] at h2
 cases h2
 exact h3
structure LW where
 at_ : Nat
 r : Rg
 lr : List Int
 es : List Ev
 ps : List Int
def stR (r : Rg) (i : In) (lr : List Int) : Rg := if i.op = 1 then updR r i.dst.toNat i.imm else if i.op = 2 then updR r i.dst.toNat (r i.ra.toNat) else if i.op = 3 then updR r i.dst.toNat (balu0 i.fn (r i.ra.toNat) (rgO r i.rb i.imm)) else acR r i lr
def stE (s : LW) (i : In) : List Ev := if i.op = 4 ∨ i.op = 5 ∨ i.op = 6 then s.es ++ [acE (s.at_ : Int) s.r ((s.ps.length : Nat) : Int) i s.lr] else if i.op = 7 ∨ i.op = 8 then s.es ++ [feE (s.at_ : Int) ((s.ps.length : Nat) : Int) i] else s.es
def stA (s : LW) (i : In) : Int := if i.op = 9 then stTo (s.at_ : Int) s.r i else (s.at_ : Int) + 1
def stS (s : LW) (i : In) : LW := ⟨(stA s i).toNat, stR s.r i s.lr, if ((i.op == 4) || (i.op == 6)) = true then s.lr.tail else s.lr, stE s i, s.ps ++ [(s.at_ : Int)]⟩
structure LI (cs : List In) (g : Nat → Int) (s : LW) : Prop where
 le : s.at_ ≤ cs.length
 pl : s.ps.length ≤ s.at_
theorem LI.i0 {cs : List In} {g : Nat → Int} (lr : List Int) : LI cs g ⟨0, g, lr, [], []⟩ := ⟨Nat.zero_le _, Nat.le_refl _⟩
def runF (cs : List In) : Nat → LW → Option LW
 | 0, s => some s
 | n + 1, s => if s.at_ < cs.length then (if (((cs.getD s.at_ In.z).op == 4) || ((cs.getD s.at_ In.z).op == 6)) = true ∧ s.lr.length = 0 then none else runF cs n (stS s (cs.getD s.at_ In.z))) else some s
section
variable {cs : List In} {g : Nat → Int}
theorem stA_gt (hc : RCd cs) {s : LW} (h : s.at_ < cs.length) : s.at_ < (stS s (cs.getD s.at_ In.z)).at_ := by
 have hB := fun e => hc.brs h e
 show s.at_ < (stA s (cs.getD s.at_ In.z)).toNat
 unfold stA
 by_cases e : (cs.getD s.at_ In.z).op = 9
 ·rw [if_pos e]
  have hb := hB e
  unfold stTo
  by_cases e2 : (s.r (cs.getD s.at_ In.z).ra.toNat == 0) = (cs.getD s.at_ In.z).zero
  ·rw [if_pos e2]; omega
  ·rw [if_neg e2]; omega
 ·rw [if_neg e]; omega
theorem stA_le (hc : RCd cs) {s : LW} (h : s.at_ < cs.length) : (stS s (cs.getD s.at_ In.z)).at_ ≤ cs.length := by
 have hB := fun e => hc.brs h e
 show (stA s (cs.getD s.at_ In.z)).toNat ≤ _
 unfold stA
 by_cases e : (cs.getD s.at_ In.z).op = 9
 ·rw [if_pos e]
  have hb := hB e
  unfold stTo
  by_cases e2 : (s.r (cs.getD s.at_ In.z).ra.toNat == 0) = (cs.getD s.at_ In.z).zero
  ·rw [if_pos e2]; omega
  ·rw [if_neg e2]; omega
 ·rw [if_neg e]; omega
theorem LI.nx {s : LW} (hc : RCd cs) (hI : LI cs g s) (hlt : s.at_ < cs.length) : LI cs g (stS s (cs.getD s.at_ In.z)) := by
 have h1 := stA_gt hc hlt
 have h2 := hI.pl
 refine ⟨stA_le hc hlt, ?_⟩
 show (s.ps ++ [(s.at_ : Int)]).length ≤ _
 rw [List.length_append]; simp only [List.length_cons, List.length_nil]; omega
end
abbrev wkB (s : LW) (ra : Option Addr) (rc i j : Nat) : Option Ent := some (.blk [.int .i64 ((s.at_ : Nat) : Int), .int .i64 (s.r 0), .int .i64 (s.r 1), .int .i64 (s.r 2), .int .i64 (s.r 3), .int .i64 (s.r 4), .int .i64 (s.r 5), .int .i64 (s.r 6), .int .i64 (s.r 7), .sla ra s.lr.length rc, .sl i s.es.length 0, .sl j s.ps.length 0])
abbrev rwE (es : List Ev) : Option Ent := some (.row 49 15 es.length 0 (fun j => evtS (es.getD j Ev.z)))
abbrev rwP (ps : List Int) : Option Ent := some (.row 3 1 ps.length 0 (fun j => [.int .i64 (ps.getD j 0)]))
section
variable {s : LW} {ra : Option Addr} {rc : Nat} {i : In}
theorem rd46n (h : ¬ (i.op = 4 ∨ i.op = 6)) : ((i.op == 4) || (i.op == 6)) = false := by
 rw [Bool.or_eq_false_iff]; exact ⟨by simp; omega, by simp; omega⟩
theorem stS_lr : (stS s i).lr.length = acN s.lr.length i := by
 show (if ((i.op == 4) || (i.op == 6)) = true then s.lr.tail else s.lr).length = _
 unfold acN
 by_cases h : ((i.op == 4) || (i.op == 6)) = true
 ·rw [if_pos h, if_pos h, List.length_tail]
 ·rw [if_neg h, if_neg h]
theorem stS_ps : (stS s i).ps.length = s.ps.length + 1 := by
 show (s.ps ++ [(s.at_ : Int)]).length = _
 rw [List.length_append]; rfl
theorem stepQ_ (hS : Snd i) (hop : i.op = 1 ∨ i.op = 2 ∨ i.op = 3 ∨ i.op = 9) (hA : 0 ≤ stA s i) (hat : s.at_ ≤ 1000) (hes : s.es.length ≤ 1000000) (hps : s.ps.length ≤ 1000000) :
  FnI (RdA ra s.lr) Tryz.prog 42 [.ptr 0 0, .agg (insS i)] [wkB s ra rc 1 2, rwE s.es, rwP s.ps] (Rt .tt [wkB (stS s i) (acA ra rc i) (acN rc i) 1 3, rwE (stS s i).es, none, rwP (stS s i).ps]) := by
 have h46 : ((i.op == 4) || (i.op == 6)) = false := rd46n (by omega)
 have ea : (((stS s i).at_ : Nat) : Int) = stA s i := Int.toNat_of_nonneg hA
 have ee : (stS s i).es = s.es := by
  show stE s i = s.es
  unfold stE
  rw [if_neg (by omega), if_neg (by omega)]
 have el := stS_lr (s := s) (i := i)
 have en : ∀ k, acN k i = k := fun k => by unfold acN; rw [h46]; rfl
 have eA : acA ra rc i = ra := by unfold acA; rw [h46]; rfl
 unfold wkB rwE rwP
 rw [ea, ee, el, en, en, eA, stS_ps]
 have hat' : 0 ≤ (s.at_ : Int) ∧ (s.at_ : Int) ≤ 1000 := by omega
 show FnI _ _ _ _ _ (Rt .tt [some (.blk [.int .i64 (stA s i), .int .i64 (stR s.r i s.lr 0), .int .i64 (stR s.r i s.lr 1), .int .i64 (stR s.r i s.lr 2), .int .i64 (stR s.r i s.lr 3), .int .i64 (stR s.r i s.lr 4), .int .i64 (stR s.r i s.lr 5), .int .i64 (stR s.r i s.lr 6), .int .i64 (stR s.r i s.lr 7), .sla ra s.lr.length rc, .sl 1 s.es.length 0, .sl 3 (s.ps.length + 1) 0]), _, none, some (.row 3 1 (s.ps.length + 1) 0 (fun j => [.int .i64 ((s.ps ++ [(s.at_ : Int)]).getD j 0)]))])
 rcases hop with h | h | h | h
 ·have er : stR s.r i s.lr = updR s.r i.dst.toNat i.imm := by unfold stR; rw [if_pos h]
  have eA : stA s i = (s.at_ : Int) + 1 := by unfold stA; rw [if_neg (by omega)]
  rw [er, eA]
  exact step1_ _ _ _ _ _ _ _ i h (hS.d (by omega)) hat' hes hps
 ·have er : stR s.r i s.lr = updR s.r i.dst.toNat (s.r i.ra.toNat) := by unfold stR; rw [if_neg (by omega), if_pos h]
  have eA : stA s i = (s.at_ : Int) + 1 := by unfold stA; rw [if_neg (by omega)]
  rw [er, eA]
  exact step2_ _ _ _ _ _ _ _ i h (hS.d (by omega)) (hS.a (by omega)) hat' hes hps
 ·have er : stR s.r i s.lr = updR s.r i.dst.toNat (balu0 i.fn (s.r i.ra.toNat) (rgO s.r i.rb i.imm)) := by unfold stR; rw [if_neg (by omega), if_neg (by omega), if_pos h]
  have eA : stA s i = (s.at_ : Int) + 1 := by unfold stA; rw [if_neg (by omega)]
  rw [er, eA]
  exact step3_ _ _ _ _ _ _ _ i h (hS.d (by omega)) (hS.a (by omega)) (hS.b h) hat' hes hps
 ·have er : stR s.r i s.lr = s.r := by unfold stR acR; rw [if_neg (by omega), if_neg (by omega), if_neg (by omega), h46]; rfl
  have eA : stA s i = stTo (s.at_ : Int) s.r i := by unfold stA; rw [if_pos h]
  rw [er, eA]
  exact step9_ _ _ _ _ _ _ _ i h (hS.a (by omega)) hat' hes hps
theorem stepE_ (hS : Snd i) (hop : i.op = 4 ∨ i.op = 5 ∨ i.op = 6 ∨ i.op = 7 ∨ i.op = 8) (hz : i.op = 4 ∨ i.op = 5 ∨ i.op = 6 → i.sz = 1 ∨ i.sz = 2 ∨ i.sz = 4 ∨ i.sz = 8) (hrd : ((i.op == 4) || (i.op == 6)) = true → s.lr.length ≠ 0) (hlc : s.lr.length ≤ rc) (hln : s.lr.length ≤ 1000000) (hA : 0 ≤ stA s i) (hat : s.at_ ≤ 1000) (hes : s.es.length ≤ 1000000) (hps : s.ps.length ≤ 1000000) :
  FnI (RdA ra s.lr) Tryz.prog 42 [.ptr 0 0, .agg (insS i)] [wkB s ra rc 1 2, rwE s.es, rwP s.ps] (Rt .tt [wkB (stS s i) (acA ra rc i) (acN rc i) 3 4, none, none, rwE (stS s i).es, rwP (stS s i).ps]) := by
 have ea : (((stS s i).at_ : Nat) : Int) = stA s i := Int.toNat_of_nonneg hA
 have el := stS_lr (s := s) (i := i)
 have eA : stA s i = (s.at_ : Int) + 1 := by unfold stA; rw [if_neg (by omega)]
 have hat' : 0 ≤ (s.at_ : Int) ∧ (s.at_ : Int) ≤ 1000 := by omega
 have er : stR s.r i s.lr = acR s.r i s.lr := by unfold stR; rw [if_neg (by omega), if_neg (by omega), if_neg (by omega)]
 unfold wkB rwE rwP
 rw [ea, el, stS_ps]
 show FnI _ _ _ _ _ (Rt .tt [some (.blk [.int .i64 (stA s i), .int .i64 (stR s.r i s.lr 0), .int .i64 (stR s.r i s.lr 1), .int .i64 (stR s.r i s.lr 2), .int .i64 (stR s.r i s.lr 3), .int .i64 (stR s.r i s.lr 4), .int .i64 (stR s.r i s.lr 5), .int .i64 (stR s.r i s.lr 6), .int .i64 (stR s.r i s.lr 7), .sla (acA ra rc i) (acN s.lr.length i) (acN rc i), .sl 3 (stE s i).length 0, .sl 4 (s.ps.length + 1) 0]), none, none, some (.row 49 15 (stE s i).length 0 (fun j => evtS ((stE s i).getD j Ev.z))), some (.row 3 1 (s.ps.length + 1) 0 (fun j => [.int .i64 ((s.ps ++ [(s.at_ : Int)]).getD j 0)]))])
 rw [er, eA]
 by_cases h : i.op = 7 ∨ i.op = 8
 ·have h46 : ((i.op == 4) || (i.op == 6)) = false := rd46n (by omega)
  have ee : stE s i = s.es ++ [feE (s.at_ : Int) ((s.ps.length : Nat) : Int) i] := by unfold stE; rw [if_neg (by omega), if_pos h]
  have en : ∀ k, acN k i = k := fun k => by unfold acN; rw [h46]; rfl
  have eA : acA ra rc i = ra := by unfold acA; rw [h46]; rfl
  have eR : acR s.r i s.lr = s.r := by unfold acR; rw [h46]; rfl
  have e1 : (s.es ++ [feE (s.at_ : Int) ((s.ps.length : Nat) : Int) i]).length = s.es.length + 1 := by rw [List.length_append]; rfl
  rw [ee, en, en, eA, eR, e1]
  exact step7_ _ _ _ _ _ _ _ i h hat' hes hps
 ·have h' : i.op = 4 ∨ i.op = 5 ∨ i.op = 6 := by omega
  have ee : stE s i = s.es ++ [acE (s.at_ : Int) s.r ((s.ps.length : Nat) : Int) i s.lr] := by unfold stE; rw [if_pos h']
  have e1 : (s.es ++ [acE (s.at_ : Int) s.r ((s.ps.length : Nat) : Int) i s.lr]).length = s.es.length + 1 := by rw [List.length_append]; rfl
  rw [ee, e1]
  exact step4_ _ _ _ _ _ _ _ i h' (hz h') (hS.x h') (fun q => by
   have : i.op = 5 ∨ i.op = 6 := by simpa using q
   rcases this with q | q
   ·exact hS.a5 q
   ·have := hS.a (by omega); omega) (fun q => hS.a (by omega)) (fun q => hS.d (by have : i.op = 4 ∨ i.op = 6 := (by simpa using q); omega)) hrd hlc hln hat' hes hps
end
structure LX where
 s : LW
 ra : Option Addr
 rc : Nat
structure LJ (cs : List In) (g : Nat → Int) (res : Option LW) (z : LX) (w : World) (ks : List Nat) : Prop where
 rd : RdAt z.ra z.s.lr w ks
 lc : z.s.lr.length ≤ z.rc
 ln : z.s.lr.length ≤ 1000000
 li : LI cs g z.s
 es : z.s.es.length ≤ z.s.ps.length
 rn : ∃ n, runF cs n z.s = res ∧ cs.length - z.s.at_ ≤ n
section
variable {cs : List In} {g : Nat → Int} {res : Option LW} {z : LX} {w w' : World} {ks ks' : List Nat}
theorem LJ.i0 {ra : Option Addr} {rc : Nat} {lr : List Int} (h : RdAt ra lr w ks) (h1 : lr.length ≤ rc) (h2 : lr.length ≤ 1000000) (hr : runF cs cs.length ⟨0, g, lr, [], []⟩ = res) : LJ cs g res ⟨⟨0, g, lr, [], []⟩, ra, rc⟩ w ks :=
 ⟨h, h1, h2, LI.i0 lr, Nat.le_refl _, _, hr, by simp⟩
def nxZ (cs : List In) (z : LX) : LX := ⟨stS z.s (cs.getD z.s.at_ In.z), acA z.ra z.rc (cs.getD z.s.at_ In.z), acN z.rc (cs.getD z.s.at_ In.z)⟩
theorem LI.p8 {s : LW} (hc : RCd cs) (hI : LI cs g s) : s.ps.length ≤ 8 := by
 have h1 := hI.pl
 have h2 := hI.le
 have h3 := hc.n
 omega
def used (cs : List In) (z : LX) : Prop := (((cs.getD z.s.at_ In.z).op == 4) || ((cs.getD z.s.at_ In.z).op == 6)) = true ∧ z.s.lr.length = 0
theorem LJ.nx (hc : RCd cs) (h : LJ cs g res z w ks) (hlt : z.s.at_ < cs.length) (hu : ¬ used cs z) : LJ cs g res (nxZ cs z) w ks := by
 have hg := stA_gt hc hlt
 obtain ⟨n, h1, h2⟩ := h.rn
 unfold used at hu
 refine ⟨?_, ?_, ?_, h.li.nx hc hlt, ?_, ?_⟩
 ·show RdAt (acA z.ra z.rc _) (if _ then z.s.lr.tail else z.s.lr) w ks
  unfold acA
  by_cases e : (((cs.getD z.s.at_ In.z).op == 4) || ((cs.getD z.s.at_ In.z).op == 6)) = true
  ·rw [if_pos e, if_pos e]
   have hr := rdH (ra := z.ra) h.rd (fun h0 => hu ⟨e, h0⟩)
   refine hr.tl ?_
   have := h.lc
   have hp : z.s.lr.length ≠ 0 := fun h0 => hu ⟨e, h0⟩
   rw [List.length_cons, List.length_tail]; omega
  ·rw [if_neg e, if_neg e]; exact h.rd
 ·show (stS z.s _).lr.length ≤ acN z.rc _
  rw [stS_lr]
  have := h.lc
  unfold acN
  split <;> omega
 ·show (stS z.s _).lr.length ≤ _
  rw [stS_lr]
  have := h.ln
  unfold acN
  split <;> omega
 ·show (stE z.s _).length ≤ (stS z.s _).ps.length
  rw [stS_ps]
  have := h.es
  unfold stE
  split
  ·rw [List.length_append]; simp; omega
  ·split
   ·rw [List.length_append]; simp; omega
   ·omega
 ·cases n with
  | zero => omega
  | succ n =>
   unfold runF at h1
   rw [if_pos hlt, if_neg hu] at h1
   exact ⟨n, h1, by show cs.length - (stS z.s _).at_ ≤ n; omega⟩
theorem LJ.fin (h : LJ cs g res z w ks) (hn : ¬ z.s.at_ < cs.length) : res = some z.s := by
 obtain ⟨n, h1, h2⟩ := h.rn
 cases n with
 | zero => exact h1.symm
 | succ n => unfold runF at h1; rw [if_neg hn] at h1; exact h1.symm
theorem LJ.none (h : LJ cs g res z w ks) (hlt : z.s.at_ < cs.length) (hu : used cs z) : res = none := by
 obtain ⟨n, h1, h2⟩ := h.rn
 cases n with
 | zero => omega
 | succ n => unfold used at hu; unfold runF at h1; rw [if_pos hlt, if_pos hu] at h1; exact h1.symm
theorem LJ.mu (hc : RCd cs) (hlt : z.s.at_ < cs.length) : cs.length - (nxZ cs z).s.at_ < cs.length - z.s.at_ := by
 have := stA_gt hc hlt
 show cs.length - (stS z.s _).at_ < _
 omega
theorem LJ.sA (hc : RCd cs) (hlt : z.s.at_ < cs.length) : 0 ≤ stA z.s (cs.getD z.s.at_ In.z) := by
 have h := stA_gt hc hlt
 have e : (stS z.s (cs.getD z.s.at_ In.z)).at_ = (stA z.s (cs.getD z.s.at_ In.z)).toNat := rfl
 omega
theorem byKind {R : Prop} (hc : RCd cs) (hlt : z.s.at_ < cs.length) (k1 : used cs z → R) (k2 : ¬ used cs z → (cs.getD z.s.at_ In.z).op = 1 ∨ (cs.getD z.s.at_ In.z).op = 2 ∨ (cs.getD z.s.at_ In.z).op = 3 ∨ (cs.getD z.s.at_ In.z).op = 9 → R) (k3 : ¬ used cs z → (cs.getD z.s.at_ In.z).op = 4 ∨ (cs.getD z.s.at_ In.z).op = 5 ∨ (cs.getD z.s.at_ In.z).op = 6 ∨ (cs.getD z.s.at_ In.z).op = 7 ∨ (cs.getD z.s.at_ In.z).op = 8 → R) : R := by
 by_cases hu : used cs z
 ·exact k1 hu
 ·have h9 := (hc.snd hlt).op
  by_cases h : (cs.getD z.s.at_ In.z).op = 1 ∨ (cs.getD z.s.at_ In.z).op = 2 ∨ (cs.getD z.s.at_ In.z).op = 3 ∨ (cs.getD z.s.at_ In.z).op = 9
  ·exact k2 hu h
  ·exact k3 hu (by omega)
theorem stepU_ (hc : RCd cs) (hJ : LJ cs g res z w ks) (hlt : z.s.at_ < cs.length) (hu : used cs z) : FnI (RdA z.ra z.s.lr) Tryz.prog 42 [.ptr 0 0, .agg (insS (cs.getD z.s.at_ In.z))] [wkB z.s z.ra z.rc 1 2, rwE z.s.es, rwP z.s.ps] (Rt .ff [wkB z.s z.ra z.rc 1 2, rwE z.s.es, rwP z.s.ps]) := by
 have hop : (cs.getD z.s.at_ In.z).op = 4 ∨ (cs.getD z.s.at_ In.z).op = 6 := by simpa using hu.1
 have hn := hc.n
 have h8 := hJ.li.p8 hc
 have he := hJ.es
 exact stepN_ _ _ _ _ _ _ _ _ hop hu.1 hu.2 (hc.szs hlt (by omega)) ((hc.snd hlt).x (by omega)) (by omega) (by omega) (by omega)
theorem stepQ' (hc : RCd cs) (hJ : LJ cs g res z w ks) (hlt : z.s.at_ < cs.length) (hop : (cs.getD z.s.at_ In.z).op = 1 ∨ (cs.getD z.s.at_ In.z).op = 2 ∨ (cs.getD z.s.at_ In.z).op = 3 ∨ (cs.getD z.s.at_ In.z).op = 9) : FnI (RdA z.ra z.s.lr) Tryz.prog 42 [.ptr 0 0, .agg (insS (cs.getD z.s.at_ In.z))] [wkB z.s z.ra z.rc 1 2, rwE z.s.es, rwP z.s.ps] (Rt .tt [wkB (nxZ cs z).s (nxZ cs z).ra (nxZ cs z).rc 1 3, rwE (nxZ cs z).s.es, none, rwP (nxZ cs z).s.ps]) := by
 have hn := hc.n
 have h8 := hJ.li.p8 hc
 have he := hJ.es
 exact stepQ_ (hc.snd hlt) hop (LJ.sA hc hlt) (by omega) (by omega) (by omega)
theorem stepE' (hc : RCd cs) (hJ : LJ cs g res z w ks) (hlt : z.s.at_ < cs.length) (hu : ¬ used cs z) (hop : (cs.getD z.s.at_ In.z).op = 4 ∨ (cs.getD z.s.at_ In.z).op = 5 ∨ (cs.getD z.s.at_ In.z).op = 6 ∨ (cs.getD z.s.at_ In.z).op = 7 ∨ (cs.getD z.s.at_ In.z).op = 8) : FnI (RdA z.ra z.s.lr) Tryz.prog 42 [.ptr 0 0, .agg (insS (cs.getD z.s.at_ In.z))] [wkB z.s z.ra z.rc 1 2, rwE z.s.es, rwP z.s.ps] (Rt .tt [wkB (nxZ cs z).s (nxZ cs z).ra (nxZ cs z).rc 3 4, none, none, rwE (nxZ cs z).s.es, rwP (nxZ cs z).s.ps]) := by
 have hn := hc.n
 have h8 := hJ.li.p8 hc
 have he := hJ.es
 exact stepE_ (hc.snd hlt) hop (fun q => hc.szs hlt q) (fun h h0 => hu ⟨h, h0⟩) hJ.lc hJ.ln (LJ.sA hc hlt) (by omega) (by omega) (by omega)
end
def rR (o : Option LW) : Rg := match o with | none => fun _ => 0 | some s => s.r
def eR (o : Option LW) : List Ev := match o with | none => [] | some s => s.es
def pR (o : Option LW) : List Int := match o with | none => [] | some s => s.ps
def cR (o : Option LW) : Int := match o with | none => 24 | some _ => 0
section
variable {P : Program} {n : Nat} {ks : List Nat} {G0 : Gr} {w0 : World} {T : List (Nat × SV)} {H : Hp} {G : Gr} {a : Act} {w : World} {Q : Exit → Act → World → Prop} {K : List Fr} {pos : Pos}
theorem _root_.Go.Proofs.YtjkppaijicjpoaaGreatDoor.Sy.unrow (A : Sy n T H ks G0 w0 G a w) (i t : Nat) {l : List Int} {H' : Hp} (hi : lg H i = some (rwP l)) (ht : look T t = some (.sl i l.length 0)) (hH : stH H i none = H') :
  ∃ ao cp, Sy n ((t, .sla ao l.length cp) :: T) H' ks G0 w0 G a w ∧ l.length ≤ cp ∧ RdAt ao l w (keys H' G) := by
 by_cases hm : 0 < l.length
 ·obtain ⟨b, cp, h1, h2, h3, h4⟩ := A.giveRow i t hm hi ht hH
  have hr := h2.ints
  refine ⟨_, cp, h1, ?_, .inr ⟨b, 0, rfl, hr.lt (bl_some.2 rfl), h4, hr.range⟩⟩
  rcases hr.2 with ⟨q, _⟩ | ⟨g, cap, cur, q1, q2, q3, q4, _⟩
  ·cases q
  ·cases q1; exact q4
 ·have hl : l = [] := List.eq_nil_of_length_eq_zero (by omega)
  subst hl
  subst hH
  rw [lg_is] at hi
  have hg := A.get t _ ht
  have hold : ∀ (j : Nat) (e : Ent), (stH H i none)[j]? = some (some e) → j ≠ i ∧ H[j]? = some (some e) := by
   intro j e h
   rw [stH_is] at h
   by_cases hj : j = i
   ·subst hj; rw [List.getElem?_set_self (List.getElem?_eq_some_iff.1 hi).1] at h; cases h
   ·rw [List.getElem?_set_ne (Ne.symm hj)] at h; exact ⟨hj, h⟩
  have hx : ∃ ao cp, den G (.sl i 0 0) = some (.slice ao 0 cp) := by
   unfold den at hg ⊢
   split at hg
   ·exact ⟨_, _, rfl⟩
   ·cases hg
  obtain ⟨ao, cp, hx⟩ := hx
  refine ⟨ao, cp, ⟨A.size, A.defers, fun q x hq => ?_, ⟨by rw [stH_is]; simpa using A.mem.len, fun j e he => A.mem.ent j e (hold j e he).2, fun j k e f L' M hjk g1 g2 g3 g4 g5 g6 => A.mem.sep j k e f L' M hjk (hold j e g1).2 (hold k f g2).2 g3 g4 g5 g6⟩, A.pre, fun j e L' g1 g2 g3 => A.own j e L' (hold j e g1).2 g2 g3, A.mix⟩, Nat.zero_le _, .inl rfl⟩
  unfold look at hq
  cases hb : Nat.beq t q with
  | true =>
   rw [hb] at hq; cases hq
   have := Nat.eq_of_beq_eq_true hb
   subst this
   have e : den G (.sl i ([] : List Int).length 0) = den G (.sl i 0 0) := rfl
   rw [← hg, e, hx]; rfl
  | false => rw [hb] at hq; exact A.get q x hq
theorem _root_.Go.Proofs.YtjkppaijicjpoaaGreatDoor.Sy.cellAs (A : Sy n T H ks G0 w0 G a w) (i : Nat) {cs cs' : List SV} (hi : lg H i = some (some (.blk cs))) (hd : denL G cs' = denL G cs) : Sy n T (stH H i (some (.blk cs'))) ks G0 w0 G a w := by
 rw [lg_is] at hi
 have hilt := (List.getElem?_eq_some_iff.1 hi).1
 have hold : ∀ (j : Nat) (e : Ent), (stH H i (some (.blk cs')))[j]? = some (some e) → (j ≠ i ∧ H[j]? = some (some e)) ∨ (j = i ∧ e = .blk cs') := by
  intro j e h
  rw [stH_is] at h
  by_cases hj : j = i
  ·subst hj; rw [List.getElem?_set_self hilt] at h; cases h; exact .inr ⟨rfl, rfl⟩
  ·rw [List.getElem?_set_ne (Ne.symm hj)] at h; exact .inl ⟨hj, h⟩
 refine ⟨A.size, A.defers, A.get, ⟨by rw [stH_is]; simpa using A.mem.len, fun j e he => ?_, fun j k e f L M hjk g1 g2 g3 g4 g5 g6 => ?_⟩, A.pre, fun j e L g1 g2 g3 => ?_, A.mix⟩
 ·rcases hold j e he with ⟨_, h⟩ | ⟨rfl, rfl⟩
  ·exact A.mem.ent j e h
  ·obtain ⟨L, vs, q1, q2, q3⟩ := A.mem.ent j _ hi
   exact ⟨L, vs, q1, by rw [hd]; exact q2, q3⟩
 ·rcases hold j e g1 with ⟨h1, h2⟩ | ⟨rfl, rfl⟩
  ·rcases hold k f g2 with ⟨h3, h4⟩ | ⟨rfl, rfl⟩
   ·exact A.mem.sep j k e f L M hjk h2 h4 g3 g4 g5 g6
   ·exact A.mem.sep j k e _ L M hjk h2 hi g3 g4 g5 (fun h => h)
  ·rcases hold k f g2 with ⟨h3, h4⟩ | ⟨rfl, rfl⟩
   ·exact A.mem.sep j k _ f L M hjk hi h4 rfl g4 g5 g6
   ·exact absurd rfl hjk
 ·rcases hold j e g1 with ⟨_, h⟩ | ⟨rfl, rfl⟩
  ·exact A.own j e L h g2 g3
  ·exact A.own j _ L hi rfl g3
theorem nil_same {n' : Nat} {T1 : List (Nat × SV)} {H1 : Hp} {G1 G2 : Gr} {ks1 : List Nat} {w1 w2 : World} {t p : Nat} (A0 : Sy n T H ks G0 w0 G a w) (A : Sy n' T1 H1 ks1 G2 w1 G1 a w2) (h0 : look T t = some (.sla none 0 0)) (h : look T1 t = some (.sl p 0 0)) : den G1 (.sl p 0 0) = some (.slice none 0 0) := by
 have h1 := A0.get t _ h0
 have h2 := A.get t _ h
 rw [h2, ← h1]; rfl
end
end Go.Proofs.YtjkppaijicjpoaaGreatDoor.Mc.Lo
namespace Go.Proofs.YtjkppaijicjpoaaGreatDoor.Mc.Lo
open Go.RowKit
set_option linter.unusedVariables false
set_option linter.unusedSimpArgs false
set_option maxRecDepth 100000
set_option maxHeartbeats 2000000
section
variable {P : Program} {n : Nat} {ks : List Nat} {G0 : Gr} {w0 : World} {T : List (Nat × SV)} {H : Hp} {G : Gr} {a : Act} {w : World} {Q : Exit → Act → World → Prop} {K : List Fr} {pos : Pos}
theorem code_at (A : Sy n T H ks G0 w0 G a w) (i c : Nat) {cs : List In} (hi : lg H i = some (some (.lst 17 cs.length (fun zz => insS (cs.getD zz In.z))))) : ∃ ao cp, den G (.sl i cs.length c) = some (.slice ao cs.length cp) ∧ CodesAt [⟨ao, cs, cp⟩] w (keys H G) := by
 rw [lg_is] at hi
 have hlt : i < G.length := by rw [← A.mem.len]; exact (List.getElem?_eq_some_iff.1 hi).1
 have hG := List.getElem?_eq_getElem hlt
 have hE := A.mem.ent i _ hi
 rw [hG] at hE
 have hden : den G (.sl i cs.length c) = some (.slice ((G[i]).map fun L => ⟨L.b, L.pre.length, none⟩) cs.length (c + rm G[i])) := by
  unfold den; rw [hG]
 refine ⟨_, _, hden, fun x hx => ?_⟩
 rw [List.mem_singleton] at hx
 subst hx
 obtain ⟨h1, h2⟩ := hE
 refine ⟨h1, ?_⟩
 by_cases h0 : cs.length = 0
 ·exact .inl h0
 ·obtain ⟨L, hL, h3, h4⟩ := h2.resolve_left h0
  have hL : G[i] = some L := hL
  refine .inr ⟨L.b, L.pre.length, by rw [hL]; rfl, h3, ?_, h4⟩
  cases hc : (keys H G).contains L.b with
  | false => rfl
  | true =>
   obtain ⟨j, e, M, q1, q2, q3, q4⟩ := mem_keys.1 hc
   have hji : j ≠ i := fun e' => by subst e'; rw [hi] at q1; cases q1; cases q2
   exact absurd q4 (A.mem.sep j i e _ M L hji q1 hi q2 q3 (by rw [hG, hL]) h0)
theorem CODEAT (i c : Nat) {cs : List In} (A : Sy n T H ks G0 w0 G a w) (hi : lg H i = some (some (.lst 17 cs.length (fun zz => insS (cs.getD zz In.z))))) (k : ∀ ao cp, den G (.sl i cs.length c) = some (.slice ao cs.length cp) → CodesAt [⟨ao, cs, cp⟩] w (keys H G) → Goal P Q K pos a w) : Goal P Q K pos a w := by
 obtain ⟨ao, cp, h1, h2⟩ := code_at A i c hi
 exact k ao cp h1 h2
theorem codeCell (A : Sy n T H ks G0 w0 G a w) {i m c cp : Nat} {ao : Option Addr} (h : den G0 (.sl i m c) = some (.slice ao m cp)) : denL G [.sla ao m cp] = denL G [.sl i m c] := by
 obtain ⟨F, hF⟩ := A.pre
 subst hF
 unfold denL denL
 rw [den_mono F _ h]
 rfl
end
theorem one_le {cs : List In} {ao : Option Addr} {cp : Nat} (hc : RCd cs) : ∀ c ∈ [(⟨ao, cs, cp⟩ : Cde)], c.l.length ≤ 9223372036854775807 := fun c h => by
 rw [List.mem_singleton] at h; subst h; exact Nat.le_trans hc.n (by decide)
end Go.Proofs.YtjkppaijicjpoaaGreatDoor.Mc.Lo
namespace Go.Proofs.YtjkppaijicjpoaaGreatDoor.Mc.Lo
open Go.RowKit
set_option linter.unusedVariables false
set_option linter.unusedSimpArgs false
set_option maxRecDepth 100000
set_option maxHeartbeats 2000000
set_option simprocs false
section
variable {P : Program} {n : Nat} {ks : List Nat} {G0 : Gr} {w0 : World} {T : List (Nat × SV)} {H : Hp} {G : Gr} {a : Act} {w : World} {Q : Exit → Act → World → Prop} {K : List Fr} {pos : Pos}
theorem UNROW (i t : Nat) {l : List Int} {H' : Hp} (A : Sy n T H ks G0 w0 G a w) (hi : lg H i = some (rwP l)) (ht : look T t = some (.sl i l.length 0)) (hH : stH H i none = H') (k : ∀ ao cp, Sy n ((t, .sla ao l.length cp) :: T) H' ks G0 w0 G a w → l.length ≤ cp → RdAt ao l w (keys H' G) → Goal P Q K pos a w) : Goal P Q K pos a w := by
 obtain ⟨ao, cp, h1, h2, h3⟩ := A.unrow i t hi ht hH
 exact k ao cp h1 h2 h3
end
theorem nilCells {G : Gr} {p q : Nat} (h7 : den G (.sl p 0 0) = some (.slice none 0 0)) (h8 : den G (.sl q 0 0) = some (.slice none 0 0)) : ∀ {l : List SV}, denL G (l ++ [.sl p 0 0, .sl q 0 0]) = denL G (l ++ [.sla none 0 0, .sla none 0 0])
 | [] => by
  show denL G [.sl p 0 0, .sl q 0 0] = denL G [.sla none 0 0, .sla none 0 0]
  unfold denL denL denL
  rw [h7, h8]
  rfl
 | x :: l => by
  show denL G (x :: (l ++ _)) = denL G (x :: (l ++ _))
  unfold denL
  rw [nilCells h7 h8]
theorem Local_ (cs : List In) (c : Nat) (g : Nat → Int) (lr : List Int) (res : Option LW) (hr : ∀ ao cp, ckE [(⟨ao, cs, cp⟩ : Cde)] = 0) (hln : lr.length ≤ 1000000) (hrun : runF cs cs.length ⟨0, g, lr, [], []⟩ = res) : Fn Tryz.prog 14 [.sl 0 cs.length c, .agg [.int .i64 (g 0), .int .i64 (g 1), .int .i64 (g 2), .int .i64 (g 3), .int .i64 (g 4), .int .i64 (g 5), .int .i64 (g 6), .int .i64 (g 7)], .sl 1 lr.length 0] [some (.lst 17 cs.length (fun zz => insS (cs.getD zz In.z))), some (.row 3 1 lr.length 0 (fun j => [.int .i64 (lr.getD j 0)]))] (Rt (.tup [.agg [.int .i64 (rR res 0), .int .i64 (rR res 1), .int .i64 (rR res 2), .int .i64 (rR res 3), .int .i64 (rR res 4), .int .i64 (rR res 5), .int .i64 (rR res 6), .int .i64 (rR res 7)], .sl 2 ((eR res).length) 0, .sl 3 ((pR res).length) 0, .int .i64 (cR res)]) [some (.lst 17 cs.length (fun zz => insS (cs.getD zz In.z))), none, some (.row 49 15 ((eR res).length) 0 (fun j => evtS ((eR res).getD j Ev.z))), some (.row 3 1 ((pR res).length) 0 (fun j => [.int .i64 ((pR res).getD j 0)]))]) :=
 enterM (n := 46) (by kernel_rfl) Tryz.func14 rfl rfl rfl fun G w a h0 A => UNROW 1 2 A rfl rfl rfl fun ra rc C hlc hrd => CODEAT 0 c C rfl fun ao cp hden hCd => have hc := (rcd_of (hr none 0)).2 _ (List.mem_singleton.2 rfl); have A := C.base; N9 14 A rfl rfl fun A => have A := (A.cellAs 4 (cs' := [.sla ao cs.length cp]) rfl (codeCell A hden)).asT Cde.z cdc 1 (fun _ => rfl) (fun _ => rfl) (fun _ => ⟨_, rfl⟩) [(⟨ao, cs, cp⟩ : Cde)] 4 rfl; I9 [4] CodesAt.ok hCd (uCheck_ [(⟨ao, cs, cp⟩ : Cde)] 1 (one_le hc) (fun h8 h3 => ucc_ [(⟨ao, cs, cp⟩ : Cde)] 1 (fun c hcm => Nat.le_trans (bad1_le h8 c hcm) (by decide)) (by omega))) A rfl fun A => N9 15 A rfl rfl fun A => forkN 22 A rfl
  (fun h1 A => absurd (hr ao cp) h1)
  (fun h1 A => N9 14 A rfl rfl fun A => have A7 := A.nilRow 7 49 15 (fun j => evtS (([] : List Ev).getD j Ev.z)) rfl (fun z => ⟨_, rfl, rfl⟩); have A8 := A7.nilRow 8 3 1 (fun j => [.int .i64 (([] : List Int).getD j 0)]) rfl (fun z => ⟨_, rfl, rfl⟩); have A := A8.cellAs 5 (cs' := [.z9, .int .i64 (g 0), .int .i64 (g 1), .int .i64 (g 2), .int .i64 (g 3), .int .i64 (g 4), .int .i64 (g 5), .int .i64 (g 6), .int .i64 (g 7), .sla ra lr.length rc] ++ [.sl 6 0 0, .sl 7 0 0]) rfl (nilCells (l := [.z9, .int .i64 (g 0), .int .i64 (g 1), .int .i64 (g 2), .int .i64 (g 3), .int .i64 (g 4), .int .i64 (g 5), .int .i64 (g 6), .int .i64 (g 7), .sla ra lr.length rc]) (nil_same (t := 7) A A8 rfl rfl) (nil_same (t := 8) A A8 rfl rfl)); LOOPJ (fun (z : LX) => [(0, .sl 0 cs.length c), (6, .ptr 2 0), (13, .ptr 3 0)]) (fun (z : LX) => [some (.lst 17 cs.length (fun zz => insS (cs.getD zz In.z))), none, some (.blk [.z9, .z9, .z9, .z9, .z9, .z9, .z9, .z9]), some (.blk [.int .i64 ((z.s.at_ : Nat) : Int), .int .i64 (z.s.r 0), .int .i64 (z.s.r 1), .int .i64 (z.s.r 2), .int .i64 (z.s.r 3), .int .i64 (z.s.r 4), .int .i64 (z.s.r 5), .int .i64 (z.s.r 6), .int .i64 (z.s.r 7), .sla z.ra z.s.lr.length z.rc, .sl 4 z.s.es.length 0, .sl 5 z.s.ps.length 0]), some (.row 49 15 z.s.es.length 0 (fun j => evtS (z.s.es.getD j Ev.z))), some (.row 3 1 z.s.ps.length 0 (fun j => [.int .i64 (z.s.ps.getD j 0)]))]) (fun z _ _ => LJ cs g res z w (keys [some (.lst 17 cs.length (fun zz => insS (cs.getD zz In.z))), none] G)) (fun z => cs.length - z.s.at_) ⟨⟨0, g, lr, [], []⟩, ra, rc⟩ ((A.cut [0, 6, 13] rfl).mv 2 [3, 5, 6, 7] rfl rfl rfl rfl h0.symm) (LJ.i0 hrd hlc hln hrun) fun z G a w hJ hGl A B => N9 10 A rfl rfl fun A => forkD 31 A rfl
    (fun h2 A => N9 11 A rfl (ok_d (by omega) <| ok_d (by omega) <| okE_nil) fun A => have hlt : z.s.at_ < cs.length := (by omega); byKind hc hlt
     (fun hu => I9 [3, 4, 5] RdA.ok (RdA.ok.now B hJ.rd) (stepU_ hc hJ hlt hu) A rfl fun A => N9 14 A rfl rfl fun A => have hres := hJ.none hlt hu; have A := A.nilRow 7 49 15 (fun j => evtS (([] : List Ev).getD j Ev.z)) rfl (fun z => ⟨_, rfl, rfl⟩); have A := A.nilRow 8 3 1 (fun j => [.int .i64 (([] : List Int).getD j 0)]) rfl (fun z => ⟨_, rfl, rfl⟩); RET hX [6, 7] (x := .tup [.agg [.z9, .z9, .z9, .z9, .z9, .z9, .z9, .z9], .sl 2 0 0, .sl 3 0 0, .int .i64 24]) (H' := [some (.lst 17 cs.length (fun zz => insS (cs.getD zz In.z))), none, some (.row 49 15 0 0 (fun j => evtS (([] : List Ev).getD j Ev.z))), some (.row 3 1 0 0 (fun j => [.int .i64 (([] : List Int).getD j 0)]))]) (C.trans (B.trans A)) ⟨by rw [hres]; rfl, by rw [hres]; rfl⟩ rfl rfl rfl rfl rfl rfl rfl rfl h0)
     (fun hu hop => I9 [3, 4, 5] RdA.ok (RdA.ok.now B hJ.rd) (stepQ' hc hJ hlt hop) A rfl fun A => N9 6 A rfl rfl fun A => ⟨nxZ cs z, _, LJ.mu hc hlt, hJ.nx hc hlt hu, (((B.trans A).cut [0, 6, 13] rfl).mv 2 [2, 3, 4, 6] rfl rfl rfl rfl h0.symm)⟩)
     (fun hu hop => I9 [3, 4, 5] RdA.ok (RdA.ok.now B hJ.rd) (stepE' hc hJ hlt hu hop) A rfl fun A => N9 6 A rfl rfl fun A => ⟨nxZ cs z, _, LJ.mu hc hlt, hJ.nx hc hlt hu, (((B.trans A).cut [0, 6, 13] rfl).mv 2 [2, 3, 6, 7] rfl rfl rfl rfl h0.symm)⟩))
    (fun h2 A => N9 4 A rfl rfl fun A => DRAWN hX hmo [] [] A rfl rfl rfl rfl (by kernel_rfl) (effAll_nil _ _) trivial fun A => N9 2 A rfl rfl fun A => have hres := hJ.fin (by omega); RET hX [4, 5] (x := .tup [.agg [.int .i64 (z.s.r 0), .int .i64 (z.s.r 1), .int .i64 (z.s.r 2), .int .i64 (z.s.r 3), .int .i64 (z.s.r 4), .int .i64 (z.s.r 5), .int .i64 (z.s.r 6), .int .i64 (z.s.r 7)], .sl 2 z.s.es.length 0, .sl 3 z.s.ps.length 0, .z9]) (H' := [some (.lst 17 cs.length (fun zz => insS (cs.getD zz In.z))), none, some (.row 49 15 z.s.es.length 0 (fun j => evtS (z.s.es.getD j Ev.z))), some (.row 3 1 z.s.ps.length 0 (fun j => [.int .i64 (z.s.ps.getD j 0)]))]) (C.trans (B.trans A)) ⟨by rw [hres]; rfl, by rw [hres]; rfl⟩ rfl rfl rfl rfl rfl rfl rfl rfl h0))
end Go.Proofs.YtjkppaijicjpoaaGreatDoor.Mc.Lo
namespace Go.Proofs.YtjkppaijicjpoaaGreatDoor.Mc.Lo
open Go.RowKit
set_option linter.unusedVariables false
set_option linter.unusedSimpArgs false
set_option maxRecDepth 100000
set_option maxHeartbeats 2000000
section
variable {l : List In}
def Left (l : List In) (s : Th) (lr : List Int) (t : LW) : Prop := ∃ es ps f, runF l f ⟨s.at_, s.r, lr, es, ps⟩ = some t ∧ l.length - s.at_ ≤ f
theorem left_unf {s : Th} {lr : List Int} {t : LW} (h : Left l s lr t) (hlt : s.at_ < l.length) : ¬ ((((l.getD s.at_ In.z).op == 4) || ((l.getD s.at_ In.z).op == 6)) = true ∧ lr.length = 0) ∧ ∃ es ps f, runF l f (stS ⟨s.at_, s.r, lr, es, ps⟩ (l.getD s.at_ In.z)) = some t ∧ l.length - s.at_ ≤ f + 1 := by
 obtain ⟨es, ps, f, h1, h2⟩ := h
 cases f with
 | zero => omega
 | succ f =>
  unfold runF at h1
  rw [if_pos hlt] at h1
  by_cases hu : (((l.getD s.at_ In.z).op == 4) || ((l.getD s.at_ In.z).op == 6)) = true ∧ lr.length = 0
  ·rw [if_pos hu] at h1; cases h1
  ·rw [if_neg hu] at h1; exact ⟨hu, es, ps, f, h1, h2⟩
theorem stR_cp {r : Rg} {i : In} {lr : List Int} (h : stpI i = false) : stR r i lr = cpR r i := by
 have ho := stp_ops h
 have h46 : ((i.op == 4) || (i.op == 6)) = false := rd46n (by omega)
 unfold stR cpR acR
 rw [h46]
 rfl
theorem left_cp (hc : RCd l) {s : Th} {lr : List Int} {t : LW} (h : Left l s lr t) (hlt : s.at_ < l.length) (hs : stpI (l.getD s.at_ In.z) = false) : Left l ⟨(cpA (s.at_ : Int) s.r (l.getD s.at_ In.z)).toNat, cpR s.r (l.getD s.at_ In.z)⟩ lr t := by
 obtain ⟨_, es, ps, f, h1, h2⟩ := left_unf h hlt
 have ho := stp_ops hs
 have h46 : (((l.getD s.at_ In.z).op == 4) || ((l.getD s.at_ In.z).op == 6)) = false := rd46n (by omega)
 have hr := cpA_rng (z := s) hc hlt
 have e : stS ⟨s.at_, s.r, lr, es, ps⟩ (l.getD s.at_ In.z) = ⟨(cpA (s.at_ : Int) s.r (l.getD s.at_ In.z)).toNat, cpR s.r (l.getD s.at_ In.z), lr, stE ⟨s.at_, s.r, lr, es, ps⟩ (l.getD s.at_ In.z), ps ++ [(s.at_ : Int)]⟩ := by
  show LW.mk (stA ⟨s.at_, s.r, lr, es, ps⟩ (l.getD s.at_ In.z)).toNat (stR s.r (l.getD s.at_ In.z) lr) (if (((l.getD s.at_ In.z).op == 4) || ((l.getD s.at_ In.z).op == 6)) = true then lr.tail else lr) _ _ = _
  rw [h46, stR_cp hs]
  rfl
 rw [e] at h1
 exact ⟨_, _, f, h1, by show l.length - (cpA (s.at_ : Int) s.r (l.getD s.at_ In.z)).toNat ≤ f; omega⟩
theorem left_set (hc : RCd l) {lr : List Int} {t : LW} : ∀ (n : Nat) (s : Th), Left l s lr t → Left l (setF l n s) lr t
 | 0, s, h => h
 | n + 1, s, h => by
  show Left l (if s.at_ < l.length ∧ stpI (l.getD s.at_ In.z) = false then _ else s) lr t
  split
  ·next hs => exact left_set hc n _ (left_cp hc h hs.1 hs.2)
  ·exact h
theorem set_done (hc : RCd l) : ∀ (n : Nat) (s : Th), l.length - s.at_ ≤ n → ¬ ((setF l n s).at_ < l.length ∧ stpI (l.getD (setF l n s).at_ In.z) = false)
 | 0, s, h => by
  show ¬ (s.at_ < l.length ∧ _)
  omega
 | n + 1, s, h => by
  show ¬ ((if s.at_ < l.length ∧ stpI (l.getD s.at_ In.z) = false then setF l n ⟨(cpA (s.at_ : Int) s.r (l.getD s.at_ In.z)).toNat, cpR s.r (l.getD s.at_ In.z)⟩ else s).at_ < l.length ∧ stpI (l.getD (if s.at_ < l.length ∧ stpI (l.getD s.at_ In.z) = false then setF l n ⟨(cpA (s.at_ : Int) s.r (l.getD s.at_ In.z)).toNat, cpR s.r (l.getD s.at_ In.z)⟩ else s).at_ In.z) = false)
  by_cases hs : s.at_ < l.length ∧ stpI (l.getD s.at_ In.z) = false
  ·rw [if_pos hs]
   have hr := cpA_rng (z := s) hc hs.1
   exact set_done hc n _ (by show l.length - (cpA (s.at_ : Int) s.r (l.getD s.at_ In.z)).toNat ≤ n; omega)
  ·rw [if_neg hs]; exact hs
theorem set_ge (hc : RCd l) : ∀ (n : Nat) (s : Th), s.at_ ≤ (setF l n s).at_
 | 0, s => Nat.le_refl _
 | n + 1, s => by
  show s.at_ ≤ (if s.at_ < l.length ∧ stpI (l.getD s.at_ In.z) = false then setF l n ⟨(cpA (s.at_ : Int) s.r (l.getD s.at_ In.z)).toNat, cpR s.r (l.getD s.at_ In.z)⟩ else s).at_
  split
  ·next hs =>
   have hr := cpA_rng (z := s) hc hs.1
   have := set_ge hc n ⟨(cpA (s.at_ : Int) s.r (l.getD s.at_ In.z)).toNat, cpR s.r (l.getD s.at_ In.z)⟩
   have e : (Th.mk (cpA (s.at_ : Int) s.r (l.getD s.at_ In.z)).toNat (cpR s.r (l.getD s.at_ In.z))).at_ = (cpA (s.at_ : Int) s.r (l.getD s.at_ In.z)).toNat := rfl
   omega
  ·exact Nat.le_refl _
structure LV (l : List In) (R : List Int) (t : LW) (s : Th) (i m : Nat) : Prop where
 le : s.at_ ≤ l.length
 ge : i ≤ s.at_
 st : ¬ (s.at_ < l.length ∧ stpI (l.getD s.at_ In.z) = false)
 mr : m ≤ R.length
 lf : Left l s (R.drop m) t
theorem LV.i0 (hc : RCd l) {R : List Int} {t : LW} {g : Rg} (h : runF l l.length ⟨0, g, R, [], []⟩ = some t) : LV l R t (setl l ⟨0, g⟩) 0 0 :=
 ⟨setl_le hc (Nat.zero_le _), Nat.zero_le _, set_done hc _ _ (by show l.length - 0 ≤ _; omega), Nat.zero_le _, left_set hc _ _ ⟨[], [], l.length, h, Nat.sub_le _ _⟩⟩
theorem LV.end_ {R : List Int} {t : LW} {s : Th} {i m : Nat} (h : LV l R t s i m) (he : s.at_ = l.length) : t.r = s.r := by
 obtain ⟨es, ps, f, h1, h2⟩ := h.lf
 cases f with
 | zero => cases h1; rfl
 | succ f =>
  unfold runF at h1
  rw [if_neg (by show ¬ s.at_ < l.length; omega)] at h1
  cases h1; rfl
theorem LV.rd {R : List Int} {t : LW} {s : Th} {i m : Nat} (h : LV l R t s i m) (hlt : s.at_ < l.length) (h46 : (((l.getD s.at_ In.z).op == 4) || ((l.getD s.at_ In.z).op == 6)) = true) : m < R.length := by
 have h1 := (left_unf h.lf hlt).1
 have h2 := h.mr
 rcases Nat.lt_or_ge m R.length with h3 | h3
 ·exact h3
 ·exact absurd ⟨h46, by rw [List.length_drop]; omega⟩ h1
theorem LV.nx (hc : RCd l) {R : List Int} {t : LW} {s : Th} {i m : Nat} (h : LV l R t s i m) (hlt : s.at_ < l.length) (old : Int) (m' : Nat) (hr : (((l.getD s.at_ In.z).op == 4) || ((l.getD s.at_ In.z).op == 6)) = true → old = R.getD m 0 ∧ m' = m + 1) (hn : (((l.getD s.at_ In.z).op == 4) || ((l.getD s.at_ In.z).op == 6)) = false → m' = m) : LV l R t (paT l s old) (i + 1) m' := by
 have hst : stpI (l.getD s.at_ In.z) = true := by
  cases hq : stpI (l.getD s.at_ In.z) with
  | true => rfl
  | false => exact absurd ⟨hlt, hq⟩ h.st
 have hop : (l.getD s.at_ In.z).op = 4 ∨ (l.getD s.at_ In.z).op = 5 ∨ (l.getD s.at_ In.z).op = 6 ∨ (l.getD s.at_ In.z).op = 7 ∨ (l.getD s.at_ In.z).op = 8 := by
  unfold stpI at hst; simp only [Bool.or_eq_true, beq_iff_eq] at hst; omega
 have e : paT l s old = setl l ⟨s.at_ + 1, paR s.r (l.getD s.at_ In.z) old⟩ := by unfold paT; rw [if_neg (by omega)]
 have hm : m' ≤ R.length := by
  cases hq : (((l.getD s.at_ In.z).op == 4) || ((l.getD s.at_ In.z).op == 6)) with
  | true => have := h.rd hlt hq; have := (hr hq).2; omega
  | false => have := hn hq; have := h.mr; omega
 have hL : Left l ⟨s.at_ + 1, paR s.r (l.getD s.at_ In.z) old⟩ (R.drop m') t := by
  obtain ⟨hu, es, ps, f, h1, h2⟩ := left_unf h.lf hlt
  have e2 : stS ⟨s.at_, s.r, R.drop m, es, ps⟩ (l.getD s.at_ In.z) = ⟨s.at_ + 1, paR s.r (l.getD s.at_ In.z) old, R.drop m', stE ⟨s.at_, s.r, R.drop m, es, ps⟩ (l.getD s.at_ In.z), ps ++ [(s.at_ : Int)]⟩ := by
   have ea : (stA ⟨s.at_, s.r, R.drop m, es, ps⟩ (l.getD s.at_ In.z)).toNat = s.at_ + 1 := by
    unfold stA; rw [if_neg (by omega)]
    show ((s.at_ : Int) + 1).toNat = _; omega
   have er : stR s.r (l.getD s.at_ In.z) (R.drop m) = acR s.r (l.getD s.at_ In.z) (R.drop m) := by unfold stR; rw [if_neg (by omega), if_neg (by omega), if_neg (by omega)]
   show LW.mk (stA ⟨s.at_, s.r, R.drop m, es, ps⟩ (l.getD s.at_ In.z)).toNat (stR s.r (l.getD s.at_ In.z) (R.drop m)) (if (((l.getD s.at_ In.z).op == 4) || ((l.getD s.at_ In.z).op == 6)) = true then (R.drop m).tail else R.drop m) _ _ = _
   rw [ea, er]
   cases hq : (((l.getD s.at_ In.z).op == 4) || ((l.getD s.at_ In.z).op == 6)) with
   | true =>
    obtain ⟨e1, e3⟩ := hr hq
    have hlm := h.rd hlt hq
    have eh : (R.drop m).headD 0 = R.getD m 0 := by rw [List.getD_eq_getElem?_getD, ← List.head?_drop, List.headD_eq_head?_getD]
    unfold acR paR acOld
    rw [hq, if_pos rfl, if_pos rfl, if_pos rfl, if_pos rfl, eh, e1, e3, List.tail_drop]
   | false =>
    unfold acR paR
    rw [hq, hn hq]
    rfl
  rw [e2] at h1
  exact ⟨_, _, f, h1, by show l.length - (s.at_ + 1) ≤ f; omega⟩
 rw [e]
 have hge := set_ge hc l.length ⟨s.at_ + 1, paR s.r (l.getD s.at_ In.z) old⟩
 have hi := h.ge
 refine ⟨setl_le hc (by show s.at_ + 1 ≤ _; omega), ?_, set_done hc _ _ (by show l.length - (s.at_ + 1) ≤ _; omega), hm, left_set hc _ _ hL⟩
 show i + 1 ≤ (setF l l.length ⟨s.at_ + 1, paR s.r (l.getD s.at_ In.z) old⟩).at_
 have e3 : (Th.mk (s.at_ + 1) (paR s.r (l.getD s.at_ In.z) old)).at_ = s.at_ + 1 := rfl
 omega
end
theorem sum_mem {l : List Nat} {x : Nat} (h : x ∈ l) : x ≤ l.sum := by
 induction l with
 | nil => cases h
 | cons y l ih =>
  rw [List.sum_cons]
  rcases List.mem_cons.1 h with h | h
  ·omega
  ·have := ih h; omega
theorem cnt_of {cs : List Cde} (h : ckE cs = 0) : cntEr cs = 0 := by
 have hr := rcd_of h
 unfold ckE at h
 split at h
 ·omega
 ·split at h
  ·omega
  ·split at h
   ·next k hk =>
    exfalso
    unfold bad2 at hk
    have h1 := List.find?_some hk
    have h2 := List.mem_of_find?_eq_some hk
    rw [List.mem_range] at h2
    have hR := rcAt hr.2 h2
    have hb : badC (cs.getD k Cde.z) = none := by
     unfold badC
     rw [List.find?_eq_none]
     intro j hj
     rw [List.mem_range] at hj
     simp only [hR.r j hj, beq_self_eq_true, Bool.not_true, Bool.false_eq_true, not_false_eq_true]
    rw [hb] at h1
    cases h1
   ·exact h
theorem ck_one {cs : List Cde} (h : ckE cs = 0) {k : Nat} (hk : k < cs.length) (ao : Option Addr) (cp : Nat) : ckE [(⟨ao, (cs.getD k Cde.z).l, cp⟩ : Cde)] = 0 := by
 have hR := rcAt (rcd_of h).2 hk
 have hc := cnt_of h
 have e1 : bad1 [(⟨ao, (cs.getD k Cde.z).l, cp⟩ : Cde)] = none := by
  unfold bad1
  rw [List.find?_eq_none]
  intro j hj
  have hj : j < 1 := List.mem_range.1 hj
  obtain rfl : j = 0 := by omega
  have := hR.n
  show ¬ decide (8 < (cs.getD k Cde.z).l.length) = true
  rw [decide_eq_true_iff]; omega
 have e2 : bad2 [(⟨ao, (cs.getD k Cde.z).l, cp⟩ : Cde)] = none := by
  unfold bad2
  rw [List.find?_eq_none]
  intro j hj
  have hj : j < 1 := List.mem_range.1 hj
  obtain rfl : j = 0 := by omega
  have hb : badC (⟨ao, (cs.getD k Cde.z).l, cp⟩ : Cde) = none := by
   unfold badC
   rw [List.find?_eq_none]
   intro j hj
   rw [List.mem_range] at hj
   have := hR.r j hj
   simp only [this, beq_self_eq_true, Bool.not_true, Bool.false_eq_true, not_false_eq_true]
  show ¬ (badC (⟨ao, (cs.getD k Cde.z).l, cp⟩ : Cde)).isSome = true
  rw [hb]; decide
 have e3 : ∀ p, cntA p [(⟨ao, (cs.getD k Cde.z).l, cp⟩ : Cde)] ≤ cntA p cs := fun p => by
  have : cntI p (cs.getD k Cde.z).l ≤ (cs.map fun c => cntI p c.l).sum := sum_mem (List.mem_map.2 ⟨cs.getD k Cde.z, gd_mem hk, rfl⟩)
  show cntI p (cs.getD k Cde.z).l + 0 ≤ (cs.map fun c => cntI p c.l).sum
  exact this
 have e4 : cntEr [(⟨ao, (cs.getD k Cde.z).l, cp⟩ : Cde)] = 0 := by
  have h1 := e3 isOpI
  have h2 := e3 isBrI
  unfold cntEr at hc ⊢
  split at hc
  ·omega
  ·split at hc
   ·omega
   ·rw [if_neg (by omega), if_neg (by omega)]
 unfold ckE
 rw [if_neg (by simp), e1, e2]
 exact e4
end Go.Proofs.YtjkppaijicjpoaaGreatDoor.Mc.Lo
