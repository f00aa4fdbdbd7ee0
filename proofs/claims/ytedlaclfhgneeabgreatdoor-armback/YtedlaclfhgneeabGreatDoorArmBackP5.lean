/- ArmBack, part 5: the engine, contracts, theory. -/
import Derived.Test.YtedlaclfhgneeabGreatDoorArmBackP4
namespace Go.Proofs.YtedlaclfhgneeabGreatDoor
open Go.RowKit
set_option linter.unusedVariables false
set_option linter.unusedSimpArgs false
set_option maxRecDepth 100000
set_option maxHeartbeats 2000000
set_option simprocs false
def c5 : List (List UInt8 × Int) := [([65, 68, 68], 1), ([83, 85, 66], 2), ([69, 79, 82], 3), ([65, 78, 68], 4), ([79, 82, 82], 5)]
abbrev cr1 (x : List UInt8 × Int) (b1 : Nat) : Rw := ⟨x.1, [], insF 3 x.2, some ⟨b1, 0, none⟩, [1, 2, 3], 3⟩
abbrev cr2 (x : List UInt8 × Int) (b2 : Nat) : Rw := ⟨x.1, [], insF 3 x.2, some ⟨b2, 0, none⟩, [1, 2, 5], 3⟩
def acomp : List (List UInt8 × List UInt8 × In × List Int) := c5.flatMap fun x => [(x.1, [], insF 3 x.2, [1, 2, 3]), (x.1, [], insF 3 x.2, [1, 2, 5])]
structure AC (lo : Nat) (z : List Rw × Nat) (w : World) (ks : List Nat) : Prop where
  le : z.2 ≤ 5
  tm : z.1.map tm = acomp.take (2 * z.2)
  rw : RowsIn lo z.1 w ks
theorem AC.len {lo : Nat} {z : List Rw × Nat} {w : World} {ks : List Nat} (h : AC lo z w ks) : z.1.length = 2 * z.2 := by
  have h1 := congrArg List.length h.tm
  rw [List.length_map, List.length_take] at h1
  have h2 : acomp.length = 10 := by decide
  have := h.le
  omega
theorem AC.nx {lo b1 b2 : Nat} {z : List Rw × Nat} {w w1 : World} {ks ks1 : List Nat} {l : List (Nat × List SV)} (h : AC lo z w ks) (hk : (z.2 : Int) < 5) (hr : RowsIn lo z.1 w1 ks1) (hA : Acc lo [(b2, [.int .i64 1, .int .i64 2, .int .i64 5]), (b1, [.int .i64 1, .int .i64 2, .int .i64 3])] w1 ks1) : AC lo (z.1 ++ [cr1 (c5.getD ((z.2 : Int)).toNat nz) b1, cr2 (c5.getD ((z.2 : Int)).toNat nz) b2], z.2 + 1) w1 ks1 := by
  refine ⟨by have := h.le; show z.2 + 1 ≤ 5; omega, ?_, fun r hr' => ?_⟩
  · show List.map _ (z.1 ++ _) = _
    rw [List.map_append, h.tm, Int.toNat_natCast]
    have : z.2 = 0 ∨ z.2 = 1 ∨ z.2 = 2 ∨ z.2 = 3 ∨ z.2 = 4 := by omega
    rcases this with e | e | e | e | e <;> rw [e] <;> rfl
  · rcases List.mem_append.1 hr' with h1 | h1
    · exact hr r h1
    · simp only [List.mem_cons, List.mem_nil_iff, or_false] at h1
      rcases h1 with rfl | rfl
      · exact lies_of (cs := []) [1, 2, 3] hA (List.mem_cons_of_mem _ (List.mem_cons_self))
      · exact lies_of (cs := []) [1, 2, 5] hA (List.mem_cons_self)
theorem acomp_ : FnR Tryz.prog 68 [] [] (fun x w w' => ∃ (L : List Rw) (b cp : Nat), x = .sla (some ⟨b, 0, none⟩) 10 cp ∧ (L.map tm = acomp ∧ RowsIn w.heap.size L w' [b]) ∧ w.heap.size ≤ b ∧ Given 128 20 10 (fun zz => rwc (L.getD zz Rw.z)) b cp w') :=
 enterR (n := 36) (by kernel_rfl) Tryz.func68 rfl rfl rfl fun G w a h0 A => N hX 13 A rfl rfl fun A => have A := A.asT nz nfc 2 tyN.1 tyN.2.1 tyN.2.2 c5 0 rfl; N hX 17 A rfl rfl fun A => have A := A.nilRow 2 128 20 (fun zz => rwc (([] : List Rw).getD zz Rw.z)) rfl (fun z => ⟨_, rfl, rfl⟩); LOOPJ (fun (z : List Rw × Nat) => [(0, .sla none 0 0), (2, .sl 1 z.1.length 0), (12, .sl 0 5 5), (13, .int .i64 ((5 : Nat) : Int)), (14, .int .i64 (z.2 : Int))]) (fun (z : List Rw × Nat) => [some (.lst 2 5 (fun zz => nfc (c5.getD zz nz))), some (.row 128 20 z.1.length 0 (fun zz => rwc (z.1.getD zz Rw.z)))]) (fun z w1 ks1 => AC w.heap.size z w1 ks1) (fun z => 5 - z.2) ([], 0) (A.cut [0, 2, 12, 13, 14] rfl) ⟨by decide, rfl, fun r hr => by cases hr⟩ fun z G1 a1 w1 hJ hg A B => have hA : Acc w.heap.size [] w1 _ := Acc.nil; have hR := hJ.rw;
 N hX 6 A rfl rfl fun A => forkD 15 A rfl
   (fun h1 A => N hX 14 A rfl (ok_d (by omega) <| ok_d (by omega) <| okE_nil) fun A => N hX 4 A rfl rfl fun A => have A := sy_sayD A 20 (.agg [.int .i64 3, .int .i64 0, .int .i64 0, .int .i64 0, .int .i64 0, .int .i64 0, .int .i64 0, .int .i64 0, .int .i64 0, .int .i64 ((c5.getD (((z.2 : Int)).toNat) nz).2), .bool false, .bool false, .bool false, .int .i64 0, .int .i64 0, .int .i64 0, .bool false]) rfl (fun _ => rfl); N hX 9 A rfl rfl fun A => BSCI [.int .i64 1, .int .i64 2, .int .i64 3] (X := ⟨_, true⟩) hX RowsIn.ok B hA hR A rfl rfl rfl rfl fun b1 B hA hR A =>
 N hX 4 A rfl rfl fun A => BSCI [.int .i64 1, .int .i64 2, .int .i64 5] (X := ⟨_, true⟩) hX RowsIn.ok B hA hR A rfl rfl rfl rfl fun b2 B hA hR A =>
 N hX 2 A rfl rfl fun A => have A := A.asT Rw.z rwc 20 tyR.1 tyR.2.1 tyR.2.2 [cr1 (c5.getD (((z.2 : Int)).toNat) nz) b1, cr2 (c5.getD (((z.2 : Int)).toNat) nz) b2] 4 rfl; q_eff A rfl (aplE hX ((z.1 ++ [cr1 (c5.getD (((z.2 : Int)).toNat) nz) b1, cr2 (c5.getD (((z.2 : Int)).toNat) nz) b2]).length) (fun zz => rwc ((z.1 ++ [cr1 (c5.getD (((z.2 : Int)).toNat) nz) b1, cr2 (c5.getD (((z.2 : Int)).toNat) nz) b2]).getD zz Rw.z)) rfl rfl rfl rfl (Nat.le_refl _) (by have := hJ.len; have := hJ.le; omega) (by decide) List.length_append (fun k hk => by show rwc _ = rwc _; rw [getD_app_l hk]) (fun k hk => by show rwc _ = rwc _; rw [getD_app_r]) (fun z => ⟨_, rfl, rfl⟩) (fun k hk => ⟨_, rfl, okE_nil⟩)) fun A =>
 N hX 8 A rfl (ok_d (by omega) <| okE_nil) fun A => ⟨(z.1 ++ [cr1 (c5.getD (((z.2 : Int)).toNat) nz) b1, cr2 (c5.getD (((z.2 : Int)).toNat) nz) b2], z.2 + 1), _, (by have := h1; show _ - _ < _ - _; omega), (hJ.nx (l := []) h1 (RowsIn.ok _ _ _ _ hR A.mix fun b hb => A.keys_own b ((keys_pick (H := [some (.lst 2 5 (fun zz => nfc (c5.getD zz nz))), none, some (.blk [.str ((c5.getD (((z.2 : Int)).toNat) nz).1), .int .i64 ((c5.getD (((z.2 : Int)).toNat) nz).2)]), some (.blk [.int .i64 3, .int .i64 0, .int .i64 0, .int .i64 0, .int .i64 0, .int .i64 0, .int .i64 0, .int .i64 0, .int .i64 0, .int .i64 ((c5.getD (((z.2 : Int)).toNat) nz).2), .bool false, .bool false, .bool false, .int .i64 0, .int .i64 0, .int .i64 0, .bool false]), some (.lst 20 ([cr1 (c5.getD (((z.2 : Int)).toNat) nz) b1, cr2 (c5.getD (((z.2 : Int)).toNat) nz) b2].length) (fun zz => rwc ([cr1 (c5.getD (((z.2 : Int)).toNat) nz) b1, cr2 (c5.getD (((z.2 : Int)).toNat) nz) b2].getD zz Rw.z))), some (.row 128 20 ((z.1 ++ [cr1 (c5.getD (((z.2 : Int)).toNat) nz) b1, cr2 (c5.getD (((z.2 : Int)).toNat) nz) b2]).length) 0 (fun zz => rwc ((z.1 ++ [cr1 (c5.getD (((z.2 : Int)).toNat) nz) b1, cr2 (c5.getD (((z.2 : Int)).toNat) nz) b2]).getD zz Rw.z)))]) (m := [0, 5]) A.mem.len rfl rfl) b hb)) (hA.go A.mix fun b hb => A.keys_own b ((keys_pick (H := [some (.lst 2 5 (fun zz => nfc (c5.getD zz nz))), none, some (.blk [.str ((c5.getD (((z.2 : Int)).toNat) nz).1), .int .i64 ((c5.getD (((z.2 : Int)).toNat) nz).2)]), some (.blk [.int .i64 3, .int .i64 0, .int .i64 0, .int .i64 0, .int .i64 0, .int .i64 0, .int .i64 0, .int .i64 0, .int .i64 0, .int .i64 ((c5.getD (((z.2 : Int)).toNat) nz).2), .bool false, .bool false, .bool false, .int .i64 0, .int .i64 0, .int .i64 0, .bool false]), some (.lst 20 ([cr1 (c5.getD (((z.2 : Int)).toNat) nz) b1, cr2 (c5.getD (((z.2 : Int)).toNat) nz) b2].length) (fun zz => rwc ([cr1 (c5.getD (((z.2 : Int)).toNat) nz) b1, cr2 (c5.getD (((z.2 : Int)).toNat) nz) b2].getD zz Rw.z))), some (.row 128 20 ((z.1 ++ [cr1 (c5.getD (((z.2 : Int)).toNat) nz) b1, cr2 (c5.getD (((z.2 : Int)).toNat) nz) b2]).length) 0 (fun zz => rwc ((z.1 ++ [cr1 (c5.getD (((z.2 : Int)).toNat) nz) b1, cr2 (c5.getD (((z.2 : Int)).toNat) nz) b2]).getD zz Rw.z)))]) (m := [0, 5]) A.mem.len rfl rfl) b hb))), ((B.trans A).cut [0, 2, 12, 13, 14] rfl).mv 0 [0, 5] rfl rfl rfl rfl (by simp only [List.length_nil] at h0; omega)⟩)
   (fun h1 A => N hX 10 A rfl rfl fun A => (have e5 : z.2 = 5 := (by have := hJ.le; omega); have e : z.1.length = 10 := (by have := hJ.len; omega); match A.giveRow 1 0 (by omega) rfl rfl rfl with | ⟨b, cp, A2, hG, ho, hk⟩ => RETR (J := fun x w w' => ∃ (L : List Rw) (b cp : Nat), x = .sla (some ⟨b, 0, none⟩) 10 cp ∧ (L.map tm = acomp ∧ RowsIn w.heap.size L w' [b]) ∧ w.heap.size ≤ b ∧ Given 128 20 10 (fun zz => rwc (L.getD zz Rw.z)) b cp w') hX (B.trans A2) (fun i e he => nil_no he) rfl rfl rfl rfl ⟨z.1, b, cp, (by show SV.sla _ z.1.length cp = _; rw [e]), ⟨(by have h2 := hJ.tm; rw [e5] at h2; exact h2), (RowsIn.ok _ _ _ _ hJ.rw A.mix fun b2 hb => by have : b2 = b := (by simpa using hb); rw [this]; exact ho)⟩, lo_of B (fun i e he => nil_no he) ho, (by rw [← e]; exact hG)⟩))
abbrev sz : List UInt8 × Bool × Bool := ([], false, false)
def sfc (x : List UInt8 × Bool × Bool) : List SV := [.str x.1, .bool x.2.1, .bool x.2.2]
theorem tyS : (∀ x, (sfc x).length = 3) ∧ (∀ x, inL 0 (sfc x) = true) ∧ (∀ x, ∃ vs, denL [] (sfc x) = some vs) := ⟨fun _ => rfl, fun _ => rfl, fun _ => ⟨_, rfl⟩⟩
def a2 : List (List UInt8 × Int) := [([83, 87, 80], 6), ([76, 68, 65, 68, 68], 1)]
def s4 : List (List UInt8 × Bool × Bool) := [([], false, false), ([65], true, false), ([76], false, true), ([65, 76], true, true)]
theorem a2_len : ∀ k, (a2.getD k nz).1.length ≤ 100
  | 0 => by decide
  | 1 => by decide
  | k + 2 => by simp [a2, List.getD]
theorem s4_len : ∀ k, (s4.getD k sz).1.length ≤ 100
  | 0 => by decide
  | 1 => by decide
  | 2 => by decide
  | 3 => by decide
  | k + 4 => by simp [s4, List.getD]
def insA (x : List UInt8 × Int) (y : List UInt8 × Bool × Bool) : In := ⟨6, 0, 0, 0, 0, 0, 0, 0, 0, x.2, y.2.1, false, y.2.2, 0, 0, 0, false⟩
abbrev aa1 (x : List UInt8 × Int) (y : List UInt8 × Bool × Bool) (b1 : Nat) : Rw := ⟨(x.1 ++ y.1) ++ [42], [], insA x y, some ⟨b1, 0, none⟩, [2, 1, 6], 3⟩
def aatom : List (List UInt8 × List UInt8 × In × List Int) := a2.flatMap fun x => s4.map fun y => ((x.1 ++ y.1) ++ [42], [], insA x y, [2, 1, 6])
structure AA (lo n : Nat) (L : List Rw) (w : World) (ks : List Nat) : Prop where
  tm : L.map tm = aatom.take n
  rw : RowsIn lo L w ks
theorem AA.len {lo n : Nat} {L : List Rw} {w : World} {ks : List Nat} (h : AA lo n L w ks) : L.length ≤ 8 ∧ (n ≤ 8 → L.length = n) := by
  have h1 := congrArg List.length h.tm
  rw [List.length_map, List.length_take] at h1
  have h2 : aatom.length = 8 := by decide
  omega
theorem AA.nx {lo b1 k j : Nat} {L : List Rw} {w w1 : World} {ks ks1 : List Nat} (h : AA lo (4 * k + j) L w ks) (hk : k < 2) (hj : j < 4) (hr : RowsIn lo L w1 ks1) (hA : Acc lo [(b1, [.int .i64 2, .int .i64 1, .int .i64 6])] w1 ks1) : AA lo (4 * k + (j + 1)) (L ++ [aa1 (a2.getD ((k : Int)).toNat nz) (s4.getD ((j : Int)).toNat sz) b1]) w1 ks1 := by
  refine ⟨?_, fun r hr' => ?_⟩
  · rw [List.map_append, h.tm, Int.toNat_natCast, Int.toNat_natCast]
    have q1 : k = 0 ∨ k = 1 := by omega
    have q2 : j = 0 ∨ j = 1 ∨ j = 2 ∨ j = 3 := by omega
    rcases q1 with e | e <;> rcases q2 with e2 | e2 | e2 | e2 <;> rw [e, e2] <;> rfl
  · rcases List.mem_append.1 hr' with h1 | h1
    · exact hr r h1
    · simp only [List.mem_cons, List.mem_nil_iff, or_false] at h1
      subst h1
      exact lies_of (cs := []) [2, 1, 6] hA List.mem_cons_self
theorem aatom_ : FnR Tryz.prog 70 [] [] (fun x w w' => ∃ (L : List Rw) (b cp : Nat), x = .sla (some ⟨b, 0, none⟩) 8 cp ∧ (L.map tm = aatom ∧ RowsIn w.heap.size L w' [b]) ∧ w.heap.size ≤ b ∧ Given 128 20 8 (fun zz => rwc (L.getD zz Rw.z)) b cp w') :=
 enterR (n := 51) (by kernel_rfl) Tryz.func70 rfl rfl rfl fun G w a h0 A => N hX 10 A rfl rfl fun A => have A := A.asT nz nfc 2 tyN.1 tyN.2.1 tyN.2.2 a2 0 rfl; N hX 6 A rfl rfl fun A => have A := sy_sayD A 12 (.agg [.str [], .bool false, .bool false]) rfl (fun _ => rfl); N hX 1 A rfl rfl fun A => have A := sy_sayD A 13 (.agg [.str [65], .bool true, .bool false]) rfl (fun _ => rfl); N hX 1 A rfl rfl fun A => have A := sy_sayD A 14 (.agg [.str [76], .bool false, .bool true]) rfl (fun _ => rfl); N hX 1 A rfl rfl fun A => have A := sy_sayD A 15 (.agg [.str [65, 76], .bool true, .bool true]) rfl (fun _ => rfl); N hX 1 A rfl rfl fun A => have A := A.asT sz sfc 3 tyS.1 tyS.2.1 tyS.2.2 s4 1 rfl; N hX 17 A rfl rfl fun A => have A := A.nilRow 3 128 20 (fun zz => rwc (([] : List Rw).getD zz Rw.z)) rfl (fun z => ⟨_, rfl, rfl⟩); LOOPJ (fun (z : List Rw × Nat) => [(0, .sla none 0 0), (2, .sl 1 4 4), (3, .sl 2 z.1.length 0), (17, .sl 0 2 2), (18, .int .i64 ((2 : Nat) : Int)), (19, .int .i64 (z.2 : Int))]) (fun (z : List Rw × Nat) => [some (.lst 2 2 (fun zz => nfc (a2.getD zz nz))), some (.lst 3 4 (fun zz => sfc (s4.getD zz sz))), some (.row 128 20 z.1.length 0 (fun zz => rwc (z.1.getD zz Rw.z)))]) (fun z w1 ks1 => z.2 ≤ 2 ∧ AA w.heap.size (4 * z.2) z.1 w1 ks1) (fun z => 2 - z.2) ([], 0) (A.cut [0, 2, 3, 17, 18, 19] rfl) ⟨by decide, ⟨rfl, fun r hr => by cases hr⟩⟩ fun z G1 a1 w1 hJ hg A B => have hz2 := hJ.1; have hR := hJ.2.rw;
 N hX 6 A rfl rfl fun A => forkD 20 A rfl
   (fun h1 A => N hX 14 A rfl (ok_d (by omega) <| ok_d (by omega) <| okE_nil) fun A => N hX 7 A rfl rfl fun A => have hR := RowsIn.ok _ _ _ _ hR A.mix A.keys_own; LOOPJ (fun (y : List Rw × Nat) => [(0, .sla none 0 0), (2, .sl 1 4 4), (3, .sl 2 y.1.length 0), (5, .ptr 3 0), (17, .sl 0 2 2), (18, .int .i64 ((2 : Nat) : Int)), (19, .int .i64 (z.2 : Int)), (23, .sl 1 4 4), (24, .int .i64 ((4 : Nat) : Int)), (25, .int .i64 (y.2 : Int))]) (fun (y : List Rw × Nat) => [some (.lst 2 2 (fun zz => nfc (a2.getD zz nz))), some (.lst 3 4 (fun zz => sfc (s4.getD zz sz))), some (.row 128 20 y.1.length 0 (fun zz => rwc (y.1.getD zz Rw.z))), some (.blk [.str ((a2.getD (((z.2 : Int)).toNat) nz).1), .int .i64 ((a2.getD (((z.2 : Int)).toNat) nz).2)])]) (fun y w1 ks1 => y.2 ≤ 4 ∧ AA w.heap.size (4 * z.2 + y.2) y.1 w1 ks1) (fun y => 4 - y.2) (z.1, 0) ((B.trans A).cut [0, 2, 3, 5, 17, 18, 19, 23, 24, 25] rfl) ⟨Nat.zero_le 4, ⟨hJ.2.tm, hR⟩⟩ fun y G1 a1 w1 hJ hg A B => have hA : Acc w.heap.size [] w1 _ := Acc.nil; have hR := hJ.2.rw;
 N hX 6 A rfl rfl fun A => forkD 26 A rfl
     (fun h2 A => N hX 14 A rfl (ok_d (by omega) <| ok_d (by omega) <| okE_nil) fun A => N hX 8 A rfl rfl fun A => have A := sy_sayD A 35 (.agg [.int .i64 6, .int .i64 0, .int .i64 0, .int .i64 0, .int .i64 0, .int .i64 0, .int .i64 0, .int .i64 0, .int .i64 0, .int .i64 ((a2.getD (((z.2 : Int)).toNat) nz).2), .bool ((s4.getD (((y.2 : Int)).toNat) sz).2.1), .bool false, .bool ((s4.getD (((y.2 : Int)).toNat) sz).2.2), .int .i64 0, .int .i64 0, .int .i64 0, .bool false]) rfl (fun _ => rfl); N hX 13 A rfl (ok_d (by have q := a2_len ((z.2 : Int)).toNat; have q2 := s4_len ((y.2 : Int)).toNat; (try simp only [List.length_append, List.length_cons, List.length_nil]); omega) <| ok_d (by have q := a2_len ((z.2 : Int)).toNat; have q2 := s4_len ((y.2 : Int)).toNat; (try simp only [List.length_append, List.length_cons, List.length_nil]); omega) <| okE_nil) fun A => BSCI [.int .i64 2, .int .i64 1, .int .i64 6] (X := ⟨_, true⟩) hX RowsIn.ok B hA hR A rfl rfl rfl rfl fun b1 B hA hR A =>
 N hX 2 A rfl rfl fun A => have A := A.asT Rw.z rwc 20 tyR.1 tyR.2.1 tyR.2.2 [aa1 (a2.getD (((z.2 : Int)).toNat) nz) (s4.getD (((y.2 : Int)).toNat) sz) b1] 6 rfl; q_eff A rfl (aplE hX ((y.1 ++ [aa1 (a2.getD (((z.2 : Int)).toNat) nz) (s4.getD (((y.2 : Int)).toNat) sz) b1]).length) (fun zz => rwc ((y.1 ++ [aa1 (a2.getD (((z.2 : Int)).toNat) nz) (s4.getD (((y.2 : Int)).toNat) sz) b1]).getD zz Rw.z)) rfl rfl rfl rfl (Nat.le_refl _) (by have := hJ.2.len; have := hJ.1; omega) (by decide) List.length_append (fun k hk => by show rwc _ = rwc _; rw [getD_app_l hk]) (fun k hk => by show rwc _ = rwc _; rw [getD_app_r]) (fun z => ⟨_, rfl, rfl⟩) (fun k hk => ⟨_, rfl, okE_nil⟩)) fun A =>
 N hX 8 A rfl (ok_d (by omega) <| okE_nil) fun A => ⟨(y.1 ++ [aa1 (a2.getD (((z.2 : Int)).toNat) nz) (s4.getD (((y.2 : Int)).toNat) sz) b1], y.2 + 1), _, (by have := h2; show _ - _ < _ - _; omega), ⟨by have := h2; show y.2 + 1 ≤ 4; omega, hJ.2.nx (by omega) (by omega) (RowsIn.ok _ _ _ _ hR A.mix fun b hb => A.keys_own b ((keys_pick (H := [some (.lst 2 2 (fun zz => nfc (a2.getD zz nz))), some (.lst 3 4 (fun zz => sfc (s4.getD zz sz))), none, some (.blk [.str ((a2.getD (((z.2 : Int)).toNat) nz).1), .int .i64 ((a2.getD (((z.2 : Int)).toNat) nz).2)]), some (.blk [.str ((s4.getD (((y.2 : Int)).toNat) sz).1), .bool ((s4.getD (((y.2 : Int)).toNat) sz).2.1), .bool ((s4.getD (((y.2 : Int)).toNat) sz).2.2)]), some (.blk [.int .i64 6, .int .i64 0, .int .i64 0, .int .i64 0, .int .i64 0, .int .i64 0, .int .i64 0, .int .i64 0, .int .i64 0, .int .i64 ((a2.getD (((z.2 : Int)).toNat) nz).2), .bool ((s4.getD (((y.2 : Int)).toNat) sz).2.1), .bool false, .bool ((s4.getD (((y.2 : Int)).toNat) sz).2.2), .int .i64 0, .int .i64 0, .int .i64 0, .bool false]), some (.lst 20 ([aa1 (a2.getD (((z.2 : Int)).toNat) nz) (s4.getD (((y.2 : Int)).toNat) sz) b1].length) (fun zz => rwc ([aa1 (a2.getD (((z.2 : Int)).toNat) nz) (s4.getD (((y.2 : Int)).toNat) sz) b1].getD zz Rw.z))), some (.row 128 20 ((y.1 ++ [aa1 (a2.getD (((z.2 : Int)).toNat) nz) (s4.getD (((y.2 : Int)).toNat) sz) b1]).length) 0 (fun zz => rwc ((y.1 ++ [aa1 (a2.getD (((z.2 : Int)).toNat) nz) (s4.getD (((y.2 : Int)).toNat) sz) b1]).getD zz Rw.z)))]) (m := [0, 1, 7, 3]) A.mem.len rfl rfl) b hb)) (hA.go A.mix fun b hb => A.keys_own b ((keys_pick (H := [some (.lst 2 2 (fun zz => nfc (a2.getD zz nz))), some (.lst 3 4 (fun zz => sfc (s4.getD zz sz))), none, some (.blk [.str ((a2.getD (((z.2 : Int)).toNat) nz).1), .int .i64 ((a2.getD (((z.2 : Int)).toNat) nz).2)]), some (.blk [.str ((s4.getD (((y.2 : Int)).toNat) sz).1), .bool ((s4.getD (((y.2 : Int)).toNat) sz).2.1), .bool ((s4.getD (((y.2 : Int)).toNat) sz).2.2)]), some (.blk [.int .i64 6, .int .i64 0, .int .i64 0, .int .i64 0, .int .i64 0, .int .i64 0, .int .i64 0, .int .i64 0, .int .i64 0, .int .i64 ((a2.getD (((z.2 : Int)).toNat) nz).2), .bool ((s4.getD (((y.2 : Int)).toNat) sz).2.1), .bool false, .bool ((s4.getD (((y.2 : Int)).toNat) sz).2.2), .int .i64 0, .int .i64 0, .int .i64 0, .bool false]), some (.lst 20 ([aa1 (a2.getD (((z.2 : Int)).toNat) nz) (s4.getD (((y.2 : Int)).toNat) sz) b1].length) (fun zz => rwc ([aa1 (a2.getD (((z.2 : Int)).toNat) nz) (s4.getD (((y.2 : Int)).toNat) sz) b1].getD zz Rw.z))), some (.row 128 20 ((y.1 ++ [aa1 (a2.getD (((z.2 : Int)).toNat) nz) (s4.getD (((y.2 : Int)).toNat) sz) b1]).length) 0 (fun zz => rwc ((y.1 ++ [aa1 (a2.getD (((z.2 : Int)).toNat) nz) (s4.getD (((y.2 : Int)).toNat) sz) b1]).getD zz Rw.z)))]) (m := [0, 1, 7, 3]) A.mem.len rfl rfl) b hb))⟩, ((B.trans A).cut [0, 2, 3, 5, 17, 18, 19, 23, 24, 25] rfl).mv 0 [0, 1, 7, 3] rfl rfl rfl rfl (by simp only [List.length_nil] at h0; omega)⟩)
     (fun h2 A => N hX 8 A rfl (ok_d (by omega) <| okE_nil) fun A => ⟨(y.1, z.2 + 1), _, (by have := h1; show _ - _ < _ - _; omega), ⟨by have := h1; show z.2 + 1 ≤ 2; omega, ⟨(by have q := hJ.2.tm; have q1 := hJ.1; rw [show 4 * z.2 + y.2 = 4 * (z.2 + 1) by omega] at q; exact q), RowsIn.ok _ _ _ _ hJ.2.rw A.mix fun b hb => A.keys_own b ((keys_pick (H := [some (.lst 2 2 (fun zz => nfc (a2.getD zz nz))), some (.lst 3 4 (fun zz => sfc (s4.getD zz sz))), some (.row 128 20 y.1.length 0 (fun zz => rwc (y.1.getD zz Rw.z))), some (.blk [.str ((a2.getD (((z.2 : Int)).toNat) nz).1), .int .i64 ((a2.getD (((z.2 : Int)).toNat) nz).2)])]) (m := [0, 1, 2]) A.mem.len rfl rfl) b hb)⟩⟩, ((B.trans A).cut [0, 2, 3, 17, 18, 19] rfl).mv 0 [0, 1, 2] rfl rfl rfl rfl (by simp only [List.length_nil] at h0; omega)⟩))
   (fun h1 A => N hX 10 A rfl rfl fun A => (have e5 : z.2 = 2 := (by have := hJ.1; omega); have e : z.1.length = 8 := (by have := hJ.2.len; omega); match A.giveRow 2 0 (by omega) rfl rfl rfl with | ⟨b, cp, A2, hG, ho, hk⟩ => RETR (J := fun x w w' => ∃ (L : List Rw) (b cp : Nat), x = .sla (some ⟨b, 0, none⟩) 8 cp ∧ (L.map tm = aatom ∧ RowsIn w.heap.size L w' [b]) ∧ w.heap.size ≤ b ∧ Given 128 20 8 (fun zz => rwc (L.getD zz Rw.z)) b cp w') hX (B.trans A2) (fun i e he => nil_no he) rfl rfl rfl rfl ⟨z.1, b, cp, (by show SV.sla _ z.1.length cp = _; rw [e]), ⟨(by have h2 := hJ.2.tm; rw [e5] at h2; exact h2), (RowsIn.ok _ _ _ _ hJ.2.rw A.mix fun b2 hb => by have : b2 = b := (by simpa using hb); rw [this]; exact ho)⟩, lo_of B (fun i e he => nil_no he) ho, (by rw [← e]; exact hG)⟩))
abbrev fz : List UInt8 × Int × Int := ([], 0, 0)
def ffc (x : List UInt8 × Int × Int) : List SV := [.str x.1, .int .i64 x.2.1, .int .i64 x.2.2]
theorem tyF : (∀ x, (ffc x).length = 3) ∧ (∀ x, inL 0 (ffc x) = true) ∧ (∀ x, ∃ vs, denL [] (ffc x) = some vs) := ⟨fun _ => rfl, fun _ => rfl, fun _ => ⟨_, rfl⟩⟩
def f3 : List (List UInt8 × Int × Int) := [([83, 89], 3, 3), ([76, 68], 1, 3), ([83, 84], 2, 2)]
def insN (x : List UInt8 × Int × Int) : In := ⟨7, 0, 0, 0, 0, 0, 0, 0, 0, 0, false, false, false, x.2.1, x.2.2, 0, false⟩
abbrev fr1 (x : List UInt8 × Int × Int) (b1 : Nat) : Rw := ⟨[68, 77, 66], x.1, insN x, some ⟨b1, 0, none⟩, [10], 1⟩
def afen : List (List UInt8 × List UInt8 × In × List Int) := f3.map fun x => ([68, 77, 66], x.1, insN x, [10])
structure AF (lo : Nat) (z : List Rw × Nat) (w : World) (ks : List Nat) : Prop where
  le : z.2 ≤ 3
  tm : z.1.map tm = afen.take z.2
  rw : RowsIn lo z.1 w ks
theorem AF.len {lo : Nat} {z : List Rw × Nat} {w : World} {ks : List Nat} (h : AF lo z w ks) : z.1.length = z.2 := by
  have h1 := congrArg List.length h.tm
  rw [List.length_map, List.length_take] at h1
  have h2 : afen.length = 3 := by decide
  have := h.le
  omega
theorem AF.nx {lo b1 : Nat} {z : List Rw × Nat} {w w1 : World} {ks ks1 : List Nat} {l : List (Nat × List SV)} (h : AF lo z w ks) (hk : (z.2 : Int) < 3) (hr : RowsIn lo z.1 w1 ks1) (hA : Acc lo [(b1, [.int .i64 10])] w1 ks1) : AF lo (z.1 ++ [fr1 (f3.getD ((z.2 : Int)).toNat fz) b1], z.2 + 1) w1 ks1 := by
  refine ⟨by have := h.le; show z.2 + 1 ≤ 3; omega, ?_, fun r hr' => ?_⟩
  · show List.map _ (z.1 ++ _) = _
    rw [List.map_append, h.tm, Int.toNat_natCast]
    have : z.2 = 0 ∨ z.2 = 1 ∨ z.2 = 2 := by omega
    rcases this with e | e | e <;> rw [e] <;> rfl
  · rcases List.mem_append.1 hr' with h1 | h1
    · exact hr r h1
    · simp only [List.mem_cons, List.mem_nil_iff, or_false] at h1
      subst h1
      exact lies_of (cs := []) [10] hA List.mem_cons_self
theorem afen_ : FnR Tryz.prog 71 [] [] (fun x w w' => ∃ (L : List Rw) (b cp : Nat), x = .sla (some ⟨b, 0, none⟩) 3 cp ∧ (L.map tm = afen ∧ RowsIn w.heap.size L w' [b]) ∧ w.heap.size ≤ b ∧ Given 128 20 3 (fun zz => rwc (L.getD zz Rw.z)) b cp w') :=
 enterR (n := 31) (by kernel_rfl) Tryz.func71 rfl rfl rfl fun G w a h0 A => N hX 11 A rfl rfl fun A => have A := A.asT fz ffc 3 tyF.1 tyF.2.1 tyF.2.2 f3 0 rfl; N hX 17 A rfl rfl fun A => have A := A.nilRow 2 128 20 (fun zz => rwc (([] : List Rw).getD zz Rw.z)) rfl (fun z => ⟨_, rfl, rfl⟩); LOOPJ (fun (z : List Rw × Nat) => [(0, .sla none 0 0), (2, .sl 1 z.1.length 0), (10, .sl 0 3 3), (11, .int .i64 ((3 : Nat) : Int)), (12, .int .i64 (z.2 : Int))]) (fun (z : List Rw × Nat) => [some (.lst 3 3 (fun zz => ffc (f3.getD zz fz))), some (.row 128 20 z.1.length 0 (fun zz => rwc (z.1.getD zz Rw.z)))]) (fun z w1 ks1 => AF w.heap.size z w1 ks1) (fun z => 3 - z.2) ([], 0) (A.cut [0, 2, 10, 11, 12] rfl) ⟨by decide, rfl, fun r hr => by cases hr⟩ fun z G1 a1 w1 hJ hg A B => have hA : Acc w.heap.size [] w1 _ := Acc.nil; have hR := hJ.rw;
 N hX 6 A rfl rfl fun A => forkD 13 A rfl
   (fun h1 A => N hX 14 A rfl (ok_d (by omega) <| ok_d (by omega) <| okE_nil) fun A => N hX 6 A rfl rfl fun A => have A := sy_sayD A 20 (.agg [.int .i64 7, .int .i64 0, .int .i64 0, .int .i64 0, .int .i64 0, .int .i64 0, .int .i64 0, .int .i64 0, .int .i64 0, .int .i64 0, .bool false, .bool false, .bool false, .int .i64 ((f3.getD (((z.2 : Int)).toNat) fz).2.1), .int .i64 ((f3.getD (((z.2 : Int)).toNat) fz).2.2), .int .i64 0, .bool false]) rfl (fun _ => rfl); N hX 9 A rfl rfl fun A => BSCI [.int .i64 10] (X := ⟨_, true⟩) hX RowsIn.ok B hA hR A rfl rfl rfl rfl fun b1 B hA hR A =>
 N hX 2 A rfl rfl fun A => have A := A.asT Rw.z rwc 20 tyR.1 tyR.2.1 tyR.2.2 [fr1 (f3.getD (((z.2 : Int)).toNat) fz) b1] 4 rfl; q_eff A rfl (aplE hX ((z.1 ++ [fr1 (f3.getD (((z.2 : Int)).toNat) fz) b1]).length) (fun zz => rwc ((z.1 ++ [fr1 (f3.getD (((z.2 : Int)).toNat) fz) b1]).getD zz Rw.z)) rfl rfl rfl rfl (Nat.le_refl _) (by have := hJ.len; have := hJ.le; omega) (by decide) List.length_append (fun k hk => by show rwc _ = rwc _; rw [getD_app_l hk]) (fun k hk => by show rwc _ = rwc _; rw [getD_app_r]) (fun z => ⟨_, rfl, rfl⟩) (fun k hk => ⟨_, rfl, okE_nil⟩)) fun A =>
 N hX 8 A rfl (ok_d (by omega) <| okE_nil) fun A => ⟨(z.1 ++ [fr1 (f3.getD (((z.2 : Int)).toNat) fz) b1], z.2 + 1), _, (by have := h1; show _ - _ < _ - _; omega), (hJ.nx (l := []) h1 (RowsIn.ok _ _ _ _ hR A.mix fun b hb => A.keys_own b ((keys_pick (H := [some (.lst 3 3 (fun zz => ffc (f3.getD zz fz))), none, some (.blk [.str ((f3.getD (((z.2 : Int)).toNat) fz).1), .int .i64 ((f3.getD (((z.2 : Int)).toNat) fz).2.1), .int .i64 ((f3.getD (((z.2 : Int)).toNat) fz).2.2)]), some (.blk [.int .i64 7, .int .i64 0, .int .i64 0, .int .i64 0, .int .i64 0, .int .i64 0, .int .i64 0, .int .i64 0, .int .i64 0, .int .i64 0, .bool false, .bool false, .bool false, .int .i64 ((f3.getD (((z.2 : Int)).toNat) fz).2.1), .int .i64 ((f3.getD (((z.2 : Int)).toNat) fz).2.2), .int .i64 0, .bool false]), some (.lst 20 ([fr1 (f3.getD (((z.2 : Int)).toNat) fz) b1].length) (fun zz => rwc ([fr1 (f3.getD (((z.2 : Int)).toNat) fz) b1].getD zz Rw.z))), some (.row 128 20 ((z.1 ++ [fr1 (f3.getD (((z.2 : Int)).toNat) fz) b1]).length) 0 (fun zz => rwc ((z.1 ++ [fr1 (f3.getD (((z.2 : Int)).toNat) fz) b1]).getD zz Rw.z)))]) (m := [0, 5]) A.mem.len rfl rfl) b hb)) (hA.go A.mix fun b hb => A.keys_own b ((keys_pick (H := [some (.lst 3 3 (fun zz => ffc (f3.getD zz fz))), none, some (.blk [.str ((f3.getD (((z.2 : Int)).toNat) fz).1), .int .i64 ((f3.getD (((z.2 : Int)).toNat) fz).2.1), .int .i64 ((f3.getD (((z.2 : Int)).toNat) fz).2.2)]), some (.blk [.int .i64 7, .int .i64 0, .int .i64 0, .int .i64 0, .int .i64 0, .int .i64 0, .int .i64 0, .int .i64 0, .int .i64 0, .int .i64 0, .bool false, .bool false, .bool false, .int .i64 ((f3.getD (((z.2 : Int)).toNat) fz).2.1), .int .i64 ((f3.getD (((z.2 : Int)).toNat) fz).2.2), .int .i64 0, .bool false]), some (.lst 20 ([fr1 (f3.getD (((z.2 : Int)).toNat) fz) b1].length) (fun zz => rwc ([fr1 (f3.getD (((z.2 : Int)).toNat) fz) b1].getD zz Rw.z))), some (.row 128 20 ((z.1 ++ [fr1 (f3.getD (((z.2 : Int)).toNat) fz) b1]).length) 0 (fun zz => rwc ((z.1 ++ [fr1 (f3.getD (((z.2 : Int)).toNat) fz) b1]).getD zz Rw.z)))]) (m := [0, 5]) A.mem.len rfl rfl) b hb))), ((B.trans A).cut [0, 2, 10, 11, 12] rfl).mv 0 [0, 5] rfl rfl rfl rfl (by simp only [List.length_nil] at h0; omega)⟩)
   (fun h1 A => N hX 10 A rfl rfl fun A => (have e5 : z.2 = 3 := (by have := hJ.le; omega); have e : z.1.length = 3 := (by have := hJ.len; omega); match A.giveRow 1 0 (by omega) rfl rfl rfl with | ⟨b, cp, A2, hG, ho, hk⟩ => RETR (J := fun x w w' => ∃ (L : List Rw) (b cp : Nat), x = .sla (some ⟨b, 0, none⟩) 3 cp ∧ (L.map tm = afen ∧ RowsIn w.heap.size L w' [b]) ∧ w.heap.size ≤ b ∧ Given 128 20 3 (fun zz => rwc (L.getD zz Rw.z)) b cp w') hX (B.trans A2) (fun i e he => nil_no he) rfl rfl rfl rfl ⟨z.1, b, cp, (by show SV.sla _ z.1.length cp = _; rw [e]), ⟨(by have h2 := hJ.tm; rw [e5] at h2; exact h2), (RowsIn.ok _ _ _ _ hJ.rw A.mix fun b2 hb => by have : b2 = b := (by simpa using hb); rw [this]; exact ho)⟩, lo_of B (fun i e he => nil_no he) ho, (by rw [← e]; exact hG)⟩))
abbrev aaccL (b1 b2 b3 : Nat) : List (Nat × List SV) := [(b3, [.str [76, 68, 82, 42], .str [], .int .i64 4, .int .i64 0, .int .i64 0, .int .i64 0, .int .i64 0, .int .i64 0, .int .i64 0, .int .i64 0, .int .i64 0, .int .i64 0, .ff, .ff, .ff, .int .i64 0, .int .i64 0, .int .i64 0, .ff, .sla (some ⟨b1, 0, none⟩) 2 2, .str [76, 68, 65, 82, 42], .str [], .int .i64 4, .int .i64 0, .int .i64 0, .int .i64 0, .int .i64 0, .int .i64 0, .int .i64 0, .int .i64 0, .int .i64 0, .int .i64 0, .tt, .ff, .ff, .int .i64 0, .int .i64 0, .int .i64 0, .ff, .sla (some ⟨b1, 0, none⟩) 2 2, .str [76, 68, 65, 80, 82, 42], .str [], .int .i64 4, .int .i64 0, .int .i64 0, .int .i64 0, .int .i64 0, .int .i64 0, .int .i64 0, .int .i64 0, .int .i64 0, .int .i64 0, .ff, .tt, .ff, .int .i64 0, .int .i64 0, .int .i64 0, .ff, .sla (some ⟨b1, 0, none⟩) 2 2, .str [83, 84, 82, 42], .str [], .int .i64 5, .int .i64 0, .int .i64 0, .int .i64 0, .int .i64 0, .int .i64 0, .int .i64 0, .int .i64 0, .int .i64 0, .int .i64 0, .ff, .ff, .ff, .int .i64 0, .int .i64 0, .int .i64 0, .ff, .sla (some ⟨b2, 0, none⟩) 2 2, .str [83, 84, 76, 82, 42], .str [], .int .i64 5, .int .i64 0, .int .i64 0, .int .i64 0, .int .i64 0, .int .i64 0, .int .i64 0, .int .i64 0, .int .i64 0, .int .i64 0, .ff, .ff, .tt, .int .i64 0, .int .i64 0, .int .i64 0, .ff, .sla (some ⟨b2, 0, none⟩) 2 2]), (b2, [.int .i64 2, .int .i64 6]), (b1, [.int .i64 1, .int .i64 6])]
theorem aacc_ : FnR Tryz.prog 69 [] [] (fun x w w' => ∃ b1 b2 b3 : Nat, x = .sla (some ⟨b3, 0, none⟩) 5 5 ∧ Acc w.heap.size (aaccL b1 b2 b3) w' []) :=
 enterR (n := 21) (by kernel_rfl) Tryz.func69 rfl rfl rfl fun G w a h0 A => have B := A; have hA : Acc w.heap.size [] w _ := Acc.nil; N hX 7 A rfl rfl fun A => BSCA [.int .i64 1, .int .i64 6] (X := ⟨_, true⟩) hX B hA A rfl rfl rfl rfl fun b1 B hA A =>
 BSCA [.int .i64 2, .int .i64 6] (X := ⟨_, true⟩) hX B hA A rfl rfl rfl rfl fun b2 B hA A =>
 N hX 21 A rfl rfl fun A => BSCA [.str [76, 68, 82, 42], .str [], .int .i64 4, .int .i64 0, .int .i64 0, .int .i64 0, .int .i64 0, .int .i64 0, .int .i64 0, .int .i64 0, .int .i64 0, .int .i64 0, .ff, .ff, .ff, .int .i64 0, .int .i64 0, .int .i64 0, .ff, .sla (some ⟨b1, 0, none⟩) 2 2, .str [76, 68, 65, 82, 42], .str [], .int .i64 4, .int .i64 0, .int .i64 0, .int .i64 0, .int .i64 0, .int .i64 0, .int .i64 0, .int .i64 0, .int .i64 0, .int .i64 0, .tt, .ff, .ff, .int .i64 0, .int .i64 0, .int .i64 0, .ff, .sla (some ⟨b1, 0, none⟩) 2 2, .str [76, 68, 65, 80, 82, 42], .str [], .int .i64 4, .int .i64 0, .int .i64 0, .int .i64 0, .int .i64 0, .int .i64 0, .int .i64 0, .int .i64 0, .int .i64 0, .int .i64 0, .ff, .tt, .ff, .int .i64 0, .int .i64 0, .int .i64 0, .ff, .sla (some ⟨b1, 0, none⟩) 2 2, .str [83, 84, 82, 42], .str [], .int .i64 5, .int .i64 0, .int .i64 0, .int .i64 0, .int .i64 0, .int .i64 0, .int .i64 0, .int .i64 0, .int .i64 0, .int .i64 0, .ff, .ff, .ff, .int .i64 0, .int .i64 0, .int .i64 0, .ff, .sla (some ⟨b2, 0, none⟩) 2 2, .str [83, 84, 76, 82, 42], .str [], .int .i64 5, .int .i64 0, .int .i64 0, .int .i64 0, .int .i64 0, .int .i64 0, .int .i64 0, .int .i64 0, .int .i64 0, .int .i64 0, .ff, .ff, .tt, .int .i64 0, .int .i64 0, .int .i64 0, .ff, .sla (some ⟨b2, 0, none⟩) 2 2] (X := ⟨_, true⟩) hX B hA A rfl rfl rfl rfl fun b3 B hA A =>
 N hX 4 A rfl rfl fun A => RETR (J := fun x w w' => ∃ b1 b2 b3 : Nat, x = .sla (some ⟨b3, 0, none⟩) 5 5 ∧ Acc w.heap.size (aaccL b1 b2 b3) w' []) hX (B.trans A) (fun i e he => nil_no he) rfl rfl rfl rfl ⟨b1, b2, b3, rfl, (hA.now A).bare⟩
abbrev aothL (b1 b2 b3 b4 b5 : Nat) : List (Nat × List SV) := [(b5, [.str [77, 79, 86], .str [], .int .i64 1, .int .i64 0, .int .i64 0, .int .i64 0, .int .i64 0, .int .i64 0, .int .i64 0, .int .i64 0, .int .i64 0, .int .i64 0, .ff, .ff, .ff, .int .i64 0, .int .i64 0, .int .i64 0, .ff, .sla (some ⟨b1, 0, none⟩) 2 2, .str [77, 79, 86], .str [], .int .i64 2, .int .i64 0, .int .i64 0, .int .i64 0, .int .i64 0, .int .i64 0, .int .i64 0, .int .i64 0, .int .i64 0, .int .i64 0, .ff, .ff, .ff, .int .i64 0, .int .i64 0, .int .i64 0, .ff, .sla (some ⟨b2, 0, none⟩) 2 2, .str [73, 83, 66], .str [], .int .i64 8, .int .i64 0, .int .i64 0, .int .i64 0, .int .i64 0, .int .i64 0, .int .i64 0, .int .i64 0, .int .i64 0, .int .i64 0, .ff, .ff, .ff, .int .i64 0, .int .i64 0, .int .i64 0, .ff, .sla none 0 0, .str [67, 66, 90], .str [], .int .i64 9, .int .i64 0, .int .i64 0, .int .i64 0, .int .i64 0, .int .i64 0, .int .i64 0, .int .i64 0, .int .i64 0, .int .i64 0, .ff, .ff, .ff, .int .i64 0, .int .i64 0, .int .i64 0, .tt, .sla (some ⟨b3, 0, none⟩) 2 2, .str [67, 66, 78, 90], .str [], .int .i64 9, .int .i64 0, .int .i64 0, .int .i64 0, .int .i64 0, .int .i64 0, .int .i64 0, .int .i64 0, .int .i64 0, .int .i64 0, .ff, .ff, .ff, .int .i64 0, .int .i64 0, .int .i64 0, .ff, .sla (some ⟨b4, 0, none⟩) 2 2]), (b4, [.int .i64 2, .int .i64 7]), (b3, [.int .i64 2, .int .i64 7]), (b2, [.int .i64 1, .int .i64 2]), (b1, [.int .i64 1, .int .i64 5])]
theorem aoth_ : FnR Tryz.prog 72 [] [] (fun x w w' => ∃ b1 b2 b3 b4 b5 : Nat, x = .sla (some ⟨b5, 0, none⟩) 5 5 ∧ Acc w.heap.size (aothL b1 b2 b3 b4 b5) w' []) :=
 enterR (n := 16) (by kernel_rfl) Tryz.func72 rfl rfl rfl fun G w a h0 A => have B := A; have hA : Acc w.heap.size [] w _ := Acc.nil; N hX 8 A rfl rfl fun A => BSCA [.int .i64 1, .int .i64 5] (X := ⟨_, true⟩) hX B hA A rfl rfl rfl rfl fun b1 B hA A =>
 N hX 2 A rfl rfl fun A => BSCA [.int .i64 1, .int .i64 2] (X := ⟨_, true⟩) hX B hA A rfl rfl rfl rfl fun b2 B hA A =>
 N hX 4 A rfl rfl fun A => BSCA [.int .i64 2, .int .i64 7] (X := ⟨_, true⟩) hX B hA A rfl rfl rfl rfl fun b3 B hA A =>
 N hX 2 A rfl rfl fun A => BSCA [.int .i64 2, .int .i64 7] (X := ⟨_, true⟩) hX B hA A rfl rfl rfl rfl fun b4 B hA A =>
 N hX 1 A rfl rfl fun A => BSCA [.str [77, 79, 86], .str [], .int .i64 1, .int .i64 0, .int .i64 0, .int .i64 0, .int .i64 0, .int .i64 0, .int .i64 0, .int .i64 0, .int .i64 0, .int .i64 0, .ff, .ff, .ff, .int .i64 0, .int .i64 0, .int .i64 0, .ff, .sla (some ⟨b1, 0, none⟩) 2 2, .str [77, 79, 86], .str [], .int .i64 2, .int .i64 0, .int .i64 0, .int .i64 0, .int .i64 0, .int .i64 0, .int .i64 0, .int .i64 0, .int .i64 0, .int .i64 0, .ff, .ff, .ff, .int .i64 0, .int .i64 0, .int .i64 0, .ff, .sla (some ⟨b2, 0, none⟩) 2 2, .str [73, 83, 66], .str [], .int .i64 8, .int .i64 0, .int .i64 0, .int .i64 0, .int .i64 0, .int .i64 0, .int .i64 0, .int .i64 0, .int .i64 0, .int .i64 0, .ff, .ff, .ff, .int .i64 0, .int .i64 0, .int .i64 0, .ff, .sla none 0 0, .str [67, 66, 90], .str [], .int .i64 9, .int .i64 0, .int .i64 0, .int .i64 0, .int .i64 0, .int .i64 0, .int .i64 0, .int .i64 0, .int .i64 0, .int .i64 0, .ff, .ff, .ff, .int .i64 0, .int .i64 0, .int .i64 0, .tt, .sla (some ⟨b3, 0, none⟩) 2 2, .str [67, 66, 78, 90], .str [], .int .i64 9, .int .i64 0, .int .i64 0, .int .i64 0, .int .i64 0, .int .i64 0, .int .i64 0, .int .i64 0, .int .i64 0, .int .i64 0, .ff, .ff, .ff, .int .i64 0, .int .i64 0, .int .i64 0, .ff, .sla (some ⟨b4, 0, none⟩) 2 2] (X := ⟨_, true⟩) hX B hA A rfl rfl rfl rfl fun b5 B hA A =>
 N hX 4 A rfl rfl fun A => RETR (J := fun x w w' => ∃ b1 b2 b3 b4 b5 : Nat, x = .sla (some ⟨b5, 0, none⟩) 5 5 ∧ Acc w.heap.size (aothL b1 b2 b3 b4 b5) w' []) hX (B.trans A) (fun i e he => nil_no he) rfl rfl rfl rfl ⟨b1, b2, b3, b4, b5, rfl, (hA.now A).bare⟩
def aaccR (b1 b2 : Nat) : List Rw := [⟨[76, 68, 82, 42], [], ⟨4, 0, 0, 0, 0, 0, 0, 0, 0, 0, false, false, false, 0, 0, 0, false⟩, some ⟨b1, 0, none⟩, [1, 6], 2⟩, ⟨[76, 68, 65, 82, 42], [], ⟨4, 0, 0, 0, 0, 0, 0, 0, 0, 0, true, false, false, 0, 0, 0, false⟩, some ⟨b1, 0, none⟩, [1, 6], 2⟩, ⟨[76, 68, 65, 80, 82, 42], [], ⟨4, 0, 0, 0, 0, 0, 0, 0, 0, 0, false, true, false, 0, 0, 0, false⟩, some ⟨b1, 0, none⟩, [1, 6], 2⟩, ⟨[83, 84, 82, 42], [], ⟨5, 0, 0, 0, 0, 0, 0, 0, 0, 0, false, false, false, 0, 0, 0, false⟩, some ⟨b2, 0, none⟩, [2, 6], 2⟩, ⟨[83, 84, 76, 82, 42], [], ⟨5, 0, 0, 0, 0, 0, 0, 0, 0, 0, false, false, true, 0, 0, 0, false⟩, some ⟨b2, 0, none⟩, [2, 6], 2⟩]
def aaccT : List (List UInt8 × List UInt8 × In × List Int) := [([76, 68, 82, 42], [], ⟨4, 0, 0, 0, 0, 0, 0, 0, 0, 0, false, false, false, 0, 0, 0, false⟩, [1, 6]), ([76, 68, 65, 82, 42], [], ⟨4, 0, 0, 0, 0, 0, 0, 0, 0, 0, true, false, false, 0, 0, 0, false⟩, [1, 6]), ([76, 68, 65, 80, 82, 42], [], ⟨4, 0, 0, 0, 0, 0, 0, 0, 0, 0, false, true, false, 0, 0, 0, false⟩, [1, 6]), ([83, 84, 82, 42], [], ⟨5, 0, 0, 0, 0, 0, 0, 0, 0, 0, false, false, false, 0, 0, 0, false⟩, [2, 6]), ([83, 84, 76, 82, 42], [], ⟨5, 0, 0, 0, 0, 0, 0, 0, 0, 0, false, false, true, 0, 0, 0, false⟩, [2, 6])]
theorem aacc_rows {b1 b2 b3 lo lo2 : Nat} {w : World} {ks : List Nat} (h : Acc lo (aaccL b1 b2 b3) w ks) (hlo : lo2 ≤ lo) : RowsIn lo2 (aaccR b1 b2) w ks := by
  intro r hr
  unfold aaccR at hr
  simp only [List.mem_cons, List.mem_nil_iff, or_false] at hr
  rcases hr with rfl | rfl | rfl | rfl | rfl
  · have q := lies_of (b := b1) (cs := []) [1, 6] h (by show _ ∈ aaccL b1 b2 b3; unfold aaccL; simp); exact ⟨q.1, fun z hz => Nat.le_trans hlo (q.2 z hz)⟩
  · have q := lies_of (b := b1) (cs := []) [1, 6] h (by show _ ∈ aaccL b1 b2 b3; unfold aaccL; simp); exact ⟨q.1, fun z hz => Nat.le_trans hlo (q.2 z hz)⟩
  · have q := lies_of (b := b1) (cs := []) [1, 6] h (by show _ ∈ aaccL b1 b2 b3; unfold aaccL; simp); exact ⟨q.1, fun z hz => Nat.le_trans hlo (q.2 z hz)⟩
  · have q := lies_of (b := b2) (cs := []) [2, 6] h (by show _ ∈ aaccL b1 b2 b3; unfold aaccL; simp); exact ⟨q.1, fun z hz => Nat.le_trans hlo (q.2 z hz)⟩
  · have q := lies_of (b := b2) (cs := []) [2, 6] h (by show _ ∈ aaccL b1 b2 b3; unfold aaccL; simp); exact ⟨q.1, fun z hz => Nat.le_trans hlo (q.2 z hz)⟩
theorem aacc_den (b1 b2 b3 : Nat) : denL [] ((aaccR b1 b2).flatMap rwc) = denL [] [.str [76, 68, 82, 42], .str [], .int .i64 4, .int .i64 0, .int .i64 0, .int .i64 0, .int .i64 0, .int .i64 0, .int .i64 0, .int .i64 0, .int .i64 0, .int .i64 0, .ff, .ff, .ff, .int .i64 0, .int .i64 0, .int .i64 0, .ff, .sla (some ⟨b1, 0, none⟩) 2 2, .str [76, 68, 65, 82, 42], .str [], .int .i64 4, .int .i64 0, .int .i64 0, .int .i64 0, .int .i64 0, .int .i64 0, .int .i64 0, .int .i64 0, .int .i64 0, .int .i64 0, .tt, .ff, .ff, .int .i64 0, .int .i64 0, .int .i64 0, .ff, .sla (some ⟨b1, 0, none⟩) 2 2, .str [76, 68, 65, 80, 82, 42], .str [], .int .i64 4, .int .i64 0, .int .i64 0, .int .i64 0, .int .i64 0, .int .i64 0, .int .i64 0, .int .i64 0, .int .i64 0, .int .i64 0, .ff, .tt, .ff, .int .i64 0, .int .i64 0, .int .i64 0, .ff, .sla (some ⟨b1, 0, none⟩) 2 2, .str [83, 84, 82, 42], .str [], .int .i64 5, .int .i64 0, .int .i64 0, .int .i64 0, .int .i64 0, .int .i64 0, .int .i64 0, .int .i64 0, .int .i64 0, .int .i64 0, .ff, .ff, .ff, .int .i64 0, .int .i64 0, .int .i64 0, .ff, .sla (some ⟨b2, 0, none⟩) 2 2, .str [83, 84, 76, 82, 42], .str [], .int .i64 5, .int .i64 0, .int .i64 0, .int .i64 0, .int .i64 0, .int .i64 0, .int .i64 0, .int .i64 0, .int .i64 0, .int .i64 0, .ff, .ff, .tt, .int .i64 0, .int .i64 0, .int .i64 0, .ff, .sla (some ⟨b2, 0, none⟩) 2 2] := by rfl
section
variable {n : Nat} {ks : List Nat} {G0 : Gr} {w0 : World} {T : List (Nat × SV)} {H : Hp} {G : Gr} {a : Act} {w : World} {Q : Exit → Act → World → Prop} {K : List Fr} {ops : Array Oper} {o : Oper} {rest : List Oper}
theorem CALLACC (A : Sy n T H ks G0 w0 G a w) (h1 : callS n ops T o = some (69, []))
    (k : ∀ b1 b2 b3 vs a' w', denL [] ((aaccR b1 b2).flatMap rwc) = some vs → Lies b3 0 vs w' (keys H G) → RowsIn w.heap.size (aaccR b1 b2) w' (keys H G) → Sy n (extS T o.dst (.sla (some ⟨b3, 0, none⟩) 5 5)) H ks G0 w0 G a' w' → Goal Tryz.prog Q K (.ops ops rest) a' w') : Goal Tryz.prog Q K (.ops ops (o :: rest)) a w := by
  refine CALLR [] aacc_ A h1 rfl rfl rfl rfl fun x a' w' hJ hk A' => ?_
  obtain ⟨b1, b2, b3, rfl, hA⟩ := hJ
  have hA := acc_keys hA hk
  obtain ⟨_, vs, q1, q2⟩ := hA _ List.mem_cons_self
  exact k b1 b2 b3 vs a' w' ((aacc_den b1 b2 b3).trans q1) q2 (aacc_rows hA (Nat.le_refl _)) A'
end
def aothR (b1 b2 b3 b4 : Nat) : List Rw := [⟨[77, 79, 86], [], ⟨1, 0, 0, 0, 0, 0, 0, 0, 0, 0, false, false, false, 0, 0, 0, false⟩, some ⟨b1, 0, none⟩, [1, 5], 2⟩, ⟨[77, 79, 86], [], ⟨2, 0, 0, 0, 0, 0, 0, 0, 0, 0, false, false, false, 0, 0, 0, false⟩, some ⟨b2, 0, none⟩, [1, 2], 2⟩, ⟨[73, 83, 66], [], ⟨8, 0, 0, 0, 0, 0, 0, 0, 0, 0, false, false, false, 0, 0, 0, false⟩, none, [], 0⟩, ⟨[67, 66, 90], [], ⟨9, 0, 0, 0, 0, 0, 0, 0, 0, 0, false, false, false, 0, 0, 0, true⟩, some ⟨b3, 0, none⟩, [2, 7], 2⟩, ⟨[67, 66, 78, 90], [], ⟨9, 0, 0, 0, 0, 0, 0, 0, 0, 0, false, false, false, 0, 0, 0, false⟩, some ⟨b4, 0, none⟩, [2, 7], 2⟩]
def aothT : List (List UInt8 × List UInt8 × In × List Int) := [([77, 79, 86], [], ⟨1, 0, 0, 0, 0, 0, 0, 0, 0, 0, false, false, false, 0, 0, 0, false⟩, [1, 5]), ([77, 79, 86], [], ⟨2, 0, 0, 0, 0, 0, 0, 0, 0, 0, false, false, false, 0, 0, 0, false⟩, [1, 2]), ([73, 83, 66], [], ⟨8, 0, 0, 0, 0, 0, 0, 0, 0, 0, false, false, false, 0, 0, 0, false⟩, []), ([67, 66, 90], [], ⟨9, 0, 0, 0, 0, 0, 0, 0, 0, 0, false, false, false, 0, 0, 0, true⟩, [2, 7]), ([67, 66, 78, 90], [], ⟨9, 0, 0, 0, 0, 0, 0, 0, 0, 0, false, false, false, 0, 0, 0, false⟩, [2, 7])]
theorem aoth_rows {b1 b2 b3 b4 b5 lo lo2 : Nat} {w : World} {ks : List Nat} (h : Acc lo (aothL b1 b2 b3 b4 b5) w ks) (hlo : lo2 ≤ lo) : RowsIn lo2 (aothR b1 b2 b3 b4) w ks := by
  intro r hr
  unfold aothR at hr
  simp only [List.mem_cons, List.mem_nil_iff, or_false] at hr
  rcases hr with rfl | rfl | rfl | rfl | rfl
  · have q := lies_of (b := b1) (cs := []) [1, 5] h (by show _ ∈ aothL b1 b2 b3 b4 b5; unfold aothL; simp); exact ⟨q.1, fun z hz => Nat.le_trans hlo (q.2 z hz)⟩
  · have q := lies_of (b := b2) (cs := []) [1, 2] h (by show _ ∈ aothL b1 b2 b3 b4 b5; unfold aothL; simp); exact ⟨q.1, fun z hz => Nat.le_trans hlo (q.2 z hz)⟩
  · exact ⟨.inl ⟨rfl, rfl⟩, fun q hq => by cases hq⟩
  · have q := lies_of (b := b3) (cs := []) [2, 7] h (by show _ ∈ aothL b1 b2 b3 b4 b5; unfold aothL; simp); exact ⟨q.1, fun z hz => Nat.le_trans hlo (q.2 z hz)⟩
  · have q := lies_of (b := b4) (cs := []) [2, 7] h (by show _ ∈ aothL b1 b2 b3 b4 b5; unfold aothL; simp); exact ⟨q.1, fun z hz => Nat.le_trans hlo (q.2 z hz)⟩
theorem aoth_den (b1 b2 b3 b4 b5 : Nat) : denL [] ((aothR b1 b2 b3 b4).flatMap rwc) = denL [] [.str [77, 79, 86], .str [], .int .i64 1, .int .i64 0, .int .i64 0, .int .i64 0, .int .i64 0, .int .i64 0, .int .i64 0, .int .i64 0, .int .i64 0, .int .i64 0, .ff, .ff, .ff, .int .i64 0, .int .i64 0, .int .i64 0, .ff, .sla (some ⟨b1, 0, none⟩) 2 2, .str [77, 79, 86], .str [], .int .i64 2, .int .i64 0, .int .i64 0, .int .i64 0, .int .i64 0, .int .i64 0, .int .i64 0, .int .i64 0, .int .i64 0, .int .i64 0, .ff, .ff, .ff, .int .i64 0, .int .i64 0, .int .i64 0, .ff, .sla (some ⟨b2, 0, none⟩) 2 2, .str [73, 83, 66], .str [], .int .i64 8, .int .i64 0, .int .i64 0, .int .i64 0, .int .i64 0, .int .i64 0, .int .i64 0, .int .i64 0, .int .i64 0, .int .i64 0, .ff, .ff, .ff, .int .i64 0, .int .i64 0, .int .i64 0, .ff, .sla none 0 0, .str [67, 66, 90], .str [], .int .i64 9, .int .i64 0, .int .i64 0, .int .i64 0, .int .i64 0, .int .i64 0, .int .i64 0, .int .i64 0, .int .i64 0, .int .i64 0, .ff, .ff, .ff, .int .i64 0, .int .i64 0, .int .i64 0, .tt, .sla (some ⟨b3, 0, none⟩) 2 2, .str [67, 66, 78, 90], .str [], .int .i64 9, .int .i64 0, .int .i64 0, .int .i64 0, .int .i64 0, .int .i64 0, .int .i64 0, .int .i64 0, .int .i64 0, .int .i64 0, .ff, .ff, .ff, .int .i64 0, .int .i64 0, .int .i64 0, .ff, .sla (some ⟨b4, 0, none⟩) 2 2] := by rfl
section
variable {n : Nat} {ks : List Nat} {G0 : Gr} {w0 : World} {T : List (Nat × SV)} {H : Hp} {G : Gr} {a : Act} {w : World} {Q : Exit → Act → World → Prop} {K : List Fr} {ops : Array Oper} {o : Oper} {rest : List Oper}
theorem CALLAOT (A : Sy n T H ks G0 w0 G a w) (h1 : callS n ops T o = some (72, []))
    (k : ∀ b1 b2 b3 b4 b5 vs a' w', denL [] ((aothR b1 b2 b3 b4).flatMap rwc) = some vs → Lies b5 0 vs w' (keys H G) → RowsIn w.heap.size (aothR b1 b2 b3 b4) w' (keys H G) → Sy n (extS T o.dst (.sla (some ⟨b5, 0, none⟩) 5 5)) H ks G0 w0 G a' w' → Goal Tryz.prog Q K (.ops ops rest) a' w') : Goal Tryz.prog Q K (.ops ops (o :: rest)) a w := by
  refine CALLR [] aoth_ A h1 rfl rfl rfl rfl fun x a' w' hJ hk A' => ?_
  obtain ⟨b1, b2, b3, b4, b5, rfl, hA⟩ := hJ
  have hA := acc_keys hA hk
  obtain ⟨_, vs, q1, q2⟩ := hA _ List.mem_cons_self
  exact k b1 b2 b3 b4 b5 vs a' w' ((aoth_den b1 b2 b3 b4 b5).trans q1) q2 (aoth_rows hA (Nat.le_refl _)) A'
end
def armT : List (List UInt8 × List UInt8 × In × List Int) := (((acomp ++ aaccT) ++ aatom) ++ afen) ++ aothT
theorem alang_ : FnR Tryz.prog 26 [] [] (fun x w w' => ∃ (L : List Rw) (b cp : Nat), x = .agg [.str [88, 48], .str [88, 49], .str [88, 50], .str [88, 51], .str [88, 52], .str [88, 53], .str [88, 54], .str [88, 55], .str [66], .str [72], .str [87], .str [], .str [35], .str [], .str [], .str [], .sla (some ⟨b, 0, none⟩) 31 cp] ∧ (L.map tm = armT ∧ RowsIn w.heap.size L w' [b]) ∧ w.heap.size ≤ b ∧ Given 128 20 31 (fun zz => rwc (L.getD zz Rw.z)) b cp w') :=
 enterR (n := 11) (by kernel_rfl) Tryz.func26 rfl rfl rfl fun G w a h0 A => N hX 7 A rfl rfl fun A => CALL1 [] (aregs_ ) A rfl rfl rfl rfl rfl rfl rfl fun A => N hX 1 A rfl rfl fun A => have hz := A.mix.size; CALLROW (t := 3) (F := fun (L : List Rw) zz => rwc (L.getD zz Rw.z)) (R := fun L b w w' => L.map tm = acomp ∧ RowsIn w.heap.size L w' [b]) acomp_ A rfl rfl fun L1 e1 cp1 a1_ w1 G1 hR1 hlo hk A => have l1 : L1.length = 10 := (by have q := congrArg List.length hR1.1; rw [List.length_map] at q; exact q); have hI := (rows_keys hR1.2 hk).mono hz; have B := A; have A := B.base; 
 have hz := Nat.le_trans B.mix.size A.mix.size; CALLACC A rfl fun p1 p2 p3 vp a2_ w2 hv hL hO A => have hI := (RowsIn.ok _ _ _ _ hI A.mix A.keys_own).app (hO.mono hz); have lx2 : (aaccR p1 p2).length = 5 := rfl; have l12 : (L1 ++ (aaccR p1 p2)).length = 15 := (by rw [List.length_append, l1, lx2]); have B := B.trans A; have A := A.base; have A := A.adoptL Rw.z rwc 20 tyR.1 tyR.2.1 tyR.2.2 (aaccR p1 p2) hL hv 4 rfl;
 have hz := Nat.le_trans B.mix.size A.mix.size; CALLROW (t := 5) (F := fun (L : List Rw) zz => rwc (L.getD zz Rw.z)) (R := fun L b w w' => L.map tm = aatom ∧ RowsIn w.heap.size L w' [b]) aatom_ A rfl rfl fun L3 e3 cp3 a3_ w3 G3 hR3 hlo hk A => have lx3 : L3.length = 8 := (by have q := congrArg List.length hR3.1; rw [List.length_map] at q; exact q); have hI2 := (rows_keys hR3.2 hk).mono hz; have hI := (RowsIn.ok _ _ _ _ hI A.mix A.keys_own).app hI2; have l13 : ((L1 ++ (aaccR p1 p2)) ++ L3).length = 23 := (by rw [List.length_append, l12, lx3]); have B := B.trans A; have A := A.base; 
 have hz := Nat.le_trans B.mix.size A.mix.size; CALLROW (t := 6) (F := fun (L : List Rw) zz => rwc (L.getD zz Rw.z)) (R := fun L b w w' => L.map tm = afen ∧ RowsIn w.heap.size L w' [b]) afen_ A rfl rfl fun L4 e4 cp4 a4_ w4 G4 hR4 hlo hk A => have lx4 : L4.length = 3 := (by have q := congrArg List.length hR4.1; rw [List.length_map] at q; exact q); have hI2 := (rows_keys hR4.2 hk).mono hz; have hI := (RowsIn.ok _ _ _ _ hI A.mix A.keys_own).app hI2; have l14 : (((L1 ++ (aaccR p1 p2)) ++ L3) ++ L4).length = 26 := (by rw [List.length_append, l13, lx4]); have B := B.trans A; have A := A.base; 
 have hz := Nat.le_trans B.mix.size A.mix.size; CALLAOT A rfl fun q1 q2 q3 q4 q5 vq a5_ w5 hv hL hO A => have hI := (RowsIn.ok _ _ _ _ hI A.mix A.keys_own).app (hO.mono hz); have lx5 : (aothR q1 q2 q3 q4).length = 5 := rfl; have l15 : ((((L1 ++ (aaccR p1 p2)) ++ L3) ++ L4) ++ (aothR q1 q2 q3 q4)).length = 31 := (by rw [List.length_append, l14, lx5]); have B := B.trans A; have A := A.base; have A := A.adoptL Rw.z rwc 20 tyR.1 tyR.2.1 tyR.2.2 (aothR q1 q2 q3 q4) hL hv 7 rfl;
 N hX 1 A rfl rfl fun A => have A := A.freeze 1 rfl; have A := A.freeze 3 rfl; have A := A.freeze 4 rfl; CALL1 [6, 1, 2, 3, 4, 5] (concat5_ L1 (aaccR p1 p2) L3 L4 (aothR q1 q2 q3 q4) 0 5 0 0 5 l1 l12 l13 l14) A rfl rfl rfl rfl rfl rfl rfl fun A => match A.giveRow 7 9 (by decide) rfl rfl rfl with | ⟨b, cp, A2, hG, ho, hkb⟩ => (have h1 := RowsIn.ok _ _ _ _ hI A2.mix A2.keys_own; have h2 := RowsIn.ok _ _ _ [b] hI A2.mix (fun b2 hb => by have : b2 = b := (by simpa using hb); rw [this]; exact ho); have hbl := lo_of B (fun i e he => nil_no he) ho; have B := B.trans A2; have A := A2.base;
 N hX 5 A rfl rfl fun A => RETR (J := fun x w w' => ∃ (L : List Rw) (b cp : Nat), x = .agg [.str [88, 48], .str [88, 49], .str [88, 50], .str [88, 51], .str [88, 52], .str [88, 53], .str [88, 54], .str [88, 55], .str [66], .str [72], .str [87], .str [], .str [35], .str [], .str [], .str [], .sla (some ⟨b, 0, none⟩) 31 cp] ∧ (L.map tm = armT ∧ RowsIn w.heap.size L w' [b]) ∧ w.heap.size ≤ b ∧ Given 128 20 31 (fun zz => rwc (L.getD zz Rw.z)) b cp w') hX (B.trans A) (fun i e he => nil_no he) rfl rfl rfl rfl ⟨((((L1 ++ (aaccR p1 p2)) ++ L3) ++ L4) ++ (aothR q1 q2 q3 q4)), b, cp, rfl, ⟨by rw [List.map_append, List.map_append, List.map_append, List.map_append, hR1.1, hR3.1, hR4.1]; rfl, h1.one h2 A.mix⟩, hbl, hG.mix A.mix hkb⟩)
end Go.Proofs.YtedlaclfhgneeabGreatDoor
namespace Go.Proofs.YtedlaclfhgneeabGreatDoor
open Go.RowKit
set_option linter.unusedVariables false
set_option linter.unusedSimpArgs false
set_option maxRecDepth 100000
set_option maxHeartbeats 2000000
section
variable {g : Lg} {L : List Rw} {i : In} {lb : List UInt8}
theorem cn_find : ∀ (L : List Rw), (L.map cn).find? (rowP i) = (L.find? (rowP i)).map cn
  | [] => rfl
  | r :: L => by
    rw [List.map_cons, List.find?_cons, List.find?_cons]
    have e : rowP i (cn r) = rowP i r := rfl
    rw [e]
    split
    · rfl
    · exact cn_find L
theorem cn_rowR : rowR (L.map cn) i = cn (rowR L i) := by
  unfold rowR; rw [cn_find]; cases L.find? (rowP i) <;> rfl
theorem cn_rowQ : rowQ (L.map cn) i = rowQ L i := by
  unfold rowQ; rw [cn_find]; cases L.find? (rowP i) <;> rfl
theorem cn_prP : prP g (L.map cn) i lb = prP g L i lb := by
  unfold prP; rw [cn_rowR, cn_rowQ]; rfl
end
end Go.Proofs.YtedlaclfhgneeabGreatDoor
namespace Go.Proofs.YtedlaclfhgneeabGreatDoor
open Go.RowKit
set_option linter.unusedVariables false
set_option linter.unusedSimpArgs false
set_option linter.unusedSectionVars false
section
variable {P : Program} {n : Nat} {ks : List Nat} {G0 : Gr} {w0 : World} {T : List (Nat × SV)} {H : Hp} {G : Gr} {a : Act} {w w' : World} {Q : Exit → Act → World → Prop} {K : List Fr} {ops : Array Oper} {o : Oper} {rest : List Oper} {fuel i : Nat} {listed : Array Bool}
theorem any_in {id : Nat} (f : Nat) (hmo : P.follows .mixedOrders = true) (hf : ops.size = f) (A : Sy n T H ks G0 w0 G a w) (h : ∀ {w}, Sy n T H ks G0 w0 G a w → wpAny P .any ops (wpK P Q K) f (Array.replicate f false) a w) : Goal P Q K (.code (.region id ops true)) a w := by
  subst hf
  refine wp_region_any hmo ?_
  have hB1 : Ms H ks G0 w0 G w.drew := A.ms.grow (Grow.refl w).drew
  exact h (hB1.sy A.size A.defers A.get)
theorem any_at {rs : List Nat} (hr : Region.ready .any ops listed = rs) (hne : rs ≠ []) (h : ∀ i ∈ rs, wpOp P ops Q i (wpAny P .any ops Q fuel (listed.setIfInBounds i true)) a w) : wpAny P .any ops Q (fuel + 1) listed a w := by
  unfold wpAny
  rw [hr]
  exact ⟨fun e => absurd e hne, h⟩
theorem any_end (hr : Region.ready .any ops listed = []) (h : Goal P Q K .norm a w) : wpAny P .any ops (wpK P Q K) fuel listed a w := by
  cases fuel with
  | zero => exact ⟨hr, h⟩
  | succ f =>
    unfold wpAny
    rw [hr]
    exact ⟨fun _ => h, fun i hi => by cases hi⟩
theorem any_does (ho : ops[i]? = some o) (h : Does P ops o a w fun v w' => wpAny P .any ops Q fuel (listed.setIfInBounds i true) (a.put o.dst v) w') : wpOp P ops Q i (wpAny P .any ops Q fuel (listed.setIfInBounds i true)) a w := by
  unfold wpOp
  rcases h with ⟨hw, h⟩ | ⟨hw, h⟩
  · simp only [ho, hw, if_true]
    refine .inl (Oper.wp_mono (fun a2 w2 h => ?_) (h Q))
    obtain ⟨v, rfl, h1⟩ := h
    exact h1
  · simp only [ho, hw, Bool.false_eq_true, if_false]
    exact h
theorem any_eff {x : SV} {H' : Hp} (ho : ops[i]? = some o) (A : Sy n T H ks G0 w0 G a w) (hd : fitsD n o.dst = true) (h : EffOK P n ops ks G0 w0 T H o x H') (hk : ∀ {G a w}, Sy n (extS T o.dst x) H' ks G0 w0 G a w → wpAny P .any ops Q fuel (listed.setIfInBounds i true) a w) : wpOp P ops Q i (wpAny P .any ops Q fuel (listed.setIfInBounds i true)) a w := by
  refine any_does ho ?_
  rcases h G a w A with ⟨hw, h⟩ | ⟨hw, F, h1, h2⟩
  · refine .inl ⟨hw, fun Q' => ?_⟩
    refine Oper.wp_mono (fun a' w' hh => ?_) (h Q')
    obtain ⟨v, rfl, F, h1, h2⟩ := hh
    exact ⟨v, rfl, hk (Sy.put (h2.sy A.size A.defers fun t y hy => den_mono F y (A.get t y hy)) hd h1)⟩
  · exact .inr ⟨hw, hk (Sy.put (h2.sy A.size A.defers fun t y hy => den_mono F y (A.get t y hy)) hd h1)⟩
theorem does_R {f : Nat} {J : SV → World → World → Prop} {K : Value → World → Prop} (hf : FnR P f [] [] J) (A : Sy n T H ks G0 w0 G a w) (h1 : callS n ops T o = some (f, []))
    (hk : ∀ x v w', J x w w' → (∀ k, (keys H G).contains k = true → k < w.heap.size) → Sy n (extS T o.dst x) H ks G0 w0 G (a.put o.dst v) w' → K v w') : Does P ops o a w K := by
  obtain ⟨hd, us, hu, hdo⟩ := callS_do (P := P) (ops := ops) A h1 hf.1
  have hu' : us = [] := by cases hu; rfl
  subst hu'
  have hM : Mem [] [] w := ⟨rfl, fun i e h => by simp at h, fun i j e f L M _ h => by simp at h⟩
  refine hdo (hf.2 [] w [] hM rfl) fun e w' he => ?_
  obtain ⟨x, v, e1, rfl, hg, hJ⟩ := he
  refine ⟨v, rfl, hk x v _ hJ (fun k hz => ?_) (Sy.put ⟨A.size, A.defers, A.get, ⟨A.mem.len, fun i e hi => (A.mem.ent i e hi).mix hg.mix (fun _ _ _ => rfl), A.mem.sep⟩, A.pre, A.own, A.mix.grow hg⟩ hd (by simpa using den_mono G x e1))⟩
  obtain ⟨i, e, L, q1, q2, q3, q4⟩ := mem_keys.1 hz
  have := A.mem.ent i e q1
  rw [q3] at this
  rw [← q4]; exact EntOK.lt this (mut_full q2)
theorem any_agg {β : Type} {e s m t f : Nat} {l : List SV} {F : β → Nat → List SV} {R : β → Nat → World → World → Prop} (ho : ops[i]? = some o) (hf : FnR P f [] [] (fun x w w' => ∃ (L : β) (b cp : Nat), x = .agg (l ++ [.sla (some ⟨b, 0, none⟩) m cp]) ∧ R L b w w' ∧ w.heap.size ≤ b ∧ Given e s m (F L) b cp w')) (A : Sy n T H ks G0 w0 G a w) (hd : o.dst = some t) (h1 : callS n ops T o = some (f, []))
    (k : ∀ L b cp a' w' G', R L b w w' → w.heap.size ≤ b → (∀ k, (keys (H ++ [some (.row e s m 0 (F L))]) G').contains k = true → k < w.heap.size ∨ k = b) → Sy n ((t, .agg (l ++ [.sl H.length m 0])) :: extS T o.dst (.agg (l ++ [.sla (some ⟨b, 0, none⟩) m cp]))) (H ++ [some (.row e s m 0 (F L))]) ks G0 w0 G' a' w' → wpAny P .any ops Q fuel (listed.setIfInBounds i true) a' w') : wpOp P ops Q i (wpAny P .any ops Q fuel (listed.setIfInBounds i true)) a w := by
  refine any_does ho (does_R hf A h1 fun x v w' hJ hk A' => ?_)
  obtain ⟨L, b, cp, rfl, hR, hlo, hg⟩ := hJ
  have hl : look (extS T o.dst (.agg (l ++ [.sla (some ⟨b, 0, none⟩) m cp]))) t = some (.agg (l ++ [.sla (some ⟨b, 0, none⟩) m cp])) := by rw [hd]; simp [extS, look, Nat.beq_refl]
  have hlen := A'.mem.len
  have A2 := A'.takeRowG t (y := .agg (l ++ [.sl H.length m 0])) hg (fun i e L q1 q2 q3 => by
    have := A.mem.ent i e q1
    rw [q2] at this
    have := EntOK.lt this q3
    omega) (Nat.le_trans A.mix.size hlo) hl (by
      unfold den
      rw [denL_last (y := .sla (some ⟨b, 0, none⟩) m cp)]
      unfold den
      rw [List.getElem?_append_right (by omega), hlen]
      simp [rm])
  refine k L b cp _ w' _ hR hlo (fun q hq => ?_) A2
  obtain ⟨i, e', L', q1, q2, q3, q4⟩ := mem_keys.1 hq
  by_cases hi : i < H.length
  · rw [List.getElem?_append_left hi] at q1
    rw [List.getElem?_append_left (by omega)] at q3
    exact .inl (hk q (mem_keys.2 ⟨i, e', L', q1, q2, q3, q4⟩))
  · have hi2 : i = H.length := by
      have := (List.getElem?_eq_some_iff.1 q1).1
      simp at this; omega
    subst hi2
    rw [List.getElem?_append_right (by omega), hlen] at q3
    simp at q3
    subst q3
    exact .inr q4.symm
end
end Go.Proofs.YtedlaclfhgneeabGreatDoor
namespace Go.Proofs.YtedlaclfhgneeabGreatDoor
open Go.RowKit
set_option linter.unusedVariables false
set_option linter.unusedSimpArgs false
set_option maxRecDepth 100000
set_option maxHeartbeats 2000000
set_option simprocs false
def armG : Lg := ⟨[88, 48], [88, 49], [88, 50], [88, 51], [88, 52], [88, 53], [88, 54], [88, 55], [66], [72], [87], [], [35], [], [], []⟩
def armC : List Rw := armT.map rwOf
theorem arm_pa {L : List Rw} {ws : List Tk} (hm : L.map tm = armT) : PaOK armG ws L := pa_ok hm (by decide +kernel) (by decide +kernel) (by decide +kernel) (fun k => by
  by_cases h : k < 4
  · have : k = 0 ∨ k = 1 ∨ k = 2 ∨ k = 3 := by omega
    rcases this with rfl | rfl | rfl | rfl <;> decide
  · rw [List.getD_eq_getElem?_getD, List.getElem?_eq_none (by simpa using h)]; decide)
theorem arm_par {L : List Rw} (h : L.map tm = armT) (ws : List Tk) : parI armG ws L = parI armG ws armC ∧ parT armG ws L = parT armG ws armC ∧ parE armG ws L = parE armG ws armC ∧ parA armG ws L = parA armG ws armC := by
  have := cn_par (g := armG) (ws := ws) (L := L)
  rw [cn_tm h] at this
  exact ⟨this.1.symm, this.2.1.symm, this.2.2.1.symm, this.2.2.2.symm⟩
theorem arm_pr {L : List Rw} {i : In} {lb : List UInt8} (h : L.map tm = armT) : prP armG L i lb = prP armG armC i lb := by
  have := cn_prP (g := armG) (L := L) (i := i) (lb := lb)
  rw [cn_tm h] at this
  exact this.symm
theorem arm_lg : LgL armG := by
  refine ⟨⟨fun r => ?_, by decide⟩, fun k => ?_, by decide, by decide, by decide⟩
  · unfold regnm0
    split
    · exact Nat.zero_le _
    · next h =>
      have : (r).toNat = 0 ∨ (r).toNat = 1 ∨ (r).toNat = 2 ∨ (r).toNat = 3 ∨ (r).toNat = 4 ∨ (r).toNat = 5 ∨ (r).toNat = 6 ∨ (r).toNat = 7 := by
        simp only [Bool.or_eq_true, decide_eq_true_eq] at h; omega
      rcases this with e | e | e | e | e | e | e | e <;> rw [e] <;> decide
  · by_cases h : k < 4
    · have : k = 0 ∨ k = 1 ∨ k = 2 ∨ k = 3 := by omega
      rcases this with rfl | rfl | rfl | rfl <;> decide
    · rw [List.getD_eq_getElem?_getD, List.getElem?_eq_none (by simpa using h)]; decide
theorem arm_prok {L : List Rw} {i : In} {lb : List UInt8} (hi : InR i) (hl : lb.length ≤ 100000) (hm : L.map tm = armT) : PrOK armG L i lb := pr_ok hm arm_lg (by decide +kernel) (by decide +kernel) hi hl
theorem aparse_ (ws : List Tk) (d : Nat) (hn : ws.length ≤ 1000000) (hw : WsOK ws) (os : List (Nat × Obj)) (hM : ∀ w ks, Gl os w ks → ∃ m, w.cell? ⟨0, 0, none⟩ = some (.int .i64 m)) : FnI (Gl os) Tryz.prog 10 [.sl 0 ws.length d] [some (wQ9 ws)] (Rt (.tup [.agg (inQ9 (parI armG ws armC)), .str (parT armG ws armC), .int .i64 (parE armG ws armC), .int .i64 (parA armG ws armC)]) [some (wQ9 ws)]) :=
 enterI (n := 13) (by kernel_rfl) Tryz.func10 rfl rfl rfl fun G w a h0 hI A => N hX 10 A rfl rfl fun A => CALLAGG (t := 6) (l := [.str [88, 48], .str [88, 49], .str [88, 50], .str [88, 51], .str [88, 52], .str [88, 53], .str [88, 54], .str [88, 55], .str [66], .str [72], .str [87], .str [], .str [35], .str [], .str [], .str []]) (F := fun (L : List Rw) zz => rwc (L.getD zz Rw.z)) (R := fun L b w w' => L.map tm = armT ∧ RowsIn w.heap.size L w' [b]) alang_ A rfl rfl fun L b cp a1 w1 G1 hR hlo hkk A => have hl20 : L.length = 31 := (by have q := congrArg List.length hR.1; rw [List.length_map] at q; exact q.trans (by decide +kernel)); have hRI := rows_keys hR.2 hkk; have B0 := A; have A := A.base; have A := A.rowAs 2 L.length (fun zz => rwc (L.getD zz Rw.z)) rfl hl20 (fun _ _ => rfl) (fun z => ⟨_, rfl, rfl⟩); have A := A.say 6 (.agg [.str [88, 48], .str [88, 49], .str [88, 50], .str [88, 51], .str [88, 52], .str [88, 53], .str [88, 54], .str [88, 55], .str [66], .str [72], .str [87], .str [], .str [35], .str [], .str [], .str [], .sl 2 L.length 0]) rfl (by rw [hl20] <;> rfl); have A := A.freeze 2 rfl; have hTb := RowsIn.ok.now A hRI; have B := B0.trans A; have A := A.base; have hI2 : PrI os L _ _ := ⟨fun r hr => (hTb r hr).1, Gl.ok.now B hI⟩; N hX 1 A rfl rfl fun A => CALLI [2, 0] PrI.ok hI2 (lparse_ armG L 0 ws d hn hw os hM (arm_pa hR.1)) A rfl rfl rfl rfl rfl rfl rfl fun A => N hX 11 A rfl rfl fun A => have e := arm_par hR.1 ws; RETN hX (B.trans A) rfl rfl rfl h0 rfl rfl rfl rfl (by rw [← e.1, ← e.2.1, ← e.2.2.1, ← e.2.2.2] <;> rfl) rfl
theorem aprint_ (i : In) (lb : List UInt8) (os : List (Nat × Obj)) (hM : ∀ w ks, Gl os w ks → ∃ m, w.cell? ⟨0, 0, none⟩ = some (.int .i64 m)) (hT : ∀ w ks, Gl os w ks → Lib.TabIs Tryz.prog w "internal/strconv.uint64pow10" .u64 Lib.pow10Tab) (hE : ∀ w ks, Gl os w ks → ∃ ev, w.cell? ⟨1, 0, none⟩ = some ev ∧ (ev = .nilIface ∨ ∃ te pe, ev = .iface te pe)) (hp : ∀ L : List Rw, L.map tm = armT → PrOK armG L i lb) : FnI (Gl os) Tryz.prog 12 [.agg (inQ9 i), .str lb] [] (Rt (.tup [.str ((prP armG armC i lb).1), .int .i64 ((prP armG armC i lb).2)]) []) :=
 enterI (n := 12) (by kernel_rfl) Tryz.func12 rfl rfl rfl fun G w a h0 hI A => N hX 8 A rfl rfl fun A => any_in 8 hmo rfl A fun A => any_at (rs := [0, 1, 2]) (by kernel_rfl) (by decide) (List.forall_mem_cons.2 ⟨any_agg (t := 6) (l := [.str [88, 48], .str [88, 49], .str [88, 50], .str [88, 51], .str [88, 52], .str [88, 53], .str [88, 54], .str [88, 55], .str [66], .str [72], .str [87], .str [], .str [35], .str [], .str [], .str []]) (F := fun (L : List Rw) zz => rwc (L.getD zz Rw.z)) (R := fun L b w w' => L.map tm = armT ∧ RowsIn w.heap.size L w' [b]) rfl alang_ A rfl rfl fun L b cp a1 w1 G1 hR hlo hkk A => have hl20 : L.length = 31 := (by have q := congrArg List.length hR.1; rw [List.length_map] at q; exact q.trans (by decide +kernel)); have hRI := rows_keys hR.2 hkk; have B0 := A; have A := A.base; have A := A.rowAs 1 L.length (fun zz => rwc (L.getD zz Rw.z)) rfl hl20 (fun _ _ => rfl) (fun z => ⟨_, rfl, rfl⟩); have A := A.say 6 (.agg [.str [88, 48], .str [88, 49], .str [88, 50], .str [88, 51], .str [88, 52], .str [88, 53], .str [88, 54], .str [88, 55], .str [66], .str [72], .str [87], .str [], .str [35], .str [], .str [], .str [], .sl 1 L.length 0]) rfl (by rw [hl20] <;> rfl); have A := A.freeze 1 rfl; have hTb := RowsIn.ok.now A hRI; have B := B0.trans A; have A := A.base; have hI2 : PrI os L _ _ := ⟨fun r hr => (hTb r hr).1, Gl.ok.now B hI⟩; any_at (rs := [1, 2]) (by kernel_rfl) (by decide) (List.forall_mem_cons.2 ⟨any_eff (x := .agg (inQ9 i)) (H' := [some (.blk (inQ9 i)), some (lQ9 L)]) rfl A rfl (eff_auto (X := ⟨_, true⟩) (out := .val _ _) hX rfl rfl) fun A => any_at (rs := [2]) (by kernel_rfl) (by decide) (List.forall_mem_cons.2 ⟨any_eff (x := .str lb) (H' := [some (.blk (inQ9 i)), some (lQ9 L)]) rfl A rfl (eff_auto (X := ⟨_, true⟩) (out := .val _ _) hX rfl rfl) fun A => any_at (rs := [3]) (by kernel_rfl) (by decide) (List.forall_mem_cons.2 ⟨any_eff (x := .tup [.str ((prP armG L i lb).1), .int .i64 ((prP armG L i lb).2)]) (H' := [some (.blk (inQ9 i)), some (lQ9 L)]) rfl A rfl (callIE [1] PrI.ok hI2 (lprint_ armG L 0 i lb os hM hT hE (hp L hR.1)) rfl rfl rfl rfl rfl rfl rfl) fun A => any_at (rs := [4, 5]) (by kernel_rfl) (by decide) (List.forall_mem_cons.2 ⟨any_eff (x := .str ((prP armG L i lb).1)) (H' := [some (.blk (inQ9 i)), some (lQ9 L)]) rfl A rfl (eff_auto (X := ⟨_, true⟩) (out := .val _ _) hX rfl rfl) fun A => any_at (rs := [5]) (by kernel_rfl) (by decide) (List.forall_mem_cons.2 ⟨any_eff (x := .int .i64 ((prP armG L i lb).2)) (H' := [some (.blk (inQ9 i)), some (lQ9 L)]) rfl A rfl (eff_auto (X := ⟨_, true⟩) (out := .val _ _) hX rfl rfl) fun A => any_at (rs := [6]) (by kernel_rfl) (by decide) (List.forall_mem_cons.2 ⟨any_eff (x := .str ((prP armG L i lb).1)) (H' := [some (.blk (inQ9 i)), some (lQ9 L)]) rfl A rfl (eff_auto (X := ⟨_, true⟩) (out := .val _ _) hX rfl rfl) fun A => any_at (rs := [7]) (by kernel_rfl) (by decide) (List.forall_mem_cons.2 ⟨any_eff (x := .int .i64 ((prP armG L i lb).2)) (H' := [some (.blk (inQ9 i)), some (lQ9 L)]) rfl A rfl (eff_auto (X := ⟨_, true⟩) (out := .val _ _) hX rfl rfl) fun A => any_end (by kernel_rfl) (N hX 2 A rfl rfl fun A => RETN hX (B.trans A) rfl rfl rfl h0 rfl rfl rfl rfl (by rw [← arm_pr hR.1] <;> rfl) rfl),
         (List.forall_mem_nil _)⟩),
        (List.forall_mem_nil _)⟩),
       (List.forall_mem_nil _)⟩),
      (List.forall_mem_cons.2 ⟨any_eff (x := .int .i64 ((prP armG L i lb).2)) (H' := [some (.blk (inQ9 i)), some (lQ9 L)]) rfl A rfl (eff_auto (X := ⟨_, true⟩) (out := .val _ _) hX rfl rfl) fun A => any_at (rs := [4]) (by kernel_rfl) (by decide) (List.forall_mem_cons.2 ⟨any_eff (x := .str ((prP armG L i lb).1)) (H' := [some (.blk (inQ9 i)), some (lQ9 L)]) rfl A rfl (eff_auto (X := ⟨_, true⟩) (out := .val _ _) hX rfl rfl) fun A => any_at (rs := [6]) (by kernel_rfl) (by decide) (List.forall_mem_cons.2 ⟨any_eff (x := .str ((prP armG L i lb).1)) (H' := [some (.blk (inQ9 i)), some (lQ9 L)]) rfl A rfl (eff_auto (X := ⟨_, true⟩) (out := .val _ _) hX rfl rfl) fun A => any_at (rs := [7]) (by kernel_rfl) (by decide) (List.forall_mem_cons.2 ⟨any_eff (x := .int .i64 ((prP armG L i lb).2)) (H' := [some (.blk (inQ9 i)), some (lQ9 L)]) rfl A rfl (eff_auto (X := ⟨_, true⟩) (out := .val _ _) hX rfl rfl) fun A => any_end (by kernel_rfl) (N hX 2 A rfl rfl fun A => RETN hX (B.trans A) rfl rfl rfl h0 rfl rfl rfl rfl (by rw [← arm_pr hR.1] <;> rfl) rfl),
         (List.forall_mem_nil _)⟩),
        (List.forall_mem_nil _)⟩),
       (List.forall_mem_nil _)⟩),
      (List.forall_mem_nil _)⟩)⟩),
     (List.forall_mem_nil _)⟩),
    (List.forall_mem_nil _)⟩),
   (List.forall_mem_cons.2 ⟨any_eff (x := .str lb) (H' := [some (.blk (inQ9 i)), some (lQ9 L)]) rfl A rfl (eff_auto (X := ⟨_, true⟩) (out := .val _ _) hX rfl rfl) fun A => any_at (rs := [1]) (by kernel_rfl) (by decide) (List.forall_mem_cons.2 ⟨any_eff (x := .agg (inQ9 i)) (H' := [some (.blk (inQ9 i)), some (lQ9 L)]) rfl A rfl (eff_auto (X := ⟨_, true⟩) (out := .val _ _) hX rfl rfl) fun A => any_at (rs := [3]) (by kernel_rfl) (by decide) (List.forall_mem_cons.2 ⟨any_eff (x := .tup [.str ((prP armG L i lb).1), .int .i64 ((prP armG L i lb).2)]) (H' := [some (.blk (inQ9 i)), some (lQ9 L)]) rfl A rfl (callIE [1] PrI.ok hI2 (lprint_ armG L 0 i lb os hM hT hE (hp L hR.1)) rfl rfl rfl rfl rfl rfl rfl) fun A => any_at (rs := [4, 5]) (by kernel_rfl) (by decide) (List.forall_mem_cons.2 ⟨any_eff (x := .str ((prP armG L i lb).1)) (H' := [some (.blk (inQ9 i)), some (lQ9 L)]) rfl A rfl (eff_auto (X := ⟨_, true⟩) (out := .val _ _) hX rfl rfl) fun A => any_at (rs := [5]) (by kernel_rfl) (by decide) (List.forall_mem_cons.2 ⟨any_eff (x := .int .i64 ((prP armG L i lb).2)) (H' := [some (.blk (inQ9 i)), some (lQ9 L)]) rfl A rfl (eff_auto (X := ⟨_, true⟩) (out := .val _ _) hX rfl rfl) fun A => any_at (rs := [6]) (by kernel_rfl) (by decide) (List.forall_mem_cons.2 ⟨any_eff (x := .str ((prP armG L i lb).1)) (H' := [some (.blk (inQ9 i)), some (lQ9 L)]) rfl A rfl (eff_auto (X := ⟨_, true⟩) (out := .val _ _) hX rfl rfl) fun A => any_at (rs := [7]) (by kernel_rfl) (by decide) (List.forall_mem_cons.2 ⟨any_eff (x := .int .i64 ((prP armG L i lb).2)) (H' := [some (.blk (inQ9 i)), some (lQ9 L)]) rfl A rfl (eff_auto (X := ⟨_, true⟩) (out := .val _ _) hX rfl rfl) fun A => any_end (by kernel_rfl) (N hX 2 A rfl rfl fun A => RETN hX (B.trans A) rfl rfl rfl h0 rfl rfl rfl rfl (by rw [← arm_pr hR.1] <;> rfl) rfl),
         (List.forall_mem_nil _)⟩),
        (List.forall_mem_nil _)⟩),
       (List.forall_mem_nil _)⟩),
      (List.forall_mem_cons.2 ⟨any_eff (x := .int .i64 ((prP armG L i lb).2)) (H' := [some (.blk (inQ9 i)), some (lQ9 L)]) rfl A rfl (eff_auto (X := ⟨_, true⟩) (out := .val _ _) hX rfl rfl) fun A => any_at (rs := [4]) (by kernel_rfl) (by decide) (List.forall_mem_cons.2 ⟨any_eff (x := .str ((prP armG L i lb).1)) (H' := [some (.blk (inQ9 i)), some (lQ9 L)]) rfl A rfl (eff_auto (X := ⟨_, true⟩) (out := .val _ _) hX rfl rfl) fun A => any_at (rs := [6]) (by kernel_rfl) (by decide) (List.forall_mem_cons.2 ⟨any_eff (x := .str ((prP armG L i lb).1)) (H' := [some (.blk (inQ9 i)), some (lQ9 L)]) rfl A rfl (eff_auto (X := ⟨_, true⟩) (out := .val _ _) hX rfl rfl) fun A => any_at (rs := [7]) (by kernel_rfl) (by decide) (List.forall_mem_cons.2 ⟨any_eff (x := .int .i64 ((prP armG L i lb).2)) (H' := [some (.blk (inQ9 i)), some (lQ9 L)]) rfl A rfl (eff_auto (X := ⟨_, true⟩) (out := .val _ _) hX rfl rfl) fun A => any_end (by kernel_rfl) (N hX 2 A rfl rfl fun A => RETN hX (B.trans A) rfl rfl rfl h0 rfl rfl rfl rfl (by rw [← arm_pr hR.1] <;> rfl) rfl),
         (List.forall_mem_nil _)⟩),
        (List.forall_mem_nil _)⟩),
       (List.forall_mem_nil _)⟩),
      (List.forall_mem_nil _)⟩)⟩),
     (List.forall_mem_nil _)⟩),
    (List.forall_mem_nil _)⟩),
   (List.forall_mem_nil _)⟩)⟩),
  (List.forall_mem_cons.2 ⟨any_eff (x := .agg (inQ9 i)) (H' := [some (.blk (inQ9 i))]) rfl A rfl (eff_auto (X := ⟨_, true⟩) (out := .val _ _) hX rfl rfl) fun A => any_at (rs := [0, 2]) (by kernel_rfl) (by decide) (List.forall_mem_cons.2 ⟨any_agg (t := 6) (l := [.str [88, 48], .str [88, 49], .str [88, 50], .str [88, 51], .str [88, 52], .str [88, 53], .str [88, 54], .str [88, 55], .str [66], .str [72], .str [87], .str [], .str [35], .str [], .str [], .str []]) (F := fun (L : List Rw) zz => rwc (L.getD zz Rw.z)) (R := fun L b w w' => L.map tm = armT ∧ RowsIn w.heap.size L w' [b]) rfl alang_ A rfl rfl fun L b cp a1 w1 G1 hR hlo hkk A => have hl20 : L.length = 31 := (by have q := congrArg List.length hR.1; rw [List.length_map] at q; exact q.trans (by decide +kernel)); have hRI := rows_keys hR.2 hkk; have B0 := A; have A := A.base; have A := A.rowAs 1 L.length (fun zz => rwc (L.getD zz Rw.z)) rfl hl20 (fun _ _ => rfl) (fun z => ⟨_, rfl, rfl⟩); have A := A.say 6 (.agg [.str [88, 48], .str [88, 49], .str [88, 50], .str [88, 51], .str [88, 52], .str [88, 53], .str [88, 54], .str [88, 55], .str [66], .str [72], .str [87], .str [], .str [35], .str [], .str [], .str [], .sl 1 L.length 0]) rfl (by rw [hl20] <;> rfl); have A := A.freeze 1 rfl; have hTb := RowsIn.ok.now A hRI; have B := B0.trans A; have A := A.base; have hI2 : PrI os L _ _ := ⟨fun r hr => (hTb r hr).1, Gl.ok.now B hI⟩; any_at (rs := [2]) (by kernel_rfl) (by decide) (List.forall_mem_cons.2 ⟨any_eff (x := .str lb) (H' := [some (.blk (inQ9 i)), some (lQ9 L)]) rfl A rfl (eff_auto (X := ⟨_, true⟩) (out := .val _ _) hX rfl rfl) fun A => any_at (rs := [3]) (by kernel_rfl) (by decide) (List.forall_mem_cons.2 ⟨any_eff (x := .tup [.str ((prP armG L i lb).1), .int .i64 ((prP armG L i lb).2)]) (H' := [some (.blk (inQ9 i)), some (lQ9 L)]) rfl A rfl (callIE [1] PrI.ok hI2 (lprint_ armG L 0 i lb os hM hT hE (hp L hR.1)) rfl rfl rfl rfl rfl rfl rfl) fun A => any_at (rs := [4, 5]) (by kernel_rfl) (by decide) (List.forall_mem_cons.2 ⟨any_eff (x := .str ((prP armG L i lb).1)) (H' := [some (.blk (inQ9 i)), some (lQ9 L)]) rfl A rfl (eff_auto (X := ⟨_, true⟩) (out := .val _ _) hX rfl rfl) fun A => any_at (rs := [5]) (by kernel_rfl) (by decide) (List.forall_mem_cons.2 ⟨any_eff (x := .int .i64 ((prP armG L i lb).2)) (H' := [some (.blk (inQ9 i)), some (lQ9 L)]) rfl A rfl (eff_auto (X := ⟨_, true⟩) (out := .val _ _) hX rfl rfl) fun A => any_at (rs := [6]) (by kernel_rfl) (by decide) (List.forall_mem_cons.2 ⟨any_eff (x := .str ((prP armG L i lb).1)) (H' := [some (.blk (inQ9 i)), some (lQ9 L)]) rfl A rfl (eff_auto (X := ⟨_, true⟩) (out := .val _ _) hX rfl rfl) fun A => any_at (rs := [7]) (by kernel_rfl) (by decide) (List.forall_mem_cons.2 ⟨any_eff (x := .int .i64 ((prP armG L i lb).2)) (H' := [some (.blk (inQ9 i)), some (lQ9 L)]) rfl A rfl (eff_auto (X := ⟨_, true⟩) (out := .val _ _) hX rfl rfl) fun A => any_end (by kernel_rfl) (N hX 2 A rfl rfl fun A => RETN hX (B.trans A) rfl rfl rfl h0 rfl rfl rfl rfl (by rw [← arm_pr hR.1] <;> rfl) rfl),
         (List.forall_mem_nil _)⟩),
        (List.forall_mem_nil _)⟩),
       (List.forall_mem_nil _)⟩),
      (List.forall_mem_cons.2 ⟨any_eff (x := .int .i64 ((prP armG L i lb).2)) (H' := [some (.blk (inQ9 i)), some (lQ9 L)]) rfl A rfl (eff_auto (X := ⟨_, true⟩) (out := .val _ _) hX rfl rfl) fun A => any_at (rs := [4]) (by kernel_rfl) (by decide) (List.forall_mem_cons.2 ⟨any_eff (x := .str ((prP armG L i lb).1)) (H' := [some (.blk (inQ9 i)), some (lQ9 L)]) rfl A rfl (eff_auto (X := ⟨_, true⟩) (out := .val _ _) hX rfl rfl) fun A => any_at (rs := [6]) (by kernel_rfl) (by decide) (List.forall_mem_cons.2 ⟨any_eff (x := .str ((prP armG L i lb).1)) (H' := [some (.blk (inQ9 i)), some (lQ9 L)]) rfl A rfl (eff_auto (X := ⟨_, true⟩) (out := .val _ _) hX rfl rfl) fun A => any_at (rs := [7]) (by kernel_rfl) (by decide) (List.forall_mem_cons.2 ⟨any_eff (x := .int .i64 ((prP armG L i lb).2)) (H' := [some (.blk (inQ9 i)), some (lQ9 L)]) rfl A rfl (eff_auto (X := ⟨_, true⟩) (out := .val _ _) hX rfl rfl) fun A => any_end (by kernel_rfl) (N hX 2 A rfl rfl fun A => RETN hX (B.trans A) rfl rfl rfl h0 rfl rfl rfl rfl (by rw [← arm_pr hR.1] <;> rfl) rfl),
         (List.forall_mem_nil _)⟩),
        (List.forall_mem_nil _)⟩),
       (List.forall_mem_nil _)⟩),
      (List.forall_mem_nil _)⟩)⟩),
     (List.forall_mem_nil _)⟩),
    (List.forall_mem_nil _)⟩),
   (List.forall_mem_cons.2 ⟨any_eff (x := .str lb) (H' := [some (.blk (inQ9 i))]) rfl A rfl (eff_auto (X := ⟨_, true⟩) (out := .val _ _) hX rfl rfl) fun A => any_at (rs := [0]) (by kernel_rfl) (by decide) (List.forall_mem_cons.2 ⟨any_agg (t := 6) (l := [.str [88, 48], .str [88, 49], .str [88, 50], .str [88, 51], .str [88, 52], .str [88, 53], .str [88, 54], .str [88, 55], .str [66], .str [72], .str [87], .str [], .str [35], .str [], .str [], .str []]) (F := fun (L : List Rw) zz => rwc (L.getD zz Rw.z)) (R := fun L b w w' => L.map tm = armT ∧ RowsIn w.heap.size L w' [b]) rfl alang_ A rfl rfl fun L b cp a1 w1 G1 hR hlo hkk A => have hl20 : L.length = 31 := (by have q := congrArg List.length hR.1; rw [List.length_map] at q; exact q.trans (by decide +kernel)); have hRI := rows_keys hR.2 hkk; have B0 := A; have A := A.base; have A := A.rowAs 1 L.length (fun zz => rwc (L.getD zz Rw.z)) rfl hl20 (fun _ _ => rfl) (fun z => ⟨_, rfl, rfl⟩); have A := A.say 6 (.agg [.str [88, 48], .str [88, 49], .str [88, 50], .str [88, 51], .str [88, 52], .str [88, 53], .str [88, 54], .str [88, 55], .str [66], .str [72], .str [87], .str [], .str [35], .str [], .str [], .str [], .sl 1 L.length 0]) rfl (by rw [hl20] <;> rfl); have A := A.freeze 1 rfl; have hTb := RowsIn.ok.now A hRI; have B := B0.trans A; have A := A.base; have hI2 : PrI os L _ _ := ⟨fun r hr => (hTb r hr).1, Gl.ok.now B hI⟩; any_at (rs := [3]) (by kernel_rfl) (by decide) (List.forall_mem_cons.2 ⟨any_eff (x := .tup [.str ((prP armG L i lb).1), .int .i64 ((prP armG L i lb).2)]) (H' := [some (.blk (inQ9 i)), some (lQ9 L)]) rfl A rfl (callIE [1] PrI.ok hI2 (lprint_ armG L 0 i lb os hM hT hE (hp L hR.1)) rfl rfl rfl rfl rfl rfl rfl) fun A => any_at (rs := [4, 5]) (by kernel_rfl) (by decide) (List.forall_mem_cons.2 ⟨any_eff (x := .str ((prP armG L i lb).1)) (H' := [some (.blk (inQ9 i)), some (lQ9 L)]) rfl A rfl (eff_auto (X := ⟨_, true⟩) (out := .val _ _) hX rfl rfl) fun A => any_at (rs := [5]) (by kernel_rfl) (by decide) (List.forall_mem_cons.2 ⟨any_eff (x := .int .i64 ((prP armG L i lb).2)) (H' := [some (.blk (inQ9 i)), some (lQ9 L)]) rfl A rfl (eff_auto (X := ⟨_, true⟩) (out := .val _ _) hX rfl rfl) fun A => any_at (rs := [6]) (by kernel_rfl) (by decide) (List.forall_mem_cons.2 ⟨any_eff (x := .str ((prP armG L i lb).1)) (H' := [some (.blk (inQ9 i)), some (lQ9 L)]) rfl A rfl (eff_auto (X := ⟨_, true⟩) (out := .val _ _) hX rfl rfl) fun A => any_at (rs := [7]) (by kernel_rfl) (by decide) (List.forall_mem_cons.2 ⟨any_eff (x := .int .i64 ((prP armG L i lb).2)) (H' := [some (.blk (inQ9 i)), some (lQ9 L)]) rfl A rfl (eff_auto (X := ⟨_, true⟩) (out := .val _ _) hX rfl rfl) fun A => any_end (by kernel_rfl) (N hX 2 A rfl rfl fun A => RETN hX (B.trans A) rfl rfl rfl h0 rfl rfl rfl rfl (by rw [← arm_pr hR.1] <;> rfl) rfl),
         (List.forall_mem_nil _)⟩),
        (List.forall_mem_nil _)⟩),
       (List.forall_mem_nil _)⟩),
      (List.forall_mem_cons.2 ⟨any_eff (x := .int .i64 ((prP armG L i lb).2)) (H' := [some (.blk (inQ9 i)), some (lQ9 L)]) rfl A rfl (eff_auto (X := ⟨_, true⟩) (out := .val _ _) hX rfl rfl) fun A => any_at (rs := [4]) (by kernel_rfl) (by decide) (List.forall_mem_cons.2 ⟨any_eff (x := .str ((prP armG L i lb).1)) (H' := [some (.blk (inQ9 i)), some (lQ9 L)]) rfl A rfl (eff_auto (X := ⟨_, true⟩) (out := .val _ _) hX rfl rfl) fun A => any_at (rs := [6]) (by kernel_rfl) (by decide) (List.forall_mem_cons.2 ⟨any_eff (x := .str ((prP armG L i lb).1)) (H' := [some (.blk (inQ9 i)), some (lQ9 L)]) rfl A rfl (eff_auto (X := ⟨_, true⟩) (out := .val _ _) hX rfl rfl) fun A => any_at (rs := [7]) (by kernel_rfl) (by decide) (List.forall_mem_cons.2 ⟨any_eff (x := .int .i64 ((prP armG L i lb).2)) (H' := [some (.blk (inQ9 i)), some (lQ9 L)]) rfl A rfl (eff_auto (X := ⟨_, true⟩) (out := .val _ _) hX rfl rfl) fun A => any_end (by kernel_rfl) (N hX 2 A rfl rfl fun A => RETN hX (B.trans A) rfl rfl rfl h0 rfl rfl rfl rfl (by rw [← arm_pr hR.1] <;> rfl) rfl),
         (List.forall_mem_nil _)⟩),
        (List.forall_mem_nil _)⟩),
       (List.forall_mem_nil _)⟩),
      (List.forall_mem_nil _)⟩)⟩),
     (List.forall_mem_nil _)⟩),
    (List.forall_mem_nil _)⟩),
   (List.forall_mem_nil _)⟩)⟩),
  (List.forall_mem_cons.2 ⟨any_eff (x := .str lb) (H' := [some (.blk (inQ9 i))]) rfl A rfl (eff_auto (X := ⟨_, true⟩) (out := .val _ _) hX rfl rfl) fun A => any_at (rs := [0, 1]) (by kernel_rfl) (by decide) (List.forall_mem_cons.2 ⟨any_agg (t := 6) (l := [.str [88, 48], .str [88, 49], .str [88, 50], .str [88, 51], .str [88, 52], .str [88, 53], .str [88, 54], .str [88, 55], .str [66], .str [72], .str [87], .str [], .str [35], .str [], .str [], .str []]) (F := fun (L : List Rw) zz => rwc (L.getD zz Rw.z)) (R := fun L b w w' => L.map tm = armT ∧ RowsIn w.heap.size L w' [b]) rfl alang_ A rfl rfl fun L b cp a1 w1 G1 hR hlo hkk A => have hl20 : L.length = 31 := (by have q := congrArg List.length hR.1; rw [List.length_map] at q; exact q.trans (by decide +kernel)); have hRI := rows_keys hR.2 hkk; have B0 := A; have A := A.base; have A := A.rowAs 1 L.length (fun zz => rwc (L.getD zz Rw.z)) rfl hl20 (fun _ _ => rfl) (fun z => ⟨_, rfl, rfl⟩); have A := A.say 6 (.agg [.str [88, 48], .str [88, 49], .str [88, 50], .str [88, 51], .str [88, 52], .str [88, 53], .str [88, 54], .str [88, 55], .str [66], .str [72], .str [87], .str [], .str [35], .str [], .str [], .str [], .sl 1 L.length 0]) rfl (by rw [hl20] <;> rfl); have A := A.freeze 1 rfl; have hTb := RowsIn.ok.now A hRI; have B := B0.trans A; have A := A.base; have hI2 : PrI os L _ _ := ⟨fun r hr => (hTb r hr).1, Gl.ok.now B hI⟩; any_at (rs := [1]) (by kernel_rfl) (by decide) (List.forall_mem_cons.2 ⟨any_eff (x := .agg (inQ9 i)) (H' := [some (.blk (inQ9 i)), some (lQ9 L)]) rfl A rfl (eff_auto (X := ⟨_, true⟩) (out := .val _ _) hX rfl rfl) fun A => any_at (rs := [3]) (by kernel_rfl) (by decide) (List.forall_mem_cons.2 ⟨any_eff (x := .tup [.str ((prP armG L i lb).1), .int .i64 ((prP armG L i lb).2)]) (H' := [some (.blk (inQ9 i)), some (lQ9 L)]) rfl A rfl (callIE [1] PrI.ok hI2 (lprint_ armG L 0 i lb os hM hT hE (hp L hR.1)) rfl rfl rfl rfl rfl rfl rfl) fun A => any_at (rs := [4, 5]) (by kernel_rfl) (by decide) (List.forall_mem_cons.2 ⟨any_eff (x := .str ((prP armG L i lb).1)) (H' := [some (.blk (inQ9 i)), some (lQ9 L)]) rfl A rfl (eff_auto (X := ⟨_, true⟩) (out := .val _ _) hX rfl rfl) fun A => any_at (rs := [5]) (by kernel_rfl) (by decide) (List.forall_mem_cons.2 ⟨any_eff (x := .int .i64 ((prP armG L i lb).2)) (H' := [some (.blk (inQ9 i)), some (lQ9 L)]) rfl A rfl (eff_auto (X := ⟨_, true⟩) (out := .val _ _) hX rfl rfl) fun A => any_at (rs := [6]) (by kernel_rfl) (by decide) (List.forall_mem_cons.2 ⟨any_eff (x := .str ((prP armG L i lb).1)) (H' := [some (.blk (inQ9 i)), some (lQ9 L)]) rfl A rfl (eff_auto (X := ⟨_, true⟩) (out := .val _ _) hX rfl rfl) fun A => any_at (rs := [7]) (by kernel_rfl) (by decide) (List.forall_mem_cons.2 ⟨any_eff (x := .int .i64 ((prP armG L i lb).2)) (H' := [some (.blk (inQ9 i)), some (lQ9 L)]) rfl A rfl (eff_auto (X := ⟨_, true⟩) (out := .val _ _) hX rfl rfl) fun A => any_end (by kernel_rfl) (N hX 2 A rfl rfl fun A => RETN hX (B.trans A) rfl rfl rfl h0 rfl rfl rfl rfl (by rw [← arm_pr hR.1] <;> rfl) rfl),
         (List.forall_mem_nil _)⟩),
        (List.forall_mem_nil _)⟩),
       (List.forall_mem_nil _)⟩),
      (List.forall_mem_cons.2 ⟨any_eff (x := .int .i64 ((prP armG L i lb).2)) (H' := [some (.blk (inQ9 i)), some (lQ9 L)]) rfl A rfl (eff_auto (X := ⟨_, true⟩) (out := .val _ _) hX rfl rfl) fun A => any_at (rs := [4]) (by kernel_rfl) (by decide) (List.forall_mem_cons.2 ⟨any_eff (x := .str ((prP armG L i lb).1)) (H' := [some (.blk (inQ9 i)), some (lQ9 L)]) rfl A rfl (eff_auto (X := ⟨_, true⟩) (out := .val _ _) hX rfl rfl) fun A => any_at (rs := [6]) (by kernel_rfl) (by decide) (List.forall_mem_cons.2 ⟨any_eff (x := .str ((prP armG L i lb).1)) (H' := [some (.blk (inQ9 i)), some (lQ9 L)]) rfl A rfl (eff_auto (X := ⟨_, true⟩) (out := .val _ _) hX rfl rfl) fun A => any_at (rs := [7]) (by kernel_rfl) (by decide) (List.forall_mem_cons.2 ⟨any_eff (x := .int .i64 ((prP armG L i lb).2)) (H' := [some (.blk (inQ9 i)), some (lQ9 L)]) rfl A rfl (eff_auto (X := ⟨_, true⟩) (out := .val _ _) hX rfl rfl) fun A => any_end (by kernel_rfl) (N hX 2 A rfl rfl fun A => RETN hX (B.trans A) rfl rfl rfl h0 rfl rfl rfl rfl (by rw [← arm_pr hR.1] <;> rfl) rfl),
         (List.forall_mem_nil _)⟩),
        (List.forall_mem_nil _)⟩),
       (List.forall_mem_nil _)⟩),
      (List.forall_mem_nil _)⟩)⟩),
     (List.forall_mem_nil _)⟩),
    (List.forall_mem_nil _)⟩),
   (List.forall_mem_cons.2 ⟨any_eff (x := .agg (inQ9 i)) (H' := [some (.blk (inQ9 i))]) rfl A rfl (eff_auto (X := ⟨_, true⟩) (out := .val _ _) hX rfl rfl) fun A => any_at (rs := [0]) (by kernel_rfl) (by decide) (List.forall_mem_cons.2 ⟨any_agg (t := 6) (l := [.str [88, 48], .str [88, 49], .str [88, 50], .str [88, 51], .str [88, 52], .str [88, 53], .str [88, 54], .str [88, 55], .str [66], .str [72], .str [87], .str [], .str [35], .str [], .str [], .str []]) (F := fun (L : List Rw) zz => rwc (L.getD zz Rw.z)) (R := fun L b w w' => L.map tm = armT ∧ RowsIn w.heap.size L w' [b]) rfl alang_ A rfl rfl fun L b cp a1 w1 G1 hR hlo hkk A => have hl20 : L.length = 31 := (by have q := congrArg List.length hR.1; rw [List.length_map] at q; exact q.trans (by decide +kernel)); have hRI := rows_keys hR.2 hkk; have B0 := A; have A := A.base; have A := A.rowAs 1 L.length (fun zz => rwc (L.getD zz Rw.z)) rfl hl20 (fun _ _ => rfl) (fun z => ⟨_, rfl, rfl⟩); have A := A.say 6 (.agg [.str [88, 48], .str [88, 49], .str [88, 50], .str [88, 51], .str [88, 52], .str [88, 53], .str [88, 54], .str [88, 55], .str [66], .str [72], .str [87], .str [], .str [35], .str [], .str [], .str [], .sl 1 L.length 0]) rfl (by rw [hl20] <;> rfl); have A := A.freeze 1 rfl; have hTb := RowsIn.ok.now A hRI; have B := B0.trans A; have A := A.base; have hI2 : PrI os L _ _ := ⟨fun r hr => (hTb r hr).1, Gl.ok.now B hI⟩; any_at (rs := [3]) (by kernel_rfl) (by decide) (List.forall_mem_cons.2 ⟨any_eff (x := .tup [.str ((prP armG L i lb).1), .int .i64 ((prP armG L i lb).2)]) (H' := [some (.blk (inQ9 i)), some (lQ9 L)]) rfl A rfl (callIE [1] PrI.ok hI2 (lprint_ armG L 0 i lb os hM hT hE (hp L hR.1)) rfl rfl rfl rfl rfl rfl rfl) fun A => any_at (rs := [4, 5]) (by kernel_rfl) (by decide) (List.forall_mem_cons.2 ⟨any_eff (x := .str ((prP armG L i lb).1)) (H' := [some (.blk (inQ9 i)), some (lQ9 L)]) rfl A rfl (eff_auto (X := ⟨_, true⟩) (out := .val _ _) hX rfl rfl) fun A => any_at (rs := [5]) (by kernel_rfl) (by decide) (List.forall_mem_cons.2 ⟨any_eff (x := .int .i64 ((prP armG L i lb).2)) (H' := [some (.blk (inQ9 i)), some (lQ9 L)]) rfl A rfl (eff_auto (X := ⟨_, true⟩) (out := .val _ _) hX rfl rfl) fun A => any_at (rs := [6]) (by kernel_rfl) (by decide) (List.forall_mem_cons.2 ⟨any_eff (x := .str ((prP armG L i lb).1)) (H' := [some (.blk (inQ9 i)), some (lQ9 L)]) rfl A rfl (eff_auto (X := ⟨_, true⟩) (out := .val _ _) hX rfl rfl) fun A => any_at (rs := [7]) (by kernel_rfl) (by decide) (List.forall_mem_cons.2 ⟨any_eff (x := .int .i64 ((prP armG L i lb).2)) (H' := [some (.blk (inQ9 i)), some (lQ9 L)]) rfl A rfl (eff_auto (X := ⟨_, true⟩) (out := .val _ _) hX rfl rfl) fun A => any_end (by kernel_rfl) (N hX 2 A rfl rfl fun A => RETN hX (B.trans A) rfl rfl rfl h0 rfl rfl rfl rfl (by rw [← arm_pr hR.1] <;> rfl) rfl),
         (List.forall_mem_nil _)⟩),
        (List.forall_mem_nil _)⟩),
       (List.forall_mem_nil _)⟩),
      (List.forall_mem_cons.2 ⟨any_eff (x := .int .i64 ((prP armG L i lb).2)) (H' := [some (.blk (inQ9 i)), some (lQ9 L)]) rfl A rfl (eff_auto (X := ⟨_, true⟩) (out := .val _ _) hX rfl rfl) fun A => any_at (rs := [4]) (by kernel_rfl) (by decide) (List.forall_mem_cons.2 ⟨any_eff (x := .str ((prP armG L i lb).1)) (H' := [some (.blk (inQ9 i)), some (lQ9 L)]) rfl A rfl (eff_auto (X := ⟨_, true⟩) (out := .val _ _) hX rfl rfl) fun A => any_at (rs := [6]) (by kernel_rfl) (by decide) (List.forall_mem_cons.2 ⟨any_eff (x := .str ((prP armG L i lb).1)) (H' := [some (.blk (inQ9 i)), some (lQ9 L)]) rfl A rfl (eff_auto (X := ⟨_, true⟩) (out := .val _ _) hX rfl rfl) fun A => any_at (rs := [7]) (by kernel_rfl) (by decide) (List.forall_mem_cons.2 ⟨any_eff (x := .int .i64 ((prP armG L i lb).2)) (H' := [some (.blk (inQ9 i)), some (lQ9 L)]) rfl A rfl (eff_auto (X := ⟨_, true⟩) (out := .val _ _) hX rfl rfl) fun A => any_end (by kernel_rfl) (N hX 2 A rfl rfl fun A => RETN hX (B.trans A) rfl rfl rfl h0 rfl rfl rfl rfl (by rw [← arm_pr hR.1] <;> rfl) rfl),
         (List.forall_mem_nil _)⟩),
        (List.forall_mem_nil _)⟩),
       (List.forall_mem_nil _)⟩),
      (List.forall_mem_nil _)⟩)⟩),
     (List.forall_mem_nil _)⟩),
    (List.forall_mem_nil _)⟩),
   (List.forall_mem_nil _)⟩)⟩),
  (List.forall_mem_nil _)⟩)⟩)⟩)
end Go.Proofs.YtedlaclfhgneeabGreatDoor
namespace Go.Proofs.YtedlaclfhgneeabGreatDoor
open Go.RowKit
set_option linter.unusedVariables false
set_option linter.unusedSimpArgs false
def amO : Old.Lg := ⟨[88, 48], [88, 49], [88, 50], [88, 51], [88, 52], [88, 53], [88, 54], [88, 55], [66], [72], [87], [], [35], [], [], [], Old.nilV, armC.map toR⟩
theorem reg_v (r : Int) : regnm0 armG.r0 armG.r1 armG.r2 armG.r3 armG.r4 armG.r5 armG.r6 armG.r7 r = Old.nameL amO r := by
  unfold regnm0 Old.nameL
  by_cases h : r < 0 ∨ r > 7
  · rw [if_pos h, if_pos (by simp only [Bool.or_eq_true, decide_eq_true_eq]; omega)]
  · rw [if_neg h, if_neg (by simp only [Bool.or_eq_true, decide_eq_true_eq]; omega), List.getD_eq_getElem?_getD]; rfl
theorem mem_v (i : In) : memT armG i = Old.memL amO (toO i) i.loc.toNat := by
  unfold memT memB memA Old.memL
  rw [reg_v, loc_o]
  by_cases h1 : i.ix = -1 <;> by_cases h2 : i.off = 0 <;> simp [h1, h2, toO]
theorem opd_v (r : Rw) (p : Int) (i : In) (lb : List UInt8) (hp : p ≠ 10) : opdT armG r p i lb = Old.opndR amO p (toO i) lb := by
  unfold opdT Old.opndR
  rw [reg_v, mem_v, regp_o, if_neg hp]
  simp only [beq_iff_eq, List.getD_eq_getElem?_getD]
  rfl
theorem name_v (r : Rw) (n : Int) : nameR armG r.nm n = Old.nameR amO (toR r) n := by
  unfold nameR Old.nameR szK Old.letF
  by_cases h1 : n = 1
  · simp [h1]; rfl
  by_cases h2 : n = 2
  · simp [h2]; rfl
  by_cases h4 : n = 4
  · simp [h4]; rfl
  by_cases h8 : n = 8
  · simp [h8]; rfl
  simp [h1, h2, h4, h8]; rfl
theorem no10a : ∀ r ∈ armC, r.ins.op ≠ 7 → ∀ p ∈ r.ps, p ≠ 10 := by decide +kernel
theorem prO_v (i : In) (lb : List UInt8) (h7 : i.op ≠ 7) : prP armG armC i lb = Old.prL amO (toO i) lb := by
  have hf : Old.rowF amO (toO i) = (armC.find? (rowP i)).map toR := by
    exact find_o i armC
  unfold prP Old.prL
  rw [wrong_o, hf, one_o]
  cases hw : Old.wrongB (toO i)
  · rw [if_neg Bool.false_ne_true, if_neg Bool.false_ne_true]
    unfold rowQ rowR
    cases hr : armC.find? (rowP i) with
    | none => rfl
    | some r =>
      have hm := List.mem_of_find?_eq_some hr
      have hop : r.ins.op = i.op := (Old.fitr_keeps ((rowp_o i r).symm.trans (List.find?_some hr))).1
      have ho : opsT armG r i lb = (toR r).parts.map (fun p => Old.opndR amO p (toO i) lb) := by
        unfold opsT
        exact List.map_congr_left fun p hp => opd_v r p i lb (no10a r hm (by rw [hop]; exact h7) p hp)
      simp only [Option.isSome_some, Option.map_some, Option.getD_some, ho, name_v]
      have e9 : (toO i).op = i.op := rfl
      have es : (toO i).size = i.sz := rfl
      have el : (toR r).parts = r.ps := rfl
      rw [e9, es, el]
      by_cases h9 : i.op = 9
      · cases hn : Old.isNm lb
        · simp [h9]
        · by_cases hl : r.ps = [] <;> simp [h9, hl]
      · by_cases hl : r.ps = [] <;> simp [h9, hl]
  · rw [if_pos rfl, if_pos rfl]
end Go.Proofs.YtedlaclfhgneeabGreatDoor
namespace Go.Proofs.YtedlaclfhgneeabGreatDoor.Old
set_option linter.unusedSimpArgs false
open Go.RowKit
def txtW (i : Ins) (lb : List UInt8) : List UInt8 := ktxt0 (frO i) lb
def prW (i : Ins) (lb : List UInt8) : List UInt8 × Int := if wrongB i = true then ([], 34) else if eqL (txtW i lb) [] = true then ([], 36) else if (i.op == 9) = true then (if isNm lb = true then (txtW i lb, 0) else ([], 37)) else (txtW i lb, 0)
theorem find_op (i : Ins) : ∀ l : List Rw, l.find? (fitsR i) = (l.filter fun r => r.ins.op == i.op).find? (fitsR i)
  | [] => rfl
  | r :: l => by
    rw [List.find?_cons, List.filter_cons]
    cases hf : fitsR i r
    · simp only
      rw [find_op i l]
      split
      · rw [List.find?_cons, hf]
      · rfl
    · have := (fitr_keeps hf).1
      rw [if_pos (by simp [this]), List.find?_cons, hf]
theorem rows_1 : (amO.rows.filter fun r => r.ins.op == 1) = [(⟨[77, 79, 86], ⟨1, 0, 0, 0, 0, 0, 0, 0, 0, 0, false, false, false, 0, 0, 0, false⟩, nilV, [1, 5]⟩ : Rw)] := by kernel_rfl
theorem fnd_1 {i : Ins} (ho : i.op = 1) : rowF amO i = List.find? (fitsR i) [(⟨[77, 79, 86], ⟨1, 0, 0, 0, 0, 0, 0, 0, 0, 0, false, false, false, 0, 0, 0, false⟩, nilV, [1, 5]⟩ : Rw)] := by
  unfold rowF; rw [find_op, ho, rows_1]
theorem rows_2 : (amO.rows.filter fun r => r.ins.op == 2) = [(⟨[77, 79, 86], ⟨2, 0, 0, 0, 0, 0, 0, 0, 0, 0, false, false, false, 0, 0, 0, false⟩, nilV, [1, 2]⟩ : Rw)] := by kernel_rfl
theorem fnd_2 {i : Ins} (ho : i.op = 2) : rowF amO i = List.find? (fitsR i) [(⟨[77, 79, 86], ⟨2, 0, 0, 0, 0, 0, 0, 0, 0, 0, false, false, false, 0, 0, 0, false⟩, nilV, [1, 2]⟩ : Rw)] := by
  unfold rowF; rw [find_op, ho, rows_2]
theorem rows_3 : (amO.rows.filter fun r => r.ins.op == 3) = [(⟨[65, 68, 68], ⟨3, 0, 0, 0, 0, 0, 0, 0, 0, 1, false, false, false, 0, 0, 0, false⟩, nilV, [1, 2, 3]⟩ : Rw), (⟨[65, 68, 68], ⟨3, 0, 0, 0, 0, 0, 0, 0, 0, 1, false, false, false, 0, 0, 0, false⟩, nilV, [1, 2, 5]⟩ : Rw), (⟨[83, 85, 66], ⟨3, 0, 0, 0, 0, 0, 0, 0, 0, 2, false, false, false, 0, 0, 0, false⟩, nilV, [1, 2, 3]⟩ : Rw), (⟨[83, 85, 66], ⟨3, 0, 0, 0, 0, 0, 0, 0, 0, 2, false, false, false, 0, 0, 0, false⟩, nilV, [1, 2, 5]⟩ : Rw), (⟨[69, 79, 82], ⟨3, 0, 0, 0, 0, 0, 0, 0, 0, 3, false, false, false, 0, 0, 0, false⟩, nilV, [1, 2, 3]⟩ : Rw), (⟨[69, 79, 82], ⟨3, 0, 0, 0, 0, 0, 0, 0, 0, 3, false, false, false, 0, 0, 0, false⟩, nilV, [1, 2, 5]⟩ : Rw), (⟨[65, 78, 68], ⟨3, 0, 0, 0, 0, 0, 0, 0, 0, 4, false, false, false, 0, 0, 0, false⟩, nilV, [1, 2, 3]⟩ : Rw), (⟨[65, 78, 68], ⟨3, 0, 0, 0, 0, 0, 0, 0, 0, 4, false, false, false, 0, 0, 0, false⟩, nilV, [1, 2, 5]⟩ : Rw), (⟨[79, 82, 82], ⟨3, 0, 0, 0, 0, 0, 0, 0, 0, 5, false, false, false, 0, 0, 0, false⟩, nilV, [1, 2, 3]⟩ : Rw), (⟨[79, 82, 82], ⟨3, 0, 0, 0, 0, 0, 0, 0, 0, 5, false, false, false, 0, 0, 0, false⟩, nilV, [1, 2, 5]⟩ : Rw)] := by kernel_rfl
theorem fnd_3 {i : Ins} (ho : i.op = 3) : rowF amO i = List.find? (fitsR i) [(⟨[65, 68, 68], ⟨3, 0, 0, 0, 0, 0, 0, 0, 0, 1, false, false, false, 0, 0, 0, false⟩, nilV, [1, 2, 3]⟩ : Rw), (⟨[65, 68, 68], ⟨3, 0, 0, 0, 0, 0, 0, 0, 0, 1, false, false, false, 0, 0, 0, false⟩, nilV, [1, 2, 5]⟩ : Rw), (⟨[83, 85, 66], ⟨3, 0, 0, 0, 0, 0, 0, 0, 0, 2, false, false, false, 0, 0, 0, false⟩, nilV, [1, 2, 3]⟩ : Rw), (⟨[83, 85, 66], ⟨3, 0, 0, 0, 0, 0, 0, 0, 0, 2, false, false, false, 0, 0, 0, false⟩, nilV, [1, 2, 5]⟩ : Rw), (⟨[69, 79, 82], ⟨3, 0, 0, 0, 0, 0, 0, 0, 0, 3, false, false, false, 0, 0, 0, false⟩, nilV, [1, 2, 3]⟩ : Rw), (⟨[69, 79, 82], ⟨3, 0, 0, 0, 0, 0, 0, 0, 0, 3, false, false, false, 0, 0, 0, false⟩, nilV, [1, 2, 5]⟩ : Rw), (⟨[65, 78, 68], ⟨3, 0, 0, 0, 0, 0, 0, 0, 0, 4, false, false, false, 0, 0, 0, false⟩, nilV, [1, 2, 3]⟩ : Rw), (⟨[65, 78, 68], ⟨3, 0, 0, 0, 0, 0, 0, 0, 0, 4, false, false, false, 0, 0, 0, false⟩, nilV, [1, 2, 5]⟩ : Rw), (⟨[79, 82, 82], ⟨3, 0, 0, 0, 0, 0, 0, 0, 0, 5, false, false, false, 0, 0, 0, false⟩, nilV, [1, 2, 3]⟩ : Rw), (⟨[79, 82, 82], ⟨3, 0, 0, 0, 0, 0, 0, 0, 0, 5, false, false, false, 0, 0, 0, false⟩, nilV, [1, 2, 5]⟩ : Rw)] := by
  unfold rowF; rw [find_op, ho, rows_3]
theorem rows_4 : (amO.rows.filter fun r => r.ins.op == 4) = [(⟨[76, 68, 82, 42], ⟨4, 0, 0, 0, 0, 0, 0, 0, 0, 0, false, false, false, 0, 0, 0, false⟩, nilV, [1, 6]⟩ : Rw), (⟨[76, 68, 65, 82, 42], ⟨4, 0, 0, 0, 0, 0, 0, 0, 0, 0, true, false, false, 0, 0, 0, false⟩, nilV, [1, 6]⟩ : Rw), (⟨[76, 68, 65, 80, 82, 42], ⟨4, 0, 0, 0, 0, 0, 0, 0, 0, 0, false, true, false, 0, 0, 0, false⟩, nilV, [1, 6]⟩ : Rw)] := by kernel_rfl
theorem fnd_4 {i : Ins} (ho : i.op = 4) : rowF amO i = List.find? (fitsR i) [(⟨[76, 68, 82, 42], ⟨4, 0, 0, 0, 0, 0, 0, 0, 0, 0, false, false, false, 0, 0, 0, false⟩, nilV, [1, 6]⟩ : Rw), (⟨[76, 68, 65, 82, 42], ⟨4, 0, 0, 0, 0, 0, 0, 0, 0, 0, true, false, false, 0, 0, 0, false⟩, nilV, [1, 6]⟩ : Rw), (⟨[76, 68, 65, 80, 82, 42], ⟨4, 0, 0, 0, 0, 0, 0, 0, 0, 0, false, true, false, 0, 0, 0, false⟩, nilV, [1, 6]⟩ : Rw)] := by
  unfold rowF; rw [find_op, ho, rows_4]
theorem rows_5 : (amO.rows.filter fun r => r.ins.op == 5) = [(⟨[83, 84, 82, 42], ⟨5, 0, 0, 0, 0, 0, 0, 0, 0, 0, false, false, false, 0, 0, 0, false⟩, nilV, [2, 6]⟩ : Rw), (⟨[83, 84, 76, 82, 42], ⟨5, 0, 0, 0, 0, 0, 0, 0, 0, 0, false, false, true, 0, 0, 0, false⟩, nilV, [2, 6]⟩ : Rw)] := by kernel_rfl
theorem fnd_5 {i : Ins} (ho : i.op = 5) : rowF amO i = List.find? (fitsR i) [(⟨[83, 84, 82, 42], ⟨5, 0, 0, 0, 0, 0, 0, 0, 0, 0, false, false, false, 0, 0, 0, false⟩, nilV, [2, 6]⟩ : Rw), (⟨[83, 84, 76, 82, 42], ⟨5, 0, 0, 0, 0, 0, 0, 0, 0, 0, false, false, true, 0, 0, 0, false⟩, nilV, [2, 6]⟩ : Rw)] := by
  unfold rowF; rw [find_op, ho, rows_5]
theorem rows_6 : (amO.rows.filter fun r => r.ins.op == 6) = [(⟨[83, 87, 80, 42], ⟨6, 0, 0, 0, 0, 0, 0, 0, 0, 6, false, false, false, 0, 0, 0, false⟩, nilV, [2, 1, 6]⟩ : Rw), (⟨[83, 87, 80, 65, 42], ⟨6, 0, 0, 0, 0, 0, 0, 0, 0, 6, true, false, false, 0, 0, 0, false⟩, nilV, [2, 1, 6]⟩ : Rw), (⟨[83, 87, 80, 76, 42], ⟨6, 0, 0, 0, 0, 0, 0, 0, 0, 6, false, false, true, 0, 0, 0, false⟩, nilV, [2, 1, 6]⟩ : Rw), (⟨[83, 87, 80, 65, 76, 42], ⟨6, 0, 0, 0, 0, 0, 0, 0, 0, 6, true, false, true, 0, 0, 0, false⟩, nilV, [2, 1, 6]⟩ : Rw), (⟨[76, 68, 65, 68, 68, 42], ⟨6, 0, 0, 0, 0, 0, 0, 0, 0, 1, false, false, false, 0, 0, 0, false⟩, nilV, [2, 1, 6]⟩ : Rw), (⟨[76, 68, 65, 68, 68, 65, 42], ⟨6, 0, 0, 0, 0, 0, 0, 0, 0, 1, true, false, false, 0, 0, 0, false⟩, nilV, [2, 1, 6]⟩ : Rw), (⟨[76, 68, 65, 68, 68, 76, 42], ⟨6, 0, 0, 0, 0, 0, 0, 0, 0, 1, false, false, true, 0, 0, 0, false⟩, nilV, [2, 1, 6]⟩ : Rw), (⟨[76, 68, 65, 68, 68, 65, 76, 42], ⟨6, 0, 0, 0, 0, 0, 0, 0, 0, 1, true, false, true, 0, 0, 0, false⟩, nilV, [2, 1, 6]⟩ : Rw)] := by kernel_rfl
theorem fnd_6 {i : Ins} (ho : i.op = 6) : rowF amO i = List.find? (fitsR i) [(⟨[83, 87, 80, 42], ⟨6, 0, 0, 0, 0, 0, 0, 0, 0, 6, false, false, false, 0, 0, 0, false⟩, nilV, [2, 1, 6]⟩ : Rw), (⟨[83, 87, 80, 65, 42], ⟨6, 0, 0, 0, 0, 0, 0, 0, 0, 6, true, false, false, 0, 0, 0, false⟩, nilV, [2, 1, 6]⟩ : Rw), (⟨[83, 87, 80, 76, 42], ⟨6, 0, 0, 0, 0, 0, 0, 0, 0, 6, false, false, true, 0, 0, 0, false⟩, nilV, [2, 1, 6]⟩ : Rw), (⟨[83, 87, 80, 65, 76, 42], ⟨6, 0, 0, 0, 0, 0, 0, 0, 0, 6, true, false, true, 0, 0, 0, false⟩, nilV, [2, 1, 6]⟩ : Rw), (⟨[76, 68, 65, 68, 68, 42], ⟨6, 0, 0, 0, 0, 0, 0, 0, 0, 1, false, false, false, 0, 0, 0, false⟩, nilV, [2, 1, 6]⟩ : Rw), (⟨[76, 68, 65, 68, 68, 65, 42], ⟨6, 0, 0, 0, 0, 0, 0, 0, 0, 1, true, false, false, 0, 0, 0, false⟩, nilV, [2, 1, 6]⟩ : Rw), (⟨[76, 68, 65, 68, 68, 76, 42], ⟨6, 0, 0, 0, 0, 0, 0, 0, 0, 1, false, false, true, 0, 0, 0, false⟩, nilV, [2, 1, 6]⟩ : Rw), (⟨[76, 68, 65, 68, 68, 65, 76, 42], ⟨6, 0, 0, 0, 0, 0, 0, 0, 0, 1, true, false, true, 0, 0, 0, false⟩, nilV, [2, 1, 6]⟩ : Rw)] := by
  unfold rowF; rw [find_op, ho, rows_6]
theorem rows_9 : (amO.rows.filter fun r => r.ins.op == 9) = [(⟨[67, 66, 90], ⟨9, 0, 0, 0, 0, 0, 0, 0, 0, 0, false, false, false, 0, 0, 0, true⟩, nilV, [2, 7]⟩ : Rw), (⟨[67, 66, 78, 90], ⟨9, 0, 0, 0, 0, 0, 0, 0, 0, 0, false, false, false, 0, 0, 0, false⟩, nilV, [2, 7]⟩ : Rw)] := by kernel_rfl
theorem fnd_9 {i : Ins} (ho : i.op = 9) : rowF amO i = List.find? (fitsR i) [(⟨[67, 66, 90], ⟨9, 0, 0, 0, 0, 0, 0, 0, 0, 0, false, false, false, 0, 0, 0, true⟩, nilV, [2, 7]⟩ : Rw), (⟨[67, 66, 78, 90], ⟨9, 0, 0, 0, 0, 0, 0, 0, 0, 0, false, false, false, 0, 0, 0, false⟩, nilV, [2, 7]⟩ : Rw)] := by
  unfold rowF; rw [find_op, ho, rows_9]
theorem nameL_v (r : Int) : nameL amO r = nameA r := by
  by_cases h1 : r < 0
  · rw [nameL_neg h1]; unfold nameA; rw [if_pos h1]
  · by_cases h2 : r > 7
    · rw [nameL_big h2]; unfold nameA; rw [if_neg h1, List.getElem?_eq_none (by show 8 ≤ r.toNat; omega)]; rfl
    · unfold nameL nameA; rw [if_neg (by omega), if_neg h1]; rfl
theorem memL_v {i : Ins} (h : i.index = -1 ∨ (0 ≤ i.index ∧ i.index < 8)) : memL amO i i.loc.toNat = kmem0 (frO i) := by
  have e1 : (frO i).ix = i.index := rfl
  have e2 : (frO i).off = i.off := rfl
  have e3 : (frO i).loc = i.loc := rfl
  unfold memL kmem0
  rw [e1, e2, e3]
  simp only [nameL_v]
  by_cases ho : i.off = 0
  · rcases h with h | h
    · simp [ho, h]
    · have a1 : ¬ i.index = -1 := by omega
      simp [ho, a1, h.1]
  · rcases h with h | h
    · simp [ho, h]
    · have a1 : ¬ i.index = -1 := by omega
      simp [ho, a1, h.1]
theorem prv_row {i : Ins} {lb : List UInt8} {r : Rw} (hw : wrongB i = false) (hr : rowF amO i = some r) (p q : Int) (hp : r.parts = [p, q]) : prL amO i lb = if (i.op == 9) = true then (if isNm lb = true then (nameR amO r i.size ++ [32] ++ (opndR amO p i lb ++ [44] ++ opndR amO q i lb), 0) else ([], 37)) else (nameR amO r i.size ++ [32] ++ (opndR amO p i lb ++ [44] ++ opndR amO q i lb), 0) := by
  unfold prL
  rw [hw, hr]
  simp only [hp, List.map_cons, List.map_nil, join2, Bool.false_eq_true, if_false]
  rfl
theorem join3 (a b c : List UInt8) : Lib.join [a, b, c] [44] = a ++ [44] ++ b ++ [44] ++ c := by simp [Lib.join, List.intercalate]
theorem prv_row3 {i : Ins} {lb : List UInt8} {r : Rw} (hw : wrongB i = false) (h9 : (i.op == 9) = false) (hr : rowF amO i = some r) (p q s : Int) (hp : r.parts = [p, q, s]) : prL amO i lb = (nameR amO r i.size ++ [32] ++ (opndR amO p i lb ++ [44] ++ opndR amO q i lb ++ [44] ++ opndR amO s i lb), 0) := by
  unfold prL
  rw [hw, hr]
  simp only [hp, List.map_cons, List.map_nil, join3, Bool.false_eq_true, if_false, h9]
  rfl
theorem bothV {i : Ins} {lb t : List UInt8} (hw : wrongB i = false) (ht : txtW i lb = t) (hn : t ≠ []) (hp : prL amO i lb = if (i.op == 9) = true then (if isNm lb = true then (t, 0) else ([], 37)) else (t, 0)) : prL amO i lb = prW i lb := by
  unfold prW
  rw [hp, hw, ht, eqL_no hn]
  simp only [Bool.false_eq_true, if_false]
theorem neitherV {i : Ins} {lb : List UInt8} (hw : wrongB i = false) (ht : txtW i lb = []) (hr : rowF amO i = none) : prL amO i lb = prW i lb := by
  unfold prW prL
  rw [hw, hr, ht, eqL_same]
  simp only [Bool.false_eq_true, if_false, if_true]
theorem opv_reg {p : Int} {i : Ins} {lb : List UInt8} {r : Int} (h : regP p i = (r, true)) : opndR amO p i lb = nameA r := by
  unfold opndR; rw [h]; simp only [if_true]; exact nameL_v r
theorem opv_imm {i : Ins} {lb : List UInt8} : opndR amO 5 i lb = [35] ++ Lib.itoa i.imm := rfl
theorem opv_mem {i : Ins} {lb : List UInt8} (h : i.index = -1 ∨ (0 ≤ i.index ∧ i.index < 8)) : opndR amO 6 i lb = kmem0 (frO i) := (show opndR amO 6 i lb = memL amO i i.loc.toNat from rfl).trans (memL_v h)
theorem opv_lab {i : Ins} {lb : List UInt8} : opndR amO 7 i lb = lb := rfl
theorem namev_zero (r : Rw) : nameR amO r 0 = r.name := rfl
theorem rpl_l {n : Int} (h : n = 1 ∨ n = 2 ∨ n = 4 ∨ n = 8) (a : Ins) (v : Value) (ps : List Int) : nameR amO ⟨[76, 68, 82, 42], a, v, ps⟩ n = [76, 68, 82] ++ tlA n ++ [] := by
  rcases h with rfl | rfl | rfl | rfl
  · exact (by decide : Lib.replace [76, 68, 82, 42] [42] [66] 1 = [76, 68, 82, 66])
  · exact (by decide : Lib.replace [76, 68, 82, 42] [42] [72] 1 = [76, 68, 82, 72])
  · exact (by decide : Lib.replace [76, 68, 82, 42] [42] [87] 1 = [76, 68, 82, 87])
  · exact (by decide : Lib.replace [76, 68, 82, 42] [42] [] 1 = [76, 68, 82])
theorem rpl_la {n : Int} (h : n = 1 ∨ n = 2 ∨ n = 4 ∨ n = 8) (a : Ins) (v : Value) (ps : List Int) : nameR amO ⟨[76, 68, 65, 82, 42], a, v, ps⟩ n = [76, 68, 65, 82] ++ tlA n ++ [] := by
  rcases h with rfl | rfl | rfl | rfl
  · exact (by decide : Lib.replace [76, 68, 65, 82, 42] [42] [66] 1 = [76, 68, 65, 82, 66])
  · exact (by decide : Lib.replace [76, 68, 65, 82, 42] [42] [72] 1 = [76, 68, 65, 82, 72])
  · exact (by decide : Lib.replace [76, 68, 65, 82, 42] [42] [87] 1 = [76, 68, 65, 82, 87])
  · exact (by decide : Lib.replace [76, 68, 65, 82, 42] [42] [] 1 = [76, 68, 65, 82])
theorem rpl_lq {n : Int} (h : n = 1 ∨ n = 2 ∨ n = 4 ∨ n = 8) (a : Ins) (v : Value) (ps : List Int) : nameR amO ⟨[76, 68, 65, 80, 82, 42], a, v, ps⟩ n = [76, 68, 65, 80, 82] ++ tlA n ++ [] := by
  rcases h with rfl | rfl | rfl | rfl
  · exact (by decide : Lib.replace [76, 68, 65, 80, 82, 42] [42] [66] 1 = [76, 68, 65, 80, 82, 66])
  · exact (by decide : Lib.replace [76, 68, 65, 80, 82, 42] [42] [72] 1 = [76, 68, 65, 80, 82, 72])
  · exact (by decide : Lib.replace [76, 68, 65, 80, 82, 42] [42] [87] 1 = [76, 68, 65, 80, 82, 87])
  · exact (by decide : Lib.replace [76, 68, 65, 80, 82, 42] [42] [] 1 = [76, 68, 65, 80, 82])
theorem rpl_s {n : Int} (h : n = 1 ∨ n = 2 ∨ n = 4 ∨ n = 8) (a : Ins) (v : Value) (ps : List Int) : nameR amO ⟨[83, 84, 82, 42], a, v, ps⟩ n = [83, 84, 82] ++ tlA n ++ [] := by
  rcases h with rfl | rfl | rfl | rfl
  · exact (by decide : Lib.replace [83, 84, 82, 42] [42] [66] 1 = [83, 84, 82, 66])
  · exact (by decide : Lib.replace [83, 84, 82, 42] [42] [72] 1 = [83, 84, 82, 72])
  · exact (by decide : Lib.replace [83, 84, 82, 42] [42] [87] 1 = [83, 84, 82, 87])
  · exact (by decide : Lib.replace [83, 84, 82, 42] [42] [] 1 = [83, 84, 82])
theorem rpl_sl {n : Int} (h : n = 1 ∨ n = 2 ∨ n = 4 ∨ n = 8) (a : Ins) (v : Value) (ps : List Int) : nameR amO ⟨[83, 84, 76, 82, 42], a, v, ps⟩ n = [83, 84, 76, 82] ++ tlA n ++ [] := by
  rcases h with rfl | rfl | rfl | rfl
  · exact (by decide : Lib.replace [83, 84, 76, 82, 42] [42] [66] 1 = [83, 84, 76, 82, 66])
  · exact (by decide : Lib.replace [83, 84, 76, 82, 42] [42] [72] 1 = [83, 84, 76, 82, 72])
  · exact (by decide : Lib.replace [83, 84, 76, 82, 42] [42] [87] 1 = [83, 84, 76, 82, 87])
  · exact (by decide : Lib.replace [83, 84, 76, 82, 42] [42] [] 1 = [83, 84, 76, 82])
theorem rpl_a0 {n : Int} (h : n = 1 ∨ n = 2 ∨ n = 4 ∨ n = 8) (a : Ins) (v : Value) (ps : List Int) : nameR amO ⟨[83, 87, 80, 42], a, v, ps⟩ n = [83, 87, 80] ++ tlA n ++ [] := by
  rcases h with rfl | rfl | rfl | rfl
  · exact (by decide : Lib.replace [83, 87, 80, 42] [42] [66] 1 = [83, 87, 80, 66])
  · exact (by decide : Lib.replace [83, 87, 80, 42] [42] [72] 1 = [83, 87, 80, 72])
  · exact (by decide : Lib.replace [83, 87, 80, 42] [42] [87] 1 = [83, 87, 80, 87])
  · exact (by decide : Lib.replace [83, 87, 80, 42] [42] [] 1 = [83, 87, 80])
theorem rpl_a1 {n : Int} (h : n = 1 ∨ n = 2 ∨ n = 4 ∨ n = 8) (a : Ins) (v : Value) (ps : List Int) : nameR amO ⟨[83, 87, 80, 65, 42], a, v, ps⟩ n = [83, 87, 80, 65] ++ tlA n ++ [] := by
  rcases h with rfl | rfl | rfl | rfl
  · exact (by decide : Lib.replace [83, 87, 80, 65, 42] [42] [66] 1 = [83, 87, 80, 65, 66])
  · exact (by decide : Lib.replace [83, 87, 80, 65, 42] [42] [72] 1 = [83, 87, 80, 65, 72])
  · exact (by decide : Lib.replace [83, 87, 80, 65, 42] [42] [87] 1 = [83, 87, 80, 65, 87])
  · exact (by decide : Lib.replace [83, 87, 80, 65, 42] [42] [] 1 = [83, 87, 80, 65])
theorem rpl_a2 {n : Int} (h : n = 1 ∨ n = 2 ∨ n = 4 ∨ n = 8) (a : Ins) (v : Value) (ps : List Int) : nameR amO ⟨[83, 87, 80, 76, 42], a, v, ps⟩ n = [83, 87, 80, 76] ++ tlA n ++ [] := by
  rcases h with rfl | rfl | rfl | rfl
  · exact (by decide : Lib.replace [83, 87, 80, 76, 42] [42] [66] 1 = [83, 87, 80, 76, 66])
  · exact (by decide : Lib.replace [83, 87, 80, 76, 42] [42] [72] 1 = [83, 87, 80, 76, 72])
  · exact (by decide : Lib.replace [83, 87, 80, 76, 42] [42] [87] 1 = [83, 87, 80, 76, 87])
  · exact (by decide : Lib.replace [83, 87, 80, 76, 42] [42] [] 1 = [83, 87, 80, 76])
theorem rpl_a3 {n : Int} (h : n = 1 ∨ n = 2 ∨ n = 4 ∨ n = 8) (a : Ins) (v : Value) (ps : List Int) : nameR amO ⟨[83, 87, 80, 65, 76, 42], a, v, ps⟩ n = [83, 87, 80, 65, 76] ++ tlA n ++ [] := by
  rcases h with rfl | rfl | rfl | rfl
  · exact (by decide : Lib.replace [83, 87, 80, 65, 76, 42] [42] [66] 1 = [83, 87, 80, 65, 76, 66])
  · exact (by decide : Lib.replace [83, 87, 80, 65, 76, 42] [42] [72] 1 = [83, 87, 80, 65, 76, 72])
  · exact (by decide : Lib.replace [83, 87, 80, 65, 76, 42] [42] [87] 1 = [83, 87, 80, 65, 76, 87])
  · exact (by decide : Lib.replace [83, 87, 80, 65, 76, 42] [42] [] 1 = [83, 87, 80, 65, 76])
theorem rpl_a4 {n : Int} (h : n = 1 ∨ n = 2 ∨ n = 4 ∨ n = 8) (a : Ins) (v : Value) (ps : List Int) : nameR amO ⟨[76, 68, 65, 68, 68, 42], a, v, ps⟩ n = [76, 68, 65, 68, 68] ++ tlA n ++ [] := by
  rcases h with rfl | rfl | rfl | rfl
  · exact (by decide : Lib.replace [76, 68, 65, 68, 68, 42] [42] [66] 1 = [76, 68, 65, 68, 68, 66])
  · exact (by decide : Lib.replace [76, 68, 65, 68, 68, 42] [42] [72] 1 = [76, 68, 65, 68, 68, 72])
  · exact (by decide : Lib.replace [76, 68, 65, 68, 68, 42] [42] [87] 1 = [76, 68, 65, 68, 68, 87])
  · exact (by decide : Lib.replace [76, 68, 65, 68, 68, 42] [42] [] 1 = [76, 68, 65, 68, 68])
theorem rpl_a5 {n : Int} (h : n = 1 ∨ n = 2 ∨ n = 4 ∨ n = 8) (a : Ins) (v : Value) (ps : List Int) : nameR amO ⟨[76, 68, 65, 68, 68, 65, 42], a, v, ps⟩ n = [76, 68, 65, 68, 68, 65] ++ tlA n ++ [] := by
  rcases h with rfl | rfl | rfl | rfl
  · exact (by decide : Lib.replace [76, 68, 65, 68, 68, 65, 42] [42] [66] 1 = [76, 68, 65, 68, 68, 65, 66])
  · exact (by decide : Lib.replace [76, 68, 65, 68, 68, 65, 42] [42] [72] 1 = [76, 68, 65, 68, 68, 65, 72])
  · exact (by decide : Lib.replace [76, 68, 65, 68, 68, 65, 42] [42] [87] 1 = [76, 68, 65, 68, 68, 65, 87])
  · exact (by decide : Lib.replace [76, 68, 65, 68, 68, 65, 42] [42] [] 1 = [76, 68, 65, 68, 68, 65])
theorem rpl_a6 {n : Int} (h : n = 1 ∨ n = 2 ∨ n = 4 ∨ n = 8) (a : Ins) (v : Value) (ps : List Int) : nameR amO ⟨[76, 68, 65, 68, 68, 76, 42], a, v, ps⟩ n = [76, 68, 65, 68, 68, 76] ++ tlA n ++ [] := by
  rcases h with rfl | rfl | rfl | rfl
  · exact (by decide : Lib.replace [76, 68, 65, 68, 68, 76, 42] [42] [66] 1 = [76, 68, 65, 68, 68, 76, 66])
  · exact (by decide : Lib.replace [76, 68, 65, 68, 68, 76, 42] [42] [72] 1 = [76, 68, 65, 68, 68, 76, 72])
  · exact (by decide : Lib.replace [76, 68, 65, 68, 68, 76, 42] [42] [87] 1 = [76, 68, 65, 68, 68, 76, 87])
  · exact (by decide : Lib.replace [76, 68, 65, 68, 68, 76, 42] [42] [] 1 = [76, 68, 65, 68, 68, 76])
theorem rpl_a7 {n : Int} (h : n = 1 ∨ n = 2 ∨ n = 4 ∨ n = 8) (a : Ins) (v : Value) (ps : List Int) : nameR amO ⟨[76, 68, 65, 68, 68, 65, 76, 42], a, v, ps⟩ n = [76, 68, 65, 68, 68, 65, 76] ++ tlA n ++ [] := by
  rcases h with rfl | rfl | rfl | rfl
  · exact (by decide : Lib.replace [76, 68, 65, 68, 68, 65, 76, 42] [42] [66] 1 = [76, 68, 65, 68, 68, 65, 76, 66])
  · exact (by decide : Lib.replace [76, 68, 65, 68, 68, 65, 76, 42] [42] [72] 1 = [76, 68, 65, 68, 68, 65, 76, 72])
  · exact (by decide : Lib.replace [76, 68, 65, 68, 68, 65, 76, 42] [42] [87] 1 = [76, 68, 65, 68, 68, 65, 76, 87])
  · exact (by decide : Lib.replace [76, 68, 65, 68, 68, 65, 76, 42] [42] [] 1 = [76, 68, 65, 68, 68, 65, 76])
theorem prv_1 {i : Ins} {lb : List UInt8} (hw : wrongB i = false) (ho : i.op = 1) : prL amO i lb = prW i lb := by
  obtain ⟨hp, hs⟩ := plain_of hw
  obtain ⟨op, dst, a, b, imm, loc, off, index, size, fn, acq, weak, rel, pred, succ, to, zero⟩ := i
  simp only at ho; subst ho
  simp [plainF, opB, rdB, wrB, immF] at hp
  obtain ⟨rfl, rfl, rfl, rfl, rfl, rfl, rfl, rfl, rfl, rfl, rfl, rfl, rfl, rfl⟩ := hp
  have hd := reg_rng (r := dst) (by simpa [soundB] using hs)
  have hr := fnd_1 (i := ⟨1, dst, -1, -1, imm, 0, 0, -1, 0, 0, false, false, false, 0, 0, 0, false⟩) rfl
  rw [find_take (fitr_yes rfl (by simp [showsR, lacks, regP]; omega))] at hr
  refine bothV (t := [77, 79, 86] ++ [32] ++ nameA dst ++ [44] ++ ([35] ++ Lib.itoa imm)) hw (by simp [txtW, ktxt0, frO]) (by simp) ((prv_row hw hr 1 5 rfl).trans ?_)
  rw [namev_zero, opv_reg (r := dst) rfl, opv_imm]
  simp [List.append_assoc]
theorem prv_2 {i : Ins} {lb : List UInt8} (hw : wrongB i = false) (ho : i.op = 2) : prL amO i lb = prW i lb := by
  obtain ⟨hp, hs⟩ := plain_of hw
  obtain ⟨op, dst, a, b, imm, loc, off, index, size, fn, acq, weak, rel, pred, succ, to, zero⟩ := i
  simp only at ho; subst ho
  simp [plainF, opB, rdB, wrB, immF] at hp
  obtain ⟨rfl, rfl, rfl, rfl, rfl, rfl, rfl, rfl, rfl, rfl, rfl, rfl, rfl, rfl⟩ := hp
  have hs2 : regB dst = true ∧ regB a = true := by simpa [soundB] using hs
  have hd := reg_rng hs2.1
  have ha := reg_rng hs2.2
  have hr := fnd_2 (i := ⟨2, dst, a, -1, 0, 0, 0, -1, 0, 0, false, false, false, 0, 0, 0, false⟩) rfl
  rw [find_take (fitr_yes rfl (by simp [showsR, lacks, regP]; omega))] at hr
  refine bothV (t := [77, 79, 86] ++ [32] ++ nameA dst ++ [44] ++ nameA a) hw (by simp [txtW, ktxt0, frO]) (by simp) ((prv_row hw hr 1 2 rfl).trans ?_)
  rw [namev_zero, opv_reg (r := dst) rfl, opv_reg (r := a) rfl]
  simp [List.append_assoc]
theorem prv_3 {i : Ins} {lb : List UInt8} (hw : wrongB i = false) (ho : i.op = 3) : prL amO i lb = prW i lb := by
  obtain ⟨hp, hs⟩ := plain_of hw
  obtain ⟨op, dst, a, b, imm, loc, off, index, size, fn, acq, weak, rel, pred, succ, to, zero⟩ := i
  simp only at ho; subst ho
  have hs2 : (((regB dst = true ∧ regB a = true) ∧ ronB b = true) ∧ 1 ≤ fn) ∧ fn ≤ 5 := by simpa [soundB] using hs
  have hd := reg_rng hs2.1.1.1.1
  have ha := reg_rng hs2.1.1.1.2
  have hb := ron_rng hs2.1.1.2
  have hf : fn = 1 ∨ fn = 2 ∨ fn = 3 ∨ fn = 4 ∨ fn = 5 := by omega
  by_cases hb1 : b = -1
  · subst hb1
    simp [plainF, opB, rdB, wrB, immF] at hp
    obtain ⟨rfl, rfl, rfl, rfl, rfl, rfl, rfl, rfl, rfl, rfl, rfl⟩ := hp
    rcases hf with rfl | rfl | rfl | rfl | rfl
    · have hr := fnd_3 (i := ⟨3, dst, a, -1, imm, 0, 0, -1, 0, 1, false, false, false, 0, 0, 0, false⟩) rfl
      rw [find_skip (fitr_hides (by simp [showsR, lacks, regP])), find_take (fitr_yes rfl (by simp [showsR, lacks, regP]; omega))] at hr
      refine bothV (t := [65, 68, 68] ++ [32] ++ nameA dst ++ [44] ++ nameA a ++ [44] ++ ([35] ++ Lib.itoa imm)) hw (by simp [txtW, ktxt0, frO, kfnT, kror0]) (by simp) ((prv_row3 hw rfl hr 1 2 5 rfl).trans ?_)
      rw [namev_zero, opv_reg (r := dst) rfl, opv_reg (r := a) rfl, opv_imm]
      simp [List.append_assoc]
    · have hr := fnd_3 (i := ⟨3, dst, a, -1, imm, 0, 0, -1, 0, 2, false, false, false, 0, 0, 0, false⟩) rfl
      rw [find_skip (fitr_no (by simp)), find_skip (fitr_no (by simp)), find_skip (fitr_hides (by simp [showsR, lacks, regP])), find_take (fitr_yes rfl (by simp [showsR, lacks, regP]; omega))] at hr
      refine bothV (t := [83, 85, 66] ++ [32] ++ nameA dst ++ [44] ++ nameA a ++ [44] ++ ([35] ++ Lib.itoa imm)) hw (by simp [txtW, ktxt0, frO, kfnT, kror0]) (by simp) ((prv_row3 hw rfl hr 1 2 5 rfl).trans ?_)
      rw [namev_zero, opv_reg (r := dst) rfl, opv_reg (r := a) rfl, opv_imm]
      simp [List.append_assoc]
    · have hr := fnd_3 (i := ⟨3, dst, a, -1, imm, 0, 0, -1, 0, 3, false, false, false, 0, 0, 0, false⟩) rfl
      rw [find_skip (fitr_no (by simp)), find_skip (fitr_no (by simp)), find_skip (fitr_no (by simp)), find_skip (fitr_no (by simp)), find_skip (fitr_hides (by simp [showsR, lacks, regP])), find_take (fitr_yes rfl (by simp [showsR, lacks, regP]; omega))] at hr
      refine bothV (t := [69, 79, 82] ++ [32] ++ nameA dst ++ [44] ++ nameA a ++ [44] ++ ([35] ++ Lib.itoa imm)) hw (by simp [txtW, ktxt0, frO, kfnT, kror0]) (by simp) ((prv_row3 hw rfl hr 1 2 5 rfl).trans ?_)
      rw [namev_zero, opv_reg (r := dst) rfl, opv_reg (r := a) rfl, opv_imm]
      simp [List.append_assoc]
    · have hr := fnd_3 (i := ⟨3, dst, a, -1, imm, 0, 0, -1, 0, 4, false, false, false, 0, 0, 0, false⟩) rfl
      rw [find_skip (fitr_no (by simp)), find_skip (fitr_no (by simp)), find_skip (fitr_no (by simp)), find_skip (fitr_no (by simp)), find_skip (fitr_no (by simp)), find_skip (fitr_no (by simp)), find_skip (fitr_hides (by simp [showsR, lacks, regP])), find_take (fitr_yes rfl (by simp [showsR, lacks, regP]; omega))] at hr
      refine bothV (t := [65, 78, 68] ++ [32] ++ nameA dst ++ [44] ++ nameA a ++ [44] ++ ([35] ++ Lib.itoa imm)) hw (by simp [txtW, ktxt0, frO, kfnT, kror0]) (by simp) ((prv_row3 hw rfl hr 1 2 5 rfl).trans ?_)
      rw [namev_zero, opv_reg (r := dst) rfl, opv_reg (r := a) rfl, opv_imm]
      simp [List.append_assoc]
    · have hr := fnd_3 (i := ⟨3, dst, a, -1, imm, 0, 0, -1, 0, 5, false, false, false, 0, 0, 0, false⟩) rfl
      rw [find_skip (fitr_no (by simp)), find_skip (fitr_no (by simp)), find_skip (fitr_no (by simp)), find_skip (fitr_no (by simp)), find_skip (fitr_no (by simp)), find_skip (fitr_no (by simp)), find_skip (fitr_no (by simp)), find_skip (fitr_no (by simp)), find_skip (fitr_hides (by simp [showsR, lacks, regP])), find_take (fitr_yes rfl (by simp [showsR, lacks, regP]; omega))] at hr
      refine bothV (t := [79, 82, 82] ++ [32] ++ nameA dst ++ [44] ++ nameA a ++ [44] ++ ([35] ++ Lib.itoa imm)) hw (by simp [txtW, ktxt0, frO, kfnT, kror0]) (by simp) ((prv_row3 hw rfl hr 1 2 5 rfl).trans ?_)
      rw [namev_zero, opv_reg (r := dst) rfl, opv_reg (r := a) rfl, opv_imm]
      simp [List.append_assoc]
  · have hbr : 0 ≤ b ∧ b < 8 := by rcases hb with h | h; exact absurd h hb1; exact h
    simp [plainF, opB, rdB, wrB, immF, hb1] at hp
    obtain ⟨rfl, rfl, rfl, rfl, rfl, rfl, rfl, rfl, rfl, rfl, rfl, rfl⟩ := hp
    rcases hf with rfl | rfl | rfl | rfl | rfl
    · have hr := fnd_3 (i := ⟨3, dst, a, b, 0, 0, 0, -1, 0, 1, false, false, false, 0, 0, 0, false⟩) rfl
      rw [find_take (fitr_yes rfl (by simp [showsR, lacks, regP]; omega))] at hr
      refine bothV (t := [65, 68, 68] ++ [32] ++ nameA dst ++ [44] ++ nameA a ++ [44] ++ nameA b) hw (by simp [txtW, ktxt0, frO, kfnT, kror0, show ¬ b < 0 by omega]) (by simp) ((prv_row3 hw rfl hr 1 2 3 rfl).trans ?_)
      rw [namev_zero, opv_reg (r := dst) rfl, opv_reg (r := a) rfl, opv_reg (r := b) rfl]
      simp [List.append_assoc]
    · have hr := fnd_3 (i := ⟨3, dst, a, b, 0, 0, 0, -1, 0, 2, false, false, false, 0, 0, 0, false⟩) rfl
      rw [find_skip (fitr_no (by simp)), find_skip (fitr_no (by simp)), find_take (fitr_yes rfl (by simp [showsR, lacks, regP]; omega))] at hr
      refine bothV (t := [83, 85, 66] ++ [32] ++ nameA dst ++ [44] ++ nameA a ++ [44] ++ nameA b) hw (by simp [txtW, ktxt0, frO, kfnT, kror0, show ¬ b < 0 by omega]) (by simp) ((prv_row3 hw rfl hr 1 2 3 rfl).trans ?_)
      rw [namev_zero, opv_reg (r := dst) rfl, opv_reg (r := a) rfl, opv_reg (r := b) rfl]
      simp [List.append_assoc]
    · have hr := fnd_3 (i := ⟨3, dst, a, b, 0, 0, 0, -1, 0, 3, false, false, false, 0, 0, 0, false⟩) rfl
      rw [find_skip (fitr_no (by simp)), find_skip (fitr_no (by simp)), find_skip (fitr_no (by simp)), find_skip (fitr_no (by simp)), find_take (fitr_yes rfl (by simp [showsR, lacks, regP]; omega))] at hr
      refine bothV (t := [69, 79, 82] ++ [32] ++ nameA dst ++ [44] ++ nameA a ++ [44] ++ nameA b) hw (by simp [txtW, ktxt0, frO, kfnT, kror0, show ¬ b < 0 by omega]) (by simp) ((prv_row3 hw rfl hr 1 2 3 rfl).trans ?_)
      rw [namev_zero, opv_reg (r := dst) rfl, opv_reg (r := a) rfl, opv_reg (r := b) rfl]
      simp [List.append_assoc]
    · have hr := fnd_3 (i := ⟨3, dst, a, b, 0, 0, 0, -1, 0, 4, false, false, false, 0, 0, 0, false⟩) rfl
      rw [find_skip (fitr_no (by simp)), find_skip (fitr_no (by simp)), find_skip (fitr_no (by simp)), find_skip (fitr_no (by simp)), find_skip (fitr_no (by simp)), find_skip (fitr_no (by simp)), find_take (fitr_yes rfl (by simp [showsR, lacks, regP]; omega))] at hr
      refine bothV (t := [65, 78, 68] ++ [32] ++ nameA dst ++ [44] ++ nameA a ++ [44] ++ nameA b) hw (by simp [txtW, ktxt0, frO, kfnT, kror0, show ¬ b < 0 by omega]) (by simp) ((prv_row3 hw rfl hr 1 2 3 rfl).trans ?_)
      rw [namev_zero, opv_reg (r := dst) rfl, opv_reg (r := a) rfl, opv_reg (r := b) rfl]
      simp [List.append_assoc]
    · have hr := fnd_3 (i := ⟨3, dst, a, b, 0, 0, 0, -1, 0, 5, false, false, false, 0, 0, 0, false⟩) rfl
      rw [find_skip (fitr_no (by simp)), find_skip (fitr_no (by simp)), find_skip (fitr_no (by simp)), find_skip (fitr_no (by simp)), find_skip (fitr_no (by simp)), find_skip (fitr_no (by simp)), find_skip (fitr_no (by simp)), find_skip (fitr_no (by simp)), find_take (fitr_yes rfl (by simp [showsR, lacks, regP]; omega))] at hr
      refine bothV (t := [79, 82, 82] ++ [32] ++ nameA dst ++ [44] ++ nameA a ++ [44] ++ nameA b) hw (by simp [txtW, ktxt0, frO, kfnT, kror0, show ¬ b < 0 by omega]) (by simp) ((prv_row3 hw rfl hr 1 2 3 rfl).trans ?_)
      rw [namev_zero, opv_reg (r := dst) rfl, opv_reg (r := a) rfl, opv_reg (r := b) rfl]
      simp [List.append_assoc]
theorem prv_4 {i : Ins} {lb : List UInt8} (hw : wrongB i = false) (ho : i.op = 4) : prL amO i lb = prW i lb := by
  obtain ⟨hp, hs⟩ := plain_of hw
  obtain ⟨op, dst, a, b, imm, loc, off, index, size, fn, acq, weak, rel, pred, succ, to, zero⟩ := i
  simp only at ho; subst ho
  simp [plainF, opB, rdB, wrB, immF] at hp
  obtain ⟨rfl, rfl, rfl, rfl, rfl, rfl, rfl, rfl, rfl⟩ := hp
  have hs2 : (regB dst = true ∧ accB ⟨4, dst, -1, -1, 0, loc, off, index, size, 0, acq, weak, false, 0, 0, 0, false⟩ = true) ∧ (acq = false ∨ weak = false) := by simpa [soundB] using hs
  have hd := reg_rng hs2.1.1
  obtain ⟨hl, hi, hz⟩ := acc_all hs2.1.2
  cases acq <;> cases weak
  · have hr := fnd_4 (i := ⟨4, dst, -1, -1, 0, loc, off, index, size, 0, false, false, false, 0, 0, 0, false⟩) rfl
    rw [find_take (fitr_yes rfl (by simp [showsR, lacks, regP]; omega))] at hr
    refine bothV (t := [76, 68, 82] ++ tlA size ++ [32] ++ nameA dst ++ [44] ++ kmem0 (frO ⟨4, dst, -1, -1, 0, loc, off, index, size, 0, false, false, false, 0, 0, 0, false⟩)) hw (by simp [txtW, ktxt0, frO, kacc0]) (by simp) ((prv_row hw hr 1 6 rfl).trans ?_)
    rw [rpl_l hz, opv_reg (r := dst) rfl, opv_mem hi]
    simp [List.append_assoc]
  · have hr := fnd_4 (i := ⟨4, dst, -1, -1, 0, loc, off, index, size, 0, false, true, false, 0, 0, 0, false⟩) rfl
    rw [find_skip (fitr_no (by simp)), find_skip (fitr_no (by simp)), find_take (fitr_yes rfl (by simp [showsR, lacks, regP]; omega))] at hr
    refine bothV (t := [76, 68, 65, 80, 82] ++ tlA size ++ [32] ++ nameA dst ++ [44] ++ kmem0 (frO ⟨4, dst, -1, -1, 0, loc, off, index, size, 0, false, true, false, 0, 0, 0, false⟩)) hw (by simp [txtW, ktxt0, frO, kacc0]) (by simp) ((prv_row hw hr 1 6 rfl).trans ?_)
    rw [rpl_lq hz, opv_reg (r := dst) rfl, opv_mem hi]
    simp [List.append_assoc]
  · have hr := fnd_4 (i := ⟨4, dst, -1, -1, 0, loc, off, index, size, 0, true, false, false, 0, 0, 0, false⟩) rfl
    rw [find_skip (fitr_no (by simp)), find_take (fitr_yes rfl (by simp [showsR, lacks, regP]; omega))] at hr
    refine bothV (t := [76, 68, 65, 82] ++ tlA size ++ [32] ++ nameA dst ++ [44] ++ kmem0 (frO ⟨4, dst, -1, -1, 0, loc, off, index, size, 0, true, false, false, 0, 0, 0, false⟩)) hw (by simp [txtW, ktxt0, frO, kacc0]) (by simp) ((prv_row hw hr 1 6 rfl).trans ?_)
    rw [rpl_la hz, opv_reg (r := dst) rfl, opv_mem hi]
    simp [List.append_assoc]
  · exact absurd hs2.2 (by decide)
theorem prv_5 {i : Ins} {lb : List UInt8} (hw : wrongB i = false) (ho : i.op = 5) : prL amO i lb = prW i lb := by
  obtain ⟨hp, hs⟩ := plain_of hw
  obtain ⟨op, dst, a, b, imm, loc, off, index, size, fn, acq, weak, rel, pred, succ, to, zero⟩ := i
  simp only at ho; subst ho
  have hs2 : ronB a = true ∧ accB ⟨5, dst, a, b, imm, loc, off, index, size, fn, acq, weak, rel, pred, succ, to, zero⟩ = true := by simpa [soundB] using hs
  have ha := ron_rng hs2.1
  obtain ⟨hl, hi, hz⟩ := acc_all hs2.2
  by_cases ha1 : a = -1
  · subst ha1
    simp [plainF, opB, rdB, wrB, immF] at hp
    obtain ⟨rfl, rfl, rfl, rfl, rfl, rfl, rfl, rfl, rfl⟩ := hp
    refine neitherV hw (by simp [txtW, ktxt0, frO, kacc0]) ?_
    rw [fnd_5 rfl, find_skip (fitr_hides (by simp [showsR, lacks, regP])), find_skip (fitr_hides (by simp [showsR, lacks, regP]))]; rfl
  · have har : 0 ≤ a ∧ a < 8 := by rcases ha with h | h; exact absurd h ha1; exact h
    simp [plainF, opB, rdB, wrB, immF, ha1] at hp
    obtain ⟨rfl, rfl, rfl, rfl, rfl, rfl, rfl, rfl, rfl, rfl⟩ := hp
    cases rel
    · have hr := fnd_5 (i := ⟨5, -1, a, -1, 0, loc, off, index, size, 0, false, false, false, 0, 0, 0, false⟩) rfl
      rw [find_take (fitr_yes rfl (by simp [showsR, lacks, regP]; omega))] at hr
      refine bothV (t := [83, 84, 82] ++ tlA size ++ [32] ++ nameA a ++ [44] ++ kmem0 (frO ⟨5, -1, a, -1, 0, loc, off, index, size, 0, false, false, false, 0, 0, 0, false⟩)) hw (by simp [txtW, ktxt0, frO, kacc0, show ¬ a < 0 by omega]) (by simp) ((prv_row hw hr 2 6 rfl).trans ?_)
      rw [rpl_s hz, opv_reg (r := a) rfl, opv_mem hi]
      simp [List.append_assoc]
    · have hr := fnd_5 (i := ⟨5, -1, a, -1, 0, loc, off, index, size, 0, false, false, true, 0, 0, 0, false⟩) rfl
      rw [find_skip (fitr_no (by simp)), find_take (fitr_yes rfl (by simp [showsR, lacks, regP]; omega))] at hr
      refine bothV (t := [83, 84, 76, 82] ++ tlA size ++ [32] ++ nameA a ++ [44] ++ kmem0 (frO ⟨5, -1, a, -1, 0, loc, off, index, size, 0, false, false, true, 0, 0, 0, false⟩)) hw (by simp [txtW, ktxt0, frO, kacc0, show ¬ a < 0 by omega]) (by simp) ((prv_row hw hr 2 6 rfl).trans ?_)
      rw [rpl_sl hz, opv_reg (r := a) rfl, opv_mem hi]
      simp [List.append_assoc]
theorem prv_6 {i : Ins} {lb : List UInt8} (hw : wrongB i = false) (ho : i.op = 6) : prL amO i lb = prW i lb := by
  obtain ⟨hp, hs⟩ := plain_of hw
  obtain ⟨op, dst, a, b, imm, loc, off, index, size, fn, acq, weak, rel, pred, succ, to, zero⟩ := i
  simp only at ho; subst ho
  simp [plainF, opB, rdB, wrB, immF] at hp
  obtain ⟨rfl, rfl, rfl, rfl, rfl, rfl, rfl⟩ := hp
  have hs2 : ((regB dst = true ∧ regB a = true) ∧ accB ⟨6, dst, a, -1, 0, loc, off, index, size, fn, acq, false, rel, 0, 0, 0, false⟩ = true) ∧ (fn = 6 ∨ fn = 1) := by simpa [soundB] using hs
  have hd := reg_rng hs2.1.1.1
  have ha := reg_rng hs2.1.1.2
  obtain ⟨hl, hi, hz⟩ := acc_all hs2.1.2
  rcases hs2.2 with rfl | rfl
  · cases acq <;> cases rel
    · have hr := fnd_6 (i := ⟨6, dst, a, -1, 0, loc, off, index, size, 6, false, false, false, 0, 0, 0, false⟩) rfl
      rw [find_take (fitr_yes rfl (by simp [showsR, lacks, regP]; omega))] at hr
      refine bothV (t := [83, 87, 80] ++ tlA size ++ [] ++ [32] ++ nameA a ++ [44] ++ nameA dst ++ [44] ++ kmem0 (frO ⟨6, dst, a, -1, 0, loc, off, index, size, 6, false, false, false, 0, 0, 0, false⟩)) hw (by simp [txtW, ktxt0, frO, kacc0, krmw0]) (by simp) ((prv_row3 hw rfl hr 2 1 6 rfl).trans ?_)
      rw [rpl_a0 hz, opv_reg (r := a) rfl, opv_reg (r := dst) rfl, opv_mem hi]
      simp [List.append_assoc]
    · have hr := fnd_6 (i := ⟨6, dst, a, -1, 0, loc, off, index, size, 6, false, false, true, 0, 0, 0, false⟩) rfl
      rw [find_skip (fitr_no (by simp)), find_skip (fitr_no (by simp)), find_take (fitr_yes rfl (by simp [showsR, lacks, regP]; omega))] at hr
      refine bothV (t := [83, 87, 80, 76] ++ tlA size ++ [] ++ [32] ++ nameA a ++ [44] ++ nameA dst ++ [44] ++ kmem0 (frO ⟨6, dst, a, -1, 0, loc, off, index, size, 6, false, false, true, 0, 0, 0, false⟩)) hw (by simp [txtW, ktxt0, frO, kacc0, krmw0]) (by simp) ((prv_row3 hw rfl hr 2 1 6 rfl).trans ?_)
      rw [rpl_a2 hz, opv_reg (r := a) rfl, opv_reg (r := dst) rfl, opv_mem hi]
      simp [List.append_assoc]
    · have hr := fnd_6 (i := ⟨6, dst, a, -1, 0, loc, off, index, size, 6, true, false, false, 0, 0, 0, false⟩) rfl
      rw [find_skip (fitr_no (by simp)), find_take (fitr_yes rfl (by simp [showsR, lacks, regP]; omega))] at hr
      refine bothV (t := [83, 87, 80, 65] ++ tlA size ++ [] ++ [32] ++ nameA a ++ [44] ++ nameA dst ++ [44] ++ kmem0 (frO ⟨6, dst, a, -1, 0, loc, off, index, size, 6, true, false, false, 0, 0, 0, false⟩)) hw (by simp [txtW, ktxt0, frO, kacc0, krmw0]) (by simp) ((prv_row3 hw rfl hr 2 1 6 rfl).trans ?_)
      rw [rpl_a1 hz, opv_reg (r := a) rfl, opv_reg (r := dst) rfl, opv_mem hi]
      simp [List.append_assoc]
    · have hr := fnd_6 (i := ⟨6, dst, a, -1, 0, loc, off, index, size, 6, true, false, true, 0, 0, 0, false⟩) rfl
      rw [find_skip (fitr_no (by simp)), find_skip (fitr_no (by simp)), find_skip (fitr_no (by simp)), find_take (fitr_yes rfl (by simp [showsR, lacks, regP]; omega))] at hr
      refine bothV (t := [83, 87, 80, 65, 76] ++ tlA size ++ [] ++ [32] ++ nameA a ++ [44] ++ nameA dst ++ [44] ++ kmem0 (frO ⟨6, dst, a, -1, 0, loc, off, index, size, 6, true, false, true, 0, 0, 0, false⟩)) hw (by simp [txtW, ktxt0, frO, kacc0, krmw0]) (by simp) ((prv_row3 hw rfl hr 2 1 6 rfl).trans ?_)
      rw [rpl_a3 hz, opv_reg (r := a) rfl, opv_reg (r := dst) rfl, opv_mem hi]
      simp [List.append_assoc]
  · cases acq <;> cases rel
    · have hr := fnd_6 (i := ⟨6, dst, a, -1, 0, loc, off, index, size, 1, false, false, false, 0, 0, 0, false⟩) rfl
      rw [find_skip (fitr_no (by simp)), find_skip (fitr_no (by simp)), find_skip (fitr_no (by simp)), find_skip (fitr_no (by simp)), find_take (fitr_yes rfl (by simp [showsR, lacks, regP]; omega))] at hr
      refine bothV (t := [76, 68, 65, 68, 68] ++ tlA size ++ [] ++ [32] ++ nameA a ++ [44] ++ nameA dst ++ [44] ++ kmem0 (frO ⟨6, dst, a, -1, 0, loc, off, index, size, 1, false, false, false, 0, 0, 0, false⟩)) hw (by simp [txtW, ktxt0, frO, kacc0, krmw0]) (by simp) ((prv_row3 hw rfl hr 2 1 6 rfl).trans ?_)
      rw [rpl_a4 hz, opv_reg (r := a) rfl, opv_reg (r := dst) rfl, opv_mem hi]
      simp [List.append_assoc]
    · have hr := fnd_6 (i := ⟨6, dst, a, -1, 0, loc, off, index, size, 1, false, false, true, 0, 0, 0, false⟩) rfl
      rw [find_skip (fitr_no (by simp)), find_skip (fitr_no (by simp)), find_skip (fitr_no (by simp)), find_skip (fitr_no (by simp)), find_skip (fitr_no (by simp)), find_skip (fitr_no (by simp)), find_take (fitr_yes rfl (by simp [showsR, lacks, regP]; omega))] at hr
      refine bothV (t := [76, 68, 65, 68, 68, 76] ++ tlA size ++ [] ++ [32] ++ nameA a ++ [44] ++ nameA dst ++ [44] ++ kmem0 (frO ⟨6, dst, a, -1, 0, loc, off, index, size, 1, false, false, true, 0, 0, 0, false⟩)) hw (by simp [txtW, ktxt0, frO, kacc0, krmw0]) (by simp) ((prv_row3 hw rfl hr 2 1 6 rfl).trans ?_)
      rw [rpl_a6 hz, opv_reg (r := a) rfl, opv_reg (r := dst) rfl, opv_mem hi]
      simp [List.append_assoc]
    · have hr := fnd_6 (i := ⟨6, dst, a, -1, 0, loc, off, index, size, 1, true, false, false, 0, 0, 0, false⟩) rfl
      rw [find_skip (fitr_no (by simp)), find_skip (fitr_no (by simp)), find_skip (fitr_no (by simp)), find_skip (fitr_no (by simp)), find_skip (fitr_no (by simp)), find_take (fitr_yes rfl (by simp [showsR, lacks, regP]; omega))] at hr
      refine bothV (t := [76, 68, 65, 68, 68, 65] ++ tlA size ++ [] ++ [32] ++ nameA a ++ [44] ++ nameA dst ++ [44] ++ kmem0 (frO ⟨6, dst, a, -1, 0, loc, off, index, size, 1, true, false, false, 0, 0, 0, false⟩)) hw (by simp [txtW, ktxt0, frO, kacc0, krmw0]) (by simp) ((prv_row3 hw rfl hr 2 1 6 rfl).trans ?_)
      rw [rpl_a5 hz, opv_reg (r := a) rfl, opv_reg (r := dst) rfl, opv_mem hi]
      simp [List.append_assoc]
    · have hr := fnd_6 (i := ⟨6, dst, a, -1, 0, loc, off, index, size, 1, true, false, true, 0, 0, 0, false⟩) rfl
      rw [find_skip (fitr_no (by simp)), find_skip (fitr_no (by simp)), find_skip (fitr_no (by simp)), find_skip (fitr_no (by simp)), find_skip (fitr_no (by simp)), find_skip (fitr_no (by simp)), find_skip (fitr_no (by simp)), find_take (fitr_yes rfl (by simp [showsR, lacks, regP]; omega))] at hr
      refine bothV (t := [76, 68, 65, 68, 68, 65, 76] ++ tlA size ++ [] ++ [32] ++ nameA a ++ [44] ++ nameA dst ++ [44] ++ kmem0 (frO ⟨6, dst, a, -1, 0, loc, off, index, size, 1, true, false, true, 0, 0, 0, false⟩)) hw (by simp [txtW, ktxt0, frO, kacc0, krmw0]) (by simp) ((prv_row3 hw rfl hr 2 1 6 rfl).trans ?_)
      rw [rpl_a7 hz, opv_reg (r := a) rfl, opv_reg (r := dst) rfl, opv_mem hi]
      simp [List.append_assoc]
theorem prv_9 {i : Ins} {lb : List UInt8} (hw : wrongB i = false) (ho : i.op = 9) : prL amO i lb = prW i lb := by
  obtain ⟨hp, hs⟩ := plain_of hw
  obtain ⟨op, dst, a, b, imm, loc, off, index, size, fn, acq, weak, rel, pred, succ, to, zero⟩ := i
  simp only at ho; subst ho
  simp [plainF, opB, rdB, wrB, immF] at hp
  obtain ⟨rfl, rfl, rfl, rfl, rfl, rfl, rfl, rfl, rfl, rfl, rfl, rfl, rfl⟩ := hp
  have ha := reg_rng (r := a) (by simpa [soundB] using hs)
  cases zero
  · have hr := fnd_9 (i := ⟨9, -1, a, -1, 0, 0, 0, -1, 0, 0, false, false, false, 0, 0, to, false⟩) rfl
    rw [find_skip (fitr_no (by simp)), find_take (fitr_yes rfl (by simp [showsR, lacks, regP]; omega))] at hr
    refine bothV (t := [67, 66, 78, 90] ++ [32] ++ nameA a ++ [44] ++ lb) hw (by simp [txtW, ktxt0, frO, kbr0]) (by simp) ((prv_row hw hr 2 7 rfl).trans ?_)
    rw [namev_zero, opv_reg (r := a) rfl, opv_lab]
    simp [List.append_assoc]
  · have hr := fnd_9 (i := ⟨9, -1, a, -1, 0, 0, 0, -1, 0, 0, false, false, false, 0, 0, to, true⟩) rfl
    rw [find_take (fitr_yes rfl (by simp [showsR, lacks, regP]; omega))] at hr
    refine bothV (t := [67, 66, 90] ++ [32] ++ nameA a ++ [44] ++ lb) hw (by simp [txtW, ktxt0, frO, kbr0]) (by simp) ((prv_row hw hr 2 7 rfl).trans ?_)
    rw [namev_zero, opv_reg (r := a) rfl, opv_lab]
    simp [List.append_assoc]
theorem prv_eq (i : Ins) (lb : List UInt8) (h7 : i.op ≠ 7) (h8 : i.op ≠ 8) : prL amO i lb = prW i lb := by
  cases hw : wrongB i
  · rcases fields hw with h | h | h | h | h | h | h | h | h
    · exact prv_1 hw h
    · exact prv_2 hw h
    · exact prv_3 hw h
    · exact prv_4 hw h
    · exact prv_5 hw h
    · exact prv_6 hw h
    · exact absurd h h7
    · exact absurd h h8
    · exact prv_9 hw h
  · unfold prL prW; rw [hw, if_pos rfl, if_pos rfl]
end Go.Proofs.YtedlaclfhgneeabGreatDoor.Old
namespace Go.Proofs.YtedlaclfhgneeabGreatDoor
theorem prA_is (i : In) (lb : List UInt8) : prA i lb = Old.prW (toO i) lb := by
  have h := Old.wrong_asb (toO i)
  have e : Old.txtW (toO i) lb = ktxt0 i lb := rfl
  have e9 : (toO i).op = i.op := rfl
  have eq : (eqL (ktxt0 i lb) [] = true) = (ktxt0 i lb = []) := propext ⟨eqL_eq, fun h => by rw [h]; exact eqL_same _⟩
  unfold prA Old.prW
  rw [e, e9, ← one_o]
  simp only [eq]
  by_cases ho : i.op = 9
  · have ea : Old.asB (toO i) = toO ({ i with to_ := 1 } : In) := Old.asb_yes (by rw [e9, ho]; rfl)
    rw [ea] at h
    rw [if_pos ho]
    cases hw : Old.wrongB (toO i)
    · rw [hw] at h
      have h0 : Old.rightR (toO ({ i with to_ := 1 } : In)) 0 1 = 0 := by simpa using h
      rw [if_pos h0]; simp [ho]
    · rw [hw] at h
      have h0 : ¬ Old.rightR (toO ({ i with to_ := 1 } : In)) 0 1 = 0 := by simpa using h
      rw [if_neg h0]; simp
  · have ea : Old.asB (toO i) = toO i := Old.asb_no (by rw [e9]; simpa using ho)
    rw [ea] at h
    rw [if_neg ho]
    cases hw : Old.wrongB (toO i)
    · rw [hw] at h
      have h0 : Old.rightR (toO i) 0 1 = 0 := by simpa using h
      rw [if_pos h0]; simp [ho]
    · rw [hw] at h
      have h0 : ¬ Old.rightR (toO i) 0 1 = 0 := by simpa using h
      rw [if_neg h0]; simp
theorem pra_7l {pred succ : Int} (lb : List UInt8) (h1 : pred = 1 ∨ pred = 2 ∨ pred = 3) (h2 : succ = 1 ∨ succ = 2 ∨ succ = 3) : prP armG armC (⟨7, -1, -1, -1, 0, 0, 0, -1, 0, 0, false, false, false, pred, succ, 0, false⟩ : In) lb = prA (⟨7, -1, -1, -1, 0, 0, 0, -1, 0, 0, false, false, false, pred, succ, 0, false⟩ : In) lb := by
  rcases h1 with rfl | rfl | rfl <;> rcases h2 with rfl | rfl | rfl <;> kernel_rfl
set_option linter.unusedSimpArgs false
theorem pra_78 (i : In) (lb : List UInt8) (h : i.op = 7 ∨ i.op = 8) : prP armG armC i lb = prA i lb := by
  cases hw : Old.wrongB (toO i) with
  | true =>
    rw [prA_is]
    unfold prP Old.prW
    rw [wrong_o, hw, if_pos rfl, if_pos rfl]
  | false =>
    obtain ⟨hp, hs⟩ := Old.plain_of hw
    obtain ⟨op, dst, a, b, imm, loc, off, ix, sz, fn, acq, weak, rel, pred, succ, to_, zero⟩ := i
    rcases h with h | h
    · simp only at h; subst h
      simp [Old.plainF, Old.opB, Old.rdB, Old.wrB, Old.immF, toO] at hp
      obtain ⟨rfl, rfl, rfl, rfl, rfl, rfl, rfl, rfl, rfl, rfl, rfl, rfl, rfl, rfl⟩ := hp
      have hs2 : (pred = 1 ∨ pred = 2 ∨ pred = 3) ∧ (succ = 1 ∨ succ = 2 ∨ succ = 3) := by
        have : Old.fenB pred = true ∧ Old.fenB succ = true := by simpa [Old.soundB, toO] using hs
        simp only [Old.fenB, Bool.or_eq_true, beq_iff_eq] at this
        omega
      exact pra_7l lb hs2.1 hs2.2
    · simp only at h; subst h
      simp [Old.plainF, Old.opB, Old.rdB, Old.wrB, Old.immF, toO] at hp
      obtain ⟨rfl, rfl, rfl, rfl, rfl, rfl, rfl, rfl, rfl, rfl, rfl, rfl, rfl, rfl, rfl, rfl⟩ := hp
      kernel_rfl
theorem pra_ref (i : In) (lb : List UInt8) : prP armG armC i lb = prA i lb := by
  by_cases h7 : i.op = 7
  · exact pra_78 i lb (.inl h7)
  · by_cases h8 : i.op = 8
    · exact pra_78 i lb (.inr h8)
    · exact (prO_v i lb h7).trans ((Old.prv_eq _ _ h7 h8).trans (prA_is i lb).symm)
end Go.Proofs.YtedlaclfhgneeabGreatDoor
namespace Go.Proofs.YtedlaclfhgneeabGreatDoor.Old
open Go.RowKit
set_option linter.unusedVariables false
set_option linter.unusedSimpArgs false
set_option linter.unusedSectionVars false
theorem regA_kn {L : List Tk} (t : Rs) : regG regA L t = knR L regsA t := rfl
section
variable {L : List Tk} {g : Lg} {s : Rs} {i : Ins} {y : Tk}
-- offe_no
theorem offe_noV (h : plusR L s = false) : offG regA L s i = (s, i) := by unfold offG; rw [if_neg (by simp [h])]
-- offe_yes
theorem offe_yesV (h : plusR L s = true) : offG regA L s i = idxG regA L ⟨s.e, s.a, s.p + 1⟩ i := by unfold offG; rw [if_pos h]
-- meme_no
theorem meme_noV (h : plusR L s = false) : memEG regA L s i = (s, i) := by unfold memEG; rw [if_neg (by simp [h])]
-- meme_none
theorem meme_noneV (h : plusR L s = true) (hn : L.length ≤ s.p + 1) : memEG regA L s i = idxG regA L ⟨s.e, s.a, s.p + 1⟩ i := by unfold memEG; rw [if_pos h, List.getElem?_eq_none hn]
-- meme_reg
theorem meme_regA (h : plusR L s = true) (hy : L[s.p + 1]? = some y) (hk : (y.kind == 2) = false) : memEG regA L s i = idxG regA L ⟨s.e, s.a, s.p + 1⟩ i := by unfold memEG; rw [if_pos h, hy]; simp [hk]
-- meme_num
theorem meme_numV (h : plusR L s = true) (hy : L[s.p + 1]? = some y) (hk : (y.kind == 2) = true) : memEG regA L s i = offG regA L ⟨s.e, s.a, s.p + 1 + 1⟩ { i with off := y.n } := by unfold memEG; rw [if_pos h, hy]; simp [hk]
-- mem_skip
theorem mem_skipV (h : (s.e == 0) = false) : memIG regA L s i = (s, i) := by unfold memIG; rw [if_neg (by simp [h])]
-- mem_none
theorem mem_noneV (h : (s.e == 0) = true) (hn : L.length ≤ s.p) : memIG regA L s i = (oddR L true s, i) := by unfold memIG; rw [if_pos h, List.getElem?_eq_none hn]
-- mem_kind
theorem mem_kindV (h : (s.e == 0) = true) (hy : L[s.p]? = some y) (hk : (y.kind == 1) = false) : memIG regA L s i = (oddR L true s, i) := by unfold memIG; rw [if_pos h, hy]; simp [hk]
-- mem_word
theorem mem_wordV (h : (s.e == 0) = true) (hy : L[s.p]? = some y) (hf : decide (locF y.text < 0) = true) : memIG regA L s i = (oddR L true s, i) := by unfold memIG; rw [if_pos h, hy]; simp only [hf, Bool.not_true, Bool.and_false, Bool.false_eq_true, if_false]
-- mem_yes
theorem mem_yesV (h : (s.e == 0) = true) (hy : L[s.p]? = some y) (hk : (y.kind == 1) = true) (hf : decide (locF y.text < 0) = false) : memIG regA L s i = closeR L (memEG regA L ⟨s.e, s.a, s.p + 1⟩ { i with loc := locF y.text }) := by unfold memIG; rw [if_pos h, hy]; simp only [hk, hf, Bool.not_false, Bool.and_true, if_true]
-- mem_idx
theorem mem_idxV (hr : g.regs = regsA) {s : Ps} {t : Rs} {i : Ins} (h : Mem s t i) : Mem (idxP g L s) (idxG regA L t i).1 (idxG regA L t i).2 := by
  obtain ⟨h1, h2⟩ := h
  have hk := sim_known (L := L) (ls := regsA) h1
  have hkp := (known_keeps (L := L) (ls := regsA) (s := s)).1
  unfold idxP idxG
  rw [hr, regA_kn]
  refine ⟨sim_set hk.1 rfl rfl rfl, fun he => ?_⟩
  have ht : t.e = 0 := by
    cases hte : decide (t.e = 0)
    · have : t.e ≠ 0 := of_decide_eq_false hte
      rw [kn_skip this] at he; exact absurd he this
    · exact of_decide_eq_true hte
  obtain ⟨a1, a2, a3⟩ := h2 ht
  exact ⟨by show (knownP L regsA s).1.ins.loc = i.loc; rw [hkp]; exact a1, by show (knownP L regsA s).1.ins.off = i.off; rw [hkp]; exact a2, hk.2 he⟩
-- mem_off
theorem mem_offV (hr : g.regs = regsA) {s : Ps} {t : Rs} {i : Ins} (h : Mem s t i) : Mem (offP g L s) (offG regA L t i).1 (offG regA L t i).2 := by
  have hp := plusR_is (L := L) h.1
  by_cases he : t.e = 0
  · obtain ⟨hs0, hsp⟩ := sim_p h.1 he
    rw [hs0] at hp
    cases hrd : reads L [43] s.p
    · rw [hrd] at hp
      rw [offe_noV hp]; unfold offP; rw [if_neg (by simp [hrd])]; exact h
    · rw [hrd] at hp
      rw [offe_yesV hp]; unfold offP; rw [if_pos hrd]
      exact mem_idxV hr ⟨.inl ⟨hs0, he, by show s.p + 1 = t.p + 1; omega⟩, fun _ => h.2 he⟩
  · have hs : s.e ≠ 0 := (sim_ne h.1).2 he
    have : plusR L t = false := by rw [hp]; simp [hs]
    rw [offe_noV this]
    exact ⟨(off_bad hs).sim hs h.1, fun e => absurd e he⟩
-- mem_plus
theorem mem_plusV (hr : g.regs = regsA) {s : Ps} {t : Rs} {i : Ins} (h : Mem s t i) : Mem (plusP g L s) (memEG regA L t i).1 (memEG regA L t i).2 := by
  have hp := plusR_is (L := L) h.1
  by_cases he : t.e = 0
  · obtain ⟨hs0, hsp⟩ := sim_p h.1 he
    rw [hs0] at hp
    cases hrd : reads L [43] s.p
    · rw [hrd] at hp
      rw [meme_noV hp]; unfold plusP; rw [if_neg (by simp [hrd])]; exact h
    · rw [hrd] at hp
      unfold plusP; rw [if_pos hrd]
      unfold numOff
      have hs1 : Mem (atP s (s.p + 1)) ⟨t.e, t.a, t.p + 1⟩ i := ⟨.inl ⟨hs0, he, by show s.p + 1 = t.p + 1; omega⟩, fun _ => h.2 he⟩
      cases hy : L[s.p + 1]? with
      | none =>
        have hn : L.length ≤ t.p + 1 := by have : L.length ≤ s.p + 1 := by simpa using hy
                                           omega
        rw [meme_noneV hp hn, if_neg (by show ¬ isNumP L (s.p + 1) = true; unfold isNumP; rw [hy]; simp)]
        exact mem_idxV hr hs1
      | some y =>
        have hyt : L[t.p + 1]? = some y := by rw [← hsp]; exact hy
        cases hk : (y.kind == 2)
        · rw [meme_regA hp hyt hk, if_neg (by show ¬ isNumP L (s.p + 1) = true; rw [isnum_is hy, hk]; simp)]
          exact mem_idxV hr hs1
        · rw [meme_numV hp hyt hk, if_pos (by show isNumP L (s.p + 1) = true; rw [isnum_is hy, hk])]
          have e1 : numP1 L (s.p + 1) = some (y.n, s.p + 1 + 1) := by unfold numP1; rw [hy]; simp only [hk, if_true]
          have e2 : nbQ L (atP s (s.p + 1)).p = s.p + 1 + 1 := by show nbQ L (s.p + 1) = _; unfold nbQ; rw [e1]; rfl
          have e3 : nbV L (atP s (s.p + 1)).p = y.n := by show nbV L (s.p + 1) = _; unfold nbV; rw [e1]; rfl
          rw [e2, e3]
          exact mem_offV hr ⟨.inl ⟨hs0, he, by show s.p + 1 + 1 = t.p + 1 + 1; omega⟩, fun _ => ⟨(h.2 he).1, rfl, (h.2 he).2.2⟩⟩
  · have hs : s.e ≠ 0 := (sim_ne h.1).2 he
    have : plusR L t = false := by rw [hp]; simp [hs]
    rw [meme_noV this]
    exact ⟨(plus_bad hs).sim hs h.1, fun e => absurd e he⟩
-- memI_kn
theorem memi_knV {t : Rs} {i : Ins} (he : (knR L locsX t).1.e = 0) : memIG regA L t i = closeR L (memEG regA L (knR L locsX t).1 { i with loc := (knR L locsX t).2 }) := by
  have ht : t.e = 0 := by
    cases hte : decide (t.e = 0)
    · have : t.e ≠ 0 := of_decide_eq_false hte
      rw [kn_skip this] at he; exact absurd he this
    · exact of_decide_eq_true hte
  have ht0 : (t.e == 0) = true := by simpa using ht
  cases hy : L[t.p]? with
  | none => rw [kn_none ht0 (by simpa using hy)] at he; exact absurd he (by have := odd_e (L := L) (u := true) ht0; simpa using this)
  | some y =>
    cases hk : (y.kind == 1)
    · rw [kn_kind ht0 hy hk] at he; exact absurd he (by have := odd_e (L := L) (u := true) ht0; simpa using this)
    · cases hd : decide (idxL locsX y.text 0 < 0)
      · rw [kn_yes ht0 hy hk hd]; exact mem_yesV ht0 hy hk hd
      · rw [kn_word ht0 hy hd] at he; exact absurd he (by have := odd_e (L := L) (u := true) ht0; simpa using this)
-- memI_no
theorem memi_noV {t : Rs} {i : Ins} (he : (knR L locsX t).1.e ≠ 0) : memIG regA L t i = ((knR L locsX t).1, i) := by
  by_cases ht : t.e = 0
  · have ht0 : (t.e == 0) = true := by simpa using ht
    cases hy : L[t.p]? with
    | none => rw [kn_none ht0 (by simpa using hy), mem_noneV ht0 (by simpa using hy)]
    | some y =>
      cases hk : (y.kind == 1)
      · rw [kn_kind ht0 hy hk, mem_kindV ht0 hy hk]
      · cases hd : decide (idxL locsX y.text 0 < 0)
        · rw [kn_yes ht0 hy hk hd] at he; exact absurd ht he
        · rw [kn_word ht0 hy hd, mem_wordV ht0 hy hd]
  · rw [kn_skip ht, mem_skipV (by simpa using ht)]
-- sim_mem
theorem sim_memV (hr : g.regs = regsA) {s : Ps} {t : Rs} {i : Ins} (h : Sim s t) (ho : s.ins.off = i.off) (hi : i.index = -1) : Mem (memP g L s) (memG regA L t i).1 (memG regA L t i).2 := by
  have h1 := sim_mark (L := L) (m := [91]) h
  have h2 := sim_known (L := L) (ls := locsX) h1
  have hk : (mem0P L s).ins.off = s.ins.off := by
    show (knownP L locsX (markP L [91] s)).1.ins.off = s.ins.off
    rw [(known_keeps (L := L) (ls := locsX)).1, (mark_keeps (L := L)).1]
  have h3 : Sim (mem0P L s) (knR L locsX (markR L [91] t)).1 := sim_set h2.1 rfl rfl rfl
  unfold memP memG
  by_cases he : (knR L locsX (markR L [91] t)).1.e = 0
  · rw [memi_knV he]
    have h4 : Mem (mem0P L s) (knR L locsX (markR L [91] t)).1 { i with loc := (knR L locsX (markR L [91] t)).2 } := ⟨h3, fun _ => ⟨h2.2 he, by rw [hk]; exact ho, hi.symm⟩⟩
    have h5 := mem_plusV (L := L) hr h4
    unfold closeR
    refine ⟨sim_mark h5.1, fun e => ?_⟩
    rw [(mark_keeps (L := L)).1]
    refine h5.2 ?_
    by_cases hz : (memEG regA L (knR L locsX (markR L [91] t)).1 { i with loc := (knR L locsX (markR L [91] t)).2 }).1.e = 0
    · exact hz
    · have e : (markR L [93] (memEG regA L (knR L locsX (markR L [91] t)).1 { i with loc := (knR L locsX (markR L [91] t)).2 }).1).e = 0 := e
      rw [mark_skip (by simpa using hz)] at e; exact e
  · rw [memi_noV he]
    have hs : (mem0P L s).e ≠ 0 := (sim_ne h3).2 he
    have hb := (plus_bad (g := g) (L := L) hs).trans (mark_bad (L := L) (m := [93]) ((plus_bad (g := g) (L := L) hs).ne hs))
    exact ⟨hb.sim hs h3, fun e => absurd e he⟩
-- lk_offE
theorem lk_offEV {t : Rs} {i : Ins} : Lk i (offG regA L t i).2 := by unfold offG; split <;> rfl
-- lk_memE
theorem lk_memeV {t : Rs} {i : Ins} : Lk i (memEG regA L t i).2 := by
  unfold memEG; split
  · split
    · split
      · exact Lk.trans (show Lk i { i with off := _ } from rfl) lk_offEV
      · rfl
    · rfl
  · rfl
-- lk_memR
theorem lk_memrV {t : Rs} {i : Ins} : Lk i (memG regA L t i).2 := by
  unfold memG
  by_cases he : (knR L locsX (markR L [91] t)).1.e = 0
  · rw [memi_knV he]; exact Lk.trans (show Lk i { i with loc := _ } from rfl) lk_memeV
  · rw [memi_noV he]; rfl
-- memR_no
theorem memr_noV {t : Rs} {i : Ins} (h : (markR L [91] t).e ≠ 0) : (memG regA L t i).1 = markR L [91] t := by
  unfold memG; rw [memi_noV (by rw [kn_skip h]; exact h), kn_skip h]
-- no_mem
theorem no_memV (hW : WF L) {s : Ps} {t : Rs} (h : Sim s t) {i : Ins} (hb : isMarkB (wordAt L s.p) [91] = false) : Sim (refP L 22 s) (memG regA L t i).1 ∧ (memG regA L t i).1.e ≠ 0 := by
  have h1 := sim_mark (L := L) (m := [91]) h
  have hr : reads L [91] s.p = false := by rw [word_reads hW (by decide)]; exact hb
  have e1 : markP L [91] s = refP L 22 s := by unfold markP; rw [if_neg (by rw [hr]; decide)]
  rw [e1] at h1
  have hne := (sim_ne h1).1 ref_ne
  rw [memr_noV hne]; exact ⟨h1, hne⟩
-- no_reg
end
section
variable {L : List Tk} {g : Lg} {r : Rw} {f k : Nat} {s : Ps} {t t' te : Rs} {p : Int} {i : Ins} {lab : List UInt8}
theorem one_go (hp : r.parts[k]? = some p) : instL g L (f + 1) k [r] s = if beginsB g p (wordAt L (commaP L k s).p) = true then instL g L f (k + 1) [r] (partP g L p (commaP L k s)) else (refP L 22 (commaP L k s), []) := by
  have hk : k < r.parts.length := (List.getElem?_eq_some_iff.1 hp).1
  have hst : (!strikes g k (wordAt L (commaP L k s).p) r) = beginsB g p (wordAt L (commaP L k s).p) := by unfold strikes; rw [hp]; simp only [Bool.not_not]
  have hl : leftR g L k [r] (commaP L k s) = if beginsB g p (wordAt L (commaP L k s).p) = true then [r] else [] := by
    unfold leftR; simp only [List.filter_cons, List.filter_nil, hst]
  have e : instL g L (f + 1) k [r] s = if decide (((k : Nat) : Int) < ((r.parts.length : Nat) : Int)) = true then instL g L f (k + 1) (leftR g L k [r] (commaP L k s)) (part0 g L k (leftR g L k [r] (commaP L k s)) (begP g L k [r] (commaP L k s))) else (s, [r]) := rfl
  rw [e, if_pos (decide_eq_true (by omega))]
  cases hb : beginsB g p (wordAt L (commaP L k s).p)
  · rw [hb, if_neg (by decide)] at hl
    rw [beg_none' hl, hl, inst_nil, if_neg (by decide)]; rfl
  · rw [hb, if_pos rfl] at hl
    rw [begP_some hl, hl, if_pos rfl]
    show instL g L f (k + 1) [r] (match r.parts[k]? with | some p => partP g L p (commaP L k s) | none => commaP L k s) = _
    rw [hp]
theorem one_end (hp : r.parts.length = k) : instL g L (f + 1) k [r] s = (s, [r]) := by
  have e : instL g L (f + 1) k [r] s = if decide (((k : Nat) : Int) < ((r.parts.length : Nat) : Int)) = true then instL g L f (k + 1) (leftR g L k [r] (commaP L k s)) (part0 g L k (leftR g L k [r] (commaP L k s)) (begP g L k [r] (commaP L k s))) else (s, [r]) := rfl
  rw [e, if_neg (by rw [decide_eq_false (by omega)]; decide)]
theorem one_step (hp : r.parts[k]? = some p) (no : beginsB g p (wordAt L (commaP L k s).p) = false → Sim (refP L 22 (commaP L k s)) t') (hte : t'.e ≠ 0 → te = t')
    (go : Alike (instL g L f (k + 1) [r] (partP g L p (commaP L k s))) te i lab) : Alike (instL g L (f + 1) k [r] s) te i lab := by
  rw [one_go hp]
  cases hb : beginsB g p (wordAt L (commaP L k s).p)
  · rw [if_neg (by decide)]
    have h := no hb
    have hne := (sim_ne h).1 ref_ne
    rw [hte hne]
    exact ⟨h, fun e => absurd e hne⟩
  · rw [if_pos rfl]; exact go
theorem no_known {ls : List (List UInt8)} (h : Sim s t) (hb : ((wordAt L s.p).kind == 1) = false) : Sim (refP L 22 s) (knR L ls t).1 := by
  have hkn := word_kn (L := L) (ls := ls) hb
  have h1 := (sim_known (L := L) (ls := ls) h).1
  rw [hkn] at h1; exact h1
end
end Go.Proofs.YtedlaclfhgneeabGreatDoor.Old
namespace Go.Proofs.YtedlaclfhgneeabGreatDoor.Old
open Go.RowKit
set_option linter.unusedVariables false
set_option linter.unusedSimpArgs false
set_option linter.unusedSectionVars false
section
variable {L : List Tk} {g : Lg} {r x r1 r2 : Rw} {l m : List Rw} {f k : Nat} {s : Ps} {t t' te : Rs} {p : Int} {i : Ins} {lab : List UInt8}
theorem rows_is (hk : k < r.parts.length) : instL g L (f + 1) k (r :: l) s = instL g L f (k + 1) (leftR g L k (r :: l) (commaP L k s)) (part0 g L k (leftR g L k (r :: l) (commaP L k s)) (begP g L k (r :: l) (commaP L k s))) := by
  have e : instL g L (f + 1) k (r :: l) s = if decide (((k : Nat) : Int) < ((r.parts.length : Nat) : Int)) = true then instL g L f (k + 1) (leftR g L k (r :: l) (commaP L k s)) (part0 g L k (leftR g L k (r :: l) (commaP L k s)) (begP g L k (r :: l) (commaP L k s))) else (s, r :: l) := rfl
  rw [e, if_pos (decide_eq_true (by omega))]
theorem rows_go (hk : k < r.parts.length) (hl : leftR g L k (r :: l) (commaP L k s) = x :: m) (hp : x.parts[k]? = some p) : instL g L (f + 1) k (r :: l) s = instL g L f (k + 1) (x :: m) (partP g L p (commaP L k s)) := by
  rw [rows_is hk, begP_some hl, hl]
  show instL g L f (k + 1) (x :: m) (match x.parts[k]? with | some p => partP g L p (commaP L k s) | none => commaP L k s) = _
  rw [hp]
theorem rows_no (hk : k < r.parts.length) (hl : leftR g L k (r :: l) (commaP L k s) = []) : instL g L (f + 1) k (r :: l) s = (refP L 22 (commaP L k s), []) := by
  rw [rows_is hk, beg_none' hl, hl, inst_nil]; rfl
theorem left_two (h1 : r1.parts[k]? = some p) (h2 : r2.parts[k]? = some p) {s : Ps} : leftR g L k [r1, r2] s = if beginsB g p (wordAt L s.p) = true then [r1, r2] else [] := by
  have e1 : (!strikes g k (wordAt L s.p) r1) = beginsB g p (wordAt L s.p) := by unfold strikes; rw [h1]; simp only [Bool.not_not]
  have e2 : (!strikes g k (wordAt L s.p) r2) = beginsB g p (wordAt L s.p) := by unfold strikes; rw [h2]; simp only [Bool.not_not]
  unfold leftR; simp only [List.filter_cons, List.filter_nil, e1, e2]
  cases beginsB g p (wordAt L s.p) <;> rfl
theorem two_step (h1 : r1.parts[k]? = some p) (h2 : r2.parts[k]? = some p) (no : beginsB g p (wordAt L (commaP L k s).p) = false → Sim (refP L 22 (commaP L k s)) t') (hte : t'.e ≠ 0 → te = t')
    (go : Alike (instL g L f (k + 1) [r1, r2] (partP g L p (commaP L k s))) te i lab) : Alike (instL g L (f + 1) k [r1, r2] s) te i lab := by
  have hk : k < r1.parts.length := (List.getElem?_eq_some_iff.1 h1).1
  have hl := left_two (g := g) (L := L) h1 h2 (s := commaP L k s)
  cases hb : beginsB g p (wordAt L (commaP L k s).p)
  · rw [hb, if_neg (by decide)] at hl
    rw [rows_no hk hl]
    have h := no hb
    have hne := (sim_ne h).1 ref_ne
    rw [hte hne]
    exact ⟨h, fun e => absurd e hne⟩
  · rw [hb, if_pos rfl] at hl
    rw [rows_go hk hl h1]; exact go
theorem left_one (h1 : r1.parts[k]? = some p) {s : Ps} : (!strikes g k (wordAt L s.p) r1) = beginsB g p (wordAt L s.p) := by unfold strikes; rw [h1]; simp only [Bool.not_not]
end
section
variable {L : List Tk} {rI rR : Rw} {Q : List Rw} {f k : Nat} {s : Ps} {t : Rs} {b : Int} {iI iR : Ins} {lab : List UInt8}
theorem imm_sk {t : Rs} (h : t.e ≠ 0) : (immAr L t).1 = t := by
  unfold immAr
  have e : markR L [35] t = t := mark_skip (by simpa using h)
  rw [e]; unfold numS; rw [if_neg (by simpa using h)]
theorem isR_e (h : isR L t [35] = true) : t.e = 0 := by
  unfold isR at h; rw [Bool.and_eq_true] at h; exact eq_of_beq h.1
theorem beg5 (y : Tk) : beginsB amO 5 y = isMarkB y [35] := rfl
theorem begb (hb : b = 2 ∨ b = 3) (y : Tk) : beginsB amO b y = (y.kind == 1) := by rcases hb with rfl | rfl <;> rfl
theorem kn_sk' {t : Rs} (h : t.e ≠ 0) : (regG regA L t).1 = t := by
  show (knR L regsA t).1 = t
  rw [kn_skip h]
theorem two_last (hW : WF L) (hQ : Q = [rI, rR] ∨ Q = [rR, rI]) (hi : rI.parts.length = k + 1 ∧ rI.parts[k]? = some 5) (hr : rR.parts.length = k + 1 ∧ rR.parts[k]? = some b) (hb : b = 2 ∨ b = 3) (hS : Sim (commaP L k s) t)
    (hI : (immAr L t).1.e = 0 → withR rI (partP amO L 5 (commaP L k s)).ins = iI ∧ (partP amO L 5 (commaP L k s)).lab = lab)
    (hR : (regG regA L t).1.e = 0 → withR rR (partP amO L b (commaP L k s)).ins = iR ∧ (partP amO L b (commaP L k s)).lab = lab) :
    (isR L t [35] = true → Alike (instL amO L (f + 1 + 1) k Q s) (immAr L t).1 iI lab) ∧ (isR L t [35] = false → Alike (instL amO L (f + 1 + 1) k Q s) (regG regA L t).1 iR lab) := by
  have eI := left_one (g := amO) (L := L) hi.2 (s := commaP L k s)
  have eR := left_one (g := amO) (L := L) hr.2 (s := commaP L k s)
  rw [beg5] at eI
  rw [begb hb] at eR
  have hlen : ∃ r l, Q = r :: l ∧ k < r.parts.length := by
    rcases hQ with h | h
    · exact ⟨rI, [rR], h, by omega⟩
    · exact ⟨rR, [rI], h, by omega⟩
  have hrd : t.e = 0 → isR L t [35] = isMarkB (wordAt L (commaP L k s).p) [35] := fun h => by
    obtain ⟨_, hp⟩ := sim_p hS h
    rw [hp, ← word_reads hW (by decide)]
    unfold isR; rw [beq_iff_eq.2 h]; rfl
  obtain ⟨q0, ql, hq, hk⟩ := hlen
  cases hm : isMarkB (wordAt L (commaP L k s).p) [35] with
  | true =>
    have hk1 : ((wordAt L (commaP L k s).p).kind == 1) = false := by
      unfold isMarkB at hm; rw [Bool.and_eq_true] at hm; rw [eq_of_beq hm.1]; rfl
    have hl : leftR amO L k Q (commaP L k s) = [rI] := by
      rw [hm] at eI; rw [hk1] at eR
      rcases hQ with h | h <;> rw [h] <;> unfold leftR <;> simp only [List.filter_cons, List.filter_nil, eI, eR] <;> rfl
    have hinst : instL amO L (f + 1 + 1) k Q s = (partP amO L 5 (commaP L k s), [rI]) := by
      rw [hq] at hl ⊢
      rw [rows_go hk hl hi.2, one_end (f := f) (by omega)]
    rw [hinst]
    refine ⟨fun _ => ⟨?_, hI⟩, fun hf => ?_⟩
    · exact sim_set (sim_num hW (sim_mark hS)).1 rfl rfl rfl
    · have hne : t.e ≠ 0 := fun h => by rw [hrd h, hm] at hf; cases hf
      have hs : (commaP L k s).e ≠ 0 := (sim_ne hS).2 hne
      have e : (regG regA L t).1 = t := kn_sk' hne
      rw [e]
      exact ⟨(part_bad hs).sim hs hS, fun h => absurd h hne⟩
  | false =>
    have noI : isR L t [35] = true → False := fun h => by
      rw [hrd (isR_e h), hm] at h; cases h
    cases hk1 : ((wordAt L (commaP L k s).p).kind == 1) with
    | true =>
      have hl : leftR amO L k Q (commaP L k s) = [rR] := by
        rw [hm] at eI; rw [hk1] at eR
        rcases hQ with h | h <;> rw [h] <;> unfold leftR <;> simp only [List.filter_cons, List.filter_nil, eI, eR] <;> rfl
      have hinst : instL amO L (f + 1 + 1) k Q s = (partP amO L b (commaP L k s), [rR]) := by
        rw [hq] at hl ⊢
        rw [rows_go hk hl hr.2, one_end (f := f) (by omega)]
      rw [hinst]
      refine ⟨fun h => absurd h noI, fun _ => ⟨?_, hR⟩⟩
      have h := (sim_known (L := L) (ls := regsA) hS).1
      rcases hb with rfl | rfl <;> exact sim_set h rfl rfl rfl
    | false =>
      have hl : leftR amO L k Q (commaP L k s) = [] := by
        rw [hm] at eI; rw [hk1] at eR
        rcases hQ with h | h <;> rw [h] <;> unfold leftR <;> simp only [List.filter_cons, List.filter_nil, eI, eR] <;> rfl
      have hinst : instL amO L (f + 1 + 1) k Q s = (refP L 22 (commaP L k s), []) := by
        rw [hq] at hl ⊢
        exact rows_no hk hl
      rw [hinst]
      refine ⟨fun h => absurd h noI, fun _ => ?_⟩
      have h : Sim (refP L 22 (commaP L k s)) (knR L regsA t).1 := no_known hS hk1
      exact ⟨h, fun e => absurd e ((sim_ne h).1 ref_ne)⟩
end
section
variable {L : List Tk} {r : Rw} {n p1 p2 p3 : Int} {t1 t2 t3 : Rs} {i : Ins} {lab : List UInt8}
theorem comma0 (s : Ps) : commaP L 0 s = s := rfl
theorem comma1 (s : Ps) : commaP L 1 s = markP L [44] s := rfl
theorem comma2 (s : Ps) : commaP L 2 s = markP L [44] s := rfl
abbrev sM (L : List Tk) (p1 n : Int) : Ps := markP L [44] (partP amO L p1 (sAt n))
theorem form2 (hp : r.parts = [p1, p2])
    (no1 : beginsB amO p1 (wordAt L 1) = false → Sim (refP L 22 (sAt n)) t1) (yes1 : Sim (partP amO L p1 (sAt n)) t1)
    (no2 : Sim (sM L p1 n) (markR L [44] t1) → beginsB amO p2 (wordAt L (sM L p1 n).p) = false → Sim (refP L 22 (sM L p1 n)) t2)
    (yes2 : Sim (sM L p1 n) (markR L [44] t1) → Sim (partP amO L p2 (sM L p1 n)) t2)
    (sk : (markR L [44] t1).e ≠ 0 → t2 = markR L [44] t1)
    (hf : t2.e = 0 → withR r (partP amO L p2 (sM L p1 n)).ins = i ∧ (partP amO L p2 (sM L p1 n)).lab = lab) : Alike (instL amO L 1001 0 [r] (sAt n)) t2 i lab := by
  have hM := sim_mark (L := L) (m := [44]) yes1
  refine one_step (k := 0) (f := 1000) (t' := t1) (p := p1) (by rw [hp]; rfl) (fun h => no1 h) (fun h => ?_) ?_
  · have e : markR L [44] t1 = t1 := mark_skip (by simpa using h)
    rw [e] at sk; exact sk h
  · rw [comma0]
    refine one_step (k := 1) (f := 999) (t' := t2) (p := p2) (by rw [hp]; rfl) (fun h => no2 hM h) (fun _ => rfl) ?_
    rw [comma1, one_end (f := 998) (by rw [hp]; rfl)]
    exact ⟨yes2 hM, fun e => hf e⟩
abbrev sN (L : List Tk) (p1 p2 n : Int) : Ps := markP L [44] (partP amO L p2 (sM L p1 n))
theorem form3 (hp : r.parts = [p1, p2, p3])
    (no1 : beginsB amO p1 (wordAt L 1) = false → Sim (refP L 22 (sAt n)) t1) (yes1 : Sim (partP amO L p1 (sAt n)) t1)
    (no2 : Sim (sM L p1 n) (markR L [44] t1) → beginsB amO p2 (wordAt L (sM L p1 n).p) = false → Sim (refP L 22 (sM L p1 n)) t2)
    (yes2 : Sim (sM L p1 n) (markR L [44] t1) → Sim (partP amO L p2 (sM L p1 n)) t2)
    (sk2 : (markR L [44] t1).e ≠ 0 → t2 = markR L [44] t1)
    (no3 : Sim (sN L p1 p2 n) (markR L [44] t2) → beginsB amO p3 (wordAt L (sN L p1 p2 n).p) = false → Sim (refP L 22 (sN L p1 p2 n)) t3)
    (yes3 : Sim (sN L p1 p2 n) (markR L [44] t2) → Sim (partP amO L p3 (sN L p1 p2 n)) t3)
    (sk3 : (markR L [44] t2).e ≠ 0 → t3 = markR L [44] t2)
    (hf : t3.e = 0 → withR r (partP amO L p3 (sN L p1 p2 n)).ins = i ∧ (partP amO L p3 (sN L p1 p2 n)).lab = lab) : Alike (instL amO L 1001 0 [r] (sAt n)) t3 i lab := by
  have hM := sim_mark (L := L) (m := [44]) yes1
  have hN := sim_mark (L := L) (m := [44]) (yes2 hM)
  have k2 : t2.e ≠ 0 → t3 = t2 := fun h => by
    have e : markR L [44] t2 = t2 := mark_skip (by simpa using h)
    rw [e] at sk3; exact sk3 h
  refine one_step (k := 0) (f := 1000) (t' := t1) (p := p1) (by rw [hp]; rfl) (fun h => no1 h) (fun h => ?_) ?_
  · have e : markR L [44] t1 = t1 := mark_skip (by simpa using h)
    rw [e] at sk2
    have e2 := sk2 h
    rw [k2 (by rw [e2]; exact h), e2]
  · rw [comma0]
    refine one_step (k := 1) (f := 999) (t' := t2) (p := p2) (by rw [hp]; rfl) (fun h => no2 hM h) k2 ?_
    rw [comma1]
    refine one_step (k := 2) (f := 998) (t' := t3) (p := p3) (by rw [hp]; rfl) (fun h => no3 hN h) (fun _ => rfl) ?_
    rw [comma2, one_end (f := 997) (by rw [hp]; rfl)]
    exact ⟨yes3 hN, fun e => hf e⟩
theorem reg1_no (h1 : p1 = 1 ∨ p1 = 2) (h : beginsB amO p1 (wordAt L 1) = false) : Sim (refP L 22 (sAt n)) (knR L regsA tA).1 := by
  refine no_known (sim0 n) ?_
  rcases h1 with rfl | rfl <;> exact h
theorem reg1_yes (h1 : p1 = 1 ∨ p1 = 2) : Sim (partP amO L p1 (sAt n)) (knR L regsA tA).1 := by
  have h := (sim_known (L := L) (ls := regsA) (sim0 n)).1
  rcases h1 with rfl | rfl <;> exact sim_set h rfl rfl rfl
theorem regk_no {s : Ps} {t : Rs} (hp : p2 = 1 ∨ p2 = 2 ∨ p2 = 3) (hs : Sim s t) (h : beginsB amO p2 (wordAt L s.p) = false) : Sim (refP L 22 s) (knR L regsA t).1 := by
  refine no_known hs ?_
  rcases hp with rfl | rfl | rfl <;> exact h
theorem regk_yes {s : Ps} {t : Rs} (hp : p2 = 1 ∨ p2 = 2 ∨ p2 = 3) (hs : Sim s t) : Sim (partP amO L p2 s) (knR L regsA t).1 := by
  have h := (sim_known (L := L) (ls := regsA) hs).1
  rcases hp with rfl | rfl | rfl <;> exact sim_set h rfl rfl rfl
theorem kn_sk {ls : List (List UInt8)} {t : Rs} (h : t.e ≠ 0) : (knR L ls t).1 = t := by rw [kn_skip h]
theorem memk_no (hW : WF L) {s : Ps} {t : Rs} (hs : Sim s t) (h : beginsB amO 6 (wordAt L s.p) = false) : Sim (refP L 22 s) (memG regA L t i).1 := (no_memV hW hs h).1
theorem memk_yes {s : Ps} {t : Rs} (hs : Sim s t) (ho : s.ins.off = i.off) (hi : i.index = -1) : Sim (partP amO L 6 s) (memG regA L t i).1 := (sim_memV (g := amO) rfl hs ho hi).1
theorem mem_sk {t : Rs} (h : t.e ≠ 0) : (memG regA L t i).1 = t := by
  have e : markR L [91] t = t := mark_skip (by simpa using h)
  have := memr_noV (L := L) (t := t) (i := i) (by rw [e]; exact h)
  rw [e] at this; exact this
theorem sm_ins (h1 : p1 = 1) : (sM L p1 n).ins = { zIns with size := n, dst := (knownP L regsA (sAt n)).2 } ∧ (sM L p1 n).lab = [] := by
  subst h1
  have e := known_keeps (L := L) (ls := regsA) (s := sAt n)
  refine ⟨(mark_keeps (L := L)).1.trans ?_, (mark_keeps (L := L)).2.trans ?_⟩
  · show ({ (knownP L regsA (sAt n)).1.ins with dst := (knownP L regsA (sAt n)).2 } : Ins) = _
    rw [e.1]
  · exact e.2
theorem sm_insA (h1 : p1 = 2) : (sM L p1 n).ins = { zIns with size := n, a := (knownP L regsA (sAt n)).2 } ∧ (sM L p1 n).lab = [] := by
  subst h1
  have e := known_keeps (L := L) (ls := regsA) (s := sAt n)
  refine ⟨(mark_keeps (L := L)).1.trans ?_, (mark_keeps (L := L)).2.trans ?_⟩
  · show ({ (knownP L regsA (sAt n)).1.ins with a := (knownP L regsA (sAt n)).2 } : Ins) = _
    rw [e.1]
  · exact e.2
end
def AlA (L : List Tk) (q : List UInt8) (n : Int) (rows : List Rw) : Prop := (armR L tA blank q).1.1 = true ∧ Alike (instL amO L 1001 0 rows (sAt n)) (armR L tA blank q).2.1 (armR L tA blank q).2.2 (armR L tA blank q).1.2
section
variable {L : List Tk} {n k : Int} {nm : List UInt8} {i : Ins}
theorem bk {t t2 : Rs} (sk : t.e ≠ 0 → t2 = t) (h : t2.e = 0) : t.e = 0 := by
  by_cases he : t.e = 0
  · exact he
  · rw [sk he] at h; exact absurd h he
abbrev t1V (L : List Tk) : Rs := (regG regA L tA).1
abbrev m1V (L : List Tk) : Rs := markR L [44] (t1V L)
theorem v1_is (h : (m1V L).e = 0) : (knownP L regsA (sAt n)).2 = (regG regA L tA).2 := (sim_known (L := L) (ls := regsA) (sim0 n)).2 (mark_stop h)
theorem simM (h1 : k = 1 ∨ k = 2) : Sim (sM L k n) (m1V L) := sim_mark (reg1_yes h1)
abbrev t2V (L : List Tk) : Rs := (regG regA L (m1V L)).1
abbrev m2V (L : List Tk) : Rs := markR L [44] (t2V L)
theorem sn_ins : (sN L 1 2 n).ins = { zIns with size := n, dst := (knownP L regsA (sAt n)).2, a := (knownP L regsA (sM L 1 n)).2 } ∧ (sN L 1 2 n).lab = [] := by
  have kp := known_keeps (L := L) (ls := regsA) (s := sM L 1 n)
  have si := sm_ins (L := L) (n := n) (p1 := 1) rfl
  refine ⟨(mark_keeps (L := L)).1.trans ?_, (mark_keeps (L := L)).2.trans ?_⟩
  · show ({ (knownP L regsA (sM L 1 n)).1.ins with a := (knownP L regsA (sM L 1 n)).2 } : Ins) = _
    rw [kp.1, si.1]
  · show (knownP L regsA (sM L 1 n)).1.lab = []
    rw [kp.2]; exact si.2
theorem simN : Sim (sN L 1 2 n) (m2V L) := sim_mark (regk_yes (.inr (.inl rfl)) (simM (.inl rfl)))
theorem v2_is (h : (m2V L).e = 0) : (knownP L regsA (sAt n)).2 = (regG regA L tA).2 ∧ (knownP L regsA (sM L 1 n)).2 = (regG regA L (m1V L)).2 := by
  have h2 : (t2V L).e = 0 := mark_stop h
  have h1 : (m1V L).e = 0 := bk (fun h => kn_sk (ls := regsA) h) h2
  exact ⟨v1_is h1, (sim_known (ls := regsA) (simM (L := L) (n := n) (.inl rfl))).2 h2⟩
theorem sn_ins2 : (sN L 2 1 n).ins = { zIns with size := n, a := (knownP L regsA (sAt n)).2, dst := (knownP L regsA (sM L 2 n)).2 } ∧ (sN L 2 1 n).lab = [] := by
  have kp := known_keeps (L := L) (ls := regsA) (s := sM L 2 n)
  have si := sm_insA (L := L) (n := n) (p1 := 2) rfl
  refine ⟨(mark_keeps (L := L)).1.trans ?_, (mark_keeps (L := L)).2.trans ?_⟩
  · show ({ (knownP L regsA (sM L 2 n)).1.ins with dst := (knownP L regsA (sM L 2 n)).2 } : Ins) = _
    rw [kp.1, si.1]
  · show (knownP L regsA (sM L 2 n)).1.lab = []
    rw [kp.2]; exact si.2
theorem simN2 : Sim (sN L 2 1 n) (m2V L) := sim_mark (regk_yes (.inl rfl) (simM (.inr rfl)))
theorem v2_is2 (h : (m2V L).e = 0) : (knownP L regsA (sAt n)).2 = (regG regA L tA).2 ∧ (knownP L regsA (sM L 2 n)).2 = (regG regA L (m1V L)).2 := by
  have h2 : (t2V L).e = 0 := mark_stop h
  have h1 : (m1V L).e = 0 := bk (fun h => kn_sk (ls := regsA) h) h2
  exact ⟨v1_is h1, (sim_known (ls := regsA) (simM (L := L) (n := n) (.inr rfl))).2 h2⟩
theorem im_is (hW : WF L) {S : Ps} {t : Rs} (hS : Sim S t) (h : (immAr L t).1.e = 0) : (partP amO L 5 S).ins = { S.ins with imm := (immAr L t).2 } ∧ (partP amO L 5 S).lab = S.lab := by
  have v := (sim_num hW (sim_mark (L := L) (m := [35]) hS)).2 h
  have kp := num_keeps (L := L) (s := markP L [35] S)
  constructor
  · show ({ (numP L (markP L [35] S)).1.ins with imm := (numP L (markP L [35] S)).2 } : Ins) = _
    rw [kp.1, (mark_keeps (L := L)).1, v]; rfl
  · show (numP L (markP L [35] S)).1.lab = _
    rw [kp.2, (mark_keeps (L := L)).2]
theorem ar_mov (hW : WF L) : AlA L [77, 79, 86] 0 [(⟨[77, 79, 86], ⟨1, 0, 0, 0, 0, 0, 0, 0, 0, 0, false, false, false, 0, 0, 0, false⟩, nilV, [1, 5]⟩ : Rw), (⟨[77, 79, 86], ⟨2, 0, 0, 0, 0, 0, 0, 0, 0, 0, false, false, false, 0, 0, 0, false⟩, nilV, [1, 2]⟩ : Rw)] := by
  have e : armR L tA blank [77, 79, 86] = if isR L (m1V L) [35] = true then ((true, []), (immAr L (m1V L)).1, Ins.mk 1 (regG regA L tA).2 (-1) (-1) (immAr L (m1V L)).2 0 0 (-1) 0 0 false false false 0 0 0 false) else ((true, []), (regG regA L (m1V L)).1, Ins.mk 2 (regG regA L tA).2 (regG regA L (m1V L)).2 (-1) 0 0 0 (-1) 0 0 false false false 0 0 0 false) := by
    unfold armR; rw [if_pos rfl]; rfl
  have si := sm_ins (L := L) (n := 0) (p1 := 1) rfl
  have H := two_last (f := 998) (k := 1) (b := 2) (s := partP amO L 1 (sAt 0)) (t := m1V L) hW (.inl rfl) (rI := (⟨[77, 79, 86], ⟨1, 0, 0, 0, 0, 0, 0, 0, 0, 0, false, false, false, 0, 0, 0, false⟩, nilV, [1, 5]⟩ : Rw)) (rR := (⟨[77, 79, 86], ⟨2, 0, 0, 0, 0, 0, 0, 0, 0, 0, false, false, false, 0, 0, 0, false⟩, nilV, [1, 2]⟩ : Rw)) ⟨rfl, rfl⟩ ⟨rfl, rfl⟩ (.inl rfl) (simM (.inl rfl))
    (iI := Ins.mk 1 (regG regA L tA).2 (-1) (-1) (immAr L (m1V L)).2 0 0 (-1) 0 0 false false false 0 0 0 false) (iR := Ins.mk 2 (regG regA L tA).2 (regG regA L (m1V L)).2 (-1) 0 0 0 (-1) 0 0 false false false 0 0 0 false) (lab := [])
    (fun h => by
      have hm : (m1V L).e = 0 := bk (fun h => imm_sk h) h
      have q := im_is hW (simM (L := L) (n := 0) (.inl rfl)) h
      exact ⟨(congrArg _ q.1).trans (by rw [si.1, v1_is hm]; rfl), q.2.trans si.2⟩)
    (fun h => by
      have hm : (m1V L).e = 0 := bk (fun h => kn_sk (ls := regsA) h) h
      have v2 := (sim_known (ls := regsA) (simM (L := L) (n := 0) (.inl rfl))).2 h
      have kp := known_keeps (L := L) (ls := regsA) (s := sM L 1 0)
      constructor
      · show withR _ ({ (knownP L regsA (sM L 1 0)).1.ins with a := (knownP L regsA (sM L 1 0)).2 } : Ins) = _
        rw [kp.1, si.1, v1_is hm, v2]; rfl
      · show (knownP L regsA (sM L 1 0)).1.lab = []
        rw [kp.2]; exact si.2)
  have sk : ∀ te : Rs, ((m1V L).e ≠ 0 → te = m1V L) → (t1V L).e ≠ 0 → te = t1V L := fun te h hne => by
    have e : m1V L = t1V L := mark_skip (by simpa using hne)
    rw [e] at h; exact h hne
  unfold AlA
  rw [e]
  cases hi : isR L (m1V L) [35]
  · rw [if_neg (by decide)]
    refine ⟨rfl, two_step (k := 0) (f := 1000) (p := 1) (t' := t1V L) rfl rfl (fun h => reg1_no (.inl rfl) h) (sk _ (fun h => kn_sk (ls := regsA) h)) ?_⟩
    rw [comma0]; exact H.2 hi
  · rw [if_pos rfl]
    refine ⟨rfl, two_step (k := 0) (f := 1000) (p := 1) (t' := t1V L) rfl rfl (fun h => reg1_no (.inl rfl) h) (sk _ (fun h => imm_sk h)) ?_⟩
    rw [comma0]; exact H.1 hi
theorem ar_alu (hW : WF L) {q : List UInt8} (e : armR L tA blank q = if isR L (m2V L) [35] = true then ((true, []), (immAr L (m2V L)).1, Ins.mk 3 (regG regA L tA).2 (regG regA L (m1V L)).2 (-1) (immAr L (m2V L)).2 0 0 (-1) 0 k false false false 0 0 0 false) else ((true, []), (regG regA L (m2V L)).1, Ins.mk 3 (regG regA L tA).2 (regG regA L (m1V L)).2 (regG regA L (m2V L)).2 0 0 0 (-1) 0 k false false false 0 0 0 false)) : AlA L q 0 [(⟨nm, ⟨3, 0, 0, 0, 0, 0, 0, 0, 0, k, false, false, false, 0, 0, 0, false⟩, nilV, [1, 2, 3]⟩ : Rw), (⟨nm, ⟨3, 0, 0, 0, 0, 0, 0, 0, 0, k, false, false, false, 0, 0, 0, false⟩, nilV, [1, 2, 5]⟩ : Rw)] := by
  have si := sn_ins (L := L) (n := 0)
  have H := two_last (f := 997) (k := 2) (b := 3) (s := partP amO L 2 (sM L 1 0)) (t := m2V L) hW (.inr rfl) (rI := (⟨nm, ⟨3, 0, 0, 0, 0, 0, 0, 0, 0, k, false, false, false, 0, 0, 0, false⟩, nilV, [1, 2, 5]⟩ : Rw)) (rR := (⟨nm, ⟨3, 0, 0, 0, 0, 0, 0, 0, 0, k, false, false, false, 0, 0, 0, false⟩, nilV, [1, 2, 3]⟩ : Rw)) ⟨rfl, rfl⟩ ⟨rfl, rfl⟩ (.inr rfl) simN
    (iI := Ins.mk 3 (regG regA L tA).2 (regG regA L (m1V L)).2 (-1) (immAr L (m2V L)).2 0 0 (-1) 0 k false false false 0 0 0 false) (iR := Ins.mk 3 (regG regA L tA).2 (regG regA L (m1V L)).2 (regG regA L (m2V L)).2 0 0 0 (-1) 0 k false false false 0 0 0 false) (lab := [])
    (fun h => by
      have hm : (m2V L).e = 0 := bk (fun h => imm_sk h) h
      have q := im_is hW (simN (L := L) (n := 0)) h
      exact ⟨(congrArg _ q.1).trans (by rw [si.1, (v2_is hm).1, (v2_is hm).2]; rfl), q.2.trans si.2⟩)
    (fun h => by
      have hm : (m2V L).e = 0 := bk (fun h => kn_sk (ls := regsA) h) h
      have v3 := (sim_known (ls := regsA) (simN (L := L) (n := 0))).2 h
      have kp := known_keeps (L := L) (ls := regsA) (s := sN L 1 2 0)
      constructor
      · show withR _ ({ (knownP L regsA (sN L 1 2 0)).1.ins with b := (knownP L regsA (sN L 1 2 0)).2 } : Ins) = _
        rw [kp.1, si.1, (v2_is hm).1, (v2_is hm).2, v3]; rfl
      · show (knownP L regsA (sN L 1 2 0)).1.lab = []
        rw [kp.2]; exact si.2)
  have sk2 : ∀ te : Rs, ((m2V L).e ≠ 0 → te = m2V L) → (t2V L).e ≠ 0 → te = t2V L := fun te h hne => by
    have e : m2V L = t2V L := mark_skip (by simpa using hne)
    rw [e] at h; exact h hne
  have sk1 : ∀ te : Rs, ((t2V L).e ≠ 0 → te = t2V L) → (t1V L).e ≠ 0 → te = t1V L := fun te h hne => by
    have e1 : m1V L = t1V L := mark_skip (by simpa using hne)
    have e2 : t2V L = t1V L := (kn_sk (ls := regsA) (L := L) (t := m1V L) (by rw [e1]; exact hne)).trans e1
    rw [e2] at h; exact h hne
  unfold AlA
  rw [e]
  cases hi : isR L (m2V L) [35]
  · rw [if_neg (by decide)]
    refine ⟨rfl, two_step (k := 0) (f := 1000) (p := 1) (t' := t1V L) rfl rfl (fun h => reg1_no (.inl rfl) h) (sk1 _ (sk2 _ (fun h => kn_sk (ls := regsA) h))) ?_⟩
    rw [comma0]
    refine two_step (k := 1) (f := 999) (p := 2) (t' := t2V L) rfl rfl (fun h => regk_no (.inr (.inl rfl)) (simM (.inl rfl)) h) (sk2 _ (fun h => kn_sk (ls := regsA) h)) ?_
    rw [comma1]; exact H.2 hi
  · rw [if_pos rfl]
    refine ⟨rfl, two_step (k := 0) (f := 1000) (p := 1) (t' := t1V L) rfl rfl (fun h => reg1_no (.inl rfl) h) (sk1 _ (sk2 _ (fun h => imm_sk h))) ?_⟩
    rw [comma0]
    refine two_step (k := 1) (f := 999) (p := 2) (t' := t2V L) rfl rfl (fun h => regk_no (.inr (.inl rfl)) (simM (.inl rfl)) h) (sk2 _ (fun h => imm_sk h)) ?_
    rw [comma1]; exact H.1 hi
theorem al_isb : AlA L [73, 83, 66] 0 [(⟨[73, 83, 66], ⟨8, 0, 0, 0, 0, 0, 0, 0, 0, 0, false, false, false, 0, 0, 0, false⟩, nilV, []⟩ : Rw)] := by
  have e : armR L tA blank [73, 83, 66] = ((true, []), tA, Ins.mk 8 (-1) (-1) (-1) 0 0 0 (-1) 0 0 false false false 0 0 0 false) := by kernel_rfl
  unfold AlA
  rw [e, one_end (f := 1000) (by rfl)]
  exact ⟨rfl, sim0 0, fun _ => ⟨rfl, rfl⟩⟩
end
section
variable {L : List Tk} {n k : Int} {nm : List UInt8} {i : Ins}
theorem al_ld (hW : WF L) {q : List UInt8} {ac wk : Bool} (e : armR L tA blank q = ((true, []), (memG regA L (m1V L) (Ins.mk 4 (regG regA L tA).2 (-1) (-1) 0 0 0 (-1) n 0 ac wk false 0 0 0 false)).1, (memG regA L (m1V L) (Ins.mk 4 (regG regA L tA).2 (-1) (-1) 0 0 0 (-1) n 0 ac wk false 0 0 0 false)).2)) : AlA L q n [(⟨nm, ⟨4, 0, 0, 0, 0, 0, 0, 0, 0, 0, ac, wk, false, 0, 0, 0, false⟩, nilV, [1, 6]⟩ : Rw)] := by
  have si := sm_ins (L := L) (n := n) (p1 := 1) rfl
  have ho : (sM L 1 n).ins.off = 0 := by rw [si.1]; rfl
  unfold AlA
  rw [e]
  refine ⟨rfl, form2 (t1 := t1V L) rfl (reg1_no (.inl rfl)) (reg1_yes (.inl rfl)) (fun h => memk_no hW h) (fun h => memk_yes h ho rfl) (fun h => mem_sk h) (fun h => ?_)⟩
  have hm : (m1V L).e = 0 := bk (fun h => mem_sk h) h
  have vals := (sim_memV (g := amO) rfl (simM (L := L) (n := n) (.inl rfl)) (i := Ins.mk 4 (regG regA L tA).2 (-1) (-1) 0 0 0 (-1) n 0 ac wk false 0 0 0 false) ho rfl).2 h
  exact ⟨lk_end (withR _) id (lk_mem (L := L) (g := amO)).1 lk_memrV vals (fun x y w => by rw [si.1, v1_is hm]; rfl), (lk_mem (L := L) (g := amO)).2.trans si.2⟩
theorem al_sd (hW : WF L) {q : List UInt8} {rl : Bool} (e : armR L tA blank q = ((true, []), (memG regA L (m1V L) (Ins.mk 5 (-1) (regG regA L tA).2 (-1) 0 0 0 (-1) n 0 false false rl 0 0 0 false)).1, (memG regA L (m1V L) (Ins.mk 5 (-1) (regG regA L tA).2 (-1) 0 0 0 (-1) n 0 false false rl 0 0 0 false)).2)) : AlA L q n [(⟨nm, ⟨5, 0, 0, 0, 0, 0, 0, 0, 0, 0, false, false, rl, 0, 0, 0, false⟩, nilV, [2, 6]⟩ : Rw)] := by
  have si := sm_insA (L := L) (n := n) (p1 := 2) rfl
  have ho : (sM L 2 n).ins.off = 0 := by rw [si.1]; rfl
  unfold AlA
  rw [e]
  refine ⟨rfl, form2 (t1 := t1V L) rfl (reg1_no (.inr rfl)) (reg1_yes (.inr rfl)) (fun h => memk_no hW h) (fun h => memk_yes h ho rfl) (fun h => mem_sk h) (fun h => ?_)⟩
  have hm : (m1V L).e = 0 := bk (fun h => mem_sk h) h
  have vals := (sim_memV (g := amO) rfl (simM (L := L) (n := n) (.inr rfl)) (i := Ins.mk 5 (-1) (regG regA L tA).2 (-1) 0 0 0 (-1) n 0 false false rl 0 0 0 false) ho rfl).2 h
  exact ⟨lk_end (withR _) id (lk_mem (L := L) (g := amO)).1 lk_memrV vals (fun x y w => by rw [si.1, v1_is hm]; rfl), (lk_mem (L := L) (g := amO)).2.trans si.2⟩
theorem al_amo (hW : WF L) {ac rl : Bool} {q : List UInt8} (e : armR L tA blank q = ((true, []), (memG regA L (m2V L) (Ins.mk 6 (regG regA L (m1V L)).2 (regG regA L tA).2 (-1) 0 0 0 (-1) n k ac false rl 0 0 0 false)).1, (memG regA L (m2V L) (Ins.mk 6 (regG regA L (m1V L)).2 (regG regA L tA).2 (-1) 0 0 0 (-1) n k ac false rl 0 0 0 false)).2)) : AlA L q n [(⟨nm, ⟨6, 0, 0, 0, 0, 0, 0, 0, 0, k, ac, false, rl, 0, 0, 0, false⟩, nilV, [2, 1, 6]⟩ : Rw)] := by
  have si := sn_ins2 (L := L) (n := n)
  have ho : (sN L 2 1 n).ins.off = 0 := by rw [si.1]; rfl
  unfold AlA
  rw [e]
  refine ⟨rfl, form3 (t1 := t1V L) (t2 := t2V L) rfl (reg1_no (.inr rfl)) (reg1_yes (.inr rfl)) (fun h => regk_no (.inl rfl) h) (fun h => regk_yes (.inl rfl) h) (fun h => kn_sk (ls := regsA) h) (fun h => memk_no hW h) (fun h => memk_yes h ho rfl) (fun h => mem_sk h) (fun h => ?_)⟩
  have hm : (m2V L).e = 0 := bk (fun h => mem_sk h) h
  have vals := (sim_memV (g := amO) rfl (simN2 (L := L) (n := n)) (i := Ins.mk 6 (regG regA L (m1V L)).2 (regG regA L tA).2 (-1) 0 0 0 (-1) n k ac false rl 0 0 0 false) ho rfl).2 h
  exact ⟨lk_end (withR _) id (lk_mem (L := L) (g := amO)).1 lk_memrV vals (fun x y w => by rw [si.1, (v2_is2 hm).1, (v2_is2 hm).2]; rfl), (lk_mem (L := L) (g := amO)).2.trans si.2⟩
theorem al_br {q : List UInt8} {z : Bool} (e : armR L tA blank q = ((true, (labR L (m1V L)).2), (labR L (m1V L)).1, Ins.mk 9 (-1) (regG regA L tA).2 (-1) 0 0 0 (-1) 0 0 false false false 0 0 0 z)) : AlA L q 0 [(⟨nm, ⟨9, 0, 0, 0, 0, 0, 0, 0, 0, 0, false, false, false, 0, 0, 0, z⟩, nilV, [2, 7]⟩ : Rw)] := by
  unfold AlA
  rw [e]
  refine ⟨rfl, ?_⟩
  have si := sm_insA (L := L) (n := 0) (p1 := 2) rfl
  have hM : Sim (sM L 2 0) (m1V L) := simM (.inr rfl)
  refine one_step (k := 0) (f := 1000) (t' := t1V L) (p := 2) rfl (fun h => reg1_no (.inr rfl) h) (fun h => ?_) ?_
  · have e : m1V L = t1V L := mark_skip (by simpa using h)
    show (labR L (m1V L)).1 = _
    rw [e, lab_skip (by simpa using h)]
  · rw [comma0]
    by_cases ht : (m1V L).e = 0
    · obtain ⟨hs0, hsp⟩ := sim_p hM ht
      rw [one_go (k := 1) (f := 999) (p := 7) rfl, comma1]
      cases hb : beginsB amO 7 (wordAt L (sM L 2 0).p)
      · rw [if_neg (by decide)]
        have hb' : ((wordAt L (sM L 2 0).p).kind == 1) = false := hb
        have e : labR L (m1V L) = (oddR L false (m1V L), []) := by
          rw [hsp] at hb'
          cases hy : L[(m1V L).p]? with
          | none => exact lab_none (by simpa using ht) (by simpa using hy)
          | some y => rw [word_some hy] at hb'; exact lab_kind (by simpa using ht) hy hb'
        rw [e]
        have h1 : Sim (refP L 22 (sM L 2 0)) (oddR L false (m1V L)) := sim_odd hs0 ht hsp (by
          rcases Nat.lt_or_ge (sM L 2 0).p L.length with hlt | hge
          · right; refine ⟨hlt, ?_⟩
            unfold oc; simp [hlt]
          · exact .inl hge)
        exact ⟨h1, fun e => absurd e ((sim_ne h1).1 ref_ne)⟩
      · rw [if_pos rfl, one_end (k := 1 + 1) (f := 998) (by rfl)]
        show Alike (labP L (sM L 2 0), _) _ _ _
        have hb' : ((wordAt L (sM L 2 0).p).kind == 1) = true := hb
        cases hy : L[(sM L 2 0).p]? with
        | none => rw [word_none (by simpa using hy)] at hb'; exact absurd hb' (by decide)
        | some y =>
          rw [word_some hy] at hb'
          have e : labR L (m1V L) = (⟨(m1V L).e, (m1V L).a, (m1V L).p + 1⟩, y.text) := lab_yes (by simpa using ht) (by rw [← hsp]; exact hy) hb'
          have e2 : labP L (sM L 2 0) = setLab (atP (sM L 2 0) ((sM L 2 0).p + 1)) y.text := by unfold labP; rw [hy]; simp only [hb', if_true]
          rw [e, e2]
          refine ⟨.inl ⟨hs0, ht, by show (sM L 2 0).p + 1 = (m1V L).p + 1; rw [hsp]⟩, fun e' => ⟨?_, rfl⟩⟩
          show withR _ (sM L 2 0).ins = _
          rw [si.1, v1_is ht]; rfl
    · have hs : (sM L 2 0).e ≠ 0 := (sim_ne hM).2 ht
      rw [lab_skip (by simpa using ht)]
      rw [one_go (k := 1) (f := 999) (p := 7) rfl, comma1]
      cases hb : beginsB amO 7 (wordAt L (sM L 2 0).p)
      · rw [if_neg (by decide), ref_bad hs]; exact ⟨hM, fun e => absurd e ht⟩
      · rw [if_pos rfl, one_end (k := 1 + 1) (f := 998) (by rfl)]
        exact ⟨(part_bad hs).sim hs hM, fun e => absurd e ht⟩
end
end Go.Proofs.YtedlaclfhgneeabGreatDoor.Old
namespace Go.Proofs.YtedlaclfhgneeabGreatDoor
set_option linter.unusedVariables false
set_option linter.unusedSimpArgs false
set_option maxRecDepth 100000
set_option maxHeartbeats 1000000
theorem areg_cases {k : Int} (h0 : 0 ≤ k) (h8 : k < 8) : Nam (nameA k) ∧ regA (nameA k) = k := by
  have : k = 0 ∨ k = 1 ∨ k = 2 ∨ k = 3 ∨ k = 4 ∨ k = 5 ∨ k = 6 ∨ k = 7 := by omega
  rcases this with e | e | e | e | e | e | e | e <;> subst e <;> exact ⟨⟨⟨_, rfl, by decide⟩, by decide⟩, by decide⟩
theorem arf (x : Int) (h0 : 0 ≤ x) (h8 : x < 8) : regA (nameA x) = x := (areg_cases h0 h8).2
theorem anf (x : Int) (h0 : 0 ≤ x) (h8 : x < 8) : Nam (nameA x) := (areg_cases h0 h8).1
theorem mema_w (i : In) : kmem0 i = memW nameA i.loc i.off i.ix := by
  unfold kmem0 memW
  by_cases h1 : i.off = 0 <;> by_cases h2 : i.ix ≥ 0 <;> simp [h1, h2]
section
variable {ws : List Tk} {p : Nat} {ks : List Ky} {q lb : List UInt8} {d a b n f z : Int} {i j : Old.Ins}
theorem aregr (hd : 0 ≤ d ∧ d < 8) (h : At ws p ((1, nameA d, 0) :: ks)) : regG regA ws ⟨0, 0, p⟩ = (⟨0, 0, p + 1⟩, d) := by
  have := g_reg (rf := regA) (a := 0) h (by rw [arf d hd.1 hd.2]; exact hd.1)
  rw [arf d hd.1 hd.2] at this; exact this
theorem a_1 (hd : 0 ≤ d ∧ d < 8) (h : At ws 0 ((1, q, 0) :: (1, nameA d, 0) :: (3, [44], 0) :: ks)) : regG regA ws Old.tA = (⟨0, 0, 0 + 1 + 1⟩, d) ∧ Old.m1V ws = ⟨0, 0, 0 + 1 + 1 + 1⟩ ∧ At ws (0 + 1 + 1 + 1) ks := by
  have e1 : regG regA ws Old.tA = (⟨0, 0, 0 + 1 + 1⟩, d) := aregr hd h.tl
  refine ⟨e1, ?_, h.tl.tl.tl⟩
  show Old.markR ws [44] (regG regA ws Old.tA).1 = _
  rw [e1]; exact g_mark (a := 0) h.tl.tl
theorem a_2 (hd : 0 ≤ d ∧ d < 8) (ha : 0 ≤ a ∧ a < 8) (h : At ws 0 ((1, q, 0) :: (1, nameA d, 0) :: (3, [44], 0) :: (1, nameA a, 0) :: (3, [44], 0) :: ks)) : regG regA ws Old.tA = (⟨0, 0, 0 + 1 + 1⟩, d) ∧ regG regA ws (Old.m1V ws) = (⟨0, 0, 0 + 1 + 1 + 1 + 1⟩, a) ∧ Old.m2V ws = ⟨0, 0, 0 + 1 + 1 + 1 + 1 + 1⟩ ∧ At ws (0 + 1 + 1 + 1 + 1 + 1) ks := by
  obtain ⟨e1, e2, h3⟩ := a_1 hd h
  have e3 := aregr ha h3
  refine ⟨e1, by rw [e2]; exact e3, ?_, h3.tl.tl⟩
  show Old.markR ws [44] (regG regA ws (Old.m1V ws)).1 = _
  rw [e2, e3]; exact g_mark (a := 0) h3.tl
theorem a_mem {loc off ix : Int} (hl : 0 ≤ loc ∧ loc ≤ 2) (ho : 0 ≤ off ∧ off < 8) (hx : ix = -1 ∨ (0 ≤ ix ∧ ix < 8)) (hi : i.index = -1) (hi2 : i.off = 0) (h : At ws p (memK nameA loc off ix ++ ks)) : memG regA ws ⟨0, 0, p⟩ i = (⟨0, 0, p + (memK nameA loc off ix).length⟩, { i with loc := loc, off := off, index := ix }) ∧ At ws (p + (memK nameA loc off ix).length) ks :=
  g_mem (rf := regA) (a := 0) arf hl ho hx hi hi2 h
theorem a_imm (hn : -9223372036854775808 ≤ n ∧ n ≤ 9223372036854775807) (h : At ws p ((3, [35], 0) :: (numK n ++ ks))) : isR ws ⟨0, 0, p⟩ [35] = true ∧ immAr ws ⟨0, 0, p⟩ = (⟨0, 0, p + 1 + (numK n).length⟩, n) ∧ At ws (p + 1 + (numK n).length) ks := by
  have g := g_num (a := 0) hn h.tl
  refine ⟨?_, ?_, g.2⟩
  · unfold isR; rw [g_reads h]; rfl
  · unfold immAr; rw [g_mark h]; exact g.1
theorem a_noimm (h : At ws p ((1, q, 0) :: ks)) (hq : q ≠ [35]) : isR ws ⟨0, 0, p⟩ [35] = false := by
  unfold isR; rw [g_reads_no h (.inl hq)]; rfl
theorem nam_ne {w : List UInt8} {c : UInt8} (h : Nam w) (hc : nbgB c = false) : w ≠ [c] := fun e => by
  obtain ⟨b, h1, h2⟩ := h.b
  rw [e] at h1
  have : c = b := by simpa using h1
  subst this
  rw [hc] at h2; cases h2
theorem fin_backA {ins : Old.Ins} {P : Nat} (h0 : At ws 0 ((1, q, 0) :: ks)) (hx : armR ws ⟨0, 0, 0 + 1⟩ Old.blank q = ((true, lb), ⟨0, 0, P⟩, ins)) (hP : At ws P []) (hr : Old.rightR (Old.asB ins) 0 1 = 0) : parM ws = (ins, lb, 0, 0) := by
  obtain ⟨y, y1, y2, y3, _, _⟩ := h0.hd
  have y2' : (y.kind == 1) = true := by rw [y2]; rfl
  have y3' : y.text = q := y3
  have e : parM ws = Old.finR ws (armR ws ⟨0, 0, 0 + 1⟩ Old.blank q) := by unfold parM; simp only [y1, y2', y3', if_true]
  rw [e, hx]
  unfold Old.finR
  have hm : Old.moreR ws ⟨0, 0, P⟩ = ⟨0, 0, P⟩ := by unfold Old.moreR; simp only [hP.no]
  have hl : Old.lastR ws ⟨0, 0, P⟩ ins = ⟨0, 0, P⟩ := by unfold Old.lastR; rw [beq_iff_eq.2 hr]; rfl
  simp only [if_true, hm, hl]
  rfl
theorem mov_is : armR ws Old.tA Old.blank [77, 79, 86] = if isR ws (Old.m1V ws) [35] = true then ((true, []), (immAr ws (Old.m1V ws)).1, Old.Ins.mk 1 (regG regA ws Old.tA).2 (-1) (-1) (immAr ws (Old.m1V ws)).2 0 0 (-1) 0 0 false false false 0 0 0 false) else ((true, []), (regG regA ws (Old.m1V ws)).1, Old.Ins.mk 2 (regG regA ws Old.tA).2 (regG regA ws (Old.m1V ws)).2 (-1) 0 0 0 (-1) 0 0 false false false 0 0 0 false) := by
  unfold armR; rw [if_pos rfl]; rfl
theorem a_mov1 (hd : 0 ≤ d ∧ d < 8) (hn : -9223372036854775808 ≤ n ∧ n ≤ 9223372036854775807) (h : At ws 0 ((1, [77, 79, 86], 0) :: (1, nameA d, 0) :: (3, [44], 0) :: (3, [35], 0) :: (numK n ++ []))) : ∃ P, armR ws ⟨0, 0, 0 + 1⟩ Old.blank [77, 79, 86] = ((true, []), ⟨0, 0, P⟩, ⟨1, d, -1, -1, n, 0, 0, -1, 0, 0, false, false, false, 0, 0, 0, false⟩) ∧ At ws P [] := by
  obtain ⟨e1, e2, h3⟩ := a_1 hd h
  obtain ⟨g1, g2, g3⟩ := a_imm hn h3
  refine ⟨_, ?_, g3⟩
  have e := mov_is (ws := ws)
  rw [e2, g1, g2, e1, if_pos rfl] at e
  exact e
theorem a_mov2 (hd : 0 ≤ d ∧ d < 8) (ha : 0 ≤ a ∧ a < 8) (h : At ws 0 ((1, [77, 79, 86], 0) :: (1, nameA d, 0) :: (3, [44], 0) :: (1, nameA a, 0) :: [])) : ∃ P, armR ws ⟨0, 0, 0 + 1⟩ Old.blank [77, 79, 86] = ((true, []), ⟨0, 0, P⟩, ⟨2, d, a, -1, 0, 0, 0, -1, 0, 0, false, false, false, 0, 0, 0, false⟩) ∧ At ws P [] := by
  obtain ⟨e1, e2, h3⟩ := a_1 hd h
  have g1 := a_noimm h3 (nam_ne (anf a ha.1 ha.2) (by decide))
  have g := aregr ha h3
  refine ⟨_, ?_, h3.tl⟩
  have e := mov_is (ws := ws)
  rw [e2, g1, g, e1, if_neg (by decide)] at e
  exact e
theorem five (hf : 1 ≤ f ∧ f ≤ 5) : f = 1 ∨ f = 2 ∨ f = 3 ∨ f = 4 ∨ f = 5 := by omega
theorem kalu_cases (hf : 1 ≤ f ∧ f ≤ 5) : Nam (kfnT f) := by
  rcases five hf with e | e | e | e | e <;> subst e <;> exact ⟨⟨_, rfl, by decide⟩, by decide⟩
theorem kalu_is (hf : 1 ≤ f ∧ f ≤ 5) : armR ws Old.tA Old.blank (kfnT f) = if isR ws (Old.m2V ws) [35] = true then ((true, []), (immAr ws (Old.m2V ws)).1, Old.Ins.mk 3 (regG regA ws Old.tA).2 (regG regA ws (Old.m1V ws)).2 (-1) (immAr ws (Old.m2V ws)).2 0 0 (-1) 0 f false false false 0 0 0 false) else ((true, []), (regG regA ws (Old.m2V ws)).1, Old.Ins.mk 3 (regG regA ws Old.tA).2 (regG regA ws (Old.m1V ws)).2 (regG regA ws (Old.m2V ws)).2 0 0 0 (-1) 0 f false false false 0 0 0 false) := by
  rcases five hf with e | e | e | e | e <;> subst e <;> kernel_rfl
theorem a_alr (hf : 1 ≤ f ∧ f ≤ 5) (hd : 0 ≤ d ∧ d < 8) (ha : 0 ≤ a ∧ a < 8) (hb : 0 ≤ b ∧ b < 8) (h : At ws 0 ((1, kfnT f, 0) :: (1, nameA d, 0) :: (3, [44], 0) :: (1, nameA a, 0) :: (3, [44], 0) :: (1, nameA b, 0) :: [])) : ∃ P, armR ws ⟨0, 0, 0 + 1⟩ Old.blank (kfnT f) = ((true, []), ⟨0, 0, P⟩, ⟨3, d, a, b, 0, 0, 0, -1, 0, f, false, false, false, 0, 0, 0, false⟩) ∧ At ws P [] := by
  obtain ⟨e1, e2, e3, h3⟩ := a_2 hd ha h
  have g1 := a_noimm h3 (nam_ne (anf b hb.1 hb.2) (by decide))
  have g := aregr hb h3
  refine ⟨_, ?_, h3.tl⟩
  have e := kalu_is (ws := ws) hf
  rw [e3, g1, g, e2, e1, if_neg (by decide)] at e
  exact e
theorem a_ali (hf : 1 ≤ f ∧ f ≤ 5) (hd : 0 ≤ d ∧ d < 8) (ha : 0 ≤ a ∧ a < 8) (hn : -9223372036854775808 ≤ n ∧ n ≤ 9223372036854775807) (h : At ws 0 ((1, kfnT f, 0) :: (1, nameA d, 0) :: (3, [44], 0) :: (1, nameA a, 0) :: (3, [44], 0) :: (3, [35], 0) :: (numK n ++ []))) : ∃ P, armR ws ⟨0, 0, 0 + 1⟩ Old.blank (kfnT f) = ((true, []), ⟨0, 0, P⟩, ⟨3, d, a, -1, n, 0, 0, -1, 0, f, false, false, false, 0, 0, 0, false⟩) ∧ At ws P [] := by
  obtain ⟨e1, e2, e3, h3⟩ := a_2 hd ha h
  obtain ⟨g1, g2, g3⟩ := a_imm hn h3
  refine ⟨_, ?_, g3⟩
  have e := kalu_is (ws := ws) hf
  rw [e3, g1, g2, e2, e1, if_pos rfl] at e
  exact e
def ldN (ac wk : Bool) : List UInt8 := if ac = true then [76, 68, 65, 82] else if wk = true then [76, 68, 65, 80, 82] else [76, 68, 82]
def stN (rl : Bool) : List UInt8 := if rl = true then [83, 84, 76, 82] else [83, 84, 82]
theorem asz_cases (hz : z = 1 ∨ z = 2 ∨ z = 4 ∨ z = 8) (ac wk rl : Bool) : Nam (ldN ac wk ++ tlA z) ∧ Nam (stN rl ++ tlA z) := by
  rcases hz with e | e | e | e <;> subst e <;> cases ac <;> cases wk <;> cases rl <;> exact ⟨⟨⟨_, rfl, by decide⟩, by decide⟩, ⟨⟨_, rfl, by decide⟩, by decide⟩⟩
theorem kld_is (hz : z = 1 ∨ z = 2 ∨ z = 4 ∨ z = 8) {ac wk : Bool} (hx : (ac && wk) = false) : armR ws Old.tA Old.blank (ldN ac wk ++ tlA z) = ((true, []), (memG regA ws (Old.m1V ws) (Old.Ins.mk 4 (regG regA ws Old.tA).2 (-1) (-1) 0 0 0 (-1) z 0 ac wk false 0 0 0 false)).1, (memG regA ws (Old.m1V ws) (Old.Ins.mk 4 (regG regA ws Old.tA).2 (-1) (-1) 0 0 0 (-1) z 0 ac wk false 0 0 0 false)).2) := by
  cases ac <;> cases wk
  · rcases hz with e | e | e | e <;> subst e <;> kernel_rfl
  · rcases hz with e | e | e | e <;> subst e <;> kernel_rfl
  · rcases hz with e | e | e | e <;> subst e <;> kernel_rfl
  · cases hx
theorem ksd_is (hz : z = 1 ∨ z = 2 ∨ z = 4 ∨ z = 8) (rl : Bool) : armR ws Old.tA Old.blank (stN rl ++ tlA z) = ((true, []), (memG regA ws (Old.m1V ws) (Old.Ins.mk 5 (-1) (regG regA ws Old.tA).2 (-1) 0 0 0 (-1) z 0 false false rl 0 0 0 false)).1, (memG regA ws (Old.m1V ws) (Old.Ins.mk 5 (-1) (regG regA ws Old.tA).2 (-1) 0 0 0 (-1) z 0 false false rl 0 0 0 false)).2) := by
  rcases hz with e | e | e | e <;> subst e <;> cases rl <;> kernel_rfl
theorem a_ld {loc off ix : Int} {ac wk : Bool} (hc : (ac && wk) = false) (hz : z = 1 ∨ z = 2 ∨ z = 4 ∨ z = 8) (hd : 0 ≤ d ∧ d < 8) (hl : 0 ≤ loc ∧ loc ≤ 2) (ho : 0 ≤ off ∧ off < 8) (hx : ix = -1 ∨ (0 ≤ ix ∧ ix < 8)) (h : At ws 0 ((1, ldN ac wk ++ tlA z, 0) :: (1, nameA d, 0) :: (3, [44], 0) :: (memK nameA loc off ix ++ []))) : ∃ P, armR ws ⟨0, 0, 0 + 1⟩ Old.blank (ldN ac wk ++ tlA z) = ((true, []), ⟨0, 0, P⟩, ⟨4, d, -1, -1, 0, loc, off, ix, z, 0, ac, wk, false, 0, 0, 0, false⟩) ∧ At ws P [] := by
  obtain ⟨e1, e2, h3⟩ := a_1 hd h
  have g := a_mem (i := ⟨4, d, -1, -1, 0, 0, 0, -1, z, 0, ac, wk, false, 0, 0, 0, false⟩) hl ho hx rfl rfl h3
  refine ⟨_, ?_, g.2⟩
  have e := kld_is (ws := ws) hz hc
  rw [e2, e1, g.1] at e
  exact e
theorem a_sd {loc off ix : Int} {rl : Bool} (hz : z = 1 ∨ z = 2 ∨ z = 4 ∨ z = 8) (hd : 0 ≤ d ∧ d < 8) (hl : 0 ≤ loc ∧ loc ≤ 2) (ho : 0 ≤ off ∧ off < 8) (hx : ix = -1 ∨ (0 ≤ ix ∧ ix < 8)) (h : At ws 0 ((1, stN rl ++ tlA z, 0) :: (1, nameA d, 0) :: (3, [44], 0) :: (memK nameA loc off ix ++ []))) : ∃ P, armR ws ⟨0, 0, 0 + 1⟩ Old.blank (stN rl ++ tlA z) = ((true, []), ⟨0, 0, P⟩, ⟨5, -1, d, -1, 0, loc, off, ix, z, 0, false, false, rl, 0, 0, 0, false⟩) ∧ At ws P [] := by
  obtain ⟨e1, e2, h3⟩ := a_1 hd h
  have g := a_mem (i := ⟨5, -1, d, -1, 0, 0, 0, -1, z, 0, false, false, rl, 0, 0, 0, false⟩) hl ho hx rfl rfl h3
  refine ⟨_, ?_, g.2⟩
  have e := ksd_is (ws := ws) hz rl
  rw [e2, e1, g.1] at e
  exact e
def swN (f z : Int) (ac rl : Bool) : List UInt8 := (((if f = 1 then [76, 68, 65, 68, 68] else [83, 87, 80]) ++ (if ac = true then [65] else [])) ++ (if rl = true then [76] else [])) ++ tlA z
theorem sw_cases (hf : f = 6 ∨ f = 1) (hz : z = 1 ∨ z = 2 ∨ z = 4 ∨ z = 8) (ac rl : Bool) : Nam (swN f z ac rl) := by
  rcases hf with e | e <;> subst e <;> rcases hz with e | e | e | e <;> subst e <;> cases ac <;> cases rl <;> exact ⟨⟨_, rfl, by decide⟩, by decide⟩
theorem sw_is (hf : f = 6 ∨ f = 1) (hz : z = 1 ∨ z = 2 ∨ z = 4 ∨ z = 8) (ac rl : Bool) : armR ws Old.tA Old.blank (swN f z ac rl) = ((true, []), (memG regA ws (Old.m2V ws) (Old.Ins.mk 6 (regG regA ws (Old.m1V ws)).2 (regG regA ws Old.tA).2 (-1) 0 0 0 (-1) z f ac false rl 0 0 0 false)).1, (memG regA ws (Old.m2V ws) (Old.Ins.mk 6 (regG regA ws (Old.m1V ws)).2 (regG regA ws Old.tA).2 (-1) 0 0 0 (-1) z f ac false rl 0 0 0 false)).2) := by
  rcases hf with e | e <;> subst e <;> rcases hz with e | e | e | e <;> subst e <;> cases ac <;> cases rl <;> kernel_rfl
theorem a_sw {loc off ix : Int} {ac rl : Bool} (hf : f = 6 ∨ f = 1) (hz : z = 1 ∨ z = 2 ∨ z = 4 ∨ z = 8) (ha : 0 ≤ a ∧ a < 8) (hd : 0 ≤ d ∧ d < 8) (hl : 0 ≤ loc ∧ loc ≤ 2) (ho : 0 ≤ off ∧ off < 8) (hx : ix = -1 ∨ (0 ≤ ix ∧ ix < 8)) (h : At ws 0 ((1, swN f z ac rl, 0) :: (1, nameA a, 0) :: (3, [44], 0) :: (1, nameA d, 0) :: (3, [44], 0) :: (memK nameA loc off ix ++ []))) : ∃ P, armR ws ⟨0, 0, 0 + 1⟩ Old.blank (swN f z ac rl) = ((true, []), ⟨0, 0, P⟩, ⟨6, d, a, -1, 0, loc, off, ix, z, f, ac, false, rl, 0, 0, 0, false⟩) ∧ At ws P [] := by
  obtain ⟨e1, e2, e3, h3⟩ := a_2 ha hd h
  have g := a_mem (i := ⟨6, d, a, -1, 0, 0, 0, -1, z, f, ac, false, rl, 0, 0, 0, false⟩) hl ho hx rfl rfl h3
  refine ⟨_, ?_, g.2⟩
  have e := sw_is (ws := ws) hf hz ac rl
  rw [e3, e2, e1, g.1] at e
  exact e
def barN (k : Nat) : List UInt8 := [[83, 89], [76, 68], [83, 84]].getD k []
theorem bar_cases (k : Nat) (h : k < 3) : Nam (barN k) := by
  have : k = 0 ∨ k = 1 ∨ k = 2 := by omega
  rcases this with e | e | e <;> subst e <;> exact ⟨⟨_, rfl, by decide⟩, by decide⟩
theorem a_dmb (k : Nat) (hk : k < 3) (h : At ws 0 ((1, [68, 77, 66], 0) :: (1, barN k, 0) :: [])) : ∃ P, armR ws ⟨0, 0, 0 + 1⟩ Old.blank [68, 77, 66] = ((true, []), ⟨0, 0, P⟩, ⟨7, -1, -1, -1, 0, 0, 0, -1, 0, 0, false, false, false, [3, 1, 2].getD k 0, [3, 3, 2].getD k 0, 0, false⟩) ∧ At ws P [] := by
  obtain ⟨y, y1, y2, y3, _, _⟩ := h.tl.hd
  have y2' : (y.kind == 1) = true := by rw [y2]; rfl
  have y3' : y.text = barN k := y3
  have hb : barA ws Old.tA = (⟨0, 0, 0 + 1 + 1⟩, [3, 1, 2].getD k 0, [3, 3, 2].getD k 0) := by
    have e0 : barA ws Old.tA = match ws[0 + 1]? with
      | some y => if y.kind == 1 && y.text == [83, 89] then (⟨0, 0, 0 + 1 + 1⟩, 3, 3) else if y.kind == 1 && y.text == [76, 68] then (⟨0, 0, 0 + 1 + 1⟩, 1, 3) else if y.kind == 1 && y.text == [83, 84] then (⟨0, 0, 0 + 1 + 1⟩, 2, 2) else (Old.oddR ws true Old.tA, 3, 3)
      | none => (Old.oddR ws true Old.tA, 3, 3) := rfl
    rw [e0, y1]
    simp only [y2', y3', Bool.true_and]
    have : k = 0 ∨ k = 1 ∨ k = 2 := by omega
    rcases this with e | e | e <;> subst e <;> rfl
  refine ⟨_, ?_, h.tl.tl⟩
  have e : armR ws Old.tA Old.blank [68, 77, 66] = ((true, []), (barA ws Old.tA).1, Old.Ins.mk 7 (-1) (-1) (-1) 0 0 0 (-1) 0 0 false false false (barA ws Old.tA).2.1 (barA ws Old.tA).2.2 0 false) := by kernel_rfl
  rw [hb] at e
  exact e
theorem a_isb (h : At ws 0 ((1, [73, 83, 66], 0) :: [])) : ∃ P, armR ws ⟨0, 0, 0 + 1⟩ Old.blank [73, 83, 66] = ((true, []), ⟨0, 0, P⟩, ⟨8, -1, -1, -1, 0, 0, 0, -1, 0, 0, false, false, false, 0, 0, 0, false⟩) ∧ At ws P [] := by
  refine ⟨_, ?_, h.tl⟩
  have e : armR ws Old.tA Old.blank [73, 83, 66] = ((true, []), Old.tA, Old.Ins.mk 8 (-1) (-1) (-1) 0 0 0 (-1) 0 0 false false false 0 0 0 false) := by kernel_rfl
  exact e
theorem kbr_cases (z : Bool) : Nam (kbr0 z) := by cases z <;> exact ⟨⟨_, rfl, by decide⟩, by decide⟩
theorem kbr_is (z : Bool) : armR ws Old.tA Old.blank (kbr0 z) = ((true, (Old.labR ws (Old.m1V ws)).2), (Old.labR ws (Old.m1V ws)).1, Old.Ins.mk 9 (-1) (regG regA ws Old.tA).2 (-1) 0 0 0 (-1) 0 0 false false false 0 0 0 z) := by
  cases z <;> kernel_rfl
theorem a_bran {z : Bool} (hd : 0 ≤ d ∧ d < 8) (h : At ws 0 ((1, kbr0 z, 0) :: (1, nameA d, 0) :: (3, [44], 0) :: (1, lb, 0) :: [])) : ∃ P, armR ws ⟨0, 0, 0 + 1⟩ Old.blank (kbr0 z) = ((true, lb), ⟨0, 0, P⟩, ⟨9, -1, d, -1, 0, 0, 0, -1, 0, 0, false, false, false, 0, 0, 0, z⟩) ∧ At ws P [] := by
  obtain ⟨e1, e2, h3⟩ := a_1 hd h
  have g := g_lab (a := 0) h3
  refine ⟨_, ?_, h3.tl⟩
  have e := kbr_is (ws := ws) z
  rw [e2, e1, g] at e
  exact e
end
theorem right_w {i : Old.Ins} : Old.wrongB i = false ↔ Old.rightR (Old.asB i) 0 1 = 0 := by
  have h := Old.wrong_asb i
  cases hw : Old.wrongB i <;> rw [hw] at h
  · exact ⟨fun _ => by simpa using h, fun _ => rfl⟩
  · exact ⟨fun e => (by cases e), fun e => (by rw [e] at h; exact absurd h (by decide))⟩
theorem pr_oksV {i : Old.Ins} {lb s : List UInt8} (h : Old.prW i lb = (s, 0)) : s = Old.txtW i lb ∧ Old.txtW i lb ≠ [] ∧ Old.rightR (Old.asB i) 0 1 = 0 ∧ (i.op = 9 → Old.isNm lb = true) := by
  unfold Old.prW at h
  cases hw : Old.wrongB i with
  | true => rw [hw, if_pos rfl] at h; cases h
  | false =>
    rw [hw, if_neg (by decide)] at h
    split at h
    · cases h
    · next ht =>
      have ht' : Old.txtW i lb ≠ [] := fun e => ht (by rw [e]; rfl)
      split at h
      · next h9 =>
        split at h
        · next hn => cases h; exact ⟨rfl, ht', right_w.1 hw, fun _ => hn⟩
        · cases h
      · next h9 => cases h; exact ⟨rfl, ht', right_w.1 hw, fun e => absurd (beq_iff_eq.2 e) h9⟩
theorem ok_prV {i : Old.Ins} {lb : List UInt8} (ht : Old.txtW i lb ≠ []) (hr : Old.rightR (Old.asB i) 0 1 = 0) (hn : i.op = 9 → Old.isNm lb = true) : Old.prW i lb = (Old.txtW i lb, 0) := by
  unfold Old.prW
  have ht' : ¬ eqL (Old.txtW i lb) [] = true := fun e => ht (eqL_eq e)
  rw [right_w.2 hr, if_neg (by decide), if_neg ht']
  by_cases h9 : i.op = 9
  · rw [if_pos (beq_iff_eq.2 h9), if_pos (hn h9)]
  · rw [if_neg (fun e => h9 (eq_of_beq e))]
theorem back_kV {i : Old.Ins} {lb : List UInt8} (hr : Old.rightR (Old.asB i) 0 1 = 0) (ht : Old.txtW i lb ≠ []) (hn : i.op = 9 → Nam lb) (hm : -9223372036854775808 ≤ i.imm ∧ i.imm ≤ 9223372036854775807) :
    ∃ q ks, LexK (Old.txtW i lb) ((1, q, 0) :: ks) ∧ ∀ ws, At ws 0 ((1, q, 0) :: ks) → ∃ P, armR ws ⟨0, 0, 0 + 1⟩ Old.blank q = ((true, if i.op = 9 then lb else []), ⟨0, 0, P⟩, { i with to := 0 }) ∧ At ws P [] := by
  obtain ⟨hp, hs⟩ := right_of hr
  obtain ⟨op, dst, ra, rb, imm, loc, off, ix, sz, fn, acq, weak, rel, pred, succ, to, zero⟩ := i
  simp only at hm ⊢
  by_cases h1 : op = 1
  · subst h1
    have hA : Old.asB ⟨1, dst, ra, rb, imm, loc, off, ix, sz, fn, acq, weak, rel, pred, succ, to, zero⟩ = ⟨1, dst, ra, rb, imm, loc, off, ix, sz, fn, acq, weak, rel, pred, succ, to, zero⟩ := rfl
    rw [hA] at hp hs
    simp [Old.plainF, Old.opB, Old.rdB, Old.wrB] at hp
    obtain ⟨e2, e3, e5, e6, e7, e8, e9, e10, e11, e12, e13, e14, e15, e16⟩ := hp
    subst e2 e3 e5 e6 e7 e8 e9 e10 e11 e12 e13 e14 e15 e16
    have hd := Old.reg_rng hs
    refine ⟨_, _, ?_, fun ws h => a_mov1 hd hm h⟩
    have := lk_name (w := [77, 79, 86]) ⟨⟨_, rfl, by decide⟩, by decide⟩ (sep_cons (c := 32) (by decide)) (lk_blank (lk_name (anf dst hd.1 hd.2) (sep_cons (c := 44) (by decide)) (lk_mark (b := 44) (by decide) (lk_mark (b := 35) (by decide) (lk_num hm sep_nil lk_nil)))))
    simpa [Old.txtW, ktxt0, frO] using this
  by_cases h2 : op = 2
  · subst h2
    have hA : Old.asB ⟨2, dst, ra, rb, imm, loc, off, ix, sz, fn, acq, weak, rel, pred, succ, to, zero⟩ = ⟨2, dst, ra, rb, imm, loc, off, ix, sz, fn, acq, weak, rel, pred, succ, to, zero⟩ := rfl
    rw [hA] at hp hs
    simp [Old.plainF, Old.opB, Old.rdB, Old.wrB] at hp
    obtain ⟨e3, e4, e5, e6, e7, e8, e9, e10, e11, e12, e13, e14, e15, e16⟩ := hp
    subst e3 e4 e5 e6 e7 e8 e9 e10 e11 e12 e13 e14 e15 e16
    have hs' : (Old.regB dst && Old.regB ra) = true := hs
    rw [Bool.and_eq_true] at hs'
    have hd := Old.reg_rng hs'.1
    have ha := Old.reg_rng hs'.2
    refine ⟨_, _, ?_, fun ws h => a_mov2 hd ha h⟩
    have := lk_name (w := [77, 79, 86]) ⟨⟨_, rfl, by decide⟩, by decide⟩ (sep_cons (c := 32) (by decide)) (lk_blank (lk_name (anf dst hd.1 hd.2) (sep_cons (c := 44) (by decide)) (lk_mark (b := 44) (by decide) (lk_name (anf ra ha.1 ha.2) sep_nil lk_nil))))
    simpa [Old.txtW, ktxt0, frO] using this
  by_cases h3 : op = 3
  · subst h3
    have hA : Old.asB ⟨3, dst, ra, rb, imm, loc, off, ix, sz, fn, acq, weak, rel, pred, succ, to, zero⟩ = ⟨3, dst, ra, rb, imm, loc, off, ix, sz, fn, acq, weak, rel, pred, succ, to, zero⟩ := rfl
    rw [hA] at hp hs
    simp [Old.plainF, Old.opB, Old.rdB, Old.wrB, Old.immF] at hp
    obtain ⟨e4, e5, e6, e7, e8, e10, e11, e12, e13, e14, e15, e16⟩ := hp
    subst e5 e6 e7 e8 e10 e11 e12 e13 e14 e15 e16
    have hs' : (Old.regB dst && Old.regB ra && Old.ronB rb && decide (fn ≥ 1) && decide (fn ≤ 5)) = true := hs
    simp only [Bool.and_eq_true, decide_eq_true_eq] at hs'
    obtain ⟨⟨⟨⟨s1, s2⟩, s3⟩, s4⟩, s5⟩ := hs'
    have hd := Old.reg_rng s1
    have ha := Old.reg_rng s2
    have hb := Old.ron_rng s3
    rcases hb with hb | hb
    · subst hb
      refine ⟨_, _, ?_, fun ws h => a_ali (f := fn) ⟨s4, s5⟩ hd ha hm h⟩
      have := lk_name (kalu_cases (f := fn) ⟨s4, s5⟩) (sep_cons (c := 32) (by decide)) (lk_blank (lk_name (anf dst hd.1 hd.2) (sep_cons (c := 44) (by decide)) (lk_mark (b := 44) (by decide) (lk_name (anf ra ha.1 ha.2) (sep_cons (c := 44) (by decide)) (lk_mark (b := 44) (by decide) (lk_mark (b := 35) (by decide) (lk_num hm sep_nil lk_nil)))))))
      simpa [Old.txtW, ktxt0, frO, kror0] using this
    · have h0 : ¬ rb < 0 := by omega
      have hi : imm = 0 := e4 (by omega)
      subst hi
      refine ⟨_, _, ?_, fun ws h => a_alr (f := fn) ⟨s4, s5⟩ hd ha hb h⟩
      have := lk_name (kalu_cases (f := fn) ⟨s4, s5⟩) (sep_cons (c := 32) (by decide)) (lk_blank (lk_name (anf dst hd.1 hd.2) (sep_cons (c := 44) (by decide)) (lk_mark (b := 44) (by decide) (lk_name (anf ra ha.1 ha.2) (sep_cons (c := 44) (by decide)) (lk_mark (b := 44) (by decide) (lk_name (anf rb hb.1 hb.2) sep_nil lk_nil))))))
      simpa [Old.txtW, ktxt0, frO, kror0, h0] using this
  by_cases h9 : op = 9
  · subst h9
    have hA : Old.asB ⟨9, dst, ra, rb, imm, loc, off, ix, sz, fn, acq, weak, rel, pred, succ, to, zero⟩ = ⟨9, dst, ra, rb, imm, loc, off, ix, sz, fn, acq, weak, rel, pred, succ, 1, zero⟩ := rfl
    rw [hA] at hp hs
    simp [Old.plainF, Old.opB, Old.rdB, Old.wrB] at hp
    obtain ⟨e2, e3, e4, e5, e6, e7, e8, e9, e10, e11, e12, e13, e14⟩ := hp
    subst e2 e3 e4 e5 e6 e7 e8 e9 e10 e11 e12 e13 e14
    have ha := Old.reg_rng (show Old.regB ra = true from hs)
    refine ⟨_, _, ?_, fun ws h => by rw [if_pos rfl]; exact a_bran (z := zero) ha h⟩
    have := lk_name (kbr_cases zero) (sep_cons (c := 32) (by decide)) (lk_blank (lk_name (anf ra ha.1 ha.2) (sep_cons (c := 44) (by decide)) (lk_mark (b := 44) (by decide) (lk_name (hn rfl) sep_nil lk_nil))))
    simpa [Old.txtW, ktxt0, frO] using this
  by_cases h7 : op = 7
  · subst h7
    have hA : Old.asB ⟨7, dst, ra, rb, imm, loc, off, ix, sz, fn, acq, weak, rel, pred, succ, to, zero⟩ = ⟨7, dst, ra, rb, imm, loc, off, ix, sz, fn, acq, weak, rel, pred, succ, to, zero⟩ := rfl
    rw [hA] at hp hs
    simp [Old.plainF, Old.opB, Old.rdB, Old.wrB] at hp
    obtain ⟨e1, e2, e3, e4, e5, e6, e7, e8, e9, e10, e11, e12, e13, e14⟩ := hp
    subst e1 e2 e3 e4 e5 e6 e7 e8 e9 e10 e11 e12 e13 e14
    have hf : (1 ≤ pred ∧ pred ≤ 3) ∧ (1 ≤ succ ∧ succ ≤ 3) := by
      simp [Old.soundB, Old.fenB] at hs
      omega
    have hps : ∃ k, k < 3 ∧ pred = [3, 1, 2].getD k 0 ∧ succ = [3, 3, 2].getD k 0 := by
      by_cases c1 : pred = 3 ∧ succ = 3
      · exact ⟨0, by decide, c1.1, c1.2⟩
      · by_cases c2 : pred = 1 ∧ succ = 3
        · exact ⟨1, by decide, c2.1, c2.2⟩
        · by_cases c3 : pred = 2 ∧ succ = 2
          · exact ⟨2, by decide, c3.1, c3.2⟩
          · exfalso
            refine ht ?_
            have q1 : ¬ (pred = 3 ∧ succ = 3) := c1
            simp only [Old.txtW, ktxt0, frO, kfen0]
            have hp1 : pred = 1 ∨ pred = 2 ∨ pred = 3 := by omega
            have hp2 : succ = 1 ∨ succ = 2 ∨ succ = 3 := by omega
            rcases hp1 with rfl | rfl | rfl <;> rcases hp2 with rfl | rfl | rfl <;> first | rfl | (exfalso; omega)
    obtain ⟨k, hk, rfl, rfl⟩ := hps
    refine ⟨_, _, ?_, fun ws h => a_dmb k hk h⟩
    have := lk_name (w := [68, 77, 66]) ⟨⟨_, rfl, by decide⟩, by decide⟩ (sep_cons (c := 32) (by decide)) (lk_blank (lk_name (bar_cases k hk) sep_nil lk_nil))
    have hk3 : k = 0 ∨ k = 1 ∨ k = 2 := by omega
    rcases hk3 with rfl | rfl | rfl <;> simpa [Old.txtW, ktxt0, frO, kfen0, barN] using this
  by_cases h8 : op = 8
  · subst h8
    have hA : Old.asB ⟨8, dst, ra, rb, imm, loc, off, ix, sz, fn, acq, weak, rel, pred, succ, to, zero⟩ = ⟨8, dst, ra, rb, imm, loc, off, ix, sz, fn, acq, weak, rel, pred, succ, to, zero⟩ := rfl
    rw [hA] at hp hs
    simp [Old.plainF, Old.opB, Old.rdB, Old.wrB] at hp
    obtain ⟨e1, e2, e3, e4, e5, e6, e7, e8, e9, e10, e11, e12, e13, e14, e15, e16⟩ := hp
    subst e1 e2 e3 e4 e5 e6 e7 e8 e9 e10 e11 e12 e13 e14 e15 e16
    refine ⟨_, _, ?_, fun ws h => a_isb h⟩
    have := lk_name (w := [73, 83, 66]) ⟨⟨_, rfl, by decide⟩, by decide⟩ sep_nil lk_nil
    simpa [Old.txtW, ktxt0, frO, kfen0] using this
  by_cases h4 : op = 4
  · subst h4
    have hA : Old.asB ⟨4, dst, ra, rb, imm, loc, off, ix, sz, fn, acq, weak, rel, pred, succ, to, zero⟩ = ⟨4, dst, ra, rb, imm, loc, off, ix, sz, fn, acq, weak, rel, pred, succ, to, zero⟩ := rfl
    rw [hA] at hp hs
    simp [Old.plainF, Old.opB, Old.rdB, Old.wrB] at hp
    obtain ⟨e2, e3, e4, e5, e6, e7, e8, e9, e10⟩ := hp
    subst e2 e3 e4 e5 e6 e7 e8 e9 e10
    have hs' : (Old.regB dst && Old.accB ⟨4, dst, -1, -1, 0, loc, off, ix, sz, 0, acq, weak, false, 0, 0, 0, false⟩ && !(acq && weak)) = true := hs
    simp only [Bool.and_eq_true] at hs'
    have hd := Old.reg_rng hs'.1.1
    obtain ⟨q1, q2, q3⟩ := Old.acc_all hs'.1.2
    have q4 := acc_off hs'.1.2
    have hc : (acq && weak) = false := by have q := hs'.2; revert q; cases acq <;> cases weak <;> decide
    refine ⟨_, _, ?_, fun ws h => a_ld (ac := acq) (wk := weak) hc q3 hd q1 q4 q2 h⟩
    have := lk_name (asz_cases q3 acq weak false).1 (sep_cons (c := 32) (by decide)) (lk_blank (lk_name (anf dst hd.1 hd.2) (sep_cons (c := 44) (by decide)) (lk_mark (b := 44) (by decide) (lk_mem anf q1 q4 q2 lk_nil))))
    cases acq <;> cases weak
    · simpa [Old.txtW, ktxt0, frO, kacc0, mema_w, ldN] using this
    · simpa [Old.txtW, ktxt0, frO, kacc0, mema_w, ldN] using this
    · simpa [Old.txtW, ktxt0, frO, kacc0, mema_w, ldN] using this
    · cases hc
  by_cases h5 : op = 5
  · subst h5
    have hA : Old.asB ⟨5, dst, ra, rb, imm, loc, off, ix, sz, fn, acq, weak, rel, pred, succ, to, zero⟩ = ⟨5, dst, ra, rb, imm, loc, off, ix, sz, fn, acq, weak, rel, pred, succ, to, zero⟩ := rfl
    rw [hA] at hp hs
    simp [Old.plainF, Old.opB, Old.rdB, Old.wrB, Old.immF] at hp
    obtain ⟨e1, e3, e4, e5, e6, e7, e8, e9, e10, e11⟩ := hp
    subst e1 e3 e5 e6 e7 e8 e9 e10 e11
    have hs' : (Old.ronB ra && Old.accB ⟨5, -1, ra, -1, imm, loc, off, ix, sz, 0, false, false, rel, 0, 0, 0, false⟩) = true := hs
    simp only [Bool.and_eq_true] at hs'
    have ha := Old.ron_rng hs'.1
    obtain ⟨q1, q2, q3⟩ := Old.acc_all hs'.2
    have q4 := acc_off hs'.2
    rcases ha with ha | ha
    · subst ha
      exact absurd (by simp [Old.txtW, ktxt0, frO, kacc0]) ht
    · have h0 : ¬ ra < 0 := by omega
      have hi : imm = 0 := e4 (by omega)
      subst hi
      refine ⟨_, _, ?_, fun ws h => a_sd (rl := rel) q3 ha q1 q4 q2 h⟩
      have := lk_name (asz_cases q3 false false rel).2 (sep_cons (c := 32) (by decide)) (lk_blank (lk_name (anf ra ha.1 ha.2) (sep_cons (c := 44) (by decide)) (lk_mark (b := 44) (by decide) (lk_mem anf q1 q4 q2 lk_nil))))
      cases rel <;> simpa [Old.txtW, ktxt0, frO, kacc0, mema_w, h0, stN] using this
  by_cases h6 : op = 6
  · subst h6
    have hA : Old.asB ⟨6, dst, ra, rb, imm, loc, off, ix, sz, fn, acq, weak, rel, pred, succ, to, zero⟩ = ⟨6, dst, ra, rb, imm, loc, off, ix, sz, fn, acq, weak, rel, pred, succ, to, zero⟩ := rfl
    rw [hA] at hp hs
    simp [Old.plainF, Old.opB, Old.rdB, Old.wrB] at hp
    obtain ⟨e3, e4, e6, e7, e8, e9, e10⟩ := hp
    subst e3 e4 e6 e7 e8 e9 e10
    have hs' : (Old.regB dst && Old.regB ra && Old.accB ⟨6, dst, ra, -1, 0, loc, off, ix, sz, fn, acq, false, rel, 0, 0, 0, false⟩ && (fn == 6 || fn == 1)) = true := hs
    simp only [Bool.and_eq_true, Bool.or_eq_true, beq_iff_eq] at hs'
    obtain ⟨⟨⟨s1, s2⟩, s3⟩, s4⟩ := hs'
    have hd := Old.reg_rng s1
    have ha := Old.reg_rng s2
    obtain ⟨q1, q2, q3⟩ := Old.acc_all s3
    have q4 := acc_off s3
    refine ⟨_, _, ?_, fun ws h => a_sw (f := fn) (ac := acq) (rl := rel) s4 q3 ha hd q1 q4 q2 h⟩
    have := lk_name (sw_cases s4 q3 acq rel) (sep_cons (c := 32) (by decide)) (lk_blank (lk_name (anf ra ha.1 ha.2) (sep_cons (c := 44) (by decide)) (lk_mark (b := 44) (by decide) (lk_name (anf dst hd.1 hd.2) (sep_cons (c := 44) (by decide)) (lk_mark (b := 44) (by decide) (lk_mem anf q1 q4 q2 lk_nil))))))
    rcases s4 with s4 | s4 <;> subst s4 <;> cases acq <;> cases rel <;> simpa [Old.txtW, ktxt0, frO, kacc0, krmw0, mema_w, swN] using this
  exfalso
  have : Old.soundB (Old.asB ⟨op, dst, ra, rb, imm, loc, off, ix, sz, fn, acq, weak, rel, pred, succ, to, zero⟩) = false := by
    unfold Old.asB Old.soundB
    simp [h1, h2, h3, h4, h5, h6, h7, h8, h9]
  rw [this] at hs; cases hs
theorem back_aV {i : Old.Ins} {lb s : List UInt8} (h : Old.prW i lb = (s, 0)) (hl : s.length ≤ 8192) (hm : -9223372036854775808 ≤ i.imm ∧ i.imm ≤ 9223372036854775807) : ∃ ws, tokensR s = (ws, 0, 0) ∧ parM ws = ({ i with to := 0 }, if i.op = 9 then lb else [], 0, 0) := by
  obtain ⟨rfl, ht, hr, hn⟩ := pr_oksV h
  obtain ⟨q, ks, h1, h2⟩ := back_kV hr ht (fun e => isNm_nam (hn e)) hm
  obtain ⟨ws, w1, w2⟩ := lexK_tokens h1 hl
  have hA : At ws 0 ((1, q, 0) :: ks) := w2
  obtain ⟨P, x1, x2⟩ := h2 ws hA
  refine ⟨ws, w1, fin_backA hA x1 x2 ?_⟩
  by_cases h9 : i.op = 9
  · have : Old.asB { i with to := 0 } = Old.asB i := by unfold Old.asB; simp [h9]
    rw [this]; exact hr
  · have e1 : Old.asB { i with to := 0 } = { i with to := 0 } := by unfold Old.asB; simp [h9]
    have e2 : Old.asB i = i := by unfold Old.asB; simp [h9]
    rw [e2] at hr
    have hto : i.to = 0 := by
      have := congrArg Old.Ins.to (right_of hr).1
      rw [this]; unfold Old.plainF; simp [h9]
    rw [e1]
    have : ({ i with to := 0 } : Old.Ins) = i := by rw [← hto]
    rw [this]; exact hr
end Go.Proofs.YtedlaclfhgneeabGreatDoor
namespace Go.Proofs.YtedlaclfhgneeabGreatDoor.Old
def parO (L : List Tk) (P : Ps × List Rw) : Ins × List UInt8 × Int × Int :=
  if ((moreP L P.1).e == 0) = true then (if wrongB (withL P.2 P.1.ins) = true then (zIns, [], 34, whereR L 0) else (withL P.2 P.1.ins, (moreP L P.1).lab, 0, 0))
  else (zIns, [], (moreP L P.1).e, (moreP L P.1).a)
theorem fin_alike {L : List Tk} {P : Ps × List Rw} {X : (Bool × List UInt8) × Rs × Ins} (hx1 : X.1.1 = true) (hX : Alike P X.2.1 X.2.2 X.1.2) : parO L P = finR L X := by
  obtain ⟨hS, hE⟩ := hX
  rw [fin_yes hx1]
  unfold parO
  obtain ⟨hM, hM0, hlab⟩ := sim_more (L := L) hS
  by_cases he : (moreR L X.2.1).e = 0
  · obtain ⟨h0, _⟩ := sim_p hM he
    obtain ⟨hw, hl⟩ := hE (hM0 he)
    rw [if_pos (by simpa using h0), hw, hlab, hl]
    have ha := wrong_asb X.2.2
    cases hb : wrongB X.2.2
    · rw [hb] at ha
      rw [if_neg (by decide), last_ok (by simpa using he) rfl ha, out_ok (by simpa using he)]
    · rw [hb] at ha
      have ef : failR (moreR L X.2.1) 34 (whereR L 0) = ⟨34, whereR L 0, (moreR L X.2.1).p⟩ := by unfold failR; rw [if_pos (by simpa using he)]
      rw [if_pos rfl, last_bad (by simpa using he) rfl ha, ef, out_no rfl]; rfl
  · have h0 : (moreP L P.1).e ≠ 0 := (sim_ne hM).2 he
    rw [if_neg (by simpa using h0), last_e (by simpa using he), out_no (by simpa using he)]
    rcases hM with ⟨h, _⟩ | ⟨_, h2, h3⟩
    · exact absurd h h0
    · rw [h2, h3]; rfl
end Go.Proofs.YtedlaclfhgneeabGreatDoor.Old
namespace Go.Proofs.YtedlaclfhgneeabGreatDoor
open Go.RowKit
set_option linter.unusedVariables false
set_option linter.unusedSimpArgs false
section
variable {ws : List Tk} {z : Ps} {g : Lg} {R L : List Rw} {m : List UInt8} {x : Int} {k : Nat}
theorem par_gen (hw : WsOK ws) : (toO (parI g ws R), parT g ws R, parE g ws R, parA g ws R) = Old.parO ws (toP (inF g ws R Ps.z0).1, (inF g ws R Ps.z0).2.map toR) := by
  unfold Old.parO
  simp only
  rw [← more_o hw]
  have e1 : (toP ((inF g ws R Ps.z0).1.wa (endA ws (inF g ws R Ps.z0).1.as))).e = (paE g ws R).e := rfl
  have e2 : (toP ((inF g ws R Ps.z0).1.wa (endA ws (inF g ws R Ps.z0).1.as))).a = (paE g ws R).a := rfl
  have e3 : (toP ((inF g ws R Ps.z0).1.wa (endA ws (inF g ws R Ps.z0).1.as))).lab = (inF g ws R Ps.z0).1.lab := rfl
  have e4 : Old.withL ((inF g ws R Ps.z0).2.map toR) (toP (inF g ws R Ps.z0).1).ins = toO (inI g ws R Ps.z0) := by
    unfold inI Old.withL
    cases hx : (inF g ws R Ps.z0).2 with
    | nil => rfl
    | cons y l => rw [if_neg (by simp only [List.length_cons]; omega), List.map_cons]; exact (lay_o y _).symm
  rw [e1, e2, e3, e4, ← wrong_o, where_at hw]
  unfold parI parT parE parA
  by_cases h : (paE g ws R).e = 0
  · rw [if_neg (not_not_intro h), if_neg (not_not_intro h), if_neg (not_not_intro h), if_neg (not_not_intro h), if_pos (beq_iff_eq.2 h)]
    cases wrongI (inI g ws R Ps.z0) <;> rfl
  · rw [if_pos h, if_pos h, if_pos h, if_pos h, if_neg (fun e => h (eq_of_beq e))]; rfl
theorem par_oN (hw : WsOK ws) (hp : PaOK g ws R) (h10 : ∀ r ∈ naR g ws R Ps.z0, ∀ p ∈ r.ps, p ≠ 10) : (toO (parI g ws R), parT g ws R, parE g ws R, parA g ws R) = Old.parP (gO g R) ws := by
  have hI : Old.instP (gO g R) ws Old.zPs = (toP (inF g ws R Ps.z0).1, (inF g ws R Ps.z0).2.map toR) := by
    unfold Old.instP inF
    have hn := named_o (g := g) (R := R) (z := Ps.z0) hw
    have e : toP Ps.z0 = Old.zPs := rfl
    rw [e] at hn
    rw [← hn.1, ← hn.2]
    refine inst_o (N0 := inN g ws R Ps.z0) hw _ _ _ _ _ (fun r hr => ⟨?_, h10 r hr⟩) (by omega) (by have := hp.k; omega)
    cases hx : naR g ws R Ps.z0 with
    | nil => rw [hx] at hr; cases hr
    | cons y l =>
      have hy : y ∈ naR g ws R Ps.z0 := by rw [hx]; exact List.mem_cons_self
      have : inN g ws R Ps.z0 = y.ps.length := by unfold inN; rw [hx]; rfl
      rw [this]; exact hp.s r hr y hy
  rw [par_gen hw, ← hI]; rfl
end
end Go.Proofs.YtedlaclfhgneeabGreatDoor
namespace Go.Proofs.YtedlaclfhgneeabGreatDoor.Old
open Go.RowKit
set_option linter.unusedVariables false
set_option linter.unusedSimpArgs false
set_option linter.unusedSectionVars false
set_option maxRecDepth 100000
section
variable {L : List Tk}
theorem par_nameV {y : Tk} (hy : L[0]? = some y) (h : (y.kind == 1) = true) : parM L = finR L (armR L tA blank y.text) := by unfold parM; rw [hy]; simp [h]
theorem par_alV {q : List UInt8} {n : Int} {r : Rw} {l : List Rw} {y : Tk} (hy : L[0]? = some y) (hk : (y.kind == 1) = true) (hq : y.text = q) (hf : amO.rows.foldl (nStep amO q) (zPs, []) = (⟨{ zIns with size := n }, [], 0, 0, 0⟩, r :: l)) (hX : AlA L q n (r :: l)) : parP amO L = parM L := by
  have hn : namedP amO L zPs = (sAt n, r :: l) := by
    unfold namedP
    rw [show L[zPs.p]? = some y from hy]
    simp only [hk, if_true, hq, hf]
    unfold noRow
    rw [if_neg (by simp; omega)]; rfl
  have hi : instP amO L zPs = instL amO L 1001 0 (r :: l) (sAt n) := by unfold instP; rw [hn]
  rw [par_nameV hy hk, hq, ← fin_alike hX.1 hX.2]
  show parO L (instP amO L zPs) = _
  rw [hi]
theorem par_errV {s : Ps} (h : namedP amO L zPs = (s, [])) (he : s.e ≠ 0) : parP amO L = (zIns, [], s.e, s.a) := by
  have hi : instP amO L zPs = (s, []) := by unfold instP; rw [h, inst_nil]
  have hm : moreP L s = s := by unfold moreP; split; exact ref_bad he; rfl
  unfold parP
  rw [hi, hm, if_neg (by simpa using he)]
theorem fold_noneV {q : List UInt8} : ∀ (l : List Rw), (∀ r ∈ l, (sizeP amO r q).2 = false) → l.foldl (nStep amO q) (zPs, []) = (zPs, [])
  | [], _ => rfl
  | r :: l, h => by
    rw [List.foldl_cons]
    have : nStep amO q (zPs, []) r = (zPs, []) := by unfold nStep; rw [if_neg (by rw [h r (List.mem_cons_self ..)]; decide)]
    rw [this]; exact fold_noneV l fun r hr => h r (List.mem_cons_of_mem _ hr)
theorem sz_noV {q h : List UInt8} (hn : ∀ y ∈ tailsA, q ≠ h ++ y) : szA q h = 0 := by
  unfold szA
  split
  · next hp =>
    unfold preB at hp
    rw [Bool.and_eq_true] at hp
    have ht := eq_of_beq hp.2
    rw [idx_no]
    · rfl
    · intro y hy e
      refine hn y hy ?_
      rw [← e]
      conv => lhs; rw [← List.take_append_drop h.length q]
      rw [ht]
  · rfl
def namesA : List (List UInt8) := [[77, 79, 86], [65, 68, 68], [83, 85, 66], [69, 79, 82], [65, 78, 68], [79, 82, 82], [76, 68, 82, 66], [76, 68, 82, 72], [76, 68, 82, 87], [76, 68, 82], [76, 68, 65, 82, 66], [76, 68, 65, 82, 72], [76, 68, 65, 82, 87], [76, 68, 65, 82], [76, 68, 65, 80, 82, 66], [76, 68, 65, 80, 82, 72], [76, 68, 65, 80, 82, 87], [76, 68, 65, 80, 82], [83, 84, 82, 66], [83, 84, 82, 72], [83, 84, 82, 87], [83, 84, 82], [83, 84, 76, 82, 66], [83, 84, 76, 82, 72], [83, 84, 76, 82, 87], [83, 84, 76, 82], [83, 87, 80, 66], [83, 87, 80, 72], [83, 87, 80, 87], [83, 87, 80], [83, 87, 80, 65, 66], [83, 87, 80, 65, 72], [83, 87, 80, 65, 87], [83, 87, 80, 65], [83, 87, 80, 76, 66], [83, 87, 80, 76, 72], [83, 87, 80, 76, 87], [83, 87, 80, 76], [83, 87, 80, 65, 76, 66], [83, 87, 80, 65, 76, 72], [83, 87, 80, 65, 76, 87], [83, 87, 80, 65, 76], [76, 68, 65, 68, 68, 66], [76, 68, 65, 68, 68, 72], [76, 68, 65, 68, 68, 87], [76, 68, 65, 68, 68], [76, 68, 65, 68, 68, 65, 66], [76, 68, 65, 68, 68, 65, 72], [76, 68, 65, 68, 68, 65, 87], [76, 68, 65, 68, 68, 65], [76, 68, 65, 68, 68, 76, 66], [76, 68, 65, 68, 68, 76, 72], [76, 68, 65, 68, 68, 76, 87], [76, 68, 65, 68, 68, 76], [76, 68, 65, 68, 68, 65, 76, 66], [76, 68, 65, 68, 68, 65, 76, 72], [76, 68, 65, 68, 68, 65, 76, 87], [76, 68, 65, 68, 68, 65, 76], [73, 83, 66], [67, 66, 90], [67, 66, 78, 90], [68, 77, 66]]
theorem ord_no {q h : List UInt8} (h0 : szA q (h ++ []) = 0) (h1 : szA q (h ++ [65]) = 0) (h2 : szA q (h ++ [76]) = 0) (h3 : szA q (h ++ [65, 76]) = 0) : (ordA q h).1 = 0 := by
  unfold ordA; rw [h0, h1, h2, h3]; rfl
theorem arm_no {q : List UInt8} (hN : ∀ z ∈ namesA, q ≠ z) : armR L tA blank q = ((false, []), tA, blank) := by
  have e : ∀ z, z ∈ namesA → (q == z) = false := fun z hz => beq_eq_false_iff_ne.2 (hN z hz)
  have hs : ∀ h : List UInt8, (∀ y ∈ tailsA, h ++ y ∈ namesA) → szA q h = 0 := fun h hh => sz_noV fun y hy => hN _ (hh y hy)
  have ha : ¬ aluA q > 0 := by unfold aluA; rw [idxS_L, idx_no alusA 0 fun y hy => hN y ((by decide : ∀ y ∈ alusA, y ∈ namesA) y hy)]; decide
  unfold armR
  rw [if_neg (hN _ (by decide)), if_neg ha, hs [76, 68, 82] (by decide), hs [76, 68, 65, 82] (by decide), hs [76, 68, 65, 80, 82] (by decide), if_neg (by decide), hs [83, 84, 82] (by decide), hs [83, 84, 76, 82] (by decide), if_neg (by decide), ord_no (h := [83, 87, 80]) (hs _ (by decide)) (hs _ (by decide)) (hs _ (by decide)) (hs _ (by decide)), ord_no (h := [76, 68, 65, 68, 68]) (hs _ (by decide)) (hs _ (by decide)) (hs _ (by decide)) (hs _ (by decide)), if_neg (by decide), if_neg (hN _ (by decide)), if_neg (hN _ (by decide)), if_neg (by rw [e _ (by decide : [67, 66, 90] ∈ namesA), e _ (by decide : [67, 66, 78, 90] ∈ namesA)]; decide)]
theorem rows_names : ∀ m ∈ amO.rows.map (·.name), (if (Lib.cut m [42]).2.2 = true then (amO.lets.map fun y => (Lib.cut m [42]).1 ++ y ++ (Lib.cut m [42]).2.1).all fun z => decide (z ∈ namesA) else decide (m ∈ namesA)) = true := by decide +kernel
theorem par_noV {q : List UInt8} {y : Tk} (hy : L[0]? = some y) (hk : (y.kind == 1) = true) (hq : y.text = q) (hN : ∀ z ∈ namesA, q ≠ z) : parP amO L = parM L := by
  have e : ∀ z, z ∈ namesA → eqL q z = false := fun z hz => eqL_no (hN z hz)
  have hx := arm_no (L := L) hN
  have hr : ∀ r ∈ amO.rows, (sizeP amO r q).2 = false := fun r hr => by
    have h := rows_names r.name (List.mem_map_of_mem hr)
    unfold sizeP
    split
    · next hc =>
      rw [if_pos hc] at h
      rw [if_pos ?_]
      have : idxL (sizedN amO r) q 0 = -1 := idx_no _ 0 fun y hy => hN y (of_decide_eq_true (List.all_eq_true.1 h y hy))
      rw [this]; rfl
    · next hc =>
      rw [if_neg hc] at h
      exact e _ (of_decide_eq_true h)
  have hn : namedP amO L zPs = (nextP (refP L 21 zPs), []) := by
    unfold namedP
    rw [show L[zPs.p]? = some y from hy]
    simp only [hk, if_true, hq, fold_noneV _ hr]
    unfold noRow; rfl
  have hlt : 0 < L.length := (List.getElem?_eq_some_iff.1 hy).1
  have hg : refP L 21 zPs = setAt (setE zPs 21) (whereR L 0) := by
    rw [ref_good rfl, if_pos (decide_eq_true (show zPs.p < L.length from hlt))]; rfl
  rw [par_errV hn (by rw [hg]; exact (by decide : (21 : Int) ≠ 0)), par_nameV hy hk, hq, fin_no (by rw [hx]), hg]; rfl
theorem par_badV (h : ∀ y, L[0]? = some y → (y.kind == 1) = false) : parP amO L = parM L := by
  have hn : namedP amO L zPs = (refP L 22 zPs, []) := by
    unfold namedP
    cases hy : L[zPs.p]? with
    | none => rfl
    | some y => simp only [h y hy, Bool.false_eq_true, if_false]
  have hb : parM L = badR L := by
    unfold parM
    cases hy : L[0]? with
    | none => rfl
    | some y => simp only [h y hy, Bool.false_eq_true, if_false]
  rw [par_errV hn ref_ne, hb]
  unfold badR oddR
  cases hy : L[0]? with
  | none =>
    have hl : L.length ≤ 0 := by simpa using hy
    rw [ref_good rfl, if_neg (by rw [decide_eq_false (show ¬ zPs.p < L.length from Nat.not_lt.2 hl)]; decide)]; rfl
  | some y =>
    have hlt : 0 < L.length := (List.getElem?_eq_some_iff.1 hy).1
    rw [ref_good rfl, if_pos (decide_eq_true (show zPs.p < L.length from hlt))]
    simp only [h y hy, Bool.and_false, Bool.false_eq_true, if_false]
    show (zIns, ([] : List UInt8), (22 : Int), whereR L 0) = (ins0, [], 22, y.at_)
    rw [where_some hy]; rfl
theorem pa_eqV (hW : WF L) (hD : ∀ y, L[0]? = some y → (y.kind == 1) = true → y.text ≠ [68, 77, 66]) : parP amO L = parM L := by
  cases hy : L[0]? with
  | none => exact par_badV fun y h => by rw [hy] at h; cases h
  | some y =>
    cases hk : (y.kind == 1)
    · exact par_badV fun z h => by rw [hy] at h; cases h; exact hk
    · by_cases hN : ∀ z ∈ namesA, y.text ≠ z
      · exact par_noV hy hk rfl hN
      · obtain ⟨z, hz, hq⟩ : ∃ z, z ∈ namesA ∧ y.text = z := by
          rcases Classical.em (∃ z, z ∈ namesA ∧ y.text = z) with h | h
          · exact h
          · exact absurd (fun z hz e => h ⟨z, hz, e⟩) hN
        simp only [namesA, List.mem_cons, List.not_mem_nil, or_false] at hz
        rcases hz with rfl | rfl | rfl | rfl | rfl | rfl | rfl | rfl | rfl | rfl | rfl | rfl | rfl | rfl | rfl | rfl | rfl | rfl | rfl | rfl | rfl | rfl | rfl | rfl | rfl | rfl | rfl | rfl | rfl | rfl | rfl | rfl | rfl | rfl | rfl | rfl | rfl | rfl | rfl | rfl | rfl | rfl | rfl | rfl | rfl | rfl | rfl | rfl | rfl | rfl | rfl | rfl | rfl | rfl | rfl | rfl | rfl | rfl | rfl | rfl | rfl | rfl
        · exact par_alV (n := 0) (r := (⟨[77, 79, 86], ⟨1, 0, 0, 0, 0, 0, 0, 0, 0, 0, false, false, false, 0, 0, 0, false⟩, nilV, [1, 5]⟩ : Rw)) (l := [(⟨[77, 79, 86], ⟨2, 0, 0, 0, 0, 0, 0, 0, 0, 0, false, false, false, 0, 0, 0, false⟩, nilV, [1, 2]⟩ : Rw)]) hy hk hq (by kernel_rfl) (ar_mov hW)
        · exact par_alV (n := 0) (r := (⟨[65, 68, 68], ⟨3, 0, 0, 0, 0, 0, 0, 0, 0, 1, false, false, false, 0, 0, 0, false⟩, nilV, [1, 2, 3]⟩ : Rw)) (l := [(⟨[65, 68, 68], ⟨3, 0, 0, 0, 0, 0, 0, 0, 0, 1, false, false, false, 0, 0, 0, false⟩, nilV, [1, 2, 5]⟩ : Rw)]) hy hk hq (by kernel_rfl) (ar_alu hW (by kernel_rfl))
        · exact par_alV (n := 0) (r := (⟨[83, 85, 66], ⟨3, 0, 0, 0, 0, 0, 0, 0, 0, 2, false, false, false, 0, 0, 0, false⟩, nilV, [1, 2, 3]⟩ : Rw)) (l := [(⟨[83, 85, 66], ⟨3, 0, 0, 0, 0, 0, 0, 0, 0, 2, false, false, false, 0, 0, 0, false⟩, nilV, [1, 2, 5]⟩ : Rw)]) hy hk hq (by kernel_rfl) (ar_alu hW (by kernel_rfl))
        · exact par_alV (n := 0) (r := (⟨[69, 79, 82], ⟨3, 0, 0, 0, 0, 0, 0, 0, 0, 3, false, false, false, 0, 0, 0, false⟩, nilV, [1, 2, 3]⟩ : Rw)) (l := [(⟨[69, 79, 82], ⟨3, 0, 0, 0, 0, 0, 0, 0, 0, 3, false, false, false, 0, 0, 0, false⟩, nilV, [1, 2, 5]⟩ : Rw)]) hy hk hq (by kernel_rfl) (ar_alu hW (by kernel_rfl))
        · exact par_alV (n := 0) (r := (⟨[65, 78, 68], ⟨3, 0, 0, 0, 0, 0, 0, 0, 0, 4, false, false, false, 0, 0, 0, false⟩, nilV, [1, 2, 3]⟩ : Rw)) (l := [(⟨[65, 78, 68], ⟨3, 0, 0, 0, 0, 0, 0, 0, 0, 4, false, false, false, 0, 0, 0, false⟩, nilV, [1, 2, 5]⟩ : Rw)]) hy hk hq (by kernel_rfl) (ar_alu hW (by kernel_rfl))
        · exact par_alV (n := 0) (r := (⟨[79, 82, 82], ⟨3, 0, 0, 0, 0, 0, 0, 0, 0, 5, false, false, false, 0, 0, 0, false⟩, nilV, [1, 2, 3]⟩ : Rw)) (l := [(⟨[79, 82, 82], ⟨3, 0, 0, 0, 0, 0, 0, 0, 0, 5, false, false, false, 0, 0, 0, false⟩, nilV, [1, 2, 5]⟩ : Rw)]) hy hk hq (by kernel_rfl) (ar_alu hW (by kernel_rfl))
        · exact par_alV (n := 1) (r := (⟨[76, 68, 82, 42], ⟨4, 0, 0, 0, 0, 0, 0, 0, 0, 0, false, false, false, 0, 0, 0, false⟩, nilV, [1, 6]⟩ : Rw)) (l := []) hy hk hq (by kernel_rfl) (al_ld hW (by kernel_rfl))
        · exact par_alV (n := 2) (r := (⟨[76, 68, 82, 42], ⟨4, 0, 0, 0, 0, 0, 0, 0, 0, 0, false, false, false, 0, 0, 0, false⟩, nilV, [1, 6]⟩ : Rw)) (l := []) hy hk hq (by kernel_rfl) (al_ld hW (by kernel_rfl))
        · exact par_alV (n := 4) (r := (⟨[76, 68, 82, 42], ⟨4, 0, 0, 0, 0, 0, 0, 0, 0, 0, false, false, false, 0, 0, 0, false⟩, nilV, [1, 6]⟩ : Rw)) (l := []) hy hk hq (by kernel_rfl) (al_ld hW (by kernel_rfl))
        · exact par_alV (n := 8) (r := (⟨[76, 68, 82, 42], ⟨4, 0, 0, 0, 0, 0, 0, 0, 0, 0, false, false, false, 0, 0, 0, false⟩, nilV, [1, 6]⟩ : Rw)) (l := []) hy hk hq (by kernel_rfl) (al_ld hW (by kernel_rfl))
        · exact par_alV (n := 1) (r := (⟨[76, 68, 65, 82, 42], ⟨4, 0, 0, 0, 0, 0, 0, 0, 0, 0, true, false, false, 0, 0, 0, false⟩, nilV, [1, 6]⟩ : Rw)) (l := []) hy hk hq (by kernel_rfl) (al_ld hW (by kernel_rfl))
        · exact par_alV (n := 2) (r := (⟨[76, 68, 65, 82, 42], ⟨4, 0, 0, 0, 0, 0, 0, 0, 0, 0, true, false, false, 0, 0, 0, false⟩, nilV, [1, 6]⟩ : Rw)) (l := []) hy hk hq (by kernel_rfl) (al_ld hW (by kernel_rfl))
        · exact par_alV (n := 4) (r := (⟨[76, 68, 65, 82, 42], ⟨4, 0, 0, 0, 0, 0, 0, 0, 0, 0, true, false, false, 0, 0, 0, false⟩, nilV, [1, 6]⟩ : Rw)) (l := []) hy hk hq (by kernel_rfl) (al_ld hW (by kernel_rfl))
        · exact par_alV (n := 8) (r := (⟨[76, 68, 65, 82, 42], ⟨4, 0, 0, 0, 0, 0, 0, 0, 0, 0, true, false, false, 0, 0, 0, false⟩, nilV, [1, 6]⟩ : Rw)) (l := []) hy hk hq (by kernel_rfl) (al_ld hW (by kernel_rfl))
        · exact par_alV (n := 1) (r := (⟨[76, 68, 65, 80, 82, 42], ⟨4, 0, 0, 0, 0, 0, 0, 0, 0, 0, false, true, false, 0, 0, 0, false⟩, nilV, [1, 6]⟩ : Rw)) (l := []) hy hk hq (by kernel_rfl) (al_ld hW (by kernel_rfl))
        · exact par_alV (n := 2) (r := (⟨[76, 68, 65, 80, 82, 42], ⟨4, 0, 0, 0, 0, 0, 0, 0, 0, 0, false, true, false, 0, 0, 0, false⟩, nilV, [1, 6]⟩ : Rw)) (l := []) hy hk hq (by kernel_rfl) (al_ld hW (by kernel_rfl))
        · exact par_alV (n := 4) (r := (⟨[76, 68, 65, 80, 82, 42], ⟨4, 0, 0, 0, 0, 0, 0, 0, 0, 0, false, true, false, 0, 0, 0, false⟩, nilV, [1, 6]⟩ : Rw)) (l := []) hy hk hq (by kernel_rfl) (al_ld hW (by kernel_rfl))
        · exact par_alV (n := 8) (r := (⟨[76, 68, 65, 80, 82, 42], ⟨4, 0, 0, 0, 0, 0, 0, 0, 0, 0, false, true, false, 0, 0, 0, false⟩, nilV, [1, 6]⟩ : Rw)) (l := []) hy hk hq (by kernel_rfl) (al_ld hW (by kernel_rfl))
        · exact par_alV (n := 1) (r := (⟨[83, 84, 82, 42], ⟨5, 0, 0, 0, 0, 0, 0, 0, 0, 0, false, false, false, 0, 0, 0, false⟩, nilV, [2, 6]⟩ : Rw)) (l := []) hy hk hq (by kernel_rfl) (al_sd hW (by kernel_rfl))
        · exact par_alV (n := 2) (r := (⟨[83, 84, 82, 42], ⟨5, 0, 0, 0, 0, 0, 0, 0, 0, 0, false, false, false, 0, 0, 0, false⟩, nilV, [2, 6]⟩ : Rw)) (l := []) hy hk hq (by kernel_rfl) (al_sd hW (by kernel_rfl))
        · exact par_alV (n := 4) (r := (⟨[83, 84, 82, 42], ⟨5, 0, 0, 0, 0, 0, 0, 0, 0, 0, false, false, false, 0, 0, 0, false⟩, nilV, [2, 6]⟩ : Rw)) (l := []) hy hk hq (by kernel_rfl) (al_sd hW (by kernel_rfl))
        · exact par_alV (n := 8) (r := (⟨[83, 84, 82, 42], ⟨5, 0, 0, 0, 0, 0, 0, 0, 0, 0, false, false, false, 0, 0, 0, false⟩, nilV, [2, 6]⟩ : Rw)) (l := []) hy hk hq (by kernel_rfl) (al_sd hW (by kernel_rfl))
        · exact par_alV (n := 1) (r := (⟨[83, 84, 76, 82, 42], ⟨5, 0, 0, 0, 0, 0, 0, 0, 0, 0, false, false, true, 0, 0, 0, false⟩, nilV, [2, 6]⟩ : Rw)) (l := []) hy hk hq (by kernel_rfl) (al_sd hW (by kernel_rfl))
        · exact par_alV (n := 2) (r := (⟨[83, 84, 76, 82, 42], ⟨5, 0, 0, 0, 0, 0, 0, 0, 0, 0, false, false, true, 0, 0, 0, false⟩, nilV, [2, 6]⟩ : Rw)) (l := []) hy hk hq (by kernel_rfl) (al_sd hW (by kernel_rfl))
        · exact par_alV (n := 4) (r := (⟨[83, 84, 76, 82, 42], ⟨5, 0, 0, 0, 0, 0, 0, 0, 0, 0, false, false, true, 0, 0, 0, false⟩, nilV, [2, 6]⟩ : Rw)) (l := []) hy hk hq (by kernel_rfl) (al_sd hW (by kernel_rfl))
        · exact par_alV (n := 8) (r := (⟨[83, 84, 76, 82, 42], ⟨5, 0, 0, 0, 0, 0, 0, 0, 0, 0, false, false, true, 0, 0, 0, false⟩, nilV, [2, 6]⟩ : Rw)) (l := []) hy hk hq (by kernel_rfl) (al_sd hW (by kernel_rfl))
        · exact par_alV (n := 1) (r := (⟨[83, 87, 80, 42], ⟨6, 0, 0, 0, 0, 0, 0, 0, 0, 6, false, false, false, 0, 0, 0, false⟩, nilV, [2, 1, 6]⟩ : Rw)) (l := []) hy hk hq (by kernel_rfl) (al_amo hW (by kernel_rfl))
        · exact par_alV (n := 2) (r := (⟨[83, 87, 80, 42], ⟨6, 0, 0, 0, 0, 0, 0, 0, 0, 6, false, false, false, 0, 0, 0, false⟩, nilV, [2, 1, 6]⟩ : Rw)) (l := []) hy hk hq (by kernel_rfl) (al_amo hW (by kernel_rfl))
        · exact par_alV (n := 4) (r := (⟨[83, 87, 80, 42], ⟨6, 0, 0, 0, 0, 0, 0, 0, 0, 6, false, false, false, 0, 0, 0, false⟩, nilV, [2, 1, 6]⟩ : Rw)) (l := []) hy hk hq (by kernel_rfl) (al_amo hW (by kernel_rfl))
        · exact par_alV (n := 8) (r := (⟨[83, 87, 80, 42], ⟨6, 0, 0, 0, 0, 0, 0, 0, 0, 6, false, false, false, 0, 0, 0, false⟩, nilV, [2, 1, 6]⟩ : Rw)) (l := []) hy hk hq (by kernel_rfl) (al_amo hW (by kernel_rfl))
        · exact par_alV (n := 1) (r := (⟨[83, 87, 80, 65, 42], ⟨6, 0, 0, 0, 0, 0, 0, 0, 0, 6, true, false, false, 0, 0, 0, false⟩, nilV, [2, 1, 6]⟩ : Rw)) (l := []) hy hk hq (by kernel_rfl) (al_amo hW (by kernel_rfl))
        · exact par_alV (n := 2) (r := (⟨[83, 87, 80, 65, 42], ⟨6, 0, 0, 0, 0, 0, 0, 0, 0, 6, true, false, false, 0, 0, 0, false⟩, nilV, [2, 1, 6]⟩ : Rw)) (l := []) hy hk hq (by kernel_rfl) (al_amo hW (by kernel_rfl))
        · exact par_alV (n := 4) (r := (⟨[83, 87, 80, 65, 42], ⟨6, 0, 0, 0, 0, 0, 0, 0, 0, 6, true, false, false, 0, 0, 0, false⟩, nilV, [2, 1, 6]⟩ : Rw)) (l := []) hy hk hq (by kernel_rfl) (al_amo hW (by kernel_rfl))
        · exact par_alV (n := 8) (r := (⟨[83, 87, 80, 65, 42], ⟨6, 0, 0, 0, 0, 0, 0, 0, 0, 6, true, false, false, 0, 0, 0, false⟩, nilV, [2, 1, 6]⟩ : Rw)) (l := []) hy hk hq (by kernel_rfl) (al_amo hW (by kernel_rfl))
        · exact par_alV (n := 1) (r := (⟨[83, 87, 80, 76, 42], ⟨6, 0, 0, 0, 0, 0, 0, 0, 0, 6, false, false, true, 0, 0, 0, false⟩, nilV, [2, 1, 6]⟩ : Rw)) (l := []) hy hk hq (by kernel_rfl) (al_amo hW (by kernel_rfl))
        · exact par_alV (n := 2) (r := (⟨[83, 87, 80, 76, 42], ⟨6, 0, 0, 0, 0, 0, 0, 0, 0, 6, false, false, true, 0, 0, 0, false⟩, nilV, [2, 1, 6]⟩ : Rw)) (l := []) hy hk hq (by kernel_rfl) (al_amo hW (by kernel_rfl))
        · exact par_alV (n := 4) (r := (⟨[83, 87, 80, 76, 42], ⟨6, 0, 0, 0, 0, 0, 0, 0, 0, 6, false, false, true, 0, 0, 0, false⟩, nilV, [2, 1, 6]⟩ : Rw)) (l := []) hy hk hq (by kernel_rfl) (al_amo hW (by kernel_rfl))
        · exact par_alV (n := 8) (r := (⟨[83, 87, 80, 76, 42], ⟨6, 0, 0, 0, 0, 0, 0, 0, 0, 6, false, false, true, 0, 0, 0, false⟩, nilV, [2, 1, 6]⟩ : Rw)) (l := []) hy hk hq (by kernel_rfl) (al_amo hW (by kernel_rfl))
        · exact par_alV (n := 1) (r := (⟨[83, 87, 80, 65, 76, 42], ⟨6, 0, 0, 0, 0, 0, 0, 0, 0, 6, true, false, true, 0, 0, 0, false⟩, nilV, [2, 1, 6]⟩ : Rw)) (l := []) hy hk hq (by kernel_rfl) (al_amo hW (by kernel_rfl))
        · exact par_alV (n := 2) (r := (⟨[83, 87, 80, 65, 76, 42], ⟨6, 0, 0, 0, 0, 0, 0, 0, 0, 6, true, false, true, 0, 0, 0, false⟩, nilV, [2, 1, 6]⟩ : Rw)) (l := []) hy hk hq (by kernel_rfl) (al_amo hW (by kernel_rfl))
        · exact par_alV (n := 4) (r := (⟨[83, 87, 80, 65, 76, 42], ⟨6, 0, 0, 0, 0, 0, 0, 0, 0, 6, true, false, true, 0, 0, 0, false⟩, nilV, [2, 1, 6]⟩ : Rw)) (l := []) hy hk hq (by kernel_rfl) (al_amo hW (by kernel_rfl))
        · exact par_alV (n := 8) (r := (⟨[83, 87, 80, 65, 76, 42], ⟨6, 0, 0, 0, 0, 0, 0, 0, 0, 6, true, false, true, 0, 0, 0, false⟩, nilV, [2, 1, 6]⟩ : Rw)) (l := []) hy hk hq (by kernel_rfl) (al_amo hW (by kernel_rfl))
        · exact par_alV (n := 1) (r := (⟨[76, 68, 65, 68, 68, 42], ⟨6, 0, 0, 0, 0, 0, 0, 0, 0, 1, false, false, false, 0, 0, 0, false⟩, nilV, [2, 1, 6]⟩ : Rw)) (l := []) hy hk hq (by kernel_rfl) (al_amo hW (by kernel_rfl))
        · exact par_alV (n := 2) (r := (⟨[76, 68, 65, 68, 68, 42], ⟨6, 0, 0, 0, 0, 0, 0, 0, 0, 1, false, false, false, 0, 0, 0, false⟩, nilV, [2, 1, 6]⟩ : Rw)) (l := []) hy hk hq (by kernel_rfl) (al_amo hW (by kernel_rfl))
        · exact par_alV (n := 4) (r := (⟨[76, 68, 65, 68, 68, 42], ⟨6, 0, 0, 0, 0, 0, 0, 0, 0, 1, false, false, false, 0, 0, 0, false⟩, nilV, [2, 1, 6]⟩ : Rw)) (l := []) hy hk hq (by kernel_rfl) (al_amo hW (by kernel_rfl))
        · exact par_alV (n := 8) (r := (⟨[76, 68, 65, 68, 68, 42], ⟨6, 0, 0, 0, 0, 0, 0, 0, 0, 1, false, false, false, 0, 0, 0, false⟩, nilV, [2, 1, 6]⟩ : Rw)) (l := []) hy hk hq (by kernel_rfl) (al_amo hW (by kernel_rfl))
        · exact par_alV (n := 1) (r := (⟨[76, 68, 65, 68, 68, 65, 42], ⟨6, 0, 0, 0, 0, 0, 0, 0, 0, 1, true, false, false, 0, 0, 0, false⟩, nilV, [2, 1, 6]⟩ : Rw)) (l := []) hy hk hq (by kernel_rfl) (al_amo hW (by kernel_rfl))
        · exact par_alV (n := 2) (r := (⟨[76, 68, 65, 68, 68, 65, 42], ⟨6, 0, 0, 0, 0, 0, 0, 0, 0, 1, true, false, false, 0, 0, 0, false⟩, nilV, [2, 1, 6]⟩ : Rw)) (l := []) hy hk hq (by kernel_rfl) (al_amo hW (by kernel_rfl))
        · exact par_alV (n := 4) (r := (⟨[76, 68, 65, 68, 68, 65, 42], ⟨6, 0, 0, 0, 0, 0, 0, 0, 0, 1, true, false, false, 0, 0, 0, false⟩, nilV, [2, 1, 6]⟩ : Rw)) (l := []) hy hk hq (by kernel_rfl) (al_amo hW (by kernel_rfl))
        · exact par_alV (n := 8) (r := (⟨[76, 68, 65, 68, 68, 65, 42], ⟨6, 0, 0, 0, 0, 0, 0, 0, 0, 1, true, false, false, 0, 0, 0, false⟩, nilV, [2, 1, 6]⟩ : Rw)) (l := []) hy hk hq (by kernel_rfl) (al_amo hW (by kernel_rfl))
        · exact par_alV (n := 1) (r := (⟨[76, 68, 65, 68, 68, 76, 42], ⟨6, 0, 0, 0, 0, 0, 0, 0, 0, 1, false, false, true, 0, 0, 0, false⟩, nilV, [2, 1, 6]⟩ : Rw)) (l := []) hy hk hq (by kernel_rfl) (al_amo hW (by kernel_rfl))
        · exact par_alV (n := 2) (r := (⟨[76, 68, 65, 68, 68, 76, 42], ⟨6, 0, 0, 0, 0, 0, 0, 0, 0, 1, false, false, true, 0, 0, 0, false⟩, nilV, [2, 1, 6]⟩ : Rw)) (l := []) hy hk hq (by kernel_rfl) (al_amo hW (by kernel_rfl))
        · exact par_alV (n := 4) (r := (⟨[76, 68, 65, 68, 68, 76, 42], ⟨6, 0, 0, 0, 0, 0, 0, 0, 0, 1, false, false, true, 0, 0, 0, false⟩, nilV, [2, 1, 6]⟩ : Rw)) (l := []) hy hk hq (by kernel_rfl) (al_amo hW (by kernel_rfl))
        · exact par_alV (n := 8) (r := (⟨[76, 68, 65, 68, 68, 76, 42], ⟨6, 0, 0, 0, 0, 0, 0, 0, 0, 1, false, false, true, 0, 0, 0, false⟩, nilV, [2, 1, 6]⟩ : Rw)) (l := []) hy hk hq (by kernel_rfl) (al_amo hW (by kernel_rfl))
        · exact par_alV (n := 1) (r := (⟨[76, 68, 65, 68, 68, 65, 76, 42], ⟨6, 0, 0, 0, 0, 0, 0, 0, 0, 1, true, false, true, 0, 0, 0, false⟩, nilV, [2, 1, 6]⟩ : Rw)) (l := []) hy hk hq (by kernel_rfl) (al_amo hW (by kernel_rfl))
        · exact par_alV (n := 2) (r := (⟨[76, 68, 65, 68, 68, 65, 76, 42], ⟨6, 0, 0, 0, 0, 0, 0, 0, 0, 1, true, false, true, 0, 0, 0, false⟩, nilV, [2, 1, 6]⟩ : Rw)) (l := []) hy hk hq (by kernel_rfl) (al_amo hW (by kernel_rfl))
        · exact par_alV (n := 4) (r := (⟨[76, 68, 65, 68, 68, 65, 76, 42], ⟨6, 0, 0, 0, 0, 0, 0, 0, 0, 1, true, false, true, 0, 0, 0, false⟩, nilV, [2, 1, 6]⟩ : Rw)) (l := []) hy hk hq (by kernel_rfl) (al_amo hW (by kernel_rfl))
        · exact par_alV (n := 8) (r := (⟨[76, 68, 65, 68, 68, 65, 76, 42], ⟨6, 0, 0, 0, 0, 0, 0, 0, 0, 1, true, false, true, 0, 0, 0, false⟩, nilV, [2, 1, 6]⟩ : Rw)) (l := []) hy hk hq (by kernel_rfl) (al_amo hW (by kernel_rfl))
        · exact par_alV (n := 0) (r := (⟨[73, 83, 66], ⟨8, 0, 0, 0, 0, 0, 0, 0, 0, 0, false, false, false, 0, 0, 0, false⟩, nilV, []⟩ : Rw)) (l := []) hy hk hq (by kernel_rfl) (al_isb)
        · exact par_alV (n := 0) (r := (⟨[67, 66, 90], ⟨9, 0, 0, 0, 0, 0, 0, 0, 0, 0, false, false, false, 0, 0, 0, true⟩, nilV, [2, 7]⟩ : Rw)) (l := []) hy hk hq (by kernel_rfl) (al_br (by kernel_rfl))
        · exact par_alV (n := 0) (r := (⟨[67, 66, 78, 90], ⟨9, 0, 0, 0, 0, 0, 0, 0, 0, 0, false, false, false, 0, 0, 0, false⟩, nilV, [2, 7]⟩ : Rw)) (l := []) hy hk hq (by kernel_rfl) (al_br (by kernel_rfl))
        · exact absurd hq (hD y hy hk)
end
end Go.Proofs.YtedlaclfhgneeabGreatDoor.Old
namespace Go.Proofs.YtedlaclfhgneeabGreatDoor
open Go.RowKit
set_option linter.unusedVariables false
set_option linter.unusedSimpArgs false
set_option maxRecDepth 100000
theorem gO_a : gO armG armC = amO := by kernel_rfl
theorem ten_dmb : ∀ r ∈ armC, 10 ∈ r.ps → r.nm = [68, 77, 66] := by decide +kernel
def dmbR : List Rw := [rwOf ([68, 77, 66], [83, 89], ⟨7, 0, 0, 0, 0, 0, 0, 0, 0, 0, false, false, false, 3, 3, 0, false⟩, [10]), rwOf ([68, 77, 66], [76, 68], ⟨7, 0, 0, 0, 0, 0, 0, 0, 0, 0, false, false, false, 1, 3, 0, false⟩, [10]), rwOf ([68, 77, 66], [83, 84], ⟨7, 0, 0, 0, 0, 0, 0, 0, 0, 0, false, false, false, 2, 2, 0, false⟩, [10])]
theorem dmb_fold : armC.foldl (nSt armG [68, 77, 66]) (0, []) = (0, dmbR) := by kernel_rfl
section
variable {ws : List Tk}
theorem not_dmb (hD : ∀ y, ws[0]? = some y → (y.kind == 1) = true → y.text ≠ [68, 77, 66]) : ∀ r ∈ naR armG ws armC Ps.z0, ∀ p ∈ r.ps, p ≠ 10 := by
  intro r hr p hp e
  subst e
  unfold naR at hr
  split at hr
  · next hk =>
    have hk' : (ws.getD 0 tok0).kind = 1 := hk
    unfold naZ zK at hr
    rw [List.take_length] at hr
    rcases nfl_sz _ _ _ hr with h | h
    · cases h
    · have hnm := ten_dmb r h.1 hp
      have h2 := h.2
      rw [hnm] at h2
      have h3 : ((ws.getD 0 tok0).text == [68, 77, 66]) = true := h2
      have hl : 0 < ws.length := by
        rcases Nat.lt_or_ge 0 ws.length with q | q
        · exact q
        · rw [tk_out (by omega)] at hk'; exact absurd hk' (by decide)
      exact hD _ (tk_get hl) (by rw [hk']; rfl) (eq_of_beq h3)
  · cases hr
end
theorem dmb_lft (t : Tk) : lft armG 0 t dmbR = if ((t.kind == 1) && (t.text == [83, 89])) = true then [dmbR.getD 0 Rw.z] else if ((t.kind == 1) && (t.text == [76, 68])) = true then [dmbR.getD 1 Rw.z] else if ((t.kind == 1) && (t.text == [83, 84])) = true then [dmbR.getD 2 Rw.z] else [] := by
  have e0 : stk armG 0 t (dmbR.getD 0 Rw.z) = !((t.kind == 1) && (t.text == [83, 89])) := rfl
  have e1 : stk armG 0 t (dmbR.getD 1 Rw.z) = !((t.kind == 1) && (t.text == [76, 68])) := rfl
  have e2 : stk armG 0 t (dmbR.getD 2 Rw.z) = !((t.kind == 1) && (t.text == [83, 84])) := rfl
  unfold lft
  show List.filter _ [dmbR.getD 0 Rw.z, dmbR.getD 1 Rw.z, dmbR.getD 2 Rw.z] = _
  simp only [List.filter_cons, List.filter_nil, e0, e1, e2, Bool.not_not]
  by_cases h0 : t.text = [83, 89]
  · rw [h0]; cases (t.kind == 1) <;> rfl
  · by_cases h1 : t.text = [76, 68]
    · rw [h1]; cases (t.kind == 1) <;> rfl
    · by_cases h2 : t.text = [83, 84]
      · rw [h2]; cases (t.kind == 1) <;> rfl
      · rw [beq_eq_false_iff_ne.2 h0, beq_eq_false_iff_ne.2 h1, beq_eq_false_iff_ne.2 h2]; cases (t.kind == 1) <;> rfl
section
variable {ws : List Tk}
theorem dmb_inst (hk : (ws.getD 0 tok0).kind = 1) (ht : (ws.getD 0 tok0).text = [68, 77, 66]) : inF armG ws armC Ps.z0 = inst armG ws 2 0 dmbR ⟨zIn, [], 0, 0, nxK ws 0⟩ := by
  have hz : naZ armG ws armC Ps.z0 = (0, dmbR) := by
    unfold naZ zK; rw [List.take_length]
    show armC.foldl (nSt armG (ws.getD 0 tok0).text) (0, []) = _
    rw [ht]; exact dmb_fold
  have hr : naR armG ws armC Ps.z0 = dmbR := by
    unfold naR; rw [if_pos (show (ws.getD Ps.z0.p tok0).kind = 1 from hk), hz]
  have hs : naS armG ws armC Ps.z0 = ⟨zIn, [], 0, 0, nxK ws 0⟩ := by
    unfold naS; rw [if_pos (show (ws.getD Ps.z0.p tok0).kind = 1 from hk), hz]; rfl
  unfold inF inN
  rw [hr, hs]; rfl
theorem inst_one {z : Ps} {r : Rw} (h : r.ps.length = 1) : inst armG ws 1 1 [r] z = (z, [r]) := by
  have e : goB [r] 1 = false := by unfold goB; show (_ && decide ((1 : Int) < ((r.ps.length : Nat) : Int))) = false; rw [h]; rfl
  show (if goB [r] 1 = true then _ else _) = _
  rw [e]; rfl
theorem inst_two (z : Ps) : inst armG ws 2 0 dmbR z = inst armG ws 1 1 (lft armG 0 (ws.getD z.p tok0) dmbR) (nxS armG ws 0 dmbR z) := rfl
theorem dmb_alike (hw : WsOK ws) (hf : Old.WF ws) (hl : 0 < ws.length) : Old.Alike (toP (inst armG ws 2 0 dmbR ⟨zIn, [], 0, 0, 1⟩).1, (inst armG ws 2 0 dmbR ⟨zIn, [], 0, 0, 1⟩).2.map toR) (barA ws Old.tA).1 (Old.Ins.mk 7 (-1) (-1) (-1) 0 0 0 (-1) 0 0 false false false (barA ws Old.tA).2.1 (barA ws Old.tA).2.2 0 false) [] := by
  rw [inst_two]
  have en : n1 ws 0 (⟨zIn, [], 0, 0, 1⟩ : Ps) = ⟨zIn, [], 0, 0, 1⟩ := rfl
  have hd := dmb_lft (ws.getD 1 tok0)
  have hlen : ∀ w : List UInt8, (((ws.getD 1 tok0).kind == 1) && ((ws.getD 1 tok0).text == w)) = true → 1 < ws.length := fun w h => by
    rcases Nat.lt_or_ge 1 ws.length with q | q
    · exact q
    · rw [tk_out (by omega)] at h; rw [Bool.and_eq_true] at h; exact absurd h.1 (by decide)
  have step : ∀ (r : Rw) (w : List UInt8), r.ps = [10] → lft armG 0 (ws.getD 1 tok0) dmbR = [r] → (((ws.getD 1 tok0).kind == 1) && ((ws.getD 1 tok0).text == w)) = true → inst armG ws 1 1 (lft armG 0 (ws.getD 1 tok0) dmbR) (nxS armG ws 0 dmbR ⟨zIn, [], 0, 0, 1⟩) = (⟨zIn, [], 0, 0, 1 + 1⟩, [r]) := fun r w hr hL hk => by
    have hx : nxR armG ws 0 dmbR (⟨zIn, [], 0, 0, 1⟩ : Ps) = [r] := hL
    have hb : beS armG ws 0 dmbR (⟨zIn, [], 0, 0, 1⟩ : Ps) = ⟨zIn, [], 0, 0, 1⟩ := by
      unfold beS; rw [if_neg]; rw [show (⟨zIn, [], 0, 0, 1⟩ : Ps).p = 1 from rfl, hL]; exact Nat.one_ne_zero
    have hS : nxS armG ws 0 dmbR ⟨zIn, [], 0, 0, 1⟩ = ⟨zIn, [], 0, 0, 1 + 1⟩ := by
      unfold nxS
      rw [hx, if_pos (show ((([r].length : Nat) : Int)) > 0 from Int.zero_lt_one), en, hb]
      show ptS armG ws (r.ps.getD 0 0) _ = _
      rw [hr]
      show (⟨zIn, [], 0, 0, nxK ws 1⟩ : Ps) = _
      rw [nxK_y (hlen w hk)]
    rw [hL, hS]; exact inst_one (by rw [hr]; rfl)
  have bar : barA ws Old.tA = match ws[1]? with
    | some y => if y.kind == 1 && y.text == [83, 89] then (⟨0, 0, 1 + 1⟩, 3, 3) else if y.kind == 1 && y.text == [76, 68] then (⟨0, 0, 1 + 1⟩, 1, 3) else if y.kind == 1 && y.text == [83, 84] then (⟨0, 0, 1 + 1⟩, 2, 2) else (Old.oddR ws true Old.tA, 3, 3)
    | none => (Old.oddR ws true Old.tA, 3, 3) := rfl
  have good : ∀ (r : Rw) (w : List UInt8) (a b : Int), r.ps = [10] → lft armG 0 (ws.getD 1 tok0) dmbR = [r] → (((ws.getD 1 tok0).kind == 1) && ((ws.getD 1 tok0).text == w)) = true → barA ws Old.tA = (⟨0, 0, 1 + 1⟩, a, b) → Old.withR (toR r) (toO zIn) = Old.Ins.mk 7 (-1) (-1) (-1) 0 0 0 (-1) 0 0 false false false a b 0 false → Old.Alike (toP (inst armG ws 1 1 (lft armG 0 (ws.getD 1 tok0) dmbR) (nxS armG ws 0 dmbR ⟨zIn, [], 0, 0, 1⟩)).1, (inst armG ws 1 1 (lft armG 0 (ws.getD 1 tok0) dmbR) (nxS armG ws 0 dmbR ⟨zIn, [], 0, 0, 1⟩)).2.map toR) (barA ws Old.tA).1 (Old.Ins.mk 7 (-1) (-1) (-1) 0 0 0 (-1) 0 0 false false false (barA ws Old.tA).2.1 (barA ws Old.tA).2.2 0 false) [] := fun r w a b hr hL hk hb hi => by
    rw [step r w hr hL hk, hb]
    exact ⟨.inl ⟨rfl, rfl, rfl⟩, fun _ => ⟨hi, rfl⟩⟩
  have get : ∀ w : List UInt8, (((ws.getD 1 tok0).kind == 1) && ((ws.getD 1 tok0).text == w)) = true → ws[1]? = some (ws.getD 1 tok0) := fun w h => tk_get (hlen w h)
  cases c0 : (((ws.getD 1 tok0).kind == 1) && ((ws.getD 1 tok0).text == [83, 89])) with
  | true =>
    rw [c0, if_pos rfl] at hd
    exact good _ _ 3 3 rfl hd c0 (by rw [bar, get _ c0]; simp only [c0, if_true]) rfl
  | false =>
    rw [c0, if_neg (by decide)] at hd
    cases c1 : (((ws.getD 1 tok0).kind == 1) && ((ws.getD 1 tok0).text == [76, 68])) with
    | true =>
      rw [c1, if_pos rfl] at hd
      exact good _ _ 1 3 rfl hd c1 (by rw [bar, get _ c1]; simp only [c0, c1, if_true, if_false, Bool.false_eq_true]) rfl
    | false =>
      rw [c1, if_neg (by decide)] at hd
      cases c2 : (((ws.getD 1 tok0).kind == 1) && ((ws.getD 1 tok0).text == [83, 84])) with
      | true =>
        rw [c2, if_pos rfl] at hd
        exact good _ _ 2 2 rfl hd c2 (by rw [bar, get _ c2]; simp only [c0, c1, c2, if_true, if_false, Bool.false_eq_true]) rfl
      | false =>
        rw [c2, if_neg (by decide)] at hd
        have hb : barA ws Old.tA = (Old.oddR ws true Old.tA, 3, 3) := by
          rw [bar]
          by_cases h1 : 1 < ws.length
          · rw [tk_get h1]; simp only [c0, c1, c2, if_false, Bool.false_eq_true]
          · rw [tk_non h1]
        have hx : nxR armG ws 0 dmbR (⟨zIn, [], 0, 0, 1⟩ : Ps) = [] := hd
        have hf0 : fstX (ask10 0) dmbR = 0 := by kernel_rfl
        have hS : toP (nxS armG ws 0 dmbR ⟨zIn, [], 0, 0, 1⟩) = Old.refP ws (if ((ws.getD 1 tok0).kind == 1) = true then 21 else 22) (toP ⟨zIn, [], 0, 0, 1⟩) := by
          unfold nxS
          rw [hx, if_neg (by decide), en]
          unfold beS
          rw [if_pos (show (lft armG 0 (ws.getD (⟨zIn, [], 0, 0, 1⟩ : Ps).p tok0) dmbR).length = 0 by rw [show (⟨zIn, [], 0, 0, 1⟩ : Ps).p = 1 from rfl, hd]; rfl), ref_o hw]
          unfold mfV
          rw [hf0]
          show Old.refP ws (if (_ && ((ws.getD 1 tok0).kind == 1)) = true then 21 else 22) _ = _
          cases ((ws.getD 1 tok0).kind == 1) <;> rfl
        have hinst : inst armG ws 1 1 (lft armG 0 (ws.getD 1 tok0) dmbR) (nxS armG ws 0 dmbR ⟨zIn, [], 0, 0, 1⟩) = (nxS armG ws 0 dmbR ⟨zIn, [], 0, 0, 1⟩, []) := by rw [hd]; rfl
        rw [show (⟨zIn, [], 0, 0, 1⟩ : Ps).p = 1 from rfl] at *
        rw [hinst, hb]
        show Old.Alike (toP (nxS armG ws 0 dmbR ⟨zIn, [], 0, 0, 1⟩), []) (Old.oddR ws true Old.tA) _ _
        rw [hS]
        have hsim : Old.Sim (Old.refP ws (if ((ws.getD 1 tok0).kind == 1) = true then 21 else 22) (toP ⟨zIn, [], 0, 0, 1⟩)) (Old.oddR ws true Old.tA) := Old.sim_odd rfl rfl rfl (by
          show ws.length ≤ 1 ∨ (1 < ws.length ∧ Old.oc ws true 1 = _)
          by_cases h1 : 1 < ws.length
          · refine .inr ⟨h1, ?_⟩
            unfold Old.oc; rw [tk_get h1]; simp only [Bool.true_and]
          · exact .inl (by omega))
        exact ⟨hsim, fun e => absurd e (odd_ne rfl)⟩
end
theorem parm_ref {ws : List Tk} (hw : WsOK ws) (hf : Old.WF ws) : (toO (parI armG ws armC), parT armG ws armC, parE armG ws armC, parA armG ws armC) = parM ws := by
  by_cases hD : ∀ y, ws[0]? = some y → (y.kind == 1) = true → y.text ≠ [68, 77, 66]
  · rw [par_oN hw (arm_pa (show armC.map tm = armT by kernel_rfl)) (not_dmb hD), gO_a]
    exact Old.pa_eqV hf hD
  · obtain ⟨y, hy, hk, ht⟩ : ∃ y, ws[0]? = some y ∧ (y.kind == 1) = true ∧ y.text = [68, 77, 66] := by
      rcases Classical.em (∃ y, ws[0]? = some y ∧ (y.kind == 1) = true ∧ y.text = [68, 77, 66]) with h | h
      · exact h
      · exact absurd (fun y h1 h2 h3 => h ⟨y, h1, h2, h3⟩) hD
    have hl : 0 < ws.length := (List.getElem?_eq_some_iff.1 hy).1
    have hg : ws.getD 0 tok0 = y := by rw [List.getD_eq_getElem?_getD, hy]; rfl
    rw [par_gen hw, dmb_inst (by rw [hg]; exact eq_of_beq hk) (by rw [hg]; exact ht), nxK_y hl, Old.par_nameV hy hk, ht]
    exact Old.fin_alike (X := armR ws Old.tA Old.blank [68, 77, 66]) (by kernel_rfl) (dmb_alike hw hf hl)
end Go.Proofs.YtedlaclfhgneeabGreatDoor
namespace Go.Proofs.YtedlaclfhgneeabGreatDoor
set_option linter.unusedVariables false
set_option linter.unusedSimpArgs false
set_option maxRecDepth 100000
set_option maxHeartbeats 1000000
section
variable {ws : List Tk} {s : Old.Rs} {i : Old.Ins} {q lb : List UInt8}
theorem memV_shape : ∃ l o x, (memG regA ws s i).2 = { i with loc := l, off := o, index := x } := by
  have hI : ∀ (s : Old.Rs) (i : Old.Ins), ∃ x, (idxG regA ws s i).2 = { i with index := x } := fun s i => ⟨_, rfl⟩
  have hO : ∀ (s : Old.Rs) (i : Old.Ins), ∃ x, (offG regA ws s i).2 = { i with index := x } := fun s i => by
    unfold offG; split
    · exact hI _ _
    · exact ⟨i.index, rfl⟩
  have hE : ∀ (s : Old.Rs) (i : Old.Ins), ∃ o x, (memEG regA ws s i).2 = { i with off := o, index := x } := fun s i => by
    unfold memEG; split
    · split
      · split
        · obtain ⟨x, e⟩ := hO ⟨s.e, s.a, s.p + 1 + 1⟩ { i with off := _ }; exact ⟨_, x, e⟩
        · obtain ⟨x, e⟩ := hI ⟨s.e, s.a, s.p + 1⟩ i; exact ⟨i.off, x, e⟩
      · obtain ⟨x, e⟩ := hI ⟨s.e, s.a, s.p + 1⟩ i; exact ⟨i.off, x, e⟩
    · exact ⟨i.off, i.index, rfl⟩
  unfold memG memIG
  split
  · split
    · split
      · obtain ⟨o, x, e⟩ := hE ⟨(Old.markR ws [91] s).e, (Old.markR ws [91] s).a, (Old.markR ws [91] s).p + 1⟩ { i with loc := _ }
        exact ⟨_, o, x, e⟩
      · exact ⟨i.loc, i.off, i.index, rfl⟩
    · exact ⟨i.loc, i.off, i.index, rfl⟩
  · exact ⟨i.loc, i.off, i.index, rfl⟩
theorem regA_ge (h : (regG regA ws s).1.e = 0) : 0 ≤ (regG regA ws s).2 := by
  unfold regG at h ⊢
  split at h
  · next he =>
    rw [if_pos he]
    split at h
    · next y hy =>
      split at h
      · next hk =>
        simp only [hy, hk, if_true]
        rw [Bool.and_eq_true] at hk
        have := hk.2
        simp only [Bool.not_eq_true', decide_eq_false_iff_not] at this
        omega
      · exact absurd h (odd_ne (eq_of_beq he))
    · exact absurd h (odd_ne (eq_of_beq he))
  · next he => exact absurd (beq_iff_eq.2 h) he
structure ShpV (ws : List Tk) (x : Old.Ins) (l : List UInt8) : Prop where
  to : x.to = 0
  tx : Old.txtW x l ≠ []
  lb : x.op = 9 → ∃ t ∈ ws, t.kind = 1 ∧ t.text = l
  no : x.op ≠ 9 → l = []
  im : -9223372036854775808 ≤ x.imm ∧ x.imm ≤ 9223372036854775807
theorem branV_shp {z : Bool} (h : (branG regA ws s Old.blank z).2.1.e = 0) : ShpV ws (branG regA ws s Old.blank z).2.2 (branG regA ws s Old.blank z).1 := by
  refine ⟨rfl, ?_, fun _ => lab_tok h, fun e => absurd rfl e, ⟨show (-9223372036854775808 : Int) ≤ 0 by decide, show (0 : Int) ≤ 9223372036854775807 by decide⟩⟩
  simp [branG, Old.txtW, ktxt0, frO]
theorem rmw_ne (i : In) (ds az ts ms : List UInt8) : krmw0 i ds az ts ms ≠ [] := by
  unfold krmw0
  (repeat' split) <;> simp
theorem txt_acc (x : Old.Ins) (l : List UInt8) (h : x.op = 4 ∨ x.op = 5 ∨ x.op = 6) : Old.txtW x l = kacc0 (frO x) (nameA x.dst) (nameA x.a) := by
  unfold Old.txtW ktxt0
  rcases h with h | h | h <;> simp [frO, h]
theorem am_ne (i : In) (ds az : List UInt8) (h : i.op = 6) : kacc0 i ds az ≠ [] := by
  unfold kacc0
  simp [h]
  exact rmw_ne _ _ _ _ _
theorem ld_ne (i : In) (ds az : List UInt8) (h : i.op = 4) : kacc0 i ds az ≠ [] := by
  unfold kacc0
  rw [if_pos (by rw [h]; rfl)]
  (repeat' split) <;> simp
theorem sd_ne (i : In) (ds az : List UInt8) (h : i.op = 5) (h0 : 0 ≤ i.ra) : kacc0 i ds az ≠ [] := by
  have h1 : ¬ i.ra < 0 := by omega
  unfold kacc0
  simp [h, h1]
  (repeat' split) <;> simp
theorem bar_ne {ws : List Tk} {s : Old.Rs} (h : (barA ws s).1.e = 0) : Old.txtW (Old.Ins.mk 7 (-1) (-1) (-1) 0 0 0 (-1) 0 0 false false false (barA ws s).2.1 (barA ws s).2.2 0 false) [] ≠ [] := by
  have hx : ((barA ws s).2.1 = 3 ∧ (barA ws s).2.2 = 3) ∨ ((barA ws s).2.1 = 1 ∧ (barA ws s).2.2 = 3) ∨ ((barA ws s).2.1 = 2 ∧ (barA ws s).2.2 = 2) := by
    unfold barA
    (repeat' split) <;> simp
  rcases hx with ⟨a, b⟩ | ⟨a, b⟩ | ⟨a, b⟩ <;> rw [a, b] <;> simp [Old.txtW, ktxt0, frO, kfen0]
theorem arm_shape (hW : ∀ t ∈ ws, TkW t) (h1 : (armR ws s Old.blank q).1.1 = true) (h2 : (armR ws s Old.blank q).2.1.e = 0) : ShpV ws (armR ws s Old.blank q).2.2 (armR ws s Old.blank q).1.2 := by
  have z : (-9223372036854775808 : Int) ≤ 0 ∧ (0 : Int) ≤ 9223372036854775807 := ⟨by decide, by decide⟩
  unfold armR at h1 h2 ⊢
  split at h1
  · rw [if_pos (by assumption)] at h2 ⊢
    split at h1
    · rw [if_pos (by assumption)]
      exact ⟨rfl, by simp [Old.txtW, ktxt0, frO], fun e => absurd (show (1 : Int) = 9 from e) (by decide), fun _ => rfl, num_rng2 hW⟩
    · rw [if_neg (by assumption)]
      exact ⟨rfl, by simp [Old.txtW, ktxt0, frO], fun e => absurd (show (2 : Int) = 9 from e) (by decide), fun _ => rfl, z⟩
  · rw [if_neg (by assumption)] at h2 ⊢
    split at h1
    · rw [if_pos (by assumption)] at h2 ⊢
      split at h1
      · rw [if_pos (by assumption)]
        exact ⟨rfl, by simp [Old.txtW, ktxt0, frO], fun e => absurd (show (3 : Int) = 9 from e) (by decide), fun _ => rfl, num_rng2 hW⟩
      · rw [if_neg (by assumption)]
        exact ⟨rfl, by simp [Old.txtW, ktxt0, frO], fun e => absurd (show (3 : Int) = 9 from e) (by decide), fun _ => rfl, z⟩
    · rw [if_neg (by assumption)] at h2 ⊢
      split at h1
      · rw [if_pos (by assumption)]
        obtain ⟨l, o, x, e⟩ := memV_shape (ws := ws) (s := Old.markR ws [44] ((regG regA ws s).1)) (i := (Old.Ins.mk 4 ((regG regA ws s).2) Old.blank.a Old.blank.b Old.blank.imm Old.blank.loc Old.blank.off Old.blank.index (((szA q [76, 68, 82]) + (szA q [76, 68, 65, 82])) + (szA q [76, 68, 65, 80, 82])) Old.blank.fn (decide ((szA q [76, 68, 65, 82]) > 0)) (decide ((szA q [76, 68, 65, 80, 82]) > 0)) Old.blank.rel Old.blank.pred Old.blank.succ Old.blank.to Old.blank.zero))
        simp only [e]
        refine ⟨rfl, ?_, fun e => absurd (show (4 : Int) = 9 from e) (by decide), fun _ => rfl, z⟩
        rw [txt_acc _ _ (.inl rfl)]; exact ld_ne _ _ _ rfl
      · rw [if_neg (by assumption)] at h2 ⊢
        split at h1
        · rw [if_pos (by assumption)] at h2 ⊢
          have g0 : 0 ≤ (regG regA ws s).2 := regA_ge (Old.mark_stop (Old.bk (fun h => Old.mem_sk h) h2))
          obtain ⟨l, o, x, e⟩ := memV_shape (ws := ws) (s := Old.markR ws [44] ((regG regA ws s).1)) (i := (Old.Ins.mk 5 Old.blank.dst ((regG regA ws s).2) Old.blank.b Old.blank.imm Old.blank.loc Old.blank.off Old.blank.index ((szA q [83, 84, 82]) + (szA q [83, 84, 76, 82])) Old.blank.fn Old.blank.acq Old.blank.weak (decide ((szA q [83, 84, 76, 82]) > 0)) Old.blank.pred Old.blank.succ Old.blank.to Old.blank.zero))
          simp only [e]
          refine ⟨rfl, ?_, fun e => absurd (show (5 : Int) = 9 from e) (by decide), fun _ => rfl, z⟩
          rw [txt_acc _ _ (.inr (.inl rfl))]; exact sd_ne _ _ _ rfl g0
        · rw [if_neg (by assumption)] at h2 ⊢
          split at h1
          · rw [if_pos (by assumption)] at h2 ⊢
            split at h1
            · rw [if_pos (by assumption)]
              unfold threeA
              obtain ⟨l, o, x, e⟩ := memV_shape (ws := ws) (s := Old.markR ws [44] (regG regA ws (Old.markR ws [44] (regG regA ws s).1)).1) (i := { (Old.Ins.mk 6 Old.blank.dst Old.blank.a Old.blank.b Old.blank.imm Old.blank.loc Old.blank.off Old.blank.index (((ordA q [83, 87, 80]).1) + ((ordA q [76, 68, 65, 68, 68]).1)) 1 (((ordA q [83, 87, 80]).2.1) || ((ordA q [76, 68, 65, 68, 68]).2.1)) Old.blank.weak (((ordA q [83, 87, 80]).2.2) || ((ordA q [76, 68, 65, 68, 68]).2.2)) Old.blank.pred Old.blank.succ Old.blank.to Old.blank.zero) with a := (regG regA ws s).2, dst := (regG regA ws (Old.markR ws [44] (regG regA ws s).1)).2 })
              simp only [e]
              refine ⟨rfl, ?_, fun e => absurd (show (6 : Int) = 9 from e) (by decide), fun _ => rfl, z⟩
              rw [txt_acc _ _ (.inr (.inr rfl))]; exact am_ne _ _ _ rfl
            · rw [if_neg (by assumption)]
              unfold threeA
              obtain ⟨l, o, x, e⟩ := memV_shape (ws := ws) (s := Old.markR ws [44] (regG regA ws (Old.markR ws [44] (regG regA ws s).1)).1) (i := { (Old.Ins.mk 6 Old.blank.dst Old.blank.a Old.blank.b Old.blank.imm Old.blank.loc Old.blank.off Old.blank.index (((ordA q [83, 87, 80]).1) + ((ordA q [76, 68, 65, 68, 68]).1)) 6 (((ordA q [83, 87, 80]).2.1) || ((ordA q [76, 68, 65, 68, 68]).2.1)) Old.blank.weak (((ordA q [83, 87, 80]).2.2) || ((ordA q [76, 68, 65, 68, 68]).2.2)) Old.blank.pred Old.blank.succ Old.blank.to Old.blank.zero) with a := (regG regA ws s).2, dst := (regG regA ws (Old.markR ws [44] (regG regA ws s).1)).2 })
              simp only [e]
              refine ⟨rfl, ?_, fun e => absurd (show (6 : Int) = 9 from e) (by decide), fun _ => rfl, z⟩
              rw [txt_acc _ _ (.inr (.inr rfl))]; exact am_ne _ _ _ rfl
          · rw [if_neg (by assumption)] at h2 ⊢
            split at h1
            · rw [if_pos (by assumption)] at h2 ⊢
              refine ⟨rfl, ?_, fun e => absurd (show (7 : Int) = 9 from e) (by decide), fun _ => rfl, z⟩
              exact bar_ne h2
            · rw [if_neg (by assumption)] at h2 ⊢
              split at h1
              · rw [if_pos (by assumption)]
                exact ⟨rfl, by simp [Old.txtW, ktxt0, frO, kfen0], fun e => absurd (show (8 : Int) = 9 from e) (by decide), fun _ => rfl, z⟩
              · rw [if_neg (by assumption)] at h2 ⊢
                split at h1
                · rw [if_pos (by assumption)] at h2 ⊢; exact branV_shp h2
                · cases h1
end
theorem parM_shape {ws : List Tk} {x : Old.Ins} {l : List UInt8} {k : Int} (hW : ∀ t ∈ ws, TkW t) (h : parM ws = (x, l, 0, k)) : ShpV ws x l ∧ Old.rightR (Old.asB x) 0 1 = 0 ∧ k = 0 := by
  cases hb : ((!(decide (0 < ws.length))) || (!((ws.getD 0 tok0).kind == 1))) with
  | true =>
    rw [pm_bad hb] at h
    have := congrArg (fun z => z.2.2.1) h
    exact absurd this (odd_ne rfl)
  | false =>
    rw [pm_go hb] at h
    generalize hX : armR ws ⟨0, 0, nxK ws 0⟩ Old.blank (ws.getD 0 tok0).text = X at h
    cases h1 : X.1.1 with
    | false =>
      unfold Old.finR at h
      rw [h1] at h
      have := congrArg (fun z => z.2.2.1) h
      exact absurd (show (21 : Int) = 0 from this) (by decide)
    | true =>
      rw [fin_y h1] at h
      by_cases hl : (Old.lastR ws (Old.moreR ws X.2.1) X.2.2).e = 0
      · rw [out_y hl] at h
        injection h with hx h
        injection h with hlb h
        injection h with _ hk
        by_cases hm : (Old.moreR ws X.2.1).e = 0
        · by_cases hr : Old.rightR (Old.asB X.2.2) 0 1 = 0
          · have he : X.2.1.e = 0 := by
              unfold Old.moreR at hm
              split at hm
              · by_cases h0 : X.2.1.e = 0
                · exact h0
                · rw [fail_n h0] at hm; exact hm
              · exact hm
            rw [← hx, ← hlb]
            refine ⟨?_, hr, hk.symm⟩
            rw [← hX] at h1 he ⊢
            exact arm_shape hW h1 he
          · unfold Old.lastR at hl
            rw [beq_iff_eq.2 hm, beq_eq_false_iff_ne.2 hr] at hl
            simp only [Bool.not_false, Bool.and_true, if_true] at hl
            rw [fail_y hm] at hl
            exact absurd (show (34 : Int) = 0 from hl) (by decide)
        · rw [last_n hm] at hl; exact absurd hl hm
      · rw [out_n hl] at h
        have := congrArg (fun z => z.2.2.1) h
        exact absurd this hl
theorem kfnT_all (v : Int) : (kfnT v).length ≤ 3 := by
  unfold kfnT
  generalize v.toNat = k
  rcases k with _ | _ | _ | _ | _ | _ | k <;> simp
theorem txtW_len {i : Old.Ins} {lb : List UInt8} (hm : -9223372036854775808 ≤ i.imm ∧ i.imm ≤ 9223372036854775807) (ho : -9223372036854775808 ≤ i.off ∧ i.off ≤ 9223372036854775807) : (Old.txtW i lb).length ≤ 150 + lb.length := by
  have a1 := nameA_le i.dst
  have a2 := nameA_le i.a
  have a3 := itoa_le i.imm hm
  have a4 := kror_le i.b i.imm hm
  have a5 := kror_le i.a i.imm hm
  have a6 : (kmem0 (frO i)).length ≤ 40 := kmem_le (frO i) ho
  have a7 := tlA_le i.size
  have a8 := kfnT_all i.fn
  have a9 : (kbr0 i.zero).length ≤ 4 := by cases i.zero <;> decide
  have L : ∀ (c : Prop) [Decidable c] (x y : List UInt8) (n : Nat), x.length ≤ n → y.length ≤ n → (if c then x else y).length ≤ n := fun c _ x y n hx hy => by split; exact hx; exact hy
  unfold Old.txtW ktxt0 kacc0 krmw0 kfen0
  simp only [frO]
  have e : frO i = ⟨i.op, i.dst, i.a, i.b, i.imm, i.loc, i.off, i.index, i.size, i.fn, i.acq, i.weak, i.rel, i.pred, i.succ, i.to, i.zero⟩ := rfl
  rw [e] at a6
  (repeat' apply L) <;> (try simp only [List.length_append, List.length_cons, List.length_nil]) <;> omega
theorem back_bV {text : List UInt8} {ws : List Tk} {x : Old.Ins} {l : List UInt8} {k : Int} (ht : tokensR text = (ws, 0, 0)) (hl : text.length ≤ 8000) (h : parM ws = (x, l, 0, k)) : ∃ t ws', Old.prW x l = (t, 0) ∧ t.length ≤ 8192 ∧ tokensR t = (ws', 0, 0) ∧ parM ws' = (x, l, 0, 0) ∧ (-9223372036854775808 ≤ x.imm ∧ x.imm ≤ 9223372036854775807) ∧ (-9223372036854775808 ≤ x.off ∧ x.off ≤ 9223372036854775807) ∧ l.length ≤ 8000 := by
  have hW := tkw_tokens ht
  obtain ⟨hs, hr, _⟩ := parM_shape hW h
  have hll : l.length ≤ 8000 := by
    by_cases h9 : x.op = 9
    · obtain ⟨t, t1, _, t3⟩ := hs.lb h9
      have := ws_len ht t t1
      rw [t3] at this; omega
    · rw [hs.no h9]; exact Nat.zero_le _
  have hn : x.op = 9 → Old.isNm l = true := fun h9 => by
    obtain ⟨t, t1, t2, t3⟩ := hs.lb h9
    have := (hW t t1).nm t2
    rw [t3] at this
    exact nam_isNm this (by omega)
  have hp := ok_prV hs.tx hr hn
  have hoff : -9223372036854775808 ≤ x.off ∧ x.off ≤ 9223372036854775807 := by
    have hq := right_of hr
    have ho : (Old.asB x).off = x.off := by unfold Old.asB; split <;> rfl
    by_cases hop : Old.opB (Old.asB x) = true
    · have : Old.accB (Old.asB x) = true := by
        have hs2 := hq.2
        have hop2 : x.op = 4 ∨ x.op = 5 ∨ x.op = 6 := by
          have e : (Old.asB x).op = x.op := by unfold Old.asB; split <;> rfl
          unfold Old.opB Old.rdB Old.wrB at hop
          rw [e] at hop
          simp only [Bool.or_eq_true, beq_iff_eq] at hop
          omega
        have e : (Old.asB x).op = x.op := by unfold Old.asB; split <;> rfl
        exact sound_acc hs2 (by rw [e]; exact hop2)
      have := acc_off this
      rw [ho] at this; omega
    · have := congrArg Old.Ins.off hq.1
      have e0 : (Old.plainF (Old.asB x)).off = 0 := by unfold Old.plainF; exact if_neg hop
      rw [e0, ho] at this
      rw [this]; exact ⟨by decide, by decide⟩
  have hlen := txtW_len (lb := l) hs.im hoff
  obtain ⟨ws', w1, w2⟩ := back_aV hp (by omega) hs.im
  refine ⟨_, ws', hp, by omega, w1, ?_, hs.im, hoff, hll⟩
  rw [w2]
  have e1 : ({ x with to := 0 } : Old.Ins) = x := by rw [← hs.to]
  rw [e1]
  by_cases h9 : x.op = 9
  · rw [if_pos h9]
  · rw [if_neg h9, hs.no h9]
section
variable {i : In} {lb text : List UInt8} {ws : List Tk}
theorem pr_eqsV (h0 : (prP armG armC i lb).2 = 0) : Old.prW (toO i) lb = ((prP armG armC i lb).1, 0) := by
  rw [pra_ref] at h0 ⊢
  rw [prA_is] at h0 ⊢
  exact Prod.ext rfl h0
theorem pa_eqsV (ht : tokensR text = (ws, 0, 0)) : (toO (parI armG ws armC), parT armG ws armC, parE armG ws armC, parA armG ws armC) = parM ws := by
  obtain ⟨_, hw, hf⟩ := ws_tokens ht
  exact parm_ref hw hf
theorem bkAA (hi : InR i) (h0 : (prP armG armC i lb).2 = 0) (hl : (prP armG armC i lb).1.length ≤ 8000) (ht : tokensR (prP armG armC i lb).1 = (ws, 0, 0)) : parE armG ws armC = 0 ∧ parI armG ws armC = ({ i with to_ := 0 } : In) ∧ (i.op = 9 → parT armG ws armC = lb) := by
  obtain ⟨ws', w1, w2⟩ := back_aV (pr_eqsV h0) (by omega) hi.im
  rw [w1] at ht
  have e : ws' = ws := congrArg Prod.fst ht
  subst e
  rw [← pa_eqsV w1] at w2
  injection w2 with q1 q2
  injection q2 with q2 q3
  injection q3 with q3 q4
  refine ⟨q3, toO_inj q1, fun h9 => ?_⟩
  rw [q2]; exact if_pos h9
theorem bkNA {e : Int} {k : Nat} (hi : InR i) (h0 : (prP armG armC i lb).2 = 0) (hl : (prP armG armC i lb).1.length ≤ 8000) (ht : tokensR (prP armG armC i lb).1 = ([], e, k)) (he : e ≠ 0) : False := by
  obtain ⟨ws', w1, w2⟩ := back_aV (pr_eqsV h0) (by omega) hi.im
  rw [w1] at ht
  exact he (congrArg (fun z => z.2.1) ht).symm
theorem bkBA (ht : tokensR text = (ws, 0, 0)) (hl : text.length ≤ 8000) (h0 : parE armG ws armC = 0) : InR (parI armG ws armC) ∧ (parT armG ws armC).length ≤ 8000 ∧ (prP armG armC (parI armG ws armC) (parT armG ws armC)).2 = 0 ∧ ∃ ws', tokensR (prP armG armC (parI armG ws armC) (parT armG ws armC)).1 = (ws', 0, 0) ∧ parE armG ws' armC = 0 ∧ parI armG ws' armC = parI armG ws armC ∧ parT armG ws' armC = parT armG ws armC := by
  have hp := pa_eqsV ht
  rw [h0] at hp
  obtain ⟨t, ws', b1, b2, b3, b4, b5, b6, b7⟩ := back_bV ht hl hp.symm
  have hr := (pra_ref (parI armG ws armC) (parT armG ws armC)).trans (prA_is _ _)
  rw [b1] at hr
  have hp' := pa_eqsV b3
  rw [b4] at hp'
  injection hp' with q1 q2
  injection q2 with q2 q3
  injection q3 with q3 q4
  refine ⟨⟨b5, b6⟩, b7, by rw [hr], ws', by rw [hr]; exact b3, q3, toO_inj q1, q2⟩
end
end Go.Proofs.YtedlaclfhgneeabGreatDoor
namespace Go.Proofs.YtedlaclfhgneeabGreatDoor
open Go.RowKit
set_option linter.unusedVariables false
set_option linter.unusedSimpArgs false
set_option maxRecDepth 100000
set_option maxHeartbeats 2000000
set_option simprocs false
theorem regnm_a (r : Int) : regnm0 [88, 48] [88, 49] [88, 50] [88, 51] [88, 52] [88, 53] [88, 54] [88, 55] r = nameA r := by
  unfold regnm0
  split
  · next h => rw [nameA_o (by revert h; simp only [Bool.or_eq_true, decide_eq_true_eq]; omega)]
  · next h =>
    have : r = 0 ∨ r = 1 ∨ r = 2 ∨ r = 3 ∨ r = 4 ∨ r = 5 ∨ r = 6 ∨ r = 7 := by
      revert h; simp only [Bool.or_eq_true, decide_eq_true_eq]; omega
    rcases this with e | e | e | e | e | e | e | e <;> subst e <;> rfl
theorem aname_ (r : Int)  : Fn Tryz.prog 14 [.int .i64 r] [] (Rt (.str (nameA r)) []) :=
 enterM (n := 6) (by kernel_rfl) Tryz.func14 rfl rfl rfl fun G w a h0 A => N hX 7 A rfl rfl fun A => CALL1 [] aregs_ A rfl rfl rfl rfl rfl rfl rfl fun A => N hX 1 A rfl rfl fun A => CALL1 [] (regnm_ [88, 48] [88, 49] [88, 50] [88, 51] [88, 52] [88, 53] [88, 54] [88, 55] r) A rfl rfl rfl rfl rfl rfl rfl fun A => N hX 4 A rfl rfl fun A => RETN hX A rfl rfl rfl h0 rfl rfl rfl rfl (by rw [← regnm_a] <;> rfl) rfl
theorem areg_ (q : List UInt8)  : Fn Tryz.prog 16 [.str q] [] (Rt (.int .i64 (regA q)) []) :=
 enterM (n := 6) (by kernel_rfl) Tryz.func16 rfl rfl rfl fun G w a h0 A => N hX 7 A rfl rfl fun A => CALL1 [] aregs_ A rfl rfl rfl rfl rfl rfl rfl fun A => N hX 1 A rfl rfl fun A => CALL1 [] (lreg_ [88, 48] [88, 49] [88, 50] [88, 51] [88, 52] [88, 53] [88, 54] [88, 55] q) A rfl rfl rfl rfl rfl rfl rfl fun A => N hX 4 A rfl rfl fun A => RETN hX A rfl rfl rfl h0 rfl rfl rfl rfl (by unfold regA; rw [← idxS_L] <;> rfl) rfl
def txt7 : List UInt8 := [76, 68, 65, 80, 82, 72, 32, 88, 48, 44, 91, 120, 43, 50, 93]
def ws7 : List Tk := [⟨1, [76, 68, 65, 80, 82, 72], 0, 0⟩, ⟨1, [88, 48], 0, 7⟩, ⟨3, [44], 0, 9⟩, ⟨3, [91], 0, 10⟩, ⟨1, [120], 0, 11⟩, ⟨3, [43], 0, 12⟩, ⟨2, [50], 2, 13⟩, ⟨3, [93], 0, 14⟩]
def ins7 : In := ⟨4, 0, -1, -1, 0, 0, 2, -1, 2, 0, false, true, false, 0, 0, 0, false⟩
theorem tok7 : tokensR txt7 = (ws7, 0, 0) := by rw [tokens_C (by decide)]; kernel_rfl
theorem ws7_ok : WsOK ws7 := by unfold WsOK; decide
theorem par7I : parI armG ws7 armC = ins7 := by kernel_rfl
theorem par7T : parT armG ws7 armC = [] := by kernel_rfl
theorem par7E : parE armG ws7 armC = 0 := by kernel_rfl
theorem paa0E : parE armG [] armC = 24 := by kernel_rfl
theorem paa0A : parA armG [] armC = 0 := by kernel_rfl
theorem prt7 : prP armG armC ins7 [] = (txt7, 0) := by kernel_rfl
theorem reg3a : regA (nameA 3) = 3 := by decide +kernel
theorem ins7R : InR ins7 := ⟨by decide, by decide⟩
theorem able7_  (os : List (Nat × Obj)) (hM : ∀ w ks, Gl os w ks → ∃ m, w.cell? ⟨0, 0, none⟩ = some (.int .i64 m)) (hT : ∀ w ks, Gl os w ks → Lib.TabIs Tryz.prog w "internal/strconv.uint64pow10" .u64 Lib.pow10Tab) (hE : ∀ w ks, Gl os w ks → ∃ ev, w.cell? ⟨1, 0, none⟩ = some ev ∧ (ev = .nilIface ∨ ∃ te pe, ev = .iface te pe)) : FnI (Gl os) Tryz.prog 8 [] [] (Rt (.tt) []) :=
 enterI (n := 66) (by kernel_rfl) Tryz.func8 rfl rfl rfl fun G w a h0 hI A => N hX 7 A rfl rfl fun A => CALLI [] Gl.ok hI (tokens_ok txt7 ws7 os hM hE tok7) A rfl rfl rfl rfl rfl rfl rfl fun A => N hX 12 A rfl rfl fun A => have A := A.freeze 0 rfl; CALLI [0] Gl.ok hI (aparse_ ws7 0 (by decide) ws7_ok os hM) A rfl rfl rfl rfl rfl rfl rfl fun A => N hX 16 A rfl rfl fun A => CALLI [] Gl.ok hI (aprint_ (parI armG ws7 armC) (parT armG ws7 armC) os hM hT hE (fun L hL => arm_prok (by rw [par7I]; exact ins7R) (by rw [par7T]; decide) hL)) A rfl rfl rfl rfl rfl rfl rfl fun A => N hX 9 A rfl rfl fun A => CALLI [] Gl.ok hI (fnI_nil (aparse_ [] 0 (by decide) ws0_ok os hM) (fun k => ⟨_, rfl⟩) (fun _ => rfl)) A rfl rfl rfl rfl rfl rfl rfl fun A => N hX 17 A rfl rfl fun A => forkE 40 A rfl
  (fun h1 A => N hX 4 A rfl rfl fun A => forkE 44 A rfl
   (fun h2 A => N hX 4 A rfl rfl fun A => forkE 48 A rfl
    (fun h3 A => N hX 5 A rfl rfl fun A => forkE 53 A rfl
     (fun h4 A => N hX 4 A rfl rfl fun A => forkE 57 A rfl
      (fun h5 A => N hX 4 A rfl rfl fun A => forkE 61 A rfl
       (fun h6 A => CALL1 [] (aname_ 3) A rfl rfl rfl rfl rfl rfl rfl fun A => CALL1 [] (areg_ (nameA 3)) A rfl rfl rfl rfl rfl rfl rfl fun A => N hX 6 A rfl rfl fun A => RETN hX A rfl rfl rfl h0 rfl rfl rfl rfl (by rw [reg3a]; rfl) rfl)
       (fun h6 A => N hX 8 A rfl rfl fun A => RETN hX A rfl rfl rfl h0 rfl rfl rfl rfl (absurd paa0A h6) rfl))
      (fun h5 A => N hX 12 A rfl rfl fun A => RETN hX A rfl rfl rfl h0 rfl rfl rfl rfl (absurd paa0E h5) rfl))
     (fun h4 A => N hX 16 A rfl rfl fun A => RETN hX A rfl rfl rfl h0 rfl rfl rfl rfl (absurd (by rw [par7I]; rfl) h4) rfl))
    (fun h3 A => N hX 21 A rfl rfl fun A => RETN hX A rfl rfl rfl h0 rfl rfl rfl rfl (absurd (by rw [par7I, par7T, prt7]; rfl) h3) rfl))
   (fun h2 A => N hX 25 A rfl rfl fun A => RETN hX A rfl rfl rfl h0 rfl rfl rfl rfl (absurd (by rw [par7I, par7T, prt7]) h2) rfl))
  (fun h1 A => N hX 29 A rfl rfl fun A => RETN hX A rfl rfl rfl h0 rfl rfl rfl rfl (absurd par7E h1) rfl)
theorem f_noA {x : Int} (h : ((!((0 : Int) == 0)) || (!(x == 0))) = false) : x = 0 := by
  rw [Bool.or_eq_false_iff] at h
  simpa using h.2
theorem aback0_ (i : In) (lb : List UInt8) (tx : List UInt8) (os : List (Nat × Obj)) (hM : ∀ w ks, Gl os w ks → ∃ m, w.cell? ⟨0, 0, none⟩ = some (.int .i64 m)) (hT : ∀ w ks, Gl os w ks → Lib.TabIs Tryz.prog w "internal/strconv.uint64pow10" .u64 Lib.pow10Tab) (hE : ∀ w ks, Gl os w ks → ∃ ev, w.cell? ⟨1, 0, none⟩ = some ev ∧ (ev = .nilIface ∨ ∃ te pe, ev = .iface te pe)) (hi : InR i) : FnI (Gl os) Tryz.prog 5 [.agg (inQ9 i), .str lb, .str tx] [] (Rt (.tt) []) :=
 enterI (n := 140) (by kernel_rfl) Tryz.func5 rfl rfl rfl fun G w a h0 hI A => N hX 9 A rfl rfl fun A => CALLI [] Gl.ok hI (able7_ os hM hT hE) A rfl rfl rfl rfl rfl rfl rfl fun A => N hX 19 A rfl rfl fun A => fork 41 A rfl
  (fun h1 A => N hX 7 A rfl rfl fun A => RETN hX A rfl rfl rfl h0 rfl rfl rfl rfl rfl rfl)
  (fun h1 A => N hX 7 A rfl rfl fun A => CALLI [] Gl.ok hI (aprint_ i lb os hM hT hE (fun L hL => arm_prok hi (by have hz := or_n h1; omega) hL)) A rfl rfl rfl rfl rfl rfl rfl fun A => N hX 14 A rfl rfl fun A => forkE 49 A rfl
   (fun h2 A => N hX 4 A rfl rfl fun A => tokSp (l := (prP armG armC i lb).1)
    (fun ws1 ht1 => CALLI [] Gl.ok hI (tokens_ok ((prP armG armC i lb).1) ws1 os hM hE ht1) A rfl rfl rfl rfl rfl rfl rfl fun A => N hX 12 A rfl rfl fun A => have A := A.freeze 1 rfl; CALLI [1] Gl.ok hI (aparse_ ws1 0 (by have := (ws_tokens ht1).1; omega) (ws_tokens ht1).2.1 os hM) A rfl rfl rfl rfl rfl rfl rfl fun A => N hX 44 A rfl rfl fun A => fork 85 A rfl
     (fun h3 A => N hX 7 A rfl rfl fun A => RETN hX A rfl rfl rfl h0 rfl rfl rfl rfl (absurd h3 (ne_true_of_eq_false (bool_no fun hl => by have hl2 := of_decide_eq_true hl; have e := bkAA hi h2 (by omega) ht1; rw [e.1, e.2.1]; by_cases h9 : i.op = 9; (rw [e.2.2 h9]; set_option simprocs true in simp); (set_option simprocs true in simp [h9])))) rfl)
     (fun h3 A => N hX 6 A rfl rfl fun A => tokSp (l := tx)
      (fun ws2 ht2 => CALLI [] Gl.ok hI (tokens_ok tx ws2 os hM hE ht2) A rfl rfl rfl rfl rfl rfl rfl fun A => N hX 12 A rfl rfl fun A => have A := A.freeze 3 rfl; CALLI [3] Gl.ok hI (aparse_ ws2 0 (by have := (ws_tokens ht2).1; omega) (ws_tokens ht2).2.1 os hM) A rfl rfl rfl rfl rfl rfl rfl fun A => N hX 21 A rfl rfl fun A => N hX 2 A rfl rfl fun A => fork 104 A rfl
       (fun h4 A => N hX 7 A rfl rfl fun A => RETN hX A rfl rfl rfl h0 rfl rfl rfl rfl rfl rfl)
       (fun h4 A => N hX 7 A rfl rfl fun A => have hB := bkBA ht2 (by have hz := or_n h1; omega) (f_noA h4); CALLI [] Gl.ok hI (aprint_ (parI armG ws2 armC) (parT armG ws2 armC) os hM hT hE (fun L hL => arm_prok hB.1 (by have := hB.2.1; omega) hL)) A rfl rfl rfl rfl rfl rfl rfl fun A => N hX 10 A rfl rfl fun A => tokSp (l := (prP armG armC (parI armG ws2 armC) (parT armG ws2 armC)).1)
        (fun ws3 ht3 => CALLI [] Gl.ok hI (tokens_ok ((prP armG armC (parI armG ws2 armC) (parT armG ws2 armC)).1) ws3 os hM hE ht3) A rfl rfl rfl rfl rfl rfl rfl fun A => N hX 12 A rfl rfl fun A => have A := A.freeze 5 rfl; CALLI [5] Gl.ok hI (aparse_ ws3 0 (by have := (ws_tokens ht3).1; omega) (ws_tokens ht3).2.1 os hM) A rfl rfl rfl rfl rfl rfl rfl fun A => N hX 34 A rfl rfl fun A => RETN hX A rfl rfl rfl h0 rfl rfl rfl rfl (by obtain ⟨_, _, z0, wz, z1, z2, z3, z4⟩ := hB; rw [z1] at ht3; have ez : wz = ws3 := congrArg Prod.fst ht3; rw [ez] at z2 z3 z4; have hb : ((((((prP armG armC (parI armG ws2 armC) (parT armG ws2 armC)).2) == 0) && ((parE armG ws3 armC) == 0)) && ((((parI armG ws3 armC).op) == ((parI armG ws2 armC).op)) && ((((parI armG ws3 armC).dst) == ((parI armG ws2 armC).dst)) && ((((parI armG ws3 armC).ra) == ((parI armG ws2 armC).ra)) && ((((parI armG ws3 armC).rb) == ((parI armG ws2 armC).rb)) && ((((parI armG ws3 armC).imm) == ((parI armG ws2 armC).imm)) && ((((parI armG ws3 armC).loc) == ((parI armG ws2 armC).loc)) && ((((parI armG ws3 armC).off) == ((parI armG ws2 armC).off)) && ((((parI armG ws3 armC).ix) == ((parI armG ws2 armC).ix)) && ((((parI armG ws3 armC).sz) == ((parI armG ws2 armC).sz)) && ((((parI armG ws3 armC).fn) == ((parI armG ws2 armC).fn)) && ((((parI armG ws3 armC).acq) == ((parI armG ws2 armC).acq)) && ((((parI armG ws3 armC).weak) == ((parI armG ws2 armC).weak)) && ((((parI armG ws3 armC).rel) == ((parI armG ws2 armC).rel)) && ((((parI armG ws3 armC).pred) == ((parI armG ws2 armC).pred)) && ((((parI armG ws3 armC).succ) == ((parI armG ws2 armC).succ)) && ((((parI armG ws3 armC).to_) == ((parI armG ws2 armC).to_)) && (((parI armG ws3 armC).zero) == ((parI armG ws2 armC).zero))))))))))))))))))) && ((parT armG ws3 armC) == (parT armG ws2 armC))) = true := (by rw [z0, z2, z3, z4]; set_option simprocs true in simp); rw [hb]; rfl) rfl)
        (fun e3 k3 he3 ht3 => CALLI [] Gl.ok hI (tokens_no ((prP armG armC (parI armG ws2 armC) (parT armG ws2 armC)).1) e3 k3 os hM hE ht3 he3) A rfl rfl rfl rfl rfl rfl rfl fun A => N hX 12 A rfl rfl fun A => CALLI [] Gl.ok hI (fnI_nil (aparse_ [] 0 (by decide) ws0_ok os hM) (fun k => ⟨_, rfl⟩) (fun _ => rfl)) A rfl rfl rfl rfl rfl rfl rfl fun A => N hX 34 A rfl rfl fun A => RETN hX A rfl rfl rfl h0 rfl rfl rfl rfl (by obtain ⟨_, _, _, wz, z1, _⟩ := hB; rw [z1] at ht3; exact absurd (congrArg (fun z => z.2.1) ht3).symm he3) rfl)))
      (fun e2 k2 he2 ht2 => CALLI [] Gl.ok hI (tokens_no tx e2 k2 os hM hE ht2 he2) A rfl rfl rfl rfl rfl rfl rfl fun A => N hX 12 A rfl rfl fun A => CALLI [] Gl.ok hI (fnI_nil (aparse_ [] 0 (by decide) ws0_ok os hM) (fun k => ⟨_, rfl⟩) (fun _ => rfl)) A rfl rfl rfl rfl rfl rfl rfl fun A => N hX 21 A rfl rfl fun A => have A := sy_sayD A 104 (.tt) rfl (fun _ => congrArg (fun b => some (Value.bool b)) (show ((!(e2 == 0)) || (!((parE armG [] armC) == 0))) = true by rw [beq_eq_false_iff_ne.2 he2]; rfl)); N hX 9 A rfl rfl fun A => RETN hX A rfl rfl rfl h0 rfl rfl rfl rfl rfl rfl)))
    (fun e1 k1 he1 ht1 => CALLI [] Gl.ok hI (tokens_no ((prP armG armC i lb).1) e1 k1 os hM hE ht1 he1) A rfl rfl rfl rfl rfl rfl rfl fun A => N hX 12 A rfl rfl fun A => CALLI [] Gl.ok hI (fnI_nil (aparse_ [] 0 (by decide) ws0_ok os hM) (fun k => ⟨_, rfl⟩) (fun _ => rfl)) A rfl rfl rfl rfl rfl rfl rfl fun A => N hX 44 A rfl rfl fun A => fork 85 A rfl
     (fun h5 A => N hX 7 A rfl rfl fun A => RETN hX A rfl rfl rfl h0 rfl rfl rfl rfl (absurd h5 (ne_true_of_eq_false (bool_no fun hl => absurd (bkNA hi h2 (by have hl2 := of_decide_eq_true hl; omega) ht1 he1) id))) rfl)
     (fun h5 A => N hX 6 A rfl rfl fun A => tokSp (l := tx)
      (fun ws4 ht4 => CALLI [] Gl.ok hI (tokens_ok tx ws4 os hM hE ht4) A rfl rfl rfl rfl rfl rfl rfl fun A => N hX 12 A rfl rfl fun A => have A := A.freeze 2 rfl; CALLI [2] Gl.ok hI (aparse_ ws4 0 (by have := (ws_tokens ht4).1; omega) (ws_tokens ht4).2.1 os hM) A rfl rfl rfl rfl rfl rfl rfl fun A => N hX 21 A rfl rfl fun A => N hX 2 A rfl rfl fun A => fork 104 A rfl
       (fun h6 A => N hX 7 A rfl rfl fun A => RETN hX A rfl rfl rfl h0 rfl rfl rfl rfl rfl rfl)
       (fun h6 A => N hX 7 A rfl rfl fun A => have hB := bkBA ht4 (by have hz := or_n h1; omega) (f_noA h6); CALLI [] Gl.ok hI (aprint_ (parI armG ws4 armC) (parT armG ws4 armC) os hM hT hE (fun L hL => arm_prok hB.1 (by have := hB.2.1; omega) hL)) A rfl rfl rfl rfl rfl rfl rfl fun A => N hX 10 A rfl rfl fun A => tokSp (l := (prP armG armC (parI armG ws4 armC) (parT armG ws4 armC)).1)
        (fun ws5 ht5 => CALLI [] Gl.ok hI (tokens_ok ((prP armG armC (parI armG ws4 armC) (parT armG ws4 armC)).1) ws5 os hM hE ht5) A rfl rfl rfl rfl rfl rfl rfl fun A => N hX 12 A rfl rfl fun A => have A := A.freeze 4 rfl; CALLI [4] Gl.ok hI (aparse_ ws5 0 (by have := (ws_tokens ht5).1; omega) (ws_tokens ht5).2.1 os hM) A rfl rfl rfl rfl rfl rfl rfl fun A => N hX 34 A rfl rfl fun A => RETN hX A rfl rfl rfl h0 rfl rfl rfl rfl (by obtain ⟨_, _, z0, wz, z1, z2, z3, z4⟩ := hB; rw [z1] at ht5; have ez : wz = ws5 := congrArg Prod.fst ht5; rw [ez] at z2 z3 z4; have hb : ((((((prP armG armC (parI armG ws4 armC) (parT armG ws4 armC)).2) == 0) && ((parE armG ws5 armC) == 0)) && ((((parI armG ws5 armC).op) == ((parI armG ws4 armC).op)) && ((((parI armG ws5 armC).dst) == ((parI armG ws4 armC).dst)) && ((((parI armG ws5 armC).ra) == ((parI armG ws4 armC).ra)) && ((((parI armG ws5 armC).rb) == ((parI armG ws4 armC).rb)) && ((((parI armG ws5 armC).imm) == ((parI armG ws4 armC).imm)) && ((((parI armG ws5 armC).loc) == ((parI armG ws4 armC).loc)) && ((((parI armG ws5 armC).off) == ((parI armG ws4 armC).off)) && ((((parI armG ws5 armC).ix) == ((parI armG ws4 armC).ix)) && ((((parI armG ws5 armC).sz) == ((parI armG ws4 armC).sz)) && ((((parI armG ws5 armC).fn) == ((parI armG ws4 armC).fn)) && ((((parI armG ws5 armC).acq) == ((parI armG ws4 armC).acq)) && ((((parI armG ws5 armC).weak) == ((parI armG ws4 armC).weak)) && ((((parI armG ws5 armC).rel) == ((parI armG ws4 armC).rel)) && ((((parI armG ws5 armC).pred) == ((parI armG ws4 armC).pred)) && ((((parI armG ws5 armC).succ) == ((parI armG ws4 armC).succ)) && ((((parI armG ws5 armC).to_) == ((parI armG ws4 armC).to_)) && (((parI armG ws5 armC).zero) == ((parI armG ws4 armC).zero))))))))))))))))))) && ((parT armG ws5 armC) == (parT armG ws4 armC))) = true := (by rw [z0, z2, z3, z4]; set_option simprocs true in simp); rw [hb]; rfl) rfl)
        (fun e5 k5 he5 ht5 => CALLI [] Gl.ok hI (tokens_no ((prP armG armC (parI armG ws4 armC) (parT armG ws4 armC)).1) e5 k5 os hM hE ht5 he5) A rfl rfl rfl rfl rfl rfl rfl fun A => N hX 12 A rfl rfl fun A => CALLI [] Gl.ok hI (fnI_nil (aparse_ [] 0 (by decide) ws0_ok os hM) (fun k => ⟨_, rfl⟩) (fun _ => rfl)) A rfl rfl rfl rfl rfl rfl rfl fun A => N hX 34 A rfl rfl fun A => RETN hX A rfl rfl rfl h0 rfl rfl rfl rfl (by obtain ⟨_, _, _, wz, z1, _⟩ := hB; rw [z1] at ht5; exact absurd (congrArg (fun z => z.2.1) ht5).symm he5) rfl)))
      (fun e4 k4 he4 ht4 => CALLI [] Gl.ok hI (tokens_no tx e4 k4 os hM hE ht4 he4) A rfl rfl rfl rfl rfl rfl rfl fun A => N hX 12 A rfl rfl fun A => CALLI [] Gl.ok hI (fnI_nil (aparse_ [] 0 (by decide) ws0_ok os hM) (fun k => ⟨_, rfl⟩) (fun _ => rfl)) A rfl rfl rfl rfl rfl rfl rfl fun A => N hX 21 A rfl rfl fun A => have A := sy_sayD A 104 (.tt) rfl (fun _ => congrArg (fun b => some (Value.bool b)) (show ((!(e4 == 0)) || (!((parE armG [] armC) == 0))) = true by rw [beq_eq_false_iff_ne.2 he4]; rfl)); N hX 9 A rfl rfl fun A => RETN hX A rfl rfl rfl h0 rfl rfl rfl rfl rfl rfl))))
   (fun h2 A => N hX 6 A rfl rfl fun A => tokSp (l := tx)
    (fun ws6 ht6 => CALLI [] Gl.ok hI (tokens_ok tx ws6 os hM hE ht6) A rfl rfl rfl rfl rfl rfl rfl fun A => N hX 12 A rfl rfl fun A => have A := A.freeze 1 rfl; CALLI [1] Gl.ok hI (aparse_ ws6 0 (by have := (ws_tokens ht6).1; omega) (ws_tokens ht6).2.1 os hM) A rfl rfl rfl rfl rfl rfl rfl fun A => N hX 21 A rfl rfl fun A => N hX 2 A rfl rfl fun A => fork 104 A rfl
     (fun h7 A => N hX 7 A rfl rfl fun A => RETN hX A rfl rfl rfl h0 rfl rfl rfl rfl rfl rfl)
     (fun h7 A => N hX 7 A rfl rfl fun A => have hB := bkBA ht6 (by have hz := or_n h1; omega) (f_noA h7); CALLI [] Gl.ok hI (aprint_ (parI armG ws6 armC) (parT armG ws6 armC) os hM hT hE (fun L hL => arm_prok hB.1 (by have := hB.2.1; omega) hL)) A rfl rfl rfl rfl rfl rfl rfl fun A => N hX 10 A rfl rfl fun A => tokSp (l := (prP armG armC (parI armG ws6 armC) (parT armG ws6 armC)).1)
      (fun ws7 ht7 => CALLI [] Gl.ok hI (tokens_ok ((prP armG armC (parI armG ws6 armC) (parT armG ws6 armC)).1) ws7 os hM hE ht7) A rfl rfl rfl rfl rfl rfl rfl fun A => N hX 12 A rfl rfl fun A => have A := A.freeze 3 rfl; CALLI [3] Gl.ok hI (aparse_ ws7 0 (by have := (ws_tokens ht7).1; omega) (ws_tokens ht7).2.1 os hM) A rfl rfl rfl rfl rfl rfl rfl fun A => N hX 34 A rfl rfl fun A => RETN hX A rfl rfl rfl h0 rfl rfl rfl rfl (by obtain ⟨_, _, z0, wz, z1, z2, z3, z4⟩ := hB; rw [z1] at ht7; have ez : wz = ws7 := congrArg Prod.fst ht7; rw [ez] at z2 z3 z4; have hb : ((((((prP armG armC (parI armG ws6 armC) (parT armG ws6 armC)).2) == 0) && ((parE armG ws7 armC) == 0)) && ((((parI armG ws7 armC).op) == ((parI armG ws6 armC).op)) && ((((parI armG ws7 armC).dst) == ((parI armG ws6 armC).dst)) && ((((parI armG ws7 armC).ra) == ((parI armG ws6 armC).ra)) && ((((parI armG ws7 armC).rb) == ((parI armG ws6 armC).rb)) && ((((parI armG ws7 armC).imm) == ((parI armG ws6 armC).imm)) && ((((parI armG ws7 armC).loc) == ((parI armG ws6 armC).loc)) && ((((parI armG ws7 armC).off) == ((parI armG ws6 armC).off)) && ((((parI armG ws7 armC).ix) == ((parI armG ws6 armC).ix)) && ((((parI armG ws7 armC).sz) == ((parI armG ws6 armC).sz)) && ((((parI armG ws7 armC).fn) == ((parI armG ws6 armC).fn)) && ((((parI armG ws7 armC).acq) == ((parI armG ws6 armC).acq)) && ((((parI armG ws7 armC).weak) == ((parI armG ws6 armC).weak)) && ((((parI armG ws7 armC).rel) == ((parI armG ws6 armC).rel)) && ((((parI armG ws7 armC).pred) == ((parI armG ws6 armC).pred)) && ((((parI armG ws7 armC).succ) == ((parI armG ws6 armC).succ)) && ((((parI armG ws7 armC).to_) == ((parI armG ws6 armC).to_)) && (((parI armG ws7 armC).zero) == ((parI armG ws6 armC).zero))))))))))))))))))) && ((parT armG ws7 armC) == (parT armG ws6 armC))) = true := (by rw [z0, z2, z3, z4]; set_option simprocs true in simp); rw [hb]; rfl) rfl)
      (fun e7 k7 he7 ht7 => CALLI [] Gl.ok hI (tokens_no ((prP armG armC (parI armG ws6 armC) (parT armG ws6 armC)).1) e7 k7 os hM hE ht7 he7) A rfl rfl rfl rfl rfl rfl rfl fun A => N hX 12 A rfl rfl fun A => CALLI [] Gl.ok hI (fnI_nil (aparse_ [] 0 (by decide) ws0_ok os hM) (fun k => ⟨_, rfl⟩) (fun _ => rfl)) A rfl rfl rfl rfl rfl rfl rfl fun A => N hX 34 A rfl rfl fun A => RETN hX A rfl rfl rfl h0 rfl rfl rfl rfl (by obtain ⟨_, _, _, wz, z1, _⟩ := hB; rw [z1] at ht7; exact absurd (congrArg (fun z => z.2.1) ht7).symm he7) rfl)))
    (fun e6 k6 he6 ht6 => CALLI [] Gl.ok hI (tokens_no tx e6 k6 os hM hE ht6 he6) A rfl rfl rfl rfl rfl rfl rfl fun A => N hX 12 A rfl rfl fun A => CALLI [] Gl.ok hI (fnI_nil (aparse_ [] 0 (by decide) ws0_ok os hM) (fun k => ⟨_, rfl⟩) (fun _ => rfl)) A rfl rfl rfl rfl rfl rfl rfl fun A => N hX 21 A rfl rfl fun A => have A := sy_sayD A 104 (.tt) rfl (fun _ => congrArg (fun b => some (Value.bool b)) (show ((!(e6 == 0)) || (!((parE armG [] armC) == 0))) = true by rw [beq_eq_false_iff_ne.2 he6]; rfl)); N hX 9 A rfl rfl fun A => RETN hX A rfl rfl rfl h0 rfl rfl rfl rfl rfl rfl)))
theorem aback_ (i : In) (lb tx : List UInt8) (os : List (Nat × Obj)) (hM : ∀ w ks, Gl os w ks → ∃ m, w.cell? ⟨0, 0, none⟩ = some (.int .i64 m)) (hT : ∀ w ks, Gl os w ks → Lib.TabIs Tryz.prog w "internal/strconv.uint64pow10" .u64 Lib.pow10Tab) (hE : ∀ w ks, Gl os w ks → ∃ ev, w.cell? ⟨1, 0, none⟩ = some ev ∧ (ev = .nilIface ∨ ∃ te pe, ev = .iface te pe)) (hi : InR i) (h1 : lb.length ≤ 140737488355328) (h2 : tx.length ≤ 140737488355328) : FnI (Gl os) Tryz.prog 5 [.agg (inQ9 i), .str lb, .str tx] [] (Rt .tt []) := aback0_ i lb tx os hM hT hE hi
end Go.Proofs.YtedlaclfhgneeabGreatDoor
