/- X86Prints: what it stands on, part 3. -/
import Derived.Test.YtjkbjjlfijhbdaaGreatDoorX86PrintsP2
import Derived.Lib.SlBytesRow
import Derived.Lib.ItoaNum
namespace Go.Proofs.YtjkbjjlfijhbdaaGreatDoor
open Go.RowKit
set_option linter.defProp false
set_option maxHeartbeats 4000000
set_option maxRecDepth 100000
set_option linter.unusedVariables false
set_option linter.unusedSimpArgs false
theorem ent199 : Ent Tryz.prog 199 = FF := by kernel_rfl
theorem slc76 : sliceB Tryz.prog 76 9 1 = true := by kernel_rfl
theorem num_plain (Bd g p : Nat) (sv : Value) (L : List Tk)  (w : World) (hB : Bd ≤ w.heap.size) (hBg : Bd ≤ g) (hb : Blk w g #[sv, J ((p : Nat) : Int)] 132) (hSl : Sl tokE 4 Bd w sv L) (hp : p ≤ L.length) (hL : L.length ≤ 1000000) (yt : Tk) (hy : L[p]? = some yt) (hkd : yt.kind = 2) : Calls Tryz.prog 182 #[.pointer (some ⟨g, 0, none⟩)] w λ e w' => e = .returned (.tuple #[J yt.n, .bool true]) ∧ Mix [g] w w' ∧ Blk w' g #[sv, J ((p + 1 : Nat) : Int)] 132 := by
 have x0 : Mix [g] w w := Mix.refl _ _
 have hyl := get_lt hy
 have b0 : Below Bd w w := Below.refl _ _
 refine enter (n := 36) Tryz.func182 rfl rfl (nb_ rfl) λ _ A=>sw_<|Z 2 A rfl λ A=>qt_<|sw_<|Z 1 A rfl λ A=>C A rfl ent104 (peek_some Bd g p sv L w (nt_ hB b0.size) hBg hb (hSl.below b0) (by omega) (by omega) yt hy) ?_
 rintro e12 w9 ⟨he11, hG10⟩
 have m13 := hb.grow hG10
 have b14 := blg b0 hG10 (nt_ hB b0.size)
 have x15 := x0.grow hG10
 refine ⟨(.tuple #[(.agg (tokC yt)), (.bool true)]), he11, λ _ A=>Z 3 A rfl λ A=>qs A rfl (dal (wn rfl) zero28 λ g24 w25 eg26 hG27 (m28 : Blk w25 g24 #[J 0, .string (S []), J 0, J 0] 28)=>?_)⟩
 have ge29 : Bd ≤ g24 := eg26 ▸ (nt_ hB b14.size)
 have n30 := nn_ eg26 m13
 have gx31 : w.heap.size ≤ g24 := eg26 ▸ x15.size
 have m32 := m13.grow hG27
 have b33 := blg b14 hG27 (nt_ hB b14.size)
 have x34 := x15.grow hG27
 intro _ A
 refine qs A rfl (dsr (wn rfl) (A.ev rfl) (A.ev rfl) row28 m28 rfl rfl λ w37 hU38 (m39 : Blk w37 g24 (tokC yt) 28)=>?_)
 have m40 := m32.upd hU38 n30
 have b41 := hU38.below b33 ge29
 have x42 := x34.updOut hU38 gx31
 intro _ A
 refine Z 1 A rfl λ A=>qt_<|ws_<|sw_<|Z 2 A rfl λ A=>F1 A rfl fo28_0 λ A=>qs A rfl (dld (v := (J yt.kind)) (wy rfl rfl (A.g 14 rfl)) (A.ev rfl) one3 (m39.cell rfl) λ _ A=>B2 A rfl (b_eq _ _ yt.kind 3 false _ (beq_eq_false_iff_ne.2 (by omega))) λ A=>Z 6 A rfl λ A=>qt_<|cf_ A rfl ?_)
 refine wk_<|tn_<|sw_<|Z 1 A rfl λ A=>C A rfl ent199 (na_yes Bd g p sv L 0 w37 (nt_ hB b41.size) hBg m40 (hSl.below b41) (by omega) (by omega) yt (by simpa using hy) hkd (by omega)) ?_
 rintro e74 w71 ⟨he73, hX75, m76⟩
 have m77 := m39.mix hX75 (nin1 (Ne.symm n30))
 have x78 := x42.mix hX75 (λ k hk hc => nin1 (one_of1 hc))
 have b79 := hX75.below b41 (nt_ hB b41.size) (lows1 hBg)
 refine ⟨(.tuple #[(J yt.n), (.bool true)]), he73, λ _ A=>Z 4 A rfl λ A=>qt_<|we_<|ret2 (x := (J yt.n)) (y := (.bool true)) rfl A rfl rfl ?_⟩
 exact ⟨rfl, x78, m76⟩
theorem num_neg (Bd g p : Nat) (sv : Value) (L : List Tk)  (w : World) (hB : Bd ≤ w.heap.size) (hBg : Bd ≤ g) (hb : Blk w g #[sv, J ((p : Nat) : Int)] 132) (hSl : Sl tokE 4 Bd w sv L) (hp : p ≤ L.length) (hL : L.length ≤ 1000000) (yt : Tk) (hy : L[p]? = some yt) (hkd : yt.kind = 3) (ht : yt.text = [45]) (zt : Tk) (hz : L[p + 1]? = some zt) (hkz : zt.kind = 2) : Calls Tryz.prog 182 #[.pointer (some ⟨g, 0, none⟩)] w λ e w' => e = .returned (.tuple #[J (IntKind.wrap .i64 (-zt.n)), .bool true]) ∧ Mix [g] w w' ∧ Blk w' g #[sv, J ((p + 2 : Nat) : Int)] 132 := by
 have x0 : Mix [g] w w := Mix.refl _ _
 have hyl := get_lt hy
 have b0 : Below Bd w w := Below.refl _ _
 refine enter (n := 36) Tryz.func182 rfl rfl (nb_ rfl) λ _ A=>sw_<|Z 2 A rfl λ A=>qt_<|sw_<|Z 1 A rfl λ A=>C A rfl ent104 (peek_some Bd g p sv L w (nt_ hB b0.size) hBg hb (hSl.below b0) (by omega) (by omega) yt hy) ?_
 rintro e12 w9 ⟨he11, hG10⟩
 have m13 := hb.grow hG10
 have b14 := blg b0 hG10 (nt_ hB b0.size)
 have x15 := x0.grow hG10
 refine ⟨(.tuple #[(.agg (tokC yt)), (.bool true)]), he11, λ _ A=>Z 3 A rfl λ A=>qs A rfl (dal (wn rfl) zero28 λ g24 w25 eg26 hG27 (m28 : Blk w25 g24 #[J 0, .string (S []), J 0, J 0] 28)=>?_)⟩
 have ge29 : Bd ≤ g24 := eg26 ▸ (nt_ hB b14.size)
 have n30 := nn_ eg26 m13
 have gx31 : w.heap.size ≤ g24 := eg26 ▸ x15.size
 have m32 := m13.grow hG27
 have b33 := blg b14 hG27 (nt_ hB b14.size)
 have x34 := x15.grow hG27
 intro _ A
 refine qs A rfl (dsr (wn rfl) (A.ev rfl) (A.ev rfl) row28 m28 rfl rfl λ w37 hU38 (m39 : Blk w37 g24 (tokC yt) 28)=>?_)
 have m40 := m32.upd hU38 n30
 have b41 := hU38.below b33 ge29
 have x42 := x34.updOut hU38 gx31
 intro _ A
 refine Z 1 A rfl λ A=>qt_<|ws_<|sw_<|Z 2 A rfl λ A=>F1 A rfl fo28_0 λ A=>qs A rfl (dld (v := (J yt.kind)) (wy rfl rfl (A.g 14 rfl)) (A.ev rfl) one3 (m39.cell rfl) λ _ A=>B2 A rfl (b_eq _ _ yt.kind 3 true _ (beq_iff_eq.2 hkd)) λ A=>Z 2 A rfl λ A=>F1 A rfl fo28_1 λ A=>qs A rfl (dld (v := (.string (S yt.text))) (wy rfl rfl (A.g 19 rfl)) (A.ev rfl) one9 (m39.cell rfl) λ _ A=>B2 A rfl (b_seq (l := yt.text) (m := [45]) (r := true) (eqL_yes ht)) λ A=>?_))
 refine Z 1 A rfl λ A=>qt_<|ct_ A rfl<|sw_<|Z 1 A rfl λ A=>C A rfl ent199 (na_yes Bd g p sv L 1 w37 (nt_ hB b41.size) hBg m40 (hSl.below b41) (by omega) (by omega) zt hz hkz (by omega)) ?_
 rintro e74 w71 ⟨he73, hX75, m76⟩
 have m77 := m39.mix hX75 (nin1 (Ne.symm n30))
 have x78 := x42.mix hX75 (λ k hk hc => nin1 (one_of1 hc))
 have b79 := hX75.below b41 (nt_ hB b41.size) (lows1 hBg)
 refine ⟨(.tuple #[(J zt.n), (.bool true)]), he73, λ _ A=>Z 5 A rfl λ A=>qt_<|sw_<|Z 1 A rfl λ A=>qs A rfl (d_neg (wn rfl) (A.ev rfl) λ _ A=>Z 3 A rfl λ A=>qt_<|we_<|tr_<|ret2 (x := (J (IntKind.wrap .i64 (-zt.n)))) (y := (.bool true)) rfl A rfl rfl ?_)⟩
 exact ⟨rfl, x78, m76⟩
theorem num_neg_no (Bd g p : Nat) (sv : Value) (L : List Tk)  (w : World) (hB : Bd ≤ w.heap.size) (hBg : Bd ≤ g) (hb : Blk w g #[sv, J ((p : Nat) : Int)] 132) (hSl : Sl tokE 4 Bd w sv L) (hp : p ≤ L.length) (hL : L.length ≤ 1000000) (yt : Tk) (hy : L[p]? = some yt) (hkd : yt.kind = 3) (ht : yt.text = [45]) (zt : Tk) (hz : L[p + 1]? = some zt) (hkz : zt.kind ≠ 2) : Calls Tryz.prog 182 #[.pointer (some ⟨g, 0, none⟩)] w λ e w' => e = .returned (.tuple #[J 0, .bool false]) ∧ Grow w w' := by
 have x0 : Mix [] w w := Mix.refl _ _
 have hyl := get_lt hy
 have b0 : Below Bd w w := Below.refl _ _
 refine enter (n := 36) Tryz.func182 rfl rfl (nb_ rfl) λ _ A=>sw_<|Z 2 A rfl λ A=>qt_<|sw_<|Z 1 A rfl λ A=>C A rfl ent104 (peek_some Bd g p sv L w (nt_ hB b0.size) hBg hb (hSl.below b0) (by omega) (by omega) yt hy) ?_
 rintro e12 w9 ⟨he11, hG10⟩
 have m13 := hb.grow hG10
 have b14 := blg b0 hG10 (nt_ hB b0.size)
 have x15 := x0.grow hG10
 refine ⟨(.tuple #[(.agg (tokC yt)), (.bool true)]), he11, λ _ A=>Z 3 A rfl λ A=>qs A rfl (dal (wn rfl) zero28 λ g24 w25 eg26 hG27 (m28 : Blk w25 g24 #[J 0, .string (S []), J 0, J 0] 28)=>?_)⟩
 have ge29 : Bd ≤ g24 := eg26 ▸ (nt_ hB b14.size)
 have n30 := nn_ eg26 m13
 have gx31 : w.heap.size ≤ g24 := eg26 ▸ x15.size
 have m32 := m13.grow hG27
 have b33 := blg b14 hG27 (nt_ hB b14.size)
 have x34 := x15.grow hG27
 intro _ A
 refine qs A rfl (dsr (wn rfl) (A.ev rfl) (A.ev rfl) row28 m28 rfl rfl λ w37 hU38 (m39 : Blk w37 g24 (tokC yt) 28)=>?_)
 have m40 := m32.upd hU38 n30
 have b41 := hU38.below b33 ge29
 have x42 := x34.updOut hU38 gx31
 intro _ A
 refine Z 1 A rfl λ A=>qt_<|ws_<|sw_<|Z 2 A rfl λ A=>F1 A rfl fo28_0 λ A=>qs A rfl (dld (v := (J yt.kind)) (wy rfl rfl (A.g 14 rfl)) (A.ev rfl) one3 (m39.cell rfl) λ _ A=>B2 A rfl (b_eq _ _ yt.kind 3 true _ (beq_iff_eq.2 hkd)) λ A=>Z 2 A rfl λ A=>F1 A rfl fo28_1 λ A=>qs A rfl (dld (v := (.string (S yt.text))) (wy rfl rfl (A.g 19 rfl)) (A.ev rfl) one9 (m39.cell rfl) λ _ A=>B2 A rfl (b_seq (l := yt.text) (m := [45]) (r := true) (eqL_yes ht)) λ A=>?_))
 refine Z 1 A rfl λ A=>qt_<|ct_ A rfl<|sw_<|Z 1 A rfl λ A=>C A rfl ent199 (na_no Bd g p sv L 1 w37 (nt_ hB b41.size) hBg m40 (hSl.below b41) (by omega) (by omega) zt hz hkz (by omega)) ?_
 rintro e74 w71 ⟨he73, hG72⟩
 have m75 := m40.grow hG72
 have m76 := m39.grow hG72
 have b77 := blg b41 hG72 (nt_ hB b41.size)
 have x78 := x42.grow hG72
 refine ⟨(.tuple #[(J 0), (.bool false)]), he73, λ _ A=>Z 5 A rfl λ A=>qt_<|sw_<|Z 1 A rfl λ A=>qs A rfl (d_neg (wn rfl) (A.ev rfl) λ _ A=>Z 3 A rfl λ A=>qt_<|we_<|tr_<|ret2 (x := (J (IntKind.wrap .i64 (-0)))) (y := (.bool false)) rfl A rfl rfl ?_)⟩
 exact ⟨rfl, x78.grown⟩
theorem num_neg_none (Bd g p : Nat) (sv : Value) (L : List Tk)  (w : World) (hB : Bd ≤ w.heap.size) (hBg : Bd ≤ g) (hb : Blk w g #[sv, J ((p : Nat) : Int)] 132) (hSl : Sl tokE 4 Bd w sv L) (hp : p ≤ L.length) (hL : L.length ≤ 1000000) (yt : Tk) (hy : L[p]? = some yt) (hkd : yt.kind = 3) (ht : yt.text = [45]) (hz : L.length ≤ p + 1) : Calls Tryz.prog 182 #[.pointer (some ⟨g, 0, none⟩)] w λ e w' => e = .returned (.tuple #[J 0, .bool false]) ∧ Grow w w' := by
 have x0 : Mix [] w w := Mix.refl _ _
 have hyl := get_lt hy
 have b0 : Below Bd w w := Below.refl _ _
 refine enter (n := 36) Tryz.func182 rfl rfl (nb_ rfl) λ _ A=>sw_<|Z 2 A rfl λ A=>qt_<|sw_<|Z 1 A rfl λ A=>C A rfl ent104 (peek_some Bd g p sv L w (nt_ hB b0.size) hBg hb (hSl.below b0) (by omega) (by omega) yt hy) ?_
 rintro e12 w9 ⟨he11, hG10⟩
 have m13 := hb.grow hG10
 have b14 := blg b0 hG10 (nt_ hB b0.size)
 have x15 := x0.grow hG10
 refine ⟨(.tuple #[(.agg (tokC yt)), (.bool true)]), he11, λ _ A=>Z 3 A rfl λ A=>qs A rfl (dal (wn rfl) zero28 λ g24 w25 eg26 hG27 (m28 : Blk w25 g24 #[J 0, .string (S []), J 0, J 0] 28)=>?_)⟩
 have ge29 : Bd ≤ g24 := eg26 ▸ (nt_ hB b14.size)
 have n30 := nn_ eg26 m13
 have gx31 : w.heap.size ≤ g24 := eg26 ▸ x15.size
 have m32 := m13.grow hG27
 have b33 := blg b14 hG27 (nt_ hB b14.size)
 have x34 := x15.grow hG27
 intro _ A
 refine qs A rfl (dsr (wn rfl) (A.ev rfl) (A.ev rfl) row28 m28 rfl rfl λ w37 hU38 (m39 : Blk w37 g24 (tokC yt) 28)=>?_)
 have m40 := m32.upd hU38 n30
 have b41 := hU38.below b33 ge29
 have x42 := x34.updOut hU38 gx31
 intro _ A
 refine Z 1 A rfl λ A=>qt_<|ws_<|sw_<|Z 2 A rfl λ A=>F1 A rfl fo28_0 λ A=>qs A rfl (dld (v := (J yt.kind)) (wy rfl rfl (A.g 14 rfl)) (A.ev rfl) one3 (m39.cell rfl) λ _ A=>B2 A rfl (b_eq _ _ yt.kind 3 true _ (beq_iff_eq.2 hkd)) λ A=>Z 2 A rfl λ A=>F1 A rfl fo28_1 λ A=>qs A rfl (dld (v := (.string (S yt.text))) (wy rfl rfl (A.g 19 rfl)) (A.ev rfl) one9 (m39.cell rfl) λ _ A=>B2 A rfl (b_seq (l := yt.text) (m := [45]) (r := true) (eqL_yes ht)) λ A=>?_))
 refine Z 1 A rfl λ A=>qt_<|ct_ A rfl<|sw_<|Z 1 A rfl λ A=>C A rfl ent199 (na_none Bd g p sv L 1 w37 (nt_ hB b41.size) hBg m40 (hSl.below b41) (by omega) (by omega) hz (by omega)) ?_
 rintro e74 w71 ⟨he73, hG72⟩
 have m75 := m40.grow hG72
 have m76 := m39.grow hG72
 have b77 := blg b41 hG72 (nt_ hB b41.size)
 have x78 := x42.grow hG72
 refine ⟨(.tuple #[(J 0), (.bool false)]), he73, λ _ A=>Z 5 A rfl λ A=>qt_<|sw_<|Z 1 A rfl λ A=>qs A rfl (d_neg (wn rfl) (A.ev rfl) λ _ A=>Z 3 A rfl λ A=>qt_<|we_<|tr_<|ret2 (x := (J (IntKind.wrap .i64 (-0)))) (y := (.bool false)) rfl A rfl rfl ?_)⟩
 exact ⟨rfl, x78.grown⟩
theorem num_mark (Bd g p : Nat) (sv : Value) (L : List Tk)  (w : World) (hB : Bd ≤ w.heap.size) (hBg : Bd ≤ g) (hb : Blk w g #[sv, J ((p : Nat) : Int)] 132) (hSl : Sl tokE 4 Bd w sv L) (hp : p ≤ L.length) (hL : L.length ≤ 1000000) (yt : Tk) (hy : L[p]? = some yt) (hkd : yt.kind = 3) (ht : yt.text ≠ [45]) : Calls Tryz.prog 182 #[.pointer (some ⟨g, 0, none⟩)] w λ e w' => e = .returned (.tuple #[J 0, .bool false]) ∧ Grow w w' := by
 have x0 : Mix [] w w := Mix.refl _ _
 have hyl := get_lt hy
 have b0 : Below Bd w w := Below.refl _ _
 refine enter (n := 36) Tryz.func182 rfl rfl (nb_ rfl) λ _ A=>sw_<|Z 2 A rfl λ A=>qt_<|sw_<|Z 1 A rfl λ A=>C A rfl ent104 (peek_some Bd g p sv L w (nt_ hB b0.size) hBg hb (hSl.below b0) (by omega) (by omega) yt hy) ?_
 rintro e12 w9 ⟨he11, hG10⟩
 have m13 := hb.grow hG10
 have b14 := blg b0 hG10 (nt_ hB b0.size)
 have x15 := x0.grow hG10
 refine ⟨(.tuple #[(.agg (tokC yt)), (.bool true)]), he11, λ _ A=>Z 3 A rfl λ A=>qs A rfl (dal (wn rfl) zero28 λ g24 w25 eg26 hG27 (m28 : Blk w25 g24 #[J 0, .string (S []), J 0, J 0] 28)=>?_)⟩
 have ge29 : Bd ≤ g24 := eg26 ▸ (nt_ hB b14.size)
 have n30 := nn_ eg26 m13
 have gx31 : w.heap.size ≤ g24 := eg26 ▸ x15.size
 have m32 := m13.grow hG27
 have b33 := blg b14 hG27 (nt_ hB b14.size)
 have x34 := x15.grow hG27
 intro _ A
 refine qs A rfl (dsr (wn rfl) (A.ev rfl) (A.ev rfl) row28 m28 rfl rfl λ w37 hU38 (m39 : Blk w37 g24 (tokC yt) 28)=>?_)
 have m40 := m32.upd hU38 n30
 have b41 := hU38.below b33 ge29
 have x42 := x34.updOut hU38 gx31
 intro _ A
 refine Z 1 A rfl λ A=>qt_<|ws_<|sw_<|Z 2 A rfl λ A=>F1 A rfl fo28_0 λ A=>qs A rfl (dld (v := (J yt.kind)) (wy rfl rfl (A.g 14 rfl)) (A.ev rfl) one3 (m39.cell rfl) λ _ A=>B2 A rfl (b_eq _ _ yt.kind 3 true _ (beq_iff_eq.2 hkd)) λ A=>Z 2 A rfl λ A=>F1 A rfl fo28_1 λ A=>qs A rfl (dld (v := (.string (S yt.text))) (wy rfl rfl (A.g 19 rfl)) (A.ev rfl) one9 (m39.cell rfl) λ _ A=>B2 A rfl (b_seq (l := yt.text) (m := [45]) (r := false) (eqL_no ht)) λ A=>?_))
 refine Z 1 A rfl λ A=>qt_<|cf_ A rfl<|wk_<|tn_<|sw_<|Z 1 A rfl λ A=>C A rfl ent199 (na_no Bd g p sv L 0 w37 (nt_ hB b41.size) hBg m40 (hSl.below b41) (by omega) (by omega) yt (by simpa using hy) (by omega) (by omega)) ?_
 rintro e74 w71 ⟨he73, hG72⟩
 have m75 := m40.grow hG72
 have m76 := m39.grow hG72
 have b77 := blg b41 hG72 (nt_ hB b41.size)
 have x78 := x42.grow hG72
 refine ⟨(.tuple #[(J 0), (.bool false)]), he73, λ _ A=>Z 4 A rfl λ A=>qt_<|we_<|ret2 (x := (J 0)) (y := (.bool false)) rfl A rfl rfl ?_⟩
 exact ⟨rfl, x78.grown⟩
theorem num_no (Bd g p : Nat) (sv : Value) (L : List Tk)  (w : World) (hB : Bd ≤ w.heap.size) (hBg : Bd ≤ g) (hb : Blk w g #[sv, J ((p : Nat) : Int)] 132) (hSl : Sl tokE 4 Bd w sv L) (hp : p ≤ L.length) (hL : L.length ≤ 1000000) (yt : Tk) (hy : L[p]? = some yt) (hkd : yt.kind ≠ 3) (hk2 : yt.kind ≠ 2) : Calls Tryz.prog 182 #[.pointer (some ⟨g, 0, none⟩)] w λ e w' => e = .returned (.tuple #[J 0, .bool false]) ∧ Grow w w' := by
 have x0 : Mix [] w w := Mix.refl _ _
 have hyl := get_lt hy
 have b0 : Below Bd w w := Below.refl _ _
 refine enter (n := 36) Tryz.func182 rfl rfl (nb_ rfl) λ _ A=>sw_<|Z 2 A rfl λ A=>qt_<|sw_<|Z 1 A rfl λ A=>C A rfl ent104 (peek_some Bd g p sv L w (nt_ hB b0.size) hBg hb (hSl.below b0) (by omega) (by omega) yt hy) ?_
 rintro e12 w9 ⟨he11, hG10⟩
 have m13 := hb.grow hG10
 have b14 := blg b0 hG10 (nt_ hB b0.size)
 have x15 := x0.grow hG10
 refine ⟨(.tuple #[(.agg (tokC yt)), (.bool true)]), he11, λ _ A=>Z 3 A rfl λ A=>qs A rfl (dal (wn rfl) zero28 λ g24 w25 eg26 hG27 (m28 : Blk w25 g24 #[J 0, .string (S []), J 0, J 0] 28)=>?_)⟩
 have ge29 : Bd ≤ g24 := eg26 ▸ (nt_ hB b14.size)
 have n30 := nn_ eg26 m13
 have gx31 : w.heap.size ≤ g24 := eg26 ▸ x15.size
 have m32 := m13.grow hG27
 have b33 := blg b14 hG27 (nt_ hB b14.size)
 have x34 := x15.grow hG27
 intro _ A
 refine qs A rfl (dsr (wn rfl) (A.ev rfl) (A.ev rfl) row28 m28 rfl rfl λ w37 hU38 (m39 : Blk w37 g24 (tokC yt) 28)=>?_)
 have m40 := m32.upd hU38 n30
 have b41 := hU38.below b33 ge29
 have x42 := x34.updOut hU38 gx31
 intro _ A
 refine Z 1 A rfl λ A=>qt_<|ws_<|sw_<|Z 2 A rfl λ A=>F1 A rfl fo28_0 λ A=>qs A rfl (dld (v := (J yt.kind)) (wy rfl rfl (A.g 14 rfl)) (A.ev rfl) one3 (m39.cell rfl) λ _ A=>B2 A rfl (b_eq _ _ yt.kind 3 false _ (beq_eq_false_iff_ne.2 (by omega))) λ A=>Z 6 A rfl λ A=>qt_<|cf_ A rfl ?_)
 refine wk_<|tn_<|sw_<|Z 1 A rfl λ A=>C A rfl ent199 (na_no Bd g p sv L 0 w37 (nt_ hB b41.size) hBg m40 (hSl.below b41) (by omega) (by omega) yt (by simpa using hy) hk2 (by omega)) ?_
 rintro e74 w71 ⟨he73, hG72⟩
 have m75 := m40.grow hG72
 have m76 := m39.grow hG72
 have b77 := blg b41 hG72 (nt_ hB b41.size)
 have x78 := x42.grow hG72
 refine ⟨(.tuple #[(J 0), (.bool false)]), he73, λ _ A=>Z 4 A rfl λ A=>qt_<|we_<|ret2 (x := (J 0)) (y := (.bool false)) rfl A rfl rfl ?_⟩
 exact ⟨rfl, x78.grown⟩
theorem num_none (Bd g p : Nat) (sv : Value) (L : List Tk)  (w : World) (hB : Bd ≤ w.heap.size) (hBg : Bd ≤ g) (hb : Blk w g #[sv, J ((p : Nat) : Int)] 132) (hSl : Sl tokE 4 Bd w sv L) (hp : p ≤ L.length) (hL : L.length ≤ 1000000) (hn : L.length ≤ p) : Calls Tryz.prog 182 #[.pointer (some ⟨g, 0, none⟩)] w λ e w' => e = .returned (.tuple #[J 0, .bool false]) ∧ Grow w w' := by
 have x0 : Mix [] w w := Mix.refl _ _
 have b0 : Below Bd w w := Below.refl _ _
 refine enter (n := 36) Tryz.func182 rfl rfl (nb_ rfl) λ _ A=>sw_<|Z 2 A rfl λ A=>qt_<|sw_<|Z 1 A rfl λ A=>C A rfl ent104 (peek_none Bd g p sv L w (nt_ hB b0.size) hBg hb (hSl.below b0) (by omega) (by omega) hn) ?_
 rintro e12 w9 ⟨he11, hG10⟩
 have m13 := hb.grow hG10
 have b14 := blg b0 hG10 (nt_ hB b0.size)
 have x15 := x0.grow hG10
 refine ⟨(.tuple #[(.agg #[J 0, .string (S []), J 0, J 0]), (.bool false)]), he11, λ _ A=>Z 3 A rfl λ A=>qs A rfl (dal (wn rfl) zero28 λ g24 w25 eg26 hG27 (m28 : Blk w25 g24 #[J 0, .string (S []), J 0, J 0] 28)=>?_)⟩
 have ge29 : Bd ≤ g24 := eg26 ▸ (nt_ hB b14.size)
 have n30 := nn_ eg26 m13
 have gx31 : w.heap.size ≤ g24 := eg26 ▸ x15.size
 have m32 := m13.grow hG27
 have b33 := blg b14 hG27 (nt_ hB b14.size)
 have x34 := x15.grow hG27
 intro _ A
 refine qs A rfl (dsr (wn rfl) (A.ev rfl) (A.ev rfl) row28 m28 rfl rfl λ w37 hU38 (m39 : Blk w37 g24 #[J 0, .string (S []), J 0, J 0] 28)=>?_)
 have m40 := m32.upd hU38 n30
 have b41 := hU38.below b33 ge29
 have x42 := x34.updOut hU38 gx31
 intro _ A
 refine Z 1 A rfl λ A=>qt_<|ws_<|sw_<|Z 11 A rfl λ A=>qt_<|cf_ A rfl<|wk_<|tn_<|sw_ ?_
 refine Z 1 A rfl λ A=>C A rfl ent199 (na_none Bd g p sv L 0 w37 (nt_ hB b41.size) hBg m40 (hSl.below b41) (by omega) (by omega) (by simpa using hn) (by omega)) ?_
 rintro e74 w71 ⟨he73, hG72⟩
 have m75 := m40.grow hG72
 have m76 := m39.grow hG72
 have b77 := blg b41 hG72 (nt_ hB b41.size)
 have x78 := x42.grow hG72
 refine ⟨(.tuple #[(J 0), (.bool false)]), he73, λ _ A=>Z 4 A rfl λ A=>qt_<|we_<|ret2 (x := (J 0)) (y := (.bool false)) rfl A rfl rfl ?_⟩
 exact ⟨rfl, x78.grown⟩
theorem take_yes (Bd g p : Nat) (sv : Value) (L : List Tk) (mv : Value) (m : List UInt8) (w : World) (hB : Bd ≤ w.heap.size) (hBg : Bd ≤ g) (hb : Blk w g #[sv, J ((p : Nat) : Int)] 132) (hSl : Sl tokE 4 Bd w sv L) (hp : p ≤ L.length) (hL : L.length ≤ 1000000) (yt : Tk) (hy : L[p]? = some yt) (hkd : yt.kind ≠ 2) (ht : yt.text = m) (hM : Sl strE 1 w.heap.size w mv [m]) (hMg : mv.ownBlock ≠ some g) : Calls Tryz.prog 145 #[.pointer (some ⟨g, 0, none⟩), mv] w λ e w' => e = .returned (.bool true) ∧ Mix [g] w w' ∧ Blk w' g #[sv, J ((p + 1 : Nat) : Int)] 132 := by
 have x0 : Mix [g] w w := Mix.refl _ _
 have hyl := get_lt hy
 have b0 : Below Bd w w := Below.refl _ _
 refine enter (n := 45) Tryz.func145 rfl rfl (nb_ rfl) λ _ A=>sw_<|Z 1 A rfl λ A=>qt_<|ws_<|sw_<|Z 1 A rfl λ A=>qs A rfl (dle (n := 1) (wn rfl) (A.ev rfl) slc76 hM.form λ _ A=>Z 1 A rfl λ A=>qt_ ?_)
 refine wp_block<|loop_by (λ m12 a13 w14 => ∃ j11 : Nat, m12 = 1 - j11 ∧ (j11 ≤ 1) ∧ St 45 [(0, (.pointer (some ⟨g, 0, none⟩))), (1, mv), (9, mv), (10, (J 1)), (11, (J ((j11 : Nat) : Int)))] a13 ∧ Below Bd w w14 ∧ Blk w14 g #[sv, J ((p : Nat) : Int)] 132 ∧ Mix [g] w w14) (1 - 0) ⟨0, rfl, (by omega), A.cut _ (fc (A.g 0 rfl) (fc (A.g 1 rfl) (fc (A.g 9 rfl) (fc (A.g 10 rfl) (fc ((A.g 11 rfl).trans (congrArg (Value.int .i64) (by omega))) fn_))))), b0, hb, x0⟩ ?_
 rintro m12 a13 w14 ⟨j11, hm17, hc18, A, b16, m19, x20⟩
 refine sw_ ?_
 rcases eb_ (decide (((j11 : Nat) : Int) < 1)) with hb21 | hb21
 ·skip
  have hq22 := dt_ hb21
  refine B2 A rfl (bl hb21) λ A=>qt_<|ws_<|ct_ A rfl<|wk_<|tn_<|ws_<|wp_block<|sw_<|Z 1 A rfl λ A=>?_
  have hmj27 : ([m] : List (List UInt8))[j11]? = some m := by rw [show j11 = 0 by omega]; rfl
  obtain ⟨b28, o29, lt30, hr31, hix32⟩ := (sl_mix hM x20 hMg).at hmj27
  refine qs A rfl (dia (j := j11) (wn rfl) (A.ev rfl) (A.ev rfl) slc76 hix32 (get_lt hmj27) λ _ A=>qs A rfl (dld (v := (.string (S m))) (wn rfl) (A.ev rfl) one9 (hr31 0 _ rfl) λ _ A=>Z 2 A rfl λ A=>qt_<|sw_<|Z 2 A rfl λ A=>C A rfl ent142 (ahead_some Bd g p sv L j11 w14 (nt_ hB b16.size) hBg m19 (hSl.below b16) (by omega) (by omega) yt (by rw [show j11 = 0 by omega]; simpa using hy) (by omega)) ?_))
  rintro e48 w45 ⟨he47, hG46⟩
  have m49 := m19.grow hG46
  have hr50 := range_below hr31 hG46 lt30
  have lt51 := Nat.lt_of_lt_of_le lt30 hG46.size
  have b52 := blg b16 hG46 (nt_ hB b16.size)
  have x53 := x20.grow hG46
  refine ⟨(.tuple #[(.agg (tokC yt)), (.bool true)]), he47, λ _ A=>Z 3 A rfl λ A=>qs A rfl (dal (wn rfl) zero28 λ g62 w63 eg64 hG65 (m66 : Blk w63 g62 #[J 0, .string (S []), J 0, J 0] 28)=>?_)⟩
  have ge67 : Bd ≤ g62 := eg64 ▸ (nt_ hB b52.size)
  have n68 := nn_ eg64 m49
  have gx69 : w.heap.size ≤ g62 := eg64 ▸ x53.size
  have m70 := m49.grow hG65
  have hr71 := range_below hr50 hG65 lt51
  have lt72 := Nat.lt_of_lt_of_le lt51 hG65.size
  have b73 := blg b52 hG65 (nt_ hB b52.size)
  have x74 := x53.grow hG65
  intro _ A
  refine qs A rfl (dsr (wn rfl) (A.ev rfl) (A.ev rfl) row28 m66 rfl rfl λ w77 hU78 (m79 : Blk w77 g62 (tokC yt) 28)=>?_)
  have m80 := m70.upd hU78 n68
  have b81 := hU78.below b73 ge67
  have x82 := x74.updOut hU78 gx69
  intro _ A
  refine Z 1 A rfl λ A=>qt_<|sw_<|Z 3 A rfl λ A=>F1 A rfl fo28_0 λ A=>qs A rfl (dld (v := (J yt.kind)) (wy rfl rfl (A.g 24 rfl)) (A.ev rfl) one3 (m79.cell rfl) λ _ A=>B2 A rfl (b_eq _ _ yt.kind 2 false _ (beq_eq_false_iff_ne.2 hkd)) λ A=>Z 2 A rfl λ A=>F1 A rfl fo28_1 λ A=>qs A rfl (dld (v := (.string (S yt.text))) (wy rfl rfl (A.g 29 rfl)) (A.ev rfl) one9 (m79.cell rfl) λ _ A=>Z 1 A rfl λ A=>B2 A rfl (b_sne (l := yt.text) (m := m) (r := false) (notof (eqL_yes ht))) λ A=>?_))
  refine Z 1 A rfl λ A=>qt_<|cf_ A rfl<|wk_<|i_norm<|tn_<|wr_<|B2 A rfl (b_addE (j11 + 1) (by omega) (by omega)) λ A=>Z 1 A rfl λ A=>qt_ ?_
  exact ⟨1 - (j11 + 1), (by rw [hm17]; omega), j11 + 1, rfl, (by omega), A.sub rfl, b81, m80, x82⟩
 have hq117 := df_ hb21
 refine B2 A rfl (bl hb21) λ A=>qt_<|ws_<|cf_ A rfl<|wp_exit<|t_exit<|t_exit<|i_here<|tn_<|sw_<|Z 2 A rfl λ A=>F1 A rfl fo132_1 λ A=>?_
 refine qs A rfl (dld (v := (J ((p : Nat) : Int))) (wn rfl) (A.ev rfl) one3 (m19.cell rfl) λ _ A=>Z 1 A rfl λ A=>qs A rfl (dle (n := 1) (wn rfl) (A.ev rfl) slc76 hM.form λ _ A=>B2 A rfl (b_addE (p + 1) (by omega) (by omega)) λ A=>Z 1 A rfl λ A=>F1 A rfl fo132_1 λ A=>qs A rfl (dst_ (wn rfl) (A.ev rfl) (A.ev rfl) one3 rfl m19 (nb_ rfl) λ w138 hU139 (m140 : Blk w138 g #[sv, J ((p + 1 : Nat) : Int)] 132)=>?_)))
 have b141 := hU139.below b16 hBg
 have x142 := x20.updIn hU139 (in1 g)
 intro _ A
 refine qt_<|sw_<|Z 1 A rfl λ A=>qt_<|we_<|ret1 rfl A (v := (.bool true)) rfl ?_
 exact ⟨rfl, x142, m140⟩
theorem take_num (Bd g p : Nat) (sv : Value) (L : List Tk) (mv : Value) (m : List UInt8) (w : World) (hB : Bd ≤ w.heap.size) (hBg : Bd ≤ g) (hb : Blk w g #[sv, J ((p : Nat) : Int)] 132) (hSl : Sl tokE 4 Bd w sv L) (hp : p ≤ L.length) (hL : L.length ≤ 1000000) (yt : Tk) (hy : L[p]? = some yt) (hkd : yt.kind = 2) (hM : Sl strE 1 w.heap.size w mv [m]) (hMg : mv.ownBlock ≠ some g) : Calls Tryz.prog 145 #[.pointer (some ⟨g, 0, none⟩), mv] w λ e w' => e = .returned (.bool false) ∧ Grow w w' := by
 have x0 : Mix [] w w := Mix.refl _ _
 have hyl := get_lt hy
 have b0 : Below Bd w w := Below.refl _ _
 refine enter (n := 45) Tryz.func145 rfl rfl (nb_ rfl) λ _ A=>sw_<|Z 1 A rfl λ A=>qt_<|ws_<|sw_<|Z 1 A rfl λ A=>qs A rfl (dle (n := 1) (wn rfl) (A.ev rfl) slc76 hM.form λ _ A=>Z 1 A rfl λ A=>qt_ ?_)
 refine wp_block<|loop_by (λ m12 a13 w14 => ∃ j11 : Nat, m12 = 1 - j11 ∧ (j11 = 0) ∧ St 45 [(0, (.pointer (some ⟨g, 0, none⟩))), (1, mv), (9, mv), (10, (J 1)), (11, (J ((j11 : Nat) : Int)))] a13 ∧ Below Bd w w14 ∧ Blk w14 g #[sv, J ((p : Nat) : Int)] 132 ∧ Mix [] w w14) (1 - 0) ⟨0, rfl, (by omega), A.cut _ (fc (A.g 0 rfl) (fc (A.g 1 rfl) (fc (A.g 9 rfl) (fc (A.g 10 rfl) (fc ((A.g 11 rfl).trans (congrArg (Value.int .i64) (by omega))) fn_))))), b0, hb, x0⟩ ?_
 rintro m12 a13 w14 ⟨j11, hm17, hc18, A, b16, m19, x20⟩
 refine sw_<|B2 A rfl (b_lt _ _ ((j11 : Nat) : Int) 1 true _ (decide_eq_true (by omega))) λ A=>qt_<|ws_<|ct_ A rfl<|wk_<|tn_<|ws_<|wp_block<|sw_<|Z 1 A rfl λ A=>?_
 have hmj25 : ([m] : List (List UInt8))[j11]? = some m := by rw [show j11 = 0 by omega]; rfl
 obtain ⟨b26, o27, lt28, hr29, hix30⟩ := ((hM.below x20.grown).mono x20.size).at hmj25
 refine qs A rfl (dia (j := j11) (wn rfl) (A.ev rfl) (A.ev rfl) slc76 hix30 (get_lt hmj25) λ _ A=>qs A rfl (dld (v := (.string (S m))) (wn rfl) (A.ev rfl) one9 (hr29 0 _ rfl) λ _ A=>Z 2 A rfl λ A=>qt_<|sw_<|Z 2 A rfl λ A=>C A rfl ent142 (ahead_some Bd g p sv L j11 w14 (nt_ hB b16.size) hBg m19 (hSl.below b16) (by omega) (by omega) yt (by rw [show j11 = 0 by omega]; simpa using hy) (by omega)) ?_))
 rintro e46 w43 ⟨he45, hG44⟩
 have m47 := m19.grow hG44
 have hr48 := range_below hr29 hG44 lt28
 have lt49 := Nat.lt_of_lt_of_le lt28 hG44.size
 have b50 := blg b16 hG44 (nt_ hB b16.size)
 have x51 := x20.grow hG44
 refine ⟨(.tuple #[(.agg (tokC yt)), (.bool true)]), he45, λ _ A=>Z 3 A rfl λ A=>qs A rfl (dal (wn rfl) zero28 λ g60 w61 eg62 hG63 (m64 : Blk w61 g60 #[J 0, .string (S []), J 0, J 0] 28)=>?_)⟩
 have ge65 : Bd ≤ g60 := eg62 ▸ (nt_ hB b50.size)
 have n66 := nn_ eg62 m47
 have gx67 : w.heap.size ≤ g60 := eg62 ▸ x51.size
 have m68 := m47.grow hG63
 have hr69 := range_below hr48 hG63 lt49
 have lt70 := Nat.lt_of_lt_of_le lt49 hG63.size
 have b71 := blg b50 hG63 (nt_ hB b50.size)
 have x72 := x51.grow hG63
 intro _ A
 refine qs A rfl (dsr (wn rfl) (A.ev rfl) (A.ev rfl) row28 m64 rfl rfl λ w75 hU76 (m77 : Blk w75 g60 (tokC yt) 28)=>?_)
 have m78 := m68.upd hU76 n66
 have b79 := hU76.below b71 ge65
 have x80 := x72.updOut hU76 gx67
 intro _ A
 refine Z 1 A rfl λ A=>qt_<|sw_<|Z 3 A rfl λ A=>F1 A rfl fo28_0 λ A=>qs A rfl (dld (v := (J yt.kind)) (wy rfl rfl (A.g 24 rfl)) (A.ev rfl) one3 (m77.cell rfl) λ _ A=>B2 A rfl (b_eq _ _ yt.kind 2 true _ (beq_iff_eq.2 hkd)) λ A=>Z 7 A rfl λ A=>qt_<|ct_ A rfl<|ws_ ?_)
 refine wr_<|Z 1 A rfl λ A=>qt_<|we_<|i_ret<|tr_<|tr_<|i_ret<|tr_<|ret1 rfl A (v := (.bool false)) rfl ?_
 exact ⟨rfl, x80.grown⟩
theorem take_other (Bd g p : Nat) (sv : Value) (L : List Tk) (mv : Value) (m : List UInt8) (w : World) (hB : Bd ≤ w.heap.size) (hBg : Bd ≤ g) (hb : Blk w g #[sv, J ((p : Nat) : Int)] 132) (hSl : Sl tokE 4 Bd w sv L) (hp : p ≤ L.length) (hL : L.length ≤ 1000000) (yt : Tk) (hy : L[p]? = some yt) (hkd : yt.kind ≠ 2) (ht : yt.text ≠ m) (hM : Sl strE 1 w.heap.size w mv [m]) (hMg : mv.ownBlock ≠ some g) : Calls Tryz.prog 145 #[.pointer (some ⟨g, 0, none⟩), mv] w λ e w' => e = .returned (.bool false) ∧ Grow w w' := by
 have x0 : Mix [] w w := Mix.refl _ _
 have hyl := get_lt hy
 have b0 : Below Bd w w := Below.refl _ _
 refine enter (n := 45) Tryz.func145 rfl rfl (nb_ rfl) λ _ A=>sw_<|Z 1 A rfl λ A=>qt_<|ws_<|sw_<|Z 1 A rfl λ A=>qs A rfl (dle (n := 1) (wn rfl) (A.ev rfl) slc76 hM.form λ _ A=>Z 1 A rfl λ A=>qt_ ?_)
 refine wp_block<|loop_by (λ m12 a13 w14 => ∃ j11 : Nat, m12 = 1 - j11 ∧ (j11 = 0) ∧ St 45 [(0, (.pointer (some ⟨g, 0, none⟩))), (1, mv), (9, mv), (10, (J 1)), (11, (J ((j11 : Nat) : Int)))] a13 ∧ Below Bd w w14 ∧ Blk w14 g #[sv, J ((p : Nat) : Int)] 132 ∧ Mix [] w w14) (1 - 0) ⟨0, rfl, (by omega), A.cut _ (fc (A.g 0 rfl) (fc (A.g 1 rfl) (fc (A.g 9 rfl) (fc (A.g 10 rfl) (fc ((A.g 11 rfl).trans (congrArg (Value.int .i64) (by omega))) fn_))))), b0, hb, x0⟩ ?_
 rintro m12 a13 w14 ⟨j11, hm17, hc18, A, b16, m19, x20⟩
 refine sw_<|B2 A rfl (b_lt _ _ ((j11 : Nat) : Int) 1 true _ (decide_eq_true (by omega))) λ A=>qt_<|ws_<|ct_ A rfl<|wk_<|tn_<|ws_<|wp_block<|sw_<|Z 1 A rfl λ A=>?_
 have hmj25 : ([m] : List (List UInt8))[j11]? = some m := by rw [show j11 = 0 by omega]; rfl
 obtain ⟨b26, o27, lt28, hr29, hix30⟩ := ((hM.below x20.grown).mono x20.size).at hmj25
 refine qs A rfl (dia (j := j11) (wn rfl) (A.ev rfl) (A.ev rfl) slc76 hix30 (get_lt hmj25) λ _ A=>qs A rfl (dld (v := (.string (S m))) (wn rfl) (A.ev rfl) one9 (hr29 0 _ rfl) λ _ A=>Z 2 A rfl λ A=>qt_<|sw_<|Z 2 A rfl λ A=>C A rfl ent142 (ahead_some Bd g p sv L j11 w14 (nt_ hB b16.size) hBg m19 (hSl.below b16) (by omega) (by omega) yt (by rw [show j11 = 0 by omega]; simpa using hy) (by omega)) ?_))
 rintro e46 w43 ⟨he45, hG44⟩
 have m47 := m19.grow hG44
 have hr48 := range_below hr29 hG44 lt28
 have lt49 := Nat.lt_of_lt_of_le lt28 hG44.size
 have b50 := blg b16 hG44 (nt_ hB b16.size)
 have x51 := x20.grow hG44
 refine ⟨(.tuple #[(.agg (tokC yt)), (.bool true)]), he45, λ _ A=>Z 3 A rfl λ A=>qs A rfl (dal (wn rfl) zero28 λ g60 w61 eg62 hG63 (m64 : Blk w61 g60 #[J 0, .string (S []), J 0, J 0] 28)=>?_)⟩
 have ge65 : Bd ≤ g60 := eg62 ▸ (nt_ hB b50.size)
 have n66 := nn_ eg62 m47
 have gx67 : w.heap.size ≤ g60 := eg62 ▸ x51.size
 have m68 := m47.grow hG63
 have hr69 := range_below hr48 hG63 lt49
 have lt70 := Nat.lt_of_lt_of_le lt49 hG63.size
 have b71 := blg b50 hG63 (nt_ hB b50.size)
 have x72 := x51.grow hG63
 intro _ A
 refine qs A rfl (dsr (wn rfl) (A.ev rfl) (A.ev rfl) row28 m64 rfl rfl λ w75 hU76 (m77 : Blk w75 g60 (tokC yt) 28)=>?_)
 have m78 := m68.upd hU76 n66
 have b79 := hU76.below b71 ge65
 have x80 := x72.updOut hU76 gx67
 intro _ A
 refine Z 1 A rfl λ A=>qt_<|sw_<|Z 3 A rfl λ A=>F1 A rfl fo28_0 λ A=>qs A rfl (dld (v := (J yt.kind)) (wy rfl rfl (A.g 24 rfl)) (A.ev rfl) one3 (m77.cell rfl) λ _ A=>B2 A rfl (b_eq _ _ yt.kind 2 false _ (beq_eq_false_iff_ne.2 hkd)) λ A=>Z 2 A rfl λ A=>F1 A rfl fo28_1 λ A=>qs A rfl (dld (v := (.string (S yt.text))) (wy rfl rfl (A.g 29 rfl)) (A.ev rfl) one9 (m77.cell rfl) λ _ A=>Z 1 A rfl λ A=>B2 A rfl (b_sne (l := yt.text) (m := m) (r := true) (notof (eqL_no ht))) λ A=>?_))
 refine Z 1 A rfl λ A=>qt_<|ct_ A rfl<|sw_<|Z 1 A rfl λ A=>qt_<|we_<|i_ret<|tr_<|tr_<|i_ret ?_
 refine tr_<|ret1 rfl A (v := (.bool false)) rfl ?_
 exact ⟨rfl, x80.grown⟩
theorem take_none (Bd g p : Nat) (sv : Value) (L : List Tk) (mv : Value) (m : List UInt8) (w : World) (hB : Bd ≤ w.heap.size) (hBg : Bd ≤ g) (hb : Blk w g #[sv, J ((p : Nat) : Int)] 132) (hSl : Sl tokE 4 Bd w sv L) (hp : p ≤ L.length) (hL : L.length ≤ 1000000) (hn : L.length ≤ p) (hM : Sl strE 1 w.heap.size w mv [m]) (hMg : mv.ownBlock ≠ some g) : Calls Tryz.prog 145 #[.pointer (some ⟨g, 0, none⟩), mv] w λ e w' => e = .returned (.bool false) ∧ Grow w w' := by
 have x0 : Mix [] w w := Mix.refl _ _
 have b0 : Below Bd w w := Below.refl _ _
 refine enter (n := 45) Tryz.func145 rfl rfl (nb_ rfl) λ _ A=>sw_<|Z 1 A rfl λ A=>qt_<|ws_<|sw_<|Z 1 A rfl λ A=>qs A rfl (dle (n := 1) (wn rfl) (A.ev rfl) slc76 hM.form λ _ A=>Z 1 A rfl λ A=>qt_ ?_)
 refine wp_block<|loop_by (λ m12 a13 w14 => ∃ j11 : Nat, m12 = 1 - j11 ∧ (j11 = 0) ∧ St 45 [(0, (.pointer (some ⟨g, 0, none⟩))), (1, mv), (9, mv), (10, (J 1)), (11, (J ((j11 : Nat) : Int)))] a13 ∧ Below Bd w w14 ∧ Blk w14 g #[sv, J ((p : Nat) : Int)] 132 ∧ Mix [] w w14) (1 - 0) ⟨0, rfl, (by omega), A.cut _ (fc (A.g 0 rfl) (fc (A.g 1 rfl) (fc (A.g 9 rfl) (fc (A.g 10 rfl) (fc ((A.g 11 rfl).trans (congrArg (Value.int .i64) (by omega))) fn_))))), b0, hb, x0⟩ ?_
 rintro m12 a13 w14 ⟨j11, hm17, hc18, A, b16, m19, x20⟩
 refine sw_<|B2 A rfl (b_lt _ _ ((j11 : Nat) : Int) 1 true _ (decide_eq_true (by omega))) λ A=>qt_<|ws_<|ct_ A rfl<|wk_<|tn_<|ws_<|wp_block<|sw_<|Z 1 A rfl λ A=>?_
 have hmj25 : ([m] : List (List UInt8))[j11]? = some m := by rw [show j11 = 0 by omega]; rfl
 obtain ⟨b26, o27, lt28, hr29, hix30⟩ := ((hM.below x20.grown).mono x20.size).at hmj25
 refine qs A rfl (dia (j := j11) (wn rfl) (A.ev rfl) (A.ev rfl) slc76 hix30 (get_lt hmj25) λ _ A=>qs A rfl (dld (v := (.string (S m))) (wn rfl) (A.ev rfl) one9 (hr29 0 _ rfl) λ _ A=>Z 2 A rfl λ A=>qt_<|sw_<|Z 2 A rfl λ A=>C A rfl ent142 (ahead_none Bd g p sv L j11 w14 (nt_ hB b16.size) hBg m19 (hSl.below b16) (by omega) (by omega) (by rw [show j11 = 0 by omega]; simpa using hn) (by omega)) ?_))
 rintro e46 w43 ⟨he45, hG44⟩
 have m47 := m19.grow hG44
 have hr48 := range_below hr29 hG44 lt28
 have lt49 := Nat.lt_of_lt_of_le lt28 hG44.size
 have b50 := blg b16 hG44 (nt_ hB b16.size)
 have x51 := x20.grow hG44
 refine ⟨(.tuple #[(.agg #[J 0, .string (S []), J 0, J 0]), (.bool false)]), he45, λ _ A=>Z 3 A rfl λ A=>qs A rfl (dal (wn rfl) zero28 λ g60 w61 eg62 hG63 (m64 : Blk w61 g60 #[J 0, .string (S []), J 0, J 0] 28)=>?_)⟩
 have ge65 : Bd ≤ g60 := eg62 ▸ (nt_ hB b50.size)
 have n66 := nn_ eg62 m47
 have gx67 : w.heap.size ≤ g60 := eg62 ▸ x51.size
 have m68 := m47.grow hG63
 have hr69 := range_below hr48 hG63 lt49
 have lt70 := Nat.lt_of_lt_of_le lt49 hG63.size
 have b71 := blg b50 hG63 (nt_ hB b50.size)
 have x72 := x51.grow hG63
 intro _ A
 refine qs A rfl (dsr (wn rfl) (A.ev rfl) (A.ev rfl) row28 m64 rfl rfl λ w75 hU76 (m77 : Blk w75 g60 #[J 0, .string (S []), J 0, J 0] 28)=>?_)
 have m78 := m68.upd hU76 n66
 have b79 := hU76.below b71 ge65
 have x80 := x72.updOut hU76 gx67
 intro _ A
 refine Z 1 A rfl λ A=>qt_<|sw_<|Z 13 A rfl λ A=>qt_<|ct_ A rfl<|sw_<|Z 1 A rfl λ A=>qt_ ?_
 refine we_<|i_ret<|tr_<|tr_<|i_ret<|tr_<|ret1 rfl A (v := (.bool false)) rfl ?_
 exact ⟨rfl, x80.grown⟩
theorem at_some (Bd g p : Nat) (sv : Value) (L : List Tk)  (w : World) (hB : Bd ≤ w.heap.size) (hBg : Bd ≤ g) (hb : Blk w g #[sv, J ((p : Nat) : Int)] 132) (hSl : Sl tokE 4 Bd w sv L) (hp : p ≤ L.length) (hL : L.length ≤ 1000000) (yt : Tk) (hy : L[p]? = some yt) : Calls Tryz.prog 59 #[.pointer (some ⟨g, 0, none⟩)] w λ e w' => e = .returned (J yt.at_) ∧ Grow w w' := by
 have x0 : Mix [] w w := Mix.refl _ _
 have hyl := get_lt hy
 have b0 : Below Bd w w := Below.refl _ _
 refine enter (n := 38) Tryz.func59 rfl rfl (nb_ rfl) λ _ A=>sw_<|Z 1 A rfl λ A=>qt_<|ws_<|sw_<|Z 1 A rfl λ A=>C A rfl ent104 (peek_some Bd g p sv L w (nt_ hB b0.size) hBg hb (hSl.below b0) (by omega) (by omega) yt hy) ?_
 rintro e10 w7 ⟨he9, hG8⟩
 have m11 := hb.grow hG8
 have b12 := blg b0 hG8 (nt_ hB b0.size)
 have x13 := x0.grow hG8
 refine ⟨(.tuple #[(.agg (tokC yt)), (.bool true)]), he9, λ _ A=>Z 3 A rfl λ A=>qs A rfl (dal (wn rfl) zero28 λ g22 w23 eg24 hG25 (m26 : Blk w23 g22 #[J 0, .string (S []), J 0, J 0] 28)=>?_)⟩
 have ge27 : Bd ≤ g22 := eg24 ▸ (nt_ hB b12.size)
 have n28 := nn_ eg24 m11
 have gx29 : w.heap.size ≤ g22 := eg24 ▸ x13.size
 have m30 := m11.grow hG25
 have b31 := blg b12 hG25 (nt_ hB b12.size)
 have x32 := x13.grow hG25
 intro _ A
 refine qs A rfl (dsr (wn rfl) (A.ev rfl) (A.ev rfl) row28 m26 rfl rfl λ w35 hU36 (m37 : Blk w35 g22 (tokC yt) 28)=>?_)
 have m38 := m30.upd hU36 n28
 have b39 := hU36.below b31 ge27
 have x40 := x32.updOut hU36 gx29
 intro _ A
 refine Z 1 A rfl λ A=>qt_<|sw_<|Z 1 A rfl λ A=>qt_<|ct_ A rfl<|sw_<|F1 A rfl fo28_3 λ A=>qs A rfl (dld (v := (J yt.at_)) (wn rfl) (A.ev rfl) one3 (m37.cell rfl) λ _ A=>Z 1 A rfl λ A=>?_)
 refine qt_<|we_<|tr_<|ret1 rfl A (v := (J yt.at_)) rfl ?_
 exact ⟨rfl, x40.grown⟩
theorem at_nil (Bd g p : Nat) (sv : Value) (L : List Tk)  (w : World) (hB : Bd ≤ w.heap.size) (hBg : Bd ≤ g) (hb : Blk w g #[sv, J ((p : Nat) : Int)] 132) (hSl : Sl tokE 4 Bd w sv L) (hp : p ≤ L.length) (hL : L.length ≤ 1000000) (hn : L.length ≤ p) (hl0 : L.length = 0) : Calls Tryz.prog 59 #[.pointer (some ⟨g, 0, none⟩)] w λ e w' => e = .returned (J 0) ∧ Grow w w' := by
 have x0 : Mix [] w w := Mix.refl _ _
 have b0 : Below Bd w w := Below.refl _ _
 refine enter (n := 38) Tryz.func59 rfl rfl (nb_ rfl) λ _ A=>sw_<|Z 1 A rfl λ A=>qt_<|ws_<|sw_<|Z 1 A rfl λ A=>C A rfl ent104 (peek_none Bd g p sv L w (nt_ hB b0.size) hBg hb (hSl.below b0) (by omega) (by omega) hn) ?_
 rintro e10 w7 ⟨he9, hG8⟩
 have m11 := hb.grow hG8
 have b12 := blg b0 hG8 (nt_ hB b0.size)
 have x13 := x0.grow hG8
 refine ⟨(.tuple #[(.agg #[J 0, .string (S []), J 0, J 0]), (.bool false)]), he9, λ _ A=>Z 3 A rfl λ A=>qs A rfl (dal (wn rfl) zero28 λ g22 w23 eg24 hG25 (m26 : Blk w23 g22 #[J 0, .string (S []), J 0, J 0] 28)=>?_)⟩
 have ge27 : Bd ≤ g22 := eg24 ▸ (nt_ hB b12.size)
 have n28 := nn_ eg24 m11
 have gx29 : w.heap.size ≤ g22 := eg24 ▸ x13.size
 have m30 := m11.grow hG25
 have b31 := blg b12 hG25 (nt_ hB b12.size)
 have x32 := x13.grow hG25
 intro _ A
 refine qs A rfl (dsr (wn rfl) (A.ev rfl) (A.ev rfl) row28 m26 rfl rfl λ w35 hU36 (m37 : Blk w35 g22 #[J 0, .string (S []), J 0, J 0] 28)=>?_)
 have m38 := m30.upd hU36 n28
 have b39 := hU36.below b31 ge27
 have x40 := x32.updOut hU36 gx29
 intro _ A
 refine Z 1 A rfl λ A=>qt_<|sw_<|Z 1 A rfl λ A=>qt_<|cf_ A rfl<|wk_<|tn_<|ws_<|sw_ ?_
 refine Z 2 A rfl λ A=>F1 A rfl fo132_0 λ A=>qs A rfl (dld (v := sv) (wn rfl) (A.ev rfl) one23 (m38.cell rfl) λ _ A=>qs A rfl (dle (n := L.length) (wn rfl) (A.ev rfl) slc23 hSl.form λ _ A=>B2 A rfl (b_eq _ _ ((L.length : Nat) : Int) 0 true _ (beq_iff_eq.2 (by omega))) λ A=>qt_<|ct_ A rfl<|sw_<|Z 1 A rfl λ A=>qt_<|we_ ?_))
 refine tr_<|ret1 rfl A (v := (J 0)) rfl ?_
 exact ⟨rfl, x40.grown⟩
theorem at_end (Bd g p : Nat) (sv : Value) (L : List Tk)  (w : World) (hB : Bd ≤ w.heap.size) (hBg : Bd ≤ g) (hb : Blk w g #[sv, J ((p : Nat) : Int)] 132) (hSl : Sl tokE 4 Bd w sv L) (hp : p ≤ L.length) (hL : L.length ≤ 1000000) (hn : L.length ≤ p) (hl0 : 0 < L.length) (zt : Tk) (hz : L[L.length - 1]? = some zt) : Calls Tryz.prog 59 #[.pointer (some ⟨g, 0, none⟩)] w λ e w' => e = .returned (J (IntKind.wrap .i64 (zt.at_ + ((zt.text.length : Nat) : Int)))) ∧ Grow w w' := by
 have x0 : Mix [] w w := Mix.refl _ _
 have b0 : Below Bd w w := Below.refl _ _
 refine enter (n := 38) Tryz.func59 rfl rfl (nb_ rfl) λ _ A=>sw_<|Z 1 A rfl λ A=>qt_<|ws_<|sw_<|Z 1 A rfl λ A=>C A rfl ent104 (peek_none Bd g p sv L w (nt_ hB b0.size) hBg hb (hSl.below b0) (by omega) (by omega) hn) ?_
 rintro e10 w7 ⟨he9, hG8⟩
 have m11 := hb.grow hG8
 have b12 := blg b0 hG8 (nt_ hB b0.size)
 have x13 := x0.grow hG8
 refine ⟨(.tuple #[(.agg #[J 0, .string (S []), J 0, J 0]), (.bool false)]), he9, λ _ A=>Z 3 A rfl λ A=>qs A rfl (dal (wn rfl) zero28 λ g22 w23 eg24 hG25 (m26 : Blk w23 g22 #[J 0, .string (S []), J 0, J 0] 28)=>?_)⟩
 have ge27 : Bd ≤ g22 := eg24 ▸ (nt_ hB b12.size)
 have n28 := nn_ eg24 m11
 have gx29 : w.heap.size ≤ g22 := eg24 ▸ x13.size
 have m30 := m11.grow hG25
 have b31 := blg b12 hG25 (nt_ hB b12.size)
 have x32 := x13.grow hG25
 intro _ A
 refine qs A rfl (dsr (wn rfl) (A.ev rfl) (A.ev rfl) row28 m26 rfl rfl λ w35 hU36 (m37 : Blk w35 g22 #[J 0, .string (S []), J 0, J 0] 28)=>?_)
 have m38 := m30.upd hU36 n28
 have b39 := hU36.below b31 ge27
 have x40 := x32.updOut hU36 gx29
 intro _ A
 refine Z 1 A rfl λ A=>qt_<|sw_<|Z 1 A rfl λ A=>qt_<|cf_ A rfl<|wk_<|tn_<|ws_<|sw_ ?_
 refine Z 2 A rfl λ A=>F1 A rfl fo132_0 λ A=>qs A rfl (dld (v := sv) (wn rfl) (A.ev rfl) one23 (m38.cell rfl) λ _ A=>qs A rfl (dle (n := L.length) (wn rfl) (A.ev rfl) slc23 hSl.form λ _ A=>B2 A rfl (b_eq _ _ ((L.length : Nat) : Int) 0 false _ (beq_eq_false_iff_ne.2 (by omega))) @λ a57 A=>qt_<|cf_ A rfl<|wk_<|tn_<|ws_ ?_))
 obtain ⟨b59, o60, lt61, hr62, hix63⟩ := (hSl.below b39).at hz
 have A : St 38 [(0, (.pointer (some ⟨g, 0, none⟩))), (2, (J 0))] a57 := A.sub rfl
 let M66 : Nat → Option (Array Value) := λ _ => none
 have hM66 : M66 = λ _ => none := rfl
 clear_value M66
 have hM66A : ∀ k, M66 k = none := λ k => congrFun hM66 k
 have hM66B : ∀ k, k < Bd → M66 k = none := λ k _ => hM66A k
 refine drawnL (S := SM M66) rfl (tabL [cv (.pointer (some ⟨g, 0, none⟩)), cv (.pointer (some ⟨g, 0, none⟩)), cv (.pointer (some ⟨g, 0, none⟩)), cv sv, cv (.pointer (some ⟨g, 0, none⟩)), cv (.pointer (some ⟨g, 0, none⟩)), cv (.pointer (some ⟨g, 0, none⟩)), cv sv, cv (J ((L.length : Nat) : Int)), cv (J ((L.length - 1 : Nat) : Int)), cv (.pointer (some ⟨b59, o60, none⟩)), cv (.agg (tokC zt)), cBlk M66 hM66A w35.heap.size #[J 0, .string (S []), J 0, J 0] 28]) none (λ _ => none) (λ _ _ => True) [12, 11, 0, 1, 2, 3, 4, 5, 6, 7, 8, 9, 10] [] mixedY SM.refl SM.trans A (by kernel_rfl) (by kernel_rfl) (λ i v u w h => by cases h) ?_ ?_
 ·skip
  refine ed_ (.inl ⟨nofun, rfl, λ x y hS hT hk => dmv (wn rfl) (hT.ev rfl) ⟨SM.refl _, rfl⟩⟩)<|ed_ (.inl ⟨nofun, rfl, λ x y hS hT hk => dnc (wn rfl) (hk 0 rfl) ⟨SM.refl _, rfl⟩⟩)<|ed_ (.inl ⟨nofun, rfl, λ x y hS hT hk => dfa (wn rfl) (hk 1 rfl) fo132_0 ⟨SM.refl _, rfl⟩⟩)<|ed_ (.inl ⟨nofun, rfl, λ x y hS hT hk => dld (v := sv) (wn rfl) (hk 2 rfl) one23 ((Blk.sm (w := w35.drew) m38 hS (hM66A _)).cell rfl) ⟨SM.refl _, rfl⟩⟩)<|ed_ (.inl ⟨nofun, rfl, λ x y hS hT hk => dmv (wn rfl) (hT.ev rfl) ⟨SM.refl _, rfl⟩⟩)<|ed_ (.inl ⟨nofun, rfl, λ x y hS hT hk => dnc (wn rfl) (hk 4 rfl) ⟨SM.refl _, rfl⟩⟩)<|ed_ (.inl ⟨nofun, rfl, λ x y hS hT hk => dfa (wn rfl) (hk 5 rfl) fo132_0 ⟨SM.refl _, rfl⟩⟩)<|ed_ (.inl ⟨nofun, rfl, λ x y hS hT hk => dld (v := sv) (wn rfl) (hk 6 rfl) one23 ((Blk.sm (w := w35.drew) m38 hS (hM66A _)).cell rfl) ⟨SM.refl _, rfl⟩⟩)<|ed_ (.inl ⟨nofun, rfl, λ x y hS hT hk => dle (n := L.length) (wn rfl) (hk 7 rfl) slc23 hSl.form ⟨SM.refl _, rfl⟩⟩)<|ed_ (.inl ⟨nofun, rfl, λ x y hS hT hk => dbn (u := (J ((L.length : Nat) : Int))) (v := (J 1)) (wn rfl) (hk 8 rfl) (hT.ev rfl) (b_subE (L.length - 1) (by omega) (by omega)) ⟨SM.refl _, rfl⟩⟩)<|ed_ (.inl ⟨nofun, rfl, λ x y hS hT hk => dia (j := L.length - 1) (wn rfl) (hk 3 rfl) (hk 9 rfl) slc23 hix63 (get_lt hz) ⟨SM.refl _, rfl⟩⟩)<|ed_ (.inl ⟨nofun, rfl, λ x y hS hT hk => dlm (cs := (tokC zt)) (wn rfl) (hk 10 rfl) row28 (range_sm (w := w35.drew) hr62 hS (Nat.lt_of_lt_of_le lt61 (nt_ hB b39.size)) (hM66B _ lt61)) ⟨SM.refl _, rfl⟩⟩)<|ed_ (.inl ⟨nofun, rfl, λ x y hS hT hk => dal (wn rfl) zero28 (λ g w' eg hG hb => ⟨SM.grow hG, g, rfl, eg ▸ hS.size, hb⟩)⟩) ?_
  exact eachD_one
 rintro a67 w68 A ⟨hS71, hC72⟩
 obtain ⟨g64, hg73, hge74, m75⟩ := hC72 12 (nb_ rfl)
 have A : St 38 [(2, (J 0)), (5, (.pointer (some ⟨g64, 0, none⟩))), (31, (.agg (tokC zt)))] a67 := A.cut _ (fc (A.g 2 rfl) (fc hg73 (fc (hC72 11 (nb_ rfl)) fn_)))
 have hG77 : Grow w35 w68 := Grow.trans ((Grow.refl _).drew) (SM.grown (by rw [hM66] at hS71; exact hS71))
 have m78 := m38.grow hG77
 have m79 := m37.grow hG77
 have hr80 := range_below hr62 hG77 (Nat.lt_of_lt_of_le lt61 (nt_ hB b39.size))
 have b81 := blg b39 hG77 (nt_ hB b39.size)
 have x82 := x40.grow hG77
 have ge83 : Bd ≤ g64 := nt_ (nt_ hB b39.size) hge74
 have gx84 : w.heap.size ≤ g64 := nt_ x40.size hge74
 have n85 : g ≠ g64 := Nat.ne_of_lt (Nat.lt_of_lt_of_le m38.lt hge74)
 have n86 : g22 ≠ g64 := Nat.ne_of_lt (Nat.lt_of_lt_of_le m37.lt hge74)
 refine dsr (wn rfl) (A.ev rfl) (A.ev rfl) row28 m75 rfl rfl λ w87 hU88 (m89 : Blk w87 g64 (tokC zt) 28)=>?_
 have m90 := m78.upd hU88 n85
 have m91 := m79.upd hU88 n86
 have hr92 := range_upd hr80 hU88 (Nat.ne_of_lt (Nat.lt_of_lt_of_le lt61 ge83))
 have b93 := hU88.below b81 ge83
 have x94 := x82.updOut hU88 gx84
 refine tn_<|sw_<|F1 A rfl fo28_3 λ A=>qs A rfl (dld (v := (J zt.at_)) (wn rfl) (A.ev rfl) one3 (m89.cell rfl) λ _ A=>F1 A rfl fo28_1 λ A=>qs A rfl (dld (v := (.string (S zt.text))) (wn rfl) (A.ev rfl) one9 (m89.cell rfl) λ _ A=>qs A rfl (d_slen (wn rfl) (A.ev rfl) str9 λ _ A=>B2 A rfl (b_addW zt.at_ ((zt.text.length : Nat) : Int)) λ A=>Z 1 A rfl λ A=>qt_<|we_<|ret1 rfl A (v := (J (IntKind.wrap .i64 (zt.at_ + ((zt.text.length : Nat) : Int))))) rfl ?_)))
 exact ⟨rfl, x94.grown⟩
theorem elm76 : elemB Tryz.prog 76 9 1 16 = true := by kernel_rfl
theorem ent16 : Ent Tryz.prog 16 = FF := by kernel_rfl
theorem slz76 : sliceZ Tryz.prog 76 9 = some (1, some (.string ⟨#[]⟩)) := by kernel_rfl
theorem rname_at (n : Nat) (yt : List UInt8) (w : World) (hy : regsX[n]? = some yt) : Calls Tryz.prog 16 #[J 1, J ((n : Nat) : Int)] w λ e w' => e = .returned (.string (S yt)) ∧ Grow w w' := by
 have hyl : n < 8 := get_lt hy
 have b0 := Grow.refl w
 refine enter (n := 37) Tryz.func16 rfl rfl (nb_ rfl) λ _ A=>sw_<|Z 1 A rfl λ A=>qt_<|ws_<|sw_<|Z 1 A rfl λ A=>B2 A rfl (b_lt _ _ ((n : Nat) : Int) 0 false _ (decide_eq_false (by omega))) λ A=>Z 2 A rfl λ A=>B2 A rfl (b_gt _ _ ((n : Nat) : Int) 7 false _ (decide_eq_false (by omega))) λ A=>Z 1 A rfl λ A=>?_
 refine qt_<|cf_ A rfl<|wk_<|tn_<|sw_<|qs A rfl (d_sliceL (cells := #[.string (S [82, 65, 88]), .string (S [82, 66, 88]), .string (S [82, 67, 88]), .string (S [82, 68, 88]), .string (S [82, 83, 73]), .string (S [82, 68, 73]), .string (S [82, 56]), .string (S [82, 57])]) (wn rfl) (bp_of (bq_cons (A.ev rfl) (bq_cons (A.ev rfl) (bq_cons (A.ev rfl) (bq_cons (A.ev rfl) (bq_cons (A.ev rfl) (bq_cons (A.ev rfl) (bq_cons (A.ev rfl) (bq_cons (A.ev rfl) bq_nil))))))))) slz76 (by decide) (by decide) (by kernel_rfl) λ g17 w18 eg19 hG20 (m21 : Blk w18 g17 #[.string (S [82, 65, 88]), .string (S [82, 66, 88]), .string (S [82, 67, 88]), .string (S [82, 68, 88]), .string (S [82, 83, 73]), .string (S [82, 68, 73]), .string (S [82, 56]), .string (S [82, 57])] 9)=>?_)
 have ge22 : w.heap.size ≤ g17 := eg19 ▸ b0.size
 have b23 := bls b0 hG20
 intro _ A
 refine Z 1 A rfl λ A=>qt_<|sw_<|Z 1 A rfl λ A=>qt_<|ws_<|sw_<|Z 1 A rfl λ A=>qt_ ?_
 refine wp_block<|sw_<|B2 A rfl (b_eq _ _ 1 1 true _ rfl) λ A=>Z 1 A rfl λ A=>qt_<|ct_ A rfl<|sw_<|Z 2 A rfl λ A=>?_
 obtain ⟨b40, o41, lt42, hr43, hix44⟩ := (sl_lit (l := regsX) m21 rfl rfl).at hy
 refine qs A rfl (dia (j := n) (wn rfl) (A.ev rfl) (A.ev rfl) slc76 hix44 (get_lt hy) λ _ A=>qs A rfl (dld (v := (.string (S yt))) (wn rfl) (A.ev rfl) one9 (hr43 0 _ rfl) λ _ A=>Z 1 A rfl λ A=>qt_<|we_<|i_ret<|tr_<|ret1 rfl A (v := (.string (S yt))) rfl ?_))
 exact ⟨rfl, b23⟩
theorem rname_neg (r : Int) (w : World) (hr : r < 0) : Calls Tryz.prog 16 #[J 1, J r] w λ e w' => e = .returned (.string (S [])) ∧ Grow w w' := by
 have b0 := Grow.refl w
 refine enter (n := 37) Tryz.func16 rfl rfl (nb_ rfl) λ _ A=>sw_<|Z 1 A rfl λ A=>qt_<|ws_<|sw_<|Z 1 A rfl λ A=>B2 A rfl (b_lt _ _ r 0 true _ (decide_eq_true hr)) λ A=>Z 4 A rfl λ A=>qt_ ?_
 refine ct_ A rfl<|sw_<|Z 1 A rfl λ A=>qt_<|we_<|tr_<|ret1 rfl A (v := (.string (S []))) rfl ?_
 exact ⟨rfl, b0⟩
theorem rname_big (r : Int) (w : World) (hr : r > 7) : Calls Tryz.prog 16 #[J 1, J r] w λ e w' => e = .returned (.string (S [])) ∧ Grow w w' := by
 have b0 := Grow.refl w
 refine enter (n := 37) Tryz.func16 rfl rfl (nb_ rfl) λ _ A=>sw_<|Z 1 A rfl λ A=>qt_<|ws_<|sw_<|Z 1 A rfl λ A=>B2 A rfl (b_lt _ _ r 0 false _ (decide_eq_false (by omega))) λ A=>Z 2 A rfl λ A=>B2 A rfl (b_gt _ _ r 7 true _ (decide_eq_true hr)) λ A=>Z 1 A rfl λ A=>?_
 refine qt_<|ct_ A rfl<|sw_<|Z 1 A rfl λ A=>qt_<|we_<|tr_<|ret1 rfl A (v := (.string (S []))) rfl ?_
 exact ⟨rfl, b0⟩
theorem rregn_any (q : List UInt8) (w : World) : Calls Tryz.prog 18 #[J 1, .string (S q)] w λ e w' => e = .returned (J (regF q)) ∧ Grow w w' := by
 have b0 := Grow.refl w
 refine enter (n := 20) Tryz.func18 rfl rfl (nb_ rfl) λ _ A=>sw_<|Z 1 A rfl λ A=>qt_<|ws_<|sw_<|Z 1 A rfl λ A=>qt_<|wp_block<|loop_by (λ m8 a9 w10 => ∃ j7 : Nat, m8 = 8 - j7 ∧ (j7 ≤ 8 ∧ idxL (regsX.drop j7) q j7 = regF q) ∧ St 20 [(0, (J 1)), (1, (.string (S q))), (5, (J ((j7 : Nat) : Int)))] a9 ∧ Below w.heap.size w w10) (8 - 0) ⟨0, rfl, ⟨by omega, rfl⟩, A.cut _ (fc (A.g 0 rfl) (fc (A.g 1 rfl) (fc ((A.g 5 rfl).trans (congrArg (Value.int .i64) (by omega))) fn_))), b0⟩ ?_
 rintro m8 a9 w10 ⟨j7, hm13, hc14, A, b12⟩
 obtain ⟨hj1, hj2⟩ := hc14
 refine ws_<|sw_<|Z 1 A rfl λ A=>?_
 rcases eb_ (decide (((j7 : Nat) : Int) < 8)) with hb17 | hb17
 ·skip
  have hq18 := dt_ hb17
  refine B2 A rfl (bl hb17) λ A=>qt_<|ct_ A rfl<|wk_<|tn_<|ws_<|wp_block<|sw_<|Z 1 A rfl λ A=>?_
  rcases eb_ (eqL q []) with hb23 | hb23
  ·skip
   refine B2 A rfl (b_sne (l := q) (m := []) (r := false) (notof hb23)) λ A=>Z 7 A rfl λ A=>qt_<|cf_ A rfl<|wk_<|i_norm<|tn_<|wr_<|Z 1 A rfl λ A=>B2 A rfl (b_addE (j7 + 1) (by omega) (by omega)) λ A=>Z 1 A rfl λ A=>qt_ ?_
   obtain ⟨y47, hy48⟩ : ∃ y47, regsX[j7]? = some y47 := ⟨_, List.getElem?_eq_getElem (show j7 < regsX.length by show j7 < 8; omega)⟩
   have hgo := (idx_go hy48 ((eqL_no (λ e => regs_ne hy48 (e.trans (eqL_eq hb23)))))).symm.trans hj2
   exact ⟨8 - (j7 + 1), (by rw [hm13]; omega), j7 + 1, rfl, ⟨by omega, hgo⟩, A.sub rfl, b12⟩
  refine B2 A rfl (b_sne (l := q) (m := []) (r := true) (notof hb23)) λ A=>Z 3 A rfl λ A=>?_
  obtain ⟨y58, hy59⟩ : ∃ y58, regsX[j7]? = some y58 := ⟨_, List.getElem?_eq_getElem (show j7 < regsX.length by show j7 < 8; omega)⟩
  refine C A rfl ent16 (rname_at j7 y58 w10 hy59) ?_
  rintro e63 w60 ⟨he62, hG61⟩
  have b64 := bls b12 hG61
  refine ⟨(.string (S y58)), he62, λ _ A=>Z 1 A rfl λ A=>?_⟩
  rcases eb_ (eqL y58 q) with hb69 | hb69
  ·skip
   refine B2 A rfl (b_seq (l := y58) (m := q) (r := true) hb69) λ A=>Z 1 A rfl λ A=>qt_<|ct_ A rfl<|sw_<|Z 2 A rfl λ A=>qt_<|we_<|i_ret<|tr_<|tr_ ?_
   refine i_ret<|tr_<|ret1 rfl A (v := (J ((j7 : Nat) : Int))) rfl ?_
   exact ⟨by rw [← hj2, idx_hit hy59 hb69], b64⟩
  refine B2 A rfl (b_seq (l := y58) (m := q) (r := false) hb69) λ A=>Z 1 A rfl λ A=>qt_<|cf_ A rfl<|wk_<|i_norm<|tn_<|wr_<|Z 1 A rfl λ A=>B2 A rfl (b_addE (j7 + 1) (by omega) (by omega)) λ A=>Z 1 A rfl λ A=>qt_ ?_
  have hgo := (idx_go hy59 (hb69)).symm.trans hj2
  exact ⟨8 - (j7 + 1), (by rw [hm13]; omega), j7 + 1, rfl, ⟨by omega, hgo⟩, A.sub rfl, b64⟩
 have hq90 := df_ hb17
 refine B2 A rfl (bl hb17) λ A=>qt_<|cf_ A rfl<|wp_exit<|t_exit<|t_exit<|i_here<|tn_<|sw_<|Z 1 A rfl λ A=>qt_ ?_
 refine we_<|ret1 rfl A (v := (J (-1))) rfl ?_
 exact ⟨by rw [← hj2, idx_end (show regsX.length ≤ j7 by show 8 ≤ j7; omega)], b12⟩
theorem ent18 : Ent Tryz.prog 18 = FF := by kernel_rfl
theorem fo30_5 : fieldOff Tryz.prog 30 5 = some 5 := by kernel_rfl
theorem fo30_6 : fieldOff Tryz.prog 30 6 = some 6 := by kernel_rfl
theorem fo30_7 : fieldOff Tryz.prog 30 7 = some 7 := by kernel_rfl
theorem fo30_0 : fieldOff Tryz.prog 30 0 = some 0 := by kernel_rfl
theorem fo30_1 : fieldOff Tryz.prog 30 1 = some 1 := by kernel_rfl
theorem fo30_10 : fieldOff Tryz.prog 30 10 = some 10 := by kernel_rfl
theorem fo30_12 : fieldOff Tryz.prog 30 12 = some 12 := by kernel_rfl
theorem fo30_13 : fieldOff Tryz.prog 30 13 = some 13 := by kernel_rfl
theorem fo30_14 : fieldOff Tryz.prog 30 14 = some 14 := by kernel_rfl
theorem fo30_16 : fieldOff Tryz.prog 30 16 = some 16 := by kernel_rfl
theorem fo30_2 : fieldOff Tryz.prog 30 2 = some 2 := by kernel_rfl
theorem fo30_3 : fieldOff Tryz.prog 30 3 = some 3 := by kernel_rfl
theorem fo30_4 : fieldOff Tryz.prog 30 4 = some 4 := by kernel_rfl
theorem fo30_8 : fieldOff Tryz.prog 30 8 = some 8 := by kernel_rfl
theorem fo30_9 : fieldOff Tryz.prog 30 9 = some 9 := by kernel_rfl
theorem one4 : oneB Tryz.prog 4 = true := by kernel_rfl
def regB (r : Int) : Bool := decide (r ≥ 0) && decide (r < 8)
def ronB (r : Int) : Bool := r == -1 || regB r
def fenB (k : Int) : Bool := k == 1 || k == 2 || k == 3
def accB (i : Ins) : Bool := decide (i.loc ≥ 0) && decide (i.loc < 3) && ronB i.index && !(maskR i.off i.size == 0)
def immF (i : Ins) (r : Int) : Int := if r == -1 then i.imm else 0
def rdB (i : Ins) : Bool := i.op == 4 || i.op == 6
def wrB (i : Ins) : Bool := i.op == 5 || i.op == 6
def opB (i : Ins) : Bool := rdB i || wrB i
def plainF (i : Ins) : Ins where
 op := i.op
 dst := if i.op == 1 || i.op == 2 || i.op == 3 || i.op == 4 || i.op == 6 then i.dst else -1
 a := if i.op == 2 || i.op == 3 || i.op == 5 || i.op == 6 || i.op == 9 then i.a else -1
 b := if i.op == 3 then i.b else -1
 imm := if i.op == 1 then i.imm else if i.op == 3 then immF i i.b else if i.op == 5 then immF i i.a else 0
 loc := if opB i then i.loc else 0
 off := if opB i then i.off else 0
 index := if opB i then i.index else -1
 size := if opB i then i.size else 0
 fn := if i.op == 3 || i.op == 6 then i.fn else 0
 acq := if i.op == 4 || i.op == 6 then i.acq else false
 weak := if i.op == 4 then i.weak else false
 rel := if i.op == 5 || i.op == 6 then i.rel else false
 pred := if i.op == 7 then i.pred else 0
 succ := if i.op == 7 then i.succ else 0
 to := if i.op == 9 then i.to else 0
 zero := if i.op == 9 then i.zero else false
def soundB (i : Ins) : Bool :=
 if i.op == 1 then regB i.dst else
 if i.op == 2 then regB i.dst && regB i.a else
 if i.op == 3 then regB i.dst && regB i.a && ronB i.b && decide (i.fn ≥ 1) && decide (i.fn ≤ 5) else
 if i.op == 4 then regB i.dst && accB i && !(i.acq && i.weak) else
 if i.op == 5 then ronB i.a && accB i else
 if i.op == 6 then regB i.dst && regB i.a && accB i && (i.fn == 6 || i.fn == 1) else
 if i.op == 7 then fenB i.pred && fenB i.succ else
 if i.op == 8 then true else
 if i.op == 9 then regB i.a else false
def plcB (i : Ins) : Bool := decide (i.loc ≥ 0) && decide (i.loc < 3) && !(maskR i.off i.size == 0) && (i.index == -1 || regB i.index)
def bareF (i : Ins) : Ins where
 op := 0
 dst := if i.op == 1 || i.op == 2 || i.op == 3 || i.op == 4 || i.op == 6 then -1 else i.dst
 a := if i.op == 2 || i.op == 3 || i.op == 5 || i.op == 6 || i.op == 9 then -1 else i.a
 b := if i.op == 3 then -1 else i.b
 imm := if i.op == 1 || i.op == 3 || i.op == 5 then 0 else i.imm
 loc := if opB i then 0 else i.loc
 off := if opB i then 0 else i.off
 index := if opB i then -1 else i.index
 size := if opB i then 0 else i.size
 fn := if i.op == 3 || i.op == 6 then 0 else i.fn
 acq := if i.op == 4 || i.op == 6 then false else i.acq
 weak := if i.op == 4 then false else i.weak
 rel := if i.op == 5 || i.op == 6 then false else i.rel
 pred := if i.op == 7 then 0 else i.pred
 succ := if i.op == 7 then 0 else i.succ
 to := if i.op == 9 then 0 else i.to
 zero := if i.op == 9 then false else i.zero
def fineB (i : Ins) : Bool :=
 if i.op == 1 then regB i.dst else
 if i.op == 2 then regB i.dst && regB i.a else
 if i.op == 3 then regB i.dst && regB i.a && decide (i.fn ≥ 1) && decide (i.fn ≤ 5) && (i.b == -1 || regB i.b && i.imm == 0) else
 if i.op == 4 then regB i.dst && plcB i && !(i.acq && i.weak) else
 if i.op == 5 then plcB i && (i.a == -1 || regB i.a && i.imm == 0) else
 if i.op == 6 then regB i.dst && regB i.a && plcB i && (i.fn == 6 || i.fn == 1) else
 if i.op == 7 then decide (i.pred ≥ 1) && decide (i.pred ≤ 3) && decide (i.succ ≥ 1) && decide (i.succ ≤ 3) else
 if i.op == 8 then true else
 if i.op == 9 then regB i.a else false
def blank : Ins := ⟨0, -1, -1, -1, 0, 0, 0, -1, 0, 0, false, false, false, 0, 0, 0, false⟩
def insEq (i j : Ins) : Bool := decide (i = j)
def offsI : List (Nat × Bool) := [(0, false), (1, false), (2, false), (3, false), (4, false), (5, false), (6, false), (7, false), (8, false), (9, false), (10, true), (11, true), (12, true), (13, false), (14, false), (15, false), (16, true)]
theorem flat_ins : flatT Tryz.prog 30 = some offsI := by kernel_rfl
theorem all_ins (i j : Ins) : [i.op == j.op, i.dst == j.dst, i.a == j.a, i.b == j.b, i.imm == j.imm, i.loc == j.loc, i.off == j.off, i.index == j.index, i.size == j.size, i.fn == j.fn, i.acq == j.acq, i.weak == j.weak, i.rel == j.rel, i.pred == j.pred, i.succ == j.succ, i.to == j.to, i.zero == j.zero].all id = insEq i j := by
 unfold insEq
 rw [Bool.eq_iff_iff, decide_eq_true_iff]
 cases i; cases j
 simp
theorem eq_ins (i j : Ins) (x y : Operand) (w : World) (r : Bool) (h : insEq i j = r) : (eqGuard .eql 30 x y (.agg (insC i)) (.agg (insC j))).run Tryz.prog w = .ok () w ∧ (binOp .eql 30 (.agg (insC i)) (.agg (insC j))).run Tryz.prog w = .ok (.bool r) w := by
 have := (eq_flat (P := Tryz.prog) (xs := insC i) (ys := insC j) w x y flat_ins rfl).1
 rw [all_ins, h] at this; exact this
theorem ne_ins (i j : Ins) (x y : Operand) (w : World) (r : Bool) (h : (!insEq i j) = r) : (eqGuard .neq 30 x y (.agg (insC i)) (.agg (insC j))).run Tryz.prog w = .ok () w ∧ (binOp .neq 30 (.agg (insC i)) (.agg (insC j))).run Tryz.prog w = .ok (.bool r) w := by
 have := (eq_flat (P := Tryz.prog) (xs := insC i) (ys := insC j) w x y flat_ins rfl).2
 rw [all_ins, h] at this; exact this
def rightR (i : Ins) (at_ n : Int) : Int :=
 if insEq i (plainF i) && soundB i then (if i.op == 9 && (decide (i.to ≤ at_) || decide (i.to > n)) then 35 else 0) else 34
theorem plc_acc (i : Ins) : plcB i = accB i := by
 unfold plcB accB ronB
 cases decide (i.loc ≥ 0) <;> cases decide (i.loc < 3) <;> cases (maskR i.off i.size == 0) <;> simp
theorem ent116 : ((Tryz.prog.funcs[116]?).map fun fn => (fn.name == "runtime.NumGoroutine", fn.body.isNone)) = some (false, false) := by kernel_rfl
theorem ent117 : ((Tryz.prog.funcs[117]?).map fun fn => (fn.name == "runtime.NumGoroutine", fn.body.isNone)) = some (false, false) := by kernel_rfl
theorem ent154 : ((Tryz.prog.funcs[154]?).map fun fn => (fn.name == "runtime.NumGoroutine", fn.body.isNone)) = some (false, false) := by kernel_rfl
theorem ent155 : ((Tryz.prog.funcs[155]?).map fun fn => (fn.name == "runtime.NumGoroutine", fn.body.isNone)) = some (false, false) := by kernel_rfl
theorem ent156 : ((Tryz.prog.funcs[156]?).map fun fn => (fn.name == "runtime.NumGoroutine", fn.body.isNone)) = some (false, false) := by kernel_rfl
theorem ent158 : ((Tryz.prog.funcs[158]?).map fun fn => (fn.name == "runtime.NumGoroutine", fn.body.isNone)) = some (false, false) := by kernel_rfl
theorem ent183 : ((Tryz.prog.funcs[183]?).map fun fn => (fn.name == "runtime.NumGoroutine", fn.body.isNone)) = some (false, false) := by kernel_rfl
theorem ent184 : ((Tryz.prog.funcs[184]?).map fun fn => (fn.name == "runtime.NumGoroutine", fn.body.isNone)) = some (false, false) := by kernel_rfl
theorem ent185 : ((Tryz.prog.funcs[185]?).map fun fn => (fn.name == "runtime.NumGoroutine", fn.body.isNone)) = some (false, false) := by kernel_rfl
theorem ent186 : ((Tryz.prog.funcs[186]?).map fun fn => (fn.name == "runtime.NumGoroutine", fn.body.isNone)) = some (false, false) := by kernel_rfl
theorem ent187 : ((Tryz.prog.funcs[187]?).map fun fn => (fn.name == "runtime.NumGoroutine", fn.body.isNone)) = some (false, false) := by kernel_rfl
theorem ent188 : ((Tryz.prog.funcs[188]?).map fun fn => (fn.name == "runtime.NumGoroutine", fn.body.isNone)) = some (false, false) := by kernel_rfl
theorem ent200 : ((Tryz.prog.funcs[200]?).map fun fn => (fn.name == "runtime.NumGoroutine", fn.body.isNone)) = some (false, false) := by kernel_rfl
theorem ent201 : ((Tryz.prog.funcs[201]?).map fun fn => (fn.name == "runtime.NumGoroutine", fn.body.isNone)) = some (false, false) := by kernel_rfl
theorem ent202 : ((Tryz.prog.funcs[202]?).map fun fn => (fn.name == "runtime.NumGoroutine", fn.body.isNone)) = some (false, false) := by kernel_rfl
theorem ent78 : ((Tryz.prog.funcs[78]?).map fun fn => (fn.name == "runtime.NumGoroutine", fn.body.isNone)) = some (false, false) := by kernel_rfl
theorem fo30_11 : fieldOff Tryz.prog 30 11 = some 11 := by kernel_rfl
theorem fo30_15 : fieldOff Tryz.prog 30 15 = some 15 := by kernel_rfl
theorem places30 : placesOf Tryz.prog 30 = some [(0, 1), (1, 1), (2, 1), (3, 1), (4, 1), (5, 1), (6, 1), (7, 1), (8, 1), (9, 1), (10, 1), (11, 1), (12, 1), (13, 1), (14, 1), (15, 1), (16, 1)] := by kernel_rfl
theorem row30 : rowB Tryz.prog 30 17 = true := by kernel_rfl
theorem zero30 : (Tryz.prog.info? 30).map (fun i => (i.zero, i.size)) = some (some (.agg #[.int .i64 0, .int .i64 0, .int .i64 0, .int .i64 0, .int .i64 0, .int .i64 0, .int .i64 0, .int .i64 0, .int .i64 0, .int .i64 0, .bool false, .bool false, .bool false, .int .i64 0, .int .i64 0, .int .i64 0, .bool false]), 17) := by kernel_rfl
theorem ret_two {x y : Array Value} {a b : Bool} (h : x = y) (k : a = b) : Ending.returned (.tuple #[.agg x, .bool a]) = .returned (.tuple #[.agg y, .bool b]) := by rw [h, k]
theorem isReg_any (r : Int) (w : World) : Calls Tryz.prog 185 #[J r] w λ e w' => e = .returned (.bool (regB r)) ∧ Grow w w' := by
 have b0 := Grow.refl w
 refine enter (n := 9) Tryz.func185 rfl rfl (nb_ rfl) λ _ A=>sw_<|Z 1 A rfl λ A=>qt_<|ws_ ?_
 refine jwp (K := λ a5 w6 => St 9 [(2, (.bool ((decide (r ≥ 0)) && (decide (r < 8)))))] a5 ∧ Below w.heap.size w w6) ?_ ?_
 ·skip
  refine wr_<|Z 1 A rfl λ A=>?_
  rcases eb_ (decide (r ≥ 0)) with hb9 | hb9
  ·skip
   have hq10 := dt_ hb9
   refine B2 A rfl (bge_ hb9) λ A=>Z 2 A rfl λ A=>?_
   rcases eb_ (decide (r < 8)) with hb17 | hb17
   ·skip
    have hq18 := dt_ hb17
    refine B2 A rfl (bl hb17) λ A=>Z 2 A rfl λ A=>qe_ ?_
    exact ⟨A.cut _ (fc ((A.g 2 rfl).trans (congrArg Value.bool (by simp [hb9, hb17]))) fn_), b0⟩
   have hq25 := df_ hb17
   refine B2 A rfl (bl hb17) λ A=>Z 2 A rfl λ A=>qe_ ?_
   exact ⟨A.cut _ (fc ((A.g 2 rfl).trans (congrArg Value.bool (by simp [hb9, hb17]))) fn_), b0⟩
  have hq32 := df_ hb9
  refine B2 A rfl (bge_ hb9) λ A=>Z 5 A rfl λ A=>qe_ ?_
  exact ⟨A.cut _ (fc ((A.g 2 rfl).trans (congrArg Value.bool (by simp [hb9]))) fn_), b0⟩
 rintro a5 w6 ⟨A, b46⟩
 refine tn_<|we_<|ret1 rfl A (v := (.bool ((decide (r ≥ 0)) && (decide (r < 8))))) rfl ?_
 exact ⟨ret_bool (by first | (simp [regB, Bool.or_assoc, Bool.and_assoc]; done) | (rw [Bool.eq_iff_iff]; simp [regB]; done) | (rw [Bool.eq_iff_iff]; simp [regB]; omega) | grind), b46⟩
theorem rreg_any (r : Int) (w : World) : Calls Tryz.prog 116 #[J r] w λ e w' => e = .returned (.bool (regB r)) ∧ Grow w w' := by
 have b0 := Grow.refl w
 refine enter (n := 9) Tryz.func116 rfl rfl (nb_ rfl) λ _ A=>sw_<|Z 1 A rfl λ A=>qt_<|ws_ ?_
 refine jwp (K := λ a5 w6 => St 9 [(2, (.bool ((decide (r ≥ 0)) && (decide (r < 8)))))] a5 ∧ Below w.heap.size w w6) ?_ ?_
 ·skip
  refine wr_<|Z 1 A rfl λ A=>?_
  rcases eb_ (decide (r ≥ 0)) with hb9 | hb9
  ·skip
   have hq10 := dt_ hb9
   refine B2 A rfl (bge_ hb9) λ A=>Z 2 A rfl λ A=>?_
   rcases eb_ (decide (r < 8)) with hb17 | hb17
   ·skip
    have hq18 := dt_ hb17
    refine B2 A rfl (bl hb17) λ A=>Z 2 A rfl λ A=>qe_ ?_
    exact ⟨A.cut _ (fc ((A.g 2 rfl).trans (congrArg Value.bool (by simp [hb9, hb17]))) fn_), b0⟩
   have hq25 := df_ hb17
   refine B2 A rfl (bl hb17) λ A=>Z 2 A rfl λ A=>qe_ ?_
   exact ⟨A.cut _ (fc ((A.g 2 rfl).trans (congrArg Value.bool (by simp [hb9, hb17]))) fn_), b0⟩
  have hq32 := df_ hb9
  refine B2 A rfl (bge_ hb9) λ A=>Z 5 A rfl λ A=>qe_ ?_
  exact ⟨A.cut _ (fc ((A.g 2 rfl).trans (congrArg Value.bool (by simp [hb9]))) fn_), b0⟩
 rintro a5 w6 ⟨A, b46⟩
 refine tn_<|we_<|ret1 rfl A (v := (.bool ((decide (r ≥ 0)) && (decide (r < 8))))) rfl ?_
 exact ⟨ret_bool (by first | (simp [regB, Bool.or_assoc, Bool.and_assoc]; done) | (rw [Bool.eq_iff_iff]; simp [regB]; done) | (rw [Bool.eq_iff_iff]; simp [regB]; omega) | grind), b46⟩
theorem isRegOrNone_any (r : Int) (w : World) : Calls Tryz.prog 186 #[J r] w λ e w' => e = .returned (.bool (ronB r)) ∧ Grow w w' := by
 have b0 := Grow.refl w
 refine enter (n := 9) Tryz.func186 rfl rfl (nb_ rfl) λ _ A=>sw_<|Z 1 A rfl λ A=>qt_<|ws_ ?_
 refine jwp (K := λ a5 w6 => St 9 [(2, (.bool ((r == (-1)) || (regB r))))] a5 ∧ Below w.heap.size w w6) ?_ ?_
 ·skip
  refine wr_<|Z 1 A rfl λ A=>?_
  rcases eb_ (r == (-1)) with hb9 | hb9
  ·skip
   have hq10 := eq_of_beq hb9
   refine B2 A rfl (bq hb9) λ A=>Z 5 A rfl λ A=>qe_ ?_
   exact ⟨A.cut _ (fc ((A.g 2 rfl).trans (congrArg Value.bool (by simp [hb9]))) fn_), b0⟩
  have hq23 := ne_of_beq hb9
  refine B2 A rfl (bq hb9) λ A=>Z 2 A rfl λ A=>C A rfl ent185 (isReg_any r w) ?_
  rintro e33 w30 ⟨he32, hG31⟩
  have b34 := bls b0 hG31
  rcases eb_ (regB r) with hb35 | hb35
  ·skip
   refine ⟨.bool true, he32.trans (ret_bool hb35), λ _ A=>Z 2 A rfl λ A=>qe_ ?_⟩
   exact ⟨A.cut _ (fc ((A.g 2 rfl).trans (congrArg Value.bool (by simp [hb9, hb35]))) fn_), b34⟩
  refine ⟨.bool false, he32.trans (ret_bool hb35), λ _ A=>Z 2 A rfl λ A=>qe_ ?_⟩
  exact ⟨A.cut _ (fc ((A.g 2 rfl).trans (congrArg Value.bool (by simp [hb9, hb35]))) fn_), b34⟩
 rintro a5 w6 ⟨A, b51⟩
 refine tn_<|we_<|ret1 rfl A (v := (.bool ((r == (-1)) || (regB r)))) rfl ?_
 exact ⟨ret_bool (by first | (simp [ronB, Bool.or_assoc, Bool.and_assoc]; done) | (rw [Bool.eq_iff_iff]; simp [ronB]; done) | (rw [Bool.eq_iff_iff]; simp [ronB]; omega) | grind), b51⟩
theorem isFenced_any (r : Int) (w : World) : Calls Tryz.prog 188 #[J r] w λ e w' => e = .returned (.bool (fenB r)) ∧ Grow w w' := by
 have b0 := Grow.refl w
 refine enter (n := 13) Tryz.func188 rfl rfl (nb_ rfl) λ _ A=>sw_<|Z 1 A rfl λ A=>qt_<|ws_ ?_
 refine jwp (K := λ a5 w6 => St 13 [(2, (.bool ((r == 1) || ((r == 2) || (r == 3)))))] a5 ∧ Below w.heap.size w w6) ?_ ?_
 ·skip
  refine wr_<|Z 1 A rfl λ A=>?_
  rcases eb_ (r == 1) with hb9 | hb9
  ·skip
   have hq10 := eq_of_beq hb9
   refine B2 A rfl (bq hb9) λ A=>Z 9 A rfl λ A=>qe_ ?_
   exact ⟨A.cut _ (fc ((A.g 2 rfl).trans (congrArg Value.bool (by simp [hb9]))) fn_), b0⟩
  have hq31 := ne_of_beq hb9
  refine B2 A rfl (bq hb9) λ A=>Z 2 A rfl λ A=>?_
  rcases eb_ (r == 2) with hb38 | hb38
  ·skip
   have hq39 := eq_of_beq hb38
   refine B2 A rfl (bq hb38) λ A=>Z 6 A rfl λ A=>qe_ ?_
   exact ⟨A.cut _ (fc ((A.g 2 rfl).trans (congrArg Value.bool (by simp [hb9, hb38]))) fn_), b0⟩
  have hq54 := ne_of_beq hb38
  refine B2 A rfl (bq hb38) λ A=>Z 3 A rfl λ A=>?_
  rcases eb_ (r == 3) with hb63 | hb63
  ·skip
   have hq64 := eq_of_beq hb63
   refine B2 A rfl (bq hb63) λ A=>Z 2 A rfl λ A=>qe_ ?_
   exact ⟨A.cut _ (fc ((A.g 2 rfl).trans (congrArg Value.bool (by simp [hb9, hb38, hb63]))) fn_), b0⟩
  have hq71 := ne_of_beq hb63
  refine B2 A rfl (bq hb63) λ A=>Z 2 A rfl λ A=>qe_ ?_
  exact ⟨A.cut _ (fc ((A.g 2 rfl).trans (congrArg Value.bool (by simp [hb9, hb38, hb63]))) fn_), b0⟩
 rintro a5 w6 ⟨A, b79⟩
 refine tn_<|we_<|ret1 rfl A (v := (.bool ((r == 1) || ((r == 2) || (r == 3))))) rfl ?_
 exact ⟨ret_bool (by first | (simp [fenB, Bool.or_assoc, Bool.and_assoc]; done) | (rw [Bool.eq_iff_iff]; simp [fenB]; done) | (rw [Bool.eq_iff_iff]; simp [fenB]; omega) | grind), b79⟩
theorem reads_any (i : Ins) (w : World) : Calls Tryz.prog 200 #[.agg (insC i)] w λ e w' => e = .returned (.bool (rdB i)) ∧ Grow w w' := by
 have b0 := Grow.refl w
 refine enter (n := 11) Tryz.func200 rfl rfl (nb_ rfl) λ _ A=>sw_<|qs A rfl (d_box (wn rfl) (A.ev rfl) λ g3 w4 eg5 hG6 (m7 : Blk w4 g3 (insC i) 30)=>?_)
 have ge8 : w.heap.size ≤ g3 := eg5 ▸ b0.size
 have b9 := bls b0 hG6
 intro _ A
 refine Z 1 A rfl λ A=>qt_<|ws_ ?_
 refine jwp (K := λ a14 w15 => St 11 [(2, (.bool ((i.op == 4) || (i.op == 6))))] a14 ∧ Below w.heap.size w w15 ∧ Blk w15 g3 (insC i) 30) ?_ ?_
 ·skip
  refine wr_<|F1 A rfl fo30_0 λ A=>qs A rfl (dld (v := (J i.op)) (wn rfl) (A.ev rfl) one3 (m7.cell rfl) λ _ A=>?_)
  rcases eb_ (i.op == 4) with hb20 | hb20
  ·skip
   have hq21 := eq_of_beq hb20
   refine B2 A rfl (bq hb20) λ A=>Z 6 A rfl λ A=>qe_ ?_
   exact ⟨A.cut _ (fc ((A.g 2 rfl).trans (congrArg Value.bool (by simp [hb20]))) fn_), b9, m7⟩
  have hq36 := ne_of_beq hb20
  refine B2 A rfl (bq hb20) λ A=>Z 1 A rfl λ A=>F1 A rfl fo30_0 λ A=>qs A rfl (dld (v := (J i.op)) (wy rfl rfl (A.g 6 rfl)) (A.ev rfl) one3 (m7.cell rfl) λ _ A=>?_)
  rcases eb_ (i.op == 6) with hb45 | hb45
  ·skip
   have hq46 := eq_of_beq hb45
   refine B2 A rfl (bq hb45) λ A=>Z 2 A rfl λ A=>qe_ ?_
   exact ⟨A.cut _ (fc ((A.g 2 rfl).trans (congrArg Value.bool (by simp [hb20, hb45]))) fn_), b9, m7⟩
  have hq53 := ne_of_beq hb45
  refine B2 A rfl (bq hb45) λ A=>Z 2 A rfl λ A=>qe_ ?_
  exact ⟨A.cut _ (fc ((A.g 2 rfl).trans (congrArg Value.bool (by simp [hb20, hb45]))) fn_), b9, m7⟩
 rintro a14 w15 ⟨A, b61, m62⟩
 refine tn_<|we_<|ret1 rfl A (v := (.bool ((i.op == 4) || (i.op == 6)))) rfl ?_
 exact ⟨ret_bool (by first | (simp [rdB, Bool.or_assoc, Bool.and_assoc]; done) | (rw [Bool.eq_iff_iff]; simp [rdB]; done) | (rw [Bool.eq_iff_iff]; simp [rdB]; omega) | grind), b61⟩
theorem writes_any (i : Ins) (w : World) : Calls Tryz.prog 201 #[.agg (insC i)] w λ e w' => e = .returned (.bool (wrB i)) ∧ Grow w w' := by
 have b0 := Grow.refl w
 refine enter (n := 11) Tryz.func201 rfl rfl (nb_ rfl) λ _ A=>sw_<|qs A rfl (d_box (wn rfl) (A.ev rfl) λ g3 w4 eg5 hG6 (m7 : Blk w4 g3 (insC i) 30)=>?_)
 have ge8 : w.heap.size ≤ g3 := eg5 ▸ b0.size
 have b9 := bls b0 hG6
 intro _ A
 refine Z 1 A rfl λ A=>qt_<|ws_ ?_
 refine jwp (K := λ a14 w15 => St 11 [(2, (.bool ((i.op == 5) || (i.op == 6))))] a14 ∧ Below w.heap.size w w15 ∧ Blk w15 g3 (insC i) 30) ?_ ?_
 ·skip
  refine wr_<|F1 A rfl fo30_0 λ A=>qs A rfl (dld (v := (J i.op)) (wn rfl) (A.ev rfl) one3 (m7.cell rfl) λ _ A=>?_)
  rcases eb_ (i.op == 5) with hb20 | hb20
  ·skip
   have hq21 := eq_of_beq hb20
   refine B2 A rfl (bq hb20) λ A=>Z 6 A rfl λ A=>qe_ ?_
   exact ⟨A.cut _ (fc ((A.g 2 rfl).trans (congrArg Value.bool (by simp [hb20]))) fn_), b9, m7⟩
  have hq36 := ne_of_beq hb20
  refine B2 A rfl (bq hb20) λ A=>Z 1 A rfl λ A=>F1 A rfl fo30_0 λ A=>qs A rfl (dld (v := (J i.op)) (wy rfl rfl (A.g 6 rfl)) (A.ev rfl) one3 (m7.cell rfl) λ _ A=>?_)
  rcases eb_ (i.op == 6) with hb45 | hb45
  ·skip
   have hq46 := eq_of_beq hb45
   refine B2 A rfl (bq hb45) λ A=>Z 2 A rfl λ A=>qe_ ?_
   exact ⟨A.cut _ (fc ((A.g 2 rfl).trans (congrArg Value.bool (by simp [hb20, hb45]))) fn_), b9, m7⟩
  have hq53 := ne_of_beq hb45
  refine B2 A rfl (bq hb45) λ A=>Z 2 A rfl λ A=>qe_ ?_
  exact ⟨A.cut _ (fc ((A.g 2 rfl).trans (congrArg Value.bool (by simp [hb20, hb45]))) fn_), b9, m7⟩
 rintro a14 w15 ⟨A, b61, m62⟩
 refine tn_<|we_<|ret1 rfl A (v := (.bool ((i.op == 5) || (i.op == 6)))) rfl ?_
 exact ⟨ret_bool (by first | (simp [wrB, Bool.or_assoc, Bool.and_assoc]; done) | (rw [Bool.eq_iff_iff]; simp [wrB]; done) | (rw [Bool.eq_iff_iff]; simp [wrB]; omega) | grind), b61⟩
theorem isOp_any (i : Ins) (w : World) : Calls Tryz.prog 184 #[.agg (insC i)] w λ e w' => e = .returned (.bool (opB i)) ∧ Grow w w' := by
 have b0 := Grow.refl w
 refine enter (n := 9) Tryz.func184 rfl rfl (nb_ rfl) λ _ A=>sw_<|qs A rfl (d_box (wn rfl) (A.ev rfl) λ g3 w4 eg5 hG6 (m7 : Blk w4 g3 (insC i) 30)=>?_)
 have ge8 : w.heap.size ≤ g3 := eg5 ▸ b0.size
 have b9 := bls b0 hG6
 intro _ A
 refine Z 1 A rfl λ A=>qt_<|ws_ ?_
 refine jwp (K := λ a14 w15 => St 9 [(2, (.bool ((rdB i) || (wrB i))))] a14 ∧ Below w.heap.size w w15 ∧ Blk w15 g3 (insC i) 30) ?_ ?_
 ·skip
  refine wr_<|qs A rfl (dlr (cs := (insC i)) (wn rfl) (A.ev rfl) row30 m7 λ _ A=>C A rfl ent200 (reads_any i w4) ?_)
  rintro e21 w18 ⟨he20, hG19⟩
  have m22 := m7.grow hG19
  have b23 := bls b9 hG19
  rcases eb_ (rdB i) with hb24 | hb24
  ·skip
   refine ⟨.bool true, he20.trans (ret_bool hb24), λ _ A=>Z 5 A rfl λ A=>qe_ ?_⟩
   exact ⟨A.cut _ (fc ((A.g 2 rfl).trans (congrArg Value.bool (by simp [hb24]))) fn_), b23, m22⟩
  refine ⟨.bool false, he20.trans (ret_bool hb24), λ _ A=>Z 1 A rfl λ A=>qs A rfl (dlr (cs := (insC i)) (wy rfl rfl (A.g 5 rfl)) (A.ev rfl) row30 m22 λ _ A=>C A rfl ent201 (writes_any i w18) ?_)⟩
  rintro e48 w45 ⟨he47, hG46⟩
  have m49 := m22.grow hG46
  have b50 := bls b23 hG46
  rcases eb_ (wrB i) with hb51 | hb51
  ·skip
   refine ⟨.bool true, he47.trans (ret_bool hb51), λ _ A=>Z 2 A rfl λ A=>qe_ ?_⟩
   exact ⟨A.cut _ (fc ((A.g 2 rfl).trans (congrArg Value.bool (by simp [hb24, hb51]))) fn_), b50, m49⟩
  refine ⟨.bool false, he47.trans (ret_bool hb51), λ _ A=>Z 2 A rfl λ A=>qe_ ?_⟩
  exact ⟨A.cut _ (fc ((A.g 2 rfl).trans (congrArg Value.bool (by simp [hb24, hb51]))) fn_), b50, m49⟩
 rintro a14 w15 ⟨A, b67, m68⟩
 refine tn_<|we_<|ret1 rfl A (v := (.bool ((rdB i) || (wrB i)))) rfl ?_
 exact ⟨ret_bool (by first | (simp [opB, Bool.or_assoc, Bool.and_assoc]; done) | (rw [Bool.eq_iff_iff]; simp [opB]; done) | (rw [Bool.eq_iff_iff]; simp [opB]; omega) | grind), b67⟩
theorem isAccess_any (i : Ins) (w : World) : Calls Tryz.prog 187 #[.agg (insC i)] w λ e w' => e = .returned (.bool (accB i)) ∧ Grow w w' := by
 have b0 := Grow.refl w
 refine enter (n := 24) Tryz.func187 rfl rfl (nb_ rfl) λ _ A=>sw_<|qs A rfl (d_box (wn rfl) (A.ev rfl) λ g3 w4 eg5 hG6 (m7 : Blk w4 g3 (insC i) 30)=>?_)
 have ge8 : w.heap.size ≤ g3 := eg5 ▸ b0.size
 have b9 := bls b0 hG6
 intro _ A
 refine Z 1 A rfl λ A=>qt_<|ws_ ?_
 refine jwp (K := λ a14 w15 => St 24 [(2, (.bool ((decide (i.loc ≥ 0)) && ((decide (i.loc < 3)) && ((ronB i.index) && (!(maskR i.off i.size == 0)))))))] a14 ∧ Below w.heap.size w w15 ∧ Blk w15 g3 (insC i) 30) ?_ ?_
 ·skip
  refine wr_<|F1 A rfl fo30_5 λ A=>qs A rfl (dld (v := (J i.loc)) (wn rfl) (A.ev rfl) one3 (m7.cell rfl) λ _ A=>?_)
  rcases eb_ (decide (i.loc ≥ 0)) with hb20 | hb20
  ·skip
   have hq21 := dt_ hb20
   refine B2 A rfl (bge_ hb20) λ A=>Z 1 A rfl λ A=>F1 A rfl fo30_5 λ A=>qs A rfl (dld (v := (J i.loc)) (wy rfl rfl (A.g 6 rfl)) (A.ev rfl) one3 (m7.cell rfl) λ _ A=>?_)
   rcases eb_ (decide (i.loc < 3)) with hb30 | hb30
   ·skip
    have hq31 := dt_ hb30
    refine B2 A rfl (bl hb30) λ A=>Z 2 A rfl λ A=>F1 A rfl fo30_7 λ A=>qs A rfl (dld (v := (J i.index)) (wy rfl rfl (A.g 11 rfl)) (A.ev rfl) one3 (m7.cell rfl) λ _ A=>C A rfl ent186 (isRegOrNone_any i.index w4) ?_)
    rintro e45 w42 ⟨he44, hG43⟩
    have m46 := m7.grow hG43
    have b47 := bls b9 hG43
    rcases eb_ (ronB i.index) with hb48 | hb48
    ·skip
     refine ⟨.bool true, he44.trans (ret_bool hb48), λ _ A=>Z 2 A rfl λ A=>F1 A rfl fo30_6 λ A=>qs A rfl (dld (v := (J i.off)) (wy rfl rfl (A.g 16 rfl)) (A.ev rfl) one3 (m46.cell rfl) λ _ A=>F1 A rfl fo30_8 λ A=>qs A rfl (dld (v := (J i.size)) (wy rfl rfl (A.g 16 rfl)) (A.ev rfl) one3 (m46.cell rfl) λ _ A=>C A rfl ent202 (mask_all i.off i.size w42) ?_))⟩
     rintro e67 w64 ⟨he66, hG650⟩
     have hG65 : Grow w42 w64 := hG650 ▸ Grow.refl _
     have m68 := m46.grow hG65
     have b69 := bls b47 hG65
     refine ⟨(J (maskR i.off i.size)), he66, λ _ A=>?_⟩
     rcases eb_ (maskR i.off i.size == 0) with hb72 | hb72
     ·skip
      have hq73 := eq_of_beq hb72
      refine B2 A rfl (b_ne _ _ (maskR i.off i.size) 0 false _ (notof hb72)) λ A=>Z 2 A rfl λ A=>qe_ ?_
      exact ⟨A.cut _ (fc ((A.g 2 rfl).trans (congrArg Value.bool (by simp [hb20, hb30, hb48, hb72]))) fn_), b69, m68⟩
     have hq80 := ne_of_beq hb72
     refine B2 A rfl (b_ne _ _ (maskR i.off i.size) 0 true _ (notof hb72)) λ A=>Z 2 A rfl λ A=>qe_ ?_
     exact ⟨A.cut _ (fc ((A.g 2 rfl).trans (congrArg Value.bool (by simp [hb20, hb30, hb48, hb72]))) fn_), b69, m68⟩
    refine ⟨.bool false, he44.trans (ret_bool hb48), λ _ A=>Z 10 A rfl λ A=>qe_ ?_⟩
    exact ⟨A.cut _ (fc ((A.g 2 rfl).trans (congrArg Value.bool (by simp [hb20, hb30, hb48]))) fn_), b47, m46⟩
   have hq110 := df_ hb30
   refine B2 A rfl (bl hb30) λ A=>Z 15 A rfl λ A=>qe_ ?_
   exact ⟨A.cut _ (fc ((A.g 2 rfl).trans (congrArg Value.bool (by simp [hb20, hb30]))) fn_), b9, m7⟩
  have hq143 := df_ hb20
  refine B2 A rfl (bge_ hb20) λ A=>Z 19 A rfl λ A=>qe_ ?_
  exact ⟨A.cut _ (fc ((A.g 2 rfl).trans (congrArg Value.bool (by simp [hb20]))) fn_), b9, m7⟩
 rintro a14 w15 ⟨A, b185, m186⟩
 refine tn_<|we_<|ret1 rfl A (v := (.bool ((decide (i.loc ≥ 0)) && ((decide (i.loc < 3)) && ((ronB i.index) && (!(maskR i.off i.size == 0))))))) rfl ?_
 exact ⟨ret_bool (by first | (simp [accB, Bool.or_assoc, Bool.and_assoc]; done) | (rw [Bool.eq_iff_iff]; simp [accB]; done) | (rw [Bool.eq_iff_iff]; simp [accB]; omega) | grind), b185⟩
theorem place3_any (i : Ins) (w : World) : Calls Tryz.prog 117 #[.agg (insC i)] w λ e w' => e = .returned (.bool (plcB i)) ∧ Grow w w' := by
 have b0 := Grow.refl w
 refine enter (n := 29) Tryz.func117 rfl rfl (nb_ rfl) λ _ A=>sw_<|qs A rfl (d_box (wn rfl) (A.ev rfl) λ g3 w4 eg5 hG6 (m7 : Blk w4 g3 (insC i) 30)=>?_)
 have ge8 : w.heap.size ≤ g3 := eg5 ▸ b0.size
 have b9 := bls b0 hG6
 intro _ A
 refine Z 1 A rfl λ A=>qt_<|ws_ ?_
 refine jwp (K := λ a14 w15 => St 29 [(2, (.bool ((decide (i.loc ≥ 0)) && ((decide (i.loc < 3)) && (cond (maskR i.off i.size == 0) false ((i.index == (-1)) || (regB i.index)))))))] a14 ∧ Below w.heap.size w w15 ∧ Blk w15 g3 (insC i) 30) ?_ ?_
 ·skip
  refine wr_<|F1 A rfl fo30_5 λ A=>qs A rfl (dld (v := (J i.loc)) (wn rfl) (A.ev rfl) one3 (m7.cell rfl) λ _ A=>?_)
  rcases eb_ (decide (i.loc ≥ 0)) with hb20 | hb20
  ·skip
   have hq21 := dt_ hb20
   refine B2 A rfl (bge_ hb20) λ A=>Z 1 A rfl λ A=>F1 A rfl fo30_5 λ A=>qs A rfl (dld (v := (J i.loc)) (wy rfl rfl (A.g 6 rfl)) (A.ev rfl) one3 (m7.cell rfl) λ _ A=>?_)
   rcases eb_ (decide (i.loc < 3)) with hb30 | hb30
   ·skip
    have hq31 := dt_ hb30
    refine B2 A rfl (bl hb30) λ A=>Z 2 A rfl λ A=>F1 A rfl fo30_6 λ A=>qs A rfl (dld (v := (J i.off)) (wy rfl rfl (A.g 11 rfl)) (A.ev rfl) one3 (m7.cell rfl) λ _ A=>F1 A rfl fo30_8 λ A=>qs A rfl (dld (v := (J i.size)) (wy rfl rfl (A.g 11 rfl)) (A.ev rfl) one3 (m7.cell rfl) λ _ A=>C A rfl ent158 (rmask_all i.off i.size w4) ?_))
    rintro e49 w46 ⟨he48, hG470⟩
    have hG47 : Grow w4 w46 := hG470 ▸ Grow.refl _
    have m50 := m7.grow hG47
    have b51 := bls b9 hG47
    refine ⟨(J (maskR i.off i.size)), he48, λ _ A=>?_⟩
    rcases eb_ (maskR i.off i.size == 0) with hb54 | hb54
    ·skip
     have hq55 := eq_of_beq hb54
     refine B2 A rfl (b_ne _ _ (maskR i.off i.size) 0 false _ (notof hb54)) λ A=>Z 12 A rfl λ A=>qe_ ?_
     exact ⟨A.cut _ (fc ((A.g 2 rfl).trans (congrArg Value.bool (by simp [hb20, hb30, hb54]))) fn_), b51, m50⟩
    have hq82 := ne_of_beq hb54
    refine B2 A rfl (b_ne _ _ (maskR i.off i.size) 0 true _ (notof hb54)) λ A=>Z 2 A rfl λ A=>F1 A rfl fo30_7 λ A=>qs A rfl (dld (v := (J i.index)) (wy rfl rfl (A.g 19 rfl)) (A.ev rfl) one3 (m50.cell rfl) λ _ A=>?_)
    rcases eb_ (i.index == (-1)) with hb93 | hb93
    ·skip
     have hq94 := eq_of_beq hb93
     refine B2 A rfl (bq hb93) λ A=>Z 7 A rfl λ A=>qe_ ?_
     exact ⟨A.cut _ (fc ((A.g 2 rfl).trans (congrArg Value.bool (by simp [hb20, hb30, hb54, hb93]))) fn_), b51, m50⟩
    have hq111 := ne_of_beq hb93
    refine B2 A rfl (bq hb93) λ A=>Z 1 A rfl λ A=>F1 A rfl fo30_7 λ A=>qs A rfl (dld (v := (J i.index)) (wy rfl rfl (A.g 23 rfl)) (A.ev rfl) one3 (m50.cell rfl) λ _ A=>C A rfl ent116 (rreg_any i.index w46) ?_)
    rintro e123 w120 ⟨he122, hG121⟩
    have m124 := m50.grow hG121
    have b125 := bls b51 hG121
    rcases eb_ (regB i.index) with hb126 | hb126
    ·skip
     refine ⟨.bool true, he122.trans (ret_bool hb126), λ _ A=>Z 3 A rfl λ A=>qe_ ?_⟩
     exact ⟨A.cut _ (fc ((A.g 2 rfl).trans (congrArg Value.bool (by simp [hb20, hb30, hb54, hb93, hb126]))) fn_), b125, m124⟩
    refine ⟨.bool false, he122.trans (ret_bool hb126), λ _ A=>Z 3 A rfl λ A=>qe_ ?_⟩
    exact ⟨A.cut _ (fc ((A.g 2 rfl).trans (congrArg Value.bool (by simp [hb20, hb30, hb54, hb93, hb126]))) fn_), b125, m124⟩
   have hq145 := df_ hb30
   refine B2 A rfl (bl hb30) λ A=>Z 20 A rfl λ A=>qe_ ?_
   exact ⟨A.cut _ (fc ((A.g 2 rfl).trans (congrArg Value.bool (by simp [hb20, hb30]))) fn_), b9, m7⟩
  have hq188 := df_ hb20
  refine B2 A rfl (bge_ hb20) λ A=>Z 24 A rfl λ A=>qe_ ?_
  exact ⟨A.cut _ (fc ((A.g 2 rfl).trans (congrArg Value.bool (by simp [hb20]))) fn_), b9, m7⟩
 rintro a14 w15 ⟨A, b240, m241⟩
 refine tn_<|we_<|ret1 rfl A (v := (.bool ((decide (i.loc ≥ 0)) && ((decide (i.loc < 3)) && (cond (maskR i.off i.size == 0) false ((i.index == (-1)) || (regB i.index))))))) rfl ?_
 exact ⟨ret_bool (by first | (simp [plcB, Bool.or_assoc, Bool.and_assoc]; done) | (rw [Bool.eq_iff_iff]; simp [plcB]; done) | (rw [Bool.eq_iff_iff]; simp [plcB]; omega) | grind), b240⟩
theorem immFor_any (i : Ins) (r : Int) (w : World) : Calls Tryz.prog 183 #[.agg (insC i), J r] w λ e w' => e = .returned (J (immF i r)) ∧ Grow w w' := by
 have b0 := Grow.refl w
 refine enter (n := 9) Tryz.func183 rfl rfl (nb_ rfl) λ _ A=>sw_<|qs A rfl (d_box (wn rfl) (A.ev rfl) λ g3 w4 eg5 hG6 (m7 : Blk w4 g3 (insC i) 30)=>?_)
 have ge8 : w.heap.size ≤ g3 := eg5 ▸ b0.size
 have b9 := bls b0 hG6
 intro _ A
 refine Z 1 A rfl λ A=>qt_<|ws_<|sw_<|Z 1 A rfl λ A=>?_
 rcases eb_ (r == (-1)) with hb16 | hb16
 ·skip
  have hq17 := eq_of_beq hb16
  refine B2 A rfl (b_ne _ _ r (-1) false _ (notof hb16)) λ A=>qt_<|cf_ A rfl<|wk_<|tn_<|sw_<|F1 A rfl fo30_4 λ A=>qs A rfl (dld (v := (J i.imm)) (wn rfl) (A.ev rfl) one3 (m7.cell rfl) λ _ A=>Z 1 A rfl λ A=>qt_<|we_ ?_)
  refine ret1 rfl A (v := (J i.imm)) rfl ?_
  exact ⟨ret_int (by simp [immF, eq_of_beq hb16]), b9⟩
 have hq26 := ne_of_beq hb16
 refine B2 A rfl (b_ne _ _ r (-1) true _ (notof hb16)) λ A=>qt_<|ct_ A rfl<|sw_<|Z 1 A rfl λ A=>qt_<|we_<|tr_<|ret1 rfl A (v := (J 0)) rfl ?_
 exact ⟨ret_int (by simp [immF, hb16]), b9⟩
theorem bare_any (i : Ins) (w : World) : Calls Tryz.prog 78 #[.agg (insC i)] w λ e w' => e = .returned (.tuple #[.agg (insC (bareF i)), .bool (fineB i)]) ∧ Grow w w' := by
 have b0 := Grow.refl w
 refine enter (n := 192) Tryz.func78 rfl rfl (nb_ rfl) λ _ A=>sw_<|qs A rfl (d_box (wn rfl) (A.ev rfl) λ g3 w4 eg5 hG6 (m7 : Blk w4 g3 (insC i) 30)=>?_)
 have ge8 : w.heap.size ≤ g3 := eg5 ▸ b0.size
 have b9 := bls b0 hG6
 intro _ A
 refine qs A rfl (dal (wn rfl) zero30 λ g12 w13 eg14 hG15 (m16 : Blk w13 g12 #[J 0, J 0, J 0, J 0, J 0, J 0, J 0, J 0, J 0, J 0, .bool false, .bool false, .bool false, J 0, J 0, J 0, .bool false] 30)=>?_)
 have ge17 : w.heap.size ≤ g12 := eg14 ▸ b9.size
 have n18 := nn_ eg14 m7
 have m19 := m7.grow hG15
 have b20 := bls b9 hG15
 intro _ A
 refine Z 1 A rfl λ A=>qt_<|sw_<|qs A rfl (dlr (cs := (insC i)) (wn rfl) (A.ev rfl) row30 m19 λ _ A=>qs A rfl (dal (wn rfl) zero30 λ g27 w28 eg29 hG30 (m31 : Blk w28 g27 #[J 0, J 0, J 0, J 0, J 0, J 0, J 0, J 0, J 0, J 0, .bool false, .bool false, .bool false, J 0, J 0, J 0, .bool false] 30)=>?_))
 have ge32 : w.heap.size ≤ g27 := eg29 ▸ b20.size
 have n33 := nn_ eg29 m19
 have n34 := nn_ eg29 m16
 have m35 := m19.grow hG30
 have m36 := m16.grow hG30
 have b37 := bls b20 hG30
 intro _ A
 refine qs A rfl (dsr (wn rfl) (A.ev rfl) (A.ev rfl) row30 m31 rfl rfl λ w40 hU41 (m42 : Blk w40 g27 (insC i) 30)=>?_)
 have m43 := m35.upd hU41 n33
 have m44 := m36.upd hU41 n34
 have b45 := hU41.below b37 ge32
 intro _ A
 refine qt_<|sw_<|Z 1 A rfl λ A=>qt_<|sw_<|F1 A rfl fo30_0 λ A=>qs A rfl (dst_ (wn rfl) (A.ev rfl) (A.ev rfl) one3 rfl m42 (nb_ rfl) λ w52 hU53 (m54 : Blk w52 g27 #[J 0, J i.dst, J i.a, J i.b, J i.imm, J i.loc, J i.off, J i.index, J i.size, J i.fn, .bool i.acq, .bool i.weak, .bool i.rel, J i.pred, J i.succ, J i.to, .bool i.zero] 30)=>?_)
 have m55 := m43.upd hU53 n33
 have m56 := m44.upd hU53 n34
 have b57 := hU53.below b45 ge32
 intro _ A
 refine qt_<|ws_<|sw_<|F1 A rfl fo30_0 λ A=>qs A rfl (dld (v := (J i.op)) (wn rfl) (A.ev rfl) one3 (m55.cell rfl) λ _ A=>qt_<|wp_block<|sw_ ?_)
 rcases eb_ (i.op == 1) with hb64 | hb64
 ·skip
  have hq65 := eq_of_beq hb64
  refine B2 A rfl (bq hb64) λ A=>Z 1 A rfl λ A=>qt_<|ct_ A rfl<|ws_ ?_
  refine jwp (K := λ a70 w71 => St 192 [(1, (.pointer (some ⟨g3, 0, none⟩))), (2, (.pointer (some ⟨g12, 0, none⟩))), (3, (.bool false)), (4, (.pointer (some ⟨g27, 0, none⟩))), (5, (.bool (regB i.dst)))] a70 ∧ Below w.heap.size w w71 ∧ Blk w71 g3 (insC i) 30 ∧ Blk w71 g12 #[J 0, J 0, J 0, J 0, J 0, J 0, J 0, J 0, J 0, J 0, .bool false, .bool false, .bool false, J 0, J 0, J 0, .bool false] 30 ∧ Blk w71 g27 #[J 0, J i.dst, J i.a, J i.b, J i.imm, J i.loc, J i.off, J i.index, J i.size, J i.fn, .bool i.acq, .bool i.weak, .bool i.rel, J i.pred, J i.succ, J i.to, .bool i.zero] 30) ?_ ?_
  ·skip
   refine wr_<|F1 A rfl fo30_1 λ A=>qs A rfl (dld (v := (J i.dst)) (wn rfl) (A.ev rfl) one3 (m55.cell rfl) λ _ A=>C A rfl ent116 (rreg_any i.dst w52) ?_)
   rintro e79 w76 ⟨he78, hG77⟩
   have m80 := m55.grow hG77
   have m81 := m56.grow hG77
   have m82 := m54.grow hG77
   have b83 := bls b57 hG77
   rcases eb_ (regB i.dst) with hb84 | hb84
   ·skip
    refine ⟨.bool true, he78.trans (ret_bool hb84), λ _ A=>Z 1 A rfl λ A=>qe_ ?_⟩
    exact ⟨A.cut _ (fc (A.g 1 rfl) (fc (A.g 2 rfl) (fc (A.g 3 rfl) (fc (A.g 4 rfl) (fc ((A.g 5 rfl).trans (congrArg Value.bool (by simp [hb84]))) fn_))))), b83, m80, m81, m82⟩
   refine ⟨.bool false, he78.trans (ret_bool hb84), λ _ A=>Z 1 A rfl λ A=>qe_ ?_⟩
   exact ⟨A.cut _ (fc (A.g 1 rfl) (fc (A.g 2 rfl) (fc (A.g 3 rfl) (fc (A.g 4 rfl) (fc ((A.g 5 rfl).trans (congrArg Value.bool (by simp [hb84]))) fn_))))), b83, m80, m81, m82⟩
  rintro a70 w71 ⟨A, b96, m97, m98, m99⟩
  refine tn_<|sw_<|F1 A rfl fo30_1 λ A=>qs A rfl (dst_ (wn rfl) (A.ev rfl) (A.ev rfl) one3 rfl m99 (nb_ rfl) λ w102 hU103 (m104 : Blk w102 g27 #[J 0, J (-1), J i.a, J i.b, J i.imm, J i.loc, J i.off, J i.index, J i.size, J i.fn, .bool i.acq, .bool i.weak, .bool i.rel, J i.pred, J i.succ, J i.to, .bool i.zero] 30)=>?_)
  have m105 := m97.upd hU103 n33
  have m106 := m98.upd hU103 n34
  have b107 := hU103.below b96 ge32
  intro _ A
  refine qt_<|wr_<|F1 A rfl fo30_4 λ A=>qs A rfl (dst_ (wn rfl) (A.ev rfl) (A.ev rfl) one3 rfl m104 (nb_ rfl) λ w112 hU113 (m114 : Blk w112 g27 #[J 0, J (-1), J i.a, J i.b, J 0, J i.loc, J i.off, J i.index, J i.size, J i.fn, .bool i.acq, .bool i.weak, .bool i.rel, J i.pred, J i.succ, J i.to, .bool i.zero] 30)=>?_)
  have m115 := m105.upd hU113 n33
  have m116 := m106.upd hU113 n34
  have b117 := hU113.below b107 ge32
  intro _ A
  refine qe_<|i_norm<|tn_<|ws_<|sw_<|F1 A rfl fo30_0 λ A=>qs A rfl (dld (v := (J i.op)) (wn rfl) (A.ev rfl) one3 (m115.cell rfl) λ _ A=>B2 A rfl (b_eq _ _ i.op 4 false _ (by rw [eq_of_beq hb64]; rfl)) λ A=>Z 1 A rfl λ A=>F1 A rfl fo30_0 λ A=>qs A rfl (dld (v := (J i.op)) (wy rfl rfl (A.g 176 rfl)) (A.ev rfl) one3 (m115.cell rfl) λ _ A=>B2 A rfl (b_eq _ _ i.op 5 false _ (by rw [eq_of_beq hb64]; rfl)) λ A=>Z 2 A rfl λ A=>?_))
  refine F1 A rfl fo30_0 λ A=>qs A rfl (dld (v := (J i.op)) (wy rfl rfl (A.g 181 rfl)) (A.ev rfl) one3 (m115.cell rfl) λ _ A=>B2 A rfl (b_eq _ _ i.op 6 false _ (by rw [eq_of_beq hb64]; rfl)) λ A=>Z 1 A rfl λ A=>qt_<|cf_ A rfl<|wk_<|tn_<|sw_<|qs A rfl (dlr (cs := #[J 0, J (-1), J i.a, J i.b, J 0, J i.loc, J i.off, J i.index, J i.size, J i.fn, .bool i.acq, .bool i.weak, .bool i.rel, J i.pred, J i.succ, J i.to, .bool i.zero]) (wn rfl) (A.ev rfl) row30 m114 λ _ A=>Z 1 A rfl λ A=>qs A rfl (dsr (wn rfl) (A.ev rfl) (A.ev rfl) row30 m116 rfl rfl λ w150 hU151 (m152 : Blk w150 g12 #[J 0, J (-1), J i.a, J i.b, J 0, J i.loc, J i.off, J i.index, J i.size, J i.fn, .bool i.acq, .bool i.weak, .bool i.rel, J i.pred, J i.succ, J i.to, .bool i.zero] 30)=>?_)))
  have m153 := m115.upd hU151 n18
  have m154 := m114.upd hU151 (Ne.symm n34)
  have b155 := hU151.below b117 ge17
  intro _ A
  refine Z 1 A rfl λ A=>qt_<|we_<|retCT (g := g12) (cs := #[J 0, J (-1), J i.a, J i.b, J 0, J i.loc, J i.off, J i.index, J i.size, J i.fn, .bool i.acq, .bool i.weak, .bool i.rel, J i.pred, J i.succ, J i.to, .bool i.zero]) (v := (.bool (regB i.dst))) rfl A rfl rfl m152 row30 ?_
  exact ⟨ret_two (by simp [insC, bareF, opB, rdB, wrB, eq_of_beq hb64]) (by first | (simp [fineB, eq_of_beq hb64, Bool.or_assoc, Bool.and_assoc]; done) | (rw [Bool.eq_iff_iff]; simp [fineB, eq_of_beq hb64]; done) | (rw [Bool.eq_iff_iff]; simp [fineB, eq_of_beq hb64]; omega) | grind), b155⟩
 have hq160 := ne_of_beq hb64
 refine B2 A rfl (bq hb64) λ A=>Z 1 A rfl λ A=>qt_<|cf_ A rfl<|sw_ ?_
 rcases eb_ (i.op == 2) with hb165 | hb165
 ·skip
  have hq166 := eq_of_beq hb165
  refine B2 A rfl (bq hb165) λ A=>Z 1 A rfl λ A=>qt_<|ct_ A rfl<|ws_ ?_
  refine jwp (K := λ a171 w172 => St 192 [(1, (.pointer (some ⟨g3, 0, none⟩))), (2, (.pointer (some ⟨g12, 0, none⟩))), (3, (.bool false)), (4, (.pointer (some ⟨g27, 0, none⟩))), (5, (.bool ((regB i.dst) && (regB i.a))))] a171 ∧ Below w.heap.size w w172 ∧ Blk w172 g3 (insC i) 30 ∧ Blk w172 g12 #[J 0, J 0, J 0, J 0, J 0, J 0, J 0, J 0, J 0, J 0, .bool false, .bool false, .bool false, J 0, J 0, J 0, .bool false] 30 ∧ Blk w172 g27 #[J 0, J i.dst, J i.a, J i.b, J i.imm, J i.loc, J i.off, J i.index, J i.size, J i.fn, .bool i.acq, .bool i.weak, .bool i.rel, J i.pred, J i.succ, J i.to, .bool i.zero] 30) ?_ ?_
  ·skip
   refine wr_<|F1 A rfl fo30_1 λ A=>qs A rfl (dld (v := (J i.dst)) (wn rfl) (A.ev rfl) one3 (m55.cell rfl) λ _ A=>C A rfl ent116 (rreg_any i.dst w52) ?_)
   rintro e180 w177 ⟨he179, hG178⟩
   have m181 := m55.grow hG178
   have m182 := m56.grow hG178
   have m183 := m54.grow hG178
   have b184 := bls b57 hG178
   rcases eb_ (regB i.dst) with hb185 | hb185
   ·skip
    refine ⟨.bool true, he179.trans (ret_bool hb185), λ _ A=>Z 1 A rfl λ A=>F1 A rfl fo30_2 λ A=>qs A rfl (dld (v := (J i.a)) (wy rfl rfl (A.g 22 rfl)) (A.ev rfl) one3 (m181.cell rfl) λ _ A=>C A rfl ent116 (rreg_any i.a w177) ?_)⟩
    rintro e198 w195 ⟨he197, hG196⟩
    have m199 := m181.grow hG196
    have m200 := m182.grow hG196
    have m201 := m183.grow hG196
    have b202 := bls b184 hG196
    rcases eb_ (regB i.a) with hb203 | hb203
    ·skip
     refine ⟨.bool true, he197.trans (ret_bool hb203), λ _ A=>Z 2 A rfl λ A=>qe_ ?_⟩
     exact ⟨A.cut _ (fc (A.g 1 rfl) (fc (A.g 2 rfl) (fc (A.g 3 rfl) (fc (A.g 4 rfl) (fc ((A.g 5 rfl).trans (congrArg Value.bool (by simp [hb185, hb203]))) fn_))))), b202, m199, m200, m201⟩
    refine ⟨.bool false, he197.trans (ret_bool hb203), λ _ A=>Z 2 A rfl λ A=>qe_ ?_⟩
    exact ⟨A.cut _ (fc (A.g 1 rfl) (fc (A.g 2 rfl) (fc (A.g 3 rfl) (fc (A.g 4 rfl) (fc ((A.g 5 rfl).trans (congrArg Value.bool (by simp [hb185, hb203]))) fn_))))), b202, m199, m200, m201⟩
   refine ⟨.bool false, he179.trans (ret_bool hb185), λ _ A=>Z 6 A rfl λ A=>qe_ ?_⟩
   exact ⟨A.cut _ (fc (A.g 1 rfl) (fc (A.g 2 rfl) (fc (A.g 3 rfl) (fc (A.g 4 rfl) (fc ((A.g 5 rfl).trans (congrArg Value.bool (by simp [hb185]))) fn_))))), b184, m181, m182, m183⟩
  rintro a171 w172 ⟨A, b234, m235, m236, m237⟩
  refine tn_<|sw_<|F1 A rfl fo30_1 λ A=>qs A rfl (dst_ (wn rfl) (A.ev rfl) (A.ev rfl) one3 rfl m237 (nb_ rfl) λ w240 hU241 (m242 : Blk w240 g27 #[J 0, J (-1), J i.a, J i.b, J i.imm, J i.loc, J i.off, J i.index, J i.size, J i.fn, .bool i.acq, .bool i.weak, .bool i.rel, J i.pred, J i.succ, J i.to, .bool i.zero] 30)=>?_)
  have m243 := m235.upd hU241 n33
  have m244 := m236.upd hU241 n34
  have b245 := hU241.below b234 ge32
  intro _ A
  refine qt_<|wr_<|F1 A rfl fo30_2 λ A=>qs A rfl (dst_ (wn rfl) (A.ev rfl) (A.ev rfl) one3 rfl m242 (nb_ rfl) λ w250 hU251 (m252 : Blk w250 g27 #[J 0, J (-1), J (-1), J i.b, J i.imm, J i.loc, J i.off, J i.index, J i.size, J i.fn, .bool i.acq, .bool i.weak, .bool i.rel, J i.pred, J i.succ, J i.to, .bool i.zero] 30)=>?_)
  have m253 := m243.upd hU251 n33
  have m254 := m244.upd hU251 n34
  have b255 := hU251.below b245 ge32
  intro _ A
  refine qe_<|i_norm<|tn_<|ws_<|sw_<|F1 A rfl fo30_0 λ A=>qs A rfl (dld (v := (J i.op)) (wn rfl) (A.ev rfl) one3 (m253.cell rfl) λ _ A=>B2 A rfl (b_eq _ _ i.op 4 false _ (by rw [eq_of_beq hb165]; rfl)) λ A=>Z 1 A rfl λ A=>F1 A rfl fo30_0 λ A=>qs A rfl (dld (v := (J i.op)) (wy rfl rfl (A.g 176 rfl)) (A.ev rfl) one3 (m253.cell rfl) λ _ A=>B2 A rfl (b_eq _ _ i.op 5 false _ (by rw [eq_of_beq hb165]; rfl)) λ A=>Z 2 A rfl λ A=>?_))
  refine F1 A rfl fo30_0 λ A=>qs A rfl (dld (v := (J i.op)) (wy rfl rfl (A.g 181 rfl)) (A.ev rfl) one3 (m253.cell rfl) λ _ A=>B2 A rfl (b_eq _ _ i.op 6 false _ (by rw [eq_of_beq hb165]; rfl)) λ A=>Z 1 A rfl λ A=>qt_<|cf_ A rfl<|wk_<|tn_<|sw_<|qs A rfl (dlr (cs := #[J 0, J (-1), J (-1), J i.b, J i.imm, J i.loc, J i.off, J i.index, J i.size, J i.fn, .bool i.acq, .bool i.weak, .bool i.rel, J i.pred, J i.succ, J i.to, .bool i.zero]) (wn rfl) (A.ev rfl) row30 m252 λ _ A=>Z 1 A rfl λ A=>qs A rfl (dsr (wn rfl) (A.ev rfl) (A.ev rfl) row30 m254 rfl rfl λ w288 hU289 (m290 : Blk w288 g12 #[J 0, J (-1), J (-1), J i.b, J i.imm, J i.loc, J i.off, J i.index, J i.size, J i.fn, .bool i.acq, .bool i.weak, .bool i.rel, J i.pred, J i.succ, J i.to, .bool i.zero] 30)=>?_)))
  have m291 := m253.upd hU289 n18
  have m292 := m252.upd hU289 (Ne.symm n34)
  have b293 := hU289.below b255 ge17
  intro _ A
  refine Z 1 A rfl λ A=>qt_<|we_<|retCT (g := g12) (cs := #[J 0, J (-1), J (-1), J i.b, J i.imm, J i.loc, J i.off, J i.index, J i.size, J i.fn, .bool i.acq, .bool i.weak, .bool i.rel, J i.pred, J i.succ, J i.to, .bool i.zero]) (v := (.bool ((regB i.dst) && (regB i.a)))) rfl A rfl rfl m290 row30 ?_
  exact ⟨ret_two (by simp [insC, bareF, opB, rdB, wrB, hb64, eq_of_beq hb165]) (by first | (simp [fineB, hb64, eq_of_beq hb165, Bool.or_assoc, Bool.and_assoc]; done) | (rw [Bool.eq_iff_iff]; simp [fineB, hb64, eq_of_beq hb165]; done) | (rw [Bool.eq_iff_iff]; simp [fineB, hb64, eq_of_beq hb165]; omega) | grind), b293⟩
 have hq298 := ne_of_beq hb165
 refine B2 A rfl (bq hb165) λ A=>Z 1 A rfl λ A=>qt_<|cf_ A rfl<|sw_ ?_
 rcases eb_ (i.op == 3) with hb303 | hb303
 ·skip
  have hq304 := eq_of_beq hb303
  refine B2 A rfl (bq hb303) λ A=>Z 1 A rfl λ A=>qt_<|ct_ A rfl<|ws_ ?_
  refine jwp (K := λ a309 w310 => St 192 [(1, (.pointer (some ⟨g3, 0, none⟩))), (2, (.pointer (some ⟨g12, 0, none⟩))), (3, (.bool false)), (4, (.pointer (some ⟨g27, 0, none⟩))), (5, (.bool ((regB i.dst) && ((regB i.a) && ((decide (i.fn ≥ 1)) && ((decide (i.fn ≤ 5)) && ((i.b == (-1)) || ((regB i.b) && (i.imm == 0)))))))))] a309 ∧ Below w.heap.size w w310 ∧ Blk w310 g3 (insC i) 30 ∧ Blk w310 g12 #[J 0, J 0, J 0, J 0, J 0, J 0, J 0, J 0, J 0, J 0, .bool false, .bool false, .bool false, J 0, J 0, J 0, .bool false] 30 ∧ Blk w310 g27 #[J 0, J i.dst, J i.a, J i.b, J i.imm, J i.loc, J i.off, J i.index, J i.size, J i.fn, .bool i.acq, .bool i.weak, .bool i.rel, J i.pred, J i.succ, J i.to, .bool i.zero] 30) ?_ ?_
  ·skip
   refine wr_<|F1 A rfl fo30_1 λ A=>qs A rfl (dld (v := (J i.dst)) (wn rfl) (A.ev rfl) one3 (m55.cell rfl) λ _ A=>C A rfl ent116 (rreg_any i.dst w52) ?_)
   rintro e318 w315 ⟨he317, hG316⟩
   have m319 := m55.grow hG316
   have m320 := m56.grow hG316
   have m321 := m54.grow hG316
   have b322 := bls b57 hG316
   rcases eb_ (regB i.dst) with hb323 | hb323
   ·skip
    refine ⟨.bool true, he317.trans (ret_bool hb323), λ _ A=>Z 1 A rfl λ A=>F1 A rfl fo30_2 λ A=>qs A rfl (dld (v := (J i.a)) (wy rfl rfl (A.g 34 rfl)) (A.ev rfl) one3 (m319.cell rfl) λ _ A=>C A rfl ent116 (rreg_any i.a w315) ?_)⟩
    rintro e336 w333 ⟨he335, hG334⟩
    have m337 := m319.grow hG334
    have m338 := m320.grow hG334
    have m339 := m321.grow hG334
    have b340 := bls b322 hG334
    rcases eb_ (regB i.a) with hb341 | hb341
    ·skip
     refine ⟨.bool true, he335.trans (ret_bool hb341), λ _ A=>Z 2 A rfl λ A=>F1 A rfl fo30_9 λ A=>qs A rfl (dld (v := (J i.fn)) (wy rfl rfl (A.g 39 rfl)) (A.ev rfl) one3 (m337.cell rfl) λ _ A=>?_)⟩
     rcases eb_ (decide (i.fn ≥ 1)) with hb353 | hb353
     ·skip
      have hq354 := dt_ hb353
      refine B2 A rfl (bge_ hb353) λ A=>Z 2 A rfl λ A=>F1 A rfl fo30_9 λ A=>qs A rfl (dld (v := (J i.fn)) (wy rfl rfl (A.g 44 rfl)) (A.ev rfl) one3 (m337.cell rfl) λ _ A=>?_)
      rcases eb_ (decide (i.fn ≤ 5)) with hb365 | hb365
      ·skip
       have hq366 := dt_ hb365
       refine B2 A rfl (ble_ hb365) λ A=>Z 2 A rfl λ A=>F1 A rfl fo30_3 λ A=>qs A rfl (dld (v := (J i.b)) (wy rfl rfl (A.g 49 rfl)) (A.ev rfl) one3 (m337.cell rfl) λ _ A=>?_)
       rcases eb_ (i.b == (-1)) with hb377 | hb377
       ·skip
        have hq378 := eq_of_beq hb377
        refine B2 A rfl (bq hb377) λ A=>Z 12 A rfl λ A=>qe_ ?_
        exact ⟨A.cut _ (fc (A.g 1 rfl) (fc (A.g 2 rfl) (fc (A.g 3 rfl) (fc (A.g 4 rfl) (fc ((A.g 5 rfl).trans (congrArg Value.bool (by simp [hb323, hb341, hb353, hb365, hb377]))) fn_))))), b340, m337, m338, m339⟩
       have hq405 := ne_of_beq hb377
       refine B2 A rfl (bq hb377) λ A=>Z 1 A rfl λ A=>F1 A rfl fo30_3 λ A=>qs A rfl (dld (v := (J i.b)) (wy rfl rfl (A.g 53 rfl)) (A.ev rfl) one3 (m337.cell rfl) λ _ A=>C A rfl ent116 (rreg_any i.b w333) ?_)
       rintro e417 w414 ⟨he416, hG415⟩
       have m418 := m337.grow hG415
       have m419 := m338.grow hG415
       have m420 := m339.grow hG415
       have b421 := bls b340 hG415
       rcases eb_ (regB i.b) with hb422 | hb422
       ·skip
        refine ⟨.bool true, he416.trans (ret_bool hb422), λ _ A=>Z 1 A rfl λ A=>F1 A rfl fo30_4 λ A=>qs A rfl (dld (v := (J i.imm)) (wy rfl rfl (A.g 57 rfl)) (A.ev rfl) one3 (m418.cell rfl) λ _ A=>?_)⟩
        rcases eb_ (i.imm == 0) with hb432 | hb432
        ·skip
         have hq433 := eq_of_beq hb432
         refine B2 A rfl (bq hb432) λ A=>Z 4 A rfl λ A=>qe_ ?_
         exact ⟨A.cut _ (fc (A.g 1 rfl) (fc (A.g 2 rfl) (fc (A.g 3 rfl) (fc (A.g 4 rfl) (fc ((A.g 5 rfl).trans (congrArg Value.bool (by simp [hb323, hb341, hb353, hb365, hb377, hb422, hb432]))) fn_))))), b421, m418, m419, m420⟩
        have hq444 := ne_of_beq hb432
        refine B2 A rfl (bq hb432) λ A=>Z 4 A rfl λ A=>qe_ ?_
        exact ⟨A.cut _ (fc (A.g 1 rfl) (fc (A.g 2 rfl) (fc (A.g 3 rfl) (fc (A.g 4 rfl) (fc ((A.g 5 rfl).trans (congrArg Value.bool (by simp [hb323, hb341, hb353, hb365, hb377, hb422, hb432]))) fn_))))), b421, m418, m419, m420⟩
       refine ⟨.bool false, he416.trans (ret_bool hb422), λ _ A=>Z 8 A rfl λ A=>qe_ ?_⟩
       exact ⟨A.cut _ (fc (A.g 1 rfl) (fc (A.g 2 rfl) (fc (A.g 3 rfl) (fc (A.g 4 rfl) (fc ((A.g 5 rfl).trans (congrArg Value.bool (by simp [hb323, hb341, hb353, hb365, hb377, hb422]))) fn_))))), b421, m418, m419, m420⟩
      have hq474 := df_ hb365
      refine B2 A rfl (ble_ hb365) λ A=>Z 17 A rfl λ A=>qe_ ?_
      exact ⟨A.cut _ (fc (A.g 1 rfl) (fc (A.g 2 rfl) (fc (A.g 3 rfl) (fc (A.g 4 rfl) (fc ((A.g 5 rfl).trans (congrArg Value.bool (by simp [hb323, hb341, hb353, hb365]))) fn_))))), b340, m337, m338, m339⟩
     have hq511 := df_ hb353
     refine B2 A rfl (bge_ hb353) λ A=>Z 22 A rfl λ A=>qe_ ?_
     exact ⟨A.cut _ (fc (A.g 1 rfl) (fc (A.g 2 rfl) (fc (A.g 3 rfl) (fc (A.g 4 rfl) (fc ((A.g 5 rfl).trans (congrArg Value.bool (by simp [hb323, hb341, hb353]))) fn_))))), b340, m337, m338, m339⟩
    refine ⟨.bool false, he335.trans (ret_bool hb341), λ _ A=>Z 27 A rfl λ A=>qe_ ?_⟩
    exact ⟨A.cut _ (fc (A.g 1 rfl) (fc (A.g 2 rfl) (fc (A.g 3 rfl) (fc (A.g 4 rfl) (fc ((A.g 5 rfl).trans (congrArg Value.bool (by simp [hb323, hb341]))) fn_))))), b340, m337, m338, m339⟩
   refine ⟨.bool false, he317.trans (ret_bool hb323), λ _ A=>Z 31 A rfl λ A=>qe_ ?_⟩
   exact ⟨A.cut _ (fc (A.g 1 rfl) (fc (A.g 2 rfl) (fc (A.g 3 rfl) (fc (A.g 4 rfl) (fc ((A.g 5 rfl).trans (congrArg Value.bool (by simp [hb323]))) fn_))))), b322, m319, m320, m321⟩
  rintro a309 w310 ⟨A, b681, m682, m683, m684⟩
  refine tn_<|sw_<|F1 A rfl fo30_1 λ A=>qs A rfl (dst_ (wn rfl) (A.ev rfl) (A.ev rfl) one3 rfl m684 (nb_ rfl) λ w687 hU688 (m689 : Blk w687 g27 #[J 0, J (-1), J i.a, J i.b, J i.imm, J i.loc, J i.off, J i.index, J i.size, J i.fn, .bool i.acq, .bool i.weak, .bool i.rel, J i.pred, J i.succ, J i.to, .bool i.zero] 30)=>?_)
  have m690 := m682.upd hU688 n33
  have m691 := m683.upd hU688 n34
  have b692 := hU688.below b681 ge32
  intro _ A
  refine qt_<|sw_<|F1 A rfl fo30_2 λ A=>qs A rfl (dst_ (wn rfl) (A.ev rfl) (A.ev rfl) one3 rfl m689 (nb_ rfl) λ w697 hU698 (m699 : Blk w697 g27 #[J 0, J (-1), J (-1), J i.b, J i.imm, J i.loc, J i.off, J i.index, J i.size, J i.fn, .bool i.acq, .bool i.weak, .bool i.rel, J i.pred, J i.succ, J i.to, .bool i.zero] 30)=>?_)
  have m700 := m690.upd hU698 n33
  have m701 := m691.upd hU698 n34
  have b702 := hU698.below b692 ge32
  intro _ A
  refine qt_<|sw_<|F1 A rfl fo30_3 λ A=>qs A rfl (dst_ (wn rfl) (A.ev rfl) (A.ev rfl) one3 rfl m699 (nb_ rfl) λ w707 hU708 (m709 : Blk w707 g27 #[J 0, J (-1), J (-1), J (-1), J i.imm, J i.loc, J i.off, J i.index, J i.size, J i.fn, .bool i.acq, .bool i.weak, .bool i.rel, J i.pred, J i.succ, J i.to, .bool i.zero] 30)=>?_)
  have m710 := m700.upd hU708 n33
  have m711 := m701.upd hU708 n34
  have b712 := hU708.below b702 ge32
  intro _ A
  refine qt_<|sw_<|F1 A rfl fo30_9 λ A=>qs A rfl (dst_ (wn rfl) (A.ev rfl) (A.ev rfl) one3 rfl m709 (nb_ rfl) λ w717 hU718 (m719 : Blk w717 g27 #[J 0, J (-1), J (-1), J (-1), J i.imm, J i.loc, J i.off, J i.index, J i.size, J 0, .bool i.acq, .bool i.weak, .bool i.rel, J i.pred, J i.succ, J i.to, .bool i.zero] 30)=>?_)
  have m720 := m710.upd hU718 n33
  have m721 := m711.upd hU718 n34
  have b722 := hU718.below b712 ge32
  intro _ A
  refine qt_<|wr_<|F1 A rfl fo30_4 λ A=>qs A rfl (dst_ (wn rfl) (A.ev rfl) (A.ev rfl) one3 rfl m719 (nb_ rfl) λ w727 hU728 (m729 : Blk w727 g27 #[J 0, J (-1), J (-1), J (-1), J 0, J i.loc, J i.off, J i.index, J i.size, J 0, .bool i.acq, .bool i.weak, .bool i.rel, J i.pred, J i.succ, J i.to, .bool i.zero] 30)=>?_)
  have m730 := m720.upd hU728 n33
  have m731 := m721.upd hU728 n34
  have b732 := hU728.below b722 ge32
  intro _ A
  refine qe_<|i_norm<|tn_<|ws_<|sw_<|F1 A rfl fo30_0 λ A=>qs A rfl (dld (v := (J i.op)) (wn rfl) (A.ev rfl) one3 (m730.cell rfl) λ _ A=>B2 A rfl (b_eq _ _ i.op 4 false _ (by rw [eq_of_beq hb303]; rfl)) λ A=>Z 1 A rfl λ A=>F1 A rfl fo30_0 λ A=>qs A rfl (dld (v := (J i.op)) (wy rfl rfl (A.g 176 rfl)) (A.ev rfl) one3 (m730.cell rfl) λ _ A=>B2 A rfl (b_eq _ _ i.op 5 false _ (by rw [eq_of_beq hb303]; rfl)) λ A=>Z 2 A rfl λ A=>?_))
  refine F1 A rfl fo30_0 λ A=>qs A rfl (dld (v := (J i.op)) (wy rfl rfl (A.g 181 rfl)) (A.ev rfl) one3 (m730.cell rfl) λ _ A=>B2 A rfl (b_eq _ _ i.op 6 false _ (by rw [eq_of_beq hb303]; rfl)) λ A=>Z 1 A rfl λ A=>qt_<|cf_ A rfl<|wk_<|tn_<|sw_<|qs A rfl (dlr (cs := #[J 0, J (-1), J (-1), J (-1), J 0, J i.loc, J i.off, J i.index, J i.size, J 0, .bool i.acq, .bool i.weak, .bool i.rel, J i.pred, J i.succ, J i.to, .bool i.zero]) (wn rfl) (A.ev rfl) row30 m729 λ _ A=>Z 1 A rfl λ A=>qs A rfl (dsr (wn rfl) (A.ev rfl) (A.ev rfl) row30 m731 rfl rfl λ w765 hU766 (m767 : Blk w765 g12 #[J 0, J (-1), J (-1), J (-1), J 0, J i.loc, J i.off, J i.index, J i.size, J 0, .bool i.acq, .bool i.weak, .bool i.rel, J i.pred, J i.succ, J i.to, .bool i.zero] 30)=>?_)))
  have m768 := m730.upd hU766 n18
  have m769 := m729.upd hU766 (Ne.symm n34)
  have b770 := hU766.below b732 ge17
  intro _ A
  refine Z 1 A rfl λ A=>qt_<|we_<|retCT (g := g12) (cs := #[J 0, J (-1), J (-1), J (-1), J 0, J i.loc, J i.off, J i.index, J i.size, J 0, .bool i.acq, .bool i.weak, .bool i.rel, J i.pred, J i.succ, J i.to, .bool i.zero]) (v := (.bool ((regB i.dst) && ((regB i.a) && ((decide (i.fn ≥ 1)) && ((decide (i.fn ≤ 5)) && ((i.b == (-1)) || ((regB i.b) && (i.imm == 0))))))))) rfl A rfl rfl m767 row30 ?_
  exact ⟨ret_two (by simp [insC, bareF, opB, rdB, wrB, hb64, hb165, eq_of_beq hb303]) (by first | (simp [fineB, hb64, hb165, eq_of_beq hb303, Bool.or_assoc, Bool.and_assoc]; done) | (rw [Bool.eq_iff_iff]; simp [fineB, hb64, hb165, eq_of_beq hb303]; done) | (rw [Bool.eq_iff_iff]; simp [fineB, hb64, hb165, eq_of_beq hb303]; omega) | grind), b770⟩
 have hq775 := ne_of_beq hb303
 refine B2 A rfl (bq hb303) λ A=>Z 1 A rfl λ A=>qt_<|cf_ A rfl<|sw_ ?_
 rcases eb_ (i.op == 4) with hb780 | hb780
 ·skip
  have hq781 := eq_of_beq hb780
  refine B2 A rfl (bq hb780) λ A=>Z 1 A rfl λ A=>qt_<|ct_ A rfl<|ws_ ?_
  refine jwp (K := λ a786 w787 => St 192 [(1, (.pointer (some ⟨g3, 0, none⟩))), (2, (.pointer (some ⟨g12, 0, none⟩))), (3, (.bool false)), (4, (.pointer (some ⟨g27, 0, none⟩))), (5, (.bool ((regB i.dst) && ((plcB i) && (cond i.acq (!i.weak) true)))))] a786 ∧ Below w.heap.size w w787 ∧ Blk w787 g3 (insC i) 30 ∧ Blk w787 g12 #[J 0, J 0, J 0, J 0, J 0, J 0, J 0, J 0, J 0, J 0, .bool false, .bool false, .bool false, J 0, J 0, J 0, .bool false] 30 ∧ Blk w787 g27 #[J 0, J i.dst, J i.a, J i.b, J i.imm, J i.loc, J i.off, J i.index, J i.size, J i.fn, .bool i.acq, .bool i.weak, .bool i.rel, J i.pred, J i.succ, J i.to, .bool i.zero] 30) ?_ ?_
  ·skip
   refine wr_<|F1 A rfl fo30_1 λ A=>qs A rfl (dld (v := (J i.dst)) (wn rfl) (A.ev rfl) one3 (m55.cell rfl) λ _ A=>C A rfl ent116 (rreg_any i.dst w52) ?_)
   rintro e795 w792 ⟨he794, hG793⟩
   have m796 := m55.grow hG793
   have m797 := m56.grow hG793
   have m798 := m54.grow hG793
   have b799 := bls b57 hG793
   rcases eb_ (regB i.dst) with hb800 | hb800
   ·skip
    refine ⟨.bool true, he794.trans (ret_bool hb800), λ _ A=>Z 1 A rfl λ A=>qs A rfl (dlr (cs := (insC i)) (wy rfl rfl (A.g 74 rfl)) (A.ev rfl) row30 m796 λ _ A=>C A rfl ent117 (place3_any i w792) ?_)⟩
    rintro e811 w808 ⟨he810, hG809⟩
    have m812 := m796.grow hG809
    have m813 := m797.grow hG809
    have m814 := m798.grow hG809
    have b815 := bls b799 hG809
    rcases eb_ (plcB i) with hb816 | hb816
    ·skip
     refine ⟨.bool true, he810.trans (ret_bool hb816), λ _ A=>Z 2 A rfl λ A=>F1 A rfl fo30_10 λ A=>qs A rfl (dld (v := (.bool i.acq)) (wy rfl rfl (A.g 78 rfl)) (A.ev rfl) one4 (m812.cell rfl) λ _ A=>Z 1 A rfl λ A=>?_)⟩
     rcases eb_ (i.acq) with hb830 | hb830
     ·skip
      have A := A.shadow (t := 81) rfl hb830
      refine F1 A rfl fo30_11 λ A=>qs A rfl (dld (v := (.bool i.weak)) (wy rfl rfl (A.g 81 rfl)) (A.ev rfl) one4 (m812.cell rfl) λ _ A=>Z 1 A rfl λ A=>?_)
      rcases eb_ (i.weak) with hb839 | hb839
      ·skip
       have A := A.shadow (t := 84) rfl hb839
       refine Z 3 A rfl λ A=>qe_ ?_
       exact ⟨A.cut _ (fc (A.g 1 rfl) (fc (A.g 2 rfl) (fc (A.g 3 rfl) (fc (A.g 4 rfl) (fc ((A.g 5 rfl).trans (congrArg Value.bool (by simp [hb800, hb816, hb830, hb839]))) fn_))))), b815, m812, m813, m814⟩
      have A := A.shadow (t := 84) rfl hb839
      refine Z 3 A rfl λ A=>qe_ ?_
      exact ⟨A.cut _ (fc (A.g 1 rfl) (fc (A.g 2 rfl) (fc (A.g 3 rfl) (fc (A.g 4 rfl) (fc ((A.g 5 rfl).trans (congrArg Value.bool (by simp [hb800, hb816, hb830, hb839]))) fn_))))), b815, m812, m813, m814⟩
     have A := A.shadow (t := 81) rfl hb830
     refine Z 6 A rfl λ A=>qe_ ?_
     exact ⟨A.cut _ (fc (A.g 1 rfl) (fc (A.g 2 rfl) (fc (A.g 3 rfl) (fc (A.g 4 rfl) (fc ((A.g 5 rfl).trans (congrArg Value.bool (by simp [hb800, hb816, hb830]))) fn_))))), b815, m812, m813, m814⟩
    refine ⟨.bool false, he810.trans (ret_bool hb816), λ _ A=>Z 11 A rfl λ A=>qe_ ?_⟩
    exact ⟨A.cut _ (fc (A.g 1 rfl) (fc (A.g 2 rfl) (fc (A.g 3 rfl) (fc (A.g 4 rfl) (fc ((A.g 5 rfl).trans (congrArg Value.bool (by simp [hb800, hb816]))) fn_))))), b815, m812, m813, m814⟩
   refine ⟨.bool false, he794.trans (ret_bool hb800), λ _ A=>Z 14 A rfl λ A=>qe_ ?_⟩
   exact ⟨A.cut _ (fc (A.g 1 rfl) (fc (A.g 2 rfl) (fc (A.g 3 rfl) (fc (A.g 4 rfl) (fc ((A.g 5 rfl).trans (congrArg Value.bool (by simp [hb800]))) fn_))))), b799, m796, m797, m798⟩
  rintro a786 w787 ⟨A, b927, m928, m929, m930⟩
  refine tn_<|sw_<|F1 A rfl fo30_1 λ A=>qs A rfl (dst_ (wn rfl) (A.ev rfl) (A.ev rfl) one3 rfl m930 (nb_ rfl) λ w933 hU934 (m935 : Blk w933 g27 #[J 0, J (-1), J i.a, J i.b, J i.imm, J i.loc, J i.off, J i.index, J i.size, J i.fn, .bool i.acq, .bool i.weak, .bool i.rel, J i.pred, J i.succ, J i.to, .bool i.zero] 30)=>?_)
  have m936 := m928.upd hU934 n33
  have m937 := m929.upd hU934 n34
  have b938 := hU934.below b927 ge32
  intro _ A
  refine qt_<|sw_<|F1 A rfl fo30_10 λ A=>qs A rfl (dst_ (wn rfl) (A.ev rfl) (A.ev rfl) one4 rfl m935 (nb_ rfl) λ w943 hU944 (m945 : Blk w943 g27 #[J 0, J (-1), J i.a, J i.b, J i.imm, J i.loc, J i.off, J i.index, J i.size, J i.fn, .bool false, .bool i.weak, .bool i.rel, J i.pred, J i.succ, J i.to, .bool i.zero] 30)=>?_)
  have m946 := m936.upd hU944 n33
  have m947 := m937.upd hU944 n34
  have b948 := hU944.below b938 ge32
  intro _ A
  refine qt_<|wr_<|F1 A rfl fo30_11 λ A=>qs A rfl (dst_ (wn rfl) (A.ev rfl) (A.ev rfl) one4 rfl m945 (nb_ rfl) λ w953 hU954 (m955 : Blk w953 g27 #[J 0, J (-1), J i.a, J i.b, J i.imm, J i.loc, J i.off, J i.index, J i.size, J i.fn, .bool false, .bool false, .bool i.rel, J i.pred, J i.succ, J i.to, .bool i.zero] 30)=>?_)
  have m956 := m946.upd hU954 n33
  have m957 := m947.upd hU954 n34
  have b958 := hU954.below b948 ge32
  intro _ A
  refine qe_<|i_norm<|tn_<|ws_<|sw_<|F1 A rfl fo30_0 λ A=>qs A rfl (dld (v := (J i.op)) (wn rfl) (A.ev rfl) one3 (m956.cell rfl) λ _ A=>B2 A rfl (bq hb780) λ A=>Z 10 A rfl λ A=>qt_<|ct_ A rfl<|ws_ ?_)
  refine wr_<|F1 A rfl fo30_5 λ A=>qs A rfl (dst_ (wn rfl) (A.ev rfl) (A.ev rfl) one3 rfl m955 (nb_ rfl) λ w989 hU990 (m991 : Blk w989 g27 #[J 0, J (-1), J i.a, J i.b, J i.imm, J 0, J i.off, J i.index, J i.size, J i.fn, .bool false, .bool false, .bool i.rel, J i.pred, J i.succ, J i.to, .bool i.zero] 30)=>?_)
  have m992 := m956.upd hU990 n33
  have m993 := m957.upd hU990 n34
  have b994 := hU990.below b958 ge32
  intro _ A
  refine qt_<|sw_<|F1 A rfl fo30_6 λ A=>qs A rfl (dst_ (wn rfl) (A.ev rfl) (A.ev rfl) one3 rfl m991 (nb_ rfl) λ w999 hU1000 (m1001 : Blk w999 g27 #[J 0, J (-1), J i.a, J i.b, J i.imm, J 0, J 0, J i.index, J i.size, J i.fn, .bool false, .bool false, .bool i.rel, J i.pred, J i.succ, J i.to, .bool i.zero] 30)=>?_)
  have m1002 := m992.upd hU1000 n33
  have m1003 := m993.upd hU1000 n34
  have b1004 := hU1000.below b994 ge32
  intro _ A
  refine qt_<|sw_<|F1 A rfl fo30_7 λ A=>qs A rfl (dst_ (wn rfl) (A.ev rfl) (A.ev rfl) one3 rfl m1001 (nb_ rfl) λ w1009 hU1010 (m1011 : Blk w1009 g27 #[J 0, J (-1), J i.a, J i.b, J i.imm, J 0, J 0, J (-1), J i.size, J i.fn, .bool false, .bool false, .bool i.rel, J i.pred, J i.succ, J i.to, .bool i.zero] 30)=>?_)
  have m1012 := m1002.upd hU1010 n33
  have m1013 := m1003.upd hU1010 n34
  have b1014 := hU1010.below b1004 ge32
  intro _ A
  refine qt_<|wr_<|F1 A rfl fo30_8 λ A=>qs A rfl (dst_ (wn rfl) (A.ev rfl) (A.ev rfl) one3 rfl m1011 (nb_ rfl) λ w1019 hU1020 (m1021 : Blk w1019 g27 #[J 0, J (-1), J i.a, J i.b, J i.imm, J 0, J 0, J (-1), J 0, J i.fn, .bool false, .bool false, .bool i.rel, J i.pred, J i.succ, J i.to, .bool i.zero] 30)=>?_)
  have m1022 := m1012.upd hU1020 n33
  have m1023 := m1013.upd hU1020 n34
  have b1024 := hU1020.below b1014 ge32
  intro _ A
  refine qt_<|sw_<|qs A rfl (dlr (cs := #[J 0, J (-1), J i.a, J i.b, J i.imm, J 0, J 0, J (-1), J 0, J i.fn, .bool false, .bool false, .bool i.rel, J i.pred, J i.succ, J i.to, .bool i.zero]) (wn rfl) (A.ev rfl) row30 m1021 λ _ A=>Z 1 A rfl λ A=>qs A rfl (dsr (wn rfl) (A.ev rfl) (A.ev rfl) row30 m1023 rfl rfl λ w1031 hU1032 (m1033 : Blk w1031 g12 #[J 0, J (-1), J i.a, J i.b, J i.imm, J 0, J 0, J (-1), J 0, J i.fn, .bool false, .bool false, .bool i.rel, J i.pred, J i.succ, J i.to, .bool i.zero] 30)=>?_))
  have m1034 := m1022.upd hU1032 n18
  have m1035 := m1021.upd hU1032 (Ne.symm n34)
  have b1036 := hU1032.below b1024 ge17
  intro _ A
  refine Z 1 A rfl λ A=>qt_<|we_<|retCT (g := g12) (cs := #[J 0, J (-1), J i.a, J i.b, J i.imm, J 0, J 0, J (-1), J 0, J i.fn, .bool false, .bool false, .bool i.rel, J i.pred, J i.succ, J i.to, .bool i.zero]) (v := (.bool ((regB i.dst) && ((plcB i) && (cond i.acq (!i.weak) true))))) rfl A rfl rfl m1033 row30 ?_
  exact ⟨ret_two (by simp [insC, bareF, opB, rdB, wrB, hb64, hb165, hb303, eq_of_beq hb780]) (by first | (simp [fineB, hb64, hb165, hb303, eq_of_beq hb780, Bool.or_assoc, Bool.and_assoc]; done) | (rw [Bool.eq_iff_iff]; simp [fineB, hb64, hb165, hb303, eq_of_beq hb780]; done) | (rw [Bool.eq_iff_iff]; simp [fineB, hb64, hb165, hb303, eq_of_beq hb780]; omega) | grind), b1036⟩
 have hq1041 := ne_of_beq hb780
 refine B2 A rfl (bq hb780) λ A=>Z 1 A rfl λ A=>qt_<|cf_ A rfl<|sw_ ?_
 rcases eb_ (i.op == 5) with hb1046 | hb1046
 ·skip
  have hq1047 := eq_of_beq hb1046
  refine B2 A rfl (bq hb1046) λ A=>Z 1 A rfl λ A=>qt_<|ct_ A rfl<|ws_ ?_
  refine jwp (K := λ a1052 w1053 => St 192 [(1, (.pointer (some ⟨g3, 0, none⟩))), (2, (.pointer (some ⟨g12, 0, none⟩))), (3, (.bool false)), (4, (.pointer (some ⟨g27, 0, none⟩))), (5, (.bool ((plcB i) && ((i.a == (-1)) || ((regB i.a) && (i.imm == 0))))))] a1052 ∧ Below w.heap.size w w1053 ∧ Blk w1053 g3 (insC i) 30 ∧ Blk w1053 g12 #[J 0, J 0, J 0, J 0, J 0, J 0, J 0, J 0, J 0, J 0, .bool false, .bool false, .bool false, J 0, J 0, J 0, .bool false] 30 ∧ Blk w1053 g27 #[J 0, J i.dst, J i.a, J i.b, J i.imm, J i.loc, J i.off, J i.index, J i.size, J i.fn, .bool i.acq, .bool i.weak, .bool i.rel, J i.pred, J i.succ, J i.to, .bool i.zero] 30) ?_ ?_
  ·skip
   refine wr_<|qs A rfl (dlr (cs := (insC i)) (wn rfl) (A.ev rfl) row30 m55 λ _ A=>C A rfl ent117 (place3_any i w52) ?_)
   rintro e1059 w1056 ⟨he1058, hG1057⟩
   have m1060 := m55.grow hG1057
   have m1061 := m56.grow hG1057
   have m1062 := m54.grow hG1057
   have b1063 := bls b57 hG1057
   rcases eb_ (plcB i) with hb1064 | hb1064
   ·skip
    refine ⟨.bool true, he1058.trans (ret_bool hb1064), λ _ A=>Z 1 A rfl λ A=>F1 A rfl fo30_2 λ A=>qs A rfl (dld (v := (J i.a)) (wy rfl rfl (A.g 94 rfl)) (A.ev rfl) one3 (m1060.cell rfl) λ _ A=>?_)⟩
    rcases eb_ (i.a == (-1)) with hb1074 | hb1074
    ·skip
     have hq1075 := eq_of_beq hb1074
     refine B2 A rfl (bq hb1074) λ A=>Z 12 A rfl λ A=>qe_ ?_
     exact ⟨A.cut _ (fc (A.g 1 rfl) (fc (A.g 2 rfl) (fc (A.g 3 rfl) (fc (A.g 4 rfl) (fc ((A.g 5 rfl).trans (congrArg Value.bool (by simp [hb1064, hb1074]))) fn_))))), b1063, m1060, m1061, m1062⟩
    have hq1102 := ne_of_beq hb1074
    refine B2 A rfl (bq hb1074) λ A=>Z 1 A rfl λ A=>F1 A rfl fo30_2 λ A=>qs A rfl (dld (v := (J i.a)) (wy rfl rfl (A.g 98 rfl)) (A.ev rfl) one3 (m1060.cell rfl) λ _ A=>C A rfl ent116 (rreg_any i.a w1056) ?_)
    rintro e1114 w1111 ⟨he1113, hG1112⟩
    have m1115 := m1060.grow hG1112
    have m1116 := m1061.grow hG1112
    have m1117 := m1062.grow hG1112
    have b1118 := bls b1063 hG1112
    rcases eb_ (regB i.a) with hb1119 | hb1119
    ·skip
     refine ⟨.bool true, he1113.trans (ret_bool hb1119), λ _ A=>Z 1 A rfl λ A=>F1 A rfl fo30_4 λ A=>qs A rfl (dld (v := (J i.imm)) (wy rfl rfl (A.g 102 rfl)) (A.ev rfl) one3 (m1115.cell rfl) λ _ A=>?_)⟩
     rcases eb_ (i.imm == 0) with hb1129 | hb1129
     ·skip
      have hq1130 := eq_of_beq hb1129
      refine B2 A rfl (bq hb1129) λ A=>Z 4 A rfl λ A=>qe_ ?_
      exact ⟨A.cut _ (fc (A.g 1 rfl) (fc (A.g 2 rfl) (fc (A.g 3 rfl) (fc (A.g 4 rfl) (fc ((A.g 5 rfl).trans (congrArg Value.bool (by simp [hb1064, hb1074, hb1119, hb1129]))) fn_))))), b1118, m1115, m1116, m1117⟩
     have hq1141 := ne_of_beq hb1129
     refine B2 A rfl (bq hb1129) λ A=>Z 4 A rfl λ A=>qe_ ?_
     exact ⟨A.cut _ (fc (A.g 1 rfl) (fc (A.g 2 rfl) (fc (A.g 3 rfl) (fc (A.g 4 rfl) (fc ((A.g 5 rfl).trans (congrArg Value.bool (by simp [hb1064, hb1074, hb1119, hb1129]))) fn_))))), b1118, m1115, m1116, m1117⟩
    refine ⟨.bool false, he1113.trans (ret_bool hb1119), λ _ A=>Z 8 A rfl λ A=>qe_ ?_⟩
    exact ⟨A.cut _ (fc (A.g 1 rfl) (fc (A.g 2 rfl) (fc (A.g 3 rfl) (fc (A.g 4 rfl) (fc ((A.g 5 rfl).trans (congrArg Value.bool (by simp [hb1064, hb1074, hb1119]))) fn_))))), b1118, m1115, m1116, m1117⟩
   refine ⟨.bool false, he1058.trans (ret_bool hb1064), λ _ A=>Z 16 A rfl λ A=>qe_ ?_⟩
   exact ⟨A.cut _ (fc (A.g 1 rfl) (fc (A.g 2 rfl) (fc (A.g 3 rfl) (fc (A.g 4 rfl) (fc ((A.g 5 rfl).trans (congrArg Value.bool (by simp [hb1064]))) fn_))))), b1063, m1060, m1061, m1062⟩
  rintro a1052 w1053 ⟨A, b1207, m1208, m1209, m1210⟩
  refine tn_<|sw_<|F1 A rfl fo30_2 λ A=>qs A rfl (dst_ (wn rfl) (A.ev rfl) (A.ev rfl) one3 rfl m1210 (nb_ rfl) λ w1213 hU1214 (m1215 : Blk w1213 g27 #[J 0, J i.dst, J (-1), J i.b, J i.imm, J i.loc, J i.off, J i.index, J i.size, J i.fn, .bool i.acq, .bool i.weak, .bool i.rel, J i.pred, J i.succ, J i.to, .bool i.zero] 30)=>?_)
  have m1216 := m1208.upd hU1214 n33
  have m1217 := m1209.upd hU1214 n34
  have b1218 := hU1214.below b1207 ge32
  intro _ A
  refine qt_<|sw_<|F1 A rfl fo30_4 λ A=>qs A rfl (dst_ (wn rfl) (A.ev rfl) (A.ev rfl) one3 rfl m1215 (nb_ rfl) λ w1223 hU1224 (m1225 : Blk w1223 g27 #[J 0, J i.dst, J (-1), J i.b, J 0, J i.loc, J i.off, J i.index, J i.size, J i.fn, .bool i.acq, .bool i.weak, .bool i.rel, J i.pred, J i.succ, J i.to, .bool i.zero] 30)=>?_)
  have m1226 := m1216.upd hU1224 n33
  have m1227 := m1217.upd hU1224 n34
  have b1228 := hU1224.below b1218 ge32
  intro _ A
  refine qt_<|wr_<|F1 A rfl fo30_12 λ A=>qs A rfl (dst_ (wn rfl) (A.ev rfl) (A.ev rfl) one4 rfl m1225 (nb_ rfl) λ w1233 hU1234 (m1235 : Blk w1233 g27 #[J 0, J i.dst, J (-1), J i.b, J 0, J i.loc, J i.off, J i.index, J i.size, J i.fn, .bool i.acq, .bool i.weak, .bool false, J i.pred, J i.succ, J i.to, .bool i.zero] 30)=>?_)
  have m1236 := m1226.upd hU1234 n33
  have m1237 := m1227.upd hU1234 n34
  have b1238 := hU1234.below b1228 ge32
  intro _ A
  refine qe_<|i_norm<|tn_<|ws_<|sw_<|F1 A rfl fo30_0 λ A=>qs A rfl (dld (v := (J i.op)) (wn rfl) (A.ev rfl) one3 (m1236.cell rfl) λ _ A=>B2 A rfl (bq hb780) λ A=>Z 1 A rfl λ A=>F1 A rfl fo30_0 λ A=>qs A rfl (dld (v := (J i.op)) (wy rfl rfl (A.g 176 rfl)) (A.ev rfl) one3 (m1236.cell rfl) λ _ A=>B2 A rfl (bq hb1046) λ A=>Z 6 A rfl λ A=>?_))
  refine qt_<|ct_ A rfl<|sw_<|F1 A rfl fo30_5 λ A=>qs A rfl (dst_ (wn rfl) (A.ev rfl) (A.ev rfl) one3 rfl m1235 (nb_ rfl) λ w1269 hU1270 (m1271 : Blk w1269 g27 #[J 0, J i.dst, J (-1), J i.b, J 0, J 0, J i.off, J i.index, J i.size, J i.fn, .bool i.acq, .bool i.weak, .bool false, J i.pred, J i.succ, J i.to, .bool i.zero] 30)=>?_)
  have m1272 := m1236.upd hU1270 n33
  have m1273 := m1237.upd hU1270 n34
  have b1274 := hU1270.below b1238 ge32
  intro _ A
  refine qt_<|sw_<|F1 A rfl fo30_6 λ A=>qs A rfl (dst_ (wn rfl) (A.ev rfl) (A.ev rfl) one3 rfl m1271 (nb_ rfl) λ w1279 hU1280 (m1281 : Blk w1279 g27 #[J 0, J i.dst, J (-1), J i.b, J 0, J 0, J 0, J i.index, J i.size, J i.fn, .bool i.acq, .bool i.weak, .bool false, J i.pred, J i.succ, J i.to, .bool i.zero] 30)=>?_)
  have m1282 := m1272.upd hU1280 n33
  have m1283 := m1273.upd hU1280 n34
  have b1284 := hU1280.below b1274 ge32
  intro _ A
  refine qt_<|sw_<|F1 A rfl fo30_7 λ A=>qs A rfl (dst_ (wn rfl) (A.ev rfl) (A.ev rfl) one3 rfl m1281 (nb_ rfl) λ w1289 hU1290 (m1291 : Blk w1289 g27 #[J 0, J i.dst, J (-1), J i.b, J 0, J 0, J 0, J (-1), J i.size, J i.fn, .bool i.acq, .bool i.weak, .bool false, J i.pred, J i.succ, J i.to, .bool i.zero] 30)=>?_)
  have m1292 := m1282.upd hU1290 n33
  have m1293 := m1283.upd hU1290 n34
  have b1294 := hU1290.below b1284 ge32
  intro _ A
  refine qt_<|wr_<|F1 A rfl fo30_8 λ A=>qs A rfl (dst_ (wn rfl) (A.ev rfl) (A.ev rfl) one3 rfl m1291 (nb_ rfl) λ w1299 hU1300 (m1301 : Blk w1299 g27 #[J 0, J i.dst, J (-1), J i.b, J 0, J 0, J 0, J (-1), J 0, J i.fn, .bool i.acq, .bool i.weak, .bool false, J i.pred, J i.succ, J i.to, .bool i.zero] 30)=>?_)
  have m1302 := m1292.upd hU1300 n33
  have m1303 := m1293.upd hU1300 n34
  have b1304 := hU1300.below b1294 ge32
  intro _ A
  refine qt_<|sw_<|qs A rfl (dlr (cs := #[J 0, J i.dst, J (-1), J i.b, J 0, J 0, J 0, J (-1), J 0, J i.fn, .bool i.acq, .bool i.weak, .bool false, J i.pred, J i.succ, J i.to, .bool i.zero]) (wn rfl) (A.ev rfl) row30 m1301 λ _ A=>Z 1 A rfl λ A=>qs A rfl (dsr (wn rfl) (A.ev rfl) (A.ev rfl) row30 m1303 rfl rfl λ w1311 hU1312 (m1313 : Blk w1311 g12 #[J 0, J i.dst, J (-1), J i.b, J 0, J 0, J 0, J (-1), J 0, J i.fn, .bool i.acq, .bool i.weak, .bool false, J i.pred, J i.succ, J i.to, .bool i.zero] 30)=>?_))
  have m1314 := m1302.upd hU1312 n18
  have m1315 := m1301.upd hU1312 (Ne.symm n34)
  have b1316 := hU1312.below b1304 ge17
  intro _ A
  refine Z 1 A rfl λ A=>qt_<|we_<|retCT (g := g12) (cs := #[J 0, J i.dst, J (-1), J i.b, J 0, J 0, J 0, J (-1), J 0, J i.fn, .bool i.acq, .bool i.weak, .bool false, J i.pred, J i.succ, J i.to, .bool i.zero]) (v := (.bool ((plcB i) && ((i.a == (-1)) || ((regB i.a) && (i.imm == 0)))))) rfl A rfl rfl m1313 row30 ?_
  exact ⟨ret_two (by simp [insC, bareF, opB, rdB, wrB, hb64, hb165, hb303, hb780, eq_of_beq hb1046]) (by first | (simp [fineB, hb64, hb165, hb303, hb780, eq_of_beq hb1046, Bool.or_assoc, Bool.and_assoc]; done) | (rw [Bool.eq_iff_iff]; simp [fineB, hb64, hb165, hb303, hb780, eq_of_beq hb1046]; done) | (rw [Bool.eq_iff_iff]; simp [fineB, hb64, hb165, hb303, hb780, eq_of_beq hb1046]; omega) | grind), b1316⟩
 have hq1321 := ne_of_beq hb1046
 refine B2 A rfl (bq hb1046) λ A=>Z 1 A rfl λ A=>qt_<|cf_ A rfl<|sw_ ?_
 rcases eb_ (i.op == 6) with hb1326 | hb1326
 ·skip
  have hq1327 := eq_of_beq hb1326
  refine B2 A rfl (bq hb1326) λ A=>Z 1 A rfl λ A=>qt_<|ct_ A rfl<|ws_ ?_
  refine jwp (K := λ a1332 w1333 => St 192 [(1, (.pointer (some ⟨g3, 0, none⟩))), (2, (.pointer (some ⟨g12, 0, none⟩))), (3, (.bool false)), (4, (.pointer (some ⟨g27, 0, none⟩))), (5, (.bool ((regB i.dst) && ((regB i.a) && ((plcB i) && ((i.fn == 6) || (i.fn == 1)))))))] a1332 ∧ Below w.heap.size w w1333 ∧ Blk w1333 g3 (insC i) 30 ∧ Blk w1333 g12 #[J 0, J 0, J 0, J 0, J 0, J 0, J 0, J 0, J 0, J 0, .bool false, .bool false, .bool false, J 0, J 0, J 0, .bool false] 30 ∧ Blk w1333 g27 #[J 0, J i.dst, J i.a, J i.b, J i.imm, J i.loc, J i.off, J i.index, J i.size, J i.fn, .bool i.acq, .bool i.weak, .bool i.rel, J i.pred, J i.succ, J i.to, .bool i.zero] 30) ?_ ?_
  ·skip
   refine wr_<|F1 A rfl fo30_1 λ A=>qs A rfl (dld (v := (J i.dst)) (wn rfl) (A.ev rfl) one3 (m55.cell rfl) λ _ A=>C A rfl ent116 (rreg_any i.dst w52) ?_)
   rintro e1341 w1338 ⟨he1340, hG1339⟩
   have m1342 := m55.grow hG1339
   have m1343 := m56.grow hG1339
   have m1344 := m54.grow hG1339
   have b1345 := bls b57 hG1339
   rcases eb_ (regB i.dst) with hb1346 | hb1346
   ·skip
    refine ⟨.bool true, he1340.trans (ret_bool hb1346), λ _ A=>Z 1 A rfl λ A=>F1 A rfl fo30_2 λ A=>qs A rfl (dld (v := (J i.a)) (wy rfl rfl (A.g 117 rfl)) (A.ev rfl) one3 (m1342.cell rfl) λ _ A=>C A rfl ent116 (rreg_any i.a w1338) ?_)⟩
    rintro e1359 w1356 ⟨he1358, hG1357⟩
    have m1360 := m1342.grow hG1357
    have m1361 := m1343.grow hG1357
    have m1362 := m1344.grow hG1357
    have b1363 := bls b1345 hG1357
    rcases eb_ (regB i.a) with hb1364 | hb1364
    ·skip
     refine ⟨.bool true, he1358.trans (ret_bool hb1364), λ _ A=>Z 2 A rfl λ A=>qs A rfl (dlr (cs := (insC i)) (wy rfl rfl (A.g 122 rfl)) (A.ev rfl) row30 m1360 λ _ A=>C A rfl ent117 (place3_any i w1356) ?_)⟩
     rintro e1377 w1374 ⟨he1376, hG1375⟩
     have m1378 := m1360.grow hG1375
     have m1379 := m1361.grow hG1375
     have m1380 := m1362.grow hG1375
     have b1381 := bls b1363 hG1375
     rcases eb_ (plcB i) with hb1382 | hb1382
     ·skip
      refine ⟨.bool true, he1376.trans (ret_bool hb1382), λ _ A=>Z 2 A rfl λ A=>F1 A rfl fo30_9 λ A=>qs A rfl (dld (v := (J i.fn)) (wy rfl rfl (A.g 126 rfl)) (A.ev rfl) one3 (m1378.cell rfl) λ _ A=>?_)⟩
      rcases eb_ (i.fn == 6) with hb1394 | hb1394
      ·skip
       have hq1395 := eq_of_beq hb1394
       refine B2 A rfl (bq hb1394) λ A=>Z 7 A rfl λ A=>qe_ ?_
       exact ⟨A.cut _ (fc (A.g 1 rfl) (fc (A.g 2 rfl) (fc (A.g 3 rfl) (fc (A.g 4 rfl) (fc ((A.g 5 rfl).trans (congrArg Value.bool (by simp [hb1346, hb1364, hb1382, hb1394]))) fn_))))), b1381, m1378, m1379, m1380⟩
      have hq1412 := ne_of_beq hb1394
      refine B2 A rfl (bq hb1394) λ A=>Z 1 A rfl λ A=>F1 A rfl fo30_9 λ A=>qs A rfl (dld (v := (J i.fn)) (wy rfl rfl (A.g 130 rfl)) (A.ev rfl) one3 (m1378.cell rfl) λ _ A=>?_)
      rcases eb_ (i.fn == 1) with hb1421 | hb1421
      ·skip
       have hq1422 := eq_of_beq hb1421
       refine B2 A rfl (bq hb1421) λ A=>Z 3 A rfl λ A=>qe_ ?_
       exact ⟨A.cut _ (fc (A.g 1 rfl) (fc (A.g 2 rfl) (fc (A.g 3 rfl) (fc (A.g 4 rfl) (fc ((A.g 5 rfl).trans (congrArg Value.bool (by simp [hb1346, hb1364, hb1382, hb1394, hb1421]))) fn_))))), b1381, m1378, m1379, m1380⟩
      have hq1431 := ne_of_beq hb1421
      refine B2 A rfl (bq hb1421) λ A=>Z 3 A rfl λ A=>qe_ ?_
      exact ⟨A.cut _ (fc (A.g 1 rfl) (fc (A.g 2 rfl) (fc (A.g 3 rfl) (fc (A.g 4 rfl) (fc ((A.g 5 rfl).trans (congrArg Value.bool (by simp [hb1346, hb1364, hb1382, hb1394, hb1421]))) fn_))))), b1381, m1378, m1379, m1380⟩
     refine ⟨.bool false, he1376.trans (ret_bool hb1382), λ _ A=>Z 12 A rfl λ A=>qe_ ?_⟩
     exact ⟨A.cut _ (fc (A.g 1 rfl) (fc (A.g 2 rfl) (fc (A.g 3 rfl) (fc (A.g 4 rfl) (fc ((A.g 5 rfl).trans (congrArg Value.bool (by simp [hb1346, hb1364, hb1382]))) fn_))))), b1381, m1378, m1379, m1380⟩
    refine ⟨.bool false, he1358.trans (ret_bool hb1364), λ _ A=>Z 16 A rfl λ A=>qe_ ?_⟩
    exact ⟨A.cut _ (fc (A.g 1 rfl) (fc (A.g 2 rfl) (fc (A.g 3 rfl) (fc (A.g 4 rfl) (fc ((A.g 5 rfl).trans (congrArg Value.bool (by simp [hb1346, hb1364]))) fn_))))), b1363, m1360, m1361, m1362⟩
   refine ⟨.bool false, he1340.trans (ret_bool hb1346), λ _ A=>Z 20 A rfl λ A=>qe_ ?_⟩
   exact ⟨A.cut _ (fc (A.g 1 rfl) (fc (A.g 2 rfl) (fc (A.g 3 rfl) (fc (A.g 4 rfl) (fc ((A.g 5 rfl).trans (congrArg Value.bool (by simp [hb1346]))) fn_))))), b1345, m1342, m1343, m1344⟩
  rintro a1332 w1333 ⟨A, b1546, m1547, m1548, m1549⟩
  refine tn_<|sw_<|F1 A rfl fo30_1 λ A=>qs A rfl (dst_ (wn rfl) (A.ev rfl) (A.ev rfl) one3 rfl m1549 (nb_ rfl) λ w1552 hU1553 (m1554 : Blk w1552 g27 #[J 0, J (-1), J i.a, J i.b, J i.imm, J i.loc, J i.off, J i.index, J i.size, J i.fn, .bool i.acq, .bool i.weak, .bool i.rel, J i.pred, J i.succ, J i.to, .bool i.zero] 30)=>?_)
  have m1555 := m1547.upd hU1553 n33
  have m1556 := m1548.upd hU1553 n34
  have b1557 := hU1553.below b1546 ge32
  intro _ A
  refine qt_<|sw_<|F1 A rfl fo30_2 λ A=>qs A rfl (dst_ (wn rfl) (A.ev rfl) (A.ev rfl) one3 rfl m1554 (nb_ rfl) λ w1562 hU1563 (m1564 : Blk w1562 g27 #[J 0, J (-1), J (-1), J i.b, J i.imm, J i.loc, J i.off, J i.index, J i.size, J i.fn, .bool i.acq, .bool i.weak, .bool i.rel, J i.pred, J i.succ, J i.to, .bool i.zero] 30)=>?_)
  have m1565 := m1555.upd hU1563 n33
  have m1566 := m1556.upd hU1563 n34
  have b1567 := hU1563.below b1557 ge32
  intro _ A
  refine qt_<|sw_<|F1 A rfl fo30_9 λ A=>qs A rfl (dst_ (wn rfl) (A.ev rfl) (A.ev rfl) one3 rfl m1564 (nb_ rfl) λ w1572 hU1573 (m1574 : Blk w1572 g27 #[J 0, J (-1), J (-1), J i.b, J i.imm, J i.loc, J i.off, J i.index, J i.size, J 0, .bool i.acq, .bool i.weak, .bool i.rel, J i.pred, J i.succ, J i.to, .bool i.zero] 30)=>?_)
  have m1575 := m1565.upd hU1573 n33
  have m1576 := m1566.upd hU1573 n34
  have b1577 := hU1573.below b1567 ge32
  intro _ A
  refine qt_<|sw_<|F1 A rfl fo30_10 λ A=>qs A rfl (dst_ (wn rfl) (A.ev rfl) (A.ev rfl) one4 rfl m1574 (nb_ rfl) λ w1582 hU1583 (m1584 : Blk w1582 g27 #[J 0, J (-1), J (-1), J i.b, J i.imm, J i.loc, J i.off, J i.index, J i.size, J 0, .bool false, .bool i.weak, .bool i.rel, J i.pred, J i.succ, J i.to, .bool i.zero] 30)=>?_)
  have m1585 := m1575.upd hU1583 n33
  have m1586 := m1576.upd hU1583 n34
  have b1587 := hU1583.below b1577 ge32
  intro _ A
  refine qt_<|wr_<|F1 A rfl fo30_12 λ A=>qs A rfl (dst_ (wn rfl) (A.ev rfl) (A.ev rfl) one4 rfl m1584 (nb_ rfl) λ w1592 hU1593 (m1594 : Blk w1592 g27 #[J 0, J (-1), J (-1), J i.b, J i.imm, J i.loc, J i.off, J i.index, J i.size, J 0, .bool false, .bool i.weak, .bool false, J i.pred, J i.succ, J i.to, .bool i.zero] 30)=>?_)
  have m1595 := m1585.upd hU1593 n33
  have m1596 := m1586.upd hU1593 n34
  have b1597 := hU1593.below b1587 ge32
  intro _ A
  refine qe_<|i_norm<|tn_<|ws_<|sw_<|F1 A rfl fo30_0 λ A=>qs A rfl (dld (v := (J i.op)) (wn rfl) (A.ev rfl) one3 (m1595.cell rfl) λ _ A=>B2 A rfl (bq hb780) λ A=>Z 1 A rfl λ A=>F1 A rfl fo30_0 λ A=>qs A rfl (dld (v := (J i.op)) (wy rfl rfl (A.g 176 rfl)) (A.ev rfl) one3 (m1595.cell rfl) λ _ A=>B2 A rfl (bq hb1046) λ A=>Z 2 A rfl λ A=>?_))
  refine F1 A rfl fo30_0 λ A=>qs A rfl (dld (v := (J i.op)) (wy rfl rfl (A.g 181 rfl)) (A.ev rfl) one3 (m1595.cell rfl) λ _ A=>B2 A rfl (bq hb1326) λ A=>Z 1 A rfl λ A=>qt_<|ct_ A rfl<|sw_<|F1 A rfl fo30_5 λ A=>qs A rfl (dst_ (wn rfl) (A.ev rfl) (A.ev rfl) one3 rfl m1594 (nb_ rfl) λ w1628 hU1629 (m1630 : Blk w1628 g27 #[J 0, J (-1), J (-1), J i.b, J i.imm, J 0, J i.off, J i.index, J i.size, J 0, .bool false, .bool i.weak, .bool false, J i.pred, J i.succ, J i.to, .bool i.zero] 30)=>?_))
  have m1631 := m1595.upd hU1629 n33
  have m1632 := m1596.upd hU1629 n34
  have b1633 := hU1629.below b1597 ge32
  intro _ A
  refine qt_<|sw_<|F1 A rfl fo30_6 λ A=>qs A rfl (dst_ (wn rfl) (A.ev rfl) (A.ev rfl) one3 rfl m1630 (nb_ rfl) λ w1638 hU1639 (m1640 : Blk w1638 g27 #[J 0, J (-1), J (-1), J i.b, J i.imm, J 0, J 0, J i.index, J i.size, J 0, .bool false, .bool i.weak, .bool false, J i.pred, J i.succ, J i.to, .bool i.zero] 30)=>?_)
  have m1641 := m1631.upd hU1639 n33
  have m1642 := m1632.upd hU1639 n34
  have b1643 := hU1639.below b1633 ge32
  intro _ A
  refine qt_<|sw_<|F1 A rfl fo30_7 λ A=>qs A rfl (dst_ (wn rfl) (A.ev rfl) (A.ev rfl) one3 rfl m1640 (nb_ rfl) λ w1648 hU1649 (m1650 : Blk w1648 g27 #[J 0, J (-1), J (-1), J i.b, J i.imm, J 0, J 0, J (-1), J i.size, J 0, .bool false, .bool i.weak, .bool false, J i.pred, J i.succ, J i.to, .bool i.zero] 30)=>?_)
  have m1651 := m1641.upd hU1649 n33
  have m1652 := m1642.upd hU1649 n34
  have b1653 := hU1649.below b1643 ge32
  intro _ A
  refine qt_<|wr_<|F1 A rfl fo30_8 λ A=>qs A rfl (dst_ (wn rfl) (A.ev rfl) (A.ev rfl) one3 rfl m1650 (nb_ rfl) λ w1658 hU1659 (m1660 : Blk w1658 g27 #[J 0, J (-1), J (-1), J i.b, J i.imm, J 0, J 0, J (-1), J 0, J 0, .bool false, .bool i.weak, .bool false, J i.pred, J i.succ, J i.to, .bool i.zero] 30)=>?_)
  have m1661 := m1651.upd hU1659 n33
  have m1662 := m1652.upd hU1659 n34
  have b1663 := hU1659.below b1653 ge32
  intro _ A
  refine qt_<|sw_<|qs A rfl (dlr (cs := #[J 0, J (-1), J (-1), J i.b, J i.imm, J 0, J 0, J (-1), J 0, J 0, .bool false, .bool i.weak, .bool false, J i.pred, J i.succ, J i.to, .bool i.zero]) (wn rfl) (A.ev rfl) row30 m1660 λ _ A=>Z 1 A rfl λ A=>qs A rfl (dsr (wn rfl) (A.ev rfl) (A.ev rfl) row30 m1662 rfl rfl λ w1670 hU1671 (m1672 : Blk w1670 g12 #[J 0, J (-1), J (-1), J i.b, J i.imm, J 0, J 0, J (-1), J 0, J 0, .bool false, .bool i.weak, .bool false, J i.pred, J i.succ, J i.to, .bool i.zero] 30)=>?_))
  have m1673 := m1661.upd hU1671 n18
  have m1674 := m1660.upd hU1671 (Ne.symm n34)
  have b1675 := hU1671.below b1663 ge17
  intro _ A
  refine Z 1 A rfl λ A=>qt_<|we_<|retCT (g := g12) (cs := #[J 0, J (-1), J (-1), J i.b, J i.imm, J 0, J 0, J (-1), J 0, J 0, .bool false, .bool i.weak, .bool false, J i.pred, J i.succ, J i.to, .bool i.zero]) (v := (.bool ((regB i.dst) && ((regB i.a) && ((plcB i) && ((i.fn == 6) || (i.fn == 1))))))) rfl A rfl rfl m1672 row30 ?_
  exact ⟨ret_two (by simp [insC, bareF, opB, rdB, wrB, hb64, hb165, hb303, hb780, hb1046, eq_of_beq hb1326]) (by first | (simp [fineB, hb64, hb165, hb303, hb780, hb1046, eq_of_beq hb1326, Bool.or_assoc, Bool.and_assoc]; done) | (rw [Bool.eq_iff_iff]; simp [fineB, hb64, hb165, hb303, hb780, hb1046, eq_of_beq hb1326]; done) | (rw [Bool.eq_iff_iff]; simp [fineB, hb64, hb165, hb303, hb780, hb1046, eq_of_beq hb1326]; omega) | grind), b1675⟩
 have hq1680 := ne_of_beq hb1326
 refine B2 A rfl (bq hb1326) λ A=>Z 1 A rfl λ A=>qt_<|cf_ A rfl<|sw_ ?_
 rcases eb_ (i.op == 7) with hb1685 | hb1685
 ·skip
  have hq1686 := eq_of_beq hb1685
  refine B2 A rfl (bq hb1685) λ A=>Z 1 A rfl λ A=>qt_<|ct_ A rfl<|ws_ ?_
  refine jwp (K := λ a1691 w1692 => St 192 [(1, (.pointer (some ⟨g3, 0, none⟩))), (2, (.pointer (some ⟨g12, 0, none⟩))), (3, (.bool false)), (4, (.pointer (some ⟨g27, 0, none⟩))), (5, (.bool ((decide (i.pred ≥ 1)) && ((decide (i.pred ≤ 3)) && ((decide (i.succ ≥ 1)) && (decide (i.succ ≤ 3)))))))] a1691 ∧ Below w.heap.size w w1692 ∧ Blk w1692 g3 (insC i) 30 ∧ Blk w1692 g12 #[J 0, J 0, J 0, J 0, J 0, J 0, J 0, J 0, J 0, J 0, .bool false, .bool false, .bool false, J 0, J 0, J 0, .bool false] 30 ∧ Blk w1692 g27 #[J 0, J i.dst, J i.a, J i.b, J i.imm, J i.loc, J i.off, J i.index, J i.size, J i.fn, .bool i.acq, .bool i.weak, .bool i.rel, J i.pred, J i.succ, J i.to, .bool i.zero] 30) ?_ ?_
  ·skip
   refine wr_<|F1 A rfl fo30_13 λ A=>qs A rfl (dld (v := (J i.pred)) (wn rfl) (A.ev rfl) one3 (m55.cell rfl) λ _ A=>?_)
   rcases eb_ (decide (i.pred ≥ 1)) with hb1697 | hb1697
   ·skip
    have hq1698 := dt_ hb1697
    refine B2 A rfl (bge_ hb1697) λ A=>Z 1 A rfl λ A=>F1 A rfl fo30_13 λ A=>qs A rfl (dld (v := (J i.pred)) (wy rfl rfl (A.g 146 rfl)) (A.ev rfl) one3 (m55.cell rfl) λ _ A=>?_)
    rcases eb_ (decide (i.pred ≤ 3)) with hb1707 | hb1707
    ·skip
     have hq1708 := dt_ hb1707
     refine B2 A rfl (ble_ hb1707) λ A=>Z 2 A rfl λ A=>F1 A rfl fo30_14 λ A=>qs A rfl (dld (v := (J i.succ)) (wy rfl rfl (A.g 151 rfl)) (A.ev rfl) one3 (m55.cell rfl) λ _ A=>?_)
     rcases eb_ (decide (i.succ ≥ 1)) with hb1719 | hb1719
     ·skip
      have hq1720 := dt_ hb1719
      refine B2 A rfl (bge_ hb1719) λ A=>Z 2 A rfl λ A=>F1 A rfl fo30_14 λ A=>qs A rfl (dld (v := (J i.succ)) (wy rfl rfl (A.g 156 rfl)) (A.ev rfl) one3 (m55.cell rfl) λ _ A=>?_)
      rcases eb_ (decide (i.succ ≤ 3)) with hb1731 | hb1731
      ·skip
       have hq1732 := dt_ hb1731
       refine B2 A rfl (ble_ hb1731) λ A=>Z 2 A rfl λ A=>qe_ ?_
       exact ⟨A.cut _ (fc (A.g 1 rfl) (fc (A.g 2 rfl) (fc (A.g 3 rfl) (fc (A.g 4 rfl) (fc ((A.g 5 rfl).trans (congrArg Value.bool (by simp [hb1697, hb1707, hb1719, hb1731]))) fn_))))), b57, m55, m56, m54⟩
      have hq1739 := df_ hb1731
      refine B2 A rfl (ble_ hb1731) λ A=>Z 2 A rfl λ A=>qe_ ?_
      exact ⟨A.cut _ (fc (A.g 1 rfl) (fc (A.g 2 rfl) (fc (A.g 3 rfl) (fc (A.g 4 rfl) (fc ((A.g 5 rfl).trans (congrArg Value.bool (by simp [hb1697, hb1707, hb1719, hb1731]))) fn_))))), b57, m55, m56, m54⟩
     have hq1746 := df_ hb1719
     refine B2 A rfl (bge_ hb1719) λ A=>Z 7 A rfl λ A=>qe_ ?_
     exact ⟨A.cut _ (fc (A.g 1 rfl) (fc (A.g 2 rfl) (fc (A.g 3 rfl) (fc (A.g 4 rfl) (fc ((A.g 5 rfl).trans (congrArg Value.bool (by simp [hb1697, hb1707, hb1719]))) fn_))))), b57, m55, m56, m54⟩
    have hq1763 := df_ hb1707
    refine B2 A rfl (ble_ hb1707) λ A=>Z 12 A rfl λ A=>qe_ ?_
    exact ⟨A.cut _ (fc (A.g 1 rfl) (fc (A.g 2 rfl) (fc (A.g 3 rfl) (fc (A.g 4 rfl) (fc ((A.g 5 rfl).trans (congrArg Value.bool (by simp [hb1697, hb1707]))) fn_))))), b57, m55, m56, m54⟩
   have hq1790 := df_ hb1697
   refine B2 A rfl (bge_ hb1697) λ A=>Z 16 A rfl λ A=>qe_ ?_
   exact ⟨A.cut _ (fc (A.g 1 rfl) (fc (A.g 2 rfl) (fc (A.g 3 rfl) (fc (A.g 4 rfl) (fc ((A.g 5 rfl).trans (congrArg Value.bool (by simp [hb1697]))) fn_))))), b57, m55, m56, m54⟩
  rintro a1691 w1692 ⟨A, b1826, m1827, m1828, m1829⟩
  refine tn_<|sw_<|F1 A rfl fo30_13 λ A=>qs A rfl (dst_ (wn rfl) (A.ev rfl) (A.ev rfl) one3 rfl m1829 (nb_ rfl) λ w1832 hU1833 (m1834 : Blk w1832 g27 #[J 0, J i.dst, J i.a, J i.b, J i.imm, J i.loc, J i.off, J i.index, J i.size, J i.fn, .bool i.acq, .bool i.weak, .bool i.rel, J 0, J i.succ, J i.to, .bool i.zero] 30)=>?_)
  have m1835 := m1827.upd hU1833 n33
  have m1836 := m1828.upd hU1833 n34
  have b1837 := hU1833.below b1826 ge32
  intro _ A
  refine qt_<|wr_<|F1 A rfl fo30_14 λ A=>qs A rfl (dst_ (wn rfl) (A.ev rfl) (A.ev rfl) one3 rfl m1834 (nb_ rfl) λ w1842 hU1843 (m1844 : Blk w1842 g27 #[J 0, J i.dst, J i.a, J i.b, J i.imm, J i.loc, J i.off, J i.index, J i.size, J i.fn, .bool i.acq, .bool i.weak, .bool i.rel, J 0, J 0, J i.to, .bool i.zero] 30)=>?_)
  have m1845 := m1835.upd hU1843 n33
  have m1846 := m1836.upd hU1843 n34
  have b1847 := hU1843.below b1837 ge32
  intro _ A
  refine qe_<|i_norm<|tn_<|ws_<|sw_<|F1 A rfl fo30_0 λ A=>qs A rfl (dld (v := (J i.op)) (wn rfl) (A.ev rfl) one3 (m1845.cell rfl) λ _ A=>B2 A rfl (bq hb780) λ A=>Z 1 A rfl λ A=>F1 A rfl fo30_0 λ A=>qs A rfl (dld (v := (J i.op)) (wy rfl rfl (A.g 176 rfl)) (A.ev rfl) one3 (m1845.cell rfl) λ _ A=>B2 A rfl (bq hb1046) λ A=>Z 2 A rfl λ A=>?_))
  refine F1 A rfl fo30_0 λ A=>qs A rfl (dld (v := (J i.op)) (wy rfl rfl (A.g 181 rfl)) (A.ev rfl) one3 (m1845.cell rfl) λ _ A=>B2 A rfl (bq hb1326) λ A=>Z 1 A rfl λ A=>qt_<|cf_ A rfl<|wk_<|tn_<|sw_<|qs A rfl (dlr (cs := #[J 0, J i.dst, J i.a, J i.b, J i.imm, J i.loc, J i.off, J i.index, J i.size, J i.fn, .bool i.acq, .bool i.weak, .bool i.rel, J 0, J 0, J i.to, .bool i.zero]) (wn rfl) (A.ev rfl) row30 m1844 λ _ A=>Z 1 A rfl λ A=>qs A rfl (dsr (wn rfl) (A.ev rfl) (A.ev rfl) row30 m1846 rfl rfl λ w1880 hU1881 (m1882 : Blk w1880 g12 #[J 0, J i.dst, J i.a, J i.b, J i.imm, J i.loc, J i.off, J i.index, J i.size, J i.fn, .bool i.acq, .bool i.weak, .bool i.rel, J 0, J 0, J i.to, .bool i.zero] 30)=>?_)))
  have m1883 := m1845.upd hU1881 n18
  have m1884 := m1844.upd hU1881 (Ne.symm n34)
  have b1885 := hU1881.below b1847 ge17
  intro _ A
  refine Z 1 A rfl λ A=>qt_<|we_<|retCT (g := g12) (cs := #[J 0, J i.dst, J i.a, J i.b, J i.imm, J i.loc, J i.off, J i.index, J i.size, J i.fn, .bool i.acq, .bool i.weak, .bool i.rel, J 0, J 0, J i.to, .bool i.zero]) (v := (.bool ((decide (i.pred ≥ 1)) && ((decide (i.pred ≤ 3)) && ((decide (i.succ ≥ 1)) && (decide (i.succ ≤ 3))))))) rfl A rfl rfl m1882 row30 ?_
  exact ⟨ret_two (by simp [insC, bareF, opB, rdB, wrB, hb64, hb165, hb303, hb780, hb1046, hb1326, eq_of_beq hb1685]) (by first | (simp [fineB, hb64, hb165, hb303, hb780, hb1046, hb1326, eq_of_beq hb1685, Bool.or_assoc, Bool.and_assoc]; done) | (rw [Bool.eq_iff_iff]; simp [fineB, hb64, hb165, hb303, hb780, hb1046, hb1326, eq_of_beq hb1685]; done) | (rw [Bool.eq_iff_iff]; simp [fineB, hb64, hb165, hb303, hb780, hb1046, hb1326, eq_of_beq hb1685]; omega) | grind), b1885⟩
 have hq1890 := ne_of_beq hb1685
 refine B2 A rfl (bq hb1685) λ A=>Z 1 A rfl λ A=>qt_<|cf_ A rfl<|sw_ ?_
 rcases eb_ (i.op == 8) with hb1895 | hb1895
 ·skip
  have hq1896 := eq_of_beq hb1895
  refine B2 A rfl (bq hb1895) λ A=>Z 1 A rfl λ A=>qt_<|ct_ A rfl<|wk_<|i_norm<|tn_<|ws_<|sw_<|F1 A rfl fo30_0 λ A=>qs A rfl (dld (v := (J i.op)) (wn rfl) (A.ev rfl) one3 (m55.cell rfl) λ _ A=>B2 A rfl (bq hb780) λ A=>?_)
  refine Z 1 A rfl λ A=>F1 A rfl fo30_0 λ A=>qs A rfl (dld (v := (J i.op)) (wy rfl rfl (A.g 176 rfl)) (A.ev rfl) one3 (m55.cell rfl) λ _ A=>B2 A rfl (bq hb1046) λ A=>Z 2 A rfl λ A=>F1 A rfl fo30_0 λ A=>qs A rfl (dld (v := (J i.op)) (wy rfl rfl (A.g 181 rfl)) (A.ev rfl) one3 (m55.cell rfl) λ _ A=>B2 A rfl (bq hb1326) λ A=>Z 1 A rfl λ A=>qt_<|cf_ A rfl<|wk_<|tn_ ?_))
  refine sw_<|qs A rfl (dlr (cs := #[J 0, J i.dst, J i.a, J i.b, J i.imm, J i.loc, J i.off, J i.index, J i.size, J i.fn, .bool i.acq, .bool i.weak, .bool i.rel, J i.pred, J i.succ, J i.to, .bool i.zero]) (wn rfl) (A.ev rfl) row30 m54 λ _ A=>Z 1 A rfl λ A=>qs A rfl (dsr (wn rfl) (A.ev rfl) (A.ev rfl) row30 m56 rfl rfl λ w1931 hU1932 (m1933 : Blk w1931 g12 #[J 0, J i.dst, J i.a, J i.b, J i.imm, J i.loc, J i.off, J i.index, J i.size, J i.fn, .bool i.acq, .bool i.weak, .bool i.rel, J i.pred, J i.succ, J i.to, .bool i.zero] 30)=>?_))
  have m1934 := m55.upd hU1932 n18
  have m1935 := m54.upd hU1932 (Ne.symm n34)
  have b1936 := hU1932.below b57 ge17
  intro _ A
  refine Z 1 A rfl λ A=>qt_<|we_<|retCT (g := g12) (cs := #[J 0, J i.dst, J i.a, J i.b, J i.imm, J i.loc, J i.off, J i.index, J i.size, J i.fn, .bool i.acq, .bool i.weak, .bool i.rel, J i.pred, J i.succ, J i.to, .bool i.zero]) (v := (.bool true)) rfl A rfl rfl m1933 row30 ?_
  exact ⟨ret_two (by simp [insC, bareF, opB, rdB, wrB, hb64, hb165, hb303, hb780, hb1046, hb1326, hb1685, eq_of_beq hb1895]) (by first | (simp [fineB, hb64, hb165, hb303, hb780, hb1046, hb1326, hb1685, eq_of_beq hb1895, Bool.or_assoc, Bool.and_assoc]; done) | (rw [Bool.eq_iff_iff]; simp [fineB, hb64, hb165, hb303, hb780, hb1046, hb1326, hb1685, eq_of_beq hb1895]; done) | (rw [Bool.eq_iff_iff]; simp [fineB, hb64, hb165, hb303, hb780, hb1046, hb1326, hb1685, eq_of_beq hb1895]; omega) | grind), b1936⟩
 have hq1941 := ne_of_beq hb1895
 refine B2 A rfl (bq hb1895) λ A=>Z 1 A rfl λ A=>qt_<|cf_ A rfl<|sw_ ?_
 rcases eb_ (i.op == 9) with hb1946 | hb1946
 ·skip
  have hq1947 := eq_of_beq hb1946
  refine B2 A rfl (bq hb1946) λ A=>Z 1 A rfl λ A=>qt_<|ct_ A rfl<|ws_ ?_
  refine jwp (K := λ a1952 w1953 => St 192 [(1, (.pointer (some ⟨g3, 0, none⟩))), (2, (.pointer (some ⟨g12, 0, none⟩))), (3, (.bool false)), (4, (.pointer (some ⟨g27, 0, none⟩))), (5, (.bool (regB i.a)))] a1952 ∧ Below w.heap.size w w1953 ∧ Blk w1953 g3 (insC i) 30 ∧ Blk w1953 g12 #[J 0, J 0, J 0, J 0, J 0, J 0, J 0, J 0, J 0, J 0, .bool false, .bool false, .bool false, J 0, J 0, J 0, .bool false] 30 ∧ Blk w1953 g27 #[J 0, J i.dst, J i.a, J i.b, J i.imm, J i.loc, J i.off, J i.index, J i.size, J i.fn, .bool i.acq, .bool i.weak, .bool i.rel, J i.pred, J i.succ, J i.to, .bool i.zero] 30) ?_ ?_
  ·skip
   refine wr_<|F1 A rfl fo30_2 λ A=>qs A rfl (dld (v := (J i.a)) (wn rfl) (A.ev rfl) one3 (m55.cell rfl) λ _ A=>C A rfl ent116 (rreg_any i.a w52) ?_)
   rintro e1961 w1958 ⟨he1960, hG1959⟩
   have m1962 := m55.grow hG1959
   have m1963 := m56.grow hG1959
   have m1964 := m54.grow hG1959
   have b1965 := bls b57 hG1959
   rcases eb_ (regB i.a) with hb1966 | hb1966
   ·skip
    refine ⟨.bool true, he1960.trans (ret_bool hb1966), λ _ A=>Z 1 A rfl λ A=>qe_ ?_⟩
    exact ⟨A.cut _ (fc (A.g 1 rfl) (fc (A.g 2 rfl) (fc (A.g 3 rfl) (fc (A.g 4 rfl) (fc ((A.g 5 rfl).trans (congrArg Value.bool (by simp [hb1966]))) fn_))))), b1965, m1962, m1963, m1964⟩
   refine ⟨.bool false, he1960.trans (ret_bool hb1966), λ _ A=>Z 1 A rfl λ A=>qe_ ?_⟩
   exact ⟨A.cut _ (fc (A.g 1 rfl) (fc (A.g 2 rfl) (fc (A.g 3 rfl) (fc (A.g 4 rfl) (fc ((A.g 5 rfl).trans (congrArg Value.bool (by simp [hb1966]))) fn_))))), b1965, m1962, m1963, m1964⟩
  rintro a1952 w1953 ⟨A, b1978, m1979, m1980, m1981⟩
  refine tn_<|sw_<|F1 A rfl fo30_2 λ A=>qs A rfl (dst_ (wn rfl) (A.ev rfl) (A.ev rfl) one3 rfl m1981 (nb_ rfl) λ w1984 hU1985 (m1986 : Blk w1984 g27 #[J 0, J i.dst, J (-1), J i.b, J i.imm, J i.loc, J i.off, J i.index, J i.size, J i.fn, .bool i.acq, .bool i.weak, .bool i.rel, J i.pred, J i.succ, J i.to, .bool i.zero] 30)=>?_)
  have m1987 := m1979.upd hU1985 n33
  have m1988 := m1980.upd hU1985 n34
  have b1989 := hU1985.below b1978 ge32
  intro _ A
  refine qt_<|sw_<|F1 A rfl fo30_16 λ A=>qs A rfl (dst_ (wn rfl) (A.ev rfl) (A.ev rfl) one4 rfl m1986 (nb_ rfl) λ w1994 hU1995 (m1996 : Blk w1994 g27 #[J 0, J i.dst, J (-1), J i.b, J i.imm, J i.loc, J i.off, J i.index, J i.size, J i.fn, .bool i.acq, .bool i.weak, .bool i.rel, J i.pred, J i.succ, J i.to, .bool false] 30)=>?_)
  have m1997 := m1987.upd hU1995 n33
  have m1998 := m1988.upd hU1995 n34
  have b1999 := hU1995.below b1989 ge32
  intro _ A
  refine qt_<|wr_<|F1 A rfl fo30_15 λ A=>qs A rfl (dst_ (wn rfl) (A.ev rfl) (A.ev rfl) one3 rfl m1996 (nb_ rfl) λ w2004 hU2005 (m2006 : Blk w2004 g27 #[J 0, J i.dst, J (-1), J i.b, J i.imm, J i.loc, J i.off, J i.index, J i.size, J i.fn, .bool i.acq, .bool i.weak, .bool i.rel, J i.pred, J i.succ, J 0, .bool false] 30)=>?_)
  have m2007 := m1997.upd hU2005 n33
  have m2008 := m1998.upd hU2005 n34
  have b2009 := hU2005.below b1999 ge32
  intro _ A
  refine qe_<|i_norm<|tn_<|ws_<|sw_<|F1 A rfl fo30_0 λ A=>qs A rfl (dld (v := (J i.op)) (wn rfl) (A.ev rfl) one3 (m2007.cell rfl) λ _ A=>B2 A rfl (bq hb780) λ A=>Z 1 A rfl λ A=>F1 A rfl fo30_0 λ A=>qs A rfl (dld (v := (J i.op)) (wy rfl rfl (A.g 176 rfl)) (A.ev rfl) one3 (m2007.cell rfl) λ _ A=>B2 A rfl (bq hb1046) λ A=>Z 2 A rfl λ A=>?_))
  refine F1 A rfl fo30_0 λ A=>qs A rfl (dld (v := (J i.op)) (wy rfl rfl (A.g 181 rfl)) (A.ev rfl) one3 (m2007.cell rfl) λ _ A=>B2 A rfl (bq hb1326) λ A=>Z 1 A rfl λ A=>qt_<|cf_ A rfl<|wk_<|tn_<|sw_<|qs A rfl (dlr (cs := #[J 0, J i.dst, J (-1), J i.b, J i.imm, J i.loc, J i.off, J i.index, J i.size, J i.fn, .bool i.acq, .bool i.weak, .bool i.rel, J i.pred, J i.succ, J 0, .bool false]) (wn rfl) (A.ev rfl) row30 m2006 λ _ A=>Z 1 A rfl λ A=>qs A rfl (dsr (wn rfl) (A.ev rfl) (A.ev rfl) row30 m2008 rfl rfl λ w2042 hU2043 (m2044 : Blk w2042 g12 #[J 0, J i.dst, J (-1), J i.b, J i.imm, J i.loc, J i.off, J i.index, J i.size, J i.fn, .bool i.acq, .bool i.weak, .bool i.rel, J i.pred, J i.succ, J 0, .bool false] 30)=>?_)))
  have m2045 := m2007.upd hU2043 n18
  have m2046 := m2006.upd hU2043 (Ne.symm n34)
  have b2047 := hU2043.below b2009 ge17
  intro _ A
  refine Z 1 A rfl λ A=>qt_<|we_<|retCT (g := g12) (cs := #[J 0, J i.dst, J (-1), J i.b, J i.imm, J i.loc, J i.off, J i.index, J i.size, J i.fn, .bool i.acq, .bool i.weak, .bool i.rel, J i.pred, J i.succ, J 0, .bool false]) (v := (.bool (regB i.a))) rfl A rfl rfl m2044 row30 ?_
  exact ⟨ret_two (by simp [insC, bareF, opB, rdB, wrB, hb64, hb165, hb303, hb780, hb1046, hb1326, hb1685, hb1895, eq_of_beq hb1946]) (by first | (simp [fineB, hb64, hb165, hb303, hb780, hb1046, hb1326, hb1685, hb1895, eq_of_beq hb1946, Bool.or_assoc, Bool.and_assoc]; done) | (rw [Bool.eq_iff_iff]; simp [fineB, hb64, hb165, hb303, hb780, hb1046, hb1326, hb1685, hb1895, eq_of_beq hb1946]; done) | (rw [Bool.eq_iff_iff]; simp [fineB, hb64, hb165, hb303, hb780, hb1046, hb1326, hb1685, hb1895, eq_of_beq hb1946]; omega) | grind), b2047⟩
 have hq2052 := ne_of_beq hb1946
 refine B2 A rfl (bq hb1946) λ A=>Z 1 A rfl λ A=>qt_<|cf_ A rfl<|wr_<|Z 1 A rfl λ A=>qe_<|i_norm<|tn_<|ws_<|sw_<|F1 A rfl fo30_0 λ A=>?_
 refine qs A rfl (dld (v := (J i.op)) (wn rfl) (A.ev rfl) one3 (m55.cell rfl) λ _ A=>B2 A rfl (bq hb780) λ A=>Z 1 A rfl λ A=>F1 A rfl fo30_0 λ A=>qs A rfl (dld (v := (J i.op)) (wy rfl rfl (A.g 176 rfl)) (A.ev rfl) one3 (m55.cell rfl) λ _ A=>B2 A rfl (bq hb1046) λ A=>Z 2 A rfl λ A=>F1 A rfl fo30_0 λ A=>qs A rfl (dld (v := (J i.op)) (wy rfl rfl (A.g 181 rfl)) (A.ev rfl) one3 (m55.cell rfl) λ _ A=>B2 A rfl (bq hb1326) λ A=>Z 1 A rfl λ A=>qt_<|cf_ A rfl ?_)))
 refine wk_<|tn_<|sw_<|qs A rfl (dlr (cs := #[J 0, J i.dst, J i.a, J i.b, J i.imm, J i.loc, J i.off, J i.index, J i.size, J i.fn, .bool i.acq, .bool i.weak, .bool i.rel, J i.pred, J i.succ, J i.to, .bool i.zero]) (wn rfl) (A.ev rfl) row30 m54 λ _ A=>Z 1 A rfl λ A=>qs A rfl (dsr (wn rfl) (A.ev rfl) (A.ev rfl) row30 m56 rfl rfl λ w2089 hU2090 (m2091 : Blk w2089 g12 #[J 0, J i.dst, J i.a, J i.b, J i.imm, J i.loc, J i.off, J i.index, J i.size, J i.fn, .bool i.acq, .bool i.weak, .bool i.rel, J i.pred, J i.succ, J i.to, .bool i.zero] 30)=>?_))
 have m2092 := m55.upd hU2090 n18
 have m2093 := m54.upd hU2090 (Ne.symm n34)
 have b2094 := hU2090.below b57 ge17
 intro _ A
 refine Z 1 A rfl λ A=>qt_<|we_<|retCT (g := g12) (cs := #[J 0, J i.dst, J i.a, J i.b, J i.imm, J i.loc, J i.off, J i.index, J i.size, J i.fn, .bool i.acq, .bool i.weak, .bool i.rel, J i.pred, J i.succ, J i.to, .bool i.zero]) (v := (.bool false)) rfl A rfl rfl m2091 row30 ?_
 exact ⟨ret_two (by simp [insC, bareF, opB, rdB, wrB, hb64, hb165, hb303, hb780, hb1046, hb1326, hb1685, hb1895, hb1946]) (by first | (simp [fineB, hb64, hb165, hb303, hb780, hb1046, hb1326, hb1685, hb1895, hb1946, Bool.or_assoc, Bool.and_assoc]; done) | (rw [Bool.eq_iff_iff]; simp [fineB, hb64, hb165, hb303, hb780, hb1046, hb1326, hb1685, hb1895, hb1946]; done) | (rw [Bool.eq_iff_iff]; simp [fineB, hb64, hb165, hb303, hb780, hb1046, hb1326, hb1685, hb1895, hb1946]; omega) | grind), b2094⟩
theorem plain_any (i : Ins) (w : World) : Calls Tryz.prog 154 #[.agg (insC i)] w λ e w' => e = .returned (.agg (insC (plainF i))) ∧ Grow w w' := by
 have b0 := Grow.refl w
 refine enter (n := 119) Tryz.func154 rfl rfl (nb_ rfl) λ _ A=>sw_<|qs A rfl (d_box (wn rfl) (A.ev rfl) λ g3 w4 eg5 hG6 (m7 : Blk w4 g3 (insC i) 30)=>?_)
 have ge8 : w.heap.size ≤ g3 := eg5 ▸ b0.size
 have b9 := bls b0 hG6
 intro _ A
 refine qs A rfl (dal (wn rfl) zero30 λ g12 w13 eg14 hG15 (m16 : Blk w13 g12 #[J 0, J 0, J 0, J 0, J 0, J 0, J 0, J 0, J 0, J 0, .bool false, .bool false, .bool false, J 0, J 0, J 0, .bool false] 30)=>?_)
 have ge17 : w.heap.size ≤ g12 := eg14 ▸ b9.size
 have n18 := nn_ eg14 m7
 have m19 := m7.grow hG15
 have b20 := bls b9 hG15
 intro _ A
 refine qt_<|sw_<|F1 A rfl fo30_0 λ A=>qs A rfl (dld (v := (J i.op)) (wn rfl) (A.ev rfl) one3 (m19.cell rfl) λ _ A=>qs A rfl (dbd (cs := #[J i.op, J (-1), J (-1), J (-1), J 0, J 0, J 0, J (-1), J 0, J 0, .bool false, .bool false, .bool false, J 0, J 0, J 0, .bool false]) (wn rfl) (bp_of (bq_cons (A.ev rfl) (bq_cons (A.ev rfl) (bq_cons (A.ev rfl) (bq_cons (A.ev rfl) (bq_cons (A.ev rfl) bq_nil)))))) zero30 places30 (by kernel_rfl) λ _ A=>qs A rfl (dal (wn rfl) zero30 λ g29 w30 eg31 hG32 (m33 : Blk w30 g29 #[J 0, J 0, J 0, J 0, J 0, J 0, J 0, J 0, J 0, J 0, .bool false, .bool false, .bool false, J 0, J 0, J 0, .bool false] 30)=>?_)))
 have ge34 : w.heap.size ≤ g29 := eg31 ▸ b20.size
 have n35 := nn_ eg31 m19
 have n36 := nn_ eg31 m16
 have m37 := m19.grow hG32
 have m38 := m16.grow hG32
 have b39 := bls b20 hG32
 intro _ A
 refine qs A rfl (dsr (wn rfl) (A.ev rfl) (A.ev rfl) row30 m33 rfl rfl λ w42 hU43 (m44 : Blk w42 g29 #[J i.op, J (-1), J (-1), J (-1), J 0, J 0, J 0, J (-1), J 0, J 0, .bool false, .bool false, .bool false, J 0, J 0, J 0, .bool false] 30)=>?_)
 have m45 := m37.upd hU43 n35
 have m46 := m38.upd hU43 n36
 have b47 := hU43.below b39 ge34
 intro _ A
 refine qt_<|ws_<|sw_<|F1 A rfl fo30_0 λ A=>qs A rfl (dld (v := (J i.op)) (wn rfl) (A.ev rfl) one3 (m45.cell rfl) λ _ A=>qt_<|wp_block<|sw_ ?_)
 rcases eb_ (i.op == 1) with hb54 | hb54
 ·skip
  have hq55 := eq_of_beq hb54
  refine B2 A rfl (bq hb54) λ A=>Z 1 A rfl @λ a58 A=>qt_<|ct_ A rfl ?_
  have A : St 119 [(1, (.pointer (some ⟨g3, 0, none⟩))), (2, (.pointer (some ⟨g12, 0, none⟩))), (3, (.pointer (some ⟨g29, 0, none⟩)))] a58 := A.sub rfl
  let M61 : Nat → Option (Array Value) := λ k => if k = g29 then some #[J i.op, J i.dst, J (-1), J (-1), J i.imm, J 0, J 0, J (-1), J 0, J 0, .bool false, .bool false, .bool false, J 0, J 0, J 0, .bool false] else none
  have hM61 : M61 = λ k => if k = g29 then some #[J i.op, J i.dst, J (-1), J (-1), J i.imm, J 0, J 0, J (-1), J 0, J 0, .bool false, .bool false, .bool false, J 0, J 0, J 0, .bool false] else none := rfl
  clear_value M61
  have hM62 : M61 g3 = none := ((congrFun hM61 g3).trans (if_neg n35))
  have hM63 : M61 g12 = none := ((congrFun hM61 g12).trans (if_neg n36))
  have hM64 : M61 g29 = some #[J i.op, J i.dst, J (-1), J (-1), J i.imm, J 0, J 0, J (-1), J 0, J 0, .bool false, .bool false, .bool false, J 0, J 0, J 0, .bool false] := ((congrFun hM61 g29).trans (if_pos rfl))
  have hM61B : ∀ k, k < w.heap.size → M61 k = none := (λ k hk => (congrFun hM61 k).trans (if_neg (λ h => ni_ _ (Nat.lt_of_lt_of_le (h ▸ hk) ge34))))
  refine drawn (S := SM M61) (tabL [cv (.pointer (some ⟨g3, 1, none⟩)), cv (J i.dst), cv (.pointer (some ⟨g3, 4, none⟩)), cv (J i.imm), cv (.pointer (some ⟨g29, 1, none⟩)), cm M61 g29 1 (J i.dst) ⟨_, hM64, rfl⟩, cv (.pointer (some ⟨g29, 4, none⟩)), cm M61 g29 4 (J i.imm) ⟨_, hM64, rfl⟩]) mixedY SM.refl SM.trans SM.drew A (by kernel_rfl) ?_ ?_
  ·skip
   refine ec_ (λ x y hS hT hk => dfa (wn rfl) (hT.ev rfl) fo30_1 ⟨SM.refl _, rfl⟩)<|ec_ (λ x y hS hT hk => dld (v := (J i.dst)) (wn rfl) (hk 0 rfl) one3 ((Blk.sm (w := w42.drew) m45 hS hM62).cell rfl) ⟨SM.refl _, rfl⟩)<|ec_ (λ x y hS hT hk => dfa (wn rfl) (hT.ev rfl) fo30_4 ⟨SM.refl _, rfl⟩)<|ec_ (λ x y hS hT hk => dld (v := (J i.imm)) (wn rfl) (hk 2 rfl) one3 ((Blk.sm (w := w42.drew) m45 hS hM62).cell rfl) ⟨SM.refl _, rfl⟩)<|ec_ (λ x y hS hT hk => dfa (wn rfl) (hT.ev rfl) fo30_1 ⟨SM.refl _, rfl⟩)<|ec_ (λ x y hS hT hk => d_storeM (v := (J i.dst)) (w0 := w42.drew) (wn rfl) (hk 4 rfl) (hk 1 rfl) one3 rfl hS hM64 m44 (nb_ rfl) rfl (λ _ h => h))<|ec_ (λ x y hS hT hk => dfa (wn rfl) (hT.ev rfl) fo30_4 ⟨SM.refl _, rfl⟩)<|ec_ (λ x y hS hT hk => d_storeM (v := (J i.imm)) (w0 := w42.drew) (wn rfl) (hk 6 rfl) (hk 3 rfl) one3 rfl hS hM64 m44 (nb_ rfl) rfl (λ _ h => h)) ?_
   exact each_nil
  intro f65 a66 w67 hS68 hC69 A
  have A : St 119 [(1, (.pointer (some ⟨g3, 0, none⟩))), (2, (.pointer (some ⟨g12, 0, none⟩))), (3, (.pointer (some ⟨g29, 0, none⟩)))] a66 := A.sub rfl
  have m72 := m45.sm hS68 hM62
  have m73 := m46.sm hS68 hM63
  have m74 : Blk w67 g29 #[J i.op, J i.dst, J (-1), J (-1), J i.imm, J 0, J 0, J (-1), J 0, J 0, .bool false, .bool false, .bool false, J 0, J 0, J 0, .bool false] 30 := hS68.finL [(1, (J i.dst)), (4, (J i.imm))] hM64 (by kernel_rfl) m44 (fc (hC69 5 (nb_ rfl)) (fc (hC69 7 (nb_ rfl)) fn_))
  have b75 := hS68.below b47 b47.size hM61B
  refine i_norm<|tn_<|ws_<|sw_<|qs A rfl (dlr (cs := (insC i)) (wn rfl) (A.ev rfl) row30 m72 λ _ A=>C A rfl ent184 (isOp_any i w67) ?_)
  rintro e81 w78 ⟨he80, hG79⟩
  have m82 := m72.grow hG79
  have m83 := m73.grow hG79
  have m84 := m74.grow hG79
  have b85 := bls b75 hG79
  refine ⟨.bool false, he80.trans (ret_bool (by simp [opB, rdB, wrB, eq_of_beq hb54])), λ _ A=>qt_<|cf_ A rfl<|wk_<|tn_<|sw_<|qs A rfl (dlr (cs := #[J i.op, J i.dst, J (-1), J (-1), J i.imm, J 0, J 0, J (-1), J 0, J 0, .bool false, .bool false, .bool false, J 0, J 0, J 0, .bool false]) (wn rfl) (A.ev rfl) row30 m84 λ _ A=>qs A rfl (dsr (wn rfl) (A.ev rfl) (A.ev rfl) row30 m83 rfl rfl λ w90 hU91 (m92 : Blk w90 g12 #[J i.op, J i.dst, J (-1), J (-1), J i.imm, J 0, J 0, J (-1), J 0, J 0, .bool false, .bool false, .bool false, J 0, J 0, J 0, .bool false] 30)=>?_))⟩
  have m93 := m82.upd hU91 n18
  have m94 := m84.upd hU91 (Ne.symm n36)
  have b95 := hU91.below b85 ge17
  intro _ A
  refine qt_<|we_<|retRow (g := g12) (cs := #[J i.op, J i.dst, J (-1), J (-1), J i.imm, J 0, J 0, J (-1), J 0, J 0, .bool false, .bool false, .bool false, J 0, J 0, J 0, .bool false]) rfl A rfl m92 row30 ?_
  exact ⟨ret_agg (by simp [insC, plainF, opB, rdB, wrB, eq_of_beq hb54]), b95⟩
 have hq98 := ne_of_beq hb54
 refine B2 A rfl (bq hb54) λ A=>Z 1 A rfl λ A=>qt_<|cf_ A rfl<|sw_ ?_
 rcases eb_ (i.op == 2) with hb103 | hb103
 ·skip
  have hq104 := eq_of_beq hb103
  refine B2 A rfl (bq hb103) λ A=>Z 1 A rfl @λ a107 A=>qt_<|ct_ A rfl ?_
  have A : St 119 [(1, (.pointer (some ⟨g3, 0, none⟩))), (2, (.pointer (some ⟨g12, 0, none⟩))), (3, (.pointer (some ⟨g29, 0, none⟩)))] a107 := A.sub rfl
  let M110 : Nat → Option (Array Value) := λ k => if k = g29 then some #[J i.op, J i.dst, J i.a, J (-1), J 0, J 0, J 0, J (-1), J 0, J 0, .bool false, .bool false, .bool false, J 0, J 0, J 0, .bool false] else none
  have hM110 : M110 = λ k => if k = g29 then some #[J i.op, J i.dst, J i.a, J (-1), J 0, J 0, J 0, J (-1), J 0, J 0, .bool false, .bool false, .bool false, J 0, J 0, J 0, .bool false] else none := rfl
  clear_value M110
  have hM111 : M110 g3 = none := ((congrFun hM110 g3).trans (if_neg n35))
  have hM112 : M110 g12 = none := ((congrFun hM110 g12).trans (if_neg n36))
  have hM113 : M110 g29 = some #[J i.op, J i.dst, J i.a, J (-1), J 0, J 0, J 0, J (-1), J 0, J 0, .bool false, .bool false, .bool false, J 0, J 0, J 0, .bool false] := ((congrFun hM110 g29).trans (if_pos rfl))
  have hM110B : ∀ k, k < w.heap.size → M110 k = none := (λ k hk => (congrFun hM110 k).trans (if_neg (λ h => ni_ _ (Nat.lt_of_lt_of_le (h ▸ hk) ge34))))
  refine drawn (S := SM M110) (tabL [cv (.pointer (some ⟨g3, 1, none⟩)), cv (J i.dst), cv (.pointer (some ⟨g3, 2, none⟩)), cv (J i.a), cv (.pointer (some ⟨g29, 1, none⟩)), cm M110 g29 1 (J i.dst) ⟨_, hM113, rfl⟩, cv (.pointer (some ⟨g29, 2, none⟩)), cm M110 g29 2 (J i.a) ⟨_, hM113, rfl⟩]) mixedY SM.refl SM.trans SM.drew A (by kernel_rfl) ?_ ?_
  ·skip
   refine ec_ (λ x y hS hT hk => dfa (wn rfl) (hT.ev rfl) fo30_1 ⟨SM.refl _, rfl⟩)<|ec_ (λ x y hS hT hk => dld (v := (J i.dst)) (wn rfl) (hk 0 rfl) one3 ((Blk.sm (w := w42.drew) m45 hS hM111).cell rfl) ⟨SM.refl _, rfl⟩)<|ec_ (λ x y hS hT hk => dfa (wn rfl) (hT.ev rfl) fo30_2 ⟨SM.refl _, rfl⟩)<|ec_ (λ x y hS hT hk => dld (v := (J i.a)) (wn rfl) (hk 2 rfl) one3 ((Blk.sm (w := w42.drew) m45 hS hM111).cell rfl) ⟨SM.refl _, rfl⟩)<|ec_ (λ x y hS hT hk => dfa (wn rfl) (hT.ev rfl) fo30_1 ⟨SM.refl _, rfl⟩)<|ec_ (λ x y hS hT hk => d_storeM (v := (J i.dst)) (w0 := w42.drew) (wn rfl) (hk 4 rfl) (hk 1 rfl) one3 rfl hS hM113 m44 (nb_ rfl) rfl (λ _ h => h))<|ec_ (λ x y hS hT hk => dfa (wn rfl) (hT.ev rfl) fo30_2 ⟨SM.refl _, rfl⟩)<|ec_ (λ x y hS hT hk => d_storeM (v := (J i.a)) (w0 := w42.drew) (wn rfl) (hk 6 rfl) (hk 3 rfl) one3 rfl hS hM113 m44 (nb_ rfl) rfl (λ _ h => h)) ?_
   exact each_nil
  intro f114 a115 w116 hS117 hC118 A
  have A : St 119 [(1, (.pointer (some ⟨g3, 0, none⟩))), (2, (.pointer (some ⟨g12, 0, none⟩))), (3, (.pointer (some ⟨g29, 0, none⟩)))] a115 := A.sub rfl
  have m121 := m45.sm hS117 hM111
  have m122 := m46.sm hS117 hM112
  have m123 : Blk w116 g29 #[J i.op, J i.dst, J i.a, J (-1), J 0, J 0, J 0, J (-1), J 0, J 0, .bool false, .bool false, .bool false, J 0, J 0, J 0, .bool false] 30 := hS117.finL [(1, (J i.dst)), (2, (J i.a))] hM113 (by kernel_rfl) m44 (fc (hC118 5 (nb_ rfl)) (fc (hC118 7 (nb_ rfl)) fn_))
  have b124 := hS117.below b47 b47.size hM110B
  refine i_norm<|tn_<|ws_<|sw_<|qs A rfl (dlr (cs := (insC i)) (wn rfl) (A.ev rfl) row30 m121 λ _ A=>C A rfl ent184 (isOp_any i w116) ?_)
  rintro e130 w127 ⟨he129, hG128⟩
  have m131 := m121.grow hG128
  have m132 := m122.grow hG128
  have m133 := m123.grow hG128
  have b134 := bls b124 hG128
  refine ⟨.bool false, he129.trans (ret_bool (by simp [opB, rdB, wrB, eq_of_beq hb103])), λ _ A=>qt_<|cf_ A rfl<|wk_<|tn_<|sw_<|qs A rfl (dlr (cs := #[J i.op, J i.dst, J i.a, J (-1), J 0, J 0, J 0, J (-1), J 0, J 0, .bool false, .bool false, .bool false, J 0, J 0, J 0, .bool false]) (wn rfl) (A.ev rfl) row30 m133 λ _ A=>qs A rfl (dsr (wn rfl) (A.ev rfl) (A.ev rfl) row30 m132 rfl rfl λ w139 hU140 (m141 : Blk w139 g12 #[J i.op, J i.dst, J i.a, J (-1), J 0, J 0, J 0, J (-1), J 0, J 0, .bool false, .bool false, .bool false, J 0, J 0, J 0, .bool false] 30)=>?_))⟩
  have m142 := m131.upd hU140 n18
  have m143 := m133.upd hU140 (Ne.symm n36)
  have b144 := hU140.below b134 ge17
  intro _ A
  refine qt_<|we_<|retRow (g := g12) (cs := #[J i.op, J i.dst, J i.a, J (-1), J 0, J 0, J 0, J (-1), J 0, J 0, .bool false, .bool false, .bool false, J 0, J 0, J 0, .bool false]) rfl A rfl m141 row30 ?_
  exact ⟨ret_agg (by simp [insC, plainF, opB, rdB, wrB, hb54, eq_of_beq hb103]), b144⟩
 have hq147 := ne_of_beq hb103
 refine B2 A rfl (bq hb103) λ A=>Z 1 A rfl λ A=>qt_<|cf_ A rfl<|sw_ ?_
 rcases eb_ (i.op == 3) with hb152 | hb152
 ·skip
  have hq153 := eq_of_beq hb152
  refine B2 A rfl (bq hb152) λ A=>Z 1 A rfl @λ a156 A=>qt_<|ct_ A rfl ?_
  have A : St 119 [(1, (.pointer (some ⟨g3, 0, none⟩))), (2, (.pointer (some ⟨g12, 0, none⟩))), (3, (.pointer (some ⟨g29, 0, none⟩)))] a156 := A.sub rfl
  let M159 : Nat → Option (Array Value) := λ k => if k = g29 then some #[J i.op, J i.dst, J i.a, J i.b, J (immF i i.b), J 0, J 0, J (-1), J 0, J i.fn, .bool false, .bool false, .bool false, J 0, J 0, J 0, .bool false] else none
  have hM159 : M159 = λ k => if k = g29 then some #[J i.op, J i.dst, J i.a, J i.b, J (immF i i.b), J 0, J 0, J (-1), J 0, J i.fn, .bool false, .bool false, .bool false, J 0, J 0, J 0, .bool false] else none := rfl
  clear_value M159
  have hM160 : M159 g3 = none := ((congrFun hM159 g3).trans (if_neg n35))
  have hM161 : M159 g12 = none := ((congrFun hM159 g12).trans (if_neg n36))
  have hM162 : M159 g29 = some #[J i.op, J i.dst, J i.a, J i.b, J (immF i i.b), J 0, J 0, J (-1), J 0, J i.fn, .bool false, .bool false, .bool false, J 0, J 0, J 0, .bool false] := ((congrFun hM159 g29).trans (if_pos rfl))
  have hM159B : ∀ k, k < w.heap.size → M159 k = none := (λ k hk => (congrFun hM159 k).trans (if_neg (λ h => ni_ _ (Nat.lt_of_lt_of_le (h ▸ hk) ge34))))
  refine drawn (S := SM M159) (tabL [cv (.pointer (some ⟨g3, 1, none⟩)), cv (J i.dst), cv (.pointer (some ⟨g3, 9, none⟩)), cv (J i.fn), cv (.pointer (some ⟨g3, 2, none⟩)), cv (J i.a), cv (.pointer (some ⟨g3, 3, none⟩)), cv (J i.b), cv (.agg (insC i)), cv (.pointer (some ⟨g3, 3, none⟩)), cv (J i.b), cv (J (immF i i.b)), cv (.pointer (some ⟨g29, 1, none⟩)), cm M159 g29 1 (J i.dst) ⟨_, hM162, rfl⟩, cv (.pointer (some ⟨g29, 9, none⟩)), cm M159 g29 9 (J i.fn) ⟨_, hM162, rfl⟩, cv (.pointer (some ⟨g29, 2, none⟩)), cm M159 g29 2 (J i.a) ⟨_, hM162, rfl⟩, cv (.pointer (some ⟨g29, 3, none⟩)), cm M159 g29 3 (J i.b) ⟨_, hM162, rfl⟩, cv (.pointer (some ⟨g29, 4, none⟩)), cm M159 g29 4 (J (immF i i.b)) ⟨_, hM162, rfl⟩]) mixedY SM.refl SM.trans SM.drew A (by kernel_rfl) ?_ ?_
  ·skip
   refine ec_ (λ x y hS hT hk => dfa (wn rfl) (hT.ev rfl) fo30_1 ⟨SM.refl _, rfl⟩)<|ec_ (λ x y hS hT hk => dld (v := (J i.dst)) (wn rfl) (hk 0 rfl) one3 ((Blk.sm (w := w42.drew) m45 hS hM160).cell rfl) ⟨SM.refl _, rfl⟩)<|ec_ (λ x y hS hT hk => dfa (wn rfl) (hT.ev rfl) fo30_9 ⟨SM.refl _, rfl⟩)<|ec_ (λ x y hS hT hk => dld (v := (J i.fn)) (wn rfl) (hk 2 rfl) one3 ((Blk.sm (w := w42.drew) m45 hS hM160).cell rfl) ⟨SM.refl _, rfl⟩)<|ec_ (λ x y hS hT hk => dfa (wn rfl) (hT.ev rfl) fo30_2 ⟨SM.refl _, rfl⟩)<|ec_ (λ x y hS hT hk => dld (v := (J i.a)) (wn rfl) (hk 4 rfl) one3 ((Blk.sm (w := w42.drew) m45 hS hM160).cell rfl) ⟨SM.refl _, rfl⟩)<|ec_ (λ x y hS hT hk => dfa (wn rfl) (hT.ev rfl) fo30_3 ⟨SM.refl _, rfl⟩)<|ec_ (λ x y hS hT hk => dld (v := (J i.b)) (wn rfl) (hk 6 rfl) one3 ((Blk.sm (w := w42.drew) m45 hS hM160).cell rfl) ⟨SM.refl _, rfl⟩)<|ec_ (λ x y hS hT hk => dlr (cs := (insC i)) (wn rfl) (hT.ev rfl) row30 (Blk.sm (w := w42.drew) m45 hS hM160) ⟨SM.refl _, rfl⟩)<|ec_ (λ x y hS hT hk => dfa (wn rfl) (hT.ev rfl) fo30_3 ⟨SM.refl _, rfl⟩)<|ec_ (λ x y hS hT hk => dld (v := (J i.b)) (wn rfl) (hk 9 rfl) one3 ((Blk.sm (w := w42.drew) m45 hS hM160).cell rfl) ⟨SM.refl _, rfl⟩)<|ec_ (λ x y hS hT hk => dcl (wn rfl) ent183 (map2 (show x.eval _ = (.agg (insC i)) from (hk 8 rfl)) (show x.eval _ = (J i.b) from (hk 10 rfl))) (immFor_any i i.b y) (λ _ _ ⟨he, hG⟩ => ⟨(J (immF i i.b)), he, SM.grow hG, rfl⟩))<|ec_ (λ x y hS hT hk => dfa (wn rfl) (hT.ev rfl) fo30_1 ⟨SM.refl _, rfl⟩)<|ec_ (λ x y hS hT hk => d_storeM (v := (J i.dst)) (w0 := w42.drew) (wn rfl) (hk 12 rfl) (hk 1 rfl) one3 rfl hS hM162 m44 (nb_ rfl) rfl (λ _ h => h)) ?_
   refine ec_ (λ x y hS hT hk => dfa (wn rfl) (hT.ev rfl) fo30_9 ⟨SM.refl _, rfl⟩)<|ec_ (λ x y hS hT hk => d_storeM (v := (J i.fn)) (w0 := w42.drew) (wn rfl) (hk 14 rfl) (hk 3 rfl) one3 rfl hS hM162 m44 (nb_ rfl) rfl (λ _ h => h))<|ec_ (λ x y hS hT hk => dfa (wn rfl) (hT.ev rfl) fo30_2 ⟨SM.refl _, rfl⟩)<|ec_ (λ x y hS hT hk => d_storeM (v := (J i.a)) (w0 := w42.drew) (wn rfl) (hk 16 rfl) (hk 5 rfl) one3 rfl hS hM162 m44 (nb_ rfl) rfl (λ _ h => h))<|ec_ (λ x y hS hT hk => dfa (wn rfl) (hT.ev rfl) fo30_3 ⟨SM.refl _, rfl⟩)<|ec_ (λ x y hS hT hk => d_storeM (v := (J i.b)) (w0 := w42.drew) (wn rfl) (hk 18 rfl) (hk 7 rfl) one3 rfl hS hM162 m44 (nb_ rfl) rfl (λ _ h => h))<|ec_ (λ x y hS hT hk => dfa (wn rfl) (hT.ev rfl) fo30_4 ⟨SM.refl _, rfl⟩)<|ec_ (λ x y hS hT hk => d_storeM (v := (J (immF i i.b))) (w0 := w42.drew) (wn rfl) (hk 20 rfl) (hk 11 rfl) one3 rfl hS hM162 m44 (nb_ rfl) rfl (λ _ h => h)) ?_
   exact each_nil
  intro f163 a164 w165 hS166 hC167 A
  have A : St 119 [(1, (.pointer (some ⟨g3, 0, none⟩))), (2, (.pointer (some ⟨g12, 0, none⟩))), (3, (.pointer (some ⟨g29, 0, none⟩)))] a164 := A.sub rfl
  have m170 := m45.sm hS166 hM160
  have m171 := m46.sm hS166 hM161
  have m172 : Blk w165 g29 #[J i.op, J i.dst, J i.a, J i.b, J (immF i i.b), J 0, J 0, J (-1), J 0, J i.fn, .bool false, .bool false, .bool false, J 0, J 0, J 0, .bool false] 30 := hS166.finL [(1, (J i.dst)), (9, (J i.fn)), (2, (J i.a)), (3, (J i.b)), (4, (J (immF i i.b)))] hM162 (by kernel_rfl) m44 (fc (hC167 13 (nb_ rfl)) (fc (hC167 15 (nb_ rfl)) (fc (hC167 17 (nb_ rfl)) (fc (hC167 19 (nb_ rfl)) (fc (hC167 21 (nb_ rfl)) fn_)))))
  have b173 := hS166.below b47 b47.size hM159B
  refine i_norm<|tn_<|ws_<|sw_<|qs A rfl (dlr (cs := (insC i)) (wn rfl) (A.ev rfl) row30 m170 λ _ A=>C A rfl ent184 (isOp_any i w165) ?_)
  rintro e179 w176 ⟨he178, hG177⟩
  have m180 := m170.grow hG177
  have m181 := m171.grow hG177
  have m182 := m172.grow hG177
  have b183 := bls b173 hG177
  refine ⟨.bool false, he178.trans (ret_bool (by simp [opB, rdB, wrB, eq_of_beq hb152])), λ _ A=>qt_<|cf_ A rfl<|wk_<|tn_<|sw_<|qs A rfl (dlr (cs := #[J i.op, J i.dst, J i.a, J i.b, J (immF i i.b), J 0, J 0, J (-1), J 0, J i.fn, .bool false, .bool false, .bool false, J 0, J 0, J 0, .bool false]) (wn rfl) (A.ev rfl) row30 m182 λ _ A=>qs A rfl (dsr (wn rfl) (A.ev rfl) (A.ev rfl) row30 m181 rfl rfl λ w188 hU189 (m190 : Blk w188 g12 #[J i.op, J i.dst, J i.a, J i.b, J (immF i i.b), J 0, J 0, J (-1), J 0, J i.fn, .bool false, .bool false, .bool false, J 0, J 0, J 0, .bool false] 30)=>?_))⟩
  have m191 := m180.upd hU189 n18
  have m192 := m182.upd hU189 (Ne.symm n36)
  have b193 := hU189.below b183 ge17
  intro _ A
  refine qt_<|we_<|retRow (g := g12) (cs := #[J i.op, J i.dst, J i.a, J i.b, J (immF i i.b), J 0, J 0, J (-1), J 0, J i.fn, .bool false, .bool false, .bool false, J 0, J 0, J 0, .bool false]) rfl A rfl m190 row30 ?_
  exact ⟨ret_agg (by simp [insC, plainF, opB, rdB, wrB, hb54, hb103, eq_of_beq hb152]), b193⟩
 have hq196 := ne_of_beq hb152
 refine B2 A rfl (bq hb152) λ A=>Z 1 A rfl λ A=>qt_<|cf_ A rfl<|sw_ ?_
 rcases eb_ (i.op == 4) with hb201 | hb201
 ·skip
  have hq202 := eq_of_beq hb201
  refine B2 A rfl (bq hb201) λ A=>Z 1 A rfl @λ a205 A=>qt_<|ct_ A rfl ?_
  have A : St 119 [(1, (.pointer (some ⟨g3, 0, none⟩))), (2, (.pointer (some ⟨g12, 0, none⟩))), (3, (.pointer (some ⟨g29, 0, none⟩)))] a205 := A.sub rfl
  let M208 : Nat → Option (Array Value) := λ k => if k = g29 then some #[J i.op, J i.dst, J (-1), J (-1), J 0, J 0, J 0, J (-1), J 0, J 0, .bool i.acq, .bool i.weak, .bool false, J 0, J 0, J 0, .bool false] else none
  have hM208 : M208 = λ k => if k = g29 then some #[J i.op, J i.dst, J (-1), J (-1), J 0, J 0, J 0, J (-1), J 0, J 0, .bool i.acq, .bool i.weak, .bool false, J 0, J 0, J 0, .bool false] else none := rfl
  clear_value M208
  have hM209 : M208 g3 = none := ((congrFun hM208 g3).trans (if_neg n35))
  have hM210 : M208 g12 = none := ((congrFun hM208 g12).trans (if_neg n36))
  have hM211 : M208 g29 = some #[J i.op, J i.dst, J (-1), J (-1), J 0, J 0, J 0, J (-1), J 0, J 0, .bool i.acq, .bool i.weak, .bool false, J 0, J 0, J 0, .bool false] := ((congrFun hM208 g29).trans (if_pos rfl))
  have hM208B : ∀ k, k < w.heap.size → M208 k = none := (λ k hk => (congrFun hM208 k).trans (if_neg (λ h => ni_ _ (Nat.lt_of_lt_of_le (h ▸ hk) ge34))))
  refine drawn (S := SM M208) (tabL [cv (.pointer (some ⟨g3, 1, none⟩)), cv (J i.dst), cv (.pointer (some ⟨g3, 10, none⟩)), cv (.bool i.acq), cv (.pointer (some ⟨g3, 11, none⟩)), cv (.bool i.weak), cv (.pointer (some ⟨g29, 1, none⟩)), cm M208 g29 1 (J i.dst) ⟨_, hM211, rfl⟩, cv (.pointer (some ⟨g29, 10, none⟩)), cm M208 g29 10 (.bool i.acq) ⟨_, hM211, rfl⟩, cv (.pointer (some ⟨g29, 11, none⟩)), cm M208 g29 11 (.bool i.weak) ⟨_, hM211, rfl⟩]) mixedY SM.refl SM.trans SM.drew A (by kernel_rfl) ?_ ?_
  ·skip
   refine ec_ (λ x y hS hT hk => dfa (wn rfl) (hT.ev rfl) fo30_1 ⟨SM.refl _, rfl⟩)<|ec_ (λ x y hS hT hk => dld (v := (J i.dst)) (wn rfl) (hk 0 rfl) one3 ((Blk.sm (w := w42.drew) m45 hS hM209).cell rfl) ⟨SM.refl _, rfl⟩)<|ec_ (λ x y hS hT hk => dfa (wn rfl) (hT.ev rfl) fo30_10 ⟨SM.refl _, rfl⟩)<|ec_ (λ x y hS hT hk => dld (v := (.bool i.acq)) (wn rfl) (hk 2 rfl) one4 ((Blk.sm (w := w42.drew) m45 hS hM209).cell rfl) ⟨SM.refl _, rfl⟩)<|ec_ (λ x y hS hT hk => dfa (wn rfl) (hT.ev rfl) fo30_11 ⟨SM.refl _, rfl⟩)<|ec_ (λ x y hS hT hk => dld (v := (.bool i.weak)) (wn rfl) (hk 4 rfl) one4 ((Blk.sm (w := w42.drew) m45 hS hM209).cell rfl) ⟨SM.refl _, rfl⟩)<|ec_ (λ x y hS hT hk => dfa (wn rfl) (hT.ev rfl) fo30_1 ⟨SM.refl _, rfl⟩)<|ec_ (λ x y hS hT hk => d_storeM (v := (J i.dst)) (w0 := w42.drew) (wn rfl) (hk 6 rfl) (hk 1 rfl) one3 rfl hS hM211 m44 (nb_ rfl) rfl (λ _ h => h))<|ec_ (λ x y hS hT hk => dfa (wn rfl) (hT.ev rfl) fo30_10 ⟨SM.refl _, rfl⟩)<|ec_ (λ x y hS hT hk => d_storeM (v := (.bool i.acq)) (w0 := w42.drew) (wn rfl) (hk 8 rfl) (hk 3 rfl) one4 rfl hS hM211 m44 (nb_ rfl) rfl (λ _ h => h))<|ec_ (λ x y hS hT hk => dfa (wn rfl) (hT.ev rfl) fo30_11 ⟨SM.refl _, rfl⟩)<|ec_ (λ x y hS hT hk => d_storeM (v := (.bool i.weak)) (w0 := w42.drew) (wn rfl) (hk 10 rfl) (hk 5 rfl) one4 rfl hS hM211 m44 (nb_ rfl) rfl (λ _ h => h)) ?_
   exact each_nil
  intro f212 a213 w214 hS215 hC216 A
  have A : St 119 [(1, (.pointer (some ⟨g3, 0, none⟩))), (2, (.pointer (some ⟨g12, 0, none⟩))), (3, (.pointer (some ⟨g29, 0, none⟩)))] a213 := A.sub rfl
  have m219 := m45.sm hS215 hM209
  have m220 := m46.sm hS215 hM210
  have m221 : Blk w214 g29 #[J i.op, J i.dst, J (-1), J (-1), J 0, J 0, J 0, J (-1), J 0, J 0, .bool i.acq, .bool i.weak, .bool false, J 0, J 0, J 0, .bool false] 30 := hS215.finL [(1, (J i.dst)), (10, (.bool i.acq)), (11, (.bool i.weak))] hM211 (by kernel_rfl) m44 (fc (hC216 7 (nb_ rfl)) (fc (hC216 9 (nb_ rfl)) (fc (hC216 11 (nb_ rfl)) fn_)))
  have b222 := hS215.below b47 b47.size hM208B
  refine i_norm<|tn_<|ws_<|sw_<|qs A rfl (dlr (cs := (insC i)) (wn rfl) (A.ev rfl) row30 m219 λ _ A=>C A rfl ent184 (isOp_any i w214) ?_)
  rintro e228 w225 ⟨he227, hG226⟩
  have m229 := m219.grow hG226
  have m230 := m220.grow hG226
  have m231 := m221.grow hG226
  have b232 := bls b222 hG226
  refine ⟨.bool true, he227.trans (ret_bool (by simp [opB, rdB, wrB, eq_of_beq hb201])), λ a233 A=>qt_<|ct_ A rfl ?_⟩
  have A : St 119 [(1, (.pointer (some ⟨g3, 0, none⟩))), (2, (.pointer (some ⟨g12, 0, none⟩))), (3, (.pointer (some ⟨g29, 0, none⟩)))] a233 := A.sub rfl
  let M236 : Nat → Option (Array Value) := λ k => if k = g29 then some #[J i.op, J i.dst, J (-1), J (-1), J 0, J i.loc, J i.off, J i.index, J i.size, J 0, .bool i.acq, .bool i.weak, .bool false, J 0, J 0, J 0, .bool false] else none
  have hM236 : M236 = λ k => if k = g29 then some #[J i.op, J i.dst, J (-1), J (-1), J 0, J i.loc, J i.off, J i.index, J i.size, J 0, .bool i.acq, .bool i.weak, .bool false, J 0, J 0, J 0, .bool false] else none := rfl
  clear_value M236
  have hM237 : M236 g3 = none := ((congrFun hM236 g3).trans (if_neg n35))
  have hM238 : M236 g12 = none := ((congrFun hM236 g12).trans (if_neg n36))
  have hM239 : M236 g29 = some #[J i.op, J i.dst, J (-1), J (-1), J 0, J i.loc, J i.off, J i.index, J i.size, J 0, .bool i.acq, .bool i.weak, .bool false, J 0, J 0, J 0, .bool false] := ((congrFun hM236 g29).trans (if_pos rfl))
  have hM236B : ∀ k, k < w.heap.size → M236 k = none := (λ k hk => (congrFun hM236 k).trans (if_neg (λ h => ni_ _ (Nat.lt_of_lt_of_le (h ▸ hk) ge34))))
  refine drawn (S := SM M236) (tabL [cv (.pointer (some ⟨g3, 5, none⟩)), cv (J i.loc), cv (.pointer (some ⟨g3, 6, none⟩)), cv (J i.off), cv (.pointer (some ⟨g3, 7, none⟩)), cv (J i.index), cv (.pointer (some ⟨g3, 8, none⟩)), cv (J i.size), cv (.pointer (some ⟨g29, 5, none⟩)), cm M236 g29 5 (J i.loc) ⟨_, hM239, rfl⟩, cv (.pointer (some ⟨g29, 6, none⟩)), cm M236 g29 6 (J i.off) ⟨_, hM239, rfl⟩, cv (.pointer (some ⟨g29, 7, none⟩)), cm M236 g29 7 (J i.index) ⟨_, hM239, rfl⟩, cv (.pointer (some ⟨g29, 8, none⟩)), cm M236 g29 8 (J i.size) ⟨_, hM239, rfl⟩]) mixedY SM.refl SM.trans SM.drew A (by kernel_rfl) ?_ ?_
  ·skip
   refine ec_ (λ x y hS hT hk => dfa (wn rfl) (hT.ev rfl) fo30_5 ⟨SM.refl _, rfl⟩)<|ec_ (λ x y hS hT hk => dld (v := (J i.loc)) (wn rfl) (hk 0 rfl) one3 ((Blk.sm (w := w225.drew) m229 hS hM237).cell rfl) ⟨SM.refl _, rfl⟩)<|ec_ (λ x y hS hT hk => dfa (wn rfl) (hT.ev rfl) fo30_6 ⟨SM.refl _, rfl⟩)<|ec_ (λ x y hS hT hk => dld (v := (J i.off)) (wn rfl) (hk 2 rfl) one3 ((Blk.sm (w := w225.drew) m229 hS hM237).cell rfl) ⟨SM.refl _, rfl⟩)<|ec_ (λ x y hS hT hk => dfa (wn rfl) (hT.ev rfl) fo30_7 ⟨SM.refl _, rfl⟩)<|ec_ (λ x y hS hT hk => dld (v := (J i.index)) (wn rfl) (hk 4 rfl) one3 ((Blk.sm (w := w225.drew) m229 hS hM237).cell rfl) ⟨SM.refl _, rfl⟩)<|ec_ (λ x y hS hT hk => dfa (wn rfl) (hT.ev rfl) fo30_8 ⟨SM.refl _, rfl⟩)<|ec_ (λ x y hS hT hk => dld (v := (J i.size)) (wn rfl) (hk 6 rfl) one3 ((Blk.sm (w := w225.drew) m229 hS hM237).cell rfl) ⟨SM.refl _, rfl⟩)<|ec_ (λ x y hS hT hk => dfa (wn rfl) (hT.ev rfl) fo30_5 ⟨SM.refl _, rfl⟩)<|ec_ (λ x y hS hT hk => d_storeM (v := (J i.loc)) (w0 := w225.drew) (wn rfl) (hk 8 rfl) (hk 1 rfl) one3 rfl hS hM239 m231 (nb_ rfl) rfl (λ _ h => h))<|ec_ (λ x y hS hT hk => dfa (wn rfl) (hT.ev rfl) fo30_6 ⟨SM.refl _, rfl⟩)<|ec_ (λ x y hS hT hk => d_storeM (v := (J i.off)) (w0 := w225.drew) (wn rfl) (hk 10 rfl) (hk 3 rfl) one3 rfl hS hM239 m231 (nb_ rfl) rfl (λ _ h => h))<|ec_ (λ x y hS hT hk => dfa (wn rfl) (hT.ev rfl) fo30_7 ⟨SM.refl _, rfl⟩)<|ec_ (λ x y hS hT hk => d_storeM (v := (J i.index)) (w0 := w225.drew) (wn rfl) (hk 12 rfl) (hk 5 rfl) one3 rfl hS hM239 m231 (nb_ rfl) rfl (λ _ h => h)) ?_
   refine ec_ (λ x y hS hT hk => dfa (wn rfl) (hT.ev rfl) fo30_8 ⟨SM.refl _, rfl⟩)<|ec_ (λ x y hS hT hk => d_storeM (v := (J i.size)) (w0 := w225.drew) (wn rfl) (hk 14 rfl) (hk 7 rfl) one3 rfl hS hM239 m231 (nb_ rfl) rfl (λ _ h => h)) ?_
   exact each_nil
  intro f240 a241 w242 hS243 hC244 A
  have A : St 119 [(2, (.pointer (some ⟨g12, 0, none⟩))), (3, (.pointer (some ⟨g29, 0, none⟩)))] a241 := A.sub rfl
  have m247 := m229.sm hS243 hM237
  have m248 := m230.sm hS243 hM238
  have m249 : Blk w242 g29 #[J i.op, J i.dst, J (-1), J (-1), J 0, J i.loc, J i.off, J i.index, J i.size, J 0, .bool i.acq, .bool i.weak, .bool false, J 0, J 0, J 0, .bool false] 30 := hS243.finL [(5, (J i.loc)), (6, (J i.off)), (7, (J i.index)), (8, (J i.size))] hM239 (by kernel_rfl) m231 (fc (hC244 9 (nb_ rfl)) (fc (hC244 11 (nb_ rfl)) (fc (hC244 13 (nb_ rfl)) (fc (hC244 15 (nb_ rfl)) fn_))))
  have b250 := hS243.below b232 b232.size hM236B
  refine tn_<|sw_<|qs A rfl (dlr (cs := #[J i.op, J i.dst, J (-1), J (-1), J 0, J i.loc, J i.off, J i.index, J i.size, J 0, .bool i.acq, .bool i.weak, .bool false, J 0, J 0, J 0, .bool false]) (wn rfl) (A.ev rfl) row30 m249 λ _ A=>qs A rfl (dsr (wn rfl) (A.ev rfl) (A.ev rfl) row30 m248 rfl rfl λ w253 hU254 (m255 : Blk w253 g12 #[J i.op, J i.dst, J (-1), J (-1), J 0, J i.loc, J i.off, J i.index, J i.size, J 0, .bool i.acq, .bool i.weak, .bool false, J 0, J 0, J 0, .bool false] 30)=>?_))
  have m256 := m247.upd hU254 n18
  have m257 := m249.upd hU254 (Ne.symm n36)
  have b258 := hU254.below b250 ge17
  intro _ A
  refine qt_<|we_<|retRow (g := g12) (cs := #[J i.op, J i.dst, J (-1), J (-1), J 0, J i.loc, J i.off, J i.index, J i.size, J 0, .bool i.acq, .bool i.weak, .bool false, J 0, J 0, J 0, .bool false]) rfl A rfl m255 row30 ?_
  exact ⟨ret_agg (by simp [insC, plainF, opB, rdB, wrB, hb54, hb103, hb152, eq_of_beq hb201]), b258⟩
 have hq261 := ne_of_beq hb201
 refine B2 A rfl (bq hb201) λ A=>Z 1 A rfl λ A=>qt_<|cf_ A rfl<|sw_ ?_
 rcases eb_ (i.op == 5) with hb266 | hb266
 ·skip
  have hq267 := eq_of_beq hb266
  refine B2 A rfl (bq hb266) λ A=>Z 1 A rfl @λ a270 A=>qt_<|ct_ A rfl ?_
  have A : St 119 [(1, (.pointer (some ⟨g3, 0, none⟩))), (2, (.pointer (some ⟨g12, 0, none⟩))), (3, (.pointer (some ⟨g29, 0, none⟩)))] a270 := A.sub rfl
  let M273 : Nat → Option (Array Value) := λ k => if k = g29 then some #[J i.op, J (-1), J i.a, J (-1), J (immF i i.a), J 0, J 0, J (-1), J 0, J 0, .bool false, .bool false, .bool i.rel, J 0, J 0, J 0, .bool false] else none
  have hM273 : M273 = λ k => if k = g29 then some #[J i.op, J (-1), J i.a, J (-1), J (immF i i.a), J 0, J 0, J (-1), J 0, J 0, .bool false, .bool false, .bool i.rel, J 0, J 0, J 0, .bool false] else none := rfl
  clear_value M273
  have hM274 : M273 g3 = none := ((congrFun hM273 g3).trans (if_neg n35))
  have hM275 : M273 g12 = none := ((congrFun hM273 g12).trans (if_neg n36))
  have hM276 : M273 g29 = some #[J i.op, J (-1), J i.a, J (-1), J (immF i i.a), J 0, J 0, J (-1), J 0, J 0, .bool false, .bool false, .bool i.rel, J 0, J 0, J 0, .bool false] := ((congrFun hM273 g29).trans (if_pos rfl))
  have hM273B : ∀ k, k < w.heap.size → M273 k = none := (λ k hk => (congrFun hM273 k).trans (if_neg (λ h => ni_ _ (Nat.lt_of_lt_of_le (h ▸ hk) ge34))))
  refine drawn (S := SM M273) (tabL [cv (.pointer (some ⟨g3, 2, none⟩)), cv (J i.a), cv (.agg (insC i)), cv (.pointer (some ⟨g3, 2, none⟩)), cv (J i.a), cv (J (immF i i.a)), cv (.pointer (some ⟨g3, 12, none⟩)), cv (.bool i.rel), cv (.pointer (some ⟨g29, 2, none⟩)), cm M273 g29 2 (J i.a) ⟨_, hM276, rfl⟩, cv (.pointer (some ⟨g29, 4, none⟩)), cm M273 g29 4 (J (immF i i.a)) ⟨_, hM276, rfl⟩, cv (.pointer (some ⟨g29, 12, none⟩)), cm M273 g29 12 (.bool i.rel) ⟨_, hM276, rfl⟩]) mixedY SM.refl SM.trans SM.drew A (by kernel_rfl) ?_ ?_
  ·skip
   refine ec_ (λ x y hS hT hk => dfa (wn rfl) (hT.ev rfl) fo30_2 ⟨SM.refl _, rfl⟩)<|ec_ (λ x y hS hT hk => dld (v := (J i.a)) (wn rfl) (hk 0 rfl) one3 ((Blk.sm (w := w42.drew) m45 hS hM274).cell rfl) ⟨SM.refl _, rfl⟩)<|ec_ (λ x y hS hT hk => dlr (cs := (insC i)) (wn rfl) (hT.ev rfl) row30 (Blk.sm (w := w42.drew) m45 hS hM274) ⟨SM.refl _, rfl⟩)<|ec_ (λ x y hS hT hk => dfa (wn rfl) (hT.ev rfl) fo30_2 ⟨SM.refl _, rfl⟩)<|ec_ (λ x y hS hT hk => dld (v := (J i.a)) (wn rfl) (hk 3 rfl) one3 ((Blk.sm (w := w42.drew) m45 hS hM274).cell rfl) ⟨SM.refl _, rfl⟩)<|ec_ (λ x y hS hT hk => dcl (wn rfl) ent183 (map2 (show x.eval _ = (.agg (insC i)) from (hk 2 rfl)) (show x.eval _ = (J i.a) from (hk 4 rfl))) (immFor_any i i.a y) (λ _ _ ⟨he, hG⟩ => ⟨(J (immF i i.a)), he, SM.grow hG, rfl⟩))<|ec_ (λ x y hS hT hk => dfa (wn rfl) (hT.ev rfl) fo30_12 ⟨SM.refl _, rfl⟩)<|ec_ (λ x y hS hT hk => dld (v := (.bool i.rel)) (wn rfl) (hk 6 rfl) one4 ((Blk.sm (w := w42.drew) m45 hS hM274).cell rfl) ⟨SM.refl _, rfl⟩)<|ec_ (λ x y hS hT hk => dfa (wn rfl) (hT.ev rfl) fo30_2 ⟨SM.refl _, rfl⟩)<|ec_ (λ x y hS hT hk => d_storeM (v := (J i.a)) (w0 := w42.drew) (wn rfl) (hk 8 rfl) (hk 1 rfl) one3 rfl hS hM276 m44 (nb_ rfl) rfl (λ _ h => h))<|ec_ (λ x y hS hT hk => dfa (wn rfl) (hT.ev rfl) fo30_4 ⟨SM.refl _, rfl⟩)<|ec_ (λ x y hS hT hk => d_storeM (v := (J (immF i i.a))) (w0 := w42.drew) (wn rfl) (hk 10 rfl) (hk 5 rfl) one3 rfl hS hM276 m44 (nb_ rfl) rfl (λ _ h => h))<|ec_ (λ x y hS hT hk => dfa (wn rfl) (hT.ev rfl) fo30_12 ⟨SM.refl _, rfl⟩)<|ec_ (λ x y hS hT hk => d_storeM (v := (.bool i.rel)) (w0 := w42.drew) (wn rfl) (hk 12 rfl) (hk 7 rfl) one4 rfl hS hM276 m44 (nb_ rfl) rfl (λ _ h => h)) ?_
   exact each_nil
  intro f277 a278 w279 hS280 hC281 A
  have A : St 119 [(1, (.pointer (some ⟨g3, 0, none⟩))), (2, (.pointer (some ⟨g12, 0, none⟩))), (3, (.pointer (some ⟨g29, 0, none⟩)))] a278 := A.sub rfl
  have m284 := m45.sm hS280 hM274
  have m285 := m46.sm hS280 hM275
  have m286 : Blk w279 g29 #[J i.op, J (-1), J i.a, J (-1), J (immF i i.a), J 0, J 0, J (-1), J 0, J 0, .bool false, .bool false, .bool i.rel, J 0, J 0, J 0, .bool false] 30 := hS280.finL [(2, (J i.a)), (4, (J (immF i i.a))), (12, (.bool i.rel))] hM276 (by kernel_rfl) m44 (fc (hC281 9 (nb_ rfl)) (fc (hC281 11 (nb_ rfl)) (fc (hC281 13 (nb_ rfl)) fn_)))
  have b287 := hS280.below b47 b47.size hM273B
  refine i_norm<|tn_<|ws_<|sw_<|qs A rfl (dlr (cs := (insC i)) (wn rfl) (A.ev rfl) row30 m284 λ _ A=>C A rfl ent184 (isOp_any i w279) ?_)
  rintro e293 w290 ⟨he292, hG291⟩
  have m294 := m284.grow hG291
  have m295 := m285.grow hG291
  have m296 := m286.grow hG291
  have b297 := bls b287 hG291
  refine ⟨.bool true, he292.trans (ret_bool (by simp [opB, rdB, wrB, eq_of_beq hb266])), λ a298 A=>qt_<|ct_ A rfl ?_⟩
  have A : St 119 [(1, (.pointer (some ⟨g3, 0, none⟩))), (2, (.pointer (some ⟨g12, 0, none⟩))), (3, (.pointer (some ⟨g29, 0, none⟩)))] a298 := A.sub rfl
  let M301 : Nat → Option (Array Value) := λ k => if k = g29 then some #[J i.op, J (-1), J i.a, J (-1), J (immF i i.a), J i.loc, J i.off, J i.index, J i.size, J 0, .bool false, .bool false, .bool i.rel, J 0, J 0, J 0, .bool false] else none
  have hM301 : M301 = λ k => if k = g29 then some #[J i.op, J (-1), J i.a, J (-1), J (immF i i.a), J i.loc, J i.off, J i.index, J i.size, J 0, .bool false, .bool false, .bool i.rel, J 0, J 0, J 0, .bool false] else none := rfl
  clear_value M301
  have hM302 : M301 g3 = none := ((congrFun hM301 g3).trans (if_neg n35))
  have hM303 : M301 g12 = none := ((congrFun hM301 g12).trans (if_neg n36))
  have hM304 : M301 g29 = some #[J i.op, J (-1), J i.a, J (-1), J (immF i i.a), J i.loc, J i.off, J i.index, J i.size, J 0, .bool false, .bool false, .bool i.rel, J 0, J 0, J 0, .bool false] := ((congrFun hM301 g29).trans (if_pos rfl))
  have hM301B : ∀ k, k < w.heap.size → M301 k = none := (λ k hk => (congrFun hM301 k).trans (if_neg (λ h => ni_ _ (Nat.lt_of_lt_of_le (h ▸ hk) ge34))))
  refine drawn (S := SM M301) (tabL [cv (.pointer (some ⟨g3, 5, none⟩)), cv (J i.loc), cv (.pointer (some ⟨g3, 6, none⟩)), cv (J i.off), cv (.pointer (some ⟨g3, 7, none⟩)), cv (J i.index), cv (.pointer (some ⟨g3, 8, none⟩)), cv (J i.size), cv (.pointer (some ⟨g29, 5, none⟩)), cm M301 g29 5 (J i.loc) ⟨_, hM304, rfl⟩, cv (.pointer (some ⟨g29, 6, none⟩)), cm M301 g29 6 (J i.off) ⟨_, hM304, rfl⟩, cv (.pointer (some ⟨g29, 7, none⟩)), cm M301 g29 7 (J i.index) ⟨_, hM304, rfl⟩, cv (.pointer (some ⟨g29, 8, none⟩)), cm M301 g29 8 (J i.size) ⟨_, hM304, rfl⟩]) mixedY SM.refl SM.trans SM.drew A (by kernel_rfl) ?_ ?_
  ·skip
   refine ec_ (λ x y hS hT hk => dfa (wn rfl) (hT.ev rfl) fo30_5 ⟨SM.refl _, rfl⟩)<|ec_ (λ x y hS hT hk => dld (v := (J i.loc)) (wn rfl) (hk 0 rfl) one3 ((Blk.sm (w := w290.drew) m294 hS hM302).cell rfl) ⟨SM.refl _, rfl⟩)<|ec_ (λ x y hS hT hk => dfa (wn rfl) (hT.ev rfl) fo30_6 ⟨SM.refl _, rfl⟩)<|ec_ (λ x y hS hT hk => dld (v := (J i.off)) (wn rfl) (hk 2 rfl) one3 ((Blk.sm (w := w290.drew) m294 hS hM302).cell rfl) ⟨SM.refl _, rfl⟩)<|ec_ (λ x y hS hT hk => dfa (wn rfl) (hT.ev rfl) fo30_7 ⟨SM.refl _, rfl⟩)<|ec_ (λ x y hS hT hk => dld (v := (J i.index)) (wn rfl) (hk 4 rfl) one3 ((Blk.sm (w := w290.drew) m294 hS hM302).cell rfl) ⟨SM.refl _, rfl⟩)<|ec_ (λ x y hS hT hk => dfa (wn rfl) (hT.ev rfl) fo30_8 ⟨SM.refl _, rfl⟩)<|ec_ (λ x y hS hT hk => dld (v := (J i.size)) (wn rfl) (hk 6 rfl) one3 ((Blk.sm (w := w290.drew) m294 hS hM302).cell rfl) ⟨SM.refl _, rfl⟩)<|ec_ (λ x y hS hT hk => dfa (wn rfl) (hT.ev rfl) fo30_5 ⟨SM.refl _, rfl⟩)<|ec_ (λ x y hS hT hk => d_storeM (v := (J i.loc)) (w0 := w290.drew) (wn rfl) (hk 8 rfl) (hk 1 rfl) one3 rfl hS hM304 m296 (nb_ rfl) rfl (λ _ h => h))<|ec_ (λ x y hS hT hk => dfa (wn rfl) (hT.ev rfl) fo30_6 ⟨SM.refl _, rfl⟩)<|ec_ (λ x y hS hT hk => d_storeM (v := (J i.off)) (w0 := w290.drew) (wn rfl) (hk 10 rfl) (hk 3 rfl) one3 rfl hS hM304 m296 (nb_ rfl) rfl (λ _ h => h))<|ec_ (λ x y hS hT hk => dfa (wn rfl) (hT.ev rfl) fo30_7 ⟨SM.refl _, rfl⟩)<|ec_ (λ x y hS hT hk => d_storeM (v := (J i.index)) (w0 := w290.drew) (wn rfl) (hk 12 rfl) (hk 5 rfl) one3 rfl hS hM304 m296 (nb_ rfl) rfl (λ _ h => h)) ?_
   refine ec_ (λ x y hS hT hk => dfa (wn rfl) (hT.ev rfl) fo30_8 ⟨SM.refl _, rfl⟩)<|ec_ (λ x y hS hT hk => d_storeM (v := (J i.size)) (w0 := w290.drew) (wn rfl) (hk 14 rfl) (hk 7 rfl) one3 rfl hS hM304 m296 (nb_ rfl) rfl (λ _ h => h)) ?_
   exact each_nil
  intro f305 a306 w307 hS308 hC309 A
  have A : St 119 [(2, (.pointer (some ⟨g12, 0, none⟩))), (3, (.pointer (some ⟨g29, 0, none⟩)))] a306 := A.sub rfl
  have m312 := m294.sm hS308 hM302
  have m313 := m295.sm hS308 hM303
  have m314 : Blk w307 g29 #[J i.op, J (-1), J i.a, J (-1), J (immF i i.a), J i.loc, J i.off, J i.index, J i.size, J 0, .bool false, .bool false, .bool i.rel, J 0, J 0, J 0, .bool false] 30 := hS308.finL [(5, (J i.loc)), (6, (J i.off)), (7, (J i.index)), (8, (J i.size))] hM304 (by kernel_rfl) m296 (fc (hC309 9 (nb_ rfl)) (fc (hC309 11 (nb_ rfl)) (fc (hC309 13 (nb_ rfl)) (fc (hC309 15 (nb_ rfl)) fn_))))
  have b315 := hS308.below b297 b297.size hM301B
  refine tn_<|sw_<|qs A rfl (dlr (cs := #[J i.op, J (-1), J i.a, J (-1), J (immF i i.a), J i.loc, J i.off, J i.index, J i.size, J 0, .bool false, .bool false, .bool i.rel, J 0, J 0, J 0, .bool false]) (wn rfl) (A.ev rfl) row30 m314 λ _ A=>qs A rfl (dsr (wn rfl) (A.ev rfl) (A.ev rfl) row30 m313 rfl rfl λ w318 hU319 (m320 : Blk w318 g12 #[J i.op, J (-1), J i.a, J (-1), J (immF i i.a), J i.loc, J i.off, J i.index, J i.size, J 0, .bool false, .bool false, .bool i.rel, J 0, J 0, J 0, .bool false] 30)=>?_))
  have m321 := m312.upd hU319 n18
  have m322 := m314.upd hU319 (Ne.symm n36)
  have b323 := hU319.below b315 ge17
  intro _ A
  refine qt_<|we_<|retRow (g := g12) (cs := #[J i.op, J (-1), J i.a, J (-1), J (immF i i.a), J i.loc, J i.off, J i.index, J i.size, J 0, .bool false, .bool false, .bool i.rel, J 0, J 0, J 0, .bool false]) rfl A rfl m320 row30 ?_
  exact ⟨ret_agg (by simp [insC, plainF, opB, rdB, wrB, hb54, hb103, hb152, hb201, eq_of_beq hb266]), b323⟩
 have hq326 := ne_of_beq hb266
 refine B2 A rfl (bq hb266) λ A=>Z 1 A rfl λ A=>qt_<|cf_ A rfl<|sw_ ?_
 rcases eb_ (i.op == 6) with hb331 | hb331
 ·skip
  have hq332 := eq_of_beq hb331
  refine B2 A rfl (bq hb331) λ A=>Z 1 A rfl @λ a335 A=>qt_<|ct_ A rfl ?_
  have A : St 119 [(1, (.pointer (some ⟨g3, 0, none⟩))), (2, (.pointer (some ⟨g12, 0, none⟩))), (3, (.pointer (some ⟨g29, 0, none⟩)))] a335 := A.sub rfl
  let M338 : Nat → Option (Array Value) := λ k => if k = g29 then some #[J i.op, J i.dst, J i.a, J (-1), J 0, J 0, J 0, J (-1), J 0, J i.fn, .bool i.acq, .bool false, .bool i.rel, J 0, J 0, J 0, .bool false] else none
  have hM338 : M338 = λ k => if k = g29 then some #[J i.op, J i.dst, J i.a, J (-1), J 0, J 0, J 0, J (-1), J 0, J i.fn, .bool i.acq, .bool false, .bool i.rel, J 0, J 0, J 0, .bool false] else none := rfl
  clear_value M338
  have hM339 : M338 g3 = none := ((congrFun hM338 g3).trans (if_neg n35))
  have hM340 : M338 g12 = none := ((congrFun hM338 g12).trans (if_neg n36))
  have hM341 : M338 g29 = some #[J i.op, J i.dst, J i.a, J (-1), J 0, J 0, J 0, J (-1), J 0, J i.fn, .bool i.acq, .bool false, .bool i.rel, J 0, J 0, J 0, .bool false] := ((congrFun hM338 g29).trans (if_pos rfl))
  have hM338B : ∀ k, k < w.heap.size → M338 k = none := (λ k hk => (congrFun hM338 k).trans (if_neg (λ h => ni_ _ (Nat.lt_of_lt_of_le (h ▸ hk) ge34))))
  refine drawn (S := SM M338) (tabL [cv (.pointer (some ⟨g3, 1, none⟩)), cv (J i.dst), cv (.pointer (some ⟨g3, 2, none⟩)), cv (J i.a), cv (.pointer (some ⟨g3, 9, none⟩)), cv (J i.fn), cv (.pointer (some ⟨g3, 10, none⟩)), cv (.bool i.acq), cv (.pointer (some ⟨g3, 12, none⟩)), cv (.bool i.rel), cv (.pointer (some ⟨g29, 1, none⟩)), cm M338 g29 1 (J i.dst) ⟨_, hM341, rfl⟩, cv (.pointer (some ⟨g29, 2, none⟩)), cm M338 g29 2 (J i.a) ⟨_, hM341, rfl⟩, cv (.pointer (some ⟨g29, 9, none⟩)), cm M338 g29 9 (J i.fn) ⟨_, hM341, rfl⟩, cv (.pointer (some ⟨g29, 10, none⟩)), cm M338 g29 10 (.bool i.acq) ⟨_, hM341, rfl⟩, cv (.pointer (some ⟨g29, 12, none⟩)), cm M338 g29 12 (.bool i.rel) ⟨_, hM341, rfl⟩]) mixedY SM.refl SM.trans SM.drew A (by kernel_rfl) ?_ ?_
  ·skip
   refine ec_ (λ x y hS hT hk => dfa (wn rfl) (hT.ev rfl) fo30_1 ⟨SM.refl _, rfl⟩)<|ec_ (λ x y hS hT hk => dld (v := (J i.dst)) (wn rfl) (hk 0 rfl) one3 ((Blk.sm (w := w42.drew) m45 hS hM339).cell rfl) ⟨SM.refl _, rfl⟩)<|ec_ (λ x y hS hT hk => dfa (wn rfl) (hT.ev rfl) fo30_2 ⟨SM.refl _, rfl⟩)<|ec_ (λ x y hS hT hk => dld (v := (J i.a)) (wn rfl) (hk 2 rfl) one3 ((Blk.sm (w := w42.drew) m45 hS hM339).cell rfl) ⟨SM.refl _, rfl⟩)<|ec_ (λ x y hS hT hk => dfa (wn rfl) (hT.ev rfl) fo30_9 ⟨SM.refl _, rfl⟩)<|ec_ (λ x y hS hT hk => dld (v := (J i.fn)) (wn rfl) (hk 4 rfl) one3 ((Blk.sm (w := w42.drew) m45 hS hM339).cell rfl) ⟨SM.refl _, rfl⟩)<|ec_ (λ x y hS hT hk => dfa (wn rfl) (hT.ev rfl) fo30_10 ⟨SM.refl _, rfl⟩)<|ec_ (λ x y hS hT hk => dld (v := (.bool i.acq)) (wn rfl) (hk 6 rfl) one4 ((Blk.sm (w := w42.drew) m45 hS hM339).cell rfl) ⟨SM.refl _, rfl⟩)<|ec_ (λ x y hS hT hk => dfa (wn rfl) (hT.ev rfl) fo30_12 ⟨SM.refl _, rfl⟩)<|ec_ (λ x y hS hT hk => dld (v := (.bool i.rel)) (wn rfl) (hk 8 rfl) one4 ((Blk.sm (w := w42.drew) m45 hS hM339).cell rfl) ⟨SM.refl _, rfl⟩)<|ec_ (λ x y hS hT hk => dfa (wn rfl) (hT.ev rfl) fo30_1 ⟨SM.refl _, rfl⟩)<|ec_ (λ x y hS hT hk => d_storeM (v := (J i.dst)) (w0 := w42.drew) (wn rfl) (hk 10 rfl) (hk 1 rfl) one3 rfl hS hM341 m44 (nb_ rfl) rfl (λ _ h => h))<|ec_ (λ x y hS hT hk => dfa (wn rfl) (hT.ev rfl) fo30_2 ⟨SM.refl _, rfl⟩)<|ec_ (λ x y hS hT hk => d_storeM (v := (J i.a)) (w0 := w42.drew) (wn rfl) (hk 12 rfl) (hk 3 rfl) one3 rfl hS hM341 m44 (nb_ rfl) rfl (λ _ h => h)) ?_
   refine ec_ (λ x y hS hT hk => dfa (wn rfl) (hT.ev rfl) fo30_9 ⟨SM.refl _, rfl⟩)<|ec_ (λ x y hS hT hk => d_storeM (v := (J i.fn)) (w0 := w42.drew) (wn rfl) (hk 14 rfl) (hk 5 rfl) one3 rfl hS hM341 m44 (nb_ rfl) rfl (λ _ h => h))<|ec_ (λ x y hS hT hk => dfa (wn rfl) (hT.ev rfl) fo30_10 ⟨SM.refl _, rfl⟩)<|ec_ (λ x y hS hT hk => d_storeM (v := (.bool i.acq)) (w0 := w42.drew) (wn rfl) (hk 16 rfl) (hk 7 rfl) one4 rfl hS hM341 m44 (nb_ rfl) rfl (λ _ h => h))<|ec_ (λ x y hS hT hk => dfa (wn rfl) (hT.ev rfl) fo30_12 ⟨SM.refl _, rfl⟩)<|ec_ (λ x y hS hT hk => d_storeM (v := (.bool i.rel)) (w0 := w42.drew) (wn rfl) (hk 18 rfl) (hk 9 rfl) one4 rfl hS hM341 m44 (nb_ rfl) rfl (λ _ h => h)) ?_
   exact each_nil
  intro f342 a343 w344 hS345 hC346 A
  have A : St 119 [(1, (.pointer (some ⟨g3, 0, none⟩))), (2, (.pointer (some ⟨g12, 0, none⟩))), (3, (.pointer (some ⟨g29, 0, none⟩)))] a343 := A.sub rfl
  have m349 := m45.sm hS345 hM339
  have m350 := m46.sm hS345 hM340
  have m351 : Blk w344 g29 #[J i.op, J i.dst, J i.a, J (-1), J 0, J 0, J 0, J (-1), J 0, J i.fn, .bool i.acq, .bool false, .bool i.rel, J 0, J 0, J 0, .bool false] 30 := hS345.finL [(1, (J i.dst)), (2, (J i.a)), (9, (J i.fn)), (10, (.bool i.acq)), (12, (.bool i.rel))] hM341 (by kernel_rfl) m44 (fc (hC346 11 (nb_ rfl)) (fc (hC346 13 (nb_ rfl)) (fc (hC346 15 (nb_ rfl)) (fc (hC346 17 (nb_ rfl)) (fc (hC346 19 (nb_ rfl)) fn_)))))
  have b352 := hS345.below b47 b47.size hM338B
  refine i_norm<|tn_<|ws_<|sw_<|qs A rfl (dlr (cs := (insC i)) (wn rfl) (A.ev rfl) row30 m349 λ _ A=>C A rfl ent184 (isOp_any i w344) ?_)
  rintro e358 w355 ⟨he357, hG356⟩
  have m359 := m349.grow hG356
  have m360 := m350.grow hG356
  have m361 := m351.grow hG356
  have b362 := bls b352 hG356
  refine ⟨.bool true, he357.trans (ret_bool (by simp [opB, rdB, wrB, eq_of_beq hb331])), λ a363 A=>qt_<|ct_ A rfl ?_⟩
  have A : St 119 [(1, (.pointer (some ⟨g3, 0, none⟩))), (2, (.pointer (some ⟨g12, 0, none⟩))), (3, (.pointer (some ⟨g29, 0, none⟩)))] a363 := A.sub rfl
  let M366 : Nat → Option (Array Value) := λ k => if k = g29 then some #[J i.op, J i.dst, J i.a, J (-1), J 0, J i.loc, J i.off, J i.index, J i.size, J i.fn, .bool i.acq, .bool false, .bool i.rel, J 0, J 0, J 0, .bool false] else none
  have hM366 : M366 = λ k => if k = g29 then some #[J i.op, J i.dst, J i.a, J (-1), J 0, J i.loc, J i.off, J i.index, J i.size, J i.fn, .bool i.acq, .bool false, .bool i.rel, J 0, J 0, J 0, .bool false] else none := rfl
  clear_value M366
  have hM367 : M366 g3 = none := ((congrFun hM366 g3).trans (if_neg n35))
  have hM368 : M366 g12 = none := ((congrFun hM366 g12).trans (if_neg n36))
  have hM369 : M366 g29 = some #[J i.op, J i.dst, J i.a, J (-1), J 0, J i.loc, J i.off, J i.index, J i.size, J i.fn, .bool i.acq, .bool false, .bool i.rel, J 0, J 0, J 0, .bool false] := ((congrFun hM366 g29).trans (if_pos rfl))
  have hM366B : ∀ k, k < w.heap.size → M366 k = none := (λ k hk => (congrFun hM366 k).trans (if_neg (λ h => ni_ _ (Nat.lt_of_lt_of_le (h ▸ hk) ge34))))
  refine drawn (S := SM M366) (tabL [cv (.pointer (some ⟨g3, 5, none⟩)), cv (J i.loc), cv (.pointer (some ⟨g3, 6, none⟩)), cv (J i.off), cv (.pointer (some ⟨g3, 7, none⟩)), cv (J i.index), cv (.pointer (some ⟨g3, 8, none⟩)), cv (J i.size), cv (.pointer (some ⟨g29, 5, none⟩)), cm M366 g29 5 (J i.loc) ⟨_, hM369, rfl⟩, cv (.pointer (some ⟨g29, 6, none⟩)), cm M366 g29 6 (J i.off) ⟨_, hM369, rfl⟩, cv (.pointer (some ⟨g29, 7, none⟩)), cm M366 g29 7 (J i.index) ⟨_, hM369, rfl⟩, cv (.pointer (some ⟨g29, 8, none⟩)), cm M366 g29 8 (J i.size) ⟨_, hM369, rfl⟩]) mixedY SM.refl SM.trans SM.drew A (by kernel_rfl) ?_ ?_
  ·skip
   refine ec_ (λ x y hS hT hk => dfa (wn rfl) (hT.ev rfl) fo30_5 ⟨SM.refl _, rfl⟩)<|ec_ (λ x y hS hT hk => dld (v := (J i.loc)) (wn rfl) (hk 0 rfl) one3 ((Blk.sm (w := w355.drew) m359 hS hM367).cell rfl) ⟨SM.refl _, rfl⟩)<|ec_ (λ x y hS hT hk => dfa (wn rfl) (hT.ev rfl) fo30_6 ⟨SM.refl _, rfl⟩)<|ec_ (λ x y hS hT hk => dld (v := (J i.off)) (wn rfl) (hk 2 rfl) one3 ((Blk.sm (w := w355.drew) m359 hS hM367).cell rfl) ⟨SM.refl _, rfl⟩)<|ec_ (λ x y hS hT hk => dfa (wn rfl) (hT.ev rfl) fo30_7 ⟨SM.refl _, rfl⟩)<|ec_ (λ x y hS hT hk => dld (v := (J i.index)) (wn rfl) (hk 4 rfl) one3 ((Blk.sm (w := w355.drew) m359 hS hM367).cell rfl) ⟨SM.refl _, rfl⟩)<|ec_ (λ x y hS hT hk => dfa (wn rfl) (hT.ev rfl) fo30_8 ⟨SM.refl _, rfl⟩)<|ec_ (λ x y hS hT hk => dld (v := (J i.size)) (wn rfl) (hk 6 rfl) one3 ((Blk.sm (w := w355.drew) m359 hS hM367).cell rfl) ⟨SM.refl _, rfl⟩)<|ec_ (λ x y hS hT hk => dfa (wn rfl) (hT.ev rfl) fo30_5 ⟨SM.refl _, rfl⟩)<|ec_ (λ x y hS hT hk => d_storeM (v := (J i.loc)) (w0 := w355.drew) (wn rfl) (hk 8 rfl) (hk 1 rfl) one3 rfl hS hM369 m361 (nb_ rfl) rfl (λ _ h => h))<|ec_ (λ x y hS hT hk => dfa (wn rfl) (hT.ev rfl) fo30_6 ⟨SM.refl _, rfl⟩)<|ec_ (λ x y hS hT hk => d_storeM (v := (J i.off)) (w0 := w355.drew) (wn rfl) (hk 10 rfl) (hk 3 rfl) one3 rfl hS hM369 m361 (nb_ rfl) rfl (λ _ h => h))<|ec_ (λ x y hS hT hk => dfa (wn rfl) (hT.ev rfl) fo30_7 ⟨SM.refl _, rfl⟩)<|ec_ (λ x y hS hT hk => d_storeM (v := (J i.index)) (w0 := w355.drew) (wn rfl) (hk 12 rfl) (hk 5 rfl) one3 rfl hS hM369 m361 (nb_ rfl) rfl (λ _ h => h)) ?_
   refine ec_ (λ x y hS hT hk => dfa (wn rfl) (hT.ev rfl) fo30_8 ⟨SM.refl _, rfl⟩)<|ec_ (λ x y hS hT hk => d_storeM (v := (J i.size)) (w0 := w355.drew) (wn rfl) (hk 14 rfl) (hk 7 rfl) one3 rfl hS hM369 m361 (nb_ rfl) rfl (λ _ h => h)) ?_
   exact each_nil
  intro f370 a371 w372 hS373 hC374 A
  have A : St 119 [(2, (.pointer (some ⟨g12, 0, none⟩))), (3, (.pointer (some ⟨g29, 0, none⟩)))] a371 := A.sub rfl
  have m377 := m359.sm hS373 hM367
  have m378 := m360.sm hS373 hM368
  have m379 : Blk w372 g29 #[J i.op, J i.dst, J i.a, J (-1), J 0, J i.loc, J i.off, J i.index, J i.size, J i.fn, .bool i.acq, .bool false, .bool i.rel, J 0, J 0, J 0, .bool false] 30 := hS373.finL [(5, (J i.loc)), (6, (J i.off)), (7, (J i.index)), (8, (J i.size))] hM369 (by kernel_rfl) m361 (fc (hC374 9 (nb_ rfl)) (fc (hC374 11 (nb_ rfl)) (fc (hC374 13 (nb_ rfl)) (fc (hC374 15 (nb_ rfl)) fn_))))
  have b380 := hS373.below b362 b362.size hM366B
  refine tn_<|sw_<|qs A rfl (dlr (cs := #[J i.op, J i.dst, J i.a, J (-1), J 0, J i.loc, J i.off, J i.index, J i.size, J i.fn, .bool i.acq, .bool false, .bool i.rel, J 0, J 0, J 0, .bool false]) (wn rfl) (A.ev rfl) row30 m379 λ _ A=>qs A rfl (dsr (wn rfl) (A.ev rfl) (A.ev rfl) row30 m378 rfl rfl λ w383 hU384 (m385 : Blk w383 g12 #[J i.op, J i.dst, J i.a, J (-1), J 0, J i.loc, J i.off, J i.index, J i.size, J i.fn, .bool i.acq, .bool false, .bool i.rel, J 0, J 0, J 0, .bool false] 30)=>?_))
  have m386 := m377.upd hU384 n18
  have m387 := m379.upd hU384 (Ne.symm n36)
  have b388 := hU384.below b380 ge17
  intro _ A
  refine qt_<|we_<|retRow (g := g12) (cs := #[J i.op, J i.dst, J i.a, J (-1), J 0, J i.loc, J i.off, J i.index, J i.size, J i.fn, .bool i.acq, .bool false, .bool i.rel, J 0, J 0, J 0, .bool false]) rfl A rfl m385 row30 ?_
  exact ⟨ret_agg (by simp [insC, plainF, opB, rdB, wrB, hb54, hb103, hb152, hb201, hb266, eq_of_beq hb331]), b388⟩
 have hq391 := ne_of_beq hb331
 refine B2 A rfl (bq hb331) λ A=>Z 1 A rfl λ A=>qt_<|cf_ A rfl<|sw_ ?_
 rcases eb_ (i.op == 7) with hb396 | hb396
 ·skip
  have hq397 := eq_of_beq hb396
  refine B2 A rfl (bq hb396) λ A=>Z 1 A rfl @λ a400 A=>qt_<|ct_ A rfl ?_
  have A : St 119 [(1, (.pointer (some ⟨g3, 0, none⟩))), (2, (.pointer (some ⟨g12, 0, none⟩))), (3, (.pointer (some ⟨g29, 0, none⟩)))] a400 := A.sub rfl
  let M403 : Nat → Option (Array Value) := λ k => if k = g29 then some #[J i.op, J (-1), J (-1), J (-1), J 0, J 0, J 0, J (-1), J 0, J 0, .bool false, .bool false, .bool false, J i.pred, J i.succ, J 0, .bool false] else none
  have hM403 : M403 = λ k => if k = g29 then some #[J i.op, J (-1), J (-1), J (-1), J 0, J 0, J 0, J (-1), J 0, J 0, .bool false, .bool false, .bool false, J i.pred, J i.succ, J 0, .bool false] else none := rfl
  clear_value M403
  have hM404 : M403 g3 = none := ((congrFun hM403 g3).trans (if_neg n35))
  have hM405 : M403 g12 = none := ((congrFun hM403 g12).trans (if_neg n36))
  have hM406 : M403 g29 = some #[J i.op, J (-1), J (-1), J (-1), J 0, J 0, J 0, J (-1), J 0, J 0, .bool false, .bool false, .bool false, J i.pred, J i.succ, J 0, .bool false] := ((congrFun hM403 g29).trans (if_pos rfl))
  have hM403B : ∀ k, k < w.heap.size → M403 k = none := (λ k hk => (congrFun hM403 k).trans (if_neg (λ h => ni_ _ (Nat.lt_of_lt_of_le (h ▸ hk) ge34))))
  refine drawn (S := SM M403) (tabL [cv (.pointer (some ⟨g3, 13, none⟩)), cv (J i.pred), cv (.pointer (some ⟨g3, 14, none⟩)), cv (J i.succ), cv (.pointer (some ⟨g29, 13, none⟩)), cm M403 g29 13 (J i.pred) ⟨_, hM406, rfl⟩, cv (.pointer (some ⟨g29, 14, none⟩)), cm M403 g29 14 (J i.succ) ⟨_, hM406, rfl⟩]) mixedY SM.refl SM.trans SM.drew A (by kernel_rfl) ?_ ?_
  ·skip
   refine ec_ (λ x y hS hT hk => dfa (wn rfl) (hT.ev rfl) fo30_13 ⟨SM.refl _, rfl⟩)<|ec_ (λ x y hS hT hk => dld (v := (J i.pred)) (wn rfl) (hk 0 rfl) one3 ((Blk.sm (w := w42.drew) m45 hS hM404).cell rfl) ⟨SM.refl _, rfl⟩)<|ec_ (λ x y hS hT hk => dfa (wn rfl) (hT.ev rfl) fo30_14 ⟨SM.refl _, rfl⟩)<|ec_ (λ x y hS hT hk => dld (v := (J i.succ)) (wn rfl) (hk 2 rfl) one3 ((Blk.sm (w := w42.drew) m45 hS hM404).cell rfl) ⟨SM.refl _, rfl⟩)<|ec_ (λ x y hS hT hk => dfa (wn rfl) (hT.ev rfl) fo30_13 ⟨SM.refl _, rfl⟩)<|ec_ (λ x y hS hT hk => d_storeM (v := (J i.pred)) (w0 := w42.drew) (wn rfl) (hk 4 rfl) (hk 1 rfl) one3 rfl hS hM406 m44 (nb_ rfl) rfl (λ _ h => h))<|ec_ (λ x y hS hT hk => dfa (wn rfl) (hT.ev rfl) fo30_14 ⟨SM.refl _, rfl⟩)<|ec_ (λ x y hS hT hk => d_storeM (v := (J i.succ)) (w0 := w42.drew) (wn rfl) (hk 6 rfl) (hk 3 rfl) one3 rfl hS hM406 m44 (nb_ rfl) rfl (λ _ h => h)) ?_
   exact each_nil
  intro f407 a408 w409 hS410 hC411 A
  have A : St 119 [(1, (.pointer (some ⟨g3, 0, none⟩))), (2, (.pointer (some ⟨g12, 0, none⟩))), (3, (.pointer (some ⟨g29, 0, none⟩)))] a408 := A.sub rfl
  have m414 := m45.sm hS410 hM404
  have m415 := m46.sm hS410 hM405
  have m416 : Blk w409 g29 #[J i.op, J (-1), J (-1), J (-1), J 0, J 0, J 0, J (-1), J 0, J 0, .bool false, .bool false, .bool false, J i.pred, J i.succ, J 0, .bool false] 30 := hS410.finL [(13, (J i.pred)), (14, (J i.succ))] hM406 (by kernel_rfl) m44 (fc (hC411 5 (nb_ rfl)) (fc (hC411 7 (nb_ rfl)) fn_))
  have b417 := hS410.below b47 b47.size hM403B
  refine i_norm<|tn_<|ws_<|sw_<|qs A rfl (dlr (cs := (insC i)) (wn rfl) (A.ev rfl) row30 m414 λ _ A=>C A rfl ent184 (isOp_any i w409) ?_)
  rintro e423 w420 ⟨he422, hG421⟩
  have m424 := m414.grow hG421
  have m425 := m415.grow hG421
  have m426 := m416.grow hG421
  have b427 := bls b417 hG421
  refine ⟨.bool false, he422.trans (ret_bool (by simp [opB, rdB, wrB, eq_of_beq hb396])), λ _ A=>qt_<|cf_ A rfl<|wk_<|tn_<|sw_<|qs A rfl (dlr (cs := #[J i.op, J (-1), J (-1), J (-1), J 0, J 0, J 0, J (-1), J 0, J 0, .bool false, .bool false, .bool false, J i.pred, J i.succ, J 0, .bool false]) (wn rfl) (A.ev rfl) row30 m426 λ _ A=>qs A rfl (dsr (wn rfl) (A.ev rfl) (A.ev rfl) row30 m425 rfl rfl λ w432 hU433 (m434 : Blk w432 g12 #[J i.op, J (-1), J (-1), J (-1), J 0, J 0, J 0, J (-1), J 0, J 0, .bool false, .bool false, .bool false, J i.pred, J i.succ, J 0, .bool false] 30)=>?_))⟩
  have m435 := m424.upd hU433 n18
  have m436 := m426.upd hU433 (Ne.symm n36)
  have b437 := hU433.below b427 ge17
  intro _ A
  refine qt_<|we_<|retRow (g := g12) (cs := #[J i.op, J (-1), J (-1), J (-1), J 0, J 0, J 0, J (-1), J 0, J 0, .bool false, .bool false, .bool false, J i.pred, J i.succ, J 0, .bool false]) rfl A rfl m434 row30 ?_
  exact ⟨ret_agg (by simp [insC, plainF, opB, rdB, wrB, hb54, hb103, hb152, hb201, hb266, hb331, eq_of_beq hb396]), b437⟩
 have hq440 := ne_of_beq hb396
 refine B2 A rfl (bq hb396) λ A=>Z 1 A rfl λ A=>qt_<|cf_ A rfl<|sw_ ?_
 rcases eb_ (i.op == 9) with hb445 | hb445
 ·skip
  have hq446 := eq_of_beq hb445
  refine B2 A rfl (bq hb445) λ A=>Z 1 A rfl @λ a449 A=>qt_<|ct_ A rfl ?_
  have A : St 119 [(1, (.pointer (some ⟨g3, 0, none⟩))), (2, (.pointer (some ⟨g12, 0, none⟩))), (3, (.pointer (some ⟨g29, 0, none⟩)))] a449 := A.sub rfl
  let M452 : Nat → Option (Array Value) := λ k => if k = g29 then some #[J i.op, J (-1), J i.a, J (-1), J 0, J 0, J 0, J (-1), J 0, J 0, .bool false, .bool false, .bool false, J 0, J 0, J i.to, .bool i.zero] else none
  have hM452 : M452 = λ k => if k = g29 then some #[J i.op, J (-1), J i.a, J (-1), J 0, J 0, J 0, J (-1), J 0, J 0, .bool false, .bool false, .bool false, J 0, J 0, J i.to, .bool i.zero] else none := rfl
  clear_value M452
  have hM453 : M452 g3 = none := ((congrFun hM452 g3).trans (if_neg n35))
  have hM454 : M452 g12 = none := ((congrFun hM452 g12).trans (if_neg n36))
  have hM455 : M452 g29 = some #[J i.op, J (-1), J i.a, J (-1), J 0, J 0, J 0, J (-1), J 0, J 0, .bool false, .bool false, .bool false, J 0, J 0, J i.to, .bool i.zero] := ((congrFun hM452 g29).trans (if_pos rfl))
  have hM452B : ∀ k, k < w.heap.size → M452 k = none := (λ k hk => (congrFun hM452 k).trans (if_neg (λ h => ni_ _ (Nat.lt_of_lt_of_le (h ▸ hk) ge34))))
  refine drawn (S := SM M452) (tabL [cv (.pointer (some ⟨g3, 2, none⟩)), cv (J i.a), cv (.pointer (some ⟨g3, 16, none⟩)), cv (.bool i.zero), cv (.pointer (some ⟨g3, 15, none⟩)), cv (J i.to), cv (.pointer (some ⟨g29, 2, none⟩)), cm M452 g29 2 (J i.a) ⟨_, hM455, rfl⟩, cv (.pointer (some ⟨g29, 16, none⟩)), cm M452 g29 16 (.bool i.zero) ⟨_, hM455, rfl⟩, cv (.pointer (some ⟨g29, 15, none⟩)), cm M452 g29 15 (J i.to) ⟨_, hM455, rfl⟩]) mixedY SM.refl SM.trans SM.drew A (by kernel_rfl) ?_ ?_
  ·skip
   refine ec_ (λ x y hS hT hk => dfa (wn rfl) (hT.ev rfl) fo30_2 ⟨SM.refl _, rfl⟩)<|ec_ (λ x y hS hT hk => dld (v := (J i.a)) (wn rfl) (hk 0 rfl) one3 ((Blk.sm (w := w42.drew) m45 hS hM453).cell rfl) ⟨SM.refl _, rfl⟩)<|ec_ (λ x y hS hT hk => dfa (wn rfl) (hT.ev rfl) fo30_16 ⟨SM.refl _, rfl⟩)<|ec_ (λ x y hS hT hk => dld (v := (.bool i.zero)) (wn rfl) (hk 2 rfl) one4 ((Blk.sm (w := w42.drew) m45 hS hM453).cell rfl) ⟨SM.refl _, rfl⟩)<|ec_ (λ x y hS hT hk => dfa (wn rfl) (hT.ev rfl) fo30_15 ⟨SM.refl _, rfl⟩)<|ec_ (λ x y hS hT hk => dld (v := (J i.to)) (wn rfl) (hk 4 rfl) one3 ((Blk.sm (w := w42.drew) m45 hS hM453).cell rfl) ⟨SM.refl _, rfl⟩)<|ec_ (λ x y hS hT hk => dfa (wn rfl) (hT.ev rfl) fo30_2 ⟨SM.refl _, rfl⟩)<|ec_ (λ x y hS hT hk => d_storeM (v := (J i.a)) (w0 := w42.drew) (wn rfl) (hk 6 rfl) (hk 1 rfl) one3 rfl hS hM455 m44 (nb_ rfl) rfl (λ _ h => h))<|ec_ (λ x y hS hT hk => dfa (wn rfl) (hT.ev rfl) fo30_16 ⟨SM.refl _, rfl⟩)<|ec_ (λ x y hS hT hk => d_storeM (v := (.bool i.zero)) (w0 := w42.drew) (wn rfl) (hk 8 rfl) (hk 3 rfl) one4 rfl hS hM455 m44 (nb_ rfl) rfl (λ _ h => h))<|ec_ (λ x y hS hT hk => dfa (wn rfl) (hT.ev rfl) fo30_15 ⟨SM.refl _, rfl⟩)<|ec_ (λ x y hS hT hk => d_storeM (v := (J i.to)) (w0 := w42.drew) (wn rfl) (hk 10 rfl) (hk 5 rfl) one3 rfl hS hM455 m44 (nb_ rfl) rfl (λ _ h => h)) ?_
   exact each_nil
  intro f456 a457 w458 hS459 hC460 A
  have A : St 119 [(1, (.pointer (some ⟨g3, 0, none⟩))), (2, (.pointer (some ⟨g12, 0, none⟩))), (3, (.pointer (some ⟨g29, 0, none⟩)))] a457 := A.sub rfl
  have m463 := m45.sm hS459 hM453
  have m464 := m46.sm hS459 hM454
  have m465 : Blk w458 g29 #[J i.op, J (-1), J i.a, J (-1), J 0, J 0, J 0, J (-1), J 0, J 0, .bool false, .bool false, .bool false, J 0, J 0, J i.to, .bool i.zero] 30 := hS459.finL [(2, (J i.a)), (16, (.bool i.zero)), (15, (J i.to))] hM455 (by kernel_rfl) m44 (fc (hC460 7 (nb_ rfl)) (fc (hC460 9 (nb_ rfl)) (fc (hC460 11 (nb_ rfl)) fn_)))
  have b466 := hS459.below b47 b47.size hM452B
  refine i_norm<|tn_<|ws_<|sw_<|qs A rfl (dlr (cs := (insC i)) (wn rfl) (A.ev rfl) row30 m463 λ _ A=>C A rfl ent184 (isOp_any i w458) ?_)
  rintro e472 w469 ⟨he471, hG470⟩
  have m473 := m463.grow hG470
  have m474 := m464.grow hG470
  have m475 := m465.grow hG470
  have b476 := bls b466 hG470
  refine ⟨.bool false, he471.trans (ret_bool (by simp [opB, rdB, wrB, eq_of_beq hb445])), λ _ A=>qt_<|cf_ A rfl<|wk_<|tn_<|sw_<|qs A rfl (dlr (cs := #[J i.op, J (-1), J i.a, J (-1), J 0, J 0, J 0, J (-1), J 0, J 0, .bool false, .bool false, .bool false, J 0, J 0, J i.to, .bool i.zero]) (wn rfl) (A.ev rfl) row30 m475 λ _ A=>qs A rfl (dsr (wn rfl) (A.ev rfl) (A.ev rfl) row30 m474 rfl rfl λ w481 hU482 (m483 : Blk w481 g12 #[J i.op, J (-1), J i.a, J (-1), J 0, J 0, J 0, J (-1), J 0, J 0, .bool false, .bool false, .bool false, J 0, J 0, J i.to, .bool i.zero] 30)=>?_))⟩
  have m484 := m473.upd hU482 n18
  have m485 := m475.upd hU482 (Ne.symm n36)
  have b486 := hU482.below b476 ge17
  intro _ A
  refine qt_<|we_<|retRow (g := g12) (cs := #[J i.op, J (-1), J i.a, J (-1), J 0, J 0, J 0, J (-1), J 0, J 0, .bool false, .bool false, .bool false, J 0, J 0, J i.to, .bool i.zero]) rfl A rfl m483 row30 ?_
  exact ⟨ret_agg (by simp [insC, plainF, opB, rdB, wrB, hb54, hb103, hb152, hb201, hb266, hb331, hb396, eq_of_beq hb445]), b486⟩
 have hq489 := ne_of_beq hb445
 refine B2 A rfl (bq hb445) λ A=>Z 1 A rfl λ A=>qt_<|cf_ A rfl<|wk_<|i_norm<|tn_<|ws_<|sw_<|qs A rfl (dlr (cs := (insC i)) (wn rfl) (A.ev rfl) row30 m45 λ _ A=>C A rfl ent184 (isOp_any i w42) ?_)
 rintro e499 w496 ⟨he498, hG497⟩
 have m500 := m45.grow hG497
 have m501 := m46.grow hG497
 have m502 := m44.grow hG497
 have b503 := bls b47 hG497
 refine ⟨.bool false, he498.trans (ret_bool (by simp [opB, rdB, wrB, hb54, hb103, hb152, hb201, hb266, hb331, hb396, hb445])), λ _ A=>qt_<|cf_ A rfl<|wk_<|tn_<|sw_<|qs A rfl (dlr (cs := #[J i.op, J (-1), J (-1), J (-1), J 0, J 0, J 0, J (-1), J 0, J 0, .bool false, .bool false, .bool false, J 0, J 0, J 0, .bool false]) (wn rfl) (A.ev rfl) row30 m502 λ _ A=>qs A rfl (dsr (wn rfl) (A.ev rfl) (A.ev rfl) row30 m501 rfl rfl λ w508 hU509 (m510 : Blk w508 g12 #[J i.op, J (-1), J (-1), J (-1), J 0, J 0, J 0, J (-1), J 0, J 0, .bool false, .bool false, .bool false, J 0, J 0, J 0, .bool false] 30)=>?_))⟩
 have m511 := m500.upd hU509 n18
 have m512 := m502.upd hU509 (Ne.symm n36)
 have b513 := hU509.below b503 ge17
 intro _ A
 refine qt_<|we_<|retRow (g := g12) (cs := #[J i.op, J (-1), J (-1), J (-1), J 0, J 0, J 0, J (-1), J 0, J 0, .bool false, .bool false, .bool false, J 0, J 0, J 0, .bool false]) rfl A rfl m510 row30 ?_
 exact ⟨ret_agg (by simp [insC, plainF, opB, rdB, wrB, hb54, hb103, hb152, hb201, hb266, hb331, hb396, hb445]), b513⟩
theorem sound_any (i : Ins) (w : World) : Calls Tryz.prog 155 #[.agg (insC i)] w λ e w' => e = .returned (.bool (soundB i)) ∧ Grow w w' := by
 have b0 := Grow.refl w
 refine enter (n := 113) Tryz.func155 rfl rfl (nb_ rfl) λ _ A=>sw_<|qs A rfl (d_box (wn rfl) (A.ev rfl) λ g3 w4 eg5 hG6 (m7 : Blk w4 g3 (insC i) 30)=>?_)
 have ge8 : w.heap.size ≤ g3 := eg5 ▸ b0.size
 have b9 := bls b0 hG6
 intro _ A
 refine Z 1 A rfl λ A=>qt_<|ws_<|sw_<|F1 A rfl fo30_0 λ A=>qs A rfl (dld (v := (J i.op)) (wn rfl) (A.ev rfl) one3 (m7.cell rfl) λ _ A=>qt_<|wp_block<|sw_ ?_)
 rcases eb_ (i.op == 1) with hb18 | hb18
 ·skip
  have hq19 := eq_of_beq hb18
  refine B2 A rfl (bq hb18) λ A=>Z 1 A rfl λ A=>qt_<|ct_ A rfl<|ws_ ?_
  refine jwp (K := λ a24 w25 => St 113 [(2, (.bool (regB i.dst)))] a24 ∧ Below w.heap.size w w25 ∧ Blk w25 g3 (insC i) 30) ?_ ?_
  ·skip
   refine wr_<|F1 A rfl fo30_1 λ A=>qs A rfl (dld (v := (J i.dst)) (wn rfl) (A.ev rfl) one3 (m7.cell rfl) λ _ A=>C A rfl ent185 (isReg_any i.dst w4) ?_)
   rintro e33 w30 ⟨he32, hG31⟩
   have m34 := m7.grow hG31
   have b35 := bls b9 hG31
   rcases eb_ (regB i.dst) with hb36 | hb36
   ·skip
    refine ⟨.bool true, he32.trans (ret_bool hb36), λ _ A=>Z 1 A rfl λ A=>qe_ ?_⟩
    exact ⟨A.cut _ (fc ((A.g 2 rfl).trans (congrArg Value.bool (by simp [hb36]))) fn_), b35, m34⟩
   refine ⟨.bool false, he32.trans (ret_bool hb36), λ _ A=>Z 1 A rfl λ A=>qe_ ?_⟩
   exact ⟨A.cut _ (fc ((A.g 2 rfl).trans (congrArg Value.bool (by simp [hb36]))) fn_), b35, m34⟩
  rintro a24 w25 ⟨A, b48, m49⟩
  refine tn_<|we_<|i_ret<|tr_<|ret1 rfl A (v := (.bool (regB i.dst))) rfl ?_
  exact ⟨ret_bool (by first | (simp [soundB, eq_of_beq hb18, Bool.or_assoc, Bool.and_assoc]; done) | (rw [Bool.eq_iff_iff]; simp [soundB, eq_of_beq hb18]; done) | (rw [Bool.eq_iff_iff]; simp [soundB, eq_of_beq hb18]; omega) | grind), b48⟩
 have hq50 := ne_of_beq hb18
 refine B2 A rfl (bq hb18) λ A=>Z 1 A rfl λ A=>qt_<|cf_ A rfl<|sw_ ?_
 rcases eb_ (i.op == 2) with hb55 | hb55
 ·skip
  have hq56 := eq_of_beq hb55
  refine B2 A rfl (bq hb55) λ A=>Z 1 A rfl λ A=>qt_<|ct_ A rfl<|ws_ ?_
  refine jwp (K := λ a61 w62 => St 113 [(2, (.bool ((regB i.dst) && (regB i.a))))] a61 ∧ Below w.heap.size w w62 ∧ Blk w62 g3 (insC i) 30) ?_ ?_
  ·skip
   refine wr_<|F1 A rfl fo30_1 λ A=>qs A rfl (dld (v := (J i.dst)) (wn rfl) (A.ev rfl) one3 (m7.cell rfl) λ _ A=>C A rfl ent185 (isReg_any i.dst w4) ?_)
   rintro e70 w67 ⟨he69, hG68⟩
   have m71 := m7.grow hG68
   have b72 := bls b9 hG68
   rcases eb_ (regB i.dst) with hb73 | hb73
   ·skip
    refine ⟨.bool true, he69.trans (ret_bool hb73), λ _ A=>Z 1 A rfl λ A=>F1 A rfl fo30_2 λ A=>qs A rfl (dld (v := (J i.a)) (wy rfl rfl (A.g 15 rfl)) (A.ev rfl) one3 (m71.cell rfl) λ _ A=>C A rfl ent185 (isReg_any i.a w67) ?_)⟩
    rintro e86 w83 ⟨he85, hG84⟩
    have m87 := m71.grow hG84
    have b88 := bls b72 hG84
    rcases eb_ (regB i.a) with hb89 | hb89
    ·skip
     refine ⟨.bool true, he85.trans (ret_bool hb89), λ _ A=>Z 2 A rfl λ A=>qe_ ?_⟩
     exact ⟨A.cut _ (fc ((A.g 2 rfl).trans (congrArg Value.bool (by simp [hb73, hb89]))) fn_), b88, m87⟩
    refine ⟨.bool false, he85.trans (ret_bool hb89), λ _ A=>Z 2 A rfl λ A=>qe_ ?_⟩
    exact ⟨A.cut _ (fc ((A.g 2 rfl).trans (congrArg Value.bool (by simp [hb73, hb89]))) fn_), b88, m87⟩
   refine ⟨.bool false, he69.trans (ret_bool hb73), λ _ A=>Z 6 A rfl λ A=>qe_ ?_⟩
   exact ⟨A.cut _ (fc ((A.g 2 rfl).trans (congrArg Value.bool (by simp [hb73]))) fn_), b72, m71⟩
  rintro a61 w62 ⟨A, b120, m121⟩
  refine tn_<|we_<|i_ret<|tr_<|ret1 rfl A (v := (.bool ((regB i.dst) && (regB i.a)))) rfl ?_
  exact ⟨ret_bool (by first | (simp [soundB, hb18, eq_of_beq hb55, Bool.or_assoc, Bool.and_assoc]; done) | (rw [Bool.eq_iff_iff]; simp [soundB, hb18, eq_of_beq hb55]; done) | (rw [Bool.eq_iff_iff]; simp [soundB, hb18, eq_of_beq hb55]; omega) | grind), b120⟩
 have hq122 := ne_of_beq hb55
 refine B2 A rfl (bq hb55) λ A=>Z 1 A rfl λ A=>qt_<|cf_ A rfl<|sw_ ?_
 rcases eb_ (i.op == 3) with hb127 | hb127
 ·skip
  have hq128 := eq_of_beq hb127
  refine B2 A rfl (bq hb127) λ A=>Z 1 A rfl λ A=>qt_<|ct_ A rfl<|ws_ ?_
  refine jwp (K := λ a133 w134 => St 113 [(2, (.bool ((regB i.dst) && ((regB i.a) && ((ronB i.b) && ((decide (i.fn ≥ 1)) && (decide (i.fn ≤ 5))))))))] a133 ∧ Below w.heap.size w w134 ∧ Blk w134 g3 (insC i) 30) ?_ ?_
  ·skip
   refine wr_<|F1 A rfl fo30_1 λ A=>qs A rfl (dld (v := (J i.dst)) (wn rfl) (A.ev rfl) one3 (m7.cell rfl) λ _ A=>C A rfl ent185 (isReg_any i.dst w4) ?_)
   rintro e142 w139 ⟨he141, hG140⟩
   have m143 := m7.grow hG140
   have b144 := bls b9 hG140
   rcases eb_ (regB i.dst) with hb145 | hb145
   ·skip
    refine ⟨.bool true, he141.trans (ret_bool hb145), λ _ A=>Z 1 A rfl λ A=>F1 A rfl fo30_2 λ A=>qs A rfl (dld (v := (J i.a)) (wy rfl rfl (A.g 25 rfl)) (A.ev rfl) one3 (m143.cell rfl) λ _ A=>C A rfl ent185 (isReg_any i.a w139) ?_)⟩
    rintro e158 w155 ⟨he157, hG156⟩
    have m159 := m143.grow hG156
    have b160 := bls b144 hG156
    rcases eb_ (regB i.a) with hb161 | hb161
    ·skip
     refine ⟨.bool true, he157.trans (ret_bool hb161), λ _ A=>Z 2 A rfl λ A=>F1 A rfl fo30_3 λ A=>qs A rfl (dld (v := (J i.b)) (wy rfl rfl (A.g 30 rfl)) (A.ev rfl) one3 (m159.cell rfl) λ _ A=>C A rfl ent186 (isRegOrNone_any i.b w155) ?_)⟩
     rintro e176 w173 ⟨he175, hG174⟩
     have m177 := m159.grow hG174
     have b178 := bls b160 hG174
     rcases eb_ (ronB i.b) with hb179 | hb179
     ·skip
      refine ⟨.bool true, he175.trans (ret_bool hb179), λ _ A=>Z 2 A rfl λ A=>F1 A rfl fo30_9 λ A=>qs A rfl (dld (v := (J i.fn)) (wy rfl rfl (A.g 35 rfl)) (A.ev rfl) one3 (m177.cell rfl) λ _ A=>?_)⟩
      rcases eb_ (decide (i.fn ≥ 1)) with hb191 | hb191
      ·skip
       have hq192 := dt_ hb191
       refine B2 A rfl (bge_ hb191) λ A=>Z 2 A rfl λ A=>F1 A rfl fo30_9 λ A=>qs A rfl (dld (v := (J i.fn)) (wy rfl rfl (A.g 40 rfl)) (A.ev rfl) one3 (m177.cell rfl) λ _ A=>?_)
       rcases eb_ (decide (i.fn ≤ 5)) with hb203 | hb203
       ·skip
        have hq204 := dt_ hb203
        refine B2 A rfl (ble_ hb203) λ A=>Z 2 A rfl λ A=>qe_ ?_
        exact ⟨A.cut _ (fc ((A.g 2 rfl).trans (congrArg Value.bool (by simp [hb145, hb161, hb179, hb191, hb203]))) fn_), b178, m177⟩
       have hq211 := df_ hb203
       refine B2 A rfl (ble_ hb203) λ A=>Z 2 A rfl λ A=>qe_ ?_
       exact ⟨A.cut _ (fc ((A.g 2 rfl).trans (congrArg Value.bool (by simp [hb145, hb161, hb179, hb191, hb203]))) fn_), b178, m177⟩
      have hq218 := df_ hb191
      refine B2 A rfl (bge_ hb191) λ A=>Z 7 A rfl λ A=>qe_ ?_
      exact ⟨A.cut _ (fc ((A.g 2 rfl).trans (congrArg Value.bool (by simp [hb145, hb161, hb179, hb191]))) fn_), b178, m177⟩
     refine ⟨.bool false, he175.trans (ret_bool hb179), λ _ A=>Z 12 A rfl λ A=>qe_ ?_⟩
     exact ⟨A.cut _ (fc ((A.g 2 rfl).trans (congrArg Value.bool (by simp [hb145, hb161, hb179]))) fn_), b178, m177⟩
    refine ⟨.bool false, he157.trans (ret_bool hb161), λ _ A=>Z 17 A rfl λ A=>qe_ ?_⟩
    exact ⟨A.cut _ (fc ((A.g 2 rfl).trans (congrArg Value.bool (by simp [hb145, hb161]))) fn_), b160, m159⟩
   refine ⟨.bool false, he141.trans (ret_bool hb145), λ _ A=>Z 21 A rfl λ A=>qe_ ?_⟩
   exact ⟨A.cut _ (fc ((A.g 2 rfl).trans (congrArg Value.bool (by simp [hb145]))) fn_), b144, m143⟩
  rintro a133 w134 ⟨A, b345, m346⟩
  refine tn_<|we_<|i_ret<|tr_<|ret1 rfl A (v := (.bool ((regB i.dst) && ((regB i.a) && ((ronB i.b) && ((decide (i.fn ≥ 1)) && (decide (i.fn ≤ 5)))))))) rfl ?_
  exact ⟨ret_bool (by first | (simp [soundB, hb18, hb55, eq_of_beq hb127, Bool.or_assoc, Bool.and_assoc]; done) | (rw [Bool.eq_iff_iff]; simp [soundB, hb18, hb55, eq_of_beq hb127]; done) | (rw [Bool.eq_iff_iff]; simp [soundB, hb18, hb55, eq_of_beq hb127]; omega) | grind), b345⟩
 have hq347 := ne_of_beq hb127
 refine B2 A rfl (bq hb127) λ A=>Z 1 A rfl λ A=>qt_<|cf_ A rfl<|sw_ ?_
 rcases eb_ (i.op == 4) with hb352 | hb352
 ·skip
  have hq353 := eq_of_beq hb352
  refine B2 A rfl (bq hb352) λ A=>Z 1 A rfl λ A=>qt_<|ct_ A rfl<|ws_ ?_
  refine jwp (K := λ a358 w359 => St 113 [(2, (.bool ((regB i.dst) && ((accB i) && (cond i.acq (!i.weak) true)))))] a358 ∧ Below w.heap.size w w359 ∧ Blk w359 g3 (insC i) 30) ?_ ?_
  ·skip
   refine wr_<|F1 A rfl fo30_1 λ A=>qs A rfl (dld (v := (J i.dst)) (wn rfl) (A.ev rfl) one3 (m7.cell rfl) λ _ A=>C A rfl ent185 (isReg_any i.dst w4) ?_)
   rintro e367 w364 ⟨he366, hG365⟩
   have m368 := m7.grow hG365
   have b369 := bls b9 hG365
   rcases eb_ (regB i.dst) with hb370 | hb370
   ·skip
    refine ⟨.bool true, he366.trans (ret_bool hb370), λ _ A=>Z 1 A rfl λ A=>qs A rfl (dlr (cs := (insC i)) (wy rfl rfl (A.g 50 rfl)) (A.ev rfl) row30 m368 λ _ A=>C A rfl ent187 (isAccess_any i w364) ?_)⟩
    rintro e381 w378 ⟨he380, hG379⟩
    have m382 := m368.grow hG379
    have b383 := bls b369 hG379
    rcases eb_ (accB i) with hb384 | hb384
    ·skip
     refine ⟨.bool true, he380.trans (ret_bool hb384), λ _ A=>Z 2 A rfl λ A=>F1 A rfl fo30_10 λ A=>qs A rfl (dld (v := (.bool i.acq)) (wy rfl rfl (A.g 54 rfl)) (A.ev rfl) one4 (m382.cell rfl) λ _ A=>Z 1 A rfl λ A=>?_)⟩
     rcases eb_ (i.acq) with hb398 | hb398
     ·skip
      have A := A.shadow (t := 57) rfl hb398
      refine F1 A rfl fo30_11 λ A=>qs A rfl (dld (v := (.bool i.weak)) (wy rfl rfl (A.g 57 rfl)) (A.ev rfl) one4 (m382.cell rfl) λ _ A=>Z 1 A rfl λ A=>?_)
      rcases eb_ (i.weak) with hb407 | hb407
      ·skip
       have A := A.shadow (t := 60) rfl hb407
       refine Z 3 A rfl λ A=>qe_ ?_
       exact ⟨A.cut _ (fc ((A.g 2 rfl).trans (congrArg Value.bool (by simp [hb370, hb384, hb398, hb407]))) fn_), b383, m382⟩
      have A := A.shadow (t := 60) rfl hb407
      refine Z 3 A rfl λ A=>qe_ ?_
      exact ⟨A.cut _ (fc ((A.g 2 rfl).trans (congrArg Value.bool (by simp [hb370, hb384, hb398, hb407]))) fn_), b383, m382⟩
     have A := A.shadow (t := 57) rfl hb398
     refine Z 6 A rfl λ A=>qe_ ?_
     exact ⟨A.cut _ (fc ((A.g 2 rfl).trans (congrArg Value.bool (by simp [hb370, hb384, hb398]))) fn_), b383, m382⟩
    refine ⟨.bool false, he380.trans (ret_bool hb384), λ _ A=>Z 11 A rfl λ A=>qe_ ?_⟩
    exact ⟨A.cut _ (fc ((A.g 2 rfl).trans (congrArg Value.bool (by simp [hb370, hb384]))) fn_), b383, m382⟩
   refine ⟨.bool false, he366.trans (ret_bool hb370), λ _ A=>Z 14 A rfl λ A=>qe_ ?_⟩
   exact ⟨A.cut _ (fc ((A.g 2 rfl).trans (congrArg Value.bool (by simp [hb370]))) fn_), b369, m368⟩
  rintro a358 w359 ⟨A, b495, m496⟩
  refine tn_<|we_<|i_ret<|tr_<|ret1 rfl A (v := (.bool ((regB i.dst) && ((accB i) && (cond i.acq (!i.weak) true))))) rfl ?_
  exact ⟨ret_bool (by first | (simp [soundB, hb18, hb55, hb127, eq_of_beq hb352, Bool.or_assoc, Bool.and_assoc]; done) | (rw [Bool.eq_iff_iff]; simp [soundB, hb18, hb55, hb127, eq_of_beq hb352]; done) | (rw [Bool.eq_iff_iff]; simp [soundB, hb18, hb55, hb127, eq_of_beq hb352]; omega) | grind), b495⟩
 have hq497 := ne_of_beq hb352
 refine B2 A rfl (bq hb352) λ A=>Z 1 A rfl λ A=>qt_<|cf_ A rfl<|sw_ ?_
 rcases eb_ (i.op == 5) with hb502 | hb502
 ·skip
  have hq503 := eq_of_beq hb502
  refine B2 A rfl (bq hb502) λ A=>Z 1 A rfl λ A=>qt_<|ct_ A rfl<|ws_ ?_
  refine jwp (K := λ a508 w509 => St 113 [(2, (.bool ((ronB i.a) && (accB i))))] a508 ∧ Below w.heap.size w w509 ∧ Blk w509 g3 (insC i) 30) ?_ ?_
  ·skip
   refine wr_<|F1 A rfl fo30_2 λ A=>qs A rfl (dld (v := (J i.a)) (wn rfl) (A.ev rfl) one3 (m7.cell rfl) λ _ A=>C A rfl ent186 (isRegOrNone_any i.a w4) ?_)
   rintro e517 w514 ⟨he516, hG515⟩
   have m518 := m7.grow hG515
   have b519 := bls b9 hG515
   rcases eb_ (ronB i.a) with hb520 | hb520
   ·skip
    refine ⟨.bool true, he516.trans (ret_bool hb520), λ _ A=>Z 1 A rfl λ A=>qs A rfl (dlr (cs := (insC i)) (wy rfl rfl (A.g 68 rfl)) (A.ev rfl) row30 m518 λ _ A=>C A rfl ent187 (isAccess_any i w514) ?_)⟩
    rintro e531 w528 ⟨he530, hG529⟩
    have m532 := m518.grow hG529
    have b533 := bls b519 hG529
    rcases eb_ (accB i) with hb534 | hb534
    ·skip
     refine ⟨.bool true, he530.trans (ret_bool hb534), λ _ A=>Z 2 A rfl λ A=>qe_ ?_⟩
     exact ⟨A.cut _ (fc ((A.g 2 rfl).trans (congrArg Value.bool (by simp [hb520, hb534]))) fn_), b533, m532⟩
    refine ⟨.bool false, he530.trans (ret_bool hb534), λ _ A=>Z 2 A rfl λ A=>qe_ ?_⟩
    exact ⟨A.cut _ (fc ((A.g 2 rfl).trans (congrArg Value.bool (by simp [hb520, hb534]))) fn_), b533, m532⟩
   refine ⟨.bool false, he516.trans (ret_bool hb520), λ _ A=>Z 5 A rfl λ A=>qe_ ?_⟩
   exact ⟨A.cut _ (fc ((A.g 2 rfl).trans (congrArg Value.bool (by simp [hb520]))) fn_), b519, m518⟩
  rintro a508 w509 ⟨A, b563, m564⟩
  refine tn_<|we_<|i_ret<|tr_<|ret1 rfl A (v := (.bool ((ronB i.a) && (accB i)))) rfl ?_
  exact ⟨ret_bool (by first | (simp [soundB, hb18, hb55, hb127, hb352, eq_of_beq hb502, Bool.or_assoc, Bool.and_assoc]; done) | (rw [Bool.eq_iff_iff]; simp [soundB, hb18, hb55, hb127, hb352, eq_of_beq hb502]; done) | (rw [Bool.eq_iff_iff]; simp [soundB, hb18, hb55, hb127, hb352, eq_of_beq hb502]; omega) | grind), b563⟩
 have hq565 := ne_of_beq hb502
 refine B2 A rfl (bq hb502) λ A=>Z 1 A rfl λ A=>qt_<|cf_ A rfl<|sw_ ?_
 rcases eb_ (i.op == 6) with hb570 | hb570
 ·skip
  have hq571 := eq_of_beq hb570
  refine B2 A rfl (bq hb570) λ A=>Z 1 A rfl λ A=>qt_<|ct_ A rfl<|ws_ ?_
  refine jwp (K := λ a576 w577 => St 113 [(2, (.bool ((regB i.dst) && ((regB i.a) && ((accB i) && ((i.fn == 6) || (i.fn == 1)))))))] a576 ∧ Below w.heap.size w w577 ∧ Blk w577 g3 (insC i) 30) ?_ ?_
  ·skip
   refine wr_<|F1 A rfl fo30_1 λ A=>qs A rfl (dld (v := (J i.dst)) (wn rfl) (A.ev rfl) one3 (m7.cell rfl) λ _ A=>C A rfl ent185 (isReg_any i.dst w4) ?_)
   rintro e585 w582 ⟨he584, hG583⟩
   have m586 := m7.grow hG583
   have b587 := bls b9 hG583
   rcases eb_ (regB i.dst) with hb588 | hb588
   ·skip
    refine ⟨.bool true, he584.trans (ret_bool hb588), λ _ A=>Z 1 A rfl λ A=>F1 A rfl fo30_2 λ A=>qs A rfl (dld (v := (J i.a)) (wy rfl rfl (A.g 77 rfl)) (A.ev rfl) one3 (m586.cell rfl) λ _ A=>C A rfl ent185 (isReg_any i.a w582) ?_)⟩
    rintro e601 w598 ⟨he600, hG599⟩
    have m602 := m586.grow hG599
    have b603 := bls b587 hG599
    rcases eb_ (regB i.a) with hb604 | hb604
    ·skip
     refine ⟨.bool true, he600.trans (ret_bool hb604), λ _ A=>Z 2 A rfl λ A=>qs A rfl (dlr (cs := (insC i)) (wy rfl rfl (A.g 82 rfl)) (A.ev rfl) row30 m602 λ _ A=>C A rfl ent187 (isAccess_any i w598) ?_)⟩
     rintro e617 w614 ⟨he616, hG615⟩
     have m618 := m602.grow hG615
     have b619 := bls b603 hG615
     rcases eb_ (accB i) with hb620 | hb620
     ·skip
      refine ⟨.bool true, he616.trans (ret_bool hb620), λ _ A=>Z 2 A rfl λ A=>F1 A rfl fo30_9 λ A=>qs A rfl (dld (v := (J i.fn)) (wy rfl rfl (A.g 86 rfl)) (A.ev rfl) one3 (m618.cell rfl) λ _ A=>?_)⟩
      rcases eb_ (i.fn == 6) with hb632 | hb632
      ·skip
       have hq633 := eq_of_beq hb632
       refine B2 A rfl (bq hb632) λ A=>Z 7 A rfl λ A=>qe_ ?_
       exact ⟨A.cut _ (fc ((A.g 2 rfl).trans (congrArg Value.bool (by simp [hb588, hb604, hb620, hb632]))) fn_), b619, m618⟩
      have hq650 := ne_of_beq hb632
      refine B2 A rfl (bq hb632) λ A=>Z 1 A rfl λ A=>F1 A rfl fo30_9 λ A=>qs A rfl (dld (v := (J i.fn)) (wy rfl rfl (A.g 90 rfl)) (A.ev rfl) one3 (m618.cell rfl) λ _ A=>?_)
      rcases eb_ (i.fn == 1) with hb659 | hb659
      ·skip
       have hq660 := eq_of_beq hb659
       refine B2 A rfl (bq hb659) λ A=>Z 3 A rfl λ A=>qe_ ?_
       exact ⟨A.cut _ (fc ((A.g 2 rfl).trans (congrArg Value.bool (by simp [hb588, hb604, hb620, hb632, hb659]))) fn_), b619, m618⟩
      have hq669 := ne_of_beq hb659
      refine B2 A rfl (bq hb659) λ A=>Z 3 A rfl λ A=>qe_ ?_
      exact ⟨A.cut _ (fc ((A.g 2 rfl).trans (congrArg Value.bool (by simp [hb588, hb604, hb620, hb632, hb659]))) fn_), b619, m618⟩
     refine ⟨.bool false, he616.trans (ret_bool hb620), λ _ A=>Z 12 A rfl λ A=>qe_ ?_⟩
     exact ⟨A.cut _ (fc ((A.g 2 rfl).trans (congrArg Value.bool (by simp [hb588, hb604, hb620]))) fn_), b619, m618⟩
    refine ⟨.bool false, he600.trans (ret_bool hb604), λ _ A=>Z 16 A rfl λ A=>qe_ ?_⟩
    exact ⟨A.cut _ (fc ((A.g 2 rfl).trans (congrArg Value.bool (by simp [hb588, hb604]))) fn_), b603, m602⟩
   refine ⟨.bool false, he584.trans (ret_bool hb588), λ _ A=>Z 20 A rfl λ A=>qe_ ?_⟩
   exact ⟨A.cut _ (fc ((A.g 2 rfl).trans (congrArg Value.bool (by simp [hb588]))) fn_), b587, m586⟩
  rintro a576 w577 ⟨A, b784, m785⟩
  refine tn_<|we_<|i_ret<|tr_<|ret1 rfl A (v := (.bool ((regB i.dst) && ((regB i.a) && ((accB i) && ((i.fn == 6) || (i.fn == 1))))))) rfl ?_
  exact ⟨ret_bool (by first | (simp [soundB, hb18, hb55, hb127, hb352, hb502, eq_of_beq hb570, Bool.or_assoc, Bool.and_assoc]; done) | (rw [Bool.eq_iff_iff]; simp [soundB, hb18, hb55, hb127, hb352, hb502, eq_of_beq hb570]; done) | (rw [Bool.eq_iff_iff]; simp [soundB, hb18, hb55, hb127, hb352, hb502, eq_of_beq hb570]; omega) | grind), b784⟩
 have hq786 := ne_of_beq hb570
 refine B2 A rfl (bq hb570) λ A=>Z 1 A rfl λ A=>qt_<|cf_ A rfl<|sw_ ?_
 rcases eb_ (i.op == 7) with hb791 | hb791
 ·skip
  have hq792 := eq_of_beq hb791
  refine B2 A rfl (bq hb791) λ A=>Z 1 A rfl λ A=>qt_<|ct_ A rfl<|ws_ ?_
  refine jwp (K := λ a797 w798 => St 113 [(2, (.bool ((fenB i.pred) && (fenB i.succ))))] a797 ∧ Below w.heap.size w w798 ∧ Blk w798 g3 (insC i) 30) ?_ ?_
  ·skip
   refine wr_<|F1 A rfl fo30_13 λ A=>qs A rfl (dld (v := (J i.pred)) (wn rfl) (A.ev rfl) one3 (m7.cell rfl) λ _ A=>C A rfl ent188 (isFenced_any i.pred w4) ?_)
   rintro e806 w803 ⟨he805, hG804⟩
   have m807 := m7.grow hG804
   have b808 := bls b9 hG804
   rcases eb_ (fenB i.pred) with hb809 | hb809
   ·skip
    refine ⟨.bool true, he805.trans (ret_bool hb809), λ _ A=>Z 1 A rfl λ A=>F1 A rfl fo30_14 λ A=>qs A rfl (dld (v := (J i.succ)) (wy rfl rfl (A.g 101 rfl)) (A.ev rfl) one3 (m807.cell rfl) λ _ A=>C A rfl ent188 (isFenced_any i.succ w803) ?_)⟩
    rintro e822 w819 ⟨he821, hG820⟩
    have m823 := m807.grow hG820
    have b824 := bls b808 hG820
    rcases eb_ (fenB i.succ) with hb825 | hb825
    ·skip
     refine ⟨.bool true, he821.trans (ret_bool hb825), λ _ A=>Z 2 A rfl λ A=>qe_ ?_⟩
     exact ⟨A.cut _ (fc ((A.g 2 rfl).trans (congrArg Value.bool (by simp [hb809, hb825]))) fn_), b824, m823⟩
    refine ⟨.bool false, he821.trans (ret_bool hb825), λ _ A=>Z 2 A rfl λ A=>qe_ ?_⟩
    exact ⟨A.cut _ (fc ((A.g 2 rfl).trans (congrArg Value.bool (by simp [hb809, hb825]))) fn_), b824, m823⟩
   refine ⟨.bool false, he805.trans (ret_bool hb809), λ _ A=>Z 6 A rfl λ A=>qe_ ?_⟩
   exact ⟨A.cut _ (fc ((A.g 2 rfl).trans (congrArg Value.bool (by simp [hb809]))) fn_), b808, m807⟩
  rintro a797 w798 ⟨A, b856, m857⟩
  refine tn_<|we_<|i_ret<|tr_<|ret1 rfl A (v := (.bool ((fenB i.pred) && (fenB i.succ)))) rfl ?_
  exact ⟨ret_bool (by first | (simp [soundB, hb18, hb55, hb127, hb352, hb502, hb570, eq_of_beq hb791, Bool.or_assoc, Bool.and_assoc]; done) | (rw [Bool.eq_iff_iff]; simp [soundB, hb18, hb55, hb127, hb352, hb502, hb570, eq_of_beq hb791]; done) | (rw [Bool.eq_iff_iff]; simp [soundB, hb18, hb55, hb127, hb352, hb502, hb570, eq_of_beq hb791]; omega) | grind), b856⟩
 have hq858 := ne_of_beq hb791
 refine B2 A rfl (bq hb791) λ A=>Z 1 A rfl λ A=>qt_<|cf_ A rfl<|sw_ ?_
 rcases eb_ (i.op == 8) with hb863 | hb863
 ·skip
  have hq864 := eq_of_beq hb863
  refine B2 A rfl (bq hb863) λ A=>Z 1 A rfl λ A=>qt_<|ct_ A rfl<|sw_<|Z 1 A rfl λ A=>qt_<|we_<|i_ret<|tr_<|ret1 rfl A (v := (.bool true)) rfl ?_
  exact ⟨ret_bool (by first | (simp [soundB, hb18, hb55, hb127, hb352, hb502, hb570, hb791, eq_of_beq hb863, Bool.or_assoc, Bool.and_assoc]; done) | (rw [Bool.eq_iff_iff]; simp [soundB, hb18, hb55, hb127, hb352, hb502, hb570, hb791, eq_of_beq hb863]; done) | (rw [Bool.eq_iff_iff]; simp [soundB, hb18, hb55, hb127, hb352, hb502, hb570, hb791, eq_of_beq hb863]; omega) | grind), b9⟩
 have hq871 := ne_of_beq hb863
 refine B2 A rfl (bq hb863) λ A=>Z 1 A rfl λ A=>qt_<|cf_ A rfl<|sw_ ?_
 rcases eb_ (i.op == 9) with hb876 | hb876
 ·skip
  have hq877 := eq_of_beq hb876
  refine B2 A rfl (bq hb876) λ A=>Z 1 A rfl λ A=>qt_<|ct_ A rfl<|ws_ ?_
  refine jwp (K := λ a882 w883 => St 113 [(2, (.bool (regB i.a)))] a882 ∧ Below w.heap.size w w883 ∧ Blk w883 g3 (insC i) 30) ?_ ?_
  ·skip
   refine wr_<|F1 A rfl fo30_2 λ A=>qs A rfl (dld (v := (J i.a)) (wn rfl) (A.ev rfl) one3 (m7.cell rfl) λ _ A=>C A rfl ent185 (isReg_any i.a w4) ?_)
   rintro e891 w888 ⟨he890, hG889⟩
   have m892 := m7.grow hG889
   have b893 := bls b9 hG889
   rcases eb_ (regB i.a) with hb894 | hb894
   ·skip
    refine ⟨.bool true, he890.trans (ret_bool hb894), λ _ A=>Z 1 A rfl λ A=>qe_ ?_⟩
    exact ⟨A.cut _ (fc ((A.g 2 rfl).trans (congrArg Value.bool (by simp [hb894]))) fn_), b893, m892⟩
   refine ⟨.bool false, he890.trans (ret_bool hb894), λ _ A=>Z 1 A rfl λ A=>qe_ ?_⟩
   exact ⟨A.cut _ (fc ((A.g 2 rfl).trans (congrArg Value.bool (by simp [hb894]))) fn_), b893, m892⟩
  rintro a882 w883 ⟨A, b906, m907⟩
  refine tn_<|we_<|i_ret<|tr_<|ret1 rfl A (v := (.bool (regB i.a))) rfl ?_
  exact ⟨ret_bool (by first | (simp [soundB, hb18, hb55, hb127, hb352, hb502, hb570, hb791, hb863, eq_of_beq hb876, Bool.or_assoc, Bool.and_assoc]; done) | (rw [Bool.eq_iff_iff]; simp [soundB, hb18, hb55, hb127, hb352, hb502, hb570, hb791, hb863, eq_of_beq hb876]; done) | (rw [Bool.eq_iff_iff]; simp [soundB, hb18, hb55, hb127, hb352, hb502, hb570, hb791, hb863, eq_of_beq hb876]; omega) | grind), b906⟩
 have hq908 := ne_of_beq hb876
 refine B2 A rfl (bq hb876) λ A=>Z 1 A rfl λ A=>qt_<|cf_ A rfl<|wk_<|i_norm<|tn_<|sw_<|Z 1 A rfl λ A=>qt_<|we_ ?_
 refine ret1 rfl A (v := (.bool false)) rfl ?_
 exact ⟨ret_bool (by first | (simp [soundB, hb18, hb55, hb127, hb352, hb502, hb570, hb791, hb863, hb876, Bool.or_assoc, Bool.and_assoc]; done) | (rw [Bool.eq_iff_iff]; simp [soundB, hb18, hb55, hb127, hb352, hb502, hb570, hb791, hb863, hb876]; done) | (rw [Bool.eq_iff_iff]; simp [soundB, hb18, hb55, hb127, hb352, hb502, hb570, hb791, hb863, hb876]; omega) | grind), b9⟩
theorem right_any (i : Ins) (p q : Int) (w : World) : Calls Tryz.prog 110 #[.agg (insC i), J p, J q] w λ e w' => e = .returned (J (rightR i p q)) ∧ Grow w w' := by
 have b0 := Grow.refl w
 refine enter (n := 30) Tryz.func110 rfl rfl (nb_ rfl) λ _ A=>sw_<|qs A rfl (d_box (wn rfl) (A.ev rfl) λ g3 w4 eg5 hG6 (m7 : Blk w4 g3 (insC i) 30)=>?_)
 have ge8 : w.heap.size ≤ g3 := eg5 ▸ b0.size
 have b9 := bls b0 hG6
 intro _ A
 refine Z 1 A rfl @λ a12 A=>qt_<|ws_<|ws_ ?_
 rcases eb_ (insEq i (plainF i)) with hb14 | hb14
 ·skip
  rcases eb_ (soundB i) with hb16 | hb16
  ·skip
   have A : St 30 [(1, (J p)), (2, (J q)), (3, (.pointer (some ⟨g3, 0, none⟩))), (6, (J 0))] a12 := A.sub rfl
   let M19 : Nat → Option (Array Value) := λ _ => none
   have hM19 : M19 = λ _ => none := rfl
   clear_value M19
   have hM20 : M19 g3 = none := (congrFun hM19 g3)
   have hM19B : ∀ k, k < w.heap.size → M19 k = none := (λ k hk => (congrFun hM19 k))
   refine drawn (S := SM M19) (tabL [cv (.agg (insC i)), cv (.agg (insC i)), cv (.agg (insC (plainF i))), cv (.bool false), cv (.bool false), cv (.agg (insC i)), cv (.bool true), cv (.bool false), cv (.bool false)]) mixedY SM.refl SM.trans SM.drew A (by kernel_rfl) ?_ ?_
   ·skip
    refine ec_ (λ x y hS hT hk => dlr (cs := (insC i)) (wn rfl) (hT.ev rfl) row30 (Blk.sm (w := w4.drew) m7 hS hM20) ⟨SM.refl _, rfl⟩)<|ec_ (λ x y hS hT hk => dlr (cs := (insC i)) (wn rfl) (hT.ev rfl) row30 (Blk.sm (w := w4.drew) m7 hS hM20) ⟨SM.refl _, rfl⟩)<|ec_ (λ x y hS hT hk => dcl (wn rfl) ent154 (map1 (show x.eval _ = (.agg (insC i)) from (hk 1 rfl))) (plain_any i y) (λ _ _ ⟨he, hG⟩ => ⟨(.agg (insC (plainF i))), he, SM.grow hG, rfl⟩))<|ec_ (λ x y hS hT hk => dbn (u := .agg (insC i)) (v := .agg (insC (plainF i))) (wn rfl) (hk 0 rfl) (hk 2 rfl) (ne_ins i (plainF i) _ _ _ false (notof hb14)) ⟨SM.refl _, rfl⟩)<|ec_ (λ x y hS hT hk => dmv (wn rfl) (hk 3 rfl) ⟨SM.refl _, rfl⟩)<|ec_ (λ x y hS hT hk => dlr (cs := (insC i)) (wy rfl rfl (hk 4 rfl)) (hT.ev rfl) row30 (Blk.sm (w := w4.drew) m7 hS hM20) ⟨SM.refl _, rfl⟩)<|ec_ (λ x y hS hT hk => dcl (wy rfl rfl (hk 4 rfl)) ent155 (map1 (show x.eval _ = (.agg (insC i)) from (hk 5 rfl))) (sound_any i y) (λ _ _ ⟨he, hG⟩ => ⟨(.bool true), (he.trans (ret_bool hb16)), SM.grow hG, rfl⟩))<|ec_ (λ x y hS hT hk => dnt (wy rfl rfl (hk 4 rfl)) (hk 6 rfl) ⟨SM.refl _, rfl⟩)<|ec_ (λ x y hS hT hk => dpf (wn rfl) (hk 4 rfl) (hk 7 rfl) ⟨SM.refl _, rfl⟩) ?_
    exact each_nil
   intro f21 a22 w23 hS24 hC25 A
   have A : St 30 [(1, (J p)), (2, (J q)), (3, (.pointer (some ⟨g3, 0, none⟩))), (6, (J 0)), (15, (.bool false))] a22 := A.cut _ (fc (A.g 1 rfl) (fc (A.g 2 rfl) (fc (A.g 3 rfl) (fc (A.g 6 rfl) (fc ((A.g 15 rfl).trans (hC25 8 (nb_ rfl))) fn_)))))
   have m28 := m7.sm hS24 hM20
   have b29 := hS24.below b9 b9.size hM19B
   refine tn_<|cf_ A rfl<|wk_<|tn_<|ws_<|sw_<|qs A rfl (dlr (cs := (insC i)) (wn rfl) (A.ev rfl) row30 m28 λ _ A=>C A rfl ent156 (isBranch_any i w23) ?_)
   rintro e35 w32 ⟨he34, hG33⟩
   have m36 := m28.grow hG33
   have b37 := bls b29 hG33
   rcases eb_ (i.op == 9) with hb38 | hb38
   ·skip
    have hq39 := eq_of_beq hb38
    refine ⟨.bool true, he34.trans (ret_bool hb38), λ _ A=>Z 1 A rfl λ A=>F1 A rfl fo30_15 λ A=>qs A rfl (dld (v := (J i.to)) (wy rfl rfl (A.g 18 rfl)) (A.ev rfl) one3 (m36.cell rfl) λ _ A=>Z 1 A rfl λ A=>?_)⟩
    rcases eb_ (decide (i.to ≤ p)) with hb50 | hb50
    ·skip
     have hq51 := dt_ hb50
     refine B2 A rfl (ble_ hb50) λ A=>Z 7 A rfl λ A=>qt_<|ct_ A rfl<|sw_<|Z 1 A rfl λ A=>qt_<|we_<|tr_<|ret1 rfl A (v := (J 35)) rfl ?_
     exact ⟨ret_int (by simp [rightR, hb14, hb16, eq_of_beq hb38, hb50]), b37⟩
    have hq70 := df_ hb50
    refine B2 A rfl (ble_ hb50) λ A=>Z 1 A rfl λ A=>F1 A rfl fo30_15 λ A=>qs A rfl (dld (v := (J i.to)) (wy rfl rfl (A.g 23 rfl)) (A.ev rfl) one3 (m36.cell rfl) λ _ A=>Z 1 A rfl λ A=>?_)
    rcases eb_ (decide (i.to > q)) with hb81 | hb81
    ·skip
     have hq82 := dt_ hb81
     refine B2 A rfl (bg hb81) λ A=>Z 2 A rfl λ A=>qt_<|ct_ A rfl<|sw_<|Z 1 A rfl λ A=>qt_<|we_<|tr_<|ret1 rfl A (v := (J 35)) rfl ?_
     exact ⟨ret_int (by simp [rightR, hb14, hb16, eq_of_beq hb38, hb50, hb81]), b37⟩
    have hq91 := df_ hb81
    refine B2 A rfl (bg hb81) λ A=>Z 2 A rfl λ A=>qt_<|cf_ A rfl<|wk_<|tn_<|sw_<|Z 1 A rfl λ A=>qt_<|we_<|ret1 rfl A (v := (J 0)) rfl ?_
    exact ⟨ret_int (by simp [rightR, hb14, hb16, eq_of_beq hb38, hb50, hb81]), b37⟩
   have hq100 := ne_of_beq hb38
   refine ⟨.bool false, he34.trans (ret_bool hb38), λ _ A=>Z 12 A rfl λ A=>qt_<|cf_ A rfl<|wk_<|tn_<|sw_<|Z 1 A rfl λ A=>qt_<|we_<|ret1 rfl A (v := (J 0)) rfl ?_⟩
   exact ⟨ret_int (by simp [rightR, hb14, hb16, hb38]), b37⟩
  have A : St 30 [(1, (J p)), (2, (J q)), (3, (.pointer (some ⟨g3, 0, none⟩))), (6, (J 0))] a12 := A.sub rfl
  let M131 : Nat → Option (Array Value) := λ _ => none
  have hM131 : M131 = λ _ => none := rfl
  clear_value M131
  have hM132 : M131 g3 = none := (congrFun hM131 g3)
  have hM131B : ∀ k, k < w.heap.size → M131 k = none := (λ k hk => (congrFun hM131 k))
  refine drawn (S := SM M131) (tabL [cv (.agg (insC i)), cv (.agg (insC i)), cv (.agg (insC (plainF i))), cv (.bool false), cv (.bool false), cv (.agg (insC i)), cv (.bool false), cv (.bool true), cv (.bool true)]) mixedY SM.refl SM.trans SM.drew A (by kernel_rfl) ?_ ?_
  ·skip
   refine ec_ (λ x y hS hT hk => dlr (cs := (insC i)) (wn rfl) (hT.ev rfl) row30 (Blk.sm (w := w4.drew) m7 hS hM132) ⟨SM.refl _, rfl⟩)<|ec_ (λ x y hS hT hk => dlr (cs := (insC i)) (wn rfl) (hT.ev rfl) row30 (Blk.sm (w := w4.drew) m7 hS hM132) ⟨SM.refl _, rfl⟩)<|ec_ (λ x y hS hT hk => dcl (wn rfl) ent154 (map1 (show x.eval _ = (.agg (insC i)) from (hk 1 rfl))) (plain_any i y) (λ _ _ ⟨he, hG⟩ => ⟨(.agg (insC (plainF i))), he, SM.grow hG, rfl⟩))<|ec_ (λ x y hS hT hk => dbn (u := .agg (insC i)) (v := .agg (insC (plainF i))) (wn rfl) (hk 0 rfl) (hk 2 rfl) (ne_ins i (plainF i) _ _ _ false (notof hb14)) ⟨SM.refl _, rfl⟩)<|ec_ (λ x y hS hT hk => dmv (wn rfl) (hk 3 rfl) ⟨SM.refl _, rfl⟩)<|ec_ (λ x y hS hT hk => dlr (cs := (insC i)) (wy rfl rfl (hk 4 rfl)) (hT.ev rfl) row30 (Blk.sm (w := w4.drew) m7 hS hM132) ⟨SM.refl _, rfl⟩)<|ec_ (λ x y hS hT hk => dcl (wy rfl rfl (hk 4 rfl)) ent155 (map1 (show x.eval _ = (.agg (insC i)) from (hk 5 rfl))) (sound_any i y) (λ _ _ ⟨he, hG⟩ => ⟨(.bool false), (he.trans (ret_bool hb16)), SM.grow hG, rfl⟩))<|ec_ (λ x y hS hT hk => dnt (wy rfl rfl (hk 4 rfl)) (hk 6 rfl) ⟨SM.refl _, rfl⟩)<|ec_ (λ x y hS hT hk => dpf (wn rfl) (hk 4 rfl) (hk 7 rfl) ⟨SM.refl _, rfl⟩) ?_
   exact each_nil
  intro f133 a134 w135 hS136 hC137 A
  have A : St 30 [(1, (J p)), (2, (J q)), (3, (.pointer (some ⟨g3, 0, none⟩))), (6, (J 0)), (15, (.bool true))] a134 := A.cut _ (fc (A.g 1 rfl) (fc (A.g 2 rfl) (fc (A.g 3 rfl) (fc (A.g 6 rfl) (fc ((A.g 15 rfl).trans (hC137 8 (nb_ rfl))) fn_)))))
  have m140 := m7.sm hS136 hM132
  have b141 := hS136.below b9 b9.size hM131B
  refine tn_<|ct_ A rfl<|sw_<|Z 1 A rfl λ A=>qt_<|we_<|tr_<|ret1 rfl A (v := (J 34)) rfl ?_
  exact ⟨ret_int (by simp [rightR, hb14, hb16]), b141⟩
 have A : St 30 [(1, (J p)), (2, (J q)), (3, (.pointer (some ⟨g3, 0, none⟩))), (6, (J 0))] a12 := A.sub rfl
 let M146 : Nat → Option (Array Value) := λ _ => none
 have hM146 : M146 = λ _ => none := rfl
 clear_value M146
 have hM147 : M146 g3 = none := (congrFun hM146 g3)
 have hM146B : ∀ k, k < w.heap.size → M146 k = none := (λ k hk => (congrFun hM146 k))
 refine drawn (S := SM M146) (tabL [cv (.agg (insC i)), cv (.agg (insC i)), cv (.agg (insC (plainF i))), cv (.bool true), cv (.bool true), cv undef, cv undef, cv undef, cv (.bool true)]) mixedY SM.refl SM.trans SM.drew A (by kernel_rfl) ?_ ?_
 ·skip
  refine ec_ (λ x y hS hT hk => dlr (cs := (insC i)) (wn rfl) (hT.ev rfl) row30 (Blk.sm (w := w4.drew) m7 hS hM147) ⟨SM.refl _, rfl⟩)<|ec_ (λ x y hS hT hk => dlr (cs := (insC i)) (wn rfl) (hT.ev rfl) row30 (Blk.sm (w := w4.drew) m7 hS hM147) ⟨SM.refl _, rfl⟩)<|ec_ (λ x y hS hT hk => dcl (wn rfl) ent154 (map1 (show x.eval _ = (.agg (insC i)) from (hk 1 rfl))) (plain_any i y) (λ _ _ ⟨he, hG⟩ => ⟨(.agg (insC (plainF i))), he, SM.grow hG, rfl⟩))<|ec_ (λ x y hS hT hk => dbn (u := .agg (insC i)) (v := .agg (insC (plainF i))) (wn rfl) (hk 0 rfl) (hk 2 rfl) (ne_ins i (plainF i) _ _ _ true (notof hb14)) ⟨SM.refl _, rfl⟩)<|ec_ (λ x y hS hT hk => dmv (wn rfl) (hk 3 rfl) ⟨SM.refl _, rfl⟩)<|ec_ (λ x y hS hT hk => dno (wno rfl rfl (.inl (hk 4 rfl))) ⟨SM.refl _, rfl⟩)<|ec_ (λ x y hS hT hk => dno (wno rfl rfl (.inl (hk 4 rfl))) ⟨SM.refl _, rfl⟩)<|ec_ (λ x y hS hT hk => dno (wno rfl rfl (.inl (hk 4 rfl))) ⟨SM.refl _, rfl⟩)<|ec_ (λ x y hS hT hk => dpt (wn rfl) (hk 4 rfl) (hT.ev rfl) ⟨SM.refl _, rfl⟩) ?_
  exact each_nil
 intro f148 a149 w150 hS151 hC152 A
 have A : St 30 [(1, (J p)), (2, (J q)), (3, (.pointer (some ⟨g3, 0, none⟩))), (6, (J 0)), (15, (.bool true))] a149 := A.cut _ (fc (A.g 1 rfl) (fc (A.g 2 rfl) (fc (A.g 3 rfl) (fc (A.g 6 rfl) (fc ((A.g 15 rfl).trans (hC152 8 (nb_ rfl))) fn_)))))
 have m155 := m7.sm hS151 hM147
 have b156 := hS151.below b9 b9.size hM146B
 refine tn_<|ct_ A rfl<|sw_<|Z 1 A rfl λ A=>qt_<|we_<|tr_<|ret1 rfl A (v := (J 34)) rfl ?_
 exact ⟨ret_int (by simp [rightR, hb14]), b156⟩
end Go.Proofs.YtjkbjjlfijhbdaaGreatDoor
namespace Go.Proofs.YtjkbjjlfijhbdaaGreatDoor
set_option linter.defProp false
set_option maxHeartbeats 4000000
set_option maxRecDepth 100000
set_option linter.unusedVariables false
set_option linter.unusedSimpArgs false
theorem ieq {i j : Ins} : insEq i j = true ↔ i = j := by unfold insEq; simp
theorem right_same (i : Ins) : (insEq (bareF i) blank && fineB i) = (insEq i (plainF i) && soundB i) := by
 rw [Bool.eq_iff_iff, Bool.and_eq_true, Bool.and_eq_true, ieq, ieq]
 obtain ⟨op, dst, a, b, imm, loc, off, index, size, fn, acq, weak, rel, pred, succ, to, zero⟩ := i
 by_cases h1 : op = 1
 ·subst h1; simp [bareF, plainF, blank, fineB, soundB, opB, rdB, wrB]
 by_cases h2 : op = 2
 ·subst h2; simp [bareF, plainF, blank, fineB, soundB, opB, rdB, wrB]
 by_cases h3 : op = 3
 ·subst h3; simp [bareF, plainF, blank, fineB, soundB, opB, rdB, wrB, immF, ronB]; grind
 by_cases h4 : op = 4
 ·subst h4; simp [bareF, plainF, blank, fineB, soundB, opB, rdB, wrB, plc_acc]
 by_cases h5 : op = 5
 ·subst h5; simp [bareF, plainF, blank, fineB, soundB, opB, rdB, wrB, plc_acc, immF, ronB]; grind
 by_cases h6 : op = 6
 ·subst h6; simp [bareF, plainF, blank, fineB, soundB, opB, rdB, wrB, plc_acc]
 by_cases h7 : op = 7
 ·subst h7; simp [bareF, plainF, blank, fineB, soundB, opB, rdB, wrB, fenB]; grind
 by_cases h8 : op = 8
 ·subst h8; simp [bareF, plainF, blank, fineB, soundB, opB, rdB, wrB]
 by_cases h9 : op = 9
 ·subst h9; simp [bareF, plainF, blank, fineB, soundB, opB, rdB, wrB]
 simp [fineB, soundB, h1, h2, h3, h4, h5, h6, h7, h8, h9]
end Go.Proofs.YtjkbjjlfijhbdaaGreatDoor
namespace Go.Proofs.YtjkbjjlfijhbdaaGreatDoor
open Go.RowKit
set_option linter.defProp false
set_option maxHeartbeats 4000000
set_option maxRecDepth 100000
set_option linter.unusedVariables false
set_option linter.unusedSimpArgs false
theorem rright_any (i : Ins) (p q : Int) (w : World) : Calls Tryz.prog 37 #[.agg (insC i), J p, J q] w λ e w' => e = .returned (J (rightR i p q)) ∧ Grow w w' := by
 have b0 := Grow.refl w
 refine enter (n := 36) Tryz.func37 rfl rfl (nb_ rfl) λ _ A=>sw_<|qs A rfl (d_box (wn rfl) (A.ev rfl) λ g3 w4 eg5 hG6 (m7 : Blk w4 g3 (insC i) 30)=>?_)
 have ge8 : w.heap.size ≤ g3 := eg5 ▸ b0.size
 have b9 := bls b0 hG6
 intro _ A
 refine Z 1 A rfl λ A=>qt_<|sw_<|qs A rfl (dlr (cs := (insC i)) (wn rfl) (A.ev rfl) row30 m7 λ _ A=>C A rfl ent78 (bare_any i w4) ?_)
 rintro e19 w16 ⟨he18, hG17⟩
 have m20 := m7.grow hG17
 have b21 := bls b9 hG17
 refine ⟨(.tuple #[(.agg (insC (bareF i))), (.bool (fineB i))]), he18, λ _ A=>Z 3 A rfl λ A=>qs A rfl (dal (wn rfl) zero30 λ g30 w31 eg32 hG33 (m34 : Blk w31 g30 #[J 0, J 0, J 0, J 0, J 0, J 0, J 0, J 0, J 0, J 0, .bool false, .bool false, .bool false, J 0, J 0, J 0, .bool false] 30)=>?_)⟩
 have ge35 : w.heap.size ≤ g30 := eg32 ▸ b21.size
 have n36 := nn_ eg32 m20
 have m37 := m20.grow hG33
 have b38 := bls b21 hG33
 intro _ A
 refine qs A rfl (dsr (wn rfl) (A.ev rfl) (A.ev rfl) row30 m34 rfl rfl λ w41 hU42 (m43 : Blk w41 g30 (insC (bareF i)) 30)=>?_)
 have m44 := m37.upd hU42 n36
 have b45 := hU42.below b38 ge35
 intro _ A
 refine Z 1 A rfl λ A=>qt_<|ws_<|sw_<|Z 1 A rfl λ A=>?_
 rcases eb_ (fineB i) with hb52 | hb52
 ·skip
  have A := A.shadow (t := 14) rfl hb52
  refine Z 2 A rfl λ A=>qs A rfl (dlr (cs := (insC (bareF i))) (wy rfl rfl (A.g 16 rfl)) (A.ev rfl) row30 m43 λ _ A=>qs A rfl (dbd (cs := #[J 0, J (-1), J (-1), J (-1), J 0, J 0, J 0, J (-1), J 0, J 0, .bool false, .bool false, .bool false, J 0, J 0, J 0, .bool false]) (wy rfl rfl (A.g 16 rfl)) (bp_of (bq_cons (A.ev rfl) (bq_cons (A.ev rfl) (bq_cons (A.ev rfl) (bq_cons (A.ev rfl) bq_nil))))) zero30 places30 (by kernel_rfl) λ _ A=>?_))
  rcases eb_ (insEq (bareF i) blank) with hb63 | hb63
  ·skip
   refine qs A rfl (dbn (u := .agg (insC (bareF i))) (v := .agg (insC blank)) (wy rfl rfl (A.g 16 rfl)) (A.ev rfl) (A.ev rfl) (ne_ins (bareF i) blank _ _ _ false (notof hb63)) λ _ A=>Z 1 A rfl λ A=>qt_<|cf_ A rfl<|wk_<|tn_<|ws_<|sw_<|F1 A rfl fo30_0 λ A=>qs A rfl (dld (v := (J i.op)) (wn rfl) (A.ev rfl) one3 (m44.cell rfl) λ _ A=>?_))
   rcases eb_ (i.op == 9) with hb73 | hb73
   ·skip
    have hq74 := eq_of_beq hb73
    refine B2 A rfl (bq hb73) λ A=>Z 1 A rfl λ A=>F1 A rfl fo30_15 λ A=>qs A rfl (dld (v := (J i.to)) (wy rfl rfl (A.g 24 rfl)) (A.ev rfl) one3 (m44.cell rfl) λ _ A=>Z 1 A rfl λ A=>?_)
    rcases eb_ (decide (i.to ≤ p)) with hb85 | hb85
    ·skip
     have hq86 := dt_ hb85
     refine B2 A rfl (ble_ hb85) λ A=>Z 7 A rfl λ A=>qt_<|ct_ A rfl<|sw_<|Z 1 A rfl λ A=>qt_<|we_<|tr_<|ret1 rfl A (v := (J 35)) rfl ?_
     exact ⟨ret_int (by simp [rightR, ← right_same, hb52, hb63, eq_of_beq hb73, hb85]), b45⟩
    have hq105 := df_ hb85
    refine B2 A rfl (ble_ hb85) λ A=>Z 1 A rfl λ A=>F1 A rfl fo30_15 λ A=>qs A rfl (dld (v := (J i.to)) (wy rfl rfl (A.g 29 rfl)) (A.ev rfl) one3 (m44.cell rfl) λ _ A=>Z 1 A rfl λ A=>?_)
    rcases eb_ (decide (i.to > q)) with hb116 | hb116
    ·skip
     have hq117 := dt_ hb116
     refine B2 A rfl (bg hb116) λ A=>Z 2 A rfl λ A=>qt_<|ct_ A rfl<|sw_<|Z 1 A rfl λ A=>qt_<|we_<|tr_<|ret1 rfl A (v := (J 35)) rfl ?_
     exact ⟨ret_int (by simp [rightR, ← right_same, hb52, hb63, eq_of_beq hb73, hb85, hb116]), b45⟩
    have hq126 := df_ hb116
    refine B2 A rfl (bg hb116) λ A=>Z 2 A rfl λ A=>qt_<|cf_ A rfl<|wk_<|tn_<|sw_<|Z 1 A rfl λ A=>qt_<|we_<|ret1 rfl A (v := (J 0)) rfl ?_
    exact ⟨ret_int (by simp [rightR, ← right_same, hb52, hb63, eq_of_beq hb73, hb85, hb116]), b45⟩
   have hq135 := ne_of_beq hb73
   refine B2 A rfl (bq hb73) λ A=>Z 12 A rfl λ A=>qt_<|cf_ A rfl<|wk_<|tn_<|sw_<|Z 1 A rfl λ A=>qt_<|we_<|ret1 rfl A (v := (J 0)) rfl ?_
   exact ⟨ret_int (by simp [rightR, ← right_same, hb52, hb63, hb73]), b45⟩
  refine qs A rfl (dbn (u := .agg (insC (bareF i))) (v := .agg (insC blank)) (wy rfl rfl (A.g 16 rfl)) (A.ev rfl) (A.ev rfl) (ne_ins (bareF i) blank _ _ _ true (notof hb63)) λ _ A=>Z 1 A rfl λ A=>qt_<|ct_ A rfl<|sw_<|Z 1 A rfl λ A=>qt_<|we_<|tr_<|ret1 rfl A (v := (J 34)) rfl ?_)
  exact ⟨ret_int (by simp [rightR, ← right_same, hb52, hb63]), b45⟩
 have A := A.shadow (t := 14) rfl hb52
 refine Z 6 A rfl λ A=>qt_<|ct_ A rfl<|sw_<|Z 1 A rfl λ A=>qt_<|we_<|tr_<|ret1 rfl A (v := (J 34)) rfl ?_
 exact ⟨ret_int (by simp [rightR, ← right_same, hb52]), b45⟩
section
variable {P : Program} {a : Act} {w : World} {n : Nat} {T : List (Nat × Value)}
theorem retC3 {fn : Func} {R : Ending → World → Prop} {p q r s : Tmp} {x y z : Value} {t t' : TypeId} {g : Nat} {cs : Array Value} (hr : fn.results = #[.cell p t, .tmp q, .tmp r, .tmp s]) (hA : St n T a) (hv : ev T (.tmp p) = some (.pointer (some ⟨g, 0, none⟩))) (hx : ev T (.tmp q) = some x) (hy : ev T (.tmp r) = some y) (hz : ev T (.tmp s) = some z) (hb : Blk w g cs t') (h1 : rowB P t cs.size = true)
  (h : R (.returned (.tuple #[.agg cs, x, y, z])) w) : bodyPost P fn R .ret a w := by
 obtain ⟨⟨dd, h2, _, h3⟩, h4⟩ := row_facts h1
 have e1 := hA.ev hv
 have e2 := hA.ev hx
 have e3 := hA.ev hy
 have e4 := hA.ev hz
 simp only [Act.eval] at e1 e2 e3 e4
 refine ⟨hA.defers, _, ?_, h⟩
 have f1 : a.tmps[p]?.getD undef = .pointer (some ⟨g, 0, none⟩) := by simpa using e1
 have f2 : a.tmps[q]?.getD undef = x := by simpa using e2
 have f3 : a.tmps[r]?.getD undef = y := by simpa using e3
 have f4 : a.tmps[s]?.getD undef = z := by simpa using e4
 simp [results, hr, f1, f2, f3, f4, asAddr, run_loadVar_row w g t' t cs (0, 0) dd hb h2 (by cases dd <;> simp_all) h4]
end
def asB (i : Ins) : Ins := if i.op == 9 then { i with to := 1 } else i
section
variable {L : List Tk} {r : (Bool × List UInt8) × Rs × Ins} {s : Rs} {i : Ins} {z : Tk}
theorem asb_yes (h : (i.op == 9) = true) : asB i = { i with to := 1 } := by unfold asB; rw [if_pos h]
theorem asb_no (h : (i.op == 9) = false) : asB i = i := by unfold asB; rw [if_neg (by simp [h])]
end
theorem ent37 : Ent Tryz.prog 37 = FF := by kernel_rfl
def dinv (n m : Int) (l : List UInt8) : Prop := (l = [] ∧ m = n) ∨ (l ≠ [] ∧ Lib.decDigits n.natAbs = if m = 0 then l else Lib.decDigits m.natAbs ++ l)
def dgB (m : Int) : UInt8 := UInt8.ofNat (48 + m.natAbs % 10)
theorem abs_quo (m : Int) : (m.tdiv 10).natAbs = m.natAbs / 10 := Int.natAbs_tdiv m 10
theorem dg_cons (m : Int) : Lib.decDigits m.natAbs = (if m.tdiv 10 = 0 then [] else Lib.decDigits (m.tdiv 10).natAbs) ++ [dgB m] := by
 have hq := abs_quo m
 rw [Lib.decDigits]
 by_cases h : m.natAbs < 10
 ·have h0 : m.tdiv 10 = 0 := Int.natAbs_eq_zero.1 (by rw [hq]; omega)
  rw [dif_pos h, if_pos h0]
  unfold dgB
  rw [Nat.mod_eq_of_lt h]; rfl
 ·have h0 : ¬ m.tdiv 10 = 0 := fun e => by rw [e] at hq; simp at hq; omega
  rw [dif_neg h, if_neg h0, hq]; rfl
theorem dinv_go {n m : Int} {l : List UInt8} (h : dinv n m l) (hc : l = [] ∨ m ≠ 0) : dinv n (m.tdiv 10) (dgB m :: l) := by
 refine .inr ⟨by simp, ?_⟩
 have hd := dg_cons m
 rcases h with ⟨rfl, rfl⟩ | ⟨hl, he⟩
 ·rw [hd]; split <;> simp
 ·have hm : m ≠ 0 := hc.resolve_left hl
  rw [he, if_neg hm, hd]
  split <;> simp
theorem dinv_end {n : Int} {l : List UInt8} (h : dinv n 0 l) (hl : l ≠ []) : l = Lib.decDigits n.natAbs := by
 rcases h with ⟨h1, _⟩ | ⟨_, h⟩
 ·exact absurd h1 hl
 ·rw [h]; simp
theorem itoa_neg {n : Int} (h : n < 0) : Lib.itoa n = 45 :: Lib.decDigits n.natAbs := by unfold Lib.itoa; rw [if_pos h]
theorem itoa_pos {n : Int} (h : ¬ n < 0) : Lib.itoa n = Lib.decDigits n.natAbs := by unfold Lib.itoa; rw [if_neg h]; congr 1; omega
theorem tmod_abs (m : Int) : (m.tmod 10).natAbs = m.natAbs % 10 := Int.natAbs_tmod m 10
theorem tmod_nn {m : Int} (h : ¬ m.tmod 10 < 0) : m.tmod 10 = ((m.natAbs % 10 : Nat) : Int) := by have := tmod_abs m; omega
theorem tmod_neg {m : Int} (h : m.tmod 10 < 0) : IntKind.wrap .i64 (-(m.tmod 10)) = ((m.natAbs % 10 : Nat) : Int) := by
 have h1 := tmod_abs m
 have h2 : -(m.tmod 10) = ((m.natAbs % 10 : Nat) : Int) := by omega
 rw [h2]
 have h3 : m.natAbs % 10 < 10 := Nat.mod_lt _ (by decide)
 simp only [IntKind.wrap, IntKind.signed, IntKind.bits]; simp; omega
theorem byte_of (m : Int) : IntKind.wrap .u8 ((48 + m.natAbs % 10 : Nat) : Int) = (((dgB m).toNat : Nat) : Int) := by
 have h3 : m.natAbs % 10 < 10 := Nat.mod_lt _ (by decide)
 rw [wrap8 (by omega) (by omega)]
 unfold dgB
 rw [UInt8.toNat_ofNat']
 omega
theorem b_rem10 {P : Program} {w : World} {t : TypeId} {x y : Operand} {m : Int} (h1 : -9223372036854775808 ≤ m) (h2 : m ≤ 9223372036854775807) : (eqGuard .rem t x y (.int .i64 m) (.int .i64 10)).run P w = .ok () w ∧ (binOp .rem t (.int .i64 m) (.int .i64 10)).run P w = .ok (.int .i64 (m.tmod 10)) w := by
 refine ⟨by simp [eqGuard], ?_⟩
 have h3 : IntKind.wrap .i64 (m.tmod 10) = m.tmod 10 := by
  have := tmod_abs m
  simp only [IntKind.wrap, IntKind.signed, IntKind.bits]; simp; omega
 simp [binOp, go_sem, h3]
theorem b_quo10 {P : Program} {w : World} {t : TypeId} {x y : Operand} {m : Int} (h1 : -9223372036854775808 ≤ m) (h2 : m ≤ 9223372036854775807) : (eqGuard .quo t x y (.int .i64 m) (.int .i64 10)).run P w = .ok () w ∧ (binOp .quo t (.int .i64 m) (.int .i64 10)).run P w = .ok (.int .i64 (m.tdiv 10)) w := by
 refine ⟨by simp [eqGuard], ?_⟩
 have h3 : IntKind.wrap .i64 (m.tdiv 10) = m.tdiv 10 := by
  have := abs_quo m
  simp only [IntKind.wrap, IntKind.signed, IntKind.bits]; simp; omega
 simp [binOp, go_sem, h3]
theorem quo_range {m : Int} (h1 : -9223372036854775808 ≤ m) (h2 : m ≤ 9223372036854775807) : -9223372036854775808 ≤ m.tdiv 10 ∧ m.tdiv 10 ≤ 9223372036854775807 := by have := abs_quo m; omega
section
variable {P : Program} {ops : Array Oper} {a : Act} {w : World} {K : Value → World → Prop} {d : Option Tmp} {ty : TypeId} {pos : String} {af : Array Edge} {gd : Option (Nat × Bool)}
theorem d_ofByte {x : Operand} {s t e g : Nat} {b : UInt8} (hw : Region.wanted { dst := d, op := .convert s t x, type := ty, pos := pos, after := af, guard := gd } (yielded ops a.tmps) = true) (hx : a.eval x = .slice (some ⟨g, 0, none⟩) 1 1) (hs : P.underlying s = some (.slice e)) (he : P.underlying e = some (.int .u8)) (ht : strB P t = true) (hb : Blk w g #[.int .u8 ((b.toNat : Nat) : Int)] e)
  (h : K (.string (S [b])) w) : Does P ops { dst := d, op := .convert s t x, type := ty, pos := pos, after := af, guard := gd } a w K :=
 does_val hw (by
  have hr := Lib.run_convert_whole (P := P) w s e t hs he (str_fact ht) g 0 (S [b]) (fun i hi => by
   have h0 : i = 0 := by have : (S [b]).size = 1 := rfl; omega
   subst h0
   exact hb.cell rfl) 1
  unfold execOp
  have hsz : (S [b]).size = 1 := rfl
  rw [hsz] at hr
  simp only [hx, Sem.run_bind, hr, Result.andThen_ok, Sem.run_pure]) h
end
theorem elm143 : elemB Tryz.prog 143 5 1 1 = true := by kernel_rfl
theorem und8 : Tryz.prog.underlying 5 = some (.int .u8) := by kernel_rfl
theorem undB : Tryz.prog.underlying 143 = some (.slice 5) := by kernel_rfl
theorem rdigits_any (n : Int) (w : World) (hn1 : -9223372036854775808 ≤ n) (hn2 : n ≤ 9223372036854775807) : Calls Tryz.prog 84 #[J n] w λ e w' => e = .returned (.string (S (Lib.itoa n))) ∧ Grow w w' := by
 have b0 := Grow.refl w
 refine enter (n := 33) Tryz.func84 rfl rfl (nb_ rfl) λ _ A=>sw_<|Z 1 A rfl λ A=>qt_<|sw_<|Z 1 A rfl λ A=>qt_<|ws_<|sw_ ?_
 refine Z 2 A rfl λ A=>qt_<|wp_block<|loop_by (λ m14 a15 w16 => ∃ m11 : Int, ∃ l12 : List UInt8, ∃ k13 : Nat, m14 = 2 * m11.natAbs + k13 ∧ (dinv n m11 l12 ∧ -9223372036854775808 ≤ m11 ∧ m11 ≤ 9223372036854775807 ∧ ((m11.natAbs ≠ 0 → 2 * l12.length + m11.natAbs ≤ n.natAbs) ∧ 2 * l12.length ≤ n.natAbs + 2) ∧ (l12 = [] → k13 = 1)) ∧ St 33 [(0, (J n)), (3, (.string (S l12))), (4, (J m11))] a15 ∧ Below w.heap.size w w16) (2 * n.natAbs + 1) ⟨n, [], 1, rfl, ⟨.inl ⟨rfl, rfl⟩, by omega, by omega, ⟨by simp, by simp⟩, λ _ => rfl⟩, A.sub rfl, b0⟩ ?_
 rintro m14 a15 w16 ⟨m11, l12, k13, hm19, hc20, A, b18⟩
 obtain ⟨hd1, hd2, hd3, ⟨hd4, hd6⟩, hd5⟩ := hc20
 refine ws_<|sw_<|Z 1 A rfl λ A=>?_
 rcases eb_ (eqL l12 []) with hb23 | hb23
 ·skip
  refine B2 A rfl (b_seq (l := l12) (m := []) (r := true) hb23) λ A=>Z 4 A rfl λ A=>qt_<|ct_ A rfl<|wk_<|tn_<|ws_<|wp_block<|sw_<|Z 1 A rfl λ A=>B2 A rfl (b_rem10 (by omega) (by omega)) λ A=>Z 1 A rfl λ A=>?_
  refine qt_<|ws_<|sw_<|Z 1 A rfl λ A=>?_
  rcases eb_ (decide (m11.tmod 10 < 0)) with hb43 | hb43
  ·skip
   have hq44 := dt_ hb43
   refine B2 A rfl (bl hb43) λ A=>qt_<|ct_ A rfl<|wr_<|Z 1 A rfl λ A=>qs A rfl (d_neg (wn rfl) (A.ev rfl) λ _ A=>Z 1 A rfl λ A=>qt_<|wr_<|Z 1 A rfl λ A=>?_)
   have hd55 : 48 + (IntKind.wrap .i64 (-(m11.tmod 10))) = ((48 + m11.natAbs % 10 : Nat) : Int) := by rw [tmod_neg (dt_ hb43)]; omega
   have hmod := Nat.mod_lt m11.natAbs (show 0 < 10 by decide)
   refine B2 A rfl (b_addE (48 + m11.natAbs % 10) hd55 (by omega)) λ A=>qs A rfl (d_conv (((dgB m11).toNat : Nat) : Int) (wn rfl) (A.ev rfl) knd3 knd5 (byte_of m11) λ _ A=>qs A rfl (d_slice1 (wn rfl) (A.ev rfl) elm143 rfl (by decide) λ g60 w61 eg62 hG63 (m64 : Blk w61 g60 #[.int .u8 (((dgB m11).toNat : Nat) : Int)] 5)=>?_))
   have ge65 : w.heap.size ≤ g60 := eg62 ▸ b18.size
   have b66 := bls b18 hG63
   intro _ A
   refine qs A rfl (d_ofByte (b := dgB m11) (wn rfl) (A.ev rfl) undB und8 str9 m64 λ _ A=>Z 1 A rfl λ A=>B2 A rfl (b_sadd (l := [dgB m11]) (m := l12) (by simp only [List.length_append, List.length_cons, List.length_nil]; omega)) λ A=>Z 1 A rfl λ A=>qe_<|i_norm<|tn_<|wr_<|Z 1 A rfl λ A=>B2 A rfl (b_quo10 (by omega) (by omega)) λ A=>Z 1 A rfl λ A=>qt_ ?_)
   have hk1 := hd5 (eqL_eq hb23)
   have hl0 : l12.length = 0 := by rw [eqL_eq hb23]; rfl
   have hgo := dinv_go hd1 (.inl (eqL_eq hb23))
   have hqr := quo_range hd2 hd3
   have hqa := abs_quo m11
   have hle : (dgB m11 :: l12).length = l12.length + 1 := rfl
   exact ⟨2 * (m11.tdiv 10).natAbs + 0, (by rw [hm19]; omega), (m11.tdiv 10), (dgB m11 :: l12), 0, rfl, ⟨hgo, hqr.1, hqr.2, ⟨by rw [hle, hqa]; omega, by rw [hle]; omega⟩, λ h => by cases h⟩, A.cut _ (fc (A.g 0 rfl) (fc ((A.g 3 rfl).trans (rfl)) (fc (A.g 4 rfl) fn_))), b66⟩
  have hq83 := df_ hb43
  refine B2 A rfl (bl hb43) λ A=>qt_<|cf_ A rfl<|wk_<|tn_<|wr_<|Z 1 A rfl λ A=>?_
  have hd88 : 48 + (m11.tmod 10) = ((48 + m11.natAbs % 10 : Nat) : Int) := by rw [tmod_nn (df_ hb43)]; omega
  have hmod := Nat.mod_lt m11.natAbs (show 0 < 10 by decide)
  refine B2 A rfl (b_addE (48 + m11.natAbs % 10) hd88 (by omega)) λ A=>qs A rfl (d_conv (((dgB m11).toNat : Nat) : Int) (wn rfl) (A.ev rfl) knd3 knd5 (byte_of m11) λ _ A=>qs A rfl (d_slice1 (wn rfl) (A.ev rfl) elm143 rfl (by decide) λ g93 w94 eg95 hG96 (m97 : Blk w94 g93 #[.int .u8 (((dgB m11).toNat : Nat) : Int)] 5)=>?_))
  have ge98 : w.heap.size ≤ g93 := eg95 ▸ b18.size
  have b99 := bls b18 hG96
  intro _ A
  refine qs A rfl (d_ofByte (b := dgB m11) (wn rfl) (A.ev rfl) undB und8 str9 m97 λ _ A=>Z 1 A rfl λ A=>B2 A rfl (b_sadd (l := [dgB m11]) (m := l12) (by simp only [List.length_append, List.length_cons, List.length_nil]; omega)) λ A=>Z 1 A rfl λ A=>qe_<|i_norm<|tn_<|wr_<|Z 1 A rfl λ A=>B2 A rfl (b_quo10 (by omega) (by omega)) λ A=>Z 1 A rfl λ A=>qt_ ?_)
  have hk1 := hd5 (eqL_eq hb23)
  have hl0 : l12.length = 0 := by rw [eqL_eq hb23]; rfl
  have hgo := dinv_go hd1 (.inl (eqL_eq hb23))
  have hqr := quo_range hd2 hd3
  have hqa := abs_quo m11
  have hle : (dgB m11 :: l12).length = l12.length + 1 := rfl
  exact ⟨2 * (m11.tdiv 10).natAbs + 0, (by rw [hm19]; omega), (m11.tdiv 10), (dgB m11 :: l12), 0, rfl, ⟨hgo, hqr.1, hqr.2, ⟨by rw [hle, hqa]; omega, by rw [hle]; omega⟩, λ h => by cases h⟩, A.cut _ (fc (A.g 0 rfl) (fc ((A.g 3 rfl).trans (rfl)) (fc (A.g 4 rfl) fn_))), b99⟩
 refine B2 A rfl (b_seq (l := l12) (m := []) (r := false) hb23) λ A=>Z 2 A rfl λ A=>?_
 rcases eb_ (m11 == 0) with hb123 | hb123
 ·skip
  have hq124 := eq_of_beq hb123
  refine B2 A rfl (b_ne _ _ m11 0 false _ (notof hb123)) λ A=>Z 1 A rfl λ A=>qt_<|cf_ A rfl<|wp_exit<|t_exit<|t_exit<|i_here<|tn_<|ws_<|sw_<|Z 1 A rfl λ A=>?_
  rcases eb_ (decide (n < 0)) with hb131 | hb131
  ·skip
   have hq132 := dt_ hb131
   refine B2 A rfl (bl hb131) λ A=>qt_<|ct_ A rfl<|wr_<|Z 1 A rfl λ A=>B2 A rfl (b_sadd (l := [45]) (m := l12) (by simp only [List.length_append, List.length_cons, List.length_nil]; omega)) λ A=>Z 1 A rfl λ A=>qt_<|sw_<|Z 2 A rfl λ A=>qe_ ?_
   refine tn_<|we_<|ret1 rfl A (v := (.string (S ([45] ++ l12)))) rfl ?_
   have hend : l12 = Lib.decDigits n.natAbs := dinv_end (by have := hd1; rw [eq_of_beq hb123] at this; exact this) (eqL_ne hb23)
   exact ⟨by rw [itoa_neg (dt_ hb131), ← hend] <;> rfl, b18⟩
  have hq145 := df_ hb131
  refine B2 A rfl (bl hb131) λ A=>qt_<|cf_ A rfl<|wk_<|tn_<|sw_<|Z 2 A rfl λ A=>qt_<|we_<|ret1 rfl A (v := (.string (S l12))) rfl ?_
  have hend : l12 = Lib.decDigits n.natAbs := dinv_end (by have := hd1; rw [eq_of_beq hb123] at this; exact this) (eqL_ne hb23)
  exact ⟨by rw [itoa_pos (df_ hb131), ← hend] <;> rfl, b18⟩
 have hq152 := ne_of_beq hb123
 refine B2 A rfl (b_ne _ _ m11 0 true _ (notof hb123)) λ A=>Z 1 A rfl λ A=>qt_<|ct_ A rfl<|wk_<|tn_<|ws_<|wp_block<|sw_<|Z 1 A rfl λ A=>B2 A rfl (b_rem10 (by omega) (by omega)) λ A=>Z 1 A rfl λ A=>?_
 refine qt_<|ws_<|sw_<|Z 1 A rfl λ A=>?_
 rcases eb_ (decide (m11.tmod 10 < 0)) with hb165 | hb165
 ·skip
  have hq166 := dt_ hb165
  refine B2 A rfl (bl hb165) λ A=>qt_<|ct_ A rfl<|wr_<|Z 1 A rfl λ A=>qs A rfl (d_neg (wn rfl) (A.ev rfl) λ _ A=>Z 1 A rfl λ A=>qt_<|wr_<|Z 1 A rfl λ A=>?_)
  have hd177 : 48 + (IntKind.wrap .i64 (-(m11.tmod 10))) = ((48 + m11.natAbs % 10 : Nat) : Int) := by rw [tmod_neg (dt_ hb165)]; omega
  have hmod := Nat.mod_lt m11.natAbs (show 0 < 10 by decide)
  refine B2 A rfl (b_addE (48 + m11.natAbs % 10) hd177 (by omega)) λ A=>qs A rfl (d_conv (((dgB m11).toNat : Nat) : Int) (wn rfl) (A.ev rfl) knd3 knd5 (byte_of m11) λ _ A=>qs A rfl (d_slice1 (wn rfl) (A.ev rfl) elm143 rfl (by decide) λ g182 w183 eg184 hG185 (m186 : Blk w183 g182 #[.int .u8 (((dgB m11).toNat : Nat) : Int)] 5)=>?_))
  have ge187 : w.heap.size ≤ g182 := eg184 ▸ b18.size
  have b188 := bls b18 hG185
  intro _ A
  refine qs A rfl (d_ofByte (b := dgB m11) (wn rfl) (A.ev rfl) undB und8 str9 m186 λ _ A=>Z 1 A rfl λ A=>B2 A rfl (b_sadd (l := [dgB m11]) (m := l12) (by simp only [List.length_append, List.length_cons, List.length_nil]; omega)) λ A=>Z 1 A rfl λ A=>qe_<|i_norm<|tn_<|wr_<|Z 1 A rfl λ A=>B2 A rfl (b_quo10 (by omega) (by omega)) λ A=>Z 1 A rfl λ A=>qt_ ?_)
  have hm0 := ne_of_beq hb123
  have hgo := dinv_go hd1 (.inr hm0)
  have hqr := quo_range hd2 hd3
  have hqa := abs_quo m11
  have hle : (dgB m11 :: l12).length = l12.length + 1 := rfl
  exact ⟨2 * (m11.tdiv 10).natAbs + 0, (by rw [hm19]; omega), (m11.tdiv 10), (dgB m11 :: l12), 0, rfl, ⟨hgo, hqr.1, hqr.2, ⟨by rw [hle, hqa]; omega, by rw [hle]; omega⟩, λ h => by cases h⟩, A.cut _ (fc (A.g 0 rfl) (fc ((A.g 3 rfl).trans (rfl)) (fc (A.g 4 rfl) fn_))), b188⟩
 have hq205 := df_ hb165
 refine B2 A rfl (bl hb165) λ A=>qt_<|cf_ A rfl<|wk_<|tn_<|wr_<|Z 1 A rfl λ A=>?_
 have hd210 : 48 + (m11.tmod 10) = ((48 + m11.natAbs % 10 : Nat) : Int) := by rw [tmod_nn (df_ hb165)]; omega
 have hmod := Nat.mod_lt m11.natAbs (show 0 < 10 by decide)
 refine B2 A rfl (b_addE (48 + m11.natAbs % 10) hd210 (by omega)) λ A=>qs A rfl (d_conv (((dgB m11).toNat : Nat) : Int) (wn rfl) (A.ev rfl) knd3 knd5 (byte_of m11) λ _ A=>qs A rfl (d_slice1 (wn rfl) (A.ev rfl) elm143 rfl (by decide) λ g215 w216 eg217 hG218 (m219 : Blk w216 g215 #[.int .u8 (((dgB m11).toNat : Nat) : Int)] 5)=>?_))
 have ge220 : w.heap.size ≤ g215 := eg217 ▸ b18.size
 have b221 := bls b18 hG218
 intro _ A
 refine qs A rfl (d_ofByte (b := dgB m11) (wn rfl) (A.ev rfl) undB und8 str9 m219 λ _ A=>Z 1 A rfl λ A=>B2 A rfl (b_sadd (l := [dgB m11]) (m := l12) (by simp only [List.length_append, List.length_cons, List.length_nil]; omega)) λ A=>Z 1 A rfl λ A=>qe_<|i_norm<|tn_<|wr_<|Z 1 A rfl λ A=>B2 A rfl (b_quo10 (by omega) (by omega)) λ A=>Z 1 A rfl λ A=>qt_ ?_)
 have hm0 := ne_of_beq hb123
 have hgo := dinv_go hd1 (.inr hm0)
 have hqr := quo_range hd2 hd3
 have hqa := abs_quo m11
 have hle : (dgB m11 :: l12).length = l12.length + 1 := rfl
 exact ⟨2 * (m11.tdiv 10).natAbs + 0, (by rw [hm19]; omega), (m11.tdiv 10), (dgB m11 :: l12), 0, rfl, ⟨hgo, hqr.1, hqr.2, ⟨by rw [hle, hqa]; omega, by rw [hle]; omega⟩, λ h => by cases h⟩, A.cut _ (fc (A.g 0 rfl) (fc ((A.g 3 rfl).trans (rfl)) (fc (A.g 4 rfl) fn_))), b221⟩
end Go.Proofs.YtjkbjjlfijhbdaaGreatDoor
namespace Go.Proofs.YtjkbjjlfijhbdaaGreatDoor
set_option linter.defProp false
set_option maxHeartbeats 4000000
set_option maxRecDepth 100000
set_option linter.unusedVariables false
set_option linter.unusedSimpArgs false
def nameF (r : Int) : List UInt8 := if r < 0 then [] else (regsX[r.toNat]?).getD []
theorem name_neg {r : Int} (h : r < 0) : nameF r = [] := by unfold nameF; rw [if_pos h]
theorem name_at {n : Nat} {y : List UInt8} (h : regsX[n]? = some y) : nameF (n : Int) = y := by unfold nameF; rw [if_neg (by omega), Int.toNat_natCast, h]; rfl
theorem name_big {r : Int} (h : r > 7) : nameF r = [] := by
 unfold nameF; rw [if_neg (by omega), List.getElem?_eq_none (by show 8 ≤ r.toNat; omega)]; rfl
theorem name_len (r : Int) : (nameF r).length ≤ 3 := by
 unfold nameF
 split
 ·simp
 ·cases h : regsX[r.toNat]? with
  | none => simp
  | some y =>
   have : ∀ z ∈ regsX, z.length ≤ 3 := by decide
   exact this y (List.mem_of_getElem? h)
theorem dec_len : ∀ (k u : Nat), u < 10 ^ (k + 1) → (Lib.decDigits u).length ≤ k + 1 := by
 intro k
 induction k with
 | zero => intro u h; rw [Lib.decDigits, dif_pos (by omega)]; simp
 | succ k ih =>
  intro u h
  rw [Lib.decDigits]
  split
  ·simp
  ·rw [List.length_append, List.length_singleton]
   have := ih (u / 10) (by rw [Nat.div_lt_iff_lt_mul (by decide), ← Nat.pow_succ]; exact h)
   omega
theorem itoa_len {n : Int} (h1 : -9223372036854775808 ≤ n) (h2 : n ≤ 9223372036854775807) : (Lib.itoa n).length ≤ 21 := by
 have h := dec_len 19 n.natAbs (by omega)
 by_cases hn : n < 0
 ·rw [itoa_neg hn, List.length_cons]; omega
 ·rw [itoa_pos hn]; omega
def locN (k : Nat) : List UInt8 := List.drop k (List.take (k + 1) [120, 121, 122])
theorem loc_len (k : Nat) : (locN k).length ≤ 1 := by unfold locN; rw [List.length_drop, List.length_take]; omega
end Go.Proofs.YtjkbjjlfijhbdaaGreatDoor
namespace Go.Proofs.YtjkbjjlfijhbdaaGreatDoor
open Go.RowKit
set_option linter.defProp false
set_option maxHeartbeats 4000000
set_option maxRecDepth 100000
set_option linter.unusedVariables false
set_option linter.unusedSimpArgs false
theorem ent84 : Ent Tryz.prog 84 = FF := by kernel_rfl
theorem ent85 : Ent Tryz.prog 85 = FF := by kernel_rfl
theorem rname_any (r : Int) (w : World) : Calls Tryz.prog 16 #[J 1, J r] w λ e w' => e = .returned (.string (S (nameF r))) ∧ Grow w w' := by
 by_cases h : r < 0
 ·rw [name_neg h]; exact rname_neg r w h
 ·by_cases h2 : r > 7
  ·rw [name_big h2]; exact rname_big r w h2
  ·have hy := List.getElem?_eq_getElem (show r.toNat < regsX.length by show r.toNat < 8; omega)
   have e : r = ((r.toNat : Nat) : Int) := by omega
   rw [e, name_at hy]; exact rname_at r.toNat _ w hy
def numT (n : Int) : List UInt8 := [36] ++ (Lib.itoa n)
theorem rnumber_any (n : Int) (w : World) (hn1 : -9223372036854775808 ≤ n) (hn2 : n ≤ 9223372036854775807) : Calls Tryz.prog 85 #[J 1, J n] w λ e w' => e = .returned (.string (S (numT n))) ∧ Grow w w' := by
 have b0 := Grow.refl w
 refine enter (n := 18) Tryz.func85 rfl rfl (nb_ rfl) λ _ A=>sw_<|Z 1 A rfl λ A=>qt_<|ws_<|sw_<|Z 1 A rfl λ A=>qt_<|wp_block<|ws_ ?_
 refine wr_<|B2 A rfl (b_eq _ _ 1 1 true _ rfl) λ A=>Z 1 A rfl λ A=>qt_<|ct_ A rfl<|sw_<|Z 1 A rfl λ A=>?_
 have hil := itoa_len (n := n) (by omega) (by omega)
 refine C A rfl ent84 (rdigits_any n w (by omega) (by omega)) ?_
 rintro e16 w13 ⟨he15, hG14⟩
 have b17 := bls b0 hG14
 refine ⟨(.string (S (Lib.itoa n))), he15, λ _ A=>B2 A rfl (b_sadd (l := [36]) (m := Lib.itoa n) (by simp only [List.length_append, List.length_cons, List.length_nil]; omega)) λ A=>Z 1 A rfl λ A=>qt_<|we_<|i_ret<|tr_<|ret1 rfl A (v := (.string (S ([36] ++ (Lib.itoa n))))) rfl ?_⟩
 have hq24 : numT n = [36] ++ (Lib.itoa n) := rfl
 exact ⟨by rw [hq24], b17⟩
def regOrT (r n : Int) : List UInt8 := (if (decide (r < 0)) = true then numT n else nameF r)
theorem rregor_any (r n : Int) (w : World) (hn1 : -9223372036854775808 ≤ n) (hn2 : n ≤ 9223372036854775807) : Calls Tryz.prog 87 #[J 1, J r, J n] w λ e w' => e = .returned (.string (S (regOrT r n))) ∧ Grow w w' := by
 have b0 := Grow.refl w
 refine enter (n := 15) Tryz.func87 rfl rfl (nb_ rfl) λ _ A=>sw_<|Z 1 A rfl λ A=>qt_<|ws_<|sw_<|Z 1 A rfl λ A=>?_
 rcases eb_ (decide (r < 0)) with hb7 | hb7
 ·skip
  have hq8 := dt_ hb7
  refine B2 A rfl (bl hb7) λ A=>qt_<|ct_ A rfl<|sw_<|Z 2 A rfl λ A=>?_
  have hil := itoa_len (n := n) (by omega) (by omega)
  have hnt : (numT n).length ≤ 22 := by unfold numT; simp only [List.length_append, List.length_cons, List.length_nil]; omega
  refine C A rfl ent85 (rnumber_any n w (by omega) (by omega)) ?_
  rintro e18 w15 ⟨he17, hG16⟩
  have b19 := bls b0 hG16
  refine ⟨(.string (S (numT n))), he17, λ _ A=>Z 1 A rfl λ A=>qt_<|we_<|tr_<|ret1 rfl A (v := (.string (S (numT n)))) rfl ?_⟩
  have hq24 : regOrT r n = numT n := by unfold regOrT; simp only [hb7, if_true, Bool.false_eq_true, if_false]
  exact ⟨by rw [hq24], b19⟩
 have hq25 := df_ hb7
 refine B2 A rfl (bl hb7) λ A=>qt_<|cf_ A rfl<|wk_<|tn_<|sw_<|Z 2 A rfl λ A=>?_
 have hnl := name_len r
 refine C A rfl ent16 (rname_any r w) ?_
 rintro e35 w32 ⟨he34, hG33⟩
 have b36 := bls b0 hG33
 refine ⟨(.string (S (nameF r))), he34, λ _ A=>Z 1 A rfl λ A=>qt_<|we_<|ret1 rfl A (v := (.string (S (nameF r)))) rfl ?_⟩
 have hq41 : regOrT r n = nameF r := by unfold regOrT; simp only [hb7, if_true, Bool.false_eq_true, if_false]
 exact ⟨by rw [hq41], b36⟩
theorem rlocn_any (k : Nat) (w : World) (hk : k ≤ 2) : Calls Tryz.prog 165 #[J ((k : Nat) : Int)] w λ e w' => e = .returned (.string (S (locN k))) ∧ Grow w w' := by
 have h3 : ([120, 121, 122] : List UInt8).length = 3 := rfl
 have b0 := Grow.refl w
 refine enter (n := 7) Tryz.func165 rfl rfl (nb_ rfl) λ _ A=>sw_<|Z 1 A rfl λ A=>qt_<|sw_<|Z 2 A rfl λ A=>B2 A rfl (b_addE (k + 1) (by omega) (by omega)) λ A=>qs A rfl (d_spart (m := k) (n := k + 1) (wn rfl) (A.ev rfl) (A.ev rfl) (A.ev rfl) str9 (by omega) (by omega) λ _ A=>Z 1 A rfl λ A=>qt_ ?_)
 refine we_<|ret1 rfl A (v := (.string (S (List.drop k (List.take (k + 1) [120, 121, 122]))))) rfl ?_
 exact ⟨rfl, b0⟩
theorem ent165 : Ent Tryz.prog 165 = FF := by kernel_rfl
theorem rloci_any (k : Int) (w : World) (h1 : 0 ≤ k) (h2 : k ≤ 2) : Calls Tryz.prog 165 #[J k] w λ e w' => e = .returned (.string (S (locN k.toNat))) ∧ Grow w w' := by
 have e : k = ((k.toNat : Nat) : Int) := by omega
 have h := rlocn_any k.toNat w (by omega)
 rw [← e] at h; exact h
def memT (i : Ins) : List UInt8 := (if (i.off == 0) = true then (if (decide (i.index ≥ 0)) = true then [91] ++ (locN i.loc.toNat) ++ [43] ++ (nameF i.index) ++ [93] else [91] ++ (locN i.loc.toNat) ++ [93]) else (if (decide (i.index ≥ 0)) = true then [91] ++ (locN i.loc.toNat) ++ [43] ++ (Lib.itoa i.off) ++ [43] ++ (nameF i.index) ++ [93] else [91] ++ (locN i.loc.toNat) ++ [43] ++ (Lib.itoa i.off) ++ [93]))
theorem rmemtext_any (i : Ins) (w : World) (hl1 : 0 ≤ i.loc) (hl2 : i.loc ≤ 2) (ho1 : -9223372036854775808 ≤ i.off) (ho2 : i.off ≤ 9223372036854775807) : Calls Tryz.prog 126 #[J 1, .agg (insC i)] w λ e w' => e = .returned (.string (S (memT i))) ∧ Grow w w' := by
 have b0 := Grow.refl w
 refine enter (n := 31) Tryz.func126 rfl rfl (nb_ rfl) λ _ A=>sw_<|qs A rfl (d_box (wn rfl) (A.ev rfl) λ g3 w4 eg5 hG6 (m7 : Blk w4 g3 (insC i) 30)=>?_)
 have ge8 : w.heap.size ≤ g3 := eg5 ▸ b0.size
 have b9 := bls b0 hG6
 intro _ A
 refine Z 1 A rfl λ A=>qt_<|sw_<|F1 A rfl fo30_5 λ A=>qs A rfl (dld (v := (J i.loc)) (wn rfl) (A.ev rfl) one3 (m7.cell rfl) λ _ A=>?_)
 have hll := loc_len i.loc.toNat
 refine C A rfl ent165 (rloci_any i.loc w4 (by omega) (by omega)) ?_
 rintro e21 w18 ⟨he20, hG19⟩
 have m22 := m7.grow hG19
 have b23 := bls b9 hG19
 refine ⟨(.string (S (locN i.loc.toNat))), he20, λ _ A=>B2 A rfl (b_sadd (l := [91]) (m := locN i.loc.toNat) (by simp only [List.length_append, List.length_cons, List.length_nil]; omega)) λ A=>Z 1 A rfl λ A=>qt_<|ws_<|sw_<|F1 A rfl fo30_6 λ A=>qs A rfl (dld (v := (J i.off)) (wn rfl) (A.ev rfl) one3 (m22.cell rfl) λ _ A=>?_)⟩
 rcases eb_ (i.off == 0) with hb34 | hb34
 ·skip
  have hq35 := eq_of_beq hb34
  refine B2 A rfl (b_ne _ _ i.off 0 false _ (notof hb34)) λ A=>qt_<|cf_ A rfl<|wk_<|tn_<|ws_<|sw_<|F1 A rfl fo30_7 λ A=>qs A rfl (dld (v := (J i.index)) (wn rfl) (A.ev rfl) one3 (m22.cell rfl) λ _ A=>?_)
  rcases eb_ (decide (i.index ≥ 0)) with hb42 | hb42
  ·skip
   have hq43 := dt_ hb42
   refine B2 A rfl (bge_ hb42) λ A=>qt_<|ct_ A rfl<|wr_<|Z 1 A rfl λ A=>B2 A rfl (b_sadd (l := [91] ++ (locN i.loc.toNat)) (m := [43]) (by simp only [List.length_append, List.length_cons, List.length_nil]; omega)) λ A=>Z 1 A rfl λ A=>F1 A rfl fo30_7 λ A=>qs A rfl (dld (v := (J i.index)) (wn rfl) (A.ev rfl) one3 (m22.cell rfl) λ _ A=>?_)
   have hnl := name_len i.index
   refine C A rfl ent16 (rname_any i.index w18) ?_
   rintro e59 w56 ⟨he58, hG57⟩
   have m60 := m22.grow hG57
   have b61 := bls b23 hG57
   refine ⟨(.string (S (nameF i.index))), he58, λ _ A=>B2 A rfl (b_sadd (l := [91] ++ (locN i.loc.toNat) ++ [43]) (m := nameF i.index) (by simp only [List.length_append, List.length_cons, List.length_nil]; omega)) λ A=>Z 1 A rfl λ A=>qt_<|sw_<|Z 1 A rfl λ A=>B2 A rfl (b_sadd (l := [91] ++ (locN i.loc.toNat) ++ [43] ++ (nameF i.index)) (m := [93]) (by simp only [List.length_append, List.length_cons, List.length_nil]; omega)) λ A=>Z 1 A rfl λ A=>qt_<|we_<|ret1 rfl A (v := (.string (S ([91] ++ (locN i.loc.toNat) ++ [43] ++ (nameF i.index) ++ [93])))) rfl ?_⟩
   have hq74 : memT i = [91] ++ (locN i.loc.toNat) ++ [43] ++ (nameF i.index) ++ [93] := by unfold memT; simp only [hb34, hb42, if_true, Bool.false_eq_true, if_false]
   exact ⟨by rw [hq74], b61⟩
  have hq75 := df_ hb42
  refine B2 A rfl (bge_ hb42) λ A=>qt_<|cf_ A rfl<|wk_<|tn_<|sw_<|Z 1 A rfl λ A=>B2 A rfl (b_sadd (l := [91] ++ (locN i.loc.toNat)) (m := [93]) (by simp only [List.length_append, List.length_cons, List.length_nil]; omega)) λ A=>Z 1 A rfl λ A=>qt_<|we_ ?_
  refine ret1 rfl A (v := (.string (S ([91] ++ (locN i.loc.toNat) ++ [93])))) rfl ?_
  have hq84 : memT i = [91] ++ (locN i.loc.toNat) ++ [93] := by unfold memT; simp only [hb34, hb42, if_true, Bool.false_eq_true, if_false]
  exact ⟨by rw [hq84], b23⟩
 have hq85 := ne_of_beq hb34
 refine B2 A rfl (b_ne _ _ i.off 0 true _ (notof hb34)) λ A=>qt_<|ct_ A rfl<|wr_<|Z 1 A rfl λ A=>B2 A rfl (b_sadd (l := [91] ++ (locN i.loc.toNat)) (m := [43]) (by simp only [List.length_append, List.length_cons, List.length_nil]; omega)) λ A=>F1 A rfl fo30_6 λ A=>qs A rfl (dld (v := (J i.off)) (wn rfl) (A.ev rfl) one3 (m22.cell rfl) λ _ A=>?_)
 have hil := itoa_len (n := i.off) (by omega) (by omega)
 refine C A rfl ent84 (rdigits_any i.off w18 (by omega) (by omega)) ?_
 rintro e99 w96 ⟨he98, hG97⟩
 have m100 := m22.grow hG97
 have b101 := bls b23 hG97
 refine ⟨(.string (S (Lib.itoa i.off))), he98, λ _ A=>B2 A rfl (b_sadd (l := [91] ++ (locN i.loc.toNat) ++ [43]) (m := Lib.itoa i.off) (by simp only [List.length_append, List.length_cons, List.length_nil]; omega)) λ A=>Z 1 A rfl λ A=>qt_<|ws_<|sw_<|F1 A rfl fo30_7 λ A=>qs A rfl (dld (v := (J i.index)) (wn rfl) (A.ev rfl) one3 (m100.cell rfl) λ _ A=>?_)⟩
 rcases eb_ (decide (i.index ≥ 0)) with hb112 | hb112
 ·skip
  have hq113 := dt_ hb112
  refine B2 A rfl (bge_ hb112) λ A=>qt_<|ct_ A rfl<|wr_<|Z 1 A rfl λ A=>B2 A rfl (b_sadd (l := [91] ++ (locN i.loc.toNat) ++ [43] ++ (Lib.itoa i.off)) (m := [43]) (by simp only [List.length_append, List.length_cons, List.length_nil]; omega)) λ A=>Z 1 A rfl λ A=>F1 A rfl fo30_7 λ A=>qs A rfl (dld (v := (J i.index)) (wn rfl) (A.ev rfl) one3 (m100.cell rfl) λ _ A=>?_)
  have hnl := name_len i.index
  refine C A rfl ent16 (rname_any i.index w96) ?_
  rintro e129 w126 ⟨he128, hG127⟩
  have m130 := m100.grow hG127
  have b131 := bls b101 hG127
  refine ⟨(.string (S (nameF i.index))), he128, λ _ A=>B2 A rfl (b_sadd (l := [91] ++ (locN i.loc.toNat) ++ [43] ++ (Lib.itoa i.off) ++ [43]) (m := nameF i.index) (by simp only [List.length_append, List.length_cons, List.length_nil]; omega)) λ A=>Z 1 A rfl λ A=>qt_<|sw_<|Z 1 A rfl λ A=>B2 A rfl (b_sadd (l := [91] ++ (locN i.loc.toNat) ++ [43] ++ (Lib.itoa i.off) ++ [43] ++ (nameF i.index)) (m := [93]) (by simp only [List.length_append, List.length_cons, List.length_nil]; omega)) λ A=>Z 1 A rfl λ A=>qt_<|we_<|ret1 rfl A (v := (.string (S ([91] ++ (locN i.loc.toNat) ++ [43] ++ (Lib.itoa i.off) ++ [43] ++ (nameF i.index) ++ [93])))) rfl ?_⟩
  have hq144 : memT i = [91] ++ (locN i.loc.toNat) ++ [43] ++ (Lib.itoa i.off) ++ [43] ++ (nameF i.index) ++ [93] := by unfold memT; simp only [hb34, hb112, if_true, Bool.false_eq_true, if_false]
  exact ⟨by rw [hq144], b131⟩
 have hq145 := df_ hb112
 refine B2 A rfl (bge_ hb112) λ A=>qt_<|cf_ A rfl<|wk_<|tn_<|sw_<|Z 1 A rfl λ A=>B2 A rfl (b_sadd (l := [91] ++ (locN i.loc.toNat) ++ [43] ++ (Lib.itoa i.off)) (m := [93]) (by simp only [List.length_append, List.length_cons, List.length_nil]; omega)) λ A=>Z 1 A rfl λ A=>qt_<|we_ ?_
 refine ret1 rfl A (v := (.string (S ([91] ++ (locN i.loc.toNat) ++ [43] ++ (Lib.itoa i.off) ++ [93])))) rfl ?_
 have hq154 : memT i = [91] ++ (locN i.loc.toNat) ++ [43] ++ (Lib.itoa i.off) ++ [93] := by unfold memT; simp only [hb34, hb112, if_true, Bool.false_eq_true, if_false]
 exact ⟨by rw [hq154], b101⟩
def branT (z : Bool) : List UInt8 := (if z = true then [74, 90] else [74, 78, 90])
theorem rbrantext_any (z : Bool) (w : World) : Calls Tryz.prog 88 #[J 1, .bool z] w λ e w' => e = .returned (.string (S (branT z))) ∧ Grow w w' := by
 have b0 := Grow.refl w
 refine enter (n := 20) Tryz.func88 rfl rfl (nb_ rfl) λ _ A=>sw_<|Z 1 A rfl λ A=>qt_<|sw_<|qs A rfl (d_sliceL (cells := #[.string (S [74, 78, 90]), .string (S [74, 90])]) (wn rfl) (bp_of (bq_cons (A.ev rfl) (bq_cons (A.ev rfl) bq_nil))) slz76 (by decide) (by decide) (by kernel_rfl) λ g5 w6 eg7 hG8 (m9 : Blk w6 g5 #[.string (S [74, 78, 90]), .string (S [74, 90])] 9)=>?_)
 have ge10 : w.heap.size ≤ g5 := eg7 ▸ b0.size
 have b11 := bls b0 hG8
 intro _ A
 refine Z 1 A rfl λ A=>qt_<|ws_<|sw_<|Z 1 A rfl λ A=>B2 A rfl (b_eq _ _ 1 2 false _ rfl) λ A=>qt_<|cf_ A rfl<|wk_<|tn_<|ws_ ?_
 refine sw_<|Z 1 A rfl λ A=>B2 A rfl (b_eq _ _ 1 3 false _ rfl) λ A=>qt_<|cf_ A rfl<|wk_<|tn_<|ws_<|sw_<|Z 1 A rfl λ A=>qe_ ?_
 refine tn_ ?_
 rcases eb_ (z) with hb26 | hb26
 ·skip
  have A := A.shadow (t := 13) rfl hb26
  refine ct_ A rfl<|sw_<|Z 1 A rfl λ A=>?_
  obtain ⟨b31, o32, lt33, hr34, hix35⟩ := (sl_lit (l := [[74, 78, 90], [74, 90]]) m9 rfl rfl).at (show ([[74, 78, 90], [74, 90]] : List (List UInt8))[1]? = some [74, 90] from rfl)
  refine qs A rfl (dia (j := 1) (wn rfl) (A.ev rfl) (A.ev rfl) slc76 hix35 (get_lt (show ([[74, 78, 90], [74, 90]] : List (List UInt8))[1]? = some [74, 90] from rfl)) λ _ A=>qs A rfl (dld (v := (.string (S [74, 90]))) (wn rfl) (A.ev rfl) one9 (hr34 0 _ rfl) λ _ A=>Z 1 A rfl λ A=>qt_<|we_<|tr_<|ret1 rfl A (v := (.string (S [74, 90]))) rfl ?_))
  have hq42 : branT z = [74, 90] := by unfold branT; simp only [hb26, if_true, Bool.false_eq_true, if_false]
  exact ⟨by rw [hq42], b11⟩
 have A := A.shadow (t := 13) rfl hb26
 refine cf_ A rfl<|wk_<|tn_<|sw_<|Z 1 A rfl λ A=>?_
 obtain ⟨b47, o48, lt49, hr50, hix51⟩ := (sl_lit (l := [[74, 78, 90], [74, 90]]) m9 rfl rfl).at (show ([[74, 78, 90], [74, 90]] : List (List UInt8))[0]? = some [74, 78, 90] from rfl)
 refine qs A rfl (dia (j := 0) (wn rfl) (A.ev rfl) (A.ev rfl) slc76 hix51 (get_lt (show ([[74, 78, 90], [74, 90]] : List (List UInt8))[0]? = some [74, 78, 90] from rfl)) λ _ A=>qs A rfl (dld (v := (.string (S [74, 78, 90]))) (wn rfl) (A.ev rfl) one9 (hr50 0 _ rfl) λ _ A=>Z 1 A rfl λ A=>qt_<|we_<|ret1 rfl A (v := (.string (S [74, 78, 90]))) rfl ?_))
 have hq58 : branT z = [74, 78, 90] := by unfold branT; simp only [hb26, if_true, Bool.false_eq_true, if_false]
 exact ⟨by rw [hq58], b11⟩
end Go.Proofs.YtjkbjjlfijhbdaaGreatDoor
namespace Go.Proofs.YtjkbjjlfijhbdaaGreatDoor
set_option linter.defProp false
set_option maxHeartbeats 4000000
set_option maxRecDepth 100000
set_option linter.unusedVariables false
set_option linter.unusedSimpArgs false
theorem map6 {a : Act} {p q r s t o : Operand} {b c d e f g : Value} (h1 : a.eval p = b) (h2 : a.eval q = c) (h3 : a.eval r = d) (h4 : a.eval s = e) (h5 : a.eval t = f) (h6 : a.eval o = g) : (#[p, q, r, s, t, o] : Array Operand).map a.eval = #[b, c, d, e, f, g] := by
 simp only [List.map_toArray, List.map_cons, List.map_nil, h1, h2, h3, h4, h5, h6]
def tlX (n : Int) : List UInt8 := if n == 1 then [66] else if n == 2 then [87] else if n == 4 then [76] else if n == 8 then [81] else []
theorem tail_hit {j : Nat} {n : Int} (hj : j < 4) (h : (szI (j : Int) == n) = true) : tlX n = List.drop j (List.take (j + 1) [66, 87, 76, 81]) := by
 have h := eq_of_beq h
 subst h
 have : j = 0 ∨ j = 1 ∨ j = 2 ∨ j = 3 := by omega
 rcases this with rfl | rfl | rfl | rfl <;> rfl
theorem tail_end {n : Int} (h : ∀ i : Nat, i < 4 → szI (i : Int) ≠ n) : tlX n = [] := by
 have h0 := h 0 (by decide)
 have h1 := h 1 (by decide)
 have h2 := h 2 (by decide)
 have h3 := h 3 (by decide)
 simp [szI] at h0 h1 h2 h3
 unfold tlX
 simp [Ne.symm h0, Ne.symm h1, Ne.symm h2, Ne.symm h3]
theorem tl_len (n : Int) : (tlX n).length ≤ 1 := by
 unfold tlX
 split
 ·simp
 ·split
  ·simp
  ·split
   ·simp
   ·split <;> simp
def fnsX : List (List UInt8) := [[], [65, 68, 68], [83, 85, 66], [88, 79, 82], [65, 78, 68], [79, 82]]
def fnT (k : Int) : List UInt8 := (fnsX[k.toNat]?).getD []
theorem fn_at {n : Nat} {y : List UInt8} (h : fnsX[n]? = some y) : fnT (n : Int) = y := by unfold fnT; rw [Int.toNat_natCast, h]; rfl
theorem fn_len (k : Int) : (fnT k).length ≤ 3 := by
 unfold fnT
 cases h : fnsX[k.toNat]? with
 | none => simp
 | some y =>
  have : ∀ z ∈ fnsX, z.length ≤ 3 := by decide
  exact this y (List.mem_of_getElem? h)
end Go.Proofs.YtjkbjjlfijhbdaaGreatDoor
