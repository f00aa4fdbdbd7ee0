/- X86Prints: what it stands on, part 5. -/
import Derived.Test.YtjkbjjlfijhbdaaGreatDoorX86PrintsP4
import Derived.Deep.MidRow
import Derived.Deep.Upon
import Derived.Lib.SliceRun
namespace Go.Proofs.YtjkbjjlfijhbdaaGreatDoor
open Go.RowKit
set_option linter.defProp false
set_option maxHeartbeats 4000000
set_option maxRecDepth 100000
set_option linter.unusedVariables false
set_option linter.unusedSimpArgs false
theorem ent149 : Ent Tryz.prog 149 = FF := by kernel_rfl
theorem ent150 : Ent Tryz.prog 150 = FF := by kernel_rfl
theorem ent151 : Ent Tryz.prog 151 = FF := by kernel_rfl
theorem ent152 : Ent Tryz.prog 152 = FF := by kernel_rfl
theorem ent153 : Ent Tryz.prog 153 = FF := by kernel_rfl
theorem ent175 : Ent Tryz.prog 175 = FF := by kernel_rfl
theorem ent177 : Ent Tryz.prog 177 = FF := by kernel_rfl
theorem ent178 : Ent Tryz.prog 178 = FF := by kernel_rfl
theorem ent181 : Ent Tryz.prog 181 = FF := by kernel_rfl
theorem fo86_2 : fieldOff Tryz.prog 86 2 = some 18 := by kernel_rfl
theorem fo86_3 : fieldOff Tryz.prog 86 3 = some 35 := by kernel_rfl
theorem pmem_any (Bd gr gc : Nat) (lg : Lg) (s : Ps) (sv : Value) (L : List Tk)  (w : World) (hB : Bd ≤ w.heap.size) (hBr : Bd ≤ gr) (hBc : Bd ≤ gc) (hne : gr ≠ gc) (hbr : Blk w gr (rdP lg gc s) 86) (hbc : Blk w gc #[sv, J ((s.p : Nat) : Int)] 132) (hSl : Sl tokE 4 Bd w sv L) (hp : s.p ≤ L.length) (hL : L.length ≤ 1000000) : Calls Tryz.prog 151 #[.pointer (some ⟨gr, 0, none⟩)] w λ e w' => e = .returned (.tuple #[]) ∧ Mix [gr, gc] w w' ∧ Blk w' gr (rdP lg gc (memP lg L s)) 86 ∧ Blk w' gc #[sv, J ((((memP lg L s)).p : Nat) : Int)] 132 ∧ ((memP lg L s)).p ≤ L.length := by
 have x0 : Mix [gr, gc] w w := Mix.refl _ _
 have b0 : Below Bd w w := Below.refl _ _
 refine enter (n := 54) Tryz.func151 rfl rfl (nb_ rfl) λ _ A=>sw_<|Z 1 A rfl λ A=>C A rfl ent106 (pmark_any Bd gr gc lg s sv L [91] w (nt_ hB b0.size) hBr hBc hne hbr hbc (hSl.below b0) hp hL) ?_
 rintro e8 w5 ⟨he7, hX10, m11, m12, hp9⟩
 have x13 := x0.mix hX10 (λ k hk hc => nin2 (two_a hc) (two_b hc))
 have b14 := hX10.below b0 (nt_ hB b0.size) (lows2 hBr hBc)
 refine ⟨(.tuple #[]), he7, λ _ A=>qt_<|sw_<|Z 2 A rfl λ A=>C A rfl ent162 (locs_any w5) ?_⟩
 rintro e24 w21 ⟨g25, he23, hG22, m26, hge27⟩
 have ge28 : Bd ≤ g25 := nt_ (nt_ hB b14.size) hge27
 have n29 : gr ≠ g25 := Nat.ne_of_lt (Nat.lt_of_lt_of_le m11.lt hge27)
 have n30 : gc ≠ g25 := Nat.ne_of_lt (Nat.lt_of_lt_of_le m12.lt hge27)
 have gx31 : w.heap.size ≤ g25 := nt_ x13.size hge27
 have m32 := m11.grow hG22
 have m33 := m12.grow hG22
 have b34 := blg b14 hG22 (nt_ hB b14.size)
 have x35 := x13.grow hG22
 refine ⟨(.slice (some ⟨g25, 0, none⟩) 3 3), he23, λ _ A=>C A rfl ent179 (pknown_any Bd gr gc lg (markP L [91] s) sv L (.slice (some ⟨g25, 0, none⟩) 3 3) locsX w21 (nt_ hB b34.size) hBr hBc hne m32 m33 (hSl.below b34) hp9 hL (sl_lit (l := locsX) m26 rfl rfl) (nb_ rfl)) ?_⟩
 rintro e41 w38 ⟨he40, hX43, m44, m45, hp42⟩
 have m46 := m26.mix hX43 (nin2 (Ne.symm n29) (Ne.symm n30))
 have x47 := x35.mix hX43 (λ k hk hc => nin2 (two_a hc) (two_b hc))
 have b48 := hX43.below b34 (nt_ hB b34.size) (lows2 hBr hBc)
 refine ⟨(J ((knownP L locsX (markP L [91] s)).2)), he40, λ _ A=>Z 1 A rfl λ A=>F1 A rfl fo86_2 λ A=>F1 A rfl fo30_5 λ A=>qs A rfl (dst_ (wn rfl) (A.ev rfl) (A.ev rfl) one3 rfl m44 (nb_ rfl) λ w57 hU58 (m59 : Blk w57 gr (rdP lg gc (setLoc (knownP L locsX (markP L [91] s)).1 ((knownP L locsX (markP L [91] s)).2))) 86)=>?_)⟩
 have m60 := m45.upd hU58 (Ne.symm hne)
 have m61 := m46.upd hU58 (Ne.symm n29)
 have b62 := hU58.below b48 hBr
 have x63 := x47.updIn hU58 (in2a gr gc)
 have m64 : Blk w57 gc #[sv, J (((setLoc (knownP L locsX (markP L [91] s)).1 ((knownP L locsX (markP L [91] s)).2)).p : Nat) : Int)] 132 := m60
 have hp65 : (setLoc (knownP L locsX (markP L [91] s)).1 ((knownP L locsX (markP L [91] s)).2)).p ≤ L.length := hp42
 intro _ A
 refine qt_<|sw_<|Z 2 A rfl λ A=>F1 A rfl fo86_2 λ A=>F1 A rfl fo30_7 λ A=>qs A rfl (dst_ (wn rfl) (A.ev rfl) (A.ev rfl) one3 rfl m59 (nb_ rfl) λ w76 hU77 (m78 : Blk w76 gr (rdP lg gc (setIdx (setLoc (knownP L locsX (markP L [91] s)).1 ((knownP L locsX (markP L [91] s)).2)) (-1))) 86)=>?_)
 have m79 := m64.upd hU77 (Ne.symm hne)
 have m80 := m61.upd hU77 (Ne.symm n29)
 have b81 := hU77.below b62 hBr
 have x82 := x63.updIn hU77 (in2a gr gc)
 have m83 : Blk w76 gc #[sv, J (((setIdx (setLoc (knownP L locsX (markP L [91] s)).1 ((knownP L locsX (markP L [91] s)).2)) (-1)).p : Nat) : Int)] 132 := m79
 have hp84 : (setIdx (setLoc (knownP L locsX (markP L [91] s)).1 ((knownP L locsX (markP L [91] s)).2)) (-1)).p ≤ L.length := hp65
 intro _ A
 refine qt_<|sw_<|Z 2 A rfl λ A=>F1 A rfl fo86_1 λ A=>qs A rfl (dld (v := (.pointer (some ⟨gc, 0, none⟩))) (wn rfl) (A.ev rfl) one83 (m78.cell rfl) λ _ A=>qs A rfl (d_slice1 (wn rfl) (A.ev rfl) elm76 rfl (by decide) λ g95 w96 eg97 hG98 (m99 : Blk w96 g95 #[.string (S [43])] 9)=>?_))
 have ge100 : Bd ≤ g95 := eg97 ▸ (nt_ hB b81.size)
 have n101 := nn_ eg97 m78
 have n102 := nn_ eg97 m83
 have n103 := nn_ eg97 m80
 have gx104 : w.heap.size ≤ g95 := eg97 ▸ x82.size
 have m105 := m78.grow hG98
 have m106 := m83.grow hG98
 have m107 := m80.grow hG98
 have b108 := blg b81 hG98 (nt_ hB b81.size)
 have x109 := x82.grow hG98
 intro _ A
 rcases eb_ (reads L [43] (setIdx (setLoc (knownP L locsX (markP L [91] s)).1 ((knownP L locsX (markP L [91] s)).2)) (-1)).p) with hb112 | hb112
 ·skip
  have hrl := reads_lt hb112
  have hrl := reads_lt hb112
  refine C A rfl ent145 (take_y Bd gc ((setIdx (setLoc (knownP L locsX (markP L [91] s)).1 ((knownP L locsX (markP L [91] s)).2)) (-1)).p) sv L (.slice (some ⟨g95, 0, none⟩) 1 1) [43] w96 (nt_ hB b108.size) hBc m106 (hSl.below b108) hp84 hL hb112 (sl_lit (l := [[43]]) m99 rfl rfl) (own_ne (Ne.symm n102))) ?_
  rintro e117 w114 ⟨he116, hX119, m120⟩
  have m121 := m105.mix hX119 (nin1 hne)
  have m122 := m107.mix hX119 (nin1 (Ne.symm n30))
  have m123 := m99.mix hX119 (nin1 (Ne.symm n102))
  have x124 := x109.mix hX119 (λ k hk hc => nin1 (two_b hc))
  have b125 := hX119.below b108 (nt_ hB b108.size) (lows1 hBc)
  refine ⟨(.bool true), he116, λ _ A=>?_⟩
  have m128 : Blk w114 gr (rdP lg gc (atP (setIdx (setLoc (knownP L locsX (markP L [91] s)).1 ((knownP L locsX (markP L [91] s)).2)) (-1)) ((setIdx (setLoc (knownP L locsX (markP L [91] s)).1 ((knownP L locsX (markP L [91] s)).2)) (-1)).p + 1))) 86 := m121
  have m129 : Blk w114 gc #[sv, J (((atP (setIdx (setLoc (knownP L locsX (markP L [91] s)).1 ((knownP L locsX (markP L [91] s)).2)) (-1)) ((setIdx (setLoc (knownP L locsX (markP L [91] s)).1 ((knownP L locsX (markP L [91] s)).2)) (-1)).p + 1)).p : Nat) : Int)] 132 := m120
  have hp130 : (atP (setIdx (setLoc (knownP L locsX (markP L [91] s)).1 ((knownP L locsX (markP L [91] s)).2)) (-1)) ((setIdx (setLoc (knownP L locsX (markP L [91] s)).1 ((knownP L locsX (markP L [91] s)).2)) (-1)).p + 1)).p ≤ L.length := show (setIdx (setLoc (knownP L locsX (markP L [91] s)).1 ((knownP L locsX (markP L [91] s)).2)) (-1)).p + 1 ≤ L.length by omega
  refine Z 1 A rfl λ A=>qt_<|ws_<|sw_<|Z 3 A rfl λ A=>C A rfl ent181 (pisnum_any Bd gr gc lg (atP (setIdx (setLoc (knownP L locsX (markP L [91] s)).1 ((knownP L locsX (markP L [91] s)).2)) (-1)) ((setIdx (setLoc (knownP L locsX (markP L [91] s)).1 ((knownP L locsX (markP L [91] s)).2)) (-1)).p + 1)) sv L w114 (nt_ hB b125.size) hBr hBc hne m128 m129 (hSl.below b125) hp130 hL) ?_
  rintro e142 w139 ⟨he141, hG140⟩
  have m143 := m128.grow hG140
  have m144 := m129.grow hG140
  have m145 := m122.grow hG140
  have m146 := m123.grow hG140
  have b147 := blg b125 hG140 (nt_ hB b125.size)
  have x148 := x124.grow hG140
  rcases eb_ (isNumP L (atP (setIdx (setLoc (knownP L locsX (markP L [91] s)).1 ((knownP L locsX (markP L [91] s)).2)) (-1)) ((setIdx (setLoc (knownP L locsX (markP L [91] s)).1 ((knownP L locsX (markP L [91] s)).2)) (-1)).p + 1)).p) with hb149 | hb149
  ·skip
   refine ⟨.bool true, he141.trans (ret_bool hb149), λ _ A=>Z 1 A rfl λ A=>qt_<|ct_ A rfl<|sw_<|Z 3 A rfl λ A=>F1 A rfl fo86_1 λ A=>qs A rfl (dld (v := (.pointer (some ⟨gc, 0, none⟩))) (wn rfl) (A.ev rfl) one83 (m143.cell rfl) λ _ A=>?_)⟩
   have hnq := nbQ_le (isnum_o hb149)
   have hnq := nbQ_le (isnum_o hb149)
   refine C A rfl ent182 (numb_y Bd gc ((atP (setIdx (setLoc (knownP L locsX (markP L [91] s)).1 ((knownP L locsX (markP L [91] s)).2)) (-1)) ((setIdx (setLoc (knownP L locsX (markP L [91] s)).1 ((knownP L locsX (markP L [91] s)).2)) (-1)).p + 1)).p) sv L w139 (nt_ hB b147.size) hBc m144 (hSl.below b147) hp130 hL (isnum_o hb149)) ?_
   rintro e168 w165 ⟨he167, hX170, m171⟩
   have m172 := m143.mix hX170 (nin1 hne)
   have m173 := m145.mix hX170 (nin1 (Ne.symm n30))
   have m174 := m146.mix hX170 (nin1 (Ne.symm n102))
   have x175 := x148.mix hX170 (λ k hk hc => nin1 (two_b hc))
   have b176 := hX170.below b147 (nt_ hB b147.size) (lows1 hBc)
   refine ⟨(.tuple #[(J (nbV L (atP (setIdx (setLoc (knownP L locsX (markP L [91] s)).1 ((knownP L locsX (markP L [91] s)).2)) (-1)) ((setIdx (setLoc (knownP L locsX (markP L [91] s)).1 ((knownP L locsX (markP L [91] s)).2)) (-1)).p + 1)).p)), (.bool true)]), he167, λ _ A=>?_⟩
   have m179 : Blk w165 gr (rdP lg gc (atP (atP (setIdx (setLoc (knownP L locsX (markP L [91] s)).1 ((knownP L locsX (markP L [91] s)).2)) (-1)) ((setIdx (setLoc (knownP L locsX (markP L [91] s)).1 ((knownP L locsX (markP L [91] s)).2)) (-1)).p + 1)) (nbQ L (atP (setIdx (setLoc (knownP L locsX (markP L [91] s)).1 ((knownP L locsX (markP L [91] s)).2)) (-1)) ((setIdx (setLoc (knownP L locsX (markP L [91] s)).1 ((knownP L locsX (markP L [91] s)).2)) (-1)).p + 1)).p))) 86 := m172
   have m180 : Blk w165 gc #[sv, J (((atP (atP (setIdx (setLoc (knownP L locsX (markP L [91] s)).1 ((knownP L locsX (markP L [91] s)).2)) (-1)) ((setIdx (setLoc (knownP L locsX (markP L [91] s)).1 ((knownP L locsX (markP L [91] s)).2)) (-1)).p + 1)) (nbQ L (atP (setIdx (setLoc (knownP L locsX (markP L [91] s)).1 ((knownP L locsX (markP L [91] s)).2)) (-1)) ((setIdx (setLoc (knownP L locsX (markP L [91] s)).1 ((knownP L locsX (markP L [91] s)).2)) (-1)).p + 1)).p)).p : Nat) : Int)] 132 := m171
   have hp181 : (atP (atP (setIdx (setLoc (knownP L locsX (markP L [91] s)).1 ((knownP L locsX (markP L [91] s)).2)) (-1)) ((setIdx (setLoc (knownP L locsX (markP L [91] s)).1 ((knownP L locsX (markP L [91] s)).2)) (-1)).p + 1)) (nbQ L (atP (setIdx (setLoc (knownP L locsX (markP L [91] s)).1 ((knownP L locsX (markP L [91] s)).2)) (-1)) ((setIdx (setLoc (knownP L locsX (markP L [91] s)).1 ((knownP L locsX (markP L [91] s)).2)) (-1)).p + 1)).p)).p ≤ L.length := show nbQ L (atP (setIdx (setLoc (knownP L locsX (markP L [91] s)).1 ((knownP L locsX (markP L [91] s)).2)) (-1)) ((setIdx (setLoc (knownP L locsX (markP L [91] s)).1 ((knownP L locsX (markP L [91] s)).2)) (-1)).p + 1)).p ≤ L.length by omega
   refine Z 4 A rfl λ A=>F1 A rfl fo86_2 λ A=>F1 A rfl fo30_6 λ A=>qs A rfl (dst_ (wn rfl) (A.ev rfl) (A.ev rfl) one3 rfl m179 (nb_ rfl) λ w194 hU195 (m196 : Blk w194 gr (rdP lg gc (setOff (atP (atP (setIdx (setLoc (knownP L locsX (markP L [91] s)).1 ((knownP L locsX (markP L [91] s)).2)) (-1)) ((setIdx (setLoc (knownP L locsX (markP L [91] s)).1 ((knownP L locsX (markP L [91] s)).2)) (-1)).p + 1)) (nbQ L (atP (setIdx (setLoc (knownP L locsX (markP L [91] s)).1 ((knownP L locsX (markP L [91] s)).2)) (-1)) ((setIdx (setLoc (knownP L locsX (markP L [91] s)).1 ((knownP L locsX (markP L [91] s)).2)) (-1)).p + 1)).p)) (nbV L (atP (setIdx (setLoc (knownP L locsX (markP L [91] s)).1 ((knownP L locsX (markP L [91] s)).2)) (-1)) ((setIdx (setLoc (knownP L locsX (markP L [91] s)).1 ((knownP L locsX (markP L [91] s)).2)) (-1)).p + 1)).p))) 86)=>?_)
   have m197 := m180.upd hU195 (Ne.symm hne)
   have m198 := m173.upd hU195 (Ne.symm n29)
   have m199 := m174.upd hU195 (Ne.symm n101)
   have b200 := hU195.below b176 hBr
   have x201 := x175.updIn hU195 (in2a gr gc)
   have m202 : Blk w194 gc #[sv, J (((setOff (atP (atP (setIdx (setLoc (knownP L locsX (markP L [91] s)).1 ((knownP L locsX (markP L [91] s)).2)) (-1)) ((setIdx (setLoc (knownP L locsX (markP L [91] s)).1 ((knownP L locsX (markP L [91] s)).2)) (-1)).p + 1)) (nbQ L (atP (setIdx (setLoc (knownP L locsX (markP L [91] s)).1 ((knownP L locsX (markP L [91] s)).2)) (-1)) ((setIdx (setLoc (knownP L locsX (markP L [91] s)).1 ((knownP L locsX (markP L [91] s)).2)) (-1)).p + 1)).p)) (nbV L (atP (setIdx (setLoc (knownP L locsX (markP L [91] s)).1 ((knownP L locsX (markP L [91] s)).2)) (-1)) ((setIdx (setLoc (knownP L locsX (markP L [91] s)).1 ((knownP L locsX (markP L [91] s)).2)) (-1)).p + 1)).p)).p : Nat) : Int)] 132 := m197
   have hp203 : (setOff (atP (atP (setIdx (setLoc (knownP L locsX (markP L [91] s)).1 ((knownP L locsX (markP L [91] s)).2)) (-1)) ((setIdx (setLoc (knownP L locsX (markP L [91] s)).1 ((knownP L locsX (markP L [91] s)).2)) (-1)).p + 1)) (nbQ L (atP (setIdx (setLoc (knownP L locsX (markP L [91] s)).1 ((knownP L locsX (markP L [91] s)).2)) (-1)) ((setIdx (setLoc (knownP L locsX (markP L [91] s)).1 ((knownP L locsX (markP L [91] s)).2)) (-1)).p + 1)).p)) (nbV L (atP (setIdx (setLoc (knownP L locsX (markP L [91] s)).1 ((knownP L locsX (markP L [91] s)).2)) (-1)) ((setIdx (setLoc (knownP L locsX (markP L [91] s)).1 ((knownP L locsX (markP L [91] s)).2)) (-1)).p + 1)).p)).p ≤ L.length := hp181
   intro _ A
   refine qt_<|wr_<|Z 2 A rfl λ A=>F1 A rfl fo86_1 λ A=>qs A rfl (dld (v := (.pointer (some ⟨gc, 0, none⟩))) (wn rfl) (A.ev rfl) one83 (m196.cell rfl) λ _ A=>qs A rfl (d_slice1 (wn rfl) (A.ev rfl) elm76 rfl (by decide) λ g214 w215 eg216 hG217 (m218 : Blk w215 g214 #[.string (S [43])] 9)=>?_))
   have ge219 : Bd ≤ g214 := eg216 ▸ (nt_ hB b200.size)
   have n220 := nn_ eg216 m196
   have n221 := nn_ eg216 m202
   have n222 := nn_ eg216 m198
   have n223 := nn_ eg216 m199
   have gx224 : w.heap.size ≤ g214 := eg216 ▸ x201.size
   have m225 := m196.grow hG217
   have m226 := m202.grow hG217
   have m227 := m198.grow hG217
   have m228 := m199.grow hG217
   have b229 := blg b200 hG217 (nt_ hB b200.size)
   have x230 := x201.grow hG217
   intro _ A
   rcases eb_ (reads L [43] (setOff (atP (atP (setIdx (setLoc (knownP L locsX (markP L [91] s)).1 ((knownP L locsX (markP L [91] s)).2)) (-1)) ((setIdx (setLoc (knownP L locsX (markP L [91] s)).1 ((knownP L locsX (markP L [91] s)).2)) (-1)).p + 1)) (nbQ L (atP (setIdx (setLoc (knownP L locsX (markP L [91] s)).1 ((knownP L locsX (markP L [91] s)).2)) (-1)) ((setIdx (setLoc (knownP L locsX (markP L [91] s)).1 ((knownP L locsX (markP L [91] s)).2)) (-1)).p + 1)).p)) (nbV L (atP (setIdx (setLoc (knownP L locsX (markP L [91] s)).1 ((knownP L locsX (markP L [91] s)).2)) (-1)) ((setIdx (setLoc (knownP L locsX (markP L [91] s)).1 ((knownP L locsX (markP L [91] s)).2)) (-1)).p + 1)).p)).p) with hb233 | hb233
   ·skip
    have hrl := reads_lt hb233
    have hrl := reads_lt hb233
    refine C A rfl ent145 (take_y Bd gc ((setOff (atP (atP (setIdx (setLoc (knownP L locsX (markP L [91] s)).1 ((knownP L locsX (markP L [91] s)).2)) (-1)) ((setIdx (setLoc (knownP L locsX (markP L [91] s)).1 ((knownP L locsX (markP L [91] s)).2)) (-1)).p + 1)) (nbQ L (atP (setIdx (setLoc (knownP L locsX (markP L [91] s)).1 ((knownP L locsX (markP L [91] s)).2)) (-1)) ((setIdx (setLoc (knownP L locsX (markP L [91] s)).1 ((knownP L locsX (markP L [91] s)).2)) (-1)).p + 1)).p)) (nbV L (atP (setIdx (setLoc (knownP L locsX (markP L [91] s)).1 ((knownP L locsX (markP L [91] s)).2)) (-1)) ((setIdx (setLoc (knownP L locsX (markP L [91] s)).1 ((knownP L locsX (markP L [91] s)).2)) (-1)).p + 1)).p)).p) sv L (.slice (some ⟨g214, 0, none⟩) 1 1) [43] w215 (nt_ hB b229.size) hBc m226 (hSl.below b229) hp203 hL hb233 (sl_lit (l := [[43]]) m218 rfl rfl) (own_ne (Ne.symm n221))) ?_
    rintro e238 w235 ⟨he237, hX240, m241⟩
    have m242 := m225.mix hX240 (nin1 hne)
    have m243 := m227.mix hX240 (nin1 (Ne.symm n30))
    have m244 := m228.mix hX240 (nin1 (Ne.symm n102))
    have m245 := m218.mix hX240 (nin1 (Ne.symm n221))
    have x246 := x230.mix hX240 (λ k hk hc => nin1 (two_b hc))
    have b247 := hX240.below b229 (nt_ hB b229.size) (lows1 hBc)
    refine ⟨(.bool true), he237, λ _ A=>?_⟩
    have m250 : Blk w235 gr (rdP lg gc (atP (setOff (atP (atP (setIdx (setLoc (knownP L locsX (markP L [91] s)).1 ((knownP L locsX (markP L [91] s)).2)) (-1)) ((setIdx (setLoc (knownP L locsX (markP L [91] s)).1 ((knownP L locsX (markP L [91] s)).2)) (-1)).p + 1)) (nbQ L (atP (setIdx (setLoc (knownP L locsX (markP L [91] s)).1 ((knownP L locsX (markP L [91] s)).2)) (-1)) ((setIdx (setLoc (knownP L locsX (markP L [91] s)).1 ((knownP L locsX (markP L [91] s)).2)) (-1)).p + 1)).p)) (nbV L (atP (setIdx (setLoc (knownP L locsX (markP L [91] s)).1 ((knownP L locsX (markP L [91] s)).2)) (-1)) ((setIdx (setLoc (knownP L locsX (markP L [91] s)).1 ((knownP L locsX (markP L [91] s)).2)) (-1)).p + 1)).p)) ((setOff (atP (atP (setIdx (setLoc (knownP L locsX (markP L [91] s)).1 ((knownP L locsX (markP L [91] s)).2)) (-1)) ((setIdx (setLoc (knownP L locsX (markP L [91] s)).1 ((knownP L locsX (markP L [91] s)).2)) (-1)).p + 1)) (nbQ L (atP (setIdx (setLoc (knownP L locsX (markP L [91] s)).1 ((knownP L locsX (markP L [91] s)).2)) (-1)) ((setIdx (setLoc (knownP L locsX (markP L [91] s)).1 ((knownP L locsX (markP L [91] s)).2)) (-1)).p + 1)).p)) (nbV L (atP (setIdx (setLoc (knownP L locsX (markP L [91] s)).1 ((knownP L locsX (markP L [91] s)).2)) (-1)) ((setIdx (setLoc (knownP L locsX (markP L [91] s)).1 ((knownP L locsX (markP L [91] s)).2)) (-1)).p + 1)).p)).p + 1))) 86 := m242
    have m251 : Blk w235 gc #[sv, J (((atP (setOff (atP (atP (setIdx (setLoc (knownP L locsX (markP L [91] s)).1 ((knownP L locsX (markP L [91] s)).2)) (-1)) ((setIdx (setLoc (knownP L locsX (markP L [91] s)).1 ((knownP L locsX (markP L [91] s)).2)) (-1)).p + 1)) (nbQ L (atP (setIdx (setLoc (knownP L locsX (markP L [91] s)).1 ((knownP L locsX (markP L [91] s)).2)) (-1)) ((setIdx (setLoc (knownP L locsX (markP L [91] s)).1 ((knownP L locsX (markP L [91] s)).2)) (-1)).p + 1)).p)) (nbV L (atP (setIdx (setLoc (knownP L locsX (markP L [91] s)).1 ((knownP L locsX (markP L [91] s)).2)) (-1)) ((setIdx (setLoc (knownP L locsX (markP L [91] s)).1 ((knownP L locsX (markP L [91] s)).2)) (-1)).p + 1)).p)) ((setOff (atP (atP (setIdx (setLoc (knownP L locsX (markP L [91] s)).1 ((knownP L locsX (markP L [91] s)).2)) (-1)) ((setIdx (setLoc (knownP L locsX (markP L [91] s)).1 ((knownP L locsX (markP L [91] s)).2)) (-1)).p + 1)) (nbQ L (atP (setIdx (setLoc (knownP L locsX (markP L [91] s)).1 ((knownP L locsX (markP L [91] s)).2)) (-1)) ((setIdx (setLoc (knownP L locsX (markP L [91] s)).1 ((knownP L locsX (markP L [91] s)).2)) (-1)).p + 1)).p)) (nbV L (atP (setIdx (setLoc (knownP L locsX (markP L [91] s)).1 ((knownP L locsX (markP L [91] s)).2)) (-1)) ((setIdx (setLoc (knownP L locsX (markP L [91] s)).1 ((knownP L locsX (markP L [91] s)).2)) (-1)).p + 1)).p)).p + 1)).p : Nat) : Int)] 132 := m241
    have hp252 : (atP (setOff (atP (atP (setIdx (setLoc (knownP L locsX (markP L [91] s)).1 ((knownP L locsX (markP L [91] s)).2)) (-1)) ((setIdx (setLoc (knownP L locsX (markP L [91] s)).1 ((knownP L locsX (markP L [91] s)).2)) (-1)).p + 1)) (nbQ L (atP (setIdx (setLoc (knownP L locsX (markP L [91] s)).1 ((knownP L locsX (markP L [91] s)).2)) (-1)) ((setIdx (setLoc (knownP L locsX (markP L [91] s)).1 ((knownP L locsX (markP L [91] s)).2)) (-1)).p + 1)).p)) (nbV L (atP (setIdx (setLoc (knownP L locsX (markP L [91] s)).1 ((knownP L locsX (markP L [91] s)).2)) (-1)) ((setIdx (setLoc (knownP L locsX (markP L [91] s)).1 ((knownP L locsX (markP L [91] s)).2)) (-1)).p + 1)).p)) ((setOff (atP (atP (setIdx (setLoc (knownP L locsX (markP L [91] s)).1 ((knownP L locsX (markP L [91] s)).2)) (-1)) ((setIdx (setLoc (knownP L locsX (markP L [91] s)).1 ((knownP L locsX (markP L [91] s)).2)) (-1)).p + 1)) (nbQ L (atP (setIdx (setLoc (knownP L locsX (markP L [91] s)).1 ((knownP L locsX (markP L [91] s)).2)) (-1)) ((setIdx (setLoc (knownP L locsX (markP L [91] s)).1 ((knownP L locsX (markP L [91] s)).2)) (-1)).p + 1)).p)) (nbV L (atP (setIdx (setLoc (knownP L locsX (markP L [91] s)).1 ((knownP L locsX (markP L [91] s)).2)) (-1)) ((setIdx (setLoc (knownP L locsX (markP L [91] s)).1 ((knownP L locsX (markP L [91] s)).2)) (-1)).p + 1)).p)).p + 1)).p ≤ L.length := show (setOff (atP (atP (setIdx (setLoc (knownP L locsX (markP L [91] s)).1 ((knownP L locsX (markP L [91] s)).2)) (-1)) ((setIdx (setLoc (knownP L locsX (markP L [91] s)).1 ((knownP L locsX (markP L [91] s)).2)) (-1)).p + 1)) (nbQ L (atP (setIdx (setLoc (knownP L locsX (markP L [91] s)).1 ((knownP L locsX (markP L [91] s)).2)) (-1)) ((setIdx (setLoc (knownP L locsX (markP L [91] s)).1 ((knownP L locsX (markP L [91] s)).2)) (-1)).p + 1)).p)) (nbV L (atP (setIdx (setLoc (knownP L locsX (markP L [91] s)).1 ((knownP L locsX (markP L [91] s)).2)) (-1)) ((setIdx (setLoc (knownP L locsX (markP L [91] s)).1 ((knownP L locsX (markP L [91] s)).2)) (-1)).p + 1)).p)).p + 1 ≤ L.length by omega
    refine Z 1 A rfl λ A=>qt_<|ws_<|sw_<|Z 1 A rfl λ A=>qt_<|ct_ A rfl<|wr_<|Z 2 A rfl λ A=>C A rfl ent149 (preg_any Bd gr gc lg (atP (setOff (atP (atP (setIdx (setLoc (knownP L locsX (markP L [91] s)).1 ((knownP L locsX (markP L [91] s)).2)) (-1)) ((setIdx (setLoc (knownP L locsX (markP L [91] s)).1 ((knownP L locsX (markP L [91] s)).2)) (-1)).p + 1)) (nbQ L (atP (setIdx (setLoc (knownP L locsX (markP L [91] s)).1 ((knownP L locsX (markP L [91] s)).2)) (-1)) ((setIdx (setLoc (knownP L locsX (markP L [91] s)).1 ((knownP L locsX (markP L [91] s)).2)) (-1)).p + 1)).p)) (nbV L (atP (setIdx (setLoc (knownP L locsX (markP L [91] s)).1 ((knownP L locsX (markP L [91] s)).2)) (-1)) ((setIdx (setLoc (knownP L locsX (markP L [91] s)).1 ((knownP L locsX (markP L [91] s)).2)) (-1)).p + 1)).p)) ((setOff (atP (atP (setIdx (setLoc (knownP L locsX (markP L [91] s)).1 ((knownP L locsX (markP L [91] s)).2)) (-1)) ((setIdx (setLoc (knownP L locsX (markP L [91] s)).1 ((knownP L locsX (markP L [91] s)).2)) (-1)).p + 1)) (nbQ L (atP (setIdx (setLoc (knownP L locsX (markP L [91] s)).1 ((knownP L locsX (markP L [91] s)).2)) (-1)) ((setIdx (setLoc (knownP L locsX (markP L [91] s)).1 ((knownP L locsX (markP L [91] s)).2)) (-1)).p + 1)).p)) (nbV L (atP (setIdx (setLoc (knownP L locsX (markP L [91] s)).1 ((knownP L locsX (markP L [91] s)).2)) (-1)) ((setIdx (setLoc (knownP L locsX (markP L [91] s)).1 ((knownP L locsX (markP L [91] s)).2)) (-1)).p + 1)).p)).p + 1)) sv L w235 (nt_ hB b247.size) hBr hBc hne m250 m251 (hSl.below b247) hp252 hL) ?_
    rintro e264 w261 ⟨he263, hX266, m267, m268, hp265⟩
    have m269 := m243.mix hX266 (nin2 (Ne.symm n29) (Ne.symm n30))
    have m270 := m244.mix hX266 (nin2 (Ne.symm n101) (Ne.symm n102))
    have m271 := m245.mix hX266 (nin2 (Ne.symm n220) (Ne.symm n221))
    have x272 := x246.mix hX266 (λ k hk hc => nin2 (two_a hc) (two_b hc))
    have b273 := hX266.below b247 (nt_ hB b247.size) (lows2 hBr hBc)
    refine ⟨(J ((knownP L lg.regs (atP (setOff (atP (atP (setIdx (setLoc (knownP L locsX (markP L [91] s)).1 ((knownP L locsX (markP L [91] s)).2)) (-1)) ((setIdx (setLoc (knownP L locsX (markP L [91] s)).1 ((knownP L locsX (markP L [91] s)).2)) (-1)).p + 1)) (nbQ L (atP (setIdx (setLoc (knownP L locsX (markP L [91] s)).1 ((knownP L locsX (markP L [91] s)).2)) (-1)) ((setIdx (setLoc (knownP L locsX (markP L [91] s)).1 ((knownP L locsX (markP L [91] s)).2)) (-1)).p + 1)).p)) (nbV L (atP (setIdx (setLoc (knownP L locsX (markP L [91] s)).1 ((knownP L locsX (markP L [91] s)).2)) (-1)) ((setIdx (setLoc (knownP L locsX (markP L [91] s)).1 ((knownP L locsX (markP L [91] s)).2)) (-1)).p + 1)).p)) ((setOff (atP (atP (setIdx (setLoc (knownP L locsX (markP L [91] s)).1 ((knownP L locsX (markP L [91] s)).2)) (-1)) ((setIdx (setLoc (knownP L locsX (markP L [91] s)).1 ((knownP L locsX (markP L [91] s)).2)) (-1)).p + 1)) (nbQ L (atP (setIdx (setLoc (knownP L locsX (markP L [91] s)).1 ((knownP L locsX (markP L [91] s)).2)) (-1)) ((setIdx (setLoc (knownP L locsX (markP L [91] s)).1 ((knownP L locsX (markP L [91] s)).2)) (-1)).p + 1)).p)) (nbV L (atP (setIdx (setLoc (knownP L locsX (markP L [91] s)).1 ((knownP L locsX (markP L [91] s)).2)) (-1)) ((setIdx (setLoc (knownP L locsX (markP L [91] s)).1 ((knownP L locsX (markP L [91] s)).2)) (-1)).p + 1)).p)).p + 1))).2)), he263, λ _ A=>Z 1 A rfl λ A=>F1 A rfl fo86_2 λ A=>F1 A rfl fo30_7 λ A=>qs A rfl (dst_ (wn rfl) (A.ev rfl) (A.ev rfl) one3 rfl m267 (nb_ rfl) λ w282 hU283 (m284 : Blk w282 gr (rdP lg gc (setIdx (knownP L lg.regs (atP (setOff (atP (atP (setIdx (setLoc (knownP L locsX (markP L [91] s)).1 ((knownP L locsX (markP L [91] s)).2)) (-1)) ((setIdx (setLoc (knownP L locsX (markP L [91] s)).1 ((knownP L locsX (markP L [91] s)).2)) (-1)).p + 1)) (nbQ L (atP (setIdx (setLoc (knownP L locsX (markP L [91] s)).1 ((knownP L locsX (markP L [91] s)).2)) (-1)) ((setIdx (setLoc (knownP L locsX (markP L [91] s)).1 ((knownP L locsX (markP L [91] s)).2)) (-1)).p + 1)).p)) (nbV L (atP (setIdx (setLoc (knownP L locsX (markP L [91] s)).1 ((knownP L locsX (markP L [91] s)).2)) (-1)) ((setIdx (setLoc (knownP L locsX (markP L [91] s)).1 ((knownP L locsX (markP L [91] s)).2)) (-1)).p + 1)).p)) ((setOff (atP (atP (setIdx (setLoc (knownP L locsX (markP L [91] s)).1 ((knownP L locsX (markP L [91] s)).2)) (-1)) ((setIdx (setLoc (knownP L locsX (markP L [91] s)).1 ((knownP L locsX (markP L [91] s)).2)) (-1)).p + 1)) (nbQ L (atP (setIdx (setLoc (knownP L locsX (markP L [91] s)).1 ((knownP L locsX (markP L [91] s)).2)) (-1)) ((setIdx (setLoc (knownP L locsX (markP L [91] s)).1 ((knownP L locsX (markP L [91] s)).2)) (-1)).p + 1)).p)) (nbV L (atP (setIdx (setLoc (knownP L locsX (markP L [91] s)).1 ((knownP L locsX (markP L [91] s)).2)) (-1)) ((setIdx (setLoc (knownP L locsX (markP L [91] s)).1 ((knownP L locsX (markP L [91] s)).2)) (-1)).p + 1)).p)).p + 1))).1 ((knownP L lg.regs (atP (setOff (atP (atP (setIdx (setLoc (knownP L locsX (markP L [91] s)).1 ((knownP L locsX (markP L [91] s)).2)) (-1)) ((setIdx (setLoc (knownP L locsX (markP L [91] s)).1 ((knownP L locsX (markP L [91] s)).2)) (-1)).p + 1)) (nbQ L (atP (setIdx (setLoc (knownP L locsX (markP L [91] s)).1 ((knownP L locsX (markP L [91] s)).2)) (-1)) ((setIdx (setLoc (knownP L locsX (markP L [91] s)).1 ((knownP L locsX (markP L [91] s)).2)) (-1)).p + 1)).p)) (nbV L (atP (setIdx (setLoc (knownP L locsX (markP L [91] s)).1 ((knownP L locsX (markP L [91] s)).2)) (-1)) ((setIdx (setLoc (knownP L locsX (markP L [91] s)).1 ((knownP L locsX (markP L [91] s)).2)) (-1)).p + 1)).p)) ((setOff (atP (atP (setIdx (setLoc (knownP L locsX (markP L [91] s)).1 ((knownP L locsX (markP L [91] s)).2)) (-1)) ((setIdx (setLoc (knownP L locsX (markP L [91] s)).1 ((knownP L locsX (markP L [91] s)).2)) (-1)).p + 1)) (nbQ L (atP (setIdx (setLoc (knownP L locsX (markP L [91] s)).1 ((knownP L locsX (markP L [91] s)).2)) (-1)) ((setIdx (setLoc (knownP L locsX (markP L [91] s)).1 ((knownP L locsX (markP L [91] s)).2)) (-1)).p + 1)).p)) (nbV L (atP (setIdx (setLoc (knownP L locsX (markP L [91] s)).1 ((knownP L locsX (markP L [91] s)).2)) (-1)) ((setIdx (setLoc (knownP L locsX (markP L [91] s)).1 ((knownP L locsX (markP L [91] s)).2)) (-1)).p + 1)).p)).p + 1))).2))) 86)=>?_)⟩
    have m285 := m268.upd hU283 (Ne.symm hne)
    have m286 := m269.upd hU283 (Ne.symm n29)
    have m287 := m270.upd hU283 (Ne.symm n101)
    have m288 := m271.upd hU283 (Ne.symm n220)
    have b289 := hU283.below b273 hBr
    have x290 := x272.updIn hU283 (in2a gr gc)
    have m291 : Blk w282 gc #[sv, J (((setIdx (knownP L lg.regs (atP (setOff (atP (atP (setIdx (setLoc (knownP L locsX (markP L [91] s)).1 ((knownP L locsX (markP L [91] s)).2)) (-1)) ((setIdx (setLoc (knownP L locsX (markP L [91] s)).1 ((knownP L locsX (markP L [91] s)).2)) (-1)).p + 1)) (nbQ L (atP (setIdx (setLoc (knownP L locsX (markP L [91] s)).1 ((knownP L locsX (markP L [91] s)).2)) (-1)) ((setIdx (setLoc (knownP L locsX (markP L [91] s)).1 ((knownP L locsX (markP L [91] s)).2)) (-1)).p + 1)).p)) (nbV L (atP (setIdx (setLoc (knownP L locsX (markP L [91] s)).1 ((knownP L locsX (markP L [91] s)).2)) (-1)) ((setIdx (setLoc (knownP L locsX (markP L [91] s)).1 ((knownP L locsX (markP L [91] s)).2)) (-1)).p + 1)).p)) ((setOff (atP (atP (setIdx (setLoc (knownP L locsX (markP L [91] s)).1 ((knownP L locsX (markP L [91] s)).2)) (-1)) ((setIdx (setLoc (knownP L locsX (markP L [91] s)).1 ((knownP L locsX (markP L [91] s)).2)) (-1)).p + 1)) (nbQ L (atP (setIdx (setLoc (knownP L locsX (markP L [91] s)).1 ((knownP L locsX (markP L [91] s)).2)) (-1)) ((setIdx (setLoc (knownP L locsX (markP L [91] s)).1 ((knownP L locsX (markP L [91] s)).2)) (-1)).p + 1)).p)) (nbV L (atP (setIdx (setLoc (knownP L locsX (markP L [91] s)).1 ((knownP L locsX (markP L [91] s)).2)) (-1)) ((setIdx (setLoc (knownP L locsX (markP L [91] s)).1 ((knownP L locsX (markP L [91] s)).2)) (-1)).p + 1)).p)).p + 1))).1 ((knownP L lg.regs (atP (setOff (atP (atP (setIdx (setLoc (knownP L locsX (markP L [91] s)).1 ((knownP L locsX (markP L [91] s)).2)) (-1)) ((setIdx (setLoc (knownP L locsX (markP L [91] s)).1 ((knownP L locsX (markP L [91] s)).2)) (-1)).p + 1)) (nbQ L (atP (setIdx (setLoc (knownP L locsX (markP L [91] s)).1 ((knownP L locsX (markP L [91] s)).2)) (-1)) ((setIdx (setLoc (knownP L locsX (markP L [91] s)).1 ((knownP L locsX (markP L [91] s)).2)) (-1)).p + 1)).p)) (nbV L (atP (setIdx (setLoc (knownP L locsX (markP L [91] s)).1 ((knownP L locsX (markP L [91] s)).2)) (-1)) ((setIdx (setLoc (knownP L locsX (markP L [91] s)).1 ((knownP L locsX (markP L [91] s)).2)) (-1)).p + 1)).p)) ((setOff (atP (atP (setIdx (setLoc (knownP L locsX (markP L [91] s)).1 ((knownP L locsX (markP L [91] s)).2)) (-1)) ((setIdx (setLoc (knownP L locsX (markP L [91] s)).1 ((knownP L locsX (markP L [91] s)).2)) (-1)).p + 1)) (nbQ L (atP (setIdx (setLoc (knownP L locsX (markP L [91] s)).1 ((knownP L locsX (markP L [91] s)).2)) (-1)) ((setIdx (setLoc (knownP L locsX (markP L [91] s)).1 ((knownP L locsX (markP L [91] s)).2)) (-1)).p + 1)).p)) (nbV L (atP (setIdx (setLoc (knownP L locsX (markP L [91] s)).1 ((knownP L locsX (markP L [91] s)).2)) (-1)) ((setIdx (setLoc (knownP L locsX (markP L [91] s)).1 ((knownP L locsX (markP L [91] s)).2)) (-1)).p + 1)).p)).p + 1))).2)).p : Nat) : Int)] 132 := m285
    have hp292 : (setIdx (knownP L lg.regs (atP (setOff (atP (atP (setIdx (setLoc (knownP L locsX (markP L [91] s)).1 ((knownP L locsX (markP L [91] s)).2)) (-1)) ((setIdx (setLoc (knownP L locsX (markP L [91] s)).1 ((knownP L locsX (markP L [91] s)).2)) (-1)).p + 1)) (nbQ L (atP (setIdx (setLoc (knownP L locsX (markP L [91] s)).1 ((knownP L locsX (markP L [91] s)).2)) (-1)) ((setIdx (setLoc (knownP L locsX (markP L [91] s)).1 ((knownP L locsX (markP L [91] s)).2)) (-1)).p + 1)).p)) (nbV L (atP (setIdx (setLoc (knownP L locsX (markP L [91] s)).1 ((knownP L locsX (markP L [91] s)).2)) (-1)) ((setIdx (setLoc (knownP L locsX (markP L [91] s)).1 ((knownP L locsX (markP L [91] s)).2)) (-1)).p + 1)).p)) ((setOff (atP (atP (setIdx (setLoc (knownP L locsX (markP L [91] s)).1 ((knownP L locsX (markP L [91] s)).2)) (-1)) ((setIdx (setLoc (knownP L locsX (markP L [91] s)).1 ((knownP L locsX (markP L [91] s)).2)) (-1)).p + 1)) (nbQ L (atP (setIdx (setLoc (knownP L locsX (markP L [91] s)).1 ((knownP L locsX (markP L [91] s)).2)) (-1)) ((setIdx (setLoc (knownP L locsX (markP L [91] s)).1 ((knownP L locsX (markP L [91] s)).2)) (-1)).p + 1)).p)) (nbV L (atP (setIdx (setLoc (knownP L locsX (markP L [91] s)).1 ((knownP L locsX (markP L [91] s)).2)) (-1)) ((setIdx (setLoc (knownP L locsX (markP L [91] s)).1 ((knownP L locsX (markP L [91] s)).2)) (-1)).p + 1)).p)).p + 1))).1 ((knownP L lg.regs (atP (setOff (atP (atP (setIdx (setLoc (knownP L locsX (markP L [91] s)).1 ((knownP L locsX (markP L [91] s)).2)) (-1)) ((setIdx (setLoc (knownP L locsX (markP L [91] s)).1 ((knownP L locsX (markP L [91] s)).2)) (-1)).p + 1)) (nbQ L (atP (setIdx (setLoc (knownP L locsX (markP L [91] s)).1 ((knownP L locsX (markP L [91] s)).2)) (-1)) ((setIdx (setLoc (knownP L locsX (markP L [91] s)).1 ((knownP L locsX (markP L [91] s)).2)) (-1)).p + 1)).p)) (nbV L (atP (setIdx (setLoc (knownP L locsX (markP L [91] s)).1 ((knownP L locsX (markP L [91] s)).2)) (-1)) ((setIdx (setLoc (knownP L locsX (markP L [91] s)).1 ((knownP L locsX (markP L [91] s)).2)) (-1)).p + 1)).p)) ((setOff (atP (atP (setIdx (setLoc (knownP L locsX (markP L [91] s)).1 ((knownP L locsX (markP L [91] s)).2)) (-1)) ((setIdx (setLoc (knownP L locsX (markP L [91] s)).1 ((knownP L locsX (markP L [91] s)).2)) (-1)).p + 1)) (nbQ L (atP (setIdx (setLoc (knownP L locsX (markP L [91] s)).1 ((knownP L locsX (markP L [91] s)).2)) (-1)) ((setIdx (setLoc (knownP L locsX (markP L [91] s)).1 ((knownP L locsX (markP L [91] s)).2)) (-1)).p + 1)).p)) (nbV L (atP (setIdx (setLoc (knownP L locsX (markP L [91] s)).1 ((knownP L locsX (markP L [91] s)).2)) (-1)) ((setIdx (setLoc (knownP L locsX (markP L [91] s)).1 ((knownP L locsX (markP L [91] s)).2)) (-1)).p + 1)).p)).p + 1))).2)).p ≤ L.length := hp265
    intro a293 A
    refine qe_ ?_
    have A : St 54 [(0, (.pointer (some ⟨gr, 0, none⟩)))] a293 := A.sub rfl
    refine tn_<|wr_<|Z 1 A rfl λ A=>C A rfl ent106 (pmark_any Bd gr gc lg (setIdx (knownP L lg.regs (atP (setOff (atP (atP (setIdx (setLoc (knownP L locsX (markP L [91] s)).1 ((knownP L locsX (markP L [91] s)).2)) (-1)) ((setIdx (setLoc (knownP L locsX (markP L [91] s)).1 ((knownP L locsX (markP L [91] s)).2)) (-1)).p + 1)) (nbQ L (atP (setIdx (setLoc (knownP L locsX (markP L [91] s)).1 ((knownP L locsX (markP L [91] s)).2)) (-1)) ((setIdx (setLoc (knownP L locsX (markP L [91] s)).1 ((knownP L locsX (markP L [91] s)).2)) (-1)).p + 1)).p)) (nbV L (atP (setIdx (setLoc (knownP L locsX (markP L [91] s)).1 ((knownP L locsX (markP L [91] s)).2)) (-1)) ((setIdx (setLoc (knownP L locsX (markP L [91] s)).1 ((knownP L locsX (markP L [91] s)).2)) (-1)).p + 1)).p)) ((setOff (atP (atP (setIdx (setLoc (knownP L locsX (markP L [91] s)).1 ((knownP L locsX (markP L [91] s)).2)) (-1)) ((setIdx (setLoc (knownP L locsX (markP L [91] s)).1 ((knownP L locsX (markP L [91] s)).2)) (-1)).p + 1)) (nbQ L (atP (setIdx (setLoc (knownP L locsX (markP L [91] s)).1 ((knownP L locsX (markP L [91] s)).2)) (-1)) ((setIdx (setLoc (knownP L locsX (markP L [91] s)).1 ((knownP L locsX (markP L [91] s)).2)) (-1)).p + 1)).p)) (nbV L (atP (setIdx (setLoc (knownP L locsX (markP L [91] s)).1 ((knownP L locsX (markP L [91] s)).2)) (-1)) ((setIdx (setLoc (knownP L locsX (markP L [91] s)).1 ((knownP L locsX (markP L [91] s)).2)) (-1)).p + 1)).p)).p + 1))).1 ((knownP L lg.regs (atP (setOff (atP (atP (setIdx (setLoc (knownP L locsX (markP L [91] s)).1 ((knownP L locsX (markP L [91] s)).2)) (-1)) ((setIdx (setLoc (knownP L locsX (markP L [91] s)).1 ((knownP L locsX (markP L [91] s)).2)) (-1)).p + 1)) (nbQ L (atP (setIdx (setLoc (knownP L locsX (markP L [91] s)).1 ((knownP L locsX (markP L [91] s)).2)) (-1)) ((setIdx (setLoc (knownP L locsX (markP L [91] s)).1 ((knownP L locsX (markP L [91] s)).2)) (-1)).p + 1)).p)) (nbV L (atP (setIdx (setLoc (knownP L locsX (markP L [91] s)).1 ((knownP L locsX (markP L [91] s)).2)) (-1)) ((setIdx (setLoc (knownP L locsX (markP L [91] s)).1 ((knownP L locsX (markP L [91] s)).2)) (-1)).p + 1)).p)) ((setOff (atP (atP (setIdx (setLoc (knownP L locsX (markP L [91] s)).1 ((knownP L locsX (markP L [91] s)).2)) (-1)) ((setIdx (setLoc (knownP L locsX (markP L [91] s)).1 ((knownP L locsX (markP L [91] s)).2)) (-1)).p + 1)) (nbQ L (atP (setIdx (setLoc (knownP L locsX (markP L [91] s)).1 ((knownP L locsX (markP L [91] s)).2)) (-1)) ((setIdx (setLoc (knownP L locsX (markP L [91] s)).1 ((knownP L locsX (markP L [91] s)).2)) (-1)).p + 1)).p)) (nbV L (atP (setIdx (setLoc (knownP L locsX (markP L [91] s)).1 ((knownP L locsX (markP L [91] s)).2)) (-1)) ((setIdx (setLoc (knownP L locsX (markP L [91] s)).1 ((knownP L locsX (markP L [91] s)).2)) (-1)).p + 1)).p)).p + 1))).2)) sv L [93] w282 (nt_ hB b289.size) hBr hBc hne m284 m291 (hSl.below b289) hp292 hL) ?_
    rintro e301 w298 ⟨he300, hX303, m304, m305, hp302⟩
    have m306 := m286.mix hX303 (nin2 (Ne.symm n29) (Ne.symm n30))
    have m307 := m287.mix hX303 (nin2 (Ne.symm n101) (Ne.symm n102))
    have m308 := m288.mix hX303 (nin2 (Ne.symm n220) (Ne.symm n221))
    have x309 := x290.mix hX303 (λ k hk hc => nin2 (two_a hc) (two_b hc))
    have b310 := hX303.below b289 (nt_ hB b289.size) (lows2 hBr hBc)
    refine ⟨(.tuple #[]), he300, λ _ A=>qe_<|end0 rfl A ?_⟩
    have hq313 : memP lg L s = (markP L [93] (setIdx (knownP L lg.regs (atP (setOff (atP (atP (setIdx (setLoc (knownP L locsX (markP L [91] s)).1 ((knownP L locsX (markP L [91] s)).2)) (-1)) ((setIdx (setLoc (knownP L locsX (markP L [91] s)).1 ((knownP L locsX (markP L [91] s)).2)) (-1)).p + 1)) (nbQ L (atP (setIdx (setLoc (knownP L locsX (markP L [91] s)).1 ((knownP L locsX (markP L [91] s)).2)) (-1)) ((setIdx (setLoc (knownP L locsX (markP L [91] s)).1 ((knownP L locsX (markP L [91] s)).2)) (-1)).p + 1)).p)) (nbV L (atP (setIdx (setLoc (knownP L locsX (markP L [91] s)).1 ((knownP L locsX (markP L [91] s)).2)) (-1)) ((setIdx (setLoc (knownP L locsX (markP L [91] s)).1 ((knownP L locsX (markP L [91] s)).2)) (-1)).p + 1)).p)) ((setOff (atP (atP (setIdx (setLoc (knownP L locsX (markP L [91] s)).1 ((knownP L locsX (markP L [91] s)).2)) (-1)) ((setIdx (setLoc (knownP L locsX (markP L [91] s)).1 ((knownP L locsX (markP L [91] s)).2)) (-1)).p + 1)) (nbQ L (atP (setIdx (setLoc (knownP L locsX (markP L [91] s)).1 ((knownP L locsX (markP L [91] s)).2)) (-1)) ((setIdx (setLoc (knownP L locsX (markP L [91] s)).1 ((knownP L locsX (markP L [91] s)).2)) (-1)).p + 1)).p)) (nbV L (atP (setIdx (setLoc (knownP L locsX (markP L [91] s)).1 ((knownP L locsX (markP L [91] s)).2)) (-1)) ((setIdx (setLoc (knownP L locsX (markP L [91] s)).1 ((knownP L locsX (markP L [91] s)).2)) (-1)).p + 1)).p)).p + 1))).1 ((knownP L lg.regs (atP (setOff (atP (atP (setIdx (setLoc (knownP L locsX (markP L [91] s)).1 ((knownP L locsX (markP L [91] s)).2)) (-1)) ((setIdx (setLoc (knownP L locsX (markP L [91] s)).1 ((knownP L locsX (markP L [91] s)).2)) (-1)).p + 1)) (nbQ L (atP (setIdx (setLoc (knownP L locsX (markP L [91] s)).1 ((knownP L locsX (markP L [91] s)).2)) (-1)) ((setIdx (setLoc (knownP L locsX (markP L [91] s)).1 ((knownP L locsX (markP L [91] s)).2)) (-1)).p + 1)).p)) (nbV L (atP (setIdx (setLoc (knownP L locsX (markP L [91] s)).1 ((knownP L locsX (markP L [91] s)).2)) (-1)) ((setIdx (setLoc (knownP L locsX (markP L [91] s)).1 ((knownP L locsX (markP L [91] s)).2)) (-1)).p + 1)).p)) ((setOff (atP (atP (setIdx (setLoc (knownP L locsX (markP L [91] s)).1 ((knownP L locsX (markP L [91] s)).2)) (-1)) ((setIdx (setLoc (knownP L locsX (markP L [91] s)).1 ((knownP L locsX (markP L [91] s)).2)) (-1)).p + 1)) (nbQ L (atP (setIdx (setLoc (knownP L locsX (markP L [91] s)).1 ((knownP L locsX (markP L [91] s)).2)) (-1)) ((setIdx (setLoc (knownP L locsX (markP L [91] s)).1 ((knownP L locsX (markP L [91] s)).2)) (-1)).p + 1)).p)) (nbV L (atP (setIdx (setLoc (knownP L locsX (markP L [91] s)).1 ((knownP L locsX (markP L [91] s)).2)) (-1)) ((setIdx (setLoc (knownP L locsX (markP L [91] s)).1 ((knownP L locsX (markP L [91] s)).2)) (-1)).p + 1)).p)).p + 1))).2))) := by simp only [memP, plusP, numOff, offP, idxP, mem0P, hb112, hb149, hb233, if_true, Bool.false_eq_true, if_false]
    rw [hq313]
    exact ⟨rfl, x309, m304, m305, hp302⟩
   refine C A rfl ent145 (take_n Bd gc ((setOff (atP (atP (setIdx (setLoc (knownP L locsX (markP L [91] s)).1 ((knownP L locsX (markP L [91] s)).2)) (-1)) ((setIdx (setLoc (knownP L locsX (markP L [91] s)).1 ((knownP L locsX (markP L [91] s)).2)) (-1)).p + 1)) (nbQ L (atP (setIdx (setLoc (knownP L locsX (markP L [91] s)).1 ((knownP L locsX (markP L [91] s)).2)) (-1)) ((setIdx (setLoc (knownP L locsX (markP L [91] s)).1 ((knownP L locsX (markP L [91] s)).2)) (-1)).p + 1)).p)) (nbV L (atP (setIdx (setLoc (knownP L locsX (markP L [91] s)).1 ((knownP L locsX (markP L [91] s)).2)) (-1)) ((setIdx (setLoc (knownP L locsX (markP L [91] s)).1 ((knownP L locsX (markP L [91] s)).2)) (-1)).p + 1)).p)).p) sv L (.slice (some ⟨g214, 0, none⟩) 1 1) [43] w215 (nt_ hB b229.size) hBc m226 (hSl.below b229) hp203 hL hb233 (sl_lit (l := [[43]]) m218 rfl rfl) (own_ne (Ne.symm n221))) ?_
   rintro e318 w315 ⟨he317, hG316⟩
   have m319 := m225.grow hG316
   have m320 := m226.grow hG316
   have m321 := m227.grow hG316
   have m322 := m228.grow hG316
   have m323 := m218.grow hG316
   have b324 := blg b229 hG316 (nt_ hB b229.size)
   have x325 := x230.grow hG316
   refine ⟨(.bool false), he317, λ _ A=>Z 1 A rfl λ A=>qt_<|ws_<|sw_<|Z 1 A rfl λ A=>qt_<|cf_ A rfl<|wk_<|tn_<|wr_ ?_⟩
   refine Z 1 A rfl λ A=>C A rfl ent106 (pmark_any Bd gr gc lg (setOff (atP (atP (setIdx (setLoc (knownP L locsX (markP L [91] s)).1 ((knownP L locsX (markP L [91] s)).2)) (-1)) ((setIdx (setLoc (knownP L locsX (markP L [91] s)).1 ((knownP L locsX (markP L [91] s)).2)) (-1)).p + 1)) (nbQ L (atP (setIdx (setLoc (knownP L locsX (markP L [91] s)).1 ((knownP L locsX (markP L [91] s)).2)) (-1)) ((setIdx (setLoc (knownP L locsX (markP L [91] s)).1 ((knownP L locsX (markP L [91] s)).2)) (-1)).p + 1)).p)) (nbV L (atP (setIdx (setLoc (knownP L locsX (markP L [91] s)).1 ((knownP L locsX (markP L [91] s)).2)) (-1)) ((setIdx (setLoc (knownP L locsX (markP L [91] s)).1 ((knownP L locsX (markP L [91] s)).2)) (-1)).p + 1)).p)) sv L [93] w315 (nt_ hB b324.size) hBr hBc hne m319 m320 (hSl.below b324) hp203 hL) ?_
   rintro e337 w334 ⟨he336, hX339, m340, m341, hp338⟩
   have m342 := m321.mix hX339 (nin2 (Ne.symm n29) (Ne.symm n30))
   have m343 := m322.mix hX339 (nin2 (Ne.symm n101) (Ne.symm n102))
   have m344 := m323.mix hX339 (nin2 (Ne.symm n220) (Ne.symm n221))
   have x345 := x325.mix hX339 (λ k hk hc => nin2 (two_a hc) (two_b hc))
   have b346 := hX339.below b324 (nt_ hB b324.size) (lows2 hBr hBc)
   refine ⟨(.tuple #[]), he336, λ a347 A=>qe_ ?_⟩
   have A : St 54 [] a347 := A.cut _ fn_
   refine end0 rfl A ?_
   have hq350 : memP lg L s = (markP L [93] (setOff (atP (atP (setIdx (setLoc (knownP L locsX (markP L [91] s)).1 ((knownP L locsX (markP L [91] s)).2)) (-1)) ((setIdx (setLoc (knownP L locsX (markP L [91] s)).1 ((knownP L locsX (markP L [91] s)).2)) (-1)).p + 1)) (nbQ L (atP (setIdx (setLoc (knownP L locsX (markP L [91] s)).1 ((knownP L locsX (markP L [91] s)).2)) (-1)) ((setIdx (setLoc (knownP L locsX (markP L [91] s)).1 ((knownP L locsX (markP L [91] s)).2)) (-1)).p + 1)).p)) (nbV L (atP (setIdx (setLoc (knownP L locsX (markP L [91] s)).1 ((knownP L locsX (markP L [91] s)).2)) (-1)) ((setIdx (setLoc (knownP L locsX (markP L [91] s)).1 ((knownP L locsX (markP L [91] s)).2)) (-1)).p + 1)).p))) := by simp only [memP, plusP, numOff, offP, idxP, mem0P, hb112, hb149, hb233, if_true, Bool.false_eq_true, if_false]
   rw [hq350]
   exact ⟨rfl, x345, m340, m341, hp338⟩
  refine ⟨.bool false, he141.trans (ret_bool hb149), λ _ A=>Z 1 A rfl λ A=>qt_<|cf_ A rfl<|wk_<|tn_<|ws_<|sw_<|Z 1 A rfl λ A=>qt_<|ct_ A rfl ?_⟩
  refine wr_<|Z 2 A rfl λ A=>C A rfl ent149 (preg_any Bd gr gc lg (atP (setIdx (setLoc (knownP L locsX (markP L [91] s)).1 ((knownP L locsX (markP L [91] s)).2)) (-1)) ((setIdx (setLoc (knownP L locsX (markP L [91] s)).1 ((knownP L locsX (markP L [91] s)).2)) (-1)).p + 1)) sv L w139 (nt_ hB b147.size) hBr hBc hne m143 m144 (hSl.below b147) hp130 hL) ?_
  rintro e365 w362 ⟨he364, hX367, m368, m369, hp366⟩
  have m370 := m145.mix hX367 (nin2 (Ne.symm n29) (Ne.symm n30))
  have m371 := m146.mix hX367 (nin2 (Ne.symm n101) (Ne.symm n102))
  have x372 := x148.mix hX367 (λ k hk hc => nin2 (two_a hc) (two_b hc))
  have b373 := hX367.below b147 (nt_ hB b147.size) (lows2 hBr hBc)
  refine ⟨(J ((knownP L lg.regs (atP (setIdx (setLoc (knownP L locsX (markP L [91] s)).1 ((knownP L locsX (markP L [91] s)).2)) (-1)) ((setIdx (setLoc (knownP L locsX (markP L [91] s)).1 ((knownP L locsX (markP L [91] s)).2)) (-1)).p + 1))).2)), he364, λ _ A=>Z 1 A rfl λ A=>F1 A rfl fo86_2 λ A=>F1 A rfl fo30_7 λ A=>qs A rfl (dst_ (wn rfl) (A.ev rfl) (A.ev rfl) one3 rfl m368 (nb_ rfl) λ w382 hU383 (m384 : Blk w382 gr (rdP lg gc (setIdx (knownP L lg.regs (atP (setIdx (setLoc (knownP L locsX (markP L [91] s)).1 ((knownP L locsX (markP L [91] s)).2)) (-1)) ((setIdx (setLoc (knownP L locsX (markP L [91] s)).1 ((knownP L locsX (markP L [91] s)).2)) (-1)).p + 1))).1 ((knownP L lg.regs (atP (setIdx (setLoc (knownP L locsX (markP L [91] s)).1 ((knownP L locsX (markP L [91] s)).2)) (-1)) ((setIdx (setLoc (knownP L locsX (markP L [91] s)).1 ((knownP L locsX (markP L [91] s)).2)) (-1)).p + 1))).2))) 86)=>?_)⟩
  have m385 := m369.upd hU383 (Ne.symm hne)
  have m386 := m370.upd hU383 (Ne.symm n29)
  have m387 := m371.upd hU383 (Ne.symm n101)
  have b388 := hU383.below b373 hBr
  have x389 := x372.updIn hU383 (in2a gr gc)
  have m390 : Blk w382 gc #[sv, J (((setIdx (knownP L lg.regs (atP (setIdx (setLoc (knownP L locsX (markP L [91] s)).1 ((knownP L locsX (markP L [91] s)).2)) (-1)) ((setIdx (setLoc (knownP L locsX (markP L [91] s)).1 ((knownP L locsX (markP L [91] s)).2)) (-1)).p + 1))).1 ((knownP L lg.regs (atP (setIdx (setLoc (knownP L locsX (markP L [91] s)).1 ((knownP L locsX (markP L [91] s)).2)) (-1)) ((setIdx (setLoc (knownP L locsX (markP L [91] s)).1 ((knownP L locsX (markP L [91] s)).2)) (-1)).p + 1))).2)).p : Nat) : Int)] 132 := m385
  have hp391 : (setIdx (knownP L lg.regs (atP (setIdx (setLoc (knownP L locsX (markP L [91] s)).1 ((knownP L locsX (markP L [91] s)).2)) (-1)) ((setIdx (setLoc (knownP L locsX (markP L [91] s)).1 ((knownP L locsX (markP L [91] s)).2)) (-1)).p + 1))).1 ((knownP L lg.regs (atP (setIdx (setLoc (knownP L locsX (markP L [91] s)).1 ((knownP L locsX (markP L [91] s)).2)) (-1)) ((setIdx (setLoc (knownP L locsX (markP L [91] s)).1 ((knownP L locsX (markP L [91] s)).2)) (-1)).p + 1))).2)).p ≤ L.length := hp366
  intro _ A
  refine qt_<|wr_<|Z 1 A rfl λ A=>C A rfl ent106 (pmark_any Bd gr gc lg (setIdx (knownP L lg.regs (atP (setIdx (setLoc (knownP L locsX (markP L [91] s)).1 ((knownP L locsX (markP L [91] s)).2)) (-1)) ((setIdx (setLoc (knownP L locsX (markP L [91] s)).1 ((knownP L locsX (markP L [91] s)).2)) (-1)).p + 1))).1 ((knownP L lg.regs (atP (setIdx (setLoc (knownP L locsX (markP L [91] s)).1 ((knownP L locsX (markP L [91] s)).2)) (-1)) ((setIdx (setLoc (knownP L locsX (markP L [91] s)).1 ((knownP L locsX (markP L [91] s)).2)) (-1)).p + 1))).2)) sv L [93] w382 (nt_ hB b388.size) hBr hBc hne m384 m390 (hSl.below b388) hp391 hL) ?_
  rintro e399 w396 ⟨he398, hX401, m402, m403, hp400⟩
  have m404 := m386.mix hX401 (nin2 (Ne.symm n29) (Ne.symm n30))
  have m405 := m387.mix hX401 (nin2 (Ne.symm n101) (Ne.symm n102))
  have x406 := x389.mix hX401 (λ k hk hc => nin2 (two_a hc) (two_b hc))
  have b407 := hX401.below b388 (nt_ hB b388.size) (lows2 hBr hBc)
  refine ⟨(.tuple #[]), he398, λ _ A=>qe_<|end0 rfl A ?_⟩
  have hq410 : memP lg L s = (markP L [93] (setIdx (knownP L lg.regs (atP (setIdx (setLoc (knownP L locsX (markP L [91] s)).1 ((knownP L locsX (markP L [91] s)).2)) (-1)) ((setIdx (setLoc (knownP L locsX (markP L [91] s)).1 ((knownP L locsX (markP L [91] s)).2)) (-1)).p + 1))).1 ((knownP L lg.regs (atP (setIdx (setLoc (knownP L locsX (markP L [91] s)).1 ((knownP L locsX (markP L [91] s)).2)) (-1)) ((setIdx (setLoc (knownP L locsX (markP L [91] s)).1 ((knownP L locsX (markP L [91] s)).2)) (-1)).p + 1))).2))) := by simp only [memP, plusP, numOff, offP, idxP, mem0P, hb112, hb149, if_true, Bool.false_eq_true, if_false]
  rw [hq410]
  exact ⟨rfl, x406, m402, m403, hp400⟩
 refine C A rfl ent145 (take_n Bd gc ((setIdx (setLoc (knownP L locsX (markP L [91] s)).1 ((knownP L locsX (markP L [91] s)).2)) (-1)).p) sv L (.slice (some ⟨g95, 0, none⟩) 1 1) [43] w96 (nt_ hB b108.size) hBc m106 (hSl.below b108) hp84 hL hb112 (sl_lit (l := [[43]]) m99 rfl rfl) (own_ne (Ne.symm n102))) ?_
 rintro e415 w412 ⟨he414, hG413⟩
 have m416 := m105.grow hG413
 have m417 := m106.grow hG413
 have m418 := m107.grow hG413
 have m419 := m99.grow hG413
 have b420 := blg b108 hG413 (nt_ hB b108.size)
 have x421 := x109.grow hG413
 refine ⟨(.bool false), he414, λ _ A=>Z 1 A rfl λ A=>qt_<|ws_<|sw_<|Z 5 A rfl λ A=>qt_<|cf_ A rfl<|wk_<|tn_<|ws_ ?_⟩
 refine sw_<|Z 1 A rfl λ A=>qt_<|cf_ A rfl<|wk_<|tn_<|wr_<|Z 1 A rfl λ A=>C A rfl ent106 (pmark_any Bd gr gc lg (setIdx (setLoc (knownP L locsX (markP L [91] s)).1 ((knownP L locsX (markP L [91] s)).2)) (-1)) sv L [93] w412 (nt_ hB b420.size) hBr hBc hne m416 m417 (hSl.below b420) hp84 hL) ?_
 rintro e443 w440 ⟨he442, hX445, m446, m447, hp444⟩
 have m448 := m418.mix hX445 (nin2 (Ne.symm n29) (Ne.symm n30))
 have m449 := m419.mix hX445 (nin2 (Ne.symm n101) (Ne.symm n102))
 have x450 := x421.mix hX445 (λ k hk hc => nin2 (two_a hc) (two_b hc))
 have b451 := hX445.below b420 (nt_ hB b420.size) (lows2 hBr hBc)
 refine ⟨(.tuple #[]), he442, λ _ A=>qe_<|end0 rfl A ?_⟩
 have hq454 : memP lg L s = (markP L [93] (setIdx (setLoc (knownP L locsX (markP L [91] s)).1 ((knownP L locsX (markP L [91] s)).2)) (-1))) := by simp only [memP, plusP, numOff, offP, idxP, mem0P, hb112, if_true, Bool.false_eq_true, if_false]
 rw [hq454]
 exact ⟨rfl, x450, m446, m447, hp444⟩
theorem ppart_any (Bd gr gc : Nat) (lg : Lg) (s : Ps) (sv : Value) (L : List Tk) (pt : Int) (w : World) (hB : Bd ≤ w.heap.size) (hBr : Bd ≤ gr) (hBc : Bd ≤ gc) (hne : gr ≠ gc) (hbr : Blk w gr (rdP lg gc s) 86) (hbc : Blk w gc #[sv, J ((s.p : Nat) : Int)] 132) (hSl : Sl tokE 4 Bd w sv L) (hp : s.p ≤ L.length) (hL : L.length ≤ 1000000) : Calls Tryz.prog 108 #[.pointer (some ⟨gr, 0, none⟩), J pt] w λ e w' => e = .returned (.tuple #[]) ∧ Mix [gr, gc] w w' ∧ Blk w' gr (rdP lg gc (partP lg L pt s)) 86 ∧ Blk w' gc #[sv, J ((((partP lg L pt s)).p : Nat) : Int)] 132 ∧ ((partP lg L pt s)).p ≤ L.length := by
 have x0 : Mix [gr, gc] w w := Mix.refl _ _
 have b0 : Below Bd w w := Below.refl _ _
 refine enter (n := 71) Tryz.func108 rfl rfl (nb_ rfl) λ _ A=>sw_<|Z 1 A rfl λ A=>qt_<|wp_block<|ws_<|sw_ ?_
 rcases eb_ (pt == 1) with hb5 | hb5
 ·skip
  have hq6 := eq_of_beq hb5
  refine B2 A rfl (bq hb5) λ A=>Z 1 A rfl λ A=>qt_<|ct_ A rfl<|wk_<|tn_<|ct_ A rfl<|wr_<|Z 2 A rfl λ A=>C A rfl ent149 (preg_any Bd gr gc lg s sv L w (nt_ hB b0.size) hBr hBc hne hbr hbc (hSl.below b0) hp hL) ?_
  rintro e18 w15 ⟨he17, hX20, m21, m22, hp19⟩
  have x23 := x0.mix hX20 (λ k hk hc => nin2 (two_a hc) (two_b hc))
  have b24 := hX20.below b0 (nt_ hB b0.size) (lows2 hBr hBc)
  refine ⟨(J ((knownP L lg.regs s).2)), he17, λ _ A=>Z 1 A rfl λ A=>F1 A rfl fo86_2 λ A=>F1 A rfl fo30_1 λ A=>qs A rfl (dst_ (wn rfl) (A.ev rfl) (A.ev rfl) one3 rfl m21 (nb_ rfl) λ w33 hU34 (m35 : Blk w33 gr (rdP lg gc (setDst (knownP L lg.regs s).1 ((knownP L lg.regs s).2))) 86)=>?_)⟩
  have m36 := m22.upd hU34 (Ne.symm hne)
  have b37 := hU34.below b24 hBr
  have x38 := x23.updIn hU34 (in2a gr gc)
  have m39 : Blk w33 gc #[sv, J (((setDst (knownP L lg.regs s).1 ((knownP L lg.regs s).2)).p : Nat) : Int)] 132 := m36
  have hp40 : (setDst (knownP L lg.regs s).1 ((knownP L lg.regs s).2)).p ≤ L.length := hp19
  intro _ A
  refine qe_<|i_norm<|end0 rfl A ?_
  have hq43 : partP lg L pt s = (setDst (knownP L lg.regs s).1 ((knownP L lg.regs s).2)) := by simp only [partP, labP, hb5, if_true, Bool.false_eq_true, if_false]
  rw [hq43]
  exact ⟨rfl, x38, m35, m39, hp40⟩
 have hq44 := ne_of_beq hb5
 refine B2 A rfl (bq hb5) λ A=>Z 1 A rfl λ A=>qt_<|cf_ A rfl<|wr_ ?_
 rcases eb_ (pt == 4) with hb49 | hb49
 ·skip
  have hq50 := eq_of_beq hb49
  refine B2 A rfl (bq hb49) λ A=>Z 1 A rfl λ A=>qt_<|ct_ A rfl<|wr_<|Z 2 A rfl λ A=>C A rfl ent149 (preg_any Bd gr gc lg s sv L w (nt_ hB b0.size) hBr hBc hne hbr hbc (hSl.below b0) hp hL) ?_
  rintro e62 w59 ⟨he61, hX64, m65, m66, hp63⟩
  have x67 := x0.mix hX64 (λ k hk hc => nin2 (two_a hc) (two_b hc))
  have b68 := hX64.below b0 (nt_ hB b0.size) (lows2 hBr hBc)
  refine ⟨(J ((knownP L lg.regs s).2)), he61, λ _ A=>Z 1 A rfl λ A=>F1 A rfl fo86_2 λ A=>F1 A rfl fo30_1 λ A=>qs A rfl (dst_ (wn rfl) (A.ev rfl) (A.ev rfl) one3 rfl m65 (nb_ rfl) λ w77 hU78 (m79 : Blk w77 gr (rdP lg gc (setDst (knownP L lg.regs s).1 ((knownP L lg.regs s).2))) 86)=>?_)⟩
  have m80 := m66.upd hU78 (Ne.symm hne)
  have b81 := hU78.below b68 hBr
  have x82 := x67.updIn hU78 (in2a gr gc)
  have m83 : Blk w77 gc #[sv, J (((setDst (knownP L lg.regs s).1 ((knownP L lg.regs s).2)).p : Nat) : Int)] 132 := m80
  have hp84 : (setDst (knownP L lg.regs s).1 ((knownP L lg.regs s).2)).p ≤ L.length := hp63
  intro _ A
  refine qe_<|i_norm<|end0 rfl A ?_
  have hq87 : partP lg L pt s = (setDst (knownP L lg.regs s).1 ((knownP L lg.regs s).2)) := by simp only [partP, labP, hb5, hb49, if_true, Bool.false_eq_true, if_false]
  rw [hq87]
  exact ⟨rfl, x82, m79, m83, hp84⟩
 have hq88 := ne_of_beq hb49
 refine B2 A rfl (bq hb49) λ A=>Z 1 A rfl λ A=>qt_<|cf_ A rfl<|sw_ ?_
 rcases eb_ (pt == 2) with hb93 | hb93
 ·skip
  have hq94 := eq_of_beq hb93
  refine B2 A rfl (bq hb93) λ A=>Z 1 A rfl λ A=>qt_<|ct_ A rfl<|wr_<|Z 2 A rfl λ A=>C A rfl ent149 (preg_any Bd gr gc lg s sv L w (nt_ hB b0.size) hBr hBc hne hbr hbc (hSl.below b0) hp hL) ?_
  rintro e106 w103 ⟨he105, hX108, m109, m110, hp107⟩
  have x111 := x0.mix hX108 (λ k hk hc => nin2 (two_a hc) (two_b hc))
  have b112 := hX108.below b0 (nt_ hB b0.size) (lows2 hBr hBc)
  refine ⟨(J ((knownP L lg.regs s).2)), he105, λ _ A=>Z 1 A rfl λ A=>F1 A rfl fo86_2 λ A=>F1 A rfl fo30_2 λ A=>qs A rfl (dst_ (wn rfl) (A.ev rfl) (A.ev rfl) one3 rfl m109 (nb_ rfl) λ w121 hU122 (m123 : Blk w121 gr (rdP lg gc (setA (knownP L lg.regs s).1 ((knownP L lg.regs s).2))) 86)=>?_)⟩
  have m124 := m110.upd hU122 (Ne.symm hne)
  have b125 := hU122.below b112 hBr
  have x126 := x111.updIn hU122 (in2a gr gc)
  have m127 : Blk w121 gc #[sv, J (((setA (knownP L lg.regs s).1 ((knownP L lg.regs s).2)).p : Nat) : Int)] 132 := m124
  have hp128 : (setA (knownP L lg.regs s).1 ((knownP L lg.regs s).2)).p ≤ L.length := hp107
  intro _ A
  refine qe_<|i_norm<|end0 rfl A ?_
  have hq131 : partP lg L pt s = (setA (knownP L lg.regs s).1 ((knownP L lg.regs s).2)) := by simp only [partP, labP, hb5, hb49, hb93, if_true, Bool.false_eq_true, if_false]
  rw [hq131]
  exact ⟨rfl, x126, m123, m127, hp128⟩
 have hq132 := ne_of_beq hb93
 refine B2 A rfl (bq hb93) λ A=>Z 1 A rfl λ A=>qt_<|cf_ A rfl<|sw_ ?_
 rcases eb_ (pt == 3) with hb137 | hb137
 ·skip
  have hq138 := eq_of_beq hb137
  refine B2 A rfl (bq hb137) λ A=>Z 1 A rfl λ A=>qt_<|ct_ A rfl<|wr_<|Z 2 A rfl λ A=>C A rfl ent149 (preg_any Bd gr gc lg s sv L w (nt_ hB b0.size) hBr hBc hne hbr hbc (hSl.below b0) hp hL) ?_
  rintro e150 w147 ⟨he149, hX152, m153, m154, hp151⟩
  have x155 := x0.mix hX152 (λ k hk hc => nin2 (two_a hc) (two_b hc))
  have b156 := hX152.below b0 (nt_ hB b0.size) (lows2 hBr hBc)
  refine ⟨(J ((knownP L lg.regs s).2)), he149, λ _ A=>Z 1 A rfl λ A=>F1 A rfl fo86_2 λ A=>F1 A rfl fo30_3 λ A=>qs A rfl (dst_ (wn rfl) (A.ev rfl) (A.ev rfl) one3 rfl m153 (nb_ rfl) λ w165 hU166 (m167 : Blk w165 gr (rdP lg gc (setB (knownP L lg.regs s).1 ((knownP L lg.regs s).2))) 86)=>?_)⟩
  have m168 := m154.upd hU166 (Ne.symm hne)
  have b169 := hU166.below b156 hBr
  have x170 := x155.updIn hU166 (in2a gr gc)
  have m171 : Blk w165 gc #[sv, J (((setB (knownP L lg.regs s).1 ((knownP L lg.regs s).2)).p : Nat) : Int)] 132 := m168
  have hp172 : (setB (knownP L lg.regs s).1 ((knownP L lg.regs s).2)).p ≤ L.length := hp151
  intro _ A
  refine qe_<|i_norm<|end0 rfl A ?_
  have hq175 : partP lg L pt s = (setB (knownP L lg.regs s).1 ((knownP L lg.regs s).2)) := by simp only [partP, labP, hb5, hb49, hb93, hb137, if_true, Bool.false_eq_true, if_false]
  rw [hq175]
  exact ⟨rfl, x170, m167, m171, hp172⟩
 have hq176 := ne_of_beq hb137
 refine B2 A rfl (bq hb137) λ A=>Z 1 A rfl λ A=>qt_<|cf_ A rfl<|sw_ ?_
 rcases eb_ (pt == 5) with hb181 | hb181
 ·skip
  have hq182 := eq_of_beq hb181
  refine B2 A rfl (bq hb181) λ A=>Z 1 A rfl λ A=>qt_<|ct_ A rfl<|wr_<|Z 2 A rfl λ A=>C A rfl ent150 (pimm_any Bd gr gc lg s sv L w (nt_ hB b0.size) hBr hBc hne hbr hbc (hSl.below b0) hp hL) ?_
  rintro e194 w191 ⟨he193, hX196, m197, m198, hp195⟩
  have x199 := x0.mix hX196 (λ k hk hc => nin2 (two_a hc) (two_b hc))
  have b200 := hX196.below b0 (nt_ hB b0.size) (lows2 hBr hBc)
  refine ⟨(J ((immP lg L s).2)), he193, λ _ A=>Z 1 A rfl λ A=>F1 A rfl fo86_2 λ A=>F1 A rfl fo30_4 λ A=>qs A rfl (dst_ (wn rfl) (A.ev rfl) (A.ev rfl) one3 rfl m197 (nb_ rfl) λ w209 hU210 (m211 : Blk w209 gr (rdP lg gc (setImm (immP lg L s).1 ((immP lg L s).2))) 86)=>?_)⟩
  have m212 := m198.upd hU210 (Ne.symm hne)
  have b213 := hU210.below b200 hBr
  have x214 := x199.updIn hU210 (in2a gr gc)
  have m215 : Blk w209 gc #[sv, J (((setImm (immP lg L s).1 ((immP lg L s).2)).p : Nat) : Int)] 132 := m212
  have hp216 : (setImm (immP lg L s).1 ((immP lg L s).2)).p ≤ L.length := hp195
  intro _ A
  refine qe_<|i_norm<|end0 rfl A ?_
  have hq219 : partP lg L pt s = (setImm (immP lg L s).1 ((immP lg L s).2)) := by simp only [partP, labP, hb5, hb49, hb93, hb137, hb181, if_true, Bool.false_eq_true, if_false]
  rw [hq219]
  exact ⟨rfl, x214, m211, m215, hp216⟩
 have hq220 := ne_of_beq hb181
 refine B2 A rfl (bq hb181) λ A=>Z 1 A rfl λ A=>qt_<|cf_ A rfl<|sw_ ?_
 rcases eb_ (pt == 6) with hb225 | hb225
 ·skip
  have hq226 := eq_of_beq hb225
  refine B2 A rfl (bq hb225) λ A=>Z 1 A rfl λ A=>qt_<|ct_ A rfl<|wr_<|Z 1 A rfl λ A=>C A rfl ent151 (pmem_any Bd gr gc lg s sv L w (nt_ hB b0.size) hBr hBc hne hbr hbc (hSl.below b0) hp hL) ?_
  rintro e236 w233 ⟨he235, hX238, m239, m240, hp237⟩
  have x241 := x0.mix hX238 (λ k hk hc => nin2 (two_a hc) (two_b hc))
  have b242 := hX238.below b0 (nt_ hB b0.size) (lows2 hBr hBc)
  refine ⟨(.tuple #[]), he235, λ _ A=>qe_<|i_norm<|end0 rfl A ?_⟩
  have hq245 : partP lg L pt s = (memP lg L s) := by simp only [partP, labP, hb5, hb49, hb93, hb137, hb181, hb225, if_true, Bool.false_eq_true, if_false]
  rw [hq245]
  exact ⟨rfl, x241, m239, m240, hp237⟩
 have hq246 := ne_of_beq hb225
 refine B2 A rfl (bq hb225) λ A=>Z 1 A rfl λ A=>qt_<|cf_ A rfl<|sw_ ?_
 rcases eb_ (pt == 7) with hb251 | hb251
 ·skip
  have hq252 := eq_of_beq hb251
  refine B2 A rfl (bq hb251) λ A=>Z 1 A rfl λ A=>qt_<|ct_ A rfl<|wr_<|Z 3 A rfl λ A=>F1 A rfl fo86_1 λ A=>qs A rfl (dld (v := (.pointer (some ⟨gc, 0, none⟩))) (wn rfl) (A.ev rfl) one83 (hbr.cell rfl) λ _ A=>?_)
  rcases eb_ (decide (s.p < L.length)) with hb267 | hb267
  ·skip
   have hq268 := dt_ hb267
   obtain ⟨y269, hy270⟩ : ∃ y269, L[s.p]? = some y269 := ⟨_, List.getElem?_eq_getElem (show s.p < L.length by omega)⟩
   rcases eb_ (y269.kind == 1) with hb271 | hb271
   ·skip
    have hq272 := eq_of_beq hb271
    refine C A rfl ent152 (name_yes Bd gc s.p sv L w (nt_ hB b0.size) hBc hbc (hSl.below b0) hp hL y269 hy270 (eq_of_beq hb271)) ?_
    rintro e276 w273 ⟨he275, hX278, m279⟩
    have m280 := hbr.mix hX278 (nin1 hne)
    have x281 := x0.mix hX278 (λ k hk hc => nin1 (two_b hc))
    have b282 := hX278.below b0 (nt_ hB b0.size) (lows1 hBc)
    refine ⟨(.tuple #[(.string (S y269.text)), (.bool true)]), he275, λ _ A=>?_⟩
    have m285 : Blk w273 gr (rdP lg gc (atP s (s.p + 1))) 86 := m280
    have m286 : Blk w273 gc #[sv, J (((atP s (s.p + 1)).p : Nat) : Int)] 132 := m279
    have hp287 : (atP s (s.p + 1)).p ≤ L.length := show s.p + 1 ≤ L.length by omega
    refine Z 4 A rfl λ A=>F1 A rfl fo86_3 λ A=>qs A rfl (dst_ (wn rfl) (A.ev rfl) (A.ev rfl) one9 rfl m285 (nb_ rfl) λ w298 hU299 (m300 : Blk w298 gr (rdP lg gc (setLab (atP s (s.p + 1)) y269.text)) 86)=>?_)
    have m301 := m286.upd hU299 (Ne.symm hne)
    have b302 := hU299.below b282 hBr
    have x303 := x281.updIn hU299 (in2a gr gc)
    have m304 : Blk w298 gc #[sv, J (((setLab (atP s (s.p + 1)) y269.text).p : Nat) : Int)] 132 := m301
    have hp305 : (setLab (atP s (s.p + 1)) y269.text).p ≤ L.length := hp287
    intro _ A
    refine qe_<|i_norm<|end0 rfl A ?_
    have hq308 : partP lg L pt s = (setLab (atP s (s.p + 1)) y269.text) := by simp only [partP, labP, hb5, hb49, hb93, hb137, hb181, hb225, hb251, hb267, hb271, hy270, if_true, Bool.false_eq_true, if_false]
    rw [hq308]
    exact ⟨rfl, x303, m300, m304, hp305⟩
   have hq309 := ne_of_beq hb271
   refine C A rfl ent152 (name_no Bd gc s.p sv L w (nt_ hB b0.size) hBc hbc (hSl.below b0) hp hL y269 hy270 (ne_of_beq hb271)) ?_
   rintro e313 w310 ⟨he312, hG311⟩
   have m314 := hbr.grow hG311
   have m315 := hbc.grow hG311
   have b316 := blg b0 hG311 (nt_ hB b0.size)
   have x317 := x0.grow hG311
   refine ⟨(.tuple #[(.string (S [])), (.bool false)]), he312, λ _ A=>Z 4 A rfl λ A=>F1 A rfl fo86_3 λ A=>qs A rfl (dst_ (wn rfl) (A.ev rfl) (A.ev rfl) one9 rfl m314 (nb_ rfl) λ w330 hU331 (m332 : Blk w330 gr (rdP lg gc (setLab s [])) 86)=>?_)⟩
   have m333 := m315.upd hU331 (Ne.symm hne)
   have b334 := hU331.below b316 hBr
   have x335 := x317.updIn hU331 (in2a gr gc)
   have m336 : Blk w330 gc #[sv, J (((setLab s []).p : Nat) : Int)] 132 := m333
   have hp337 : (setLab s []).p ≤ L.length := hp
   intro _ A
   refine qe_<|i_norm<|end0 rfl A ?_
   have hq340 : partP lg L pt s = (setLab s []) := by simp only [partP, labP, hb5, hb49, hb93, hb137, hb181, hb225, hb251, hb267, hb271, hy270, if_true, Bool.false_eq_true, if_false]
   rw [hq340]
   exact ⟨rfl, x335, m332, m336, hp337⟩
  have hq341 := df_ hb267
  refine C A rfl ent152 (name_none Bd gc s.p sv L w (nt_ hB b0.size) hBc hbc (hSl.below b0) hp hL (by omega)) ?_
  rintro e345 w342 ⟨he344, hG343⟩
  have m346 := hbr.grow hG343
  have m347 := hbc.grow hG343
  have b348 := blg b0 hG343 (nt_ hB b0.size)
  have x349 := x0.grow hG343
  refine ⟨(.tuple #[(.string (S [])), (.bool false)]), he344, λ _ A=>Z 4 A rfl λ A=>F1 A rfl fo86_3 λ A=>qs A rfl (dst_ (wn rfl) (A.ev rfl) (A.ev rfl) one9 rfl m346 (nb_ rfl) λ w362 hU363 (m364 : Blk w362 gr (rdP lg gc (setLab s [])) 86)=>?_)⟩
  have m365 := m347.upd hU363 (Ne.symm hne)
  have b366 := hU363.below b348 hBr
  have x367 := x349.updIn hU363 (in2a gr gc)
  have m368 : Blk w362 gc #[sv, J (((setLab s []).p : Nat) : Int)] 132 := m365
  have hp369 : (setLab s []).p ≤ L.length := hp
  intro _ A
  refine qe_<|i_norm<|end0 rfl A ?_
  have hq372 : partP lg L pt s = (setLab s []) := by simp only [partP, labP, hb5, hb49, hb93, hb137, hb181, hb225, hb251, hb267, if_true, Bool.false_eq_true, if_false, List.getElem?_eq_none (l := L) (i := s.p) (by omega)]
  rw [hq372]
  exact ⟨rfl, x367, m364, m368, hp369⟩
 have hq373 := ne_of_beq hb251
 refine B2 A rfl (bq hb251) λ A=>Z 1 A rfl λ A=>qt_<|cf_ A rfl<|sw_ ?_
 rcases eb_ (pt == 8) with hb378 | hb378
 ·skip
  have hq379 := eq_of_beq hb378
  refine B2 A rfl (bq hb378) λ A=>Z 1 A rfl λ A=>qt_<|ct_ A rfl<|wr_<|Z 2 A rfl λ A=>C A rfl ent153 (pfen_any Bd gr gc lg s sv L w (nt_ hB b0.size) hBr hBc hne hbr hbc (hSl.below b0) hp hL) ?_
  rintro e391 w388 ⟨he390, hX393, m394, m395, hp392⟩
  have x396 := x0.mix hX393 (λ k hk hc => nin2 (two_a hc) (two_b hc))
  have b397 := hX393.below b0 (nt_ hB b0.size) (lows2 hBr hBc)
  refine ⟨(J ((fenP lg L s).2)), he390, λ _ A=>Z 1 A rfl λ A=>F1 A rfl fo86_2 λ A=>F1 A rfl fo30_13 λ A=>qs A rfl (dst_ (wn rfl) (A.ev rfl) (A.ev rfl) one3 rfl m394 (nb_ rfl) λ w406 hU407 (m408 : Blk w406 gr (rdP lg gc (setPred (fenP lg L s).1 ((fenP lg L s).2))) 86)=>?_)⟩
  have m409 := m395.upd hU407 (Ne.symm hne)
  have b410 := hU407.below b397 hBr
  have x411 := x396.updIn hU407 (in2a gr gc)
  have m412 : Blk w406 gc #[sv, J (((setPred (fenP lg L s).1 ((fenP lg L s).2)).p : Nat) : Int)] 132 := m409
  have hp413 : (setPred (fenP lg L s).1 ((fenP lg L s).2)).p ≤ L.length := hp392
  intro _ A
  refine qe_<|i_norm<|end0 rfl A ?_
  have hq416 : partP lg L pt s = (setPred (fenP lg L s).1 ((fenP lg L s).2)) := by simp only [partP, labP, hb5, hb49, hb93, hb137, hb181, hb225, hb251, hb378, if_true, Bool.false_eq_true, if_false]
  rw [hq416]
  exact ⟨rfl, x411, m408, m412, hp413⟩
 have hq417 := ne_of_beq hb378
 refine B2 A rfl (bq hb378) λ A=>Z 1 A rfl λ A=>qt_<|cf_ A rfl<|sw_ ?_
 rcases eb_ (pt == 9) with hb422 | hb422
 ·skip
  have hq423 := eq_of_beq hb422
  refine B2 A rfl (bq hb422) λ A=>Z 1 A rfl λ A=>qt_<|ct_ A rfl<|wr_<|Z 2 A rfl λ A=>C A rfl ent153 (pfen_any Bd gr gc lg s sv L w (nt_ hB b0.size) hBr hBc hne hbr hbc (hSl.below b0) hp hL) ?_
  rintro e435 w432 ⟨he434, hX437, m438, m439, hp436⟩
  have x440 := x0.mix hX437 (λ k hk hc => nin2 (two_a hc) (two_b hc))
  have b441 := hX437.below b0 (nt_ hB b0.size) (lows2 hBr hBc)
  refine ⟨(J ((fenP lg L s).2)), he434, λ _ A=>Z 1 A rfl λ A=>F1 A rfl fo86_2 λ A=>F1 A rfl fo30_14 λ A=>qs A rfl (dst_ (wn rfl) (A.ev rfl) (A.ev rfl) one3 rfl m438 (nb_ rfl) λ w450 hU451 (m452 : Blk w450 gr (rdP lg gc (setSucc (fenP lg L s).1 ((fenP lg L s).2))) 86)=>?_)⟩
  have m453 := m439.upd hU451 (Ne.symm hne)
  have b454 := hU451.below b441 hBr
  have x455 := x440.updIn hU451 (in2a gr gc)
  have m456 : Blk w450 gc #[sv, J (((setSucc (fenP lg L s).1 ((fenP lg L s).2)).p : Nat) : Int)] 132 := m453
  have hp457 : (setSucc (fenP lg L s).1 ((fenP lg L s).2)).p ≤ L.length := hp436
  intro _ A
  refine qe_<|i_norm<|end0 rfl A ?_
  have hq460 : partP lg L pt s = (setSucc (fenP lg L s).1 ((fenP lg L s).2)) := by simp only [partP, labP, hb5, hb49, hb93, hb137, hb181, hb225, hb251, hb378, hb422, if_true, Bool.false_eq_true, if_false]
  rw [hq460]
  exact ⟨rfl, x455, m452, m456, hp457⟩
 have hq461 := ne_of_beq hb422
 refine B2 A rfl (bq hb422) λ A=>Z 1 A rfl λ A=>qt_<|cf_ A rfl<|wk_<|i_norm<|end0 rfl A ?_
 have hq466 : partP lg L pt s = s := by simp only [partP, labP, hb5, hb49, hb93, hb137, hb181, hb225, hb251, hb378, hb422, if_true, Bool.false_eq_true, if_false]
 rw [hq466]
 exact ⟨rfl, x0, hbr, hbc, hp⟩
theorem sizeof_any (lg : Lg) (r : Rw) (q : List UInt8) (w : World) (hnl : r.name.length ≤ 1000) (hll : ∀ y ∈ lg.lets, y.length ≤ 1000) (hcl : (Lib.cut r.name [42]).1.length + (Lib.cut r.name [42]).2.1.length ≤ 2000) (m0 : Int) (hm : w.cell? ⟨0, 0, none⟩ = some (J m0)) : Calls Tryz.prog 143 #[.agg (lgC lg), .agg (rwC r), .string (S q)] w λ e w' => e = .returned (.tuple #[J (sizeP lg r q).1, .bool (sizeP lg r q).2]) ∧ Grow w w' := by
 have b0 := Grow.refl w
 refine enter (n := 42) Tryz.func143 rfl rfl (nb_ rfl) λ _ A=>sw_<|qs A rfl (d_box (wn rfl) (A.ev rfl) λ g3 w4 eg5 hG6 (m7 : Blk w4 g3 (lgC lg) 56)=>?_)
 have ge8 : w.heap.size ≤ g3 := eg5 ▸ b0.size
 have b9 := bls b0 hG6
 intro _ A
 refine qs A rfl (d_box (wn rfl) (A.ev rfl) λ g12 w13 eg14 hG15 (m16 : Blk w13 g12 (rwC r) 105)=>?_)
 have ge17 : w.heap.size ≤ g12 := eg14 ▸ b9.size
 have n18 := nn_ eg14 m7
 have m19 := m7.grow hG15
 have b20 := bls b9 hG15
 intro _ A
 refine Z 2 A rfl λ A=>qt_<|sw_<|F1 A rfl fo105_0 λ A=>qs A rfl (dld (v := (.string (S r.name))) (wn rfl) (A.ev rfl) one9 (m16.cell rfl) λ _ A=>C A rfl ent175 (cut_any r.name [42] m0 w13 (by omega) (cell_keep hm b20)) ?_)
 rintro e34 w31 ⟨he33, hG32⟩
 have m35 := m19.grow hG32
 have m36 := m16.grow hG32
 have b37 := bls b20 hG32
 refine ⟨(.tuple #[(.string (S ((Lib.cut r.name [42]).1))), (.string (S ((Lib.cut r.name [42]).2.1))), (.bool ((Lib.cut r.name [42]).2.2))]), he33, λ _ A=>Z 7 A rfl λ A=>qt_<|ws_<|sw_<|Z 1 A rfl λ A=>?_⟩
 rcases eb_ ((Lib.cut r.name [42]).2.2) with hb56 | hb56
 ·skip
  have A := A.shadow (t := 20) rfl hb56
  refine Z 1 A rfl λ A=>qt_<|cf_ A rfl<|wk_<|tn_<|ws_<|sw_<|F1 A rfl fo56_1 λ A=>qs A rfl (dlm (cs := (letA lg)) (wn rfl) (A.ev rfl) row52 (m35.mid rfl) λ _ A=>Z 1 A rfl λ A=>qt_ ?_)
  refine wp_block<|loop_by (λ m68 a69 w70 => ∃ j67 : Nat, m68 = 4 - j67 ∧ (j67 ≤ 4 ∧ idxL ((sizedN lg r).drop j67) q j67 = idxL (sizedN lg r) q 0) ∧ St 42 [(2, (.string (S q))), (6, (J 0)), (7, (.bool false)), (8, (.string (S ((Lib.cut r.name [42]).1)))), (9, (.string (S ((Lib.cut r.name [42]).2.1)))), (27, (.agg (letA lg))), (28, (J ((j67 : Nat) : Int)))] a69 ∧ Below w.heap.size w w70 ∧ Blk w70 g3 (lgC lg) 56 ∧ Blk w70 g12 (rwC r) 105) (4 - 0) ⟨0, rfl, ⟨by omega, rfl⟩, A.cut _ (fc (A.g 2 rfl) (fc (A.g 6 rfl) (fc (A.g 7 rfl) (fc (A.g 8 rfl) (fc (A.g 9 rfl) (fc (A.g 27 rfl) (fc ((A.g 28 rfl).trans (congrArg (Value.int .i64) (by omega))) fn_))))))), b37, m35, m36⟩ ?_
  rintro m68 a69 w70 ⟨j67, hm73, hc74, A, b72, m75, m76⟩
  obtain ⟨hj1, hj2⟩ := hc74
  refine sw_ ?_
  rcases eb_ (decide (((j67 : Nat) : Int) < 4)) with hb77 | hb77
  ·skip
   have hq78 := dt_ hb77
   refine B2 A rfl (bl hb77) λ A=>qt_<|ws_<|ct_ A rfl<|wk_<|tn_<|ws_<|wp_block<|sw_<|Z 1 A rfl λ A=>?_
   obtain ⟨y83, hy84⟩ : ∃ y83, lg.lets[j67]? = some y83 := ⟨_, List.getElem?_eq_getElem (show j67 < lg.lets.length by show j67 < 4; omega)⟩
   have hyl := hll _ (List.mem_of_getElem? hy84)
   refine qs A rfl (d_indexV (j := j67) (v := .string (S y83)) (wn rfl) (A.ev rfl) (A.ev rfl) arr52 one9 (get_lt hy84) (letA_at hy84) λ _ A=>Z 2 A rfl λ A=>qt_<|sw_<|Z 3 A rfl λ A=>B2 A rfl (b_sadd (l := (Lib.cut r.name [42]).1) (m := y83) (by first | omega | (simp only [List.length_append, List.length_cons, List.length_nil]; omega))) λ A=>Z 1 A rfl λ A=>B2 A rfl (b_sadd (l := (Lib.cut r.name [42]).1 ++ y83) (m := (Lib.cut r.name [42]).2.1) (by first | omega | (simp only [List.length_append, List.length_cons, List.length_nil]; omega))) λ A=>?_)
   rcases eb_ (eqL q ((Lib.cut r.name [42]).1 ++ y83 ++ ((Lib.cut r.name [42]).2.1))) with hb103 | hb103
   ·skip
    refine B2 A rfl (b_seq (l := q) (m := (Lib.cut r.name [42]).1 ++ y83 ++ ((Lib.cut r.name [42]).2.1)) (r := true) hb103) λ A=>qt_<|ct_ A rfl<|sw_<|Z 1 A rfl λ A=>B2 A rfl (b_shl1 (j := j67) (by omega)) λ A=>Z 2 A rfl λ A=>qt_<|we_<|i_ret<|tr_ ?_
    refine tr_<|i_ret<|tr_<|ret2 (x := (J (szI ((j67 : Nat) : Int)))) (y := (.bool true)) rfl A rfl rfl ?_
    have hq115 : sizeP lg r q = (szI ((j67 : Nat) : Int), true) := size_hit hb56 (hj2.symm.trans (idx_hit (sized_at (r := r) hy84) (eqL_flip hb103)))
    exact ⟨by rw [hq115], b72⟩
   refine B2 A rfl (b_seq (l := q) (m := (Lib.cut r.name [42]).1 ++ y83 ++ ((Lib.cut r.name [42]).2.1)) (r := false) hb103) λ A=>qt_<|cf_ A rfl<|wk_<|i_norm<|tn_<|wr_<|B2 A rfl (b_addE (j67 + 1) (by omega) (by omega)) λ A=>Z 1 A rfl λ A=>qt_ ?_
   have hgo := (idx_go (sized_at (r := r) hy84) (eqL_flip hb103)).symm.trans hj2
   exact ⟨4 - (j67 + 1), (by rw [hm73]; omega), j67 + 1, rfl, ⟨by omega, hgo⟩, A.sub rfl, b72, m75, m76⟩
  have hq123 := df_ hb77
  refine B2 A rfl (bl hb77) λ A=>qt_<|ws_<|cf_ A rfl<|wp_exit<|t_exit<|t_exit<|i_here<|tn_<|sw_<|Z 2 A rfl λ A=>qe_ ?_
  refine tn_<|we_<|ret2 (x := (J 0)) (y := (.bool false)) rfl A rfl rfl ?_
  have hq130 : sizeP lg r q = (0, false) := size_no hb56 (hj2.symm.trans (idx_end (show (sizedN lg r).length ≤ j67 by rw [sized_len]; omega)))
  exact ⟨by rw [hq130], b72⟩
 have A := A.shadow (t := 20) rfl hb56
 refine Z 1 A rfl @λ a133 A=>qt_<|ct_ A rfl<|ws_ ?_
 rcases eb_ (eqL q r.name) with hb135 | hb135
 ·skip
  have A : St 42 [(2, (.string (S q))), (3, (.pointer (some ⟨g3, 0, none⟩))), (4, (.pointer (some ⟨g12, 0, none⟩))), (8, (.string (S ((Lib.cut r.name [42]).1)))), (9, (.string (S ((Lib.cut r.name [42]).2.1))))] a133 := A.sub rfl
  let M138 : Nat → Option (Array Value) := λ _ => none
  have hM138 : M138 = λ _ => none := rfl
  clear_value M138
  have hM139 : M138 g3 = none := (congrFun hM138 g3)
  have hM140 : M138 g12 = none := (congrFun hM138 g12)
  have hM138B : ∀ k, k < w.heap.size → M138 k = none := (λ k hk => (congrFun hM138 k))
  refine drawn (S := SM M138) (tabL [cv (.string (S q)), cv (.pointer (some ⟨g12, 0, none⟩)), cv (.string (S r.name)), cv (.bool true), cv (J 0), cv (.bool true)]) mixedY SM.refl SM.trans SM.drew A (by kernel_rfl) ?_ ?_
  ·skip
   have bD141 := blg b37 ((Grow.refl w31).drew) b37.size
   refine ec_ (λ x y hS hT hk => dmv (wn rfl) (hT.ev rfl) ⟨SM.refl _, rfl⟩)<|ec_ (λ x y hS hT hk => dfa (wn rfl) (hT.ev rfl) fo105_0 ⟨SM.refl _, rfl⟩)<|ec_ (λ x y hS hT hk => dld (v := (.string (S r.name))) (wn rfl) (hk 1 rfl) one9 ((Blk.sm (w := w31.drew) m36 hS hM140).cell rfl) ⟨SM.refl _, rfl⟩)<|ec_ (λ x y hS hT hk => dbn (u := (.string (S q))) (v := (.string (S r.name))) (wn rfl) (hk 0 rfl) (hk 2 rfl) (b_seq (l := q) (m := r.name) (r := true) hb135) ⟨SM.refl _, rfl⟩)<|ec_ (λ x y hS hT hk => das (wn rfl) (hT.ev rfl) ⟨SM.refl _, rfl⟩)<|ec_ (λ x y hS hT hk => das (wn rfl) (hk 3 rfl) ⟨SM.refl _, rfl⟩) ?_
   exact each_nil
  intro f142 a143 w144 hS145 hC146 A
  have A : St 42 [(2, (.string (S q))), (3, (.pointer (some ⟨g3, 0, none⟩))), (6, (J 0)), (7, (.bool true)), (8, (.string (S ((Lib.cut r.name [42]).1)))), (9, (.string (S ((Lib.cut r.name [42]).2.1))))] a143 := A.cut _ (fc (A.g 2 rfl) (fc (A.g 3 rfl) (fc ((A.g 6 rfl).trans (hC146 4 (nb_ rfl))) (fc ((A.g 7 rfl).trans (hC146 5 (nb_ rfl))) (fc (A.g 8 rfl) (fc (A.g 9 rfl) fn_))))))
  have m149 := m35.sm hS145 hM139
  have m150 := m36.sm hS145 hM140
  have b151 := hS145.below b37 b37.size hM138B
  refine tn_<|we_<|tr_<|ret2 (x := (J 0)) (y := (.bool true)) rfl A rfl rfl ?_
  have hq152 : sizeP lg r q = (0, true) := size_name hb56 hb135
  exact ⟨by rw [hq152], b151⟩
 have A : St 42 [(2, (.string (S q))), (3, (.pointer (some ⟨g3, 0, none⟩))), (4, (.pointer (some ⟨g12, 0, none⟩))), (8, (.string (S ((Lib.cut r.name [42]).1)))), (9, (.string (S ((Lib.cut r.name [42]).2.1))))] a133 := A.sub rfl
 let M155 : Nat → Option (Array Value) := λ _ => none
 have hM155 : M155 = λ _ => none := rfl
 clear_value M155
 have hM156 : M155 g3 = none := (congrFun hM155 g3)
 have hM157 : M155 g12 = none := (congrFun hM155 g12)
 have hM155B : ∀ k, k < w.heap.size → M155 k = none := (λ k hk => (congrFun hM155 k))
 refine drawn (S := SM M155) (tabL [cv (.string (S q)), cv (.pointer (some ⟨g12, 0, none⟩)), cv (.string (S r.name)), cv (.bool false), cv (J 0), cv (.bool false)]) mixedY SM.refl SM.trans SM.drew A (by kernel_rfl) ?_ ?_
 ·skip
  have bD158 := blg b37 ((Grow.refl w31).drew) b37.size
  refine ec_ (λ x y hS hT hk => dmv (wn rfl) (hT.ev rfl) ⟨SM.refl _, rfl⟩)<|ec_ (λ x y hS hT hk => dfa (wn rfl) (hT.ev rfl) fo105_0 ⟨SM.refl _, rfl⟩)<|ec_ (λ x y hS hT hk => dld (v := (.string (S r.name))) (wn rfl) (hk 1 rfl) one9 ((Blk.sm (w := w31.drew) m36 hS hM157).cell rfl) ⟨SM.refl _, rfl⟩)<|ec_ (λ x y hS hT hk => dbn (u := (.string (S q))) (v := (.string (S r.name))) (wn rfl) (hk 0 rfl) (hk 2 rfl) (b_seq (l := q) (m := r.name) (r := false) hb135) ⟨SM.refl _, rfl⟩)<|ec_ (λ x y hS hT hk => das (wn rfl) (hT.ev rfl) ⟨SM.refl _, rfl⟩)<|ec_ (λ x y hS hT hk => das (wn rfl) (hk 3 rfl) ⟨SM.refl _, rfl⟩) ?_
  exact each_nil
 intro f159 a160 w161 hS162 hC163 A
 have A : St 42 [(2, (.string (S q))), (3, (.pointer (some ⟨g3, 0, none⟩))), (6, (J 0)), (7, (.bool false)), (8, (.string (S ((Lib.cut r.name [42]).1)))), (9, (.string (S ((Lib.cut r.name [42]).2.1))))] a160 := A.cut _ (fc (A.g 2 rfl) (fc (A.g 3 rfl) (fc ((A.g 6 rfl).trans (hC163 4 (nb_ rfl))) (fc ((A.g 7 rfl).trans (hC163 5 (nb_ rfl))) (fc (A.g 8 rfl) (fc (A.g 9 rfl) fn_))))))
 have m166 := m35.sm hS162 hM156
 have m167 := m36.sm hS162 hM157
 have b168 := hS162.below b37 b37.size hM155B
 refine tn_<|we_<|tr_<|ret2 (x := (J 0)) (y := (.bool false)) rfl A rfl rfl ?_
 have hq169 : sizeP lg r q = (0, false) := size_name hb56 hb135
 exact ⟨by rw [hq169], b168⟩
theorem ismark_any (yt : Tk) (m : List UInt8) (w : World) : Calls Tryz.prog 178 #[.agg (tokC yt), .string (S m)] w λ e w' => e = .returned (.bool (isMarkB yt m)) ∧ Grow w w' := by
 have b0 := Grow.refl w
 refine enter (n := 14) Tryz.func178 rfl rfl (nb_ rfl) λ _ A=>sw_<|qs A rfl (d_box (wn rfl) (A.ev rfl) λ g3 w4 eg5 hG6 (m7 : Blk w4 g3 (tokC yt) 28)=>?_)
 have ge8 : w.heap.size ≤ g3 := eg5 ▸ b0.size
 have b9 := bls b0 hG6
 intro _ A
 refine Z 1 A rfl λ A=>qt_<|sw_<|F1 A rfl fo28_0 λ A=>qs A rfl (dld (v := (J yt.kind)) (wn rfl) (A.ev rfl) one3 (m7.cell rfl) λ _ A=>?_)
 rcases eb_ (yt.kind == 3) with hb18 | hb18
 ·skip
  have hq19 := eq_of_beq hb18
  refine B2 A rfl (bq hb18) λ A=>Z 1 A rfl λ A=>F1 A rfl fo28_1 λ A=>qs A rfl (dld (v := (.string (S yt.text))) (wy rfl rfl (A.g 8 rfl)) (A.ev rfl) one9 (m7.cell rfl) λ _ A=>Z 1 A rfl λ A=>?_)
  rcases eb_ (eqL yt.text m) with hb30 | hb30
  ·skip
   refine B2 A rfl (b_seq (l := yt.text) (m := m) (r := true) hb30) λ A=>Z 2 A rfl λ A=>qt_<|we_<|ret1 rfl A (v := (.bool true)) rfl ?_
   exact ⟨by simp only [isMarkB, hb18, hb30, if_true, Bool.false_eq_true, if_false, Bool.and_true, Bool.and_false, Bool.true_and, Bool.false_and, Bool.or_true, Bool.or_false, Bool.true_or, Bool.false_or], b9⟩
  refine B2 A rfl (b_seq (l := yt.text) (m := m) (r := false) hb30) λ A=>Z 2 A rfl λ A=>qt_<|we_<|ret1 rfl A (v := (.bool false)) rfl ?_
  exact ⟨by simp only [isMarkB, hb18, hb30, if_true, Bool.false_eq_true, if_false, Bool.and_true, Bool.and_false, Bool.true_and, Bool.false_and, Bool.or_true, Bool.or_false, Bool.true_or, Bool.false_or], b9⟩
 have hq45 := ne_of_beq hb18
 refine B2 A rfl (bq hb18) λ A=>Z 7 A rfl λ A=>qt_<|we_<|ret1 rfl A (v := (.bool false)) rfl ?_
 exact ⟨by simp only [isMarkB, hb18, if_true, Bool.false_eq_true, if_false, Bool.and_true, Bool.and_false, Bool.true_and, Bool.false_and, Bool.or_true, Bool.or_false, Bool.true_or, Bool.false_or], b9⟩
theorem beginsimm_any (Bd gr gc : Nat) (lg : Lg) (s : Ps) (yt : Tk) (w : World) (hB : Bd ≤ w.heap.size) (hBr : Bd ≤ gr) (hbr : Blk w gr (rdP lg gc s) 86) : Calls Tryz.prog 177 #[.pointer (some ⟨gr, 0, none⟩), .agg (tokC yt)] w λ e w' => e = .returned (.bool (beginsImmB lg yt)) ∧ Grow w w' := by
 have x0 : Mix [] w w := Mix.refl _ _
 have b0 : Below Bd w w := Below.refl _ _
 refine enter (n := 25) Tryz.func177 rfl rfl (nb_ rfl) λ _ A=>sw_<|qs A rfl (d_box (wn rfl) (A.ev rfl) λ g3 w4 eg5 hG6 (m7 : Blk w4 g3 (tokC yt) 28)=>?_)
 have ge8 : Bd ≤ g3 := eg5 ▸ (nt_ hB b0.size)
 have n9 := nn_ eg5 hbr
 have gx10 : w.heap.size ≤ g3 := eg5 ▸ x0.size
 have m11 := hbr.grow hG6
 have b12 := blg b0 hG6 (nt_ hB b0.size)
 have x13 := x0.grow hG6
 intro _ A
 refine Z 1 A rfl λ A=>qt_<|ws_<|sw_<|Z 2 A rfl λ A=>F1 A rfl fo86_0 λ A=>F1 A rfl fo56_2 λ A=>qs A rfl (dld (v := (.string (S lg.mrk))) (wn rfl) (A.ev rfl) one9 (m11.cell rfl) λ _ A=>?_)
 rcases eb_ (eqL lg.mrk []) with hb28 | hb28
 ·skip
  refine B2 A rfl (b_sne (l := lg.mrk) (m := []) (r := false) (notof hb28)) λ A=>qt_<|cf_ A rfl<|wk_<|tn_<|sw_<|F1 A rfl fo28_0 λ A=>qs A rfl (dld (v := (J yt.kind)) (wn rfl) (A.ev rfl) one3 (m7.cell rfl) λ _ A=>?_)
  rcases eb_ (yt.kind == 2) with hb36 | hb36
  ·skip
   have hq37 := eq_of_beq hb36
   refine B2 A rfl (bq hb36) λ A=>Z 5 A rfl λ A=>qt_<|we_<|ret1 rfl A (v := (.bool true)) rfl ?_
   exact ⟨by simp only [beginsImmB, hb28, hb36, if_true, Bool.false_eq_true, if_false, Bool.and_true, Bool.and_false, Bool.true_and, Bool.false_and, Bool.or_true, Bool.or_false, Bool.true_or, Bool.false_or], x13.grown⟩
  have hq50 := ne_of_beq hb36
  refine B2 A rfl (bq hb36) λ A=>Z 1 A rfl λ A=>qs A rfl (dlr (cs := (tokC yt)) (wy rfl rfl (A.g 21 rfl)) (A.ev rfl) row28 m7 λ _ A=>C A rfl ent178 (ismark_any yt [45] w4) ?_)
  rintro e60 w57 ⟨he59, hG58⟩
  have m61 := m11.grow hG58
  have m62 := m7.grow hG58
  have b63 := blg b12 hG58 (nt_ hB b12.size)
  have x64 := x13.grow hG58
  rcases eb_ (isMarkB yt [45]) with hb65 | hb65
  ·skip
   refine ⟨.bool true, he59.trans (ret_bool hb65), λ _ A=>Z 2 A rfl λ A=>qt_<|we_<|ret1 rfl A (v := (.bool true)) rfl ?_⟩
   exact ⟨by simp only [beginsImmB, hb28, hb36, hb65, if_true, Bool.false_eq_true, if_false, Bool.and_true, Bool.and_false, Bool.true_and, Bool.false_and, Bool.or_true, Bool.or_false, Bool.true_or, Bool.false_or], x64.grown⟩
  refine ⟨.bool false, he59.trans (ret_bool hb65), λ _ A=>Z 2 A rfl λ A=>qt_<|we_<|ret1 rfl A (v := (.bool false)) rfl ?_⟩
  exact ⟨by simp only [beginsImmB, hb28, hb36, hb65, if_true, Bool.false_eq_true, if_false, Bool.and_true, Bool.and_false, Bool.true_and, Bool.false_and, Bool.or_true, Bool.or_false, Bool.true_or, Bool.false_or], x64.grown⟩
 refine B2 A rfl (b_sne (l := lg.mrk) (m := []) (r := true) (notof hb28)) @λ a81 A=>qt_<|ct_ A rfl<|ws_ ?_
 rcases eb_ (isMarkB yt lg.mrk) with hb83 | hb83
 ·skip
  have A : St 25 [(0, (.pointer (some ⟨gr, 0, none⟩))), (3, (.pointer (some ⟨g3, 0, none⟩)))] a81 := A.sub rfl
  let M86 : Nat → Option (Array Value) := λ _ => none
  have hM86 : M86 = λ _ => none := rfl
  clear_value M86
  have hM87 : M86 gr = none := (congrFun hM86 gr)
  have hM88 : M86 g3 = none := (congrFun hM86 g3)
  have hM86B : ∀ k, k < Bd → M86 k = none := (λ k hk => (congrFun hM86 k))
  refine drawn (S := SM M86) (tabL [cv (.agg (tokC yt)), cv (.pointer (some ⟨gr, 0, none⟩)), cv (.pointer (some ⟨gr, 0, none⟩)), cv (.pointer (some ⟨gr, 0, none⟩)), cv (.pointer (some ⟨gr, 12, none⟩)), cv (.string (S lg.mrk)), cv (.bool true), cv (.bool true)]) mixedY SM.refl SM.trans SM.drew A (by kernel_rfl) ?_ ?_
  ·skip
   have bD89 := blg b12 ((Grow.refl w4).drew) (nt_ hB b12.size)
   refine ec_ (λ x y hS hT hk => dlr (cs := (tokC yt)) (wn rfl) (hT.ev rfl) row28 (Blk.sm (w := w4.drew) m7 hS hM88) ⟨SM.refl _, rfl⟩)<|ec_ (λ x y hS hT hk => dmv (wn rfl) (hT.ev rfl) ⟨SM.refl _, rfl⟩)<|ec_ (λ x y hS hT hk => dnc (wn rfl) (hk 1 rfl) ⟨SM.refl _, rfl⟩)<|ec_ (λ x y hS hT hk => dfa (wn rfl) (hk 2 rfl) fo86_0 ⟨SM.refl _, rfl⟩)<|ec_ (λ x y hS hT hk => dfa (wn rfl) (hk 3 rfl) fo56_2 ⟨SM.refl _, rfl⟩)<|ec_ (λ x y hS hT hk => dld (v := (.string (S lg.mrk))) (wn rfl) (hk 4 rfl) one9 ((Blk.sm (w := w4.drew) m11 hS hM87).cell rfl) ⟨SM.refl _, rfl⟩)<|ec_ (λ x y hS hT hk => dcl (wn rfl) ent178 (map2 (show x.eval _ = (.agg (tokC yt)) from (hk 0 rfl)) (show x.eval _ = (.string (S lg.mrk)) from (hk 5 rfl))) (ismark_any yt lg.mrk y) (λ _ _ ⟨he, hG⟩ => ⟨(.bool true), (he.trans (ret_bool hb83)), SM.grow hG, rfl⟩))<|ec_ (λ x y hS hT hk => das (wn rfl) (hk 6 rfl) ⟨SM.refl _, rfl⟩) ?_
   exact each_nil
  intro f90 a91 w92 hS93 hC94 A
  have A : St 25 [(3, (.pointer (some ⟨g3, 0, none⟩))), (4, (.bool true))] a91 := A.cut _ (fc (A.g 3 rfl) (fc ((A.g 4 rfl).trans (hC94 7 (nb_ rfl))) fn_))
  have m97 := m11.sm hS93 hM87
  have m98 := m7.sm hS93 hM88
  have b99 := hS93.below b12 (nt_ hB b12.size) hM86B
  have x100 := x13.sm (M := M86) hS93 (λ k hk hc => by rw [congrFun hM86 k] <;> repeat (rw [if_neg (by first | omega | omega)]))
  refine tn_<|we_<|tr_<|ret1 rfl A (v := (.bool true)) rfl ?_
  exact ⟨by simp only [beginsImmB, hb28, hb83, if_true, Bool.false_eq_true, if_false, Bool.and_true, Bool.and_false, Bool.true_and, Bool.false_and, Bool.or_true, Bool.or_false, Bool.true_or, Bool.false_or], x100.grown⟩
 have A : St 25 [(0, (.pointer (some ⟨gr, 0, none⟩))), (3, (.pointer (some ⟨g3, 0, none⟩)))] a81 := A.sub rfl
 let M103 : Nat → Option (Array Value) := λ _ => none
 have hM103 : M103 = λ _ => none := rfl
 clear_value M103
 have hM104 : M103 gr = none := (congrFun hM103 gr)
 have hM105 : M103 g3 = none := (congrFun hM103 g3)
 have hM103B : ∀ k, k < Bd → M103 k = none := (λ k hk => (congrFun hM103 k))
 refine drawn (S := SM M103) (tabL [cv (.agg (tokC yt)), cv (.pointer (some ⟨gr, 0, none⟩)), cv (.pointer (some ⟨gr, 0, none⟩)), cv (.pointer (some ⟨gr, 0, none⟩)), cv (.pointer (some ⟨gr, 12, none⟩)), cv (.string (S lg.mrk)), cv (.bool false), cv (.bool false)]) mixedY SM.refl SM.trans SM.drew A (by kernel_rfl) ?_ ?_
 ·skip
  have bD106 := blg b12 ((Grow.refl w4).drew) (nt_ hB b12.size)
  refine ec_ (λ x y hS hT hk => dlr (cs := (tokC yt)) (wn rfl) (hT.ev rfl) row28 (Blk.sm (w := w4.drew) m7 hS hM105) ⟨SM.refl _, rfl⟩)<|ec_ (λ x y hS hT hk => dmv (wn rfl) (hT.ev rfl) ⟨SM.refl _, rfl⟩)<|ec_ (λ x y hS hT hk => dnc (wn rfl) (hk 1 rfl) ⟨SM.refl _, rfl⟩)<|ec_ (λ x y hS hT hk => dfa (wn rfl) (hk 2 rfl) fo86_0 ⟨SM.refl _, rfl⟩)<|ec_ (λ x y hS hT hk => dfa (wn rfl) (hk 3 rfl) fo56_2 ⟨SM.refl _, rfl⟩)<|ec_ (λ x y hS hT hk => dld (v := (.string (S lg.mrk))) (wn rfl) (hk 4 rfl) one9 ((Blk.sm (w := w4.drew) m11 hS hM104).cell rfl) ⟨SM.refl _, rfl⟩)<|ec_ (λ x y hS hT hk => dcl (wn rfl) ent178 (map2 (show x.eval _ = (.agg (tokC yt)) from (hk 0 rfl)) (show x.eval _ = (.string (S lg.mrk)) from (hk 5 rfl))) (ismark_any yt lg.mrk y) (λ _ _ ⟨he, hG⟩ => ⟨(.bool false), (he.trans (ret_bool hb83)), SM.grow hG, rfl⟩))<|ec_ (λ x y hS hT hk => das (wn rfl) (hk 6 rfl) ⟨SM.refl _, rfl⟩) ?_
  exact each_nil
 intro f107 a108 w109 hS110 hC111 A
 have A : St 25 [(3, (.pointer (some ⟨g3, 0, none⟩))), (4, (.bool false))] a108 := A.cut _ (fc (A.g 3 rfl) (fc ((A.g 4 rfl).trans (hC111 7 (nb_ rfl))) fn_))
 have m114 := m11.sm hS110 hM104
 have m115 := m7.sm hS110 hM105
 have b116 := hS110.below b12 (nt_ hB b12.size) hM103B
 have x117 := x13.sm (M := M103) hS110 (λ k hk hc => by rw [congrFun hM103 k] <;> repeat (rw [if_neg (by first | omega | omega)]))
 refine tn_<|we_<|tr_<|ret1 rfl A (v := (.bool false)) rfl ?_
 exact ⟨by simp only [beginsImmB, hb28, hb83, if_true, Bool.false_eq_true, if_false, Bool.and_true, Bool.and_false, Bool.true_and, Bool.false_and, Bool.or_true, Bool.or_false, Bool.true_or, Bool.false_or], x117.grown⟩
theorem begins_any (Bd gr gc : Nat) (lg : Lg) (s : Ps) (pt : Int) (yt : Tk) (w : World) (hB : Bd ≤ w.heap.size) (hBr : Bd ≤ gr) (hbr : Blk w gr (rdP lg gc s) 86) : Calls Tryz.prog 148 #[.pointer (some ⟨gr, 0, none⟩), J pt, .agg (tokC yt)] w λ e w' => e = .returned (.bool (beginsB lg pt yt)) ∧ Grow w w' := by
 have x0 : Mix [] w w := Mix.refl _ _
 have b0 : Below Bd w w := Below.refl _ _
 refine enter (n := 20) Tryz.func148 rfl rfl (nb_ rfl) λ _ A=>sw_<|qs A rfl (d_box (wn rfl) (A.ev rfl) λ g3 w4 eg5 hG6 (m7 : Blk w4 g3 (tokC yt) 28)=>?_)
 have ge8 : Bd ≤ g3 := eg5 ▸ (nt_ hB b0.size)
 have n9 := nn_ eg5 hbr
 have gx10 : w.heap.size ≤ g3 := eg5 ▸ x0.size
 have m11 := hbr.grow hG6
 have b12 := blg b0 hG6 (nt_ hB b0.size)
 have x13 := x0.grow hG6
 intro _ A
 refine Z 1 A rfl λ A=>qt_<|ws_<|sw_<|Z 1 A rfl λ A=>qt_<|wp_block<|sw_ ?_
 rcases eb_ (pt == 5) with hb20 | hb20
 ·skip
  have hq21 := eq_of_beq hb20
  refine B2 A rfl (bq hb20) λ A=>Z 1 A rfl λ A=>qt_<|ct_ A rfl<|sw_<|Z 1 A rfl λ A=>qs A rfl (dlr (cs := (tokC yt)) (wn rfl) (A.ev rfl) row28 m7 λ _ A=>C A rfl ent177 (beginsimm_any Bd gr gc lg s yt w4 (nt_ hB b12.size) hBr m11) ?_)
  rintro e33 w30 ⟨he32, hG31⟩
  have m34 := m11.grow hG31
  have m35 := m7.grow hG31
  have b36 := blg b12 hG31 (nt_ hB b12.size)
  have x37 := x13.grow hG31
  rcases eb_ (beginsImmB lg yt) with hb38 | hb38
  ·skip
   refine ⟨.bool true, he32.trans (ret_bool hb38), λ _ A=>Z 1 A rfl λ A=>qt_<|we_<|i_ret<|tr_<|ret1 rfl A (v := (.bool true)) rfl ?_⟩
   exact ⟨by simp only [beginsB, hb20, hb38, if_true, Bool.false_eq_true, if_false, Bool.and_true, Bool.and_false, Bool.true_and, Bool.false_and, Bool.or_true, Bool.or_false, Bool.true_or, Bool.false_or], x37.grown⟩
  refine ⟨.bool false, he32.trans (ret_bool hb38), λ _ A=>Z 1 A rfl λ A=>qt_<|we_<|i_ret<|tr_<|ret1 rfl A (v := (.bool false)) rfl ?_⟩
  exact ⟨by simp only [beginsB, hb20, hb38, if_true, Bool.false_eq_true, if_false, Bool.and_true, Bool.and_false, Bool.true_and, Bool.false_and, Bool.or_true, Bool.or_false, Bool.true_or, Bool.false_or], x37.grown⟩
 have hq49 := ne_of_beq hb20
 refine B2 A rfl (bq hb20) λ A=>Z 1 A rfl λ A=>qt_<|cf_ A rfl<|sw_ ?_
 rcases eb_ (pt == 6) with hb54 | hb54
 ·skip
  have hq55 := eq_of_beq hb54
  refine B2 A rfl (bq hb54) λ A=>Z 1 A rfl λ A=>qt_<|ct_ A rfl<|sw_<|qs A rfl (dlr (cs := (tokC yt)) (wn rfl) (A.ev rfl) row28 m7 λ _ A=>C A rfl ent178 (ismark_any yt [91] w4) ?_)
  rintro e65 w62 ⟨he64, hG63⟩
  have m66 := m11.grow hG63
  have m67 := m7.grow hG63
  have b68 := blg b12 hG63 (nt_ hB b12.size)
  have x69 := x13.grow hG63
  rcases eb_ (isMarkB yt [91]) with hb70 | hb70
  ·skip
   refine ⟨.bool true, he64.trans (ret_bool hb70), λ _ A=>Z 1 A rfl λ A=>qt_<|we_<|i_ret<|tr_<|ret1 rfl A (v := (.bool true)) rfl ?_⟩
   exact ⟨by simp only [beginsB, hb20, hb54, hb70, if_true, Bool.false_eq_true, if_false, Bool.and_true, Bool.and_false, Bool.true_and, Bool.false_and, Bool.or_true, Bool.or_false, Bool.true_or, Bool.false_or], x69.grown⟩
  refine ⟨.bool false, he64.trans (ret_bool hb70), λ _ A=>Z 1 A rfl λ A=>qt_<|we_<|i_ret<|tr_<|ret1 rfl A (v := (.bool false)) rfl ?_⟩
  exact ⟨by simp only [beginsB, hb20, hb54, hb70, if_true, Bool.false_eq_true, if_false, Bool.and_true, Bool.and_false, Bool.true_and, Bool.false_and, Bool.or_true, Bool.or_false, Bool.true_or, Bool.false_or], x69.grown⟩
 have hq81 := ne_of_beq hb54
 refine B2 A rfl (bq hb54) λ A=>Z 1 A rfl λ A=>qt_<|cf_ A rfl<|wk_<|i_norm<|tn_<|sw_<|F1 A rfl fo28_0 λ A=>qs A rfl (dld (v := (J yt.kind)) (wn rfl) (A.ev rfl) one3 (m7.cell rfl) λ _ A=>?_)
 rcases eb_ (yt.kind == 1) with hb90 | hb90
 ·skip
  have hq91 := eq_of_beq hb90
  refine B2 A rfl (bq hb90) λ A=>Z 1 A rfl λ A=>qt_<|we_<|ret1 rfl A (v := (.bool true)) rfl ?_
  exact ⟨by simp only [beginsB, hb20, hb54, hb90, if_true, Bool.false_eq_true, if_false, Bool.and_true, Bool.and_false, Bool.true_and, Bool.false_and, Bool.or_true, Bool.or_false, Bool.true_or, Bool.false_or], x13.grown⟩
 have hq96 := ne_of_beq hb90
 refine B2 A rfl (bq hb90) λ A=>Z 1 A rfl λ A=>qt_<|we_<|ret1 rfl A (v := (.bool false)) rfl ?_
 exact ⟨by simp only [beginsB, hb20, hb54, hb90, if_true, Bool.false_eq_true, if_false, Bool.and_true, Bool.and_false, Bool.true_and, Bool.false_and, Bool.or_true, Bool.or_false, Bool.true_or, Bool.false_or], x13.grown⟩
def RB (w : World) (g cap : Nat) (rows : List Rw) (t : TypeId) : Prop := ∃ c, w.heap[g]? = some (.cells c t (0, 0)) ∧ c.size = cap * 19 ∧ rows.length ≤ cap ∧ ∀ j r, rows[j]? = some r → w.rangeAt g (0 + j * 19) (rwE r)
section
variable {w w' : World} {g cap : Nat} {rows : List Rw} {t : TypeId}
theorem RB.lt (h : RB w g cap rows t) : g < w.heap.size := let ⟨_, hc, _⟩ := h; (Array.getElem?_eq_some_iff.1 hc).1
theorem RB.len (h : RB w g cap rows t) : rows.length ≤ cap := let ⟨_, _, _, hc, _⟩ := h; hc
theorem range_blk {b o : Nat} {cs : List Value} (hr : w.rangeAt b o cs) (hb : w'.heap[b]? = w.heap[b]?) : w'.rangeAt b o cs := fun j x hx => by
 rw [World.cell?_of_block (w := w) hb]; exact hr j x hx
theorem RB.same (h : RB w g cap rows t) (hb : w'.heap[g]? = w.heap[g]?) : RB w' g cap rows t := by
 obtain ⟨c, h1, h2, h3, h4⟩ := h
 exact ⟨c, by rw [hb]; exact h1, h2, h3, fun j r hr => range_blk (h4 j r hr) hb⟩
theorem RB.grow (h : RB w g cap rows t) (hg : Grow w w') : RB w' g cap rows t := h.same (hg.block g h.lt)
theorem RB.upd {g' : Nat} (h : RB w g cap rows t) (hu : Upd g' w w') (hne : g ≠ g') : RB w' g cap rows t := h.same (hu.block g hne)
theorem RB.mix {ks : List Nat} (h : RB w g cap rows t) (m : Mix ks w w') (hk : ks.contains g = false) : RB w' g cap rows t := h.same (m.block g h.lt hk)
theorem RB.sl (h : RB w g cap rows t) : Sl rwE 19 w.heap.size w (.slice (some ⟨g, 0, none⟩) rows.length cap) rows := by
 have hlt := h.lt
 obtain ⟨c, h1, h2, h3, h4⟩ := h
 exact ⟨_, _, rfl, h3, fun j r hr => ⟨g, 0, rfl, hlt, h4 j r hr⟩⟩
theorem RB.sln (h : RB w g cap rows t) {n : Nat} (hn : rows.length = n) : Sl rwE 19 w.heap.size w (.slice (some ⟨g, 0, none⟩) n cap) rows := by subst hn; exact h.sl
theorem rw_len (r : Rw) : (rwE r).length = 19 := rfl
theorem RB.there (h : RB w g cap rows t) {o n : Nat} (hn : o + n ≤ cap * 19) : w.there g o n := fun j hj => by
 obtain ⟨c, h1, h2, _⟩ := h
 have hb : Blk w g c t := h1
 exact ⟨by rw [hb.cell (v := c[o + j]) (by simp)]; rfl, hb.frozen _⟩
theorem upd_setCells (g : Nat) : ∀ (vs : List Value) (k : Nat) (w : World), Upd g w (w.setCells g k vs)
 | [], k, w => ⟨rfl, rfl, rfl, rfl, fun _ _ => rfl⟩
 | v :: r, k, w => by
  have h1 := upd_setCell w g k v
  have h2 := upd_setCells g r (k + 1) (w.setCell ⟨g, k, none⟩ v)
  exact ⟨h2.os.trans h1.os, h2.tape.trans h1.tape, h2.output.trans h1.output, h2.size.trans h1.size, fun j hj => (h2.block j hj).trans (h1.block j hj)⟩
theorem blk_setCells (g : Nat) {t : TypeId} : ∀ (vs : List Value) (k : Nat) (w : World) (c : Array Value), Blk w g c t → ∃ c', Blk (w.setCells g k vs) g c' t ∧ c'.size = c.size
 | [], k, w, c, h => ⟨c, h, rfl⟩
 | v :: r, k, w, c, h => by
  obtain ⟨c', h1, h2⟩ := blk_setCells g r (k + 1) (w.setCell ⟨g, k, none⟩ v) _ (h.set (k := k) v)
  exact ⟨c', h1, by rw [h2]; simp⟩
theorem RB.put (h : RB w g cap rows t) {i : Nat} {r : Rw} (hi : i < rows.length) : RB (w.setCells g (0 + i * 19) (rwE r)) g cap (rows.set i r) t := by
 have hth := h.there (o := 0 + i * 19) (n := 19) (by have := h.len; omega)
 obtain ⟨c, h1, h2, h3, h4⟩ := h
 obtain ⟨c', hb, hs⟩ := blk_setCells g (t := t) (rwE r) (0 + i * 19) w c h1
 refine ⟨c', hb, by rw [hs, h2], by rw [List.length_set]; exact h3, fun j x hx => ?_⟩
 rw [List.getElem?_set] at hx
 by_cases hj : i = j
 ·subst hj
  rw [if_pos rfl, if_pos hi] at hx
  cases hx
  exact World.rangeAt_setCells_same w g _ _ (by rw [rw_len]; exact hth)
 ·rw [if_neg hj] at hx
  exact World.rangeAt_setCells_apart (h4 j x hx) g _ _ (.inr (by rw [rw_len, rw_len]; omega))
theorem RB.cut (h : RB w g cap rows t) {i : Nat} {vs : List Value} {o : Nat} (hi : i ≤ rows.length) (ho : i * 19 ≤ o) : RB (w.setCells g o vs) g cap (rows.take i) t := by
 obtain ⟨c, h1, h2, h3, h4⟩ := h
 obtain ⟨c', hb, hs⟩ := blk_setCells g (t := t) vs o w c h1
 refine ⟨c', hb, by rw [hs, h2], by rw [List.length_take]; omega, fun j x hx => ?_⟩
 have hj : j < i := by have := get_lt hx; rw [List.length_take] at this; omega
 rw [List.getElem?_take_of_lt hj] at hx
 exact World.rangeAt_setCells_apart (h4 j x hx) g _ _ (.inr (.inl (by rw [rw_len]; omega)))
end
section
variable {P : Program} {ops : Array Oper} {a : Act} {w : World} {K : Value → World → Prop} {d : Option Tmp} {ty : TypeId} {pos : String} {af : Array Edge} {gd : Option (Nat × Bool)}
theorem d_putRow {t t' g cap i : Nat} {rows : List Rw} {r : Rw} {x y : Operand} (hw : Region.wanted { dst := d, op := .store t x y, type := ty, pos := pos, after := af, guard := gd } (yielded ops a.tmps) = true) (hx : a.eval x = .pointer (some ⟨g, 0 + i * 19, none⟩)) (hy : a.eval y = .agg (rwC r))
  (h1 : rowB P t 19 = true) (hb : RB w g cap rows t') (hi : i < rows.length) (ho : (rwC r).toList.all (·.oneCell') = true) (h : ∀ w', Upd g w w' → RB w' g cap (rows.set i r) t' → K undef w') :
  Does P ops { dst := d, op := .store t x y, type := ty, pos := pos, after := af, guard := gd } a w K := by
 have hth := hb.there (o := 0 + i * 19) (n := 19) (by have := hb.len; omega)
 have hr := run_storeAt_mid (P := P) w g (0 + i * 19) t (rwC r) hth (row_facts h1).2 (by rw [← Array.all_toList]; exact ho)
 refine does_unit (w' := w.setCells g (0 + i * 19) (rwE r)) hw ?_ (h _ (upd_setCells g _ _ w) (hb.put hi))
 unfold execOp
 simp only [hx, hy, Sem.run_bind, hr, Result.andThen_ok, Sem.run_pure]
 rfl
theorem d_from {t e g cap n i : Nat} {x lo : Operand} (hw : Region.wanted { dst := d, op := .slice t x (some lo) none none, type := ty, pos := pos, after := af, guard := gd } (yielded ops a.tmps) = true) (hx : a.eval x = .slice (some ⟨g, 0, none⟩) n cap) (hl : a.eval lo = .int .i64 (i : Int)) (ht : sliceB P t e 19 = true) (hi : i ≤ n) (hc : i < cap)
  (h : K (.slice (some ⟨g, i * 19, none⟩) (n - i) (cap - i)) w) : Does P ops { dst := d, op := .slice t x (some lo) none none, type := ty, pos := pos, after := af, guard := gd } a w K :=
 does_val hw (by
  obtain ⟨hu, hz⟩ := slice_facts ht
  have hsb : (Instr.sliceBounds true n cap (some (.int .i64 (i : Int))) none none).run P w = .ok (i, n, cap) w := by
   simp [Instr.sliceBounds, run_sliceBound (P := P) w .i64 (i : Int) n .sliceB (by omega) (by omega)]
  unfold execOp
  simp only [hx, hl, Option.map_some, Option.map_none, Instr.sliceAt, Instr.slice, Sem.run_bind, run_underlying hu, hsb, Result.andThen_ok, run_size hz, Sem.run_pure]
  rw [if_neg (by omega)]
  simp [Addr.add_mid]) h
theorem d_upto {t e g cap n i : Nat} {x hi_ : Operand} (hw : Region.wanted { dst := d, op := .slice t x none (some hi_) none, type := ty, pos := pos, after := af, guard := gd } (yielded ops a.tmps) = true) (hx : a.eval x = .slice (some ⟨g, 0, none⟩) n cap) (hl : a.eval hi_ = .int .i64 (i : Int)) (ht : sliceB P t e 19 = true) (hi : i ≤ cap)
  (h : K (.slice (some ⟨g, 0, none⟩) i cap) w) : Does P ops { dst := d, op := .slice t x none (some hi_) none, type := ty, pos := pos, after := af, guard := gd } a w K :=
 does_val hw (by
  obtain ⟨hu, hz⟩ := slice_facts ht
  have hsb : (Instr.sliceBounds true n cap none (some (.int .i64 (i : Int))) none).run P w = .ok (0, i, cap) w := by
   simp [Instr.sliceBounds, run_sliceBound (P := P) w .i64 (i : Int) cap _ (by omega) (by omega)]
  unfold execOp
  simp only [hx, hl, Option.map_some, Option.map_none, Instr.sliceAt, Instr.slice, Sem.run_bind, run_underlying hu, hsb, Result.andThen_ok, run_size hz, Sem.run_pure]
  simp [Addr.add_mid]) h
theorem d_clearRows {t e g cap n i : Nat} {Z : Array Value} {rows : List Rw} {x : Operand} {t' : TypeId} (hw : Region.wanted { dst := d, op := .call { callee := .builtin .clear, args := #[x], argTypes := #[t] }, type := ty, pos := pos, after := af, guard := gd } (yielded ops a.tmps) = true) (hx : a.eval x = .slice (some ⟨g, i * 19, none⟩) (n - i) (cap - i))
  (ht : sliceB P t e 19 = true) (hz : (P.info? e).map (·.zero) = some (some (.agg Z))) (hZ : Z.size = 19) (hZ1 : Z.toList.all (·.oneCell') = true) (hb : RB w g cap rows t') (hn : n = rows.length) (hi : i < n)
  (h : ∀ w', Upd g w w' → RB w' g cap (rows.take i) t' → K (.tuple #[]) w') : Does P ops { dst := d, op := .call { callee := .builtin .clear, args := #[x], argTypes := #[t] }, type := ty, pos := pos, after := af, guard := gd } a w K := by
 obtain ⟨hu, hzz⟩ := slice_facts ht
 have hlen := hb.len
 let vs := (Builtin.zeroCells Z (n - i)).toList
 have hvl : vs.length = (n - i) * 19 := by simp [vs, Builtin.zeroCells, hZ]
 have hv1 : ∀ v ∈ vs, v.oneCell' = true := by
  intro v hv
  simp [vs, Builtin.zeroCells] at hv
  obtain ⟨k, hk, rfl⟩ := hv
  have hk2 : k % Z.size < Z.size := Nat.mod_lt _ (by omega)
  rw [getElem!_pos Z _ hk2]
  exact (List.all_eq_true.1 hZ1) _ (by simp)
 have hth := hb.there (o := i * 19) (n := vs.length) (by rw [hvl]; omega)
 have hst := run_storeCells_cells (P := P) g (i * 19) vs 0 w (fun j hj => by simpa using (hth j hj).1) (fun j hj => by simpa using (hth j hj).2) hv1
 have hzv : (zeroValue e).run P w = .ok (.agg Z) w := by
  cases hq : P.info? e with
  | none => rw [hq] at hz; cases hz
  | some inf =>
   rw [hq] at hz
   simp only [Option.map_some, Option.some.injEq] at hz
   simp [zeroValue, typeInfo, hq, hz]
 obtain ⟨m, hm⟩ : ∃ m, n - i = m + 1 := ⟨n - i - 1, by omega⟩
 have hcl : (Builtin.clear_ #[t] ty #[.slice (some ⟨g, i * 19, none⟩) (n - i) (cap - i)]).run P w = .ok (.tuple #[]) (w.setCells g (i * 19) vs) := by
  have hst' : (storeCells ⟨g, i * 19, none⟩ (Builtin.zeroCells Z (m + 1)).toList).run P w = .ok () (w.setCells g (i * 19) vs) := by rw [← hm]; simpa using hst
  rw [hm]
  simp [Builtin.clear_, run_underlying hu, hzv, Value.cells, hst']
 refine does_val (w' := w.setCells g (i * 19) vs) hw ?_ (h _ (upd_setCells g _ _ w) (hb.cut (by omega) (Nat.le_refl _)))
 unfold execOp
 simp only [resolve, invoke, builtin, Sem.run_bind, Sem.run_pure, Result.andThen_ok, List.map_toArray, List.map_cons, List.map_nil, hx, hcl]
theorem d_makeFunc {f : FuncId} {cap : Array Operand} {lb : Array Value} (hw : Region.wanted { dst := d, op := .makeFunc (.func f) #[] cap, type := ty, pos := pos, after := af, guard := gd } (yielded ops a.tmps) = true) (hx : cap.map a.eval = lb) (h : K (.func (.func f) #[] lb) w) :
  Does P ops { dst := d, op := .makeFunc (.func f) #[] cap, type := ty, pos := pos, after := af, guard := gd } a w K :=
 does_val hw (by subst hx; unfold execOp; simp only [Instr.makeFunc, Sem.run_bind, Sem.run_pure, Result.andThen_ok, List.map_toArray, List.map_nil]) h
theorem d_callc {x : Operand} {f : FuncId} {lb : Array Value} {args : Array Operand} {ats : Array TypeId} {vs us : Array Value} {R : Ending → World → Prop} (hw : Region.wanted { dst := d, op := .call { callee := .value x, args := args, argTypes := ats }, type := ty, pos := pos, after := af, guard := gd } (yielded ops a.tmps) = true)
  (hf : a.eval x = .func (.func f) #[] lb) (hent : ((P.funcs[f]?).map fun fn => (fn.name == "runtime.NumGoroutine", fn.body.isNone)) = some (false, false)) (hx : args.map a.eval = vs) (hu : vs ++ lb = us) (hc : Calls P f us w R) (h : ∀ e w', R e w' → ∃ v, e = .returned v ∧ K v w') :
  Does P ops { dst := d, op := .call { callee := .value x, args := args, argTypes := ats }, type := ty, pos := pos, after := af, guard := gd } a w K :=
 does_enter hw (by
  subst hx; subst hu
  unfold execOp
  simp only [resolve, hf, Sem.run_bind, Deferred.ofValue, Sem.run_pure, Result.andThen_ok, invoke, Array.append_empty, Array.empty_append, enters hent]) hc h
end
def strikes (g : Lg) (k : Nat) (y : Tk) (r : Rw) : Bool := match r.parts[k]? with | some p => !beginsB g p y | none => true
theorem strikes_is {g : Lg} {k : Nat} {y : Tk} {r : Rw} {p : Int} (h : r.parts[k]? = some p) : strikes g k y r = !beginsB g p y := by unfold strikes; rw [h]
def fstI {α : Type} (f : α → Bool) : List α → Nat → Int
 | [], _ => -1
 | y :: l, k => if f y = true then (k : Int) else fstI f l (k + 1)
section
variable {α : Type} {f : α → Bool} {l : List α} {j : Nat} {y : α} {b : Nat}
theorem drop_atG (h : l[j]? = some y) : l.drop j = y :: l.drop (j + 1) := by
 obtain ⟨h1, h2⟩ := List.getElem?_eq_some_iff.1 h
 rw [List.drop_eq_getElem_cons h1, h2]
theorem fst_go (hy : l[j]? = some y) (h : f y = false) : fstI f (l.drop j) j = fstI f (l.drop (j + 1)) (j + 1) := by rw [drop_atG hy, fstI, if_neg (by simp [h])]
theorem fst_hit (hy : l[j]? = some y) (h : f y = true) : fstI f (l.drop j) j = (j : Int) := by rw [drop_atG hy, fstI, if_pos h]
theorem fst_end (h : l.length ≤ j) : fstI f (l.drop j) j = -1 := by rw [List.drop_eq_nil_of_le h, fstI]
theorem fst_none : ∀ (l : List α) (k : Nat), fstI f l k = -1 → ∀ y ∈ l, f y = false
 | [], _, _, y, hy => by cases hy
 | x :: l, k, h, y, hy => by
  rw [fstI] at h
  split at h
  ·omega
  ·next hx =>
   rcases List.mem_cons.1 hy with rfl | hy
   ·simpa using hx
   ·exact fst_none l (k + 1) h y hy
theorem fst_some : ∀ (l : List α) (k : Nat), fstI f l k ≠ -1 → ∃ i, fstI f l k = ((k + i : Nat) : Int) ∧ i < l.length ∧ (l.take i).filter (fun x => !f x) = l.take i ∧ (l.take (i + 1)).filter (fun x => !f x) = l.take i
 | [], k, h => absurd rfl h
 | x :: l, k, h => by
  rw [fstI] at h ⊢
  cases hx : f x with
  | true => exact ⟨0, by simp, by simp, by simp, by simp [hx]⟩
  | false =>
   rw [hx] at h
   simp only [Bool.false_eq_true, if_false] at h ⊢
   obtain ⟨i, h1, h2, h3, h4⟩ := fst_some l (k + 1) h
   refine ⟨i + 1, by rw [h1]; congr 1; omega, by simpa using h2, ?_, ?_⟩
   ·rw [List.take_succ_cons, List.filter_cons]; simp [hx, h3]
   ·rw [List.take_succ_cons, List.filter_cons]; simp [hx, h4]
end
structure Half (f : Rw → Bool) (rows cur : List Rw) (i j : Nat) : Prop where
 len : cur.length = rows.length
 le : i < j
 up : j ≤ rows.length
 kept : cur.take i = (rows.take j).filter (fun r => !f r)
 rest : cur.drop j = rows.drop j
theorem Half.at {f : Rw → Bool} {rows cur : List Rw} {i j : Nat} {r : Rw} (h : Half f rows cur i j) (hr : cur[j]? = some r) : rows[j]? = some r := by
 have : (cur.drop j)[0]? = some r := by rw [List.getElem?_drop]; simpa using hr
 rw [h.rest, List.getElem?_drop] at this; simpa using this
theorem Half.skip {f : Rw → Bool} {rows cur : List Rw} {i j : Nat} {r : Rw} (h : Half f rows cur i j) (hr : cur[j]? = some r) (hf : f r = true) : Half f rows cur i (j + 1) := by
 have hr' := h.at hr
 have hj := get_lt hr'
 refine ⟨h.len, by have := h.le; omega, hj, ?_, ?_⟩
 ·rw [h.kept, List.take_add_one, hr', List.filter_append]; simp [hf]
 ·have := congrArg (List.drop 1) h.rest
  simpa [List.drop_drop, Nat.add_comm] using this
theorem Half.keep {f : Rw → Bool} {rows cur : List Rw} {i j : Nat} {r : Rw} (h : Half f rows cur i j) (hr : cur[j]? = some r) (hf : f r = false) : Half f rows (cur.set i r) (i + 1) (j + 1) := by
 have hr' := h.at hr
 have hj := get_lt hr'
 have hle := h.le
 have hlen := h.len
 refine ⟨by rw [List.length_set]; exact h.len, by omega, hj, ?_, ?_⟩
 ·rw [List.take_add_one, List.getElem?_set_self (by omega), List.take_set_of_le (Nat.le_refl _), h.kept, List.take_add_one, hr', List.filter_append]; simp [hf]
 ·rw [List.drop_set_of_lt (by omega)]
  have := congrArg (List.drop 1) h.rest
  simpa [List.drop_drop, Nat.add_comm] using this
theorem Half.done {f : Rw → Bool} {rows cur : List Rw} {i j : Nat} (h : Half f rows cur i j) (hj : rows.length ≤ j) : cur.take i = rows.filter (fun r => !f r) ∧ i = (rows.filter (fun r => !f r)).length := by
 have h1 : cur.take i = rows.filter (fun r => !f r) := by rw [h.kept, List.take_of_length_le hj]
 refine ⟨h1, ?_⟩
 rw [← h1, List.length_take]
 have := h.le; have := h.up; have := h.len; omega
theorem ent147 : Ent Tryz.prog 147 = FF := by kernel_rfl
theorem ent148 : Ent Tryz.prog 148 = FF := by kernel_rfl
theorem one82 : oneB Tryz.prog 82 = true := by kernel_rfl
theorem clos_at (Bd gr gc : Nat) (lg : Lg) (s : Ps) (b3 b5 b7 k : Nat) (yt : Tk) (r : Rw) (yp : Int) (w : World) (hB : Bd ≤ w.heap.size) (hBr : Bd ≤ gr) (hbr : Blk w gr (rdP lg gc s) 86) (hB3 : Bd ≤ b3) (hB5 : Bd ≤ b5) (hB7 : Bd ≤ b7) (hb3 : Blk w b3 #[.pointer (some ⟨gr, 0, none⟩)] 82) (hb5 : Blk w b5 #[J ((k : Nat) : Int)] 3) (hb7 : Blk w b7 (tokC yt) 28) (hn3 : gr ≠ b3) (hn5 : gr ≠ b5) (hn7 : gr ≠ b7) (hn35 : b3 ≠ b5) (hn37 : b3 ≠ b7) (hn57 : b5 ≠ b7) (HP0 : Sl ptE 1 Bd w r.pv r.parts) (hyp : r.parts[k]? = some yp) : Calls Tryz.prog 147 #[.agg (rwC r), .pointer (some ⟨b3, 0, none⟩), .pointer (some ⟨b5, 0, none⟩), .pointer (some ⟨b7, 0, none⟩)] w λ e w' => e = .returned (.bool (!beginsB lg yp yt)) ∧ Grow w w' := by
 have x0 : Mix [] w w := Mix.refl _ _
 have b0 : Below Bd w w := Below.refl _ _
 refine enter (n := 15) Tryz.func147 rfl rfl (nb_ rfl) λ _ A=>sw_<|qs A rfl (d_box (wn rfl) (A.ev rfl) λ g3 w4 eg5 hG6 (m7 : Blk w4 g3 (rwC r) 105)=>?_)
 have ge8 : Bd ≤ g3 := eg5 ▸ (nt_ hB b0.size)
 have n9 := nn_ eg5 hbr
 have n10 := nn_ eg5 hb3
 have n11 := nn_ eg5 hb5
 have n12 := nn_ eg5 hb7
 have gx13 : w.heap.size ≤ g3 := eg5 ▸ x0.size
 have m14 := hbr.grow hG6
 have m15 := hb3.grow hG6
 have m16 := hb5.grow hG6
 have m17 := hb7.grow hG6
 have b18 := blg b0 hG6 (nt_ hB b0.size)
 have x19 := x0.grow hG6
 intro _ A
 refine Z 1 A rfl @λ a22 A=>qt_<|ws_ ?_
 obtain ⟨b24, o25, lt26, hr27, hix28⟩ := (HP0.below b18).at hyp
 rcases eb_ (beginsB lg yp yt) with hb29 | hb29
 ·skip
  have A : St 15 [(1, (.pointer (some ⟨b3, 0, none⟩))), (2, (.pointer (some ⟨b5, 0, none⟩))), (3, (.pointer (some ⟨b7, 0, none⟩))), (4, (.pointer (some ⟨g3, 0, none⟩)))] a22 := A.sub rfl
  let M32 : Nat → Option (Array Value) := λ _ => none
  have hM32 : M32 = λ _ => none := rfl
  clear_value M32
  have hM33 : M32 gr = none := (congrFun hM32 gr)
  have hM34 : M32 b3 = none := (congrFun hM32 b3)
  have hM35 : M32 b5 = none := (congrFun hM32 b5)
  have hM36 : M32 b7 = none := (congrFun hM32 b7)
  have hM37 : M32 g3 = none := (congrFun hM32 g3)
  have hM32B : ∀ k, k < Bd → M32 k = none := (λ k hk => (congrFun hM32 k))
  refine drawn (S := SM M32) (tabL [cv (.pointer (some ⟨gr, 0, none⟩)), cv (.pointer (some ⟨g3, 18, none⟩)), cv r.pv, cv (J ((k : Nat) : Int)), cv (.pointer (some ⟨b24, o25, none⟩)), cv (J yp), cv (.agg (tokC yt)), cv (.bool true), cv (.bool false), cv (.bool false)]) mixedY SM.refl SM.trans SM.drew A (by kernel_rfl) ?_ ?_
  ·skip
   have bD38 := blg b18 ((Grow.refl w4).drew) (nt_ hB b18.size)
   refine ec_ (λ x y hS hT hk => dld (v := (.pointer (some ⟨gr, 0, none⟩))) (wn rfl) (hT.ev rfl) one82 ((Blk.sm (w := w4.drew) m15 hS hM34).cell rfl) ⟨SM.refl _, rfl⟩)<|ec_ (λ x y hS hT hk => dfa (wn rfl) (hT.ev rfl) fo105_2 ⟨SM.refl _, rfl⟩)<|ec_ (λ x y hS hT hk => dld (v := r.pv) (wn rfl) (hk 1 rfl) one103 ((Blk.sm (w := w4.drew) m7 hS hM37).cell rfl) ⟨SM.refl _, rfl⟩)<|ec_ (λ x y hS hT hk => dld (v := (J ((k : Nat) : Int))) (wn rfl) (hT.ev rfl) one3 ((Blk.sm (w := w4.drew) m16 hS hM35).cell rfl) ⟨SM.refl _, rfl⟩)<|ec_ (λ x y hS hT hk => dia (j := k) (wn rfl) (hk 2 rfl) (hk 3 rfl) slc103 hix28 (get_lt hyp) ⟨SM.refl _, rfl⟩)<|ec_ (λ x y hS hT hk => dld (v := (J yp)) (wn rfl) (hk 4 rfl) one109 ((range_sm (w := w4.drew) hr27 hS (Nat.lt_of_lt_of_le lt26 (nt_ hB b18.size)) (hM32B _ lt26)) 0 _ rfl) ⟨SM.refl _, rfl⟩)<|ec_ (λ x y hS hT hk => dlr (cs := (tokC yt)) (wn rfl) (hT.ev rfl) row28 (Blk.sm (w := w4.drew) m17 hS hM36) ⟨SM.refl _, rfl⟩)<|ec_ (λ x y hS hT hk => dcl (wn rfl) ent148 (map3 (show x.eval _ = (.pointer (some ⟨gr, 0, none⟩)) from (hk 0 rfl)) (show x.eval _ = (J yp) from (hk 5 rfl)) (show x.eval _ = (.agg (tokC yt)) from (hk 6 rfl))) (begins_any Bd gr gc lg s yp yt y (nt_ (nt_ hB b18.size) hS.size) hBr (Blk.sm (w := w4.drew) m14 hS hM33)) (λ _ _ ⟨he, hG⟩ => ⟨(.bool true), (he.trans (ret_bool hb29)), SM.grow hG, rfl⟩))<|ec_ (λ x y hS hT hk => dnt (wn rfl) (hk 7 rfl) ⟨SM.refl _, rfl⟩)<|ec_ (λ x y hS hT hk => das (wn rfl) (hk 8 rfl) ⟨SM.refl _, rfl⟩) ?_
   exact each_nil
  intro f39 a40 w41 hS42 hC43 A
  have A : St 15 [(5, (.bool false))] a40 := A.cut _ (fc ((A.g 5 rfl).trans (hC43 9 (nb_ rfl))) fn_)
  have m46 := m14.sm hS42 hM33
  have m47 := m15.sm hS42 hM34
  have m48 := m16.sm hS42 hM35
  have m49 := m17.sm hS42 hM36
  have m50 := m7.sm hS42 hM37
  have b51 := hS42.below b18 (nt_ hB b18.size) hM32B
  have hr52 := range_sm hr27 hS42 (Nat.lt_of_lt_of_le lt26 (nt_ hB b18.size)) (hM32B _ lt26)
  have x53 := x19.sm (M := M32) hS42 (λ k hk hc => by rw [congrFun hM32 k] <;> repeat (rw [if_neg (by first | omega | omega)]))
  refine tn_<|we_<|ret1 rfl A (v := (.bool false)) rfl ?_
  exact ⟨by simp only [hb29, if_true, Bool.false_eq_true, if_false] <;> rfl, x53.grown⟩
 have A : St 15 [(1, (.pointer (some ⟨b3, 0, none⟩))), (2, (.pointer (some ⟨b5, 0, none⟩))), (3, (.pointer (some ⟨b7, 0, none⟩))), (4, (.pointer (some ⟨g3, 0, none⟩)))] a22 := A.sub rfl
 let M56 : Nat → Option (Array Value) := λ _ => none
 have hM56 : M56 = λ _ => none := rfl
 clear_value M56
 have hM57 : M56 gr = none := (congrFun hM56 gr)
 have hM58 : M56 b3 = none := (congrFun hM56 b3)
 have hM59 : M56 b5 = none := (congrFun hM56 b5)
 have hM60 : M56 b7 = none := (congrFun hM56 b7)
 have hM61 : M56 g3 = none := (congrFun hM56 g3)
 have hM56B : ∀ k, k < Bd → M56 k = none := (λ k hk => (congrFun hM56 k))
 refine drawn (S := SM M56) (tabL [cv (.pointer (some ⟨gr, 0, none⟩)), cv (.pointer (some ⟨g3, 18, none⟩)), cv r.pv, cv (J ((k : Nat) : Int)), cv (.pointer (some ⟨b24, o25, none⟩)), cv (J yp), cv (.agg (tokC yt)), cv (.bool false), cv (.bool true), cv (.bool true)]) mixedY SM.refl SM.trans SM.drew A (by kernel_rfl) ?_ ?_
 ·skip
  have bD62 := blg b18 ((Grow.refl w4).drew) (nt_ hB b18.size)
  refine ec_ (λ x y hS hT hk => dld (v := (.pointer (some ⟨gr, 0, none⟩))) (wn rfl) (hT.ev rfl) one82 ((Blk.sm (w := w4.drew) m15 hS hM58).cell rfl) ⟨SM.refl _, rfl⟩)<|ec_ (λ x y hS hT hk => dfa (wn rfl) (hT.ev rfl) fo105_2 ⟨SM.refl _, rfl⟩)<|ec_ (λ x y hS hT hk => dld (v := r.pv) (wn rfl) (hk 1 rfl) one103 ((Blk.sm (w := w4.drew) m7 hS hM61).cell rfl) ⟨SM.refl _, rfl⟩)<|ec_ (λ x y hS hT hk => dld (v := (J ((k : Nat) : Int))) (wn rfl) (hT.ev rfl) one3 ((Blk.sm (w := w4.drew) m16 hS hM59).cell rfl) ⟨SM.refl _, rfl⟩)<|ec_ (λ x y hS hT hk => dia (j := k) (wn rfl) (hk 2 rfl) (hk 3 rfl) slc103 hix28 (get_lt hyp) ⟨SM.refl _, rfl⟩)<|ec_ (λ x y hS hT hk => dld (v := (J yp)) (wn rfl) (hk 4 rfl) one109 ((range_sm (w := w4.drew) hr27 hS (Nat.lt_of_lt_of_le lt26 (nt_ hB b18.size)) (hM56B _ lt26)) 0 _ rfl) ⟨SM.refl _, rfl⟩)<|ec_ (λ x y hS hT hk => dlr (cs := (tokC yt)) (wn rfl) (hT.ev rfl) row28 (Blk.sm (w := w4.drew) m17 hS hM60) ⟨SM.refl _, rfl⟩)<|ec_ (λ x y hS hT hk => dcl (wn rfl) ent148 (map3 (show x.eval _ = (.pointer (some ⟨gr, 0, none⟩)) from (hk 0 rfl)) (show x.eval _ = (J yp) from (hk 5 rfl)) (show x.eval _ = (.agg (tokC yt)) from (hk 6 rfl))) (begins_any Bd gr gc lg s yp yt y (nt_ (nt_ hB b18.size) hS.size) hBr (Blk.sm (w := w4.drew) m14 hS hM57)) (λ _ _ ⟨he, hG⟩ => ⟨(.bool false), (he.trans (ret_bool hb29)), SM.grow hG, rfl⟩))<|ec_ (λ x y hS hT hk => dnt (wn rfl) (hk 7 rfl) ⟨SM.refl _, rfl⟩)<|ec_ (λ x y hS hT hk => das (wn rfl) (hk 8 rfl) ⟨SM.refl _, rfl⟩) ?_
  exact each_nil
 intro f63 a64 w65 hS66 hC67 A
 have A : St 15 [(5, (.bool true))] a64 := A.cut _ (fc ((A.g 5 rfl).trans (hC67 9 (nb_ rfl))) fn_)
 have m70 := m14.sm hS66 hM57
 have m71 := m15.sm hS66 hM58
 have m72 := m16.sm hS66 hM59
 have m73 := m17.sm hS66 hM60
 have m74 := m7.sm hS66 hM61
 have b75 := hS66.below b18 (nt_ hB b18.size) hM56B
 have hr76 := range_sm hr27 hS66 (Nat.lt_of_lt_of_le lt26 (nt_ hB b18.size)) (hM56B _ lt26)
 have x77 := x19.sm (M := M56) hS66 (λ k hk hc => by rw [congrFun hM56 k] <;> repeat (rw [if_neg (by first | omega | omega)]))
 refine tn_<|we_<|ret1 rfl A (v := (.bool true)) rfl ?_
 exact ⟨by simp only [hb29, if_true, Bool.false_eq_true, if_false] <;> rfl, x77.grown⟩
theorem clos_any (Bd gr gc : Nat) (lg : Lg) (s : Ps) (b3 b5 b7 k : Nat) (yt : Tk) (r : Rw) (w : World) (hB : Bd ≤ w.heap.size) (hBr : Bd ≤ gr) (hbr : Blk w gr (rdP lg gc s) 86) (hB3 : Bd ≤ b3) (hB5 : Bd ≤ b5) (hB7 : Bd ≤ b7) (hb3 : Blk w b3 #[.pointer (some ⟨gr, 0, none⟩)] 82) (hb5 : Blk w b5 #[J ((k : Nat) : Int)] 3) (hb7 : Blk w b7 (tokC yt) 28) (hn3 : gr ≠ b3) (hn5 : gr ≠ b5) (hn7 : gr ≠ b7) (hn35 : b3 ≠ b5) (hn37 : b3 ≠ b7) (hn57 : b5 ≠ b7) (HP0 : Sl ptE 1 Bd w r.pv r.parts) (hk : k < r.parts.length) : Calls Tryz.prog 147 #[.agg (rwC r), .pointer (some ⟨b3, 0, none⟩), .pointer (some ⟨b5, 0, none⟩), .pointer (some ⟨b7, 0, none⟩)] w λ e w' => e = .returned (.bool (strikes lg k yt r)) ∧ Grow w w' := by
 have hy := List.getElem?_eq_getElem hk
 rw [strikes_is hy]
 exact clos_at Bd gr gc lg s b3 b5 b7 k yt r _ w hB hBr hbr hB3 hB5 hB7 hb3 hb5 hb7 hn3 hn5 hn7 hn35 hn37 hn57 HP0 hy
theorem ixfunc_any (Bd gr gc : Nat) (lg : Lg) (s : Ps) (b3 b5 b7 k : Nat) (yt : Tk) (g0 cap : Nat) (rows : List Rw) (w : World) (hB : Bd ≤ w.heap.size) (hBr : Bd ≤ gr) (hbr : Blk w gr (rdP lg gc s) 86) (hB3 : Bd ≤ b3) (hB5 : Bd ≤ b5) (hB7 : Bd ≤ b7) (hb3 : Blk w b3 #[.pointer (some ⟨gr, 0, none⟩)] 82) (hb5 : Blk w b5 #[J ((k : Nat) : Int)] 3) (hb7 : Blk w b7 (tokC yt) 28) (hn3 : gr ≠ b3) (hn5 : gr ≠ b5) (hn7 : gr ≠ b7) (hn35 : b3 ≠ b5) (hn37 : b3 ≠ b7) (hn57 : b5 ≠ b7) (hBg0 : Bd ≤ g0) (hrb : RB w g0 cap rows 105) (hng : gr ≠ g0) (hn3g : b3 ≠ g0) (hn5g : b5 ≠ g0) (hn7g : b7 ≠ g0) (hPP : ∀ r ∈ rows, Sl ptE 1 Bd w r.pv r.parts) (hkk : ∀ r ∈ rows, k < r.parts.length) (hrl : rows.length ≤ 1000) : Calls Tryz.prog 176 #[.slice (some ⟨g0, 0, none⟩) rows.length cap, .func (.func 147) #[] #[.pointer (some ⟨b3, 0, none⟩), .pointer (some ⟨b5, 0, none⟩), .pointer (some ⟨b7, 0, none⟩)]] w λ e w' => e = .returned (J (fstI (strikes lg k yt) rows 0)) ∧ Grow w w' := by
 have x0 : Mix [] w w := Mix.refl _ _
 have b0 : Below Bd w w := Below.refl _ _
 refine enter (n := 19) Tryz.func176 rfl rfl (nb_ rfl) λ _ A=>sw_<|Z 1 A rfl λ A=>qt_<|ws_<|sw_<|Z 1 A rfl λ A=>qs A rfl (dle (n := rows.length) (wn rfl) (A.ev rfl) slc54 hrb.sl.form λ _ A=>Z 1 A rfl λ A=>qt_ ?_)
 refine wp_block<|loop_by (λ m12 a13 w14 => ∃ j11 : Nat, m12 = rows.length - j11 ∧ (j11 ≤ rows.length ∧ fstI (strikes lg k yt) (rows.drop j11) j11 = fstI (strikes lg k yt) rows 0) ∧ St 19 [(0, (.slice (some ⟨g0, 0, none⟩) rows.length cap)), (1, (.func (.func 147) #[] #[.pointer (some ⟨b3, 0, none⟩), .pointer (some ⟨b5, 0, none⟩), .pointer (some ⟨b7, 0, none⟩)])), (4, (J 0)), (7, (J ((rows.length : Nat) : Int))), (8, (J ((j11 : Nat) : Int)))] a13 ∧ Below Bd w w14 ∧ Blk w14 gr (rdP lg gc s) 86 ∧ Blk w14 b3 #[.pointer (some ⟨gr, 0, none⟩)] 82 ∧ Blk w14 b5 #[J ((k : Nat) : Int)] 3 ∧ Blk w14 b7 (tokC yt) 28 ∧ RB w14 g0 cap rows 105 ∧ Mix [] w w14) (rows.length - 0) ⟨0, rfl, ⟨by omega, rfl⟩, A.cut _ (fc (A.g 0 rfl) (fc (A.g 1 rfl) (fc (A.g 4 rfl) (fc (A.g 7 rfl) (fc ((A.g 8 rfl).trans (congrArg (Value.int .i64) (by omega))) fn_))))), b0, hbr, hb3, hb5, hb7, hrb, x0⟩ ?_
 rintro m12 a13 w14 ⟨j11, hm17, hc18, A, b16, m19, m20, m21, m22, m23, x24⟩
 obtain ⟨hj1, hj2⟩ := hc18
 refine sw_ ?_
 rcases eb_ (decide (((j11 : Nat) : Int) < ((rows.length : Nat) : Int))) with hb25 | hb25
 ·skip
  have hq26 := dt_ hb25
  refine B2 A rfl (bl hb25) λ A=>qt_<|ws_<|ct_ A rfl<|wk_<|tn_<|ws_<|wp_block<|sw_<|Z 2 A rfl λ A=>qt_ ?_
  refine sw_<|Z 3 A rfl λ A=>?_
  obtain ⟨y39, hy40⟩ : ∃ y39, rows[j11]? = some y39 := ⟨_, List.getElem?_eq_getElem (show j11 < rows.length by omega)⟩
  obtain ⟨b41, o42, lt43, hr44, hix45⟩ := m23.sl.at hy40
  refine qs A rfl (dia (j := j11) (wn rfl) (A.ev rfl) (A.ev rfl) slc54 hix45 (get_lt hy40) λ _ A=>qs A rfl (dlm (cs := (rwC y39)) (wn rfl) (A.ev rfl) row105 hr44 λ _ A=>qs A rfl (d_callc (f := 147) (wn rfl) (A.ev rfl) ent147 (map1 (A.ev rfl)) rfl (clos_any Bd gr gc lg s b3 b5 b7 k yt y39 w14 (nt_ hB b16.size) hBr m19 hB3 hB5 hB7 m20 m21 m22 hn3 hn5 hn7 hn35 hn37 hn57 ((hPP y39 (List.mem_of_getElem? hy40)).below b16) (hkk y39 (List.mem_of_getElem? hy40))) ?_)))
  rintro e53 w50 ⟨he52, hG51⟩
  have m54 := m19.grow hG51
  have m55 := m20.grow hG51
  have m56 := m21.grow hG51
  have m57 := m22.grow hG51
  have m58 := m23.grow hG51
  have hr59 := range_below hr44 hG51 lt43
  have lt60 := Nat.lt_of_lt_of_le lt43 hG51.size
  have b61 := blg b16 hG51 (nt_ hB b16.size)
  have x62 := x24.grow hG51
  rcases eb_ (strikes lg k yt y39) with hb63 | hb63
  ·skip
   refine ⟨.bool true, he52.trans (ret_bool hb63), λ _ A=>qt_<|ct_ A rfl<|sw_<|Z 2 A rfl λ A=>qt_<|we_<|i_ret<|tr_<|tr_<|i_ret ?_⟩
   refine tr_<|ret1 rfl A (v := (J ((j11 : Nat) : Int))) rfl ?_
   exact ⟨by rw [← hj2, fst_hit hy40 hb63], x62.grown⟩
  refine ⟨.bool false, he52.trans (ret_bool hb63), λ _ A=>qt_<|cf_ A rfl<|wk_<|i_norm<|tn_<|wr_<|B2 A rfl (b_addE (j11 + 1) (by omega) (by omega)) λ A=>Z 1 A rfl λ A=>qt_ ?_⟩
  have hgo := (fst_go (f := (strikes lg k yt)) hy40 hb63).symm.trans hj2
  exact ⟨rows.length - (j11 + 1), (by rw [hm17]; omega), j11 + 1, rfl, ⟨by omega, hgo⟩, A.sub rfl, b61, m54, m55, m56, m57, m58, x62⟩
 have hq78 := df_ hb25
 refine B2 A rfl (bl hb25) λ A=>qt_<|ws_<|cf_ A rfl<|wp_exit<|t_exit<|t_exit<|i_here<|tn_<|sw_<|Z 1 A rfl λ A=>qe_ ?_
 refine tn_<|we_<|ret1 rfl A (v := (J (-1))) rfl ?_
 exact ⟨by rw [← hj2, fst_end (show rows.length ≤ j11 by omega)], x24.grown⟩
theorem ent176 : Ent Tryz.prog 176 = FF := by kernel_rfl
theorem zag105 : (Tryz.prog.info? 105).map (·.zero) = some (some (.agg #[.string (S []), J 0, J 0, J 0, J 0, J 0, J 0, J 0, J 0, J 0, J 0, .bool false, .bool false, .bool false, J 0, J 0, J 0, .bool false, .slice none 0 0])) := by kernel_rfl
theorem delfunc_any (Bd gr gc : Nat) (lg : Lg) (s : Ps) (b3 b5 b7 k : Nat) (yt : Tk) (g0 cap : Nat) (rows : List Rw) (w : World) (hB : Bd ≤ w.heap.size) (hBr : Bd ≤ gr) (hbr : Blk w gr (rdP lg gc s) 86) (hB3 : Bd ≤ b3) (hB5 : Bd ≤ b5) (hB7 : Bd ≤ b7) (hb3 : Blk w b3 #[.pointer (some ⟨gr, 0, none⟩)] 82) (hb5 : Blk w b5 #[J ((k : Nat) : Int)] 3) (hb7 : Blk w b7 (tokC yt) 28) (hn3 : gr ≠ b3) (hn5 : gr ≠ b5) (hn7 : gr ≠ b7) (hn35 : b3 ≠ b5) (hn37 : b3 ≠ b7) (hn57 : b5 ≠ b7) (hBg0 : Bd ≤ g0) (hrb : RB w g0 cap rows 105) (hng : gr ≠ g0) (hn3g : b3 ≠ g0) (hn5g : b5 ≠ g0) (hn7g : b7 ≠ g0) (hPP : ∀ r ∈ rows, Sl ptE 1 Bd w r.pv r.parts) (hkk : ∀ r ∈ rows, k < r.parts.length) (hrl : rows.length ≤ 1000) : Calls Tryz.prog 146 #[.slice (some ⟨g0, 0, none⟩) rows.length cap, .func (.func 147) #[] #[.pointer (some ⟨b3, 0, none⟩), .pointer (some ⟨b5, 0, none⟩), .pointer (some ⟨b7, 0, none⟩)]] w λ e w' => e = .returned (.slice (some ⟨g0, 0, none⟩) (rows.filter (λ r => !strikes lg k yt r)).length cap) ∧ Mix [g0] w w' ∧ RB w' g0 cap (rows.filter (λ r => !strikes lg k yt r)) 105 := by
 have x0 : Mix [g0] w w := Mix.refl _ _
 have b0 : Below Bd w w := Below.refl _ _
 refine enter (n := 42) Tryz.func146 rfl rfl (nb_ rfl) λ _ A=>sw_<|Z 1 A rfl λ A=>qt_<|sw_<|Z 2 A rfl λ A=>C A rfl ent176 (ixfunc_any Bd gr gc lg s b3 b5 b7 k yt g0 cap rows w (nt_ hB b0.size) hBr hbr hB3 hB5 hB7 hb3 hb5 hb7 hn3 hn5 hn7 hn35 hn37 hn57 hBg0 hrb hng hn3g hn5g hn7g (λ r hr => (hPP r hr).below b0) hkk hrl) ?_
 rintro e12 w9 ⟨he11, hG10⟩
 have m13 := hbr.grow hG10
 have m14 := hb3.grow hG10
 have m15 := hb5.grow hG10
 have m16 := hb7.grow hG10
 have m17 := hrb.grow hG10
 have b18 := blg b0 hG10 (nt_ hB b0.size)
 have x19 := x0.grow hG10
 by_cases hx20 : fstI (strikes lg k yt) rows 0 = -1
 ·skip
  refine ⟨J (-1), he11.trans (by rw [hx20]), λ _ A=>Z 1 A rfl λ A=>qt_<|ws_<|sw_<|Z 1 A rfl λ A=>B2 A rfl (b_eq _ _ (-1) (-1) true _ rfl) λ A=>qt_<|ct_ A rfl<|sw_ ?_⟩
  refine Z 2 A rfl λ A=>qt_<|we_<|tr_<|ret1 rfl A (v := (.slice (some ⟨g0, 0, none⟩) rows.length cap)) rfl ?_
  have hf : rows.filter (λ r => !strikes lg k yt r) = rows := List.filter_eq_self.2 (λ r hr => by rw [fst_none rows 0 hx20 r hr]; rfl)
  rw [hf]
  exact ⟨rfl, x19, m17⟩
 obtain ⟨i0, hi1, hi2, hi3, hi4⟩ := fst_some rows 0 hx20
 rw [Nat.zero_add] at hi1
 refine ⟨J ((i0 : Nat) : Int), he11.trans (by rw [hi1]), λ _ A=>Z 1 A rfl λ A=>qt_<|ws_<|sw_<|Z 1 A rfl λ A=>B2 A rfl (b_eq _ _ ((i0 : Nat) : Int) (-1) false _ (beq_eq_false_iff_ne.2 (by omega))) λ A=>qt_<|cf_ A rfl<|wk_<|tn_ ?_⟩
 refine ws_<|sw_<|Z 1 A rfl λ A=>B2 A rfl (b_addE (i0 + 1) (by omega) (by omega)) λ A=>Z 1 A rfl λ A=>qt_<|wp_block<|loop_by (λ m50 a51 w52 => ∃ i47 : Nat, ∃ j48 : Nat, ∃ cur49 : List Rw, m50 = rows.length - j48 ∧ (Half (strikes lg k yt) rows cur49 i47 j48) ∧ St 42 [(0, (.slice (some ⟨g0, 0, none⟩) rows.length cap)), (1, (.func (.func 147) #[] #[.pointer (some ⟨b3, 0, none⟩), .pointer (some ⟨b5, 0, none⟩), .pointer (some ⟨b7, 0, none⟩)])), (4, (.slice none 0 0)), (5, (J ((i47 : Nat) : Int))), (6, (J ((j48 : Nat) : Int)))] a51 ∧ Below Bd w w52 ∧ Blk w52 gr (rdP lg gc s) 86 ∧ Blk w52 b3 #[.pointer (some ⟨gr, 0, none⟩)] 82 ∧ Blk w52 b5 #[J ((k : Nat) : Int)] 3 ∧ Blk w52 b7 (tokC yt) 28 ∧ RB w52 g0 cap cur49 105 ∧ Mix [g0] w w52) (rows.length - (i0 + 1)) ⟨i0, i0 + 1, rows, rfl, ⟨rfl, by omega, by omega, hi4.symm, rfl⟩, A.sub rfl, b18, m13, m14, m15, m16, m17, x19⟩ ?_
 rintro m50 a51 w52 ⟨i47, j48, cur49, hm55, hc56, A, b54, m57, m58, m59, m60, m61, x62⟩
 have hHl := hc56.len
 have hHi := hc56.le
 have hHu := hc56.up
 have hcap := m61.len
 refine ws_<|sw_<|Z 2 A rfl λ A=>qs A rfl (dle (n := rows.length) (wn rfl) (A.ev rfl) slc54 hrb.sl.form λ _ A=>?_)
 rcases eb_ (decide (((j48 : Nat) : Int) < ((rows.length : Nat) : Int))) with hb69 | hb69
 ·skip
  have hq70 := dt_ hb69
  refine B2 A rfl (bl hb69) λ A=>qt_<|ct_ A rfl<|wk_<|tn_<|ws_<|wp_block<|sw_<|Z 2 A rfl λ A=>?_
  obtain ⟨y77, hy78⟩ : ∃ y77, cur49[j48]? = some y77 := ⟨_, List.getElem?_eq_getElem (show j48 < cur49.length by omega)⟩
  obtain ⟨b79, o80, lt81, hr82, hix83⟩ := (m61.sln hHl).at hy78
  refine qs A rfl (dia (j := j48) (wn rfl) (A.ev rfl) (A.ev rfl) slc54 hix83 (get_lt hy78) λ _ A=>qs A rfl (dlm (cs := (rwC y77)) (wn rfl) (A.ev rfl) row105 hr82 λ _ A=>qs A rfl (dal (wn rfl) zero105 λ g88 w89 eg90 hG91 (m92 : Blk w89 g88 #[.string (S []), J 0, J 0, J 0, J 0, J 0, J 0, J 0, J 0, J 0, J 0, .bool false, .bool false, .bool false, J 0, J 0, J 0, .bool false, .slice none 0 0] 105)=>?_)))
  have ge93 : Bd ≤ g88 := eg90 ▸ (nt_ hB b54.size)
  have n94 : gr ≠ g88 := λ h => ni_ _ ((h.trans eg90) ▸ m57.lt)
  have n95 : b3 ≠ g88 := λ h => ni_ _ ((h.trans eg90) ▸ m58.lt)
  have n96 : b5 ≠ g88 := λ h => ni_ _ ((h.trans eg90) ▸ m59.lt)
  have n97 : b7 ≠ g88 := λ h => ni_ _ ((h.trans eg90) ▸ m60.lt)
  have n98 : g0 ≠ g88 := λ h => ni_ _ ((h.trans eg90) ▸ m61.lt)
  have gx99 : w.heap.size ≤ g88 := eg90 ▸ x62.size
  have m100 := m57.grow hG91
  have m101 := m58.grow hG91
  have m102 := m59.grow hG91
  have m103 := m60.grow hG91
  have m104 := m61.grow hG91
  have hr105 := range_below hr82 hG91 lt81
  have lt106 := Nat.lt_of_lt_of_le lt81 hG91.size
  have b107 := blg b54 hG91 (nt_ hB b54.size)
  have x108 := x62.grow hG91
  intro _ A
  refine qs A rfl (dsr (wn rfl) (A.ev rfl) (A.ev rfl) row105 m92 rfl (rw_one (hPP y77 (List.mem_of_getElem? (hc56.at hy78)))) λ w111 hU112 (m113 : Blk w111 g88 (rwC y77) 105)=>?_)
  have m114 := m100.upd hU112 n94
  have m115 := m101.upd hU112 n95
  have m116 := m102.upd hU112 n96
  have m117 := m103.upd hU112 n97
  have m118 := m104.upd hU112 n98
  have b119 := hU112.below b107 ge93
  have x120 := x108.updOut hU112 gx99
  intro _ A
  refine qt_<|sw_<|Z 1 A rfl λ A=>qs A rfl (dlr (cs := (rwC y77)) (wn rfl) (A.ev rfl) row105 m113 λ _ A=>qs A rfl (d_callc (f := 147) (wn rfl) (A.ev rfl) ent147 (map1 (A.ev rfl)) rfl (clos_any Bd gr gc lg s b3 b5 b7 k yt y77 w111 (nt_ hB b119.size) hBr m114 hB3 hB5 hB7 m115 m116 m117 hn3 hn5 hn7 hn35 hn37 hn57 ((hPP y77 (List.mem_of_getElem? (hc56.at hy78))).below b119) (hkk y77 (List.mem_of_getElem? (hc56.at hy78)))) ?_))
  rintro e130 w127 ⟨he129, hG128⟩
  have m131 := m114.grow hG128
  have m132 := m115.grow hG128
  have m133 := m116.grow hG128
  have m134 := m117.grow hG128
  have m135 := m118.grow hG128
  have m136 := m113.grow hG128
  have b137 := blg b119 hG128 (nt_ hB b119.size)
  have x138 := x120.grow hG128
  rcases eb_ (strikes lg k yt y77) with hb139 | hb139
  ·skip
   refine ⟨.bool true, he129.trans (ret_bool hb139), λ _ A=>Z 1 A rfl λ A=>qt_<|cf_ A rfl<|wk_<|i_norm<|tn_<|wr_<|Z 1 A rfl λ A=>B2 A rfl (b_addE (j48 + 1) (by omega) (by omega)) λ A=>Z 1 A rfl λ A=>qt_ ?_⟩
   have hgo := hc56.skip hy78 hb139
   exact ⟨rows.length - (j48 + 1), (by rw [hm55]; omega), i47, j48 + 1, cur49, rfl, hgo, A.sub rfl, b137, m131, m132, m133, m134, m135, x138⟩
  refine ⟨.bool false, he129.trans (ret_bool hb139), λ _ A=>Z 1 A rfl λ A=>qt_<|ct_ A rfl<|sw_<|Z 2 A rfl λ A=>qs A rfl (dlr (cs := (rwC y77)) (wn rfl) (A.ev rfl) row105 m136 λ _ A=>qs A rfl (dia (n := rows.length) (j := i47) (wn rfl) (A.ev rfl) (A.ev rfl) slc54 ⟨0, cap, rfl, rfl⟩ (by omega) λ _ A=>qs A rfl (d_putRow (wn rfl) (A.ev rfl) (A.ev rfl) row105 m135 (by omega) (rw_one (hPP y77 (List.mem_of_getElem? (hc56.at hy78)))) λ w164 hU165 m166=>?_)))⟩
  have m167 := m131.upd hU165 hng
  have m168 := m132.upd hU165 hn3g
  have m169 := m133.upd hU165 hn5g
  have m170 := m134.upd hU165 hn7g
  have m171 := m136.upd hU165 (Ne.symm n98)
  have b172 := hU165.below b137 hBg0
  have x173 := x138.updIn hU165 (in1 g0)
  intro _ A
  refine qt_<|wr_<|Z 1 A rfl λ A=>B2 A rfl (b_addE (i47 + 1) (by omega) (by omega)) λ A=>Z 1 A rfl λ A=>qe_<|i_norm<|tn_<|wr_<|Z 1 A rfl λ A=>B2 A rfl (b_addE (j48 + 1) (by omega) (by omega)) λ A=>Z 1 A rfl λ A=>qe_ ?_
  refine tn_ ?_
  have hgo := hc56.keep hy78 hb139
  exact ⟨rows.length - (j48 + 1), (by rw [hm55]; omega), i47 + 1, j48 + 1, (cur49.set i47 y77), rfl, hgo, A.sub rfl, b172, m167, m168, m169, m170, m166, x173⟩
 have hq188 := df_ hb69
 refine B2 A rfl (bl hb69) λ A=>qt_<|cf_ A rfl<|wp_exit<|t_exit<|t_exit<|i_here<|tn_<|sw_<|Z 2 A rfl λ A=>qs A rfl (d_from (i := i47) (wn rfl) (A.ev rfl) (A.ev rfl) slc54 (by omega) (by omega) λ _ A=>qs A rfl (d_clearRows (wn rfl) (A.ev rfl) slc54 zag105 rfl rfl m61 hHl.symm (by omega) λ w197 hU198 m199=>?_))
 have m200 := m57.upd hU198 hng
 have m201 := m58.upd hU198 hn3g
 have m202 := m59.upd hU198 hn5g
 have m203 := m60.upd hU198 hn7g
 have b204 := hU198.below b54 hBg0
 have x205 := x62.updIn hU198 (in1 g0)
 intro _ A
 refine qt_<|sw_<|Z 2 A rfl λ A=>qs A rfl (d_upto (i := i47) (wn rfl) (A.ev rfl) (A.ev rfl) slc54 (by omega) λ _ A=>Z 1 A rfl λ A=>qt_<|we_<|ret1 rfl A (v := (.slice (some ⟨g0, 0, none⟩) i47 cap)) rfl ?_)
 obtain ⟨hd1, hd2⟩ := hc56.done (show rows.length ≤ j48 by omega)
 have hm2 := m199
 rw [hd1] at hm2
 exact ⟨by rw [← hd2], x205, hm2⟩
def nStep (g : Lg) (q : List UInt8) (z : Ps × List Rw) (r : Rw) : Ps × List Rw := if (sizeP g r q).2 = true then (setSize z.1 (sizeP g r q).1, z.2 ++ [r]) else z
def nextP (s : Ps) : Ps := atP s (s.p + 1)
def noRow (L : List Tk) (z : Ps × List Rw) : Ps := if (((z.2.length : Nat) : Int) == 0) = true then refP L 21 z.1 else z.1
def namedP (g : Lg) (L : List Tk) (s : Ps) : Ps × List Rw := match L[s.p]? with
 | none => (refP L 22 s, [])
 | some y => if (y.kind == 1) = true then (nextP (noRow L (g.rows.foldl (nStep g y.text) (s, []))), (g.rows.foldl (nStep g y.text) (s, [])).2) else (refP L 22 s, [])
theorem ref_p (L : List Tk) (e : Int) (s : Ps) : (refP L e s).p = s.p := by unfold refP; split <;> rfl
theorem nfold_in (g : Lg) (q : List UInt8) : ∀ (l : List Rw) (z : Ps × List Rw) (r : Rw), r ∈ (l.foldl (nStep g q) z).2 → r ∈ z.2 ∨ (r ∈ l ∧ (sizeP g r q).2 = true)
 | [], z, r, h => .inl h
 | x :: l, z, r, h => by
  rw [List.foldl_cons] at h
  rcases nfold_in g q l _ r h with h1 | ⟨h1, h2⟩
  ·unfold nStep at h1
   split at h1
   ·next hx =>
    rcases List.mem_append.1 h1 with h2 | h2
    ·exact .inl h2
    ·rw [List.mem_singleton] at h2; subst h2; exact .inr ⟨List.mem_cons_self .., hx⟩
   ·exact .inl h1
  ·exact .inr ⟨List.mem_cons_of_mem _ h1, h2⟩
def leftR (g : Lg) (L : List Tk) (k : Nat) (rows : List Rw) (s : Ps) : List Rw := rows.filter fun r => !strikes g k (wordAt L s.p) r
def begP (g : Lg) (L : List Tk) (k : Nat) (rows : List Rw) (s : Ps) : Ps := if ((((leftR g L k rows s).length : Nat) : Int) == 0) = true then refP L 22 s else s
def commaP (L : List Tk) (k : Nat) (s : Ps) : Ps := if decide (((k : Nat) : Int) > 0) = true then markP L [44] s else s
def part0 (g : Lg) (L : List Tk) (k : Nat) (rows : List Rw) (s : Ps) : Ps := match rows with
 | [] => s
 | r :: _ => match r.parts[k]? with | some p => partP g L p s | none => s
def instL (g : Lg) (L : List Tk) : Nat → Nat → List Rw → Ps → Ps × List Rw
 | 0, _, rows, s => (s, rows)
 | f + 1, k, rows, s => match rows with
  | [] => (s, [])
  | r :: l => if decide (((k : Nat) : Int) < ((r.parts.length : Nat) : Int)) = true then instL g L f (k + 1) (leftR g L k (r :: l) (commaP L k s)) (part0 g L k (leftR g L k (r :: l) (commaP L k s)) (begP g L k (r :: l) (commaP L k s))) else (s, r :: l)
def zIns : Ins := ⟨0, 0, 0, 0, 0, 0, 0, 0, 0, 0, false, false, false, 0, 0, 0, false⟩
def withL (rows : List Rw) (i : Ins) : Ins := match rows with | [] => zIns | r :: _ => withR r i
def instP (g : Lg) (L : List Tk) (s : Ps) : Ps × List Rw := instL g L 1001 0 (namedP g L s).2 (namedP g L s).1
theorem Mix.by {ks : List Nat} {a w w' : World} {u : Value} (h : Mix ks a w) (hg : w.grownBy w' u.ownBlock) (hr : ∀ k, u.ownBlock = some k → a.heap.size ≤ k) : Mix ks a w' :=
 ⟨hg.os.trans h.os, hg.tape.trans h.tape, hg.output.trans h.output, Nat.le_trans h.size hg.size, fun k hk hc => (hg.block k (Nat.lt_of_lt_of_le hk h.size) (fun e => by have := hr k e.symm; omega)).trans (h.block k hk hc)⟩
theorem cell_keepB {B : Nat} {w w' : World} {k : Nat} {v : Value} (h : w.cell? ⟨k, 0, none⟩ = some v) (hk : k < B) (b : Below B w w') : w'.cell? ⟨k, 0, none⟩ = some v := by
 rw [World.cell?_of_block (w := w) (b.block k hk)]; exact h
theorem flat_row (ws : List Rw) (r : Rw) : ws.flatMap rwE ++ (rwC r).toList = (ws ++ [r]).flatMap rwE := by simp [rwE]
theorem rb_own {w : World} {b e : Nat} {v : Value} {rows : List Rw} (h : w.ownsRow b e 19 v rows.length (rows.flatMap rwE)) : (v = .slice none 0 0 ∧ rows = []) ∨ ∃ g cap, v = .slice (some ⟨g, 0, none⟩) rows.length cap ∧ b ≤ g ∧ RB w g cap rows e := by
 have hs := own_gen (enc := rwE) (fun _ => rfl) h
 rcases h.2 with ⟨rfl, hn⟩ | ⟨g, cap, cur, rfl, hb, hg, hc, _, hz, _⟩
 ·exact .inl ⟨rfl, List.eq_nil_of_length_eq_zero hn⟩
 ·refine .inr ⟨g, cap, rfl, hb, cur, hg, hz, hc, fun j r hr => ?_⟩
  obtain ⟨ao, cap', hv, _, he⟩ := hs
  obtain ⟨b', o, h1, _, h3⟩ := he j r hr
  injection hv with e1
  rw [h1] at e1
  injection e1 with e1
  injection e1 with e2 e3
  subst e2; subst e3
  exact h3
theorem left_in {g : Lg} {L : List Tk} {k : Nat} {rows : List Rw} {s : Ps} {r : Rw} (h : r ∈ leftR g L k rows s) : r ∈ rows := (List.mem_filter.1 h).1
theorem word_some {L : List Tk} {p : Nat} {y : Tk} (h : L[p]? = some y) : wordAt L p = y := by unfold wordAt; rw [h]; rfl
theorem word_none {L : List Tk} {p : Nat} (h : L.length ≤ p) : wordAt L p = zTk := by unfold wordAt; rw [List.getElem?_eq_none h]; rfl
theorem elm54 : elemB Tryz.prog 54 105 19 160 = true := by kernel_rfl
theorem ent143 : Ent Tryz.prog 143 = FF := by kernel_rfl
theorem named_none (Bd gr gc : Nat) (lg : Lg) (s : Ps) (sv : Value) (L : List Tk) (w : World) (hB : Bd ≤ w.heap.size) (hBr : Bd ≤ gr) (hBc : Bd ≤ gc) (hne : gr ≠ gc) (hbr : Blk w gr (rdP lg gc s) 86) (hbc : Blk w gc #[sv, J ((s.p : Nat) : Int)] 132) (hSl : Sl tokE 4 Bd w sv L) (hp : s.p ≤ L.length) (hL : L.length ≤ 1000000) (hTb : TabOK Bd w lg) (hNm : ∀ r ∈ lg.rows, r.name.length ≤ 1000 ∧ (Lib.cut r.name [42]).1.length + (Lib.cut r.name [42]).2.1.length ≤ 2000) (hll : ∀ y ∈ lg.lets, y.length ≤ 1000) (hg0 : 0 < Bd) (m0 : Int) (hm : w.cell? ⟨0, 0, none⟩ = some (J m0)) (hn : L.length ≤ s.p) : Calls Tryz.prog 105 #[.pointer (some ⟨gr, 0, none⟩)] w λ e w' => ∃ v, e = .returned v ∧ w'.ownsRow w.heap.size 105 19 v ([] : List Rw).length (([] : List Rw).flatMap rwE) ∧ Mix [gr, gc] w w' ∧ Blk w' gr (rdP lg gc (refP L 22 s)) 86 ∧ Blk w' gc #[sv, J (((refP L 22 s).p : Nat) : Int)] 132 ∧ (refP L 22 s).p ≤ L.length := by
 have x0 : Mix [gr, gc] w w := Mix.refl _ _
 have hmany := hTb.many
 have b0 : Below Bd w w := Below.refl _ _
 refine enter (n := 66) Tryz.func105 rfl rfl (nb_ rfl) λ _ A=>sw_<|Z 1 A rfl λ A=>qt_<|sw_<|Z 2 A rfl λ A=>F1 A rfl fo86_1 λ A=>qs A rfl (dld (v := (.pointer (some ⟨gc, 0, none⟩))) (wn rfl) (A.ev rfl) one83 (hbr.cell rfl) λ _ A=>C A rfl ent104 (peek_none Bd gc s.p sv L w (nt_ hB b0.size) hBc hbc (hSl.below b0) hp hL (by omega)) ?_)
 rintro e16 w13 ⟨he15, hG14⟩
 have m17 := hbr.grow hG14
 have m18 := hbc.grow hG14
 have b19 := blg b0 hG14 (nt_ hB b0.size)
 have x20 := x0.grow hG14
 refine ⟨(.tuple #[(.agg #[J 0, .string (S []), J 0, J 0]), (.bool false)]), he15, λ _ A=>Z 3 A rfl λ A=>qs A rfl (dal (wn rfl) zero28 λ g29 w30 eg31 hG32 (m33 : Blk w30 g29 #[J 0, .string (S []), J 0, J 0] 28)=>?_)⟩
 have ge34 : Bd ≤ g29 := eg31 ▸ (nt_ hB b19.size)
 have n35 : gr ≠ g29 := λ h => ni_ _ ((h.trans eg31) ▸ m17.lt)
 have n36 : gc ≠ g29 := λ h => ni_ _ ((h.trans eg31) ▸ m18.lt)
 have gx37 : w.heap.size ≤ g29 := eg31 ▸ x20.size
 have m38 := m17.grow hG32
 have m39 := m18.grow hG32
 have b40 := blg b19 hG32 (nt_ hB b19.size)
 have x41 := x20.grow hG32
 intro _ A
 refine qs A rfl (dsr (wn rfl) (A.ev rfl) (A.ev rfl) row28 m33 rfl rfl λ w44 hU45 (m46 : Blk w44 g29 #[J 0, .string (S []), J 0, J 0] 28)=>?_)
 have m47 := m38.upd hU45 n35
 have m48 := m39.upd hU45 n36
 have b49 := hU45.below b40 ge34
 have x50 := x41.updOut hU45 gx37
 intro _ A
 refine Z 1 A rfl λ A=>qt_<|ws_<|sw_<|F1 A rfl fo28_0 λ A=>qs A rfl (dld (v := (J 0)) (wn rfl) (A.ev rfl) one3 (m46.cell rfl) λ _ A=>B2 A rfl (b_ne _ _ 0 1 true _ (notof rfl)) λ A=>qt_<|ct_ A rfl<|sw_ ?_)
 refine Z 1 A rfl λ A=>C A rfl ent62 (prefuse_any Bd gr gc lg s sv L 22 w44 (nt_ hB b49.size) hBr hBc hne m47 m48 (hSl.below b49) hp hL) ?_
 rintro e66 w63 ⟨he65, hX68, m69, m70, hp67⟩
 have m71 := m46.mix hX68 (nin2 (Ne.symm n35) (Ne.symm n36))
 have x72 := x50.mix hX68 (λ k hk hc => nin2 (two_a hc) (two_b hc))
 have b73 := hX68.below b49 (nt_ hB b49.size) (lows2 hBr hBc)
 refine ⟨(.tuple #[]), he65, λ _ A=>qt_<|sw_<|Z 1 A rfl λ A=>qt_<|we_<|tr_<|ret1 rfl A (v := (.slice none 0 0)) rfl ?_⟩
 exact ⟨_, rfl, ⟨rfl, .inl ⟨rfl, rfl⟩⟩, x72, m69, m70, hp67⟩
theorem named_other (Bd gr gc : Nat) (lg : Lg) (s : Ps) (sv : Value) (L : List Tk) (w : World) (hB : Bd ≤ w.heap.size) (hBr : Bd ≤ gr) (hBc : Bd ≤ gc) (hne : gr ≠ gc) (hbr : Blk w gr (rdP lg gc s) 86) (hbc : Blk w gc #[sv, J ((s.p : Nat) : Int)] 132) (hSl : Sl tokE 4 Bd w sv L) (hp : s.p ≤ L.length) (hL : L.length ≤ 1000000) (hTb : TabOK Bd w lg) (hNm : ∀ r ∈ lg.rows, r.name.length ≤ 1000 ∧ (Lib.cut r.name [42]).1.length + (Lib.cut r.name [42]).2.1.length ≤ 2000) (hll : ∀ y ∈ lg.lets, y.length ≤ 1000) (hg0 : 0 < Bd) (m0 : Int) (hm : w.cell? ⟨0, 0, none⟩ = some (J m0)) (yt : Tk) (hy : L[s.p]? = some yt) (hkd : yt.kind ≠ 1) : Calls Tryz.prog 105 #[.pointer (some ⟨gr, 0, none⟩)] w λ e w' => ∃ v, e = .returned v ∧ w'.ownsRow w.heap.size 105 19 v ([] : List Rw).length (([] : List Rw).flatMap rwE) ∧ Mix [gr, gc] w w' ∧ Blk w' gr (rdP lg gc (refP L 22 s)) 86 ∧ Blk w' gc #[sv, J (((refP L 22 s).p : Nat) : Int)] 132 ∧ (refP L 22 s).p ≤ L.length := by
 have x0 : Mix [gr, gc] w w := Mix.refl _ _
 have hmany := hTb.many
 have hyl := get_lt hy
 have b0 : Below Bd w w := Below.refl _ _
 refine enter (n := 66) Tryz.func105 rfl rfl (nb_ rfl) λ _ A=>sw_<|Z 1 A rfl λ A=>qt_<|sw_<|Z 2 A rfl λ A=>F1 A rfl fo86_1 λ A=>qs A rfl (dld (v := (.pointer (some ⟨gc, 0, none⟩))) (wn rfl) (A.ev rfl) one83 (hbr.cell rfl) λ _ A=>C A rfl ent104 (peek_some Bd gc s.p sv L w (nt_ hB b0.size) hBc hbc (hSl.below b0) hp hL yt hy) ?_)
 rintro e16 w13 ⟨he15, hG14⟩
 have m17 := hbr.grow hG14
 have m18 := hbc.grow hG14
 have b19 := blg b0 hG14 (nt_ hB b0.size)
 have x20 := x0.grow hG14
 refine ⟨(.tuple #[(.agg (tokC yt)), (.bool true)]), he15, λ _ A=>Z 3 A rfl λ A=>qs A rfl (dal (wn rfl) zero28 λ g29 w30 eg31 hG32 (m33 : Blk w30 g29 #[J 0, .string (S []), J 0, J 0] 28)=>?_)⟩
 have ge34 : Bd ≤ g29 := eg31 ▸ (nt_ hB b19.size)
 have n35 : gr ≠ g29 := λ h => ni_ _ ((h.trans eg31) ▸ m17.lt)
 have n36 : gc ≠ g29 := λ h => ni_ _ ((h.trans eg31) ▸ m18.lt)
 have gx37 : w.heap.size ≤ g29 := eg31 ▸ x20.size
 have m38 := m17.grow hG32
 have m39 := m18.grow hG32
 have b40 := blg b19 hG32 (nt_ hB b19.size)
 have x41 := x20.grow hG32
 intro _ A
 refine qs A rfl (dsr (wn rfl) (A.ev rfl) (A.ev rfl) row28 m33 rfl rfl λ w44 hU45 (m46 : Blk w44 g29 (tokC yt) 28)=>?_)
 have m47 := m38.upd hU45 n35
 have m48 := m39.upd hU45 n36
 have b49 := hU45.below b40 ge34
 have x50 := x41.updOut hU45 gx37
 intro _ A
 refine Z 1 A rfl λ A=>qt_<|ws_<|sw_<|F1 A rfl fo28_0 λ A=>qs A rfl (dld (v := (J yt.kind)) (wn rfl) (A.ev rfl) one3 (m46.cell rfl) λ _ A=>B2 A rfl (b_ne _ _ yt.kind 1 true _ (notof (beq_eq_false_iff_ne.2 hkd))) λ A=>qt_<|ct_ A rfl<|sw_ ?_)
 refine Z 1 A rfl λ A=>C A rfl ent62 (prefuse_any Bd gr gc lg s sv L 22 w44 (nt_ hB b49.size) hBr hBc hne m47 m48 (hSl.below b49) hp hL) ?_
 rintro e66 w63 ⟨he65, hX68, m69, m70, hp67⟩
 have m71 := m46.mix hX68 (nin2 (Ne.symm n35) (Ne.symm n36))
 have x72 := x50.mix hX68 (λ k hk hc => nin2 (two_a hc) (two_b hc))
 have b73 := hX68.below b49 (nt_ hB b49.size) (lows2 hBr hBc)
 refine ⟨(.tuple #[]), he65, λ _ A=>qt_<|sw_<|Z 1 A rfl λ A=>qt_<|we_<|tr_<|ret1 rfl A (v := (.slice none 0 0)) rfl ?_⟩
 exact ⟨_, rfl, ⟨rfl, .inl ⟨rfl, rfl⟩⟩, x72, m69, m70, hp67⟩
theorem named_name (Bd gr gc : Nat) (lg : Lg) (s : Ps) (sv : Value) (L : List Tk) (w : World) (hB : Bd ≤ w.heap.size) (hBr : Bd ≤ gr) (hBc : Bd ≤ gc) (hne : gr ≠ gc) (hbr : Blk w gr (rdP lg gc s) 86) (hbc : Blk w gc #[sv, J ((s.p : Nat) : Int)] 132) (hSl : Sl tokE 4 Bd w sv L) (hp : s.p ≤ L.length) (hL : L.length ≤ 1000000) (hTb : TabOK Bd w lg) (hNm : ∀ r ∈ lg.rows, r.name.length ≤ 1000 ∧ (Lib.cut r.name [42]).1.length + (Lib.cut r.name [42]).2.1.length ≤ 2000) (hll : ∀ y ∈ lg.lets, y.length ≤ 1000) (hg0 : 0 < Bd) (m0 : Int) (hm : w.cell? ⟨0, 0, none⟩ = some (J m0)) (yt : Tk) (hy : L[s.p]? = some yt) (hkd : yt.kind = 1) : Calls Tryz.prog 105 #[.pointer (some ⟨gr, 0, none⟩)] w λ e w' => ∃ v, e = .returned v ∧ w'.ownsRow w.heap.size 105 19 v (lg.rows.foldl (nStep lg yt.text) (s, [])).2.length ((lg.rows.foldl (nStep lg yt.text) (s, [])).2.flatMap rwE) ∧ Mix [gr, gc] w w' ∧ Blk w' gr (rdP lg gc (nextP (noRow L (lg.rows.foldl (nStep lg yt.text) (s, []))))) 86 ∧ Blk w' gc #[sv, J (((nextP (noRow L (lg.rows.foldl (nStep lg yt.text) (s, [])))).p : Nat) : Int)] 132 ∧ (nextP (noRow L (lg.rows.foldl (nStep lg yt.text) (s, [])))).p ≤ L.length := by
 have x0 : Mix [gr, gc] w w := Mix.refl _ _
 have hmany := hTb.many
 have hyl := get_lt hy
 have b0 : Below Bd w w := Below.refl _ _
 refine enter (n := 66) Tryz.func105 rfl rfl (nb_ rfl) λ _ A=>sw_<|Z 1 A rfl λ A=>qt_<|sw_<|Z 2 A rfl λ A=>F1 A rfl fo86_1 λ A=>qs A rfl (dld (v := (.pointer (some ⟨gc, 0, none⟩))) (wn rfl) (A.ev rfl) one83 (hbr.cell rfl) λ _ A=>C A rfl ent104 (peek_some Bd gc s.p sv L w (nt_ hB b0.size) hBc hbc (hSl.below b0) hp hL yt hy) ?_)
 rintro e16 w13 ⟨he15, hG14⟩
 have m17 := hbr.grow hG14
 have m18 := hbc.grow hG14
 have b19 := blg b0 hG14 (nt_ hB b0.size)
 have x20 := x0.grow hG14
 refine ⟨(.tuple #[(.agg (tokC yt)), (.bool true)]), he15, λ _ A=>Z 3 A rfl λ A=>qs A rfl (dal (wn rfl) zero28 λ g29 w30 eg31 hG32 (m33 : Blk w30 g29 #[J 0, .string (S []), J 0, J 0] 28)=>?_)⟩
 have ge34 : Bd ≤ g29 := eg31 ▸ (nt_ hB b19.size)
 have n35 : gr ≠ g29 := λ h => ni_ _ ((h.trans eg31) ▸ m17.lt)
 have n36 : gc ≠ g29 := λ h => ni_ _ ((h.trans eg31) ▸ m18.lt)
 have gx37 : w.heap.size ≤ g29 := eg31 ▸ x20.size
 have m38 := m17.grow hG32
 have m39 := m18.grow hG32
 have b40 := blg b19 hG32 (nt_ hB b19.size)
 have x41 := x20.grow hG32
 intro _ A
 refine qs A rfl (dsr (wn rfl) (A.ev rfl) (A.ev rfl) row28 m33 rfl rfl λ w44 hU45 (m46 : Blk w44 g29 (tokC yt) 28)=>?_)
 have m47 := m38.upd hU45 n35
 have m48 := m39.upd hU45 n36
 have b49 := hU45.below b40 ge34
 have x50 := x41.updOut hU45 gx37
 intro _ A
 refine Z 1 A rfl λ A=>qt_<|ws_<|sw_<|F1 A rfl fo28_0 λ A=>qs A rfl (dld (v := (J yt.kind)) (wn rfl) (A.ev rfl) one3 (m46.cell rfl) λ _ A=>B2 A rfl (b_ne _ _ yt.kind 1 false _ (notof (beq_iff_eq.2 hkd))) λ A=>qt_<|cf_ A rfl<|wk_<|tn_ ?_)
 refine sw_<|Z 1 A rfl λ A=>qt_<|ws_<|sw_<|Z 2 A rfl λ A=>F1 A rfl fo86_0 λ A=>F1 A rfl fo56_4 λ A=>qs A rfl (dld (v := lg.rv) (wn rfl) (A.ev rfl) one54 (m47.cell rfl) λ _ A=>qs A rfl (dle (n := lg.rows.length) (wn rfl) (A.ev rfl) slc54 hTb.rows.form λ _ A=>Z 1 A rfl λ A=>?_))
 refine qt_<|wp_block<|loop_by (λ m a w' => ∃ (n : Nat) (ws : List Rw) (v : Value) (z : Ps), m = lg.rows.length - n ∧ (n ≤ lg.rows.length ∧ ws.length ≤ n ∧ z.p = s.p ∧ v.ownBlock ≠ some g29) ∧ (lg.rows.drop n).foldl (nStep lg yt.text) (z, ws) = lg.rows.foldl (nStep lg yt.text) (s, []) ∧ St 66 [(0, (.pointer (some ⟨gr, 0, none⟩))), (2, (.slice none 0 0)), (3, (.pointer (some ⟨g29, 0, none⟩))), (5, v), (27, lg.rv), (28, (J ((lg.rows.length : Nat) : Int))), (29, (J ((n : Nat) : Int)))] a ∧ Below Bd w w' ∧ Mix [gr, gc] w w' ∧ Blk w' gr (rdP lg gc z) 86 ∧ Blk w' gc #[sv, J ((z.p : Nat) : Int)] 132 ∧ Blk w' g29 (tokC yt) 28 ∧ w'.ownsRow w.heap.size 105 19 v ws.length (ws.flatMap rwE)) (lg.rows.length - 0) ⟨0, [], .slice none 0 0, s, rfl, ⟨by omega, by simp, rfl, by simp [Value.ownBlock]⟩, rfl, A.sub rfl, b49, x50, m47, m48, m46, ⟨rfl, .inl ⟨rfl, rfl⟩⟩⟩ ?_
 rintro m77 a78 w79 ⟨n80, ws81, v82, z83, hm84, ⟨hj1, hj2, hj3, hj4⟩, hfd, A, b86, x88, m89, m90, m91, ho87⟩
 have hpz : z83.p ≤ L.length := by omega
 have hor : v82.ownBlock ≠ some gr := λ e => by have := (own_lt ho87 _ e).1; have := hbr.lt; omega
 have hoc : v82.ownBlock ≠ some gc := λ e => by have := (own_lt ho87 _ e).1; have := hbc.lt; omega
 refine sw_ ?_
 rcases eb_ (decide (((n80 : Nat) : Int) < ((lg.rows.length : Nat) : Int))) with hb92 | hb92
 ·skip
  have hq93 := dt_ hb92
  refine B2 A rfl (bl hb92) λ A=>qt_<|ws_<|ct_ A rfl<|wk_<|tn_<|ws_<|wp_block<|sw_ ?_
  obtain ⟨y96, hy97⟩ : ∃ y96, lg.rows[n80]? = some y96 := ⟨_, List.getElem?_eq_getElem (show n80 < lg.rows.length by omega)⟩
  obtain ⟨b98, o99, lt100, hr101, hix102⟩ := (hTb.rows.below b86).at hy97
  refine qs A rfl (dia (j := n80) (wn rfl) (A.ev rfl) (A.ev rfl) slc54 hix102 (get_lt hy97) λ _ A=>qs A rfl (dlm (cs := (rwC y96)) (wn rfl) (A.ev rfl) row105 hr101 λ _ A=>qs A rfl (dal (wn rfl) zero105 λ g107 w108 eg109 hG110 (m111 : Blk w108 g107 #[.string (S []), J 0, J 0, J 0, J 0, J 0, J 0, J 0, J 0, J 0, J 0, .bool false, .bool false, .bool false, J 0, J 0, J 0, .bool false, .slice none 0 0] 105)=>?_)))
  have ge112 : Bd ≤ g107 := eg109 ▸ (nt_ hB b86.size)
  have n113 : gr ≠ g107 := λ h => ni_ _ ((h.trans eg109) ▸ m89.lt)
  have n114 : gc ≠ g107 := λ h => ni_ _ ((h.trans eg109) ▸ m90.lt)
  have n115 : g29 ≠ g107 := λ h => ni_ _ ((h.trans eg109) ▸ m91.lt)
  have gx116 : w.heap.size ≤ g107 := eg109 ▸ x88.size
  have off117 := own_new ho87 eg109
  have m118 := m89.grow hG110
  have m119 := m90.grow hG110
  have m120 := m91.grow hG110
  have hr121 := range_below hr101 hG110 (Nat.lt_of_lt_of_le lt100 (nt_ hB b86.size))
  have b122 := blg b86 hG110 (nt_ hB b86.size)
  have x123 := x88.grow hG110
  have ho124 := owg hG110 ho87
  intro _ A
  refine qs A rfl (dsr (wn rfl) (A.ev rfl) (A.ev rfl) row105 m111 rfl (rw_one (hTb.of (List.mem_of_getElem? hy97)).1) λ w127 hU128 (m129 : Blk w127 g107 (rwC y96) 105)=>?_)
  have m130 := m118.upd hU128 n113
  have m131 := m119.upd hU128 n114
  have m132 := m120.upd hU128 n115
  have hr133 := range_upd hr121 hU128 (Nat.ne_of_lt (Nat.lt_of_lt_of_le lt100 ge112))
  have b134 := hU128.below b122 ge112
  have x135 := x123.updOut hU128 gx116
  have ho136 := own_upd ho124 hU128 off117
  intro a137 A
  refine qt_<|ws_ ?_
  have A : St 66 [(0, (.pointer (some ⟨gr, 0, none⟩))), (2, (.slice none 0 0)), (3, (.pointer (some ⟨g29, 0, none⟩))), (5, v82), (7, (.pointer (some ⟨g107, 0, none⟩))), (27, lg.rv), (28, (J ((lg.rows.length : Nat) : Int))), (29, (J ((n80 : Nat) : Int)))] a137 := A.sub rfl
  let M140 : Nat → Option (Array Value) := λ _ => none
  have hM140 : M140 = λ _ => none := rfl
  clear_value M140
  have hM141 : M140 gr = none := (congrFun hM140 gr)
  have hM142 : M140 gc = none := (congrFun hM140 gc)
  have hM143 : M140 g29 = none := (congrFun hM140 g29)
  have hM144 : M140 g107 = none := (congrFun hM140 g107)
  have hM140B : ∀ k, k < Bd → M140 k = none := (λ k hk => (congrFun hM140 k))
  refine drawn (S := SM M140) (tabL [cv (.pointer (some ⟨gr, 0, none⟩)), cv (.pointer (some ⟨gr, 0, none⟩)), cv (.pointer (some ⟨gr, 0, none⟩)), cv (.agg (lgC lg)), cv (.agg (rwC y96)), cv (.pointer (some ⟨g29, 1, none⟩)), cv (.string (S yt.text)), cv (.tuple #[(J ((sizeP lg y96 yt.text).1)), (.bool ((sizeP lg y96 yt.text).2))]), cv (.tuple #[(J ((sizeP lg y96 yt.text).1)), (.bool ((sizeP lg y96 yt.text).2))]), cv (J ((sizeP lg y96 yt.text).1)), cv (.bool ((sizeP lg y96 yt.text).2)), cv (J ((sizeP lg y96 yt.text).1)), cv (.bool ((sizeP lg y96 yt.text).2))]) mixedY SM.refl SM.trans SM.drew A (by kernel_rfl) ?_ ?_
  ·skip
   have bD145 := blg b134 ((Grow.refl w127).drew) (nt_ hB b134.size)
   refine ec_ (λ x y hS hT hk => dmv (wn rfl) (hT.ev rfl) ⟨SM.refl _, rfl⟩)<|ec_ (λ x y hS hT hk => dnc (wn rfl) (hk 0 rfl) ⟨SM.refl _, rfl⟩)<|ec_ (λ x y hS hT hk => dfa (wn rfl) (hk 1 rfl) fo86_0 ⟨SM.refl _, rfl⟩)<|ec_ (λ x y hS hT hk => dlm (cs := (lgC lg)) (wn rfl) (hk 2 rfl) row56 ((Blk.sm (w := w127.drew) m130 hS hM141).mid rfl) ⟨SM.refl _, rfl⟩)<|ec_ (λ x y hS hT hk => dlr (cs := (rwC y96)) (wn rfl) (hT.ev rfl) row105 (Blk.sm (w := w127.drew) m129 hS hM144) ⟨SM.refl _, rfl⟩)<|ec_ (λ x y hS hT hk => dfa (wn rfl) (hT.ev rfl) fo28_1 ⟨SM.refl _, rfl⟩)<|ec_ (λ x y hS hT hk => dld (v := (.string (S yt.text))) (wn rfl) (hk 5 rfl) one9 ((Blk.sm (w := w127.drew) m132 hS hM143).cell rfl) ⟨SM.refl _, rfl⟩)<|ec_ (λ x y hS hT hk => dcl (wn rfl) ent143 (map3 (show x.eval _ = (.agg (lgC lg)) from (hk 3 rfl)) (show x.eval _ = (.agg (rwC y96)) from (hk 4 rfl)) (show x.eval _ = (.string (S yt.text)) from (hk 6 rfl))) (sizeof_any lg y96 yt.text y (hNm _ (List.mem_of_getElem? hy97)).1 hll (hNm _ (List.mem_of_getElem? hy97)).2 m0 (cell_keepB hm hg0 (hS.below bD145 (nt_ hB b134.size) hM140B))) (λ _ _ ⟨he, hG⟩ => ⟨(.tuple #[(J ((sizeP lg y96 yt.text).1)), (.bool ((sizeP lg y96 yt.text).2))]), he, SM.grow hG, rfl⟩))<|ec_ (λ x y hS hT hk => dmv (wn rfl) (hk 7 rfl) ⟨SM.refl _, rfl⟩)<|ec_ (λ x y hS hT hk => dex (v := (J ((sizeP lg y96 yt.text).1))) (wn rfl) (hk 8 rfl) rfl ⟨SM.refl _, rfl⟩)<|ec_ (λ x y hS hT hk => dex (v := (.bool ((sizeP lg y96 yt.text).2))) (wn rfl) (hk 8 rfl) rfl ⟨SM.refl _, rfl⟩)<|ec_ (λ x y hS hT hk => das (wn rfl) (hk 9 rfl) ⟨SM.refl _, rfl⟩)<|ec_ (λ x y hS hT hk => das (wn rfl) (hk 10 rfl) ⟨SM.refl _, rfl⟩) ?_
   exact each_nil
  intro f146 a147 w148 hS149 hC150 A
  have A : St 66 [(0, (.pointer (some ⟨gr, 0, none⟩))), (2, (.slice none 0 0)), (3, (.pointer (some ⟨g29, 0, none⟩))), (5, v82), (7, (.pointer (some ⟨g107, 0, none⟩))), (8, (J ((sizeP lg y96 yt.text).1))), (9, (.bool ((sizeP lg y96 yt.text).2))), (27, lg.rv), (28, (J ((lg.rows.length : Nat) : Int))), (29, (J ((n80 : Nat) : Int)))] a147 := A.cut _ (fc (A.g 0 rfl) (fc (A.g 2 rfl) (fc (A.g 3 rfl) (fc (A.g 5 rfl) (fc (A.g 7 rfl) (fc ((A.g 8 rfl).trans (hC150 11 (nb_ rfl))) (fc ((A.g 9 rfl).trans (hC150 12 (nb_ rfl))) (fc (A.g 27 rfl) (fc (A.g 28 rfl) (fc (A.g 29 rfl) fn_))))))))))
  have m153 := m130.sm hS149 hM141
  have m154 := m131.sm hS149 hM142
  have m155 := m132.sm hS149 hM143
  have m156 := m129.sm hS149 hM144
  have b157 := hS149.below b134 (nt_ hB b134.size) hM140B
  have hr158 := range_sm hr133 hS149 (Nat.lt_of_lt_of_le lt100 (nt_ hB b134.size)) (hM140B _ lt100)
  have x159 := x135.sm (M := M140) hS149 (λ k hk hc => by rw [congrFun hM140 k] <;> repeat (rw [if_neg (by first | omega | exact two_a hc | exact two_b hc)]))
  have ho160 := own_sm ho136 hS149 (λ k => congrFun hM140 k)
  refine tn_<|sw_<|Z 1 A rfl λ A=>qt_ ?_
  rcases eb_ ((sizeP lg y96 yt.text).2) with hb163 | hb163
  ·skip
   have A := A.shadow (t := 44) rfl hb163
   refine ct_ A rfl<|sw_<|Z 3 A rfl λ A=>F1 A rfl fo86_2 λ A=>F1 A rfl fo30_8 λ A=>qs A rfl (dst_ (wn rfl) (A.ev rfl) (A.ev rfl) one3 rfl m153 (nb_ rfl) λ w176 hU177 (m178 : Blk w176 gr (rdP lg gc (setSize z83 ((sizeP lg y96 yt.text).1))) 86)=>?_)
   have m179 := m154.upd hU177 (Ne.symm hne)
   have m180 := m155.upd hU177 (Ne.symm n35)
   have m181 := m156.upd hU177 (Ne.symm n113)
   have b182 := hU177.below b157 hBr
   have x183 := x159.updIn hU177 (in2a gr gc)
   have ho184 := own_upd ho160 hU177 hor
   have m185 : Blk w176 gc #[sv, J (((setSize z83 ((sizeP lg y96 yt.text).1)).p : Nat) : Int)] 132 := m179
   have hp186 : (setSize z83 ((sizeP lg y96 yt.text).1)).p ≤ L.length := hpz
   intro _ A
   refine qt_<|wr_<|Z 1 A rfl λ A=>qs A rfl (dlr (cs := (rwC y96)) (wn rfl) (A.ev rfl) row105 m181 λ _ A=>qs A rfl (d_slice1 (wn rfl) (A.ev rfl) elm54 rfl (by decide) λ g193 w194 eg195 hG196 (m197 : Blk w194 g193 (rwC y96) 105)=>?_))
   have ge198 : Bd ≤ g193 := eg195 ▸ (nt_ hB b182.size)
   have n199 : gr ≠ g193 := λ h => ni_ _ ((h.trans eg195) ▸ m178.lt)
   have n200 : gc ≠ g193 := λ h => ni_ _ ((h.trans eg195) ▸ m185.lt)
   have n201 : g29 ≠ g193 := λ h => ni_ _ ((h.trans eg195) ▸ m180.lt)
   have n202 : g107 ≠ g193 := λ h => ni_ _ ((h.trans eg195) ▸ m181.lt)
   have gx203 : w.heap.size ≤ g193 := eg195 ▸ x183.size
   have off204 := own_new ho184 eg195
   have m205 := m178.grow hG196
   have m206 := m185.grow hG196
   have m207 := m180.grow hG196
   have m208 := m181.grow hG196
   have b209 := blg b182 hG196 (nt_ hB b182.size)
   have x210 := x183.grow hG196
   have ho211 := owg hG196 ho184
   intro _ A
   refine qs A rfl (d_append (wn rfl) (A.ev rfl) (A.ev rfl) elm54 ho211 m197 rfl (rw_one (hTb.of (List.mem_of_getElem? hy97)).1) (by omega) (by decide) x210.size λ v214 w215 ho216 hg217 hl218=>?_)
   have b219 := below_by b209 hg217 (nt_ hB b209.size) (λ k hk => nt_ hB (own_lt ho211 k hk).1)
   have x220 := x210.by hg217 (λ k hk => (own_lt ho211 k hk).1)
   have m221 := m205.by hg217 hor
   have off222 := lies_ne hl218 hor m205.lt
   have m223 := m206.by hg217 hoc
   have off224 := lies_ne hl218 hoc m206.lt
   have m225 := m207.by hg217 hj4
   have off226 := lies_ne hl218 hj4 m207.lt
   have m227 := m208.by hg217 off117
   have off228 := lies_ne hl218 off117 m208.lt
   intro _ A
   refine Z 1 A rfl λ A=>qe_<|i_norm<|tn_<|wr_<|B2 A rfl (b_addE (n80 + 1) (by omega) (by omega)) λ A=>Z 1 A rfl λ A=>qt_ ?_
   have hns : nStep lg yt.text (z83, ws81) y96 = ((setSize z83 ((sizeP lg y96 yt.text).1)), (ws81 ++ [y96])) := by simp only [nStep, hb163, if_true, Bool.false_eq_true, if_false]
   have hgo := (fold_go hy97 (z83, ws81)).symm.trans hfd
   rw [hns] at hgo
   have hwl : (ws81 ++ [y96]).length = ws81.length + 1 := by simp
   exact ⟨lg.rows.length - (n80 + 1), (by rw [hm84]; omega), n80 + 1, (ws81 ++ [y96]), v214, (setSize z83 ((sizeP lg y96 yt.text).1)), rfl, ⟨by omega, by rw [hwl]; omega, hj3, off226⟩, hgo, A.sub rfl, b219, x220, m221, m223, m225, by rw [hwl, ← flat_row]; exact ho216⟩
  have A := A.shadow (t := 44) rfl hb163
  refine cf_ A rfl<|wk_<|i_norm<|tn_<|wr_<|B2 A rfl (b_addE (n80 + 1) (by omega) (by omega)) λ A=>Z 1 A rfl λ A=>qt_ ?_
  have hns : nStep lg yt.text (z83, ws81) y96 = (z83, ws81) := by simp only [nStep, hb163, if_true, Bool.false_eq_true, if_false]
  have hgo := (fold_go hy97 (z83, ws81)).symm.trans hfd
  rw [hns] at hgo
  exact ⟨lg.rows.length - (n80 + 1), (by rw [hm84]; omega), n80 + 1, ws81, v82, z83, rfl, ⟨by omega, by omega, hj3, hj4⟩, hgo, A.sub rfl, b157, x159, m153, m154, m155, ho160⟩
 have hq243 := df_ hb92
 refine B2 A rfl (bl hb92) λ A=>qt_<|ws_<|cf_ A rfl<|wp_exit<|t_exit<|t_exit<|i_here<|tn_<|ws_<|sw_<|Z 1 A rfl λ A=>?_
 refine qs A rfl (dle (n := ws81.length) (wn rfl) (A.ev rfl) slc54 (own_form ho87) λ _ A=>?_)
 rcases eb_ (((ws81.length : Nat) : Int) == 0) with hb250 | hb250
 ·skip
  have hq251 := eq_of_beq hb250
  refine B2 A rfl (bq hb250) λ A=>qt_<|ct_ A rfl<|wr_<|Z 1 A rfl λ A=>C A rfl ent62 (prefuse_any Bd gr gc lg z83 sv L 21 w79 (nt_ hB b86.size) hBr hBc hne m89 m90 (hSl.below b86) hpz hL) ?_
  rintro e259 w256 ⟨he258, hX261, m262, m263, hp260⟩
  have m264 := m91.mix hX261 (nin2 (Ne.symm n35) (Ne.symm n36))
  have ho265 := own_mix ho87 hX261 (λ k hk => nin2 (λ e => hor (e ▸ hk)) (λ e => hoc (e ▸ hk)))
  have x266 := x88.mix hX261 (λ k hk hc => nin2 (two_a hc) (two_b hc))
  have b267 := hX261.below b86 (nt_ hB b86.size) (lows2 hBr hBc)
  refine ⟨(.tuple #[]), he258, λ _ A=>qt_<|sw_<|Z 2 A rfl λ A=>F1 A rfl fo86_1 λ A=>qs A rfl (dld (v := (.pointer (some ⟨gc, 0, none⟩))) (wn rfl) (A.ev rfl) one83 (m262.cell rfl) λ _ A=>?_)⟩
  have hrz : (refP L 21 z83).p < L.length := by rw [ref_p]; omega
  obtain ⟨y278, hy279⟩ : ∃ y278, L[(refP L 21 z83).p]? = some y278 := ⟨_, List.getElem?_eq_getElem (show (refP L 21 z83).p < L.length by omega)⟩
  have hrz : (refP L 21 z83).p < L.length := by rw [ref_p]; omega
  obtain ⟨y278, hy279⟩ : ∃ y278, L[(refP L 21 z83).p]? = some y278 := ⟨_, List.getElem?_eq_getElem (show (refP L 21 z83).p < L.length by omega)⟩
  refine C A rfl ent144 (next_some Bd gc ((refP L 21 z83).p) sv L w256 (nt_ hB b267.size) hBc m263 (hSl.below b267) hp260 hL y278 hy279) ?_
  rintro e283 w280 ⟨he282, hX285, m286⟩
  have m287 := m262.mix hX285 (nin1 hne)
  have m288 := m264.mix hX285 (nin1 (Ne.symm n36))
  have ho289 := own_mix ho265 hX285 (λ k hk => nin1 (λ e => hoc (e ▸ hk)))
  have x290 := x266.mix hX285 (λ k hk hc => nin1 (two_b hc))
  have b291 := hX285.below b267 (nt_ hB b267.size) (lows1 hBc)
  refine ⟨(.tuple #[(.agg (tokC y278)), (.bool true)]), he282, λ _ A=>?_⟩
  have m294 : Blk w280 gr (rdP lg gc (atP (refP L 21 z83) ((refP L 21 z83).p + 1))) 86 := m287
  have m295 : Blk w280 gc #[sv, J (((atP (refP L 21 z83) ((refP L 21 z83).p + 1)).p : Nat) : Int)] 132 := m286
  have hp296 : (atP (refP L 21 z83) ((refP L 21 z83).p + 1)).p ≤ L.length := show (refP L 21 z83).p + 1 ≤ L.length by omega
  refine qt_<|sw_<|Z 2 A rfl λ A=>qt_<|we_<|ret1 rfl A (v := v82) rfl ?_
  have hend : (z83, ws81) = lg.rows.foldl (nStep lg yt.text) (s, []) := (fold_end (show lg.rows.length ≤ n80 by omega) _).symm.trans hfd
  have hno : nextP (noRow L (z83, ws81)) = (atP (refP L 21 z83) ((refP L 21 z83).p + 1)) := by simp only [nextP, noRow, hb250, if_true, Bool.false_eq_true, if_false]
  rw [← hend, hno]
  exact ⟨_, rfl, ho289, x290, m294, m295, hp296⟩
 have hq301 := ne_of_beq hb250
 refine B2 A rfl (bq hb250) λ A=>qt_<|cf_ A rfl<|wk_<|tn_<|sw_<|Z 2 A rfl λ A=>F1 A rfl fo86_1 λ A=>qs A rfl (dld (v := (.pointer (some ⟨gc, 0, none⟩))) (wn rfl) (A.ev rfl) one83 (m89.cell rfl) λ _ A=>?_)
 obtain ⟨y312, hy313⟩ : ∃ y312, L[z83.p]? = some y312 := ⟨_, List.getElem?_eq_getElem (show z83.p < L.length by omega)⟩
 obtain ⟨y312, hy313⟩ : ∃ y312, L[z83.p]? = some y312 := ⟨_, List.getElem?_eq_getElem (show z83.p < L.length by omega)⟩
 refine C A rfl ent144 (next_some Bd gc z83.p sv L w79 (nt_ hB b86.size) hBc m90 (hSl.below b86) hpz hL y312 hy313) ?_
 rintro e317 w314 ⟨he316, hX319, m320⟩
 have m321 := m89.mix hX319 (nin1 hne)
 have m322 := m91.mix hX319 (nin1 (Ne.symm n36))
 have ho323 := own_mix ho87 hX319 (λ k hk => nin1 (λ e => hoc (e ▸ hk)))
 have x324 := x88.mix hX319 (λ k hk hc => nin1 (two_b hc))
 have b325 := hX319.below b86 (nt_ hB b86.size) (lows1 hBc)
 refine ⟨(.tuple #[(.agg (tokC y312)), (.bool true)]), he316, λ _ A=>?_⟩
 have m328 : Blk w314 gr (rdP lg gc (atP z83 (z83.p + 1))) 86 := m321
 have m329 : Blk w314 gc #[sv, J (((atP z83 (z83.p + 1)).p : Nat) : Int)] 132 := m320
 have hp330 : (atP z83 (z83.p + 1)).p ≤ L.length := show z83.p + 1 ≤ L.length by omega
 refine qt_<|sw_<|Z 2 A rfl λ A=>qt_<|we_<|ret1 rfl A (v := v82) rfl ?_
 have hend : (z83, ws81) = lg.rows.foldl (nStep lg yt.text) (s, []) := (fold_end (show lg.rows.length ≤ n80 by omega) _).symm.trans hfd
 have hno : nextP (noRow L (z83, ws81)) = (atP z83 (z83.p + 1)) := by simp only [nextP, noRow, hb250, if_true, Bool.false_eq_true, if_false]
 rw [← hend, hno]
 exact ⟨_, rfl, ho323, x324, m328, m329, hp330⟩
theorem named_any (Bd gr gc : Nat) (lg : Lg) (s : Ps) (sv : Value) (L : List Tk) (w : World) (hB : Bd ≤ w.heap.size) (hBr : Bd ≤ gr) (hBc : Bd ≤ gc) (hne : gr ≠ gc) (hbr : Blk w gr (rdP lg gc s) 86) (hbc : Blk w gc #[sv, J ((s.p : Nat) : Int)] 132) (hSl : Sl tokE 4 Bd w sv L) (hp : s.p ≤ L.length) (hL : L.length ≤ 1000000) (hTb : TabOK Bd w lg) (hNm : ∀ r ∈ lg.rows, r.name.length ≤ 1000 ∧ (Lib.cut r.name [42]).1.length + (Lib.cut r.name [42]).2.1.length ≤ 2000) (hll : ∀ y ∈ lg.lets, y.length ≤ 1000) (hg0 : 0 < Bd) (m0 : Int) (hm : w.cell? ⟨0, 0, none⟩ = some (J m0)) : Calls Tryz.prog 105 #[.pointer (some ⟨gr, 0, none⟩)] w λ e w' => ∃ v, e = .returned v ∧ w'.ownsRow w.heap.size 105 19 v (namedP lg L s).2.length ((namedP lg L s).2.flatMap rwE) ∧ Mix [gr, gc] w w' ∧ Blk w' gr (rdP lg gc (namedP lg L s).1) 86 ∧ Blk w' gc #[sv, J (((namedP lg L s).1.p : Nat) : Int)] 132 ∧ (namedP lg L s).1.p ≤ L.length := by
 cases hy : L[s.p]? with
 | none =>
  have e : namedP lg L s = (refP L 22 s, []) := by unfold namedP; rw [hy]
  rw [e]; exact named_none Bd gr gc lg s sv L w hB hBr hBc hne hbr hbc hSl hp hL hTb hNm hll hg0 m0 hm (by simpa using hy)
 | some y =>
  by_cases hk : y.kind = 1
  ·have e : namedP lg L s = (nextP (noRow L (lg.rows.foldl (nStep lg y.text) (s, []))), (lg.rows.foldl (nStep lg y.text) (s, [])).2) := by unfold namedP; rw [hy]; simp [hk]
   rw [e]; exact named_name Bd gr gc lg s sv L w hB hBr hBc hne hbr hbc hSl hp hL hTb hNm hll hg0 m0 hm y hy hk
  ·have e : namedP lg L s = (refP L 22 s, []) := by unfold namedP; rw [hy]; simp [hk]
   rw [e]; exact named_other Bd gr gc lg s sv L w hB hBr hBc hne hbr hbc hSl hp hL hTb hNm hll hg0 m0 hm y hy hk
def RV (w : World) (B g2 : Nat) (v : Value) (rows : List Rw) (t : TypeId) : Prop := (v = .slice none 0 0 ∧ rows = []) ∨ ∃ g cap, v = .slice (some ⟨g, 0, none⟩) rows.length cap ∧ B ≤ g ∧ g ≠ g2 ∧ RB w g cap rows t
theorem rv_own {w a : World} {e g2 : Nat} {v : Value} {rows : List Rw} {B : Nat} (h : w.ownsRow a.heap.size e 19 v rows.length (rows.flatMap rwE)) (hB : B ≤ a.heap.size) (hg : g2 < a.heap.size) : RV w B g2 v rows e := by
  rcases rb_own h with h | ⟨g, cap, hv, hb, hr⟩
  · exact .inl h
  · exact .inr ⟨g, cap, hv, Nat.le_trans hB hb, by omega, hr⟩
theorem inst_nil (g : Lg) (L : List Tk) (f k : Nat) (s : Ps) : instL g L f k [] s = (s, []) := by cases f <;> rfl
theorem inst_end {g : Lg} {L : List Tk} {k : Nat} {r : Rw} {l : List Rw} {s : Ps} (hk : k ≤ 1000) (h : decide (((k : Nat) : Int) < ((r.parts.length : Nat) : Int)) = false) : instL g L (1001 - k) k (r :: l) s = (s, r :: l) := by
  rw [show 1001 - k = (1000 - k) + 1 by omega, instL, if_neg (by rw [h]; decide)]
theorem inst_go {g : Lg} {L : List Tk} {k : Nat} {r : Rw} {l : List Rw} {s : Ps} (hk : k ≤ 1000) (h : decide (((k : Nat) : Int) < ((r.parts.length : Nat) : Int)) = true) : instL g L (1001 - k) k (r :: l) s = instL g L (1001 - (k + 1)) (k + 1) (leftR g L k (r :: l) (commaP L k s)) (part0 g L k (leftR g L k (r :: l) (commaP L k s)) (begP g L k (r :: l) (commaP L k s))) := by
  rw [show 1001 - k = (1000 - k) + 1 by omega, instL, if_pos h, show 1001 - (k + 1) = 1000 - k by omega]
theorem part0_some {g : Lg} {L : List Tk} {k : Nat} {rows : List Rw} {s : Ps} {r : Rw} {p : Int} (h : rows[0]? = some r) (hp : r.parts[k]? = some p) : part0 g L k rows s = partP g L p s := by
  cases rows with
  | nil => cases h
  | cons x l => simp at h; subst h; unfold part0; simp only [hp]
theorem part0_none {g : Lg} {L : List Tk} {k : Nat} {rows : List Rw} {s : Ps} (h : ¬ ((rows.length : Nat) : Int) > 0) : part0 g L k rows s = s := by
  cases rows with
  | nil => rfl
  | cons x l => exact absurd (by simp only [List.length_cons]; omega) h
theorem comma_yes {L : List Tk} {k : Nat} {s : Ps} (h : decide (((k : Nat) : Int) > 0) = true) : commaP L k s = markP L [44] s := by unfold commaP; rw [if_pos h]
theorem comma_no {L : List Tk} {k : Nat} {s : Ps} (h : decide (((k : Nat) : Int) > 0) = false) : commaP L k s = s := by unfold commaP; rw [if_neg (by rw [h]; decide)]
theorem left_is {g : Lg} {L : List Tk} {k : Nat} {rows : List Rw} {s : Ps} {y : Tk} (h : wordAt L s.p = y) : leftR g L k rows s = rows.filter (fun r => !strikes g k y r) := by unfold leftR; rw [h]
theorem left_one {g : Lg} {L : List Tk} {k : Nat} {rows : List Rw} {s : Ps} {P : Rw → Prop} (h : ∀ r ∈ rows, P r) : ∀ r ∈ leftR g L k rows s, P r := fun r hr => h r (left_in hr)
def plen (rows : List Rw) : Nat := match rows with | [] => 0 | r :: _ => r.parts.length
theorem named_in {g : Lg} {L : List Tk} {s : Ps} (hU : ∀ q, ∀ r ∈ g.rows, ∀ r' ∈ g.rows, (sizeP g r q).2 = true → (sizeP g r' q).2 = true → r.parts.length = r'.parts.length) : ∀ r ∈ (namedP g L s).2, r ∈ g.rows ∧ r.parts.length = plen (namedP g L s).2 := by
  cases hy : L[s.p]? with
  | none => have e : namedP g L s = (refP L 22 s, []) := by unfold namedP; rw [hy]
            rw [e]; intro r hr; cases hr
  | some y =>
    by_cases hk : y.kind = 1
    · have e : (namedP g L s).2 = (g.rows.foldl (nStep g y.text) (s, [])).2 := by unfold namedP; rw [hy]; simp [hk]
      rw [e]
      have key : ∀ r ∈ (g.rows.foldl (nStep g y.text) (s, [])).2, r ∈ g.rows ∧ (sizeP g r y.text).2 = true := fun r hr => by
        rcases nfold_in g y.text g.rows (s, []) r hr with h | h
        · cases h
        · exact h
      intro r hr
      refine ⟨(key r hr).1, ?_⟩
      cases hw : (g.rows.foldl (nStep g y.text) (s, [])).2 with
      | nil => rw [hw] at hr; cases hr
      | cons x l =>
        have hx := key x (by rw [hw]; exact List.mem_cons_self ..)
        exact hU y.text r (key r hr).1 x hx.1 (key r hr).2 hx.2
    · have e : namedP g L s = (refP L 22 s, []) := by unfold namedP; rw [hy]; simp [hk]
      rw [e]; intro r hr; cases hr
theorem gt0_cons {α : Type} {r : α} {l : List α} : decide ((((r :: l).length : Nat) : Int) > 0) = true := decide_eq_true (by simp only [List.length_cons]; omega)
theorem ne0_cons {α : Type} {r : α} {l : List α} : ((((r :: l).length : Nat) : Int) == 0) = false := beq_eq_false_iff_ne.2 (by simp only [List.length_cons]; omega)
theorem ent146 : Ent Tryz.prog 146 = FF := by kernel_rfl
theorem beg_none (Bd gr gc : Nat) (lg : Lg) (s : Ps) (sv : Value) (L : List Tk) (k g0 cap : Nat) (rows : List Rw) (w : World) (hB : Bd ≤ w.heap.size) (hBr : Bd ≤ gr) (hBc : Bd ≤ gc) (hne : gr ≠ gc) (hbr : Blk w gr (rdP lg gc s) 86) (hbc : Blk w gc #[sv, J ((s.p : Nat) : Int)] 132) (hSl : Sl tokE 4 Bd w sv L) (hp : s.p ≤ L.length) (hL : L.length ≤ 1000000) (hBg0 : Bd ≤ g0) (hrb : RB w g0 cap rows 105) (hng : gr ≠ g0) (hcg : gc ≠ g0) (hPP : ∀ r ∈ rows, Sl ptE 1 Bd w r.pv r.parts) (hkk : ∀ r ∈ rows, k < r.parts.length) (hrl : rows.length ≤ 1000) (hn : L.length ≤ s.p) : Calls Tryz.prog 107 #[.pointer (some ⟨gr, 0, none⟩), .slice (some ⟨g0, 0, none⟩) rows.length cap, J ((k : Nat) : Int)] w λ e w' => e = .returned (.slice (some ⟨g0, 0, none⟩) (leftR lg L k rows s).length cap) ∧ Mix [gr, gc, g0] w w' ∧ Blk w' gr (rdP lg gc (begP lg L k rows s)) 86 ∧ Blk w' gc #[sv, J (((begP lg L k rows s).p : Nat) : Int)] 132 ∧ RB w' g0 cap (leftR lg L k rows s) 105 ∧ (begP lg L k rows s).p ≤ L.length := by
 have x0 : Mix [gr, gc, g0] w w := Mix.refl _ _
 have b0 : Below Bd w w := Below.refl _ _
 refine enter (n := 27) Tryz.func107 rfl rfl (nb_ rfl) λ _ A=>sw_<|qs A rfl (d_box (wn rfl) (A.ev rfl) λ g3 w4 eg5 hG6 (m7 : Blk w4 g3 #[.pointer (some ⟨gr, 0, none⟩)] 82)=>?_)
 have ge8 : Bd ≤ g3 := eg5 ▸ (nt_ hB b0.size)
 have n9 : gr ≠ g3 := λ h => ni_ _ ((h.trans eg5) ▸ hbr.lt)
 have n10 : gc ≠ g3 := λ h => ni_ _ ((h.trans eg5) ▸ hbc.lt)
 have n11 : g0 ≠ g3 := λ h => ni_ _ ((h.trans eg5) ▸ hrb.lt)
 have gx12 : w.heap.size ≤ g3 := eg5 ▸ x0.size
 have m13 := hbr.grow hG6
 have m14 := hbc.grow hG6
 have m15 := hrb.grow hG6
 have b16 := blg b0 hG6 (nt_ hB b0.size)
 have x17 := x0.grow hG6
 intro _ A
 refine qs A rfl (d_box (wn rfl) (A.ev rfl) λ g20 w21 eg22 hG23 (m24 : Blk w21 g20 #[J ((k : Nat) : Int)] 3)=>?_)
 have ge25 : Bd ≤ g20 := eg22 ▸ (nt_ hB b16.size)
 have n26 : gr ≠ g20 := λ h => ni_ _ ((h.trans eg22) ▸ m13.lt)
 have n27 : gc ≠ g20 := λ h => ni_ _ ((h.trans eg22) ▸ m14.lt)
 have n28 : g0 ≠ g20 := λ h => ni_ _ ((h.trans eg22) ▸ m15.lt)
 have n29 : g3 ≠ g20 := λ h => ni_ _ ((h.trans eg22) ▸ m7.lt)
 have gx30 : w.heap.size ≤ g20 := eg22 ▸ x17.size
 have m31 := m13.grow hG23
 have m32 := m14.grow hG23
 have m33 := m15.grow hG23
 have m34 := m7.grow hG23
 have b35 := blg b16 hG23 (nt_ hB b16.size)
 have x36 := x17.grow hG23
 intro _ A
 refine Z 1 A rfl λ A=>qt_<|sw_<|qs A rfl (dld (v := (.pointer (some ⟨gr, 0, none⟩))) (wn rfl) (A.ev rfl) one82 (m34.cell rfl) λ _ A=>Z 1 A rfl λ A=>F1 A rfl fo86_1 λ A=>qs A rfl (dld (v := (.pointer (some ⟨gc, 0, none⟩))) (wn rfl) (A.ev rfl) one83 (m31.cell rfl) λ _ A=>C A rfl ent104 (peek_none Bd gc s.p sv L w21 (nt_ hB b35.size) hBc m32 (hSl.below b35) hp hL (by omega)) ?_))
 rintro e52 w49 ⟨he51, hG50⟩
 have m53 := m31.grow hG50
 have m54 := m32.grow hG50
 have m55 := m33.grow hG50
 have m56 := m34.grow hG50
 have m57 := m24.grow hG50
 have b58 := blg b35 hG50 (nt_ hB b35.size)
 have x59 := x36.grow hG50
 refine ⟨(.tuple #[(.agg #[J 0, .string (S []), J 0, J 0]), (.bool false)]), he51, λ _ A=>Z 3 A rfl λ A=>qs A rfl (dal (wn rfl) zero28 λ g68 w69 eg70 hG71 (m72 : Blk w69 g68 #[J 0, .string (S []), J 0, J 0] 28)=>?_)⟩
 have ge73 : Bd ≤ g68 := eg70 ▸ (nt_ hB b58.size)
 have n74 : gr ≠ g68 := λ h => ni_ _ ((h.trans eg70) ▸ m53.lt)
 have n75 : gc ≠ g68 := λ h => ni_ _ ((h.trans eg70) ▸ m54.lt)
 have n76 : g0 ≠ g68 := λ h => ni_ _ ((h.trans eg70) ▸ m55.lt)
 have n77 : g3 ≠ g68 := λ h => ni_ _ ((h.trans eg70) ▸ m56.lt)
 have n78 : g20 ≠ g68 := λ h => ni_ _ ((h.trans eg70) ▸ m57.lt)
 have gx79 : w.heap.size ≤ g68 := eg70 ▸ x59.size
 have m80 := m53.grow hG71
 have m81 := m54.grow hG71
 have m82 := m55.grow hG71
 have m83 := m56.grow hG71
 have m84 := m57.grow hG71
 have b85 := blg b58 hG71 (nt_ hB b58.size)
 have x86 := x59.grow hG71
 intro _ A
 refine qs A rfl (dsr (wn rfl) (A.ev rfl) (A.ev rfl) row28 m72 rfl rfl λ w89 hU90 (m91 : Blk w89 g68 #[J 0, .string (S []), J 0, J 0] 28)=>?_)
 have m92 := m80.upd hU90 n74
 have m93 := m81.upd hU90 n75
 have m94 := m82.upd hU90 n76
 have m95 := m83.upd hU90 n77
 have m96 := m84.upd hU90 n78
 have b97 := hU90.below b85 ge73
 have x98 := x86.updOut hU90 gx79
 intro _ A
 refine Z 1 A rfl λ A=>qt_<|sw_<|Z 1 A rfl λ A=>qs A rfl (d_makeFunc (wn rfl) (map3 (A.ev rfl) (A.ev rfl) (A.ev rfl)) λ _ A=>C A rfl ent146 (delfunc_any Bd gr gc lg s g3 g20 g68 k zTk g0 cap rows w89 (nt_ hB b97.size) hBr m92 ge8 ge25 ge73 m95 m96 m91 n9 n26 n74 n29 n77 n78 hBg0 m94 hng (Ne.symm n11) (Ne.symm n28) (Ne.symm n76) (λ r hr => (hPP r hr).below b97) hkk hrl) ?_)
 rintro e110 w107 ⟨he109, hX112, m113⟩
 have m114 := m92.mix hX112 (nin1 hng)
 have m115 := m93.mix hX112 (nin1 hcg)
 have m116 := m95.mix hX112 (nin1 (Ne.symm n11))
 have m117 := m96.mix hX112 (nin1 (Ne.symm n28))
 have m118 := m91.mix hX112 (nin1 (Ne.symm n76))
 have x119 := x98.mix hX112 (λ k hk hc => nin1 (three_c hc))
 have b120 := hX112.below b97 (nt_ hB b97.size) (lows1 hBg0)
 refine ⟨(.slice (some ⟨g0, 0, none⟩) (rows.filter (λ r => !strikes lg k zTk r)).length cap), he109, λ _ A=>Z 1 A rfl λ A=>qt_<|ws_<|sw_<|Z 1 A rfl λ A=>qs A rfl (dle (n := (rows.filter (λ r => !strikes lg k zTk r)).length) (wn rfl) (A.ev rfl) slc54 m113.sl.form λ _ A=>?_)⟩
 rcases eb_ ((((rows.filter (λ r => !strikes lg k zTk r)).length : Nat) : Int) == 0) with hb129 | hb129
 ·skip
  refine B2 A rfl (bq hb129) λ A=>qt_<|ct_ A rfl<|wr_<|qs A rfl (dld (v := (.pointer (some ⟨gr, 0, none⟩))) (wn rfl) (A.ev rfl) one82 (m116.cell rfl) λ _ A=>C A rfl ent62 (prefuse_any Bd gr gc lg s sv L 22 w107 (nt_ hB b120.size) hBr hBc hne m114 m115 (hSl.below b120) hp hL) ?_)
  rintro e138 w135 ⟨he137, hX140, m141, m142, hp139⟩
  have m143 := m113.mix hX140 (nin2 (Ne.symm hng) (Ne.symm hcg))
  have m144 := m116.mix hX140 (nin2 (Ne.symm n9) (Ne.symm n10))
  have m145 := m117.mix hX140 (nin2 (Ne.symm n26) (Ne.symm n27))
  have m146 := m118.mix hX140 (nin2 (Ne.symm n74) (Ne.symm n75))
  have x147 := x119.mix hX140 (λ k hk hc => nin2 (three_a hc) (three_b hc))
  have b148 := hX140.below b120 (nt_ hB b120.size) (lows2 hBr hBc)
  refine ⟨(.tuple #[]), he137, λ _ A=>qt_<|sw_<|Z 2 A rfl λ A=>qt_<|we_<|ret1 rfl A (v := (.slice (some ⟨g0, 0, none⟩) (rows.filter (λ r => !strikes lg k zTk r)).length cap)) rfl ?_⟩
  have hlf : leftR lg L k rows s = (rows.filter (λ r => !strikes lg k zTk r)) := left_is (word_none hn)
  have hq155 : begP lg L k rows s = (refP L 22 s) := by unfold begP; rw [hlf]; simp only [hb129, if_true, Bool.false_eq_true, if_false]
  rw [hq155, hlf]
  exact ⟨rfl, x147, m141, m142, m143, hp139⟩
 refine B2 A rfl (bq hb129) λ A=>qt_<|cf_ A rfl<|wk_<|tn_<|sw_<|Z 2 A rfl λ A=>qt_<|we_<|ret1 rfl A (v := (.slice (some ⟨g0, 0, none⟩) (rows.filter (λ r => !strikes lg k zTk r)).length cap)) rfl ?_
 have hlf : leftR lg L k rows s = (rows.filter (λ r => !strikes lg k zTk r)) := left_is (word_none hn)
 have hq163 : begP lg L k rows s = s := by unfold begP; rw [hlf]; simp only [hb129, if_true, Bool.false_eq_true, if_false]
 rw [hq163, hlf]
 exact ⟨rfl, x119, m114, m115, m113, hp⟩
theorem beg_some (Bd gr gc : Nat) (lg : Lg) (s : Ps) (sv : Value) (L : List Tk) (k g0 cap : Nat) (rows : List Rw) (w : World) (hB : Bd ≤ w.heap.size) (hBr : Bd ≤ gr) (hBc : Bd ≤ gc) (hne : gr ≠ gc) (hbr : Blk w gr (rdP lg gc s) 86) (hbc : Blk w gc #[sv, J ((s.p : Nat) : Int)] 132) (hSl : Sl tokE 4 Bd w sv L) (hp : s.p ≤ L.length) (hL : L.length ≤ 1000000) (hBg0 : Bd ≤ g0) (hrb : RB w g0 cap rows 105) (hng : gr ≠ g0) (hcg : gc ≠ g0) (hPP : ∀ r ∈ rows, Sl ptE 1 Bd w r.pv r.parts) (hkk : ∀ r ∈ rows, k < r.parts.length) (hrl : rows.length ≤ 1000) (yt : Tk) (hy : L[s.p]? = some yt) : Calls Tryz.prog 107 #[.pointer (some ⟨gr, 0, none⟩), .slice (some ⟨g0, 0, none⟩) rows.length cap, J ((k : Nat) : Int)] w λ e w' => e = .returned (.slice (some ⟨g0, 0, none⟩) (leftR lg L k rows s).length cap) ∧ Mix [gr, gc, g0] w w' ∧ Blk w' gr (rdP lg gc (begP lg L k rows s)) 86 ∧ Blk w' gc #[sv, J (((begP lg L k rows s).p : Nat) : Int)] 132 ∧ RB w' g0 cap (leftR lg L k rows s) 105 ∧ (begP lg L k rows s).p ≤ L.length := by
 have x0 : Mix [gr, gc, g0] w w := Mix.refl _ _
 have hyl := get_lt hy
 have b0 : Below Bd w w := Below.refl _ _
 refine enter (n := 27) Tryz.func107 rfl rfl (nb_ rfl) λ _ A=>sw_<|qs A rfl (d_box (wn rfl) (A.ev rfl) λ g3 w4 eg5 hG6 (m7 : Blk w4 g3 #[.pointer (some ⟨gr, 0, none⟩)] 82)=>?_)
 have ge8 : Bd ≤ g3 := eg5 ▸ (nt_ hB b0.size)
 have n9 : gr ≠ g3 := λ h => ni_ _ ((h.trans eg5) ▸ hbr.lt)
 have n10 : gc ≠ g3 := λ h => ni_ _ ((h.trans eg5) ▸ hbc.lt)
 have n11 : g0 ≠ g3 := λ h => ni_ _ ((h.trans eg5) ▸ hrb.lt)
 have gx12 : w.heap.size ≤ g3 := eg5 ▸ x0.size
 have m13 := hbr.grow hG6
 have m14 := hbc.grow hG6
 have m15 := hrb.grow hG6
 have b16 := blg b0 hG6 (nt_ hB b0.size)
 have x17 := x0.grow hG6
 intro _ A
 refine qs A rfl (d_box (wn rfl) (A.ev rfl) λ g20 w21 eg22 hG23 (m24 : Blk w21 g20 #[J ((k : Nat) : Int)] 3)=>?_)
 have ge25 : Bd ≤ g20 := eg22 ▸ (nt_ hB b16.size)
 have n26 : gr ≠ g20 := λ h => ni_ _ ((h.trans eg22) ▸ m13.lt)
 have n27 : gc ≠ g20 := λ h => ni_ _ ((h.trans eg22) ▸ m14.lt)
 have n28 : g0 ≠ g20 := λ h => ni_ _ ((h.trans eg22) ▸ m15.lt)
 have n29 : g3 ≠ g20 := λ h => ni_ _ ((h.trans eg22) ▸ m7.lt)
 have gx30 : w.heap.size ≤ g20 := eg22 ▸ x17.size
 have m31 := m13.grow hG23
 have m32 := m14.grow hG23
 have m33 := m15.grow hG23
 have m34 := m7.grow hG23
 have b35 := blg b16 hG23 (nt_ hB b16.size)
 have x36 := x17.grow hG23
 intro _ A
 refine Z 1 A rfl λ A=>qt_<|sw_<|qs A rfl (dld (v := (.pointer (some ⟨gr, 0, none⟩))) (wn rfl) (A.ev rfl) one82 (m34.cell rfl) λ _ A=>Z 1 A rfl λ A=>F1 A rfl fo86_1 λ A=>qs A rfl (dld (v := (.pointer (some ⟨gc, 0, none⟩))) (wn rfl) (A.ev rfl) one83 (m31.cell rfl) λ _ A=>C A rfl ent104 (peek_some Bd gc s.p sv L w21 (nt_ hB b35.size) hBc m32 (hSl.below b35) hp hL yt hy) ?_))
 rintro e52 w49 ⟨he51, hG50⟩
 have m53 := m31.grow hG50
 have m54 := m32.grow hG50
 have m55 := m33.grow hG50
 have m56 := m34.grow hG50
 have m57 := m24.grow hG50
 have b58 := blg b35 hG50 (nt_ hB b35.size)
 have x59 := x36.grow hG50
 refine ⟨(.tuple #[(.agg (tokC yt)), (.bool true)]), he51, λ _ A=>Z 3 A rfl λ A=>qs A rfl (dal (wn rfl) zero28 λ g68 w69 eg70 hG71 (m72 : Blk w69 g68 #[J 0, .string (S []), J 0, J 0] 28)=>?_)⟩
 have ge73 : Bd ≤ g68 := eg70 ▸ (nt_ hB b58.size)
 have n74 : gr ≠ g68 := λ h => ni_ _ ((h.trans eg70) ▸ m53.lt)
 have n75 : gc ≠ g68 := λ h => ni_ _ ((h.trans eg70) ▸ m54.lt)
 have n76 : g0 ≠ g68 := λ h => ni_ _ ((h.trans eg70) ▸ m55.lt)
 have n77 : g3 ≠ g68 := λ h => ni_ _ ((h.trans eg70) ▸ m56.lt)
 have n78 : g20 ≠ g68 := λ h => ni_ _ ((h.trans eg70) ▸ m57.lt)
 have gx79 : w.heap.size ≤ g68 := eg70 ▸ x59.size
 have m80 := m53.grow hG71
 have m81 := m54.grow hG71
 have m82 := m55.grow hG71
 have m83 := m56.grow hG71
 have m84 := m57.grow hG71
 have b85 := blg b58 hG71 (nt_ hB b58.size)
 have x86 := x59.grow hG71
 intro _ A
 refine qs A rfl (dsr (wn rfl) (A.ev rfl) (A.ev rfl) row28 m72 rfl rfl λ w89 hU90 (m91 : Blk w89 g68 (tokC yt) 28)=>?_)
 have m92 := m80.upd hU90 n74
 have m93 := m81.upd hU90 n75
 have m94 := m82.upd hU90 n76
 have m95 := m83.upd hU90 n77
 have m96 := m84.upd hU90 n78
 have b97 := hU90.below b85 ge73
 have x98 := x86.updOut hU90 gx79
 intro _ A
 refine Z 1 A rfl λ A=>qt_<|sw_<|Z 1 A rfl λ A=>qs A rfl (d_makeFunc (wn rfl) (map3 (A.ev rfl) (A.ev rfl) (A.ev rfl)) λ _ A=>C A rfl ent146 (delfunc_any Bd gr gc lg s g3 g20 g68 k yt g0 cap rows w89 (nt_ hB b97.size) hBr m92 ge8 ge25 ge73 m95 m96 m91 n9 n26 n74 n29 n77 n78 hBg0 m94 hng (Ne.symm n11) (Ne.symm n28) (Ne.symm n76) (λ r hr => (hPP r hr).below b97) hkk hrl) ?_)
 rintro e110 w107 ⟨he109, hX112, m113⟩
 have m114 := m92.mix hX112 (nin1 hng)
 have m115 := m93.mix hX112 (nin1 hcg)
 have m116 := m95.mix hX112 (nin1 (Ne.symm n11))
 have m117 := m96.mix hX112 (nin1 (Ne.symm n28))
 have m118 := m91.mix hX112 (nin1 (Ne.symm n76))
 have x119 := x98.mix hX112 (λ k hk hc => nin1 (three_c hc))
 have b120 := hX112.below b97 (nt_ hB b97.size) (lows1 hBg0)
 refine ⟨(.slice (some ⟨g0, 0, none⟩) (rows.filter (λ r => !strikes lg k yt r)).length cap), he109, λ _ A=>Z 1 A rfl λ A=>qt_<|ws_<|sw_<|Z 1 A rfl λ A=>qs A rfl (dle (n := (rows.filter (λ r => !strikes lg k yt r)).length) (wn rfl) (A.ev rfl) slc54 m113.sl.form λ _ A=>?_)⟩
 rcases eb_ ((((rows.filter (λ r => !strikes lg k yt r)).length : Nat) : Int) == 0) with hb129 | hb129
 ·skip
  refine B2 A rfl (bq hb129) λ A=>qt_<|ct_ A rfl<|wr_<|qs A rfl (dld (v := (.pointer (some ⟨gr, 0, none⟩))) (wn rfl) (A.ev rfl) one82 (m116.cell rfl) λ _ A=>C A rfl ent62 (prefuse_any Bd gr gc lg s sv L 22 w107 (nt_ hB b120.size) hBr hBc hne m114 m115 (hSl.below b120) hp hL) ?_)
  rintro e138 w135 ⟨he137, hX140, m141, m142, hp139⟩
  have m143 := m113.mix hX140 (nin2 (Ne.symm hng) (Ne.symm hcg))
  have m144 := m116.mix hX140 (nin2 (Ne.symm n9) (Ne.symm n10))
  have m145 := m117.mix hX140 (nin2 (Ne.symm n26) (Ne.symm n27))
  have m146 := m118.mix hX140 (nin2 (Ne.symm n74) (Ne.symm n75))
  have x147 := x119.mix hX140 (λ k hk hc => nin2 (three_a hc) (three_b hc))
  have b148 := hX140.below b120 (nt_ hB b120.size) (lows2 hBr hBc)
  refine ⟨(.tuple #[]), he137, λ _ A=>qt_<|sw_<|Z 2 A rfl λ A=>qt_<|we_<|ret1 rfl A (v := (.slice (some ⟨g0, 0, none⟩) (rows.filter (λ r => !strikes lg k yt r)).length cap)) rfl ?_⟩
  have hlf : leftR lg L k rows s = (rows.filter (λ r => !strikes lg k yt r)) := left_is (word_some hy)
  have hq155 : begP lg L k rows s = (refP L 22 s) := by unfold begP; rw [hlf]; simp only [hb129, if_true, Bool.false_eq_true, if_false]
  rw [hq155, hlf]
  exact ⟨rfl, x147, m141, m142, m143, hp139⟩
 refine B2 A rfl (bq hb129) λ A=>qt_<|cf_ A rfl<|wk_<|tn_<|sw_<|Z 2 A rfl λ A=>qt_<|we_<|ret1 rfl A (v := (.slice (some ⟨g0, 0, none⟩) (rows.filter (λ r => !strikes lg k yt r)).length cap)) rfl ?_
 have hlf : leftR lg L k rows s = (rows.filter (λ r => !strikes lg k yt r)) := left_is (word_some hy)
 have hq163 : begP lg L k rows s = s := by unfold begP; rw [hlf]; simp only [hb129, if_true, Bool.false_eq_true, if_false]
 rw [hq163, hlf]
 exact ⟨rfl, x119, m114, m115, m113, hp⟩
theorem beg_any (Bd gr gc : Nat) (lg : Lg) (s : Ps) (sv : Value) (L : List Tk) (k g0 cap : Nat) (rows : List Rw) (w : World) (hB : Bd ≤ w.heap.size) (hBr : Bd ≤ gr) (hBc : Bd ≤ gc) (hne : gr ≠ gc) (hbr : Blk w gr (rdP lg gc s) 86) (hbc : Blk w gc #[sv, J ((s.p : Nat) : Int)] 132) (hSl : Sl tokE 4 Bd w sv L) (hp : s.p ≤ L.length) (hL : L.length ≤ 1000000) (hBg0 : Bd ≤ g0) (hrb : RB w g0 cap rows 105) (hng : gr ≠ g0) (hcg : gc ≠ g0) (hPP : ∀ r ∈ rows, Sl ptE 1 Bd w r.pv r.parts) (hkk : ∀ r ∈ rows, k < r.parts.length) (hrl : rows.length ≤ 1000) : Calls Tryz.prog 107 #[.pointer (some ⟨gr, 0, none⟩), .slice (some ⟨g0, 0, none⟩) rows.length cap, J ((k : Nat) : Int)] w λ e w' => e = .returned (.slice (some ⟨g0, 0, none⟩) (leftR lg L k rows s).length cap) ∧ Mix [gr, gc, g0] w w' ∧ Blk w' gr (rdP lg gc (begP lg L k rows s)) 86 ∧ Blk w' gc #[sv, J (((begP lg L k rows s).p : Nat) : Int)] 132 ∧ RB w' g0 cap (leftR lg L k rows s) 105 ∧ (begP lg L k rows s).p ≤ L.length := by
 cases hy : L[s.p]? with
 | none => exact beg_none Bd gr gc lg s sv L k g0 cap rows w hB hBr hBc hne hbr hbc hSl hp hL hBg0 hrb hng hcg hPP hkk hrl (by simpa using hy)
 | some y => exact beg_some Bd gr gc lg s sv L k g0 cap rows w hB hBr hBc hne hbr hbc hSl hp hL hBg0 hrb hng hcg hPP hkk hrl y hy
theorem ent105 : Ent Tryz.prog 105 = FF := by kernel_rfl
theorem ent107 : Ent Tryz.prog 107 = FF := by kernel_rfl
theorem ent108 : Ent Tryz.prog 108 = FF := by kernel_rfl
theorem named_len {g : Lg} {L : List Tk} {s : Ps} (h : g.rows.length ≤ 1000) : (namedP g L s).2.length ≤ 1000 := by
 have key : ∀ (q : List UInt8) (l : List Rw) (z : Ps × List Rw), (l.foldl (nStep g q) z).2.length ≤ z.2.length + l.length := by
  intro q l
  induction l with
  | nil => intro z; simp
  | cons r l ih =>
   intro z
   rw [List.foldl_cons]
   have h1 := ih (nStep g q z r)
   have h2 : (nStep g q z r).2.length ≤ z.2.length + 1 := by unfold nStep; split <;> simp
   simp only [List.length_cons]; omega
 unfold namedP
 split
 ·simp
 ·split
  ·next y _ _ => have := key y.text g.rows (s, []); simp only [List.length_nil] at this; show (g.rows.foldl (nStep g y.text) (s, [])).2.length ≤ 1000; omega
  ·simp
theorem inst_any (Bd gr gc : Nat) (lg : Lg) (s : Ps) (sv : Value) (L : List Tk) (w : World) (hB : Bd ≤ w.heap.size) (hBr : Bd ≤ gr) (hBc : Bd ≤ gc) (hne : gr ≠ gc) (hbr : Blk w gr (rdP lg gc s) 86) (hbc : Blk w gc #[sv, J ((s.p : Nat) : Int)] 132) (hSl : Sl tokE 4 Bd w sv L) (hp : s.p ≤ L.length) (hL : L.length ≤ 1000000) (hTb : TabOK Bd w lg) (hNm : ∀ r ∈ lg.rows, r.name.length ≤ 1000 ∧ (Lib.cut r.name [42]).1.length + (Lib.cut r.name [42]).2.1.length ≤ 2000) (hll : ∀ y ∈ lg.lets, y.length ≤ 1000) (hg0 : 0 < Bd) (m0 : Int) (hm : w.cell? ⟨0, 0, none⟩ = some (J m0)) (hUn : ∀ q, ∀ r ∈ lg.rows, ∀ r' ∈ lg.rows, (sizeP lg r q).2 = true → (sizeP lg r' q).2 = true → r.parts.length = r'.parts.length) : Calls Tryz.prog 60 #[.pointer (some ⟨gr, 0, none⟩)] w λ e w' => e = .returned (.agg (insC (withL (instP lg L s).2 (instP lg L s).1.ins))) ∧ Mix [gr, gc] w w' ∧ Blk w' gr (rdP lg gc (instP lg L s).1) 86 ∧ Blk w' gc #[sv, J (((instP lg L s).1.p : Nat) : Int)] 132 ∧ (instP lg L s).1.p ≤ L.length := by
 have x0 : Mix [gr, gc] w w := Mix.refl _ _
 have b0 : Below Bd w w := Below.refl _ _
 refine enter (n := 53) Tryz.func60 rfl rfl (nb_ rfl) λ _ A=>sw_<|qs A rfl (dal (wn rfl) zero30 λ g3 w4 eg5 hG6 (m7 : Blk w4 g3 #[J 0, J 0, J 0, J 0, J 0, J 0, J 0, J 0, J 0, J 0, .bool false, .bool false, .bool false, J 0, J 0, J 0, .bool false] 30)=>?_)
 have ge8 : Bd ≤ g3 := eg5 ▸ (nt_ hB b0.size)
 have n9 : gr ≠ g3 := λ h => ni_ _ ((h.trans eg5) ▸ hbr.lt)
 have n10 : gc ≠ g3 := λ h => ni_ _ ((h.trans eg5) ▸ hbc.lt)
 have gx11 : w.heap.size ≤ g3 := eg5 ▸ x0.size
 have m12 := hbr.grow hG6
 have m13 := hbc.grow hG6
 have b14 := blg b0 hG6 (nt_ hB b0.size)
 have x15 := x0.grow hG6
 intro _ A
 refine qt_<|sw_<|Z 1 A rfl λ A=>C A rfl ent105 (named_any Bd gr gc lg s sv L w4 (nt_ hB b14.size) hBr hBc hne m12 m13 (hSl.below b14) hp hL (hTb.below b14) hNm hll hg0 m0 (cell_keepB hm hg0 b14)) ?_
 rintro e23 w20 ⟨v24, he22, ho25, hX26, m27, m28, hp29⟩
 have hrv30 : RV w20 w.heap.size g3 v24 (namedP lg L s).2 105 := rv_own (a := w4) ho25 x15.size m7.lt
 have m31 := m7.mix hX26 (nin2 (Ne.symm n9) (Ne.symm n10))
 have x32 := x15.mix hX26 (λ k hk hc => nin2 (two_a hc) (two_b hc))
 have b33 := hX26.below b14 (nt_ hB b14.size) (lows2 hBr hBc)
 refine ⟨v24, he22, λ _ A=>Z 1 A rfl λ A=>qt_<|ws_<|sw_<|Z 1 A rfl λ A=>qt_<|wp_block ?_⟩
 obtain ⟨pl, hpl⟩ : ∃ pl, pl = plen (namedP lg L s).2 := ⟨_, rfl⟩
 have hin0 : ∀ r ∈ (namedP lg L s).2, r ∈ lg.rows ∧ r.parts.length = pl := by rw [hpl]; exact named_in hUn
 refine loop_by (λ m a w' => ∃ (k : Nat) (rows : List Rw) (v : Value) (z : Ps), m = 1001 - k ∧ k ≤ 1000 ∧ instL lg L (1001 - k) k rows z = instP lg L s ∧ (∀ r ∈ rows, r ∈ lg.rows ∧ r.parts.length = pl) ∧ rows.length ≤ 1000 ∧ z.p ≤ L.length ∧ St 53 [(0, (.pointer (some ⟨gr, 0, none⟩))), (2, (.pointer (some ⟨g3, 0, none⟩))), (3, v), (4, (J ((k : Nat) : Int)))] a ∧ Below Bd w w' ∧ Mix [gr, gc] w w' ∧ Blk w' gr (rdP lg gc z) 86 ∧ Blk w' gc #[sv, J ((z.p : Nat) : Int)] 132 ∧ Blk w' g3 #[J 0, J 0, J 0, J 0, J 0, J 0, J 0, J 0, J 0, J 0, .bool false, .bool false, .bool false, J 0, J 0, J 0, .bool false] 30 ∧ RV w' w.heap.size g3 v rows 105) (1001 - 0) ⟨0, (namedP lg L s).2, v24, (namedP lg L s).1, rfl, by omega, rfl, hin0, named_len hTb.many, hp29, A.sub rfl, b33, x32, m27, m28, m31, hrv30⟩ ?_
 rintro m40 a41 w42 ⟨k43, rows44, v45, z46, hm47, hk1, hins, hin, hrl, hpz, A, b49, x50, m51, m52, m53, hrv54⟩
 rcases hrv54 with ⟨hv1, hv2⟩ | ⟨g0, cap, hv1, hg0a, hg0b, hrb⟩
 ·skip
  subst hv1
  subst hv2
  refine ws_<|sw_<|Z 1 A rfl λ A=>qs A rfl (dle (n := 0) (wn rfl) (A.ev rfl) slc54 ⟨none, 0, rfl⟩ λ _ A=>B2 A rfl (b_gt _ _ 0 0 false _ rfl) λ A=>Z 9 A rfl λ A=>qt_<|cf_ A rfl<|wp_exit<|t_exit<|t_exit<|i_here ?_)
  refine tn_<|ws_<|sw_<|Z 1 A rfl λ A=>qs A rfl (dle (n := 0) (wn rfl) (A.ev rfl) slc54 ⟨none, 0, rfl⟩ λ _ A=>B2 A rfl (b_eq _ _ 0 0 true _ rfl) λ A=>qt_<|ct_ A rfl<|sw_<|qs A rfl (dbd (cs := #[J 0, J 0, J 0, J 0, J 0, J 0, J 0, J 0, J 0, J 0, .bool false, .bool false, .bool false, J 0, J 0, J 0, .bool false]) (wn rfl) (bp_of bq_nil) zero30 places30 (by kernel_rfl) λ _ A=>qs A rfl (dsr (wn rfl) (A.ev rfl) (A.ev rfl) row30 m53 rfl rfl λ w87 hU88 (m89 : Blk w87 g3 #[J 0, J 0, J 0, J 0, J 0, J 0, J 0, J 0, J 0, J 0, .bool false, .bool false, .bool false, J 0, J 0, J 0, .bool false] 30)=>?_)))
  have m90 := m51.upd hU88 n9
  have m91 := m52.upd hU88 n10
  have b92 := hU88.below b49 ge8
  have x93 := x50.updOut hU88 gx11
  intro _ A
  refine qt_<|we_<|tr_<|retRow (g := g3) (cs := #[J 0, J 0, J 0, J 0, J 0, J 0, J 0, J 0, J 0, J 0, .bool false, .bool false, .bool false, J 0, J 0, J 0, .bool false]) rfl A rfl m89 row30 ?_
  rw [inst_nil] at hins
  rw [← hins]
  exact ⟨rfl, x93, m90, m91, hpz⟩
 subst hv1
 have hgr0 : gr ≠ g0 := λ e => by have := hbr.lt; omega
 have hgc0 : gc ≠ g0 := λ e => by have := hbc.lt; omega
 have hBg0 : Bd ≤ g0 := nt_ hB hg0a
 rcases rows44 with _ | ⟨r0, l⟩
 ·skip
  refine ws_<|sw_<|Z 1 A rfl λ A=>qs A rfl (dle (n := 0) (wn rfl) (A.ev rfl) slc54 hrb.sl.form λ _ A=>B2 A rfl (b_gt _ _ 0 0 false _ rfl) λ A=>Z 9 A rfl λ A=>qt_<|cf_ A rfl<|wp_exit<|t_exit<|t_exit<|i_here ?_)
  refine tn_<|ws_<|sw_<|Z 1 A rfl λ A=>qs A rfl (dle (n := 0) (wn rfl) (A.ev rfl) slc54 hrb.sl.form λ _ A=>B2 A rfl (b_eq _ _ 0 0 true _ rfl) λ A=>qt_<|ct_ A rfl<|sw_<|qs A rfl (dbd (cs := #[J 0, J 0, J 0, J 0, J 0, J 0, J 0, J 0, J 0, J 0, .bool false, .bool false, .bool false, J 0, J 0, J 0, .bool false]) (wn rfl) (bp_of bq_nil) zero30 places30 (by kernel_rfl) λ _ A=>qs A rfl (dsr (wn rfl) (A.ev rfl) (A.ev rfl) row30 m53 rfl rfl λ w128 hU129 (m130 : Blk w128 g3 #[J 0, J 0, J 0, J 0, J 0, J 0, J 0, J 0, J 0, J 0, .bool false, .bool false, .bool false, J 0, J 0, J 0, .bool false] 30)=>?_)))
  have m131 := m51.upd hU129 n9
  have m132 := m52.upd hU129 n10
  have m133 := hrb.upd hU129 hg0b
  have b134 := hU129.below b49 ge8
  have x135 := x50.updOut hU129 gx11
  intro _ A
  refine qt_<|we_<|tr_<|retRow (g := g3) (cs := #[J 0, J 0, J 0, J 0, J 0, J 0, J 0, J 0, J 0, J 0, .bool false, .bool false, .bool false, J 0, J 0, J 0, .bool false]) rfl A rfl m130 row30 ?_
  rw [inst_nil] at hins
  rw [← hins]
  exact ⟨rfl, x135, m131, m132, hpz⟩
 have hl0 := (hin r0 (List.mem_cons_self ..)).2
 have hin2a : ∀ s' : Ps, ∀ r ∈ leftR lg L k43 (r0 :: l) s', r ∈ lg.rows ∧ r.parts.length = pl := λ s' => left_one hin
 refine ws_<|sw_<|Z 1 A rfl λ A=>qs A rfl (dle (n := (r0 :: l).length) (wn rfl) (A.ev rfl) slc54 hrb.sl.form λ _ A=>B2 A rfl (b_gt _ _ (((r0 :: l).length : Nat) : Int) 0 true _ gt0_cons) λ A=>Z 3 A rfl λ A=>?_)
 obtain ⟨b150, o151, lt152, hr153, hix154⟩ := hrb.sl.at (show (r0 :: l)[0]? = some r0 from rfl)
 refine qs A rfl (dia (j := 0) (wy rfl rfl (A.g 10 rfl)) (A.ev rfl) (A.ev rfl) slc54 hix154 (get_lt (show (r0 :: l)[0]? = some r0 from rfl)) λ _ A=>F1 A rfl fo105_2 λ A=>qs A rfl (dld (v := r0.pv) (wy rfl rfl (A.g 10 rfl)) (A.ev rfl) one103 (hr153 18 _ rfl) λ _ A=>qs A rfl (dle (n := r0.parts.length) (wy rfl rfl (A.g 10 rfl)) (A.ev rfl) slc103 (hTb.of (hin r0 (List.mem_cons_self ..)).1).1.form λ _ A=>?_)))
 rcases eb_ (decide (((k43 : Nat) : Int) < ((r0.parts.length : Nat) : Int))) with hb163 | hb163
 ·skip
  have hq164 := dt_ hb163
  refine B2 A rfl (bl hb163) λ A=>Z 1 A rfl λ A=>qt_<|ct_ A rfl<|wk_<|tn_<|ws_<|wp_block<|ws_<|sw_<|Z 1 A rfl λ A=>?_
  rcases eb_ (decide (((k43 : Nat) : Int) > 0)) with hb171 | hb171
  ·skip
   have hq172 := dt_ hb171
   refine B2 A rfl (bg hb171) λ A=>qt_<|ct_ A rfl<|wr_<|Z 1 A rfl λ A=>C A rfl ent106 (pmark_any Bd gr gc lg z46 sv L [44] w42 (nt_ hB b49.size) hBr hBc hne m51 m52 (hSl.below b49) hpz hL) ?_
   rintro e180 w177 ⟨he179, hX182, m183, m184, hp181⟩
   have m185 := m53.mix hX182 (nin2 (Ne.symm n9) (Ne.symm n10))
   have m186 := hrb.mix hX182 (nin2 (Ne.symm hgr0) (Ne.symm hgc0))
   have x187 := x50.mix hX182 (λ k hk hc => nin2 (two_a hc) (two_b hc))
   have b188 := hX182.below b49 (nt_ hB b49.size) (lows2 hBr hBc)
   refine ⟨(.tuple #[]), he179, λ _ A=>qt_<|sw_<|Z 3 A rfl λ A=>C A rfl ent107 (beg_any Bd gr gc lg (markP L [44] z46) sv L k43 g0 cap (r0 :: l) w177 (nt_ hB b188.size) hBr hBc hne m183 m184 (hSl.below b188) hp181 hL hBg0 m186 hgr0 hgc0 (λ r hr => ((hTb.of (hin r hr).1).1.below b188)) (λ r hr => by have := (hin r hr).2; omega) (by omega)) ?_⟩
   rintro e200 w197 ⟨he199, hX202, m203, m204, m205, hp201⟩
   have m206 := m185.mix hX202 (nin3 (Ne.symm n9) (Ne.symm n10) (Ne.symm hg0b))
   have := hg0a
   have x207 := x187.mix hX202 (λ k hk hc => nin3 (two_a hc) (two_b hc) ((by omega)))
   have b208 := hX202.below b188 (nt_ hB b188.size) (lows3 hBr hBc hBg0)
   refine ⟨(.slice (some ⟨g0, 0, none⟩) (leftR lg L k43 (r0 :: l) (markP L [44] z46)).length cap), he199, λ _ A=>?_⟩
   have hin2 := hin2a (markP L [44] z46)
   refine Z 1 A rfl λ A=>qt_<|sw_<|Z 1 A rfl λ A=>qs A rfl (dle (n := (leftR lg L k43 (r0 :: l) (markP L [44] z46)).length) (wn rfl) (A.ev rfl) slc54 m205.sl.form λ _ A=>?_)
   rcases eb_ (decide ((((leftR lg L k43 (r0 :: l) (markP L [44] z46)).length : Nat) : Int) > 0)) with hb217 | hb217
   ·skip
    have hq218 := dt_ hb217
    refine B2 A rfl (bg hb217) λ A=>qt_<|ct_ A rfl<|wr_<|Z 2 A rfl λ A=>?_
    obtain ⟨y225, hy226⟩ : ∃ y225, (leftR lg L k43 (r0 :: l) (markP L [44] z46))[0]? = some y225 := ⟨_, List.getElem?_eq_getElem (show 0 < (leftR lg L k43 (r0 :: l) (markP L [44] z46)).length by omega)⟩
    have hl1 := (hin2 y225 (List.mem_of_getElem? hy226)).2
    obtain ⟨b227, o228, lt229, hr230, hix231⟩ := m205.sl.at hy226
    refine qs A rfl (dia (j := 0) (wn rfl) (A.ev rfl) (A.ev rfl) slc54 hix231 (get_lt hy226) λ _ A=>F1 A rfl fo105_2 λ A=>qs A rfl (dld (v := y225.pv) (wn rfl) (A.ev rfl) one103 (hr230 18 _ rfl) λ _ A=>Z 1 A rfl λ A=>?_))
    obtain ⟨y240, hy241⟩ : ∃ y240, y225.parts[k43]? = some y240 := ⟨_, List.getElem?_eq_getElem (show k43 < y225.parts.length by omega)⟩
    obtain ⟨b242, o243, lt244, hr245, hix246⟩ := ((hTb.of (hin2 y225 (List.mem_of_getElem? hy226)).1).1.below b208).at hy241
    refine qs A rfl (dia (j := k43) (wn rfl) (A.ev rfl) (A.ev rfl) slc103 hix246 (get_lt hy241) λ _ A=>qs A rfl (dld (v := (J y240)) (wn rfl) (A.ev rfl) one109 (hr245 0 _ rfl) λ _ A=>C A rfl ent108 (ppart_any Bd gr gc lg (begP lg L k43 (r0 :: l) (markP L [44] z46)) sv L y240 w197 (nt_ hB b208.size) hBr hBc hne m203 m204 (hSl.below b208) hp201 hL) ?_))
    rintro e254 w251 ⟨he253, hX256, m257, m258, hp255⟩
    have m259 := m206.mix hX256 (nin2 (Ne.symm n9) (Ne.symm n10))
    have m260 := m205.mix hX256 (nin2 (Ne.symm hgr0) (Ne.symm hgc0))
    have hr261 := range_mix hr245 hX256 (Nat.lt_of_lt_of_le lt244 (nt_ hB b208.size)) ((lows2 hBr hBc) _ lt244)
    have x262 := x207.mix hX256 (λ k hk hc => nin2 (two_a hc) (two_b hc))
    have b263 := hX256.below b208 (nt_ hB b208.size) (lows2 hBr hBc)
    refine ⟨(.tuple #[]), he253, λ _ A=>qe_<|i_norm<|tn_<|wr_<|Z 1 A rfl λ A=>B2 A rfl (b_addE (k43 + 1) (by omega) (by omega)) λ A=>Z 1 A rfl λ A=>qt_ ?_⟩
    have hgo := (inst_go (g := lg) (L := L) (s := z46) hk1 hb163).symm.trans hins
    rw [comma_yes hb171] at hgo
    rw [part0_some hy226 hy241] at hgo
    exact ⟨1001 - (k43 + 1), (by rw [hm47]; omega), k43 + 1, (leftR lg L k43 (r0 :: l) (markP L [44] z46)), _, (partP lg L y240 (begP lg L k43 (r0 :: l) (markP L [44] z46))), rfl, (by have := (hTb.of (hin r0 (List.mem_cons_self ..)).1).2; omega), hgo, hin2, nt_ (List.length_filter_le _ _) hrl, hp255, A.sub rfl, b263, x262, m257, m258, m259, .inr ⟨g0, cap, rfl, hg0a, hg0b, m260⟩⟩
   have hq272 := df_ hb217
   refine B2 A rfl (bg hb217) λ A=>qt_<|cf_ A rfl<|wk_<|i_norm<|tn_<|wr_<|Z 1 A rfl λ A=>B2 A rfl (b_addE (k43 + 1) (by omega) (by omega)) λ A=>Z 1 A rfl λ A=>qt_ ?_
   have hgo := (inst_go (g := lg) (L := L) (s := z46) hk1 hb163).symm.trans hins
   rw [comma_yes hb171] at hgo
   rw [part0_none (df_ hb217)] at hgo
   exact ⟨1001 - (k43 + 1), (by rw [hm47]; omega), k43 + 1, (leftR lg L k43 (r0 :: l) (markP L [44] z46)), _, (begP lg L k43 (r0 :: l) (markP L [44] z46)), rfl, (by have := (hTb.of (hin r0 (List.mem_cons_self ..)).1).2; omega), hgo, hin2, nt_ (List.length_filter_le _ _) hrl, hp201, A.sub rfl, b208, x207, m203, m204, m206, .inr ⟨g0, cap, rfl, hg0a, hg0b, m205⟩⟩
  have hq281 := df_ hb171
  refine B2 A rfl (bg hb171) λ A=>qt_<|cf_ A rfl<|wk_<|tn_<|sw_<|Z 3 A rfl λ A=>C A rfl ent107 (beg_any Bd gr gc lg z46 sv L k43 g0 cap (r0 :: l) w42 (nt_ hB b49.size) hBr hBc hne m51 m52 (hSl.below b49) hpz hL hBg0 hrb hgr0 hgc0 (λ r hr => ((hTb.of (hin r hr).1).1.below b49)) (λ r hr => by have := (hin r hr).2; omega) (by omega)) ?_
  rintro e293 w290 ⟨he292, hX295, m296, m297, m298, hp294⟩
  have m299 := m53.mix hX295 (nin3 (Ne.symm n9) (Ne.symm n10) (Ne.symm hg0b))
  have := hg0a
  have x300 := x50.mix hX295 (λ k hk hc => nin3 (two_a hc) (two_b hc) ((by omega)))
  have b301 := hX295.below b49 (nt_ hB b49.size) (lows3 hBr hBc hBg0)
  refine ⟨(.slice (some ⟨g0, 0, none⟩) (leftR lg L k43 (r0 :: l) z46).length cap), he292, λ _ A=>?_⟩
  have hin2 := hin2a z46
  refine Z 1 A rfl λ A=>qt_<|sw_<|Z 1 A rfl λ A=>qs A rfl (dle (n := (leftR lg L k43 (r0 :: l) z46).length) (wn rfl) (A.ev rfl) slc54 m298.sl.form λ _ A=>?_)
  rcases eb_ (decide ((((leftR lg L k43 (r0 :: l) z46).length : Nat) : Int) > 0)) with hb310 | hb310
  ·skip
   have hq311 := dt_ hb310
   refine B2 A rfl (bg hb310) λ A=>qt_<|ct_ A rfl<|wr_<|Z 2 A rfl λ A=>?_
   obtain ⟨y318, hy319⟩ : ∃ y318, (leftR lg L k43 (r0 :: l) z46)[0]? = some y318 := ⟨_, List.getElem?_eq_getElem (show 0 < (leftR lg L k43 (r0 :: l) z46).length by omega)⟩
   have hl1 := (hin2 y318 (List.mem_of_getElem? hy319)).2
   obtain ⟨b320, o321, lt322, hr323, hix324⟩ := m298.sl.at hy319
   refine qs A rfl (dia (j := 0) (wn rfl) (A.ev rfl) (A.ev rfl) slc54 hix324 (get_lt hy319) λ _ A=>F1 A rfl fo105_2 λ A=>qs A rfl (dld (v := y318.pv) (wn rfl) (A.ev rfl) one103 (hr323 18 _ rfl) λ _ A=>Z 1 A rfl λ A=>?_))
   obtain ⟨y333, hy334⟩ : ∃ y333, y318.parts[k43]? = some y333 := ⟨_, List.getElem?_eq_getElem (show k43 < y318.parts.length by omega)⟩
   obtain ⟨b335, o336, lt337, hr338, hix339⟩ := ((hTb.of (hin2 y318 (List.mem_of_getElem? hy319)).1).1.below b301).at hy334
   refine qs A rfl (dia (j := k43) (wn rfl) (A.ev rfl) (A.ev rfl) slc103 hix339 (get_lt hy334) λ _ A=>qs A rfl (dld (v := (J y333)) (wn rfl) (A.ev rfl) one109 (hr338 0 _ rfl) λ _ A=>C A rfl ent108 (ppart_any Bd gr gc lg (begP lg L k43 (r0 :: l) z46) sv L y333 w290 (nt_ hB b301.size) hBr hBc hne m296 m297 (hSl.below b301) hp294 hL) ?_))
   rintro e347 w344 ⟨he346, hX349, m350, m351, hp348⟩
   have m352 := m299.mix hX349 (nin2 (Ne.symm n9) (Ne.symm n10))
   have m353 := m298.mix hX349 (nin2 (Ne.symm hgr0) (Ne.symm hgc0))
   have hr354 := range_mix hr338 hX349 (Nat.lt_of_lt_of_le lt337 (nt_ hB b301.size)) ((lows2 hBr hBc) _ lt337)
   have x355 := x300.mix hX349 (λ k hk hc => nin2 (two_a hc) (two_b hc))
   have b356 := hX349.below b301 (nt_ hB b301.size) (lows2 hBr hBc)
   refine ⟨(.tuple #[]), he346, λ _ A=>qe_<|i_norm<|tn_<|wr_<|Z 1 A rfl λ A=>B2 A rfl (b_addE (k43 + 1) (by omega) (by omega)) λ A=>Z 1 A rfl λ A=>qt_ ?_⟩
   have hgo := (inst_go (g := lg) (L := L) (s := z46) hk1 hb163).symm.trans hins
   rw [comma_no hb171] at hgo
   rw [part0_some hy319 hy334] at hgo
   exact ⟨1001 - (k43 + 1), (by rw [hm47]; omega), k43 + 1, (leftR lg L k43 (r0 :: l) z46), _, (partP lg L y333 (begP lg L k43 (r0 :: l) z46)), rfl, (by have := (hTb.of (hin r0 (List.mem_cons_self ..)).1).2; omega), hgo, hin2, nt_ (List.length_filter_le _ _) hrl, hp348, A.sub rfl, b356, x355, m350, m351, m352, .inr ⟨g0, cap, rfl, hg0a, hg0b, m353⟩⟩
  have hq365 := df_ hb310
  refine B2 A rfl (bg hb310) λ A=>qt_<|cf_ A rfl<|wk_<|i_norm<|tn_<|wr_<|Z 1 A rfl λ A=>B2 A rfl (b_addE (k43 + 1) (by omega) (by omega)) λ A=>Z 1 A rfl λ A=>qt_ ?_
  have hgo := (inst_go (g := lg) (L := L) (s := z46) hk1 hb163).symm.trans hins
  rw [comma_no hb171] at hgo
  rw [part0_none (df_ hb310)] at hgo
  exact ⟨1001 - (k43 + 1), (by rw [hm47]; omega), k43 + 1, (leftR lg L k43 (r0 :: l) z46), _, (begP lg L k43 (r0 :: l) z46), rfl, (by have := (hTb.of (hin r0 (List.mem_cons_self ..)).1).2; omega), hgo, hin2, nt_ (List.length_filter_le _ _) hrl, hp294, A.sub rfl, b301, x300, m296, m297, m299, .inr ⟨g0, cap, rfl, hg0a, hg0b, m298⟩⟩
 have hq374 := df_ hb163
 refine B2 A rfl (bl hb163) λ A=>Z 1 A rfl λ A=>qt_<|cf_ A rfl<|wp_exit<|t_exit<|t_exit<|i_here<|tn_<|ws_<|sw_<|Z 1 A rfl λ A=>?_
 refine qs A rfl (dle (n := (r0 :: l).length) (wn rfl) (A.ev rfl) slc54 hrb.sl.form λ _ A=>B2 A rfl (b_eq _ _ (((r0 :: l).length : Nat) : Int) 0 false _ ne0_cons) @λ a383 A=>qt_<|cf_ A rfl<|wk_<|tn_<|ws_ ?_)
 have A : St 53 [(0, (.pointer (some ⟨gr, 0, none⟩))), (2, (.pointer (some ⟨g3, 0, none⟩))), (3, (.slice (some ⟨g0, 0, none⟩) (r0 :: l).length cap))] a383 := A.sub rfl
 let M386 : Nat → Option (Array Value) := λ _ => none
 have hM386 : M386 = λ _ => none := rfl
 clear_value M386
 have hM386A : ∀ k, M386 k = none := λ k => congrFun hM386 k
 have hM386B : ∀ k, k < Bd → M386 k = none := λ k _ => hM386A k
 refine drawnL (S := SM M386) rfl (tabL [cv (.slice (some ⟨g0, 0, none⟩) (r0 :: l).length cap), cv (.pointer (some ⟨b150, o151, none⟩)), cv (.agg (rwC r0)), cv (.pointer (some ⟨gr, 0, none⟩)), cv (.pointer (some ⟨gr, 0, none⟩)), cv (.pointer (some ⟨gr, 18, none⟩)), cv (.agg (insC z46.ins)), cv (.agg (insC (withR r0 z46.ins)))]) none (λ _ => none) (λ _ _ => True) [7, 0, 1, 2, 3, 4, 5, 6] [] mixedY SM.refl SM.trans A (by kernel_rfl) (by kernel_rfl) (λ i v u w h => by cases h) ?_ ?_
 ·skip
  have bD387 := blg b49 ((Grow.refl w42).drew) (nt_ hB b49.size)
  refine ed_ (.inl ⟨nofun, rfl, λ x y hS hT hk => dmv (wn rfl) (hT.ev rfl) ⟨SM.refl _, rfl⟩⟩)<|ed_ (.inl ⟨nofun, rfl, λ x y hS hT hk => dia (j := 0) (wn rfl) (hk 0 rfl) (hT.ev rfl) slc54 hix154 (get_lt (show (r0 :: l)[0]? = some r0 from rfl)) ⟨SM.refl _, rfl⟩⟩)<|ed_ (.inl ⟨nofun, rfl, λ x y hS hT hk => dlm (cs := (rwC r0)) (wn rfl) (hk 1 rfl) row105 (range_sm (w := w42.drew) hr153 hS lt152 (congrFun hM386 _)) ⟨SM.refl _, rfl⟩⟩)<|ed_ (.inl ⟨nofun, rfl, λ x y hS hT hk => dmv (wn rfl) (hT.ev rfl) ⟨SM.refl _, rfl⟩⟩)<|ed_ (.inl ⟨nofun, rfl, λ x y hS hT hk => dnc (wn rfl) (hk 3 rfl) ⟨SM.refl _, rfl⟩⟩)<|ed_ (.inl ⟨nofun, rfl, λ x y hS hT hk => dfa (wn rfl) (hk 4 rfl) fo86_2 ⟨SM.refl _, rfl⟩⟩)<|ed_ (.inl ⟨nofun, rfl, λ x y hS hT hk => dlm (cs := (insC z46.ins)) (wn rfl) (hk 5 rfl) row30 ((Blk.sm (w := w42.drew) m51 hS (hM386A _)).mid rfl) ⟨SM.refl _, rfl⟩⟩)<|ed_ (.inl ⟨nofun, rfl, λ x y hS hT hk => dcl (wn rfl) ent109 (map2 (show x.eval _ = (.agg (rwC r0)) from (hk 2 rfl)) (show x.eval _ = (.agg (insC z46.ins)) from (hk 6 rfl))) (with_any r0 z46.ins y (((hTb.of (hin r0 (List.mem_cons_self ..)).1).1.below (hS.below bD387 (nt_ hB b49.size) hM386B)).mono (nt_ (nt_ hB b49.size) hS.size)) (hTb.of (hin r0 (List.mem_cons_self ..)).1).2) (λ _ _ ⟨he, hG⟩ => ⟨(.agg (insC (withR r0 z46.ins))), he, SM.grow hG, rfl⟩)⟩) ?_
  exact eachD_one
 rintro a388 w389 A ⟨hS392, hC393⟩
 have A : St 53 [(2, (.pointer (some ⟨g3, 0, none⟩))), (52, (.agg (insC (withR r0 z46.ins))))] a388 := A.cut _ (fc (A.g 2 rfl) (fc (hC393 7 (nb_ rfl)) fn_))
 have hG395 : Grow w42 w389 := Grow.trans ((Grow.refl _).drew) (SM.grown (by rw [hM386] at hS392; exact hS392))
 have m396 := m51.grow hG395
 have m397 := m52.grow hG395
 have m398 := m53.grow hG395
 have m399 := hrb.grow hG395
 have hr400 := range_below hr153 hG395 lt152
 have lt401 := Nat.lt_of_lt_of_le lt152 hG395.size
 have b402 := blg b49 hG395 (nt_ hB b49.size)
 have x403 := x50.grow hG395
 refine dsr (wn rfl) (A.ev rfl) (A.ev rfl) row30 m398 rfl rfl λ w404 hU405 (m406 : Blk w404 g3 (insC (withR r0 z46.ins)) 30)=>?_
 have m407 := m396.upd hU405 n9
 have m408 := m397.upd hU405 n10
 have m409 := m399.upd hU405 hg0b
 have b410 := hU405.below b402 ge8
 have x411 := x403.updOut hU405 gx11
 refine tn_<|we_<|retRow (g := g3) (cs := (insC (withR r0 z46.ins))) rfl A rfl m406 row30 ?_
 rw [inst_end hk1 hb163] at hins
 rw [← hins]
 exact ⟨rfl, x411, m407, m408, hpz⟩
def zPs : Ps := ⟨zIns, [], 0, 0, 0⟩
def moreP (L : List Tk) (s : Ps) : Ps := if decide (((L.length : Nat) : Int) - ((s.p : Nat) : Int) > 0) = true then refP L 25 s else s
def parP (g : Lg) (L : List Tk) : Ins × List UInt8 × Int × Int :=
 if ((moreP L (instP g L zPs).1).e == 0) = true then (if wrongB (withL (instP g L zPs).2 (instP g L zPs).1.ins) = true then (zIns, [], 34, whereR L 0) else (withL (instP g L zPs).2 (instP g L zPs).1.ins, (moreP L (instP g L zPs).1).lab, 0, 0))
 else (zIns, [], (moreP L (instP g L zPs).1).e, (moreP L (instP g L zPs).1).a)
theorem b_slsome {P : Program} {w : World} {t e : TypeId} {x y : Operand} {ao : Option Addr} {n c : Nat} {s : Nat} (ht : sliceB P t e s = true) : (eqGuard .eql t x y (.slice ao n c) (.slice none 0 0)).run P w = .ok () w ∧ (binOp .eql t (.slice ao n c) (.slice none 0 0)).run P w = .ok (.bool ao.isNone) w := by
 refine ⟨by simp [eqGuard], ?_⟩
 exact Go.Lib.run_eql_slice_nil w t e ao n c 0 0 (slice_facts ht).1
theorem cell_lt {w : World} {k : Nat} {v : Value} (h : w.cell? ⟨k, 0, none⟩ = some v) : k < w.heap.size := by
 rcases Nat.lt_or_ge k w.heap.size with h' | h'
 ·exact h'
 ·simp [World.cell?, Array.getElem?_eq_none h'] at h
theorem sl_upd {α : Type} {enc : α → List Value} {s g B : Nat} {w w' : World} {v : Value} {l : List α} (h : Sl enc s B w v l) (m : Upd g w w') (hne : v.ownBlock ≠ some g) : Sl enc s B w' v l := by
 obtain ⟨ao, cap, hv, hlc, he⟩ := h
 refine ⟨ao, cap, hv, hlc, fun j x hx => ?_⟩
 obtain ⟨b, o, h1, h2, h3⟩ := he j x hx
 refine ⟨b, o, h1, h2, range_upd h3 m fun e => hne ?_⟩
 rw [hv, h1, e]; rfl
theorem sl_sm {α : Type} {enc : α → List Value} {s B : Nat} {M : Nat → Option (Array Value)} {w w' : World} {v : Value} {l : List α} (h : Sl enc s B w v l) (hS : SM M w w') (hB : B ≤ w.heap.size) (hM : ∀ k, M k = none) : Sl enc s B w' v l := by
 obtain ⟨ao, cap, hv, hlc, he⟩ := h
 refine ⟨ao, cap, hv, hlc, fun j x hx => ?_⟩
 obtain ⟨b, o, h1, h2, h3⟩ := he j x hx
 exact ⟨b, o, h1, h2, range_sm h3 hS (Nat.lt_of_lt_of_le h2 hB) (hM b)⟩
theorem SM.same {M : Nat → Option (Array Value)} {w w' : World} {g : Nat} {cs : Array Value} {t : TypeId} (hu : Upd g w w') (hb : Blk w g cs t) (hb' : Blk w' g cs t) : SM M w w' := by
 have hh : ∀ i, w'.heap[i]? = w.heap[i]? := fun i => by
  by_cases hi : i = g
  ·subst hi; unfold Blk at hb hb'; rw [hb, hb']
  ·exact hu.block i hi
 exact ⟨hu.os, hu.tape, hu.output, Nat.le_of_eq hu.size.symm, fun i _ _ => hh i, fun i fin cs' t' _ hbi => ⟨cs', by unfold Blk; rw [hh i]; exact hbi, rfl, fun _ => .inl rfl⟩⟩
structure NewOK (B0 : Nat) (w : World) (g : Nat) (sv : Value) (L : List Tk) (t : TypeId) : Prop where
 ge : B0 ≤ g
 blk : Blk w g #[sv, .int .i64 ((0 : Nat) : Int)] t
 sl : Sl tokE 4 g w sv L
 own : ∀ b, sv.ownBlock = some b → B0 ≤ b
theorem NewOK.sm {B0 g : Nat} {w w' : World} {sv : Value} {L : List Tk} {t : TypeId} {M : Nat → Option (Array Value)} (h : NewOK B0 w g sv L t) (hS : SM M w w') (hM : ∀ k, M k = none) : NewOK B0 w' g sv L t :=
 ⟨h.ge, h.blk.sm hS (hM g), sl_sm h.sl hS (Nat.le_of_lt h.blk.lt) hM, h.own⟩
def cNew (M : Nat → Option (Array Value)) (hM : ∀ k, M k = none) (B0 : Nat) (L : List Tk) (t : TypeId) : Cl (SM M) :=
 ⟨fun v w => ∃ g sv, v = .pointer (some ⟨g, 0, none⟩) ∧ NewOK B0 w g sv L t, fun _ _ _ hS ⟨g, sv, h1, h2⟩ => ⟨g, sv, h1, h2.sm hS hM⟩⟩
def cBld (M : Nat → Option (Array Value)) (hM : ∀ k, M k = none) (lg : Lg) (B0 : Nat) (L : List Tk) (t : TypeId) : Cl (SM M) :=
 ⟨fun v w => ∃ g sv, v = .agg (rdP lg g zPs) ∧ NewOK B0 w g sv L t, fun _ _ _ hS ⟨g, sv, h1, h2⟩ => ⟨g, sv, h1, h2.sm hS hM⟩⟩
def cBox (M : Nat → Option (Array Value)) (hM : ∀ k, M k = none) (lg : Lg) (B0 : Nat) (L : List Tk) (t tr : TypeId) : Cl (SM M) :=
 ⟨fun v w => ∃ r g sv, v = .pointer (some ⟨r, 0, none⟩) ∧ g < r ∧ Blk w r (rdP lg g zPs) tr ∧ NewOK B0 w g sv L t, fun _ _ _ hS ⟨r, g, sv, h1, h2, h3, h4⟩ => ⟨r, g, sv, h1, h2, h3.sm hS (hM r), h4.sm hS hM⟩⟩
theorem ent103 : Ent Tryz.prog 103 = FF := by kernel_rfl
theorem places132 : placesOf Tryz.prog 132 = some [(0, 1), (1, 1)] := by kernel_rfl
theorem zero132 : (Tryz.prog.info? 132).map (λ i => (i.zero, i.size)) = some (some (.agg #[.slice none 0 0, J 0]), 2) := by kernel_rfl
theorem tokE_one : ∀ x : Tk, ∀ u ∈ tokE x, u.oneCell' = true := by
 intro x u hu
 simp [tokE, tokC] at hu
 rcases hu with rfl | rfl | rfl | rfl <;> rfl
theorem clone_none (n c : Nat) (L : List Tk) (w : World) (hnil : [] = L) : Calls Tryz.prog 103 #[.slice none n c] w λ e w' => ∃ sv, e = .returned sv ∧ Grow w w' ∧ Sl tokE 4 w'.heap.size w' sv L ∧ (∀ b, sv.ownBlock = some b → w.heap.size ≤ b) := by
 have b0 := Grow.refl w
 refine enter (n := 8) Tryz.func103 rfl rfl (nb_ rfl) λ _ A=>sw_<|Z 1 A rfl λ A=>qt_<|ws_<|sw_<|Z 1 A rfl λ A=>B2 A rfl (b_slsome slc23) λ A=>qt_<|ct_ A rfl ?_
 refine sw_<|Z 1 A rfl λ A=>qt_<|we_<|tr_<|ret1 rfl A (v := (.slice none 0 0)) rfl ?_
 exact ⟨_, rfl, b0, (hnil ▸ Sl.nil), λ b hb => by cases hb⟩
theorem clone_some (ad : Addr) (n c : Nat) (L : List Tk) (w : World) (hTv : Sl tokE 4 w.heap.size w (.slice (some ad) n c) L) (hL : L.length ≤ 1000000) : Calls Tryz.prog 103 #[.slice (some ad) n c] w λ e w' => ∃ sv, e = .returned sv ∧ Grow w w' ∧ Sl tokE 4 w'.heap.size w' sv L ∧ (∀ b, sv.ownBlock = some b → w.heap.size ≤ b) := by
 have b0 := Grow.refl w
 refine enter (n := 8) Tryz.func103 rfl rfl (nb_ rfl) λ _ A=>sw_<|Z 1 A rfl λ A=>qt_<|ws_<|sw_<|Z 1 A rfl λ A=>B2 A rfl (b_slsome slc23) λ A=>qt_<|cf_ A rfl ?_
 refine wk_<|tn_<|sw_<|qs A rfl (d_none (wn rfl) elm23 λ g9 w10 eg11 hG12 (m13 : Blk w10 g9 #[] 28)=>?_)
 have ge14 : w.heap.size ≤ g9 := eg11 ▸ b0.size
 have b15 := bls b0 hG12
 intro _ A
 refine Z 1 A rfl λ A=>qs A rfl (d_copy (wn rfl) (A.ev rfl) m13 (A.ev rfl) elm23 (hTv.below b15) (λ _ => rfl) tokE_one (by omega) (by decide) λ v20 w21 hG22 ho23=>?_)
 have m24 := m13.grow hG22
 have b25 := bls b15 hG22
 intro _ A
 refine Z 1 A rfl λ A=>qt_<|we_<|ret1 rfl A (v := v20) rfl ?_
 exact ⟨_, rfl, b25, own_gen (λ _ => rfl) ho23, λ b hb => nt_ ge14 (own_lt ho23 b hb).1⟩
theorem clone_any (tv : Value) (L : List Tk) (w : World) (hTv : Sl tokE 4 w.heap.size w tv L) (hL : L.length ≤ 1000000) : Calls Tryz.prog 103 #[tv] w λ e w' => ∃ sv, e = .returned sv ∧ Grow w w' ∧ Sl tokE 4 w'.heap.size w' sv L ∧ (∀ b, sv.ownBlock = some b → w.heap.size ≤ b) := by
 obtain ⟨ao, cap, rfl, hlc, he⟩ := id hTv
 cases ao with
 | none =>
  have hnil : [] = L := by
   cases L with
   | nil => rfl
   | cons x l => obtain ⟨b, o, h1, _⟩ := he 0 x rfl; cases h1
  exact clone_none _ _ L w hnil
 | some ad => exact clone_some ad _ _ L w hTv hL
theorem new_any (tv : Value) (L : List Tk) (w : World) (hTv : Sl tokE 4 w.heap.size w tv L) (hL : L.length ≤ 1000000) : Calls Tryz.prog 58 #[tv] w λ e w' => ∃ g sv, e = .returned (.pointer (some ⟨g, 0, none⟩)) ∧ NewOK w.heap.size w' g sv L 132 ∧ Grow w w' := by
 have b0 := Grow.refl w
 refine enter (n := 7) Tryz.func58 rfl rfl (nb_ rfl) λ _ A=>sw_<|Z 1 A rfl λ A=>qt_<|sw_<|Z 1 A rfl λ A=>C A rfl ent103 (clone_any tv L w ((hTv.below b0).mono b0.size) hL) ?_
 rintro e10 w7 ⟨sv, he9, hG8, hS11, hO12⟩
 have b13 := bls b0 hG8
 refine ⟨sv, he9, λ _ A=>?_⟩
 obtain ⟨ao1, cap1, hsf⟩ := hS11.form
 refine qs A rfl (dbd (cs := #[sv, J 0]) (wn rfl) (bp_of (bq_cons (A.ev rfl) bq_nil)) zero132 places132 (by rw [hsf]; kernel_rfl) λ _ A=>qs A rfl (d_box (wn rfl) (A.ev rfl) λ g18 w19 eg20 hG21 (m22 : Blk w19 g18 #[sv, J 0] 132)=>?_))
 have ge23 : w.heap.size ≤ g18 := eg20 ▸ b13.size
 have b24 := bls b13 hG21
 have hsl25 : Sl tokE 4 g18 w19 sv L := by rw [eg20]; exact hS11.below hG21
 intro _ A
 refine Z 1 A rfl λ A=>qt_<|we_<|ret1 rfl A (v := (.pointer (some ⟨g18, 0, none⟩))) rfl ?_
 exact ⟨g18, sv, rfl, ⟨ge23, m22, hsl25, λ b hb => hO12 b hb⟩, b24⟩
theorem ent58 : Ent Tryz.prog 58 = FF := by kernel_rfl
theorem ent60 : Ent Tryz.prog 60 = FF := by kernel_rfl
theorem places86 : placesOf Tryz.prog 86 = some [(0, 17), (17, 1), (18, 17), (35, 1), (36, 1), (37, 1)] := by kernel_rfl
theorem zero86 : (Tryz.prog.info? 86).map (λ i => (i.zero, i.size)) = some (some (.agg #[.string (S []), .string (S []), .string (S []), .string (S []), .string (S []), .string (S []), .string (S []), .string (S []), .string (S []), .string (S []), .string (S []), .string (S []), .string (S []), .string (S []), .string (S []), .string (S []), .slice none 0 0, .pointer none, J 0, J 0, J 0, J 0, J 0, J 0, J 0, J 0, J 0, J 0, .bool false, .bool false, .bool false, J 0, J 0, J 0, .bool false, .string (S []), J 0, J 0]), 38) := by kernel_rfl
theorem parse_any (lg : Lg) (tv : Value) (L : List Tk) (w : World) (hTb : TabOK w.heap.size w lg) (hNm : ∀ r ∈ lg.rows, r.name.length ≤ 1000 ∧ (Lib.cut r.name [42]).1.length + (Lib.cut r.name [42]).2.1.length ≤ 2000) (hll : ∀ y ∈ lg.lets, y.length ≤ 1000) (m0 : Int) (hm : w.cell? ⟨0, 0, none⟩ = some (J m0)) (hUn : ∀ q, ∀ r ∈ lg.rows, ∀ r' ∈ lg.rows, (sizeP lg r q).2 = true → (sizeP lg r' q).2 = true → r.parts.length = r'.parts.length) (hTv : Sl tokE 4 w.heap.size w tv L) (hL : L.length ≤ 1000000) : Calls Tryz.prog 27 #[.agg (lgC lg), tv] w λ e w' => e = .returned (.tuple #[.agg (insC (parP lg L).1), .string (S (parP lg L).2.1), J (parP lg L).2.2.1, J (parP lg L).2.2.2]) ∧ Grow w w' := by
 have x0 : Mix [] w w := Mix.refl _ _
 have b0 := Grow.refl w
 refine enter (n := 65) Tryz.func27 rfl rfl (nb_ rfl) λ _ A=>sw_<|qs A rfl (d_box (wn rfl) (A.ev rfl) λ g3 w4 eg5 hG6 (m7 : Blk w4 g3 (lgC lg) 56)=>?_)
 have ge8 : w.heap.size ≤ g3 := eg5 ▸ b0.size
 have gx9 : w.heap.size ≤ g3 := eg5 ▸ x0.size
 have b10 := bls b0 hG6
 have x11 := x0.grow hG6
 intro _ A
 refine qs A rfl (dal (wn rfl) zero30 λ g14 w15 eg16 hG17 (m18 : Blk w15 g14 #[J 0, J 0, J 0, J 0, J 0, J 0, J 0, J 0, J 0, J 0, .bool false, .bool false, .bool false, J 0, J 0, J 0, .bool false] 30)=>?_)
 have ge19 : w.heap.size ≤ g14 := eg16 ▸ b10.size
 have n20 : g3 ≠ g14 := λ h => ni_ _ ((h.trans eg16) ▸ m7.lt)
 have gx21 : w.heap.size ≤ g14 := eg16 ▸ x11.size
 have m22 := m7.grow hG17
 have b23 := bls b10 hG17
 have x24 := x11.grow hG17
 intro _ A
 refine Z 3 A rfl @λ a31 A=>qt_<|ws_ ?_
 have A : St 65 [(1, tv), (2, (.pointer (some ⟨g3, 0, none⟩))), (4, (.pointer (some ⟨g14, 0, none⟩))), (5, (.string (S []))), (6, (J 0)), (7, (J 0))] a31 := A.sub rfl
 let M34 : Nat → Option (Array Value) := λ _ => none
 have hM34 : M34 = λ _ => none := rfl
 clear_value M34
 have hM35 : M34 g3 = none := (congrFun hM34 g3)
 have hM36 : M34 g14 = none := (congrFun hM34 g14)
 have hM34B : ∀ k, k < w.heap.size → M34 k = none := (λ k hk => (congrFun hM34 k))
 refine drawn (S := SM M34) (tabL [cv (.agg (lgC lg)), cv tv, cNew M34 (λ k => congrFun hM34 k) w15.heap.size L 132, cBld M34 (λ k => congrFun hM34 k) lg w15.heap.size L 132, cBox M34 (λ k => congrFun hM34 k) lg w15.heap.size L 132 86, cBox M34 (λ k => congrFun hM34 k) lg w15.heap.size L 132 86]) mixedY SM.refl SM.trans SM.drew A (by kernel_rfl) ?_ ?_
 ·skip
  have bD37 := blg b23 ((Grow.refl w15).drew) b23.size
  refine ec_ (λ x y hS hT hk => dlr (cs := (lgC lg)) (wn rfl) (hT.ev rfl) row56 (Blk.sm (w := w15.drew) m22 hS hM35) ⟨SM.refl _, rfl⟩)<|ec_ (λ x y hS hT hk => dmv (wn rfl) (hT.ev rfl) ⟨SM.refl _, rfl⟩)<|ec_ (λ x y hS hT hk => dcl (wn rfl) ent58 (map1 (show x.eval _ = tv from (hk 1 rfl))) (new_any tv L y ((hTv.below (hS.below bD37 b23.size hM34B)).mono (nt_ b23.size hS.size)) hL) (λ _ _ ⟨g, sv, he, hN, hG⟩ => ⟨_, he, SM.grow hG, g, sv, rfl, ⟨nt_ hS.size hN.ge, hN.blk, hN.sl, λ b hb => nt_ hS.size (hN.own b hb)⟩⟩))<|ec_ (λ x y hS hT hk => (hk 2 rfl).elim λ g h => h.elim λ sv h => dbd (cs := rdP lg g zPs) (wn rfl) (bp_of (bq_cons (show x.eval _ = .agg (lgC lg) from hk 0 rfl) (bq_cons h.1 bq_nil))) zero86 places86 (by kernel_rfl) ⟨SM.refl _, g, sv, rfl, h.2⟩)<|ec_ (λ x y hS hT hk => (hk 3 rfl).elim λ g h => h.elim λ sv h => d_box (wn rfl) h.1 (λ r w' er hG hb => ⟨SM.grow hG, r, g, sv, rfl, er ▸ h.2.blk.lt, hb, h.2.sm (SM.grow hG) (λ k => congrFun hM34 k)⟩))<|ec_ (λ x y hS hT hk => (hk 4 rfl).elim λ r h => h.elim λ g h => h.elim λ sv h => das (wn rfl) h.1 ⟨SM.refl _, r, g, sv, rfl, h.2⟩) ?_
  exact each_nil
 intro f38 a39 w40 hS41 hC42 A
 obtain ⟨gr, gc, sv, hval, hcr, hmr, hNew⟩ := hC42 5 (nb_ rfl)
 have A : St 65 [(4, (.pointer (some ⟨g14, 0, none⟩))), (5, (.string (S []))), (6, (J 0)), (7, (J 0)), (8, (.pointer (some ⟨gr, 0, none⟩)))] a39 := A.cut _ (fc (A.g 4 rfl) (fc (A.g 5 rfl) (fc (A.g 6 rfl) (fc (A.g 7 rfl) (fc ((A.g 8 rfl).trans hval) fn_)))))
 have m45 := m22.sm hS41 hM35
 have m46 := m18.sm hS41 hM36
 have b47 := hS41.below b23 b23.size hM34B
 have x48 := x24.sm (M := M34) hS41 (λ k hk hc => by rw [congrFun hM34 k] <;> repeat (rw [if_neg (by first | omega | omega)]))
 have hge0 : w.heap.size ≤ gc := nt_ b23.size hNew.ge
 have hger : w.heap.size ≤ gr := nt_ hge0 (Nat.le_of_lt hcr)
 have n49 : g3 ≠ gc := Nat.ne_of_lt (Nat.lt_of_lt_of_le m22.lt hNew.ge)
 have n50 : g3 ≠ gr := Nat.ne_of_lt (Nat.lt_of_lt_of_le m22.lt (nt_ hNew.ge (Nat.le_of_lt hcr)))
 have n51 : g14 ≠ gc := Nat.ne_of_lt (Nat.lt_of_lt_of_le m18.lt hNew.ge)
 have n52 : g14 ≠ gr := Nat.ne_of_lt (Nat.lt_of_lt_of_le m18.lt (nt_ hNew.ge (Nat.le_of_lt hcr)))
 have off53 : sv.ownBlock ≠ some g3 := λ e => ni_ _ (Nat.lt_of_lt_of_le m22.lt (hNew.own _ e))
 have off54 : sv.ownBlock ≠ some g14 := λ e => ni_ _ (Nat.lt_of_lt_of_le m18.lt (hNew.own _ e))
 have hrc : gr ≠ gc := Nat.ne_of_gt hcr
 have hmc : Blk w40 gc #[sv, J ((zPs.p : Nat) : Int)] 132 := hNew.blk
 have hp0 : zPs.p ≤ L.length := Nat.zero_le _
 refine tn_<|sw_<|Z 2 A rfl λ A=>F1 A rfl fo86_1 λ A=>qs A rfl (dld (v := (.pointer (some ⟨gc, 0, none⟩))) (wn rfl) (A.ev rfl) one83 (hmr.cell rfl) λ _ A=>C A rfl ent59 (at_any gc gc zPs.p sv L w40 (Nat.le_of_lt hmc.lt) (Nat.le_refl _) hmc hNew.sl hp0 hL) ?_)
 rintro e66 w63 ⟨he65, hG64⟩
 have m67 := m45.grow hG64
 have m68 := m46.grow hG64
 have m69 := hmr.grow hG64
 have m70 := hmc.grow hG64
 have b71 := bls b47 hG64
 have x72 := x48.grow hG64
 have hsl73 := hNew.sl.below (hG64.mono (Nat.le_of_lt hmc.lt))
 refine ⟨(J (whereR L zPs.p)), he65, λ _ A=>Z 1 A rfl λ A=>qt_<|sw_<|Z 1 A rfl λ A=>C A rfl ent60 (inst_any gc gr gc lg zPs sv L w63 (Nat.le_of_lt m70.lt) (Nat.le_of_lt hcr) (Nat.le_refl _) hrc m69 m70 hsl73 hp0 hL ((hTb.below b71).mono hge0) hNm hll (Nat.lt_of_lt_of_le (cell_lt hm) hge0) m0 (cell_keep hm b71) hUn) ?_⟩
 rintro e83 w80 ⟨he82, hX85, m86, m87, hp84⟩
 have m88 := m67.mix hX85 (nin2 n50 n49)
 have m89 := m68.mix hX85 (nin2 n52 n51)
 have := hger
 have := hge0
 have x90 := x72.mix hX85 (λ k hk hc => nin2 ((by omega)) ((by omega)))
 have b91 := hX85.below b71 b71.size (lows2 hger hge0)
 refine ⟨(.agg (insC (withL (instP lg L zPs).2 (instP lg L zPs).1.ins))), he82, λ _ A=>?_⟩
 have hsl94 := hsl73.below (hX85.far (Nat.le_of_lt m70.lt) (lows2 (Nat.le_of_lt hcr) (Nat.le_refl _)))
 refine qs A rfl (dsr (wn rfl) (A.ev rfl) (A.ev rfl) row30 m89 rfl rfl λ w95 hU96 (m97 : Blk w95 g14 (insC (withL (instP lg L zPs).2 (instP lg L zPs).1.ins)) 30)=>?_)
 have m98 := m88.upd hU96 n20
 have m99 := m86.upd hU96 (Ne.symm n52)
 have m100 := m87.upd hU96 (Ne.symm n51)
 have b101 := hU96.below b91 ge19
 have x102 := x90.updOut hU96 gx21
 have hsl103 := sl_upd hsl94 hU96 off54
 intro _ A
 refine qt_<|ws_<|sw_<|Z 2 A rfl λ A=>F1 A rfl fo86_1 λ A=>qs A rfl (dld (v := (.pointer (some ⟨gc, 0, none⟩))) (wn rfl) (A.ev rfl) one83 (m99.cell rfl) λ _ A=>C A rfl ent61 (left_any gc gc ((instP lg L zPs).1.p) sv L w95 (Nat.le_of_lt m100.lt) (Nat.le_refl _) m100 hsl103 hp84 hL) ?_)
 rintro e117 w114 ⟨he116, hG115⟩
 have m118 := m98.grow hG115
 have m119 := m97.grow hG115
 have m120 := m99.grow hG115
 have m121 := m100.grow hG115
 have b122 := bls b101 hG115
 have x123 := x102.grow hG115
 have hsl124 := hsl103.below (hG115.mono (Nat.le_of_lt m100.lt))
 refine ⟨(J (((L.length : Nat) : Int) - (((instP lg L zPs).1.p : Nat) : Int))), he116, λ _ A=>?_⟩
 rcases eb_ (decide (((L.length : Nat) : Int) - (((instP lg L zPs).1.p : Nat) : Int) > 0)) with hb127 | hb127
 ·skip
  have hq128 := dt_ hb127
  refine B2 A rfl (bg hb127) λ A=>qt_<|ct_ A rfl<|wr_<|Z 1 A rfl λ A=>C A rfl ent62 (prefuse_any gc gr gc lg (instP lg L zPs).1 sv L 25 w114 (Nat.le_of_lt m121.lt) (Nat.le_of_lt hcr) (Nat.le_refl _) hrc m120 m121 hsl124 hp84 hL) ?_
  rintro e136 w133 ⟨he135, hX138, m139, m140, hp137⟩
  have m141 := m118.mix hX138 (nin2 n50 n49)
  have m142 := m119.mix hX138 (nin2 n52 n51)
  have := hger
  have := hge0
  have x143 := x123.mix hX138 (λ k hk hc => nin2 ((by omega)) ((by omega)))
  have b144 := hX138.below b122 b122.size (lows2 hger hge0)
  refine ⟨(.tuple #[]), he135, λ _ A=>?_⟩
  have hsl147 := hsl124.below (hX138.far (Nat.le_of_lt m121.lt) (lows2 (Nat.le_of_lt hcr) (Nat.le_refl _)))
  refine qt_<|ws_<|sw_<|Z 2 A rfl λ A=>F1 A rfl fo86_4 λ A=>qs A rfl (dld (v := (J ((refP L 25 (instP lg L zPs).1).e))) (wn rfl) (A.ev rfl) one24 (m139.cell rfl) λ _ A=>?_)
  rcases eb_ ((refP L 25 (instP lg L zPs).1).e == 0) with hb156 | hb156
  ·skip
   have hq157 := eq_of_beq hb156
   refine B2 A rfl (bq hb156) λ A=>Z 1 A rfl λ A=>qs A rfl (dlr (cs := (insC (withL (instP lg L zPs).2 (instP lg L zPs).1.ins))) (wy rfl rfl (A.g 35 rfl)) (A.ev rfl) row30 m142 λ _ A=>C A rfl ent63 (iswrong_any (withL (instP lg L zPs).2 (instP lg L zPs).1.ins) w133) ?_)
   rintro e167 w164 ⟨he166, hG165⟩
   have m168 := m141.grow hG165
   have m169 := m142.grow hG165
   have m170 := m139.grow hG165
   have m171 := m140.grow hG165
   have b172 := bls b144 hG165
   have x173 := x143.grow hG165
   have hsl174 := hsl147.below (hG165.mono (Nat.le_of_lt m140.lt))
   rcases eb_ (wrongB (withL (instP lg L zPs).2 (instP lg L zPs).1.ins)) with hb175 | hb175
   ·skip
    refine ⟨.bool true, he166.trans (ret_bool hb175), λ _ A=>Z 1 A rfl λ A=>qt_<|ct_ A rfl<|wr_<|Z 4 A rfl λ A=>F1 A rfl fo86_4 λ A=>qs A rfl (dst_ (wn rfl) (A.ev rfl) (A.ev rfl) one24 rfl m170 (nb_ rfl) λ w191 hU192 (m193 : Blk w191 gr (rdP lg gc (setE (refP L 25 (instP lg L zPs).1) 34)) 86)=>?_)⟩
    have m194 := m168.upd hU192 n50
    have m195 := m169.upd hU192 n52
    have m196 := m171.upd hU192 (Ne.symm hrc)
    have b197 := hU192.below b172 hger
    have x198 := x173.updOut hU192 hger
    have hsl199 := hsl174.below (hU192.below (Below.refl _ _) (Nat.le_of_lt hcr))
    have m200 : Blk w191 gc #[sv, J (((setE (refP L 25 (instP lg L zPs).1) 34).p : Nat) : Int)] 132 := m196
    have hp201 : (setE (refP L 25 (instP lg L zPs).1) 34).p ≤ L.length := hp137
    intro _ A
    refine Z 1 A rfl λ A=>F1 A rfl fo86_5 λ A=>qs A rfl (dst_ (wn rfl) (A.ev rfl) (A.ev rfl) one3 rfl m193 (nb_ rfl) λ w208 hU209 (m210 : Blk w208 gr (rdP lg gc (setAt (setE (refP L 25 (instP lg L zPs).1) 34) (whereR L zPs.p))) 86)=>?_)
    have m211 := m194.upd hU209 n50
    have m212 := m195.upd hU209 n52
    have m213 := m200.upd hU209 (Ne.symm hrc)
    have b214 := hU209.below b197 hger
    have x215 := x198.updOut hU209 hger
    have hsl216 := hsl199.below (hU209.below (Below.refl _ _) (Nat.le_of_lt hcr))
    have m217 : Blk w208 gc #[sv, J (((setAt (setE (refP L 25 (instP lg L zPs).1) 34) (whereR L zPs.p)).p : Nat) : Int)] 132 := m213
    have hp218 : (setAt (setE (refP L 25 (instP lg L zPs).1) 34) (whereR L zPs.p)).p ≤ L.length := hp201
    intro _ A
    refine qt_<|ws_<|sw_<|Z 2 A rfl λ A=>F1 A rfl fo86_4 λ A=>qs A rfl (dld (v := (J ((setAt (setE (refP L 25 (instP lg L zPs).1) 34) (whereR L zPs.p)).e))) (wn rfl) (A.ev rfl) one24 (m210.cell rfl) λ _ A=>B2 A rfl (b_ne _ _ ((setAt (setE (refP L 25 (instP lg L zPs).1) 34) (whereR L zPs.p)).e) 0 true _ (notof rfl)) @λ a229 A=>qt_<|ct_ A rfl<|ws_ ?_)
    have A : St 65 [(4, (.pointer (some ⟨g14, 0, none⟩))), (8, (.pointer (some ⟨gr, 0, none⟩)))] a229 := A.sub rfl
    let M232 : Nat → Option (Array Value) := λ k => if k = g14 then some #[J 0, J 0, J 0, J 0, J 0, J 0, J 0, J 0, J 0, J 0, .bool false, .bool false, .bool false, J 0, J 0, J 0, .bool false] else none
    have hM232 : M232 = λ k => if k = g14 then some #[J 0, J 0, J 0, J 0, J 0, J 0, J 0, J 0, J 0, J 0, .bool false, .bool false, .bool false, J 0, J 0, J 0, .bool false] else none := rfl
    clear_value M232
    have hM233 : M232 g3 = none := ((congrFun hM232 g3).trans (if_neg n20))
    have hM234 : M232 g14 = some #[J 0, J 0, J 0, J 0, J 0, J 0, J 0, J 0, J 0, J 0, .bool false, .bool false, .bool false, J 0, J 0, J 0, .bool false] := ((congrFun hM232 g14).trans (if_pos rfl))
    have hM235 : M232 gr = none := ((congrFun hM232 gr).trans (if_neg (Ne.symm n52)))
    have hM236 : M232 gc = none := ((congrFun hM232 gc).trans (if_neg (Ne.symm n51)))
    have hM232B : ∀ k, k < w.heap.size → M232 k = none := (λ k hk => (congrFun hM232 k).trans (if_neg (λ h => ni_ _ (Nat.lt_of_lt_of_le (h ▸ hk) ge19))))
    refine drawn (S := SM M232) (tabL [cv (.agg #[J 0, J 0, J 0, J 0, J 0, J 0, J 0, J 0, J 0, J 0, .bool false, .bool false, .bool false, J 0, J 0, J 0, .bool false]), cv (.pointer (some ⟨gr, 0, none⟩)), cv (.pointer (some ⟨gr, 0, none⟩)), cv (.pointer (some ⟨gr, 36, none⟩)), cv (J ((setAt (setE (refP L 25 (instP lg L zPs).1) 34) (whereR L zPs.p)).e)), cv (.pointer (some ⟨gr, 0, none⟩)), cv (.pointer (some ⟨gr, 0, none⟩)), cv (.pointer (some ⟨gr, 37, none⟩)), cv (J ((setAt (setE (refP L 25 (instP lg L zPs).1) 34) (whereR L zPs.p)).a)), cmr M232 g14 30 #[J 0, J 0, J 0, J 0, J 0, J 0, J 0, J 0, J 0, J 0, .bool false, .bool false, .bool false, J 0, J 0, J 0, .bool false] hM234, cv (.string (S [])), cv (J ((setAt (setE (refP L 25 (instP lg L zPs).1) 34) (whereR L zPs.p)).e)), cv (J ((setAt (setE (refP L 25 (instP lg L zPs).1) 34) (whereR L zPs.p)).a))]) mixedY SM.refl SM.trans SM.drew A (by kernel_rfl) ?_ ?_
    ·skip
     have bD237 := blg b214 ((Grow.refl w208).drew) b214.size
     refine ec_ (λ x y hS hT hk => dbd (cs := #[J 0, J 0, J 0, J 0, J 0, J 0, J 0, J 0, J 0, J 0, .bool false, .bool false, .bool false, J 0, J 0, J 0, .bool false]) (wn rfl) (bp_of bq_nil) zero30 places30 (by kernel_rfl) ⟨SM.refl _, rfl⟩)<|ec_ (λ x y hS hT hk => dmv (wn rfl) (hT.ev rfl) ⟨SM.refl _, rfl⟩)<|ec_ (λ x y hS hT hk => dnc (wn rfl) (hk 1 rfl) ⟨SM.refl _, rfl⟩)<|ec_ (λ x y hS hT hk => dfa (wn rfl) (hk 2 rfl) fo86_4 ⟨SM.refl _, rfl⟩)<|ec_ (λ x y hS hT hk => dld (v := (J ((setAt (setE (refP L 25 (instP lg L zPs).1) 34) (whereR L zPs.p)).e))) (wn rfl) (hk 3 rfl) one24 ((Blk.sm (w := w208.drew) m210 hS hM235).cell rfl) ⟨SM.refl _, rfl⟩)<|ec_ (λ x y hS hT hk => dmv (wn rfl) (hT.ev rfl) ⟨SM.refl _, rfl⟩)<|ec_ (λ x y hS hT hk => dnc (wn rfl) (hk 5 rfl) ⟨SM.refl _, rfl⟩)<|ec_ (λ x y hS hT hk => dfa (wn rfl) (hk 6 rfl) fo86_5 ⟨SM.refl _, rfl⟩)<|ec_ (λ x y hS hT hk => dld (v := (J ((setAt (setE (refP L 25 (instP lg L zPs).1) 34) (whereR L zPs.p)).a))) (wn rfl) (hk 7 rfl) one3 ((Blk.sm (w := w208.drew) m210 hS hM235).cell rfl) ⟨SM.refl _, rfl⟩)<|ec_ (λ x y hS hT hk => d_storeRowM (fin := #[J 0, J 0, J 0, J 0, J 0, J 0, J 0, J 0, J 0, J 0, .bool false, .bool false, .bool false, J 0, J 0, J 0, .bool false]) (w0 := w208.drew) (wn rfl) (hT.ev rfl) (hk 0 rfl) row30 hS hM234 m212 rfl rfl (λ _ h => h))<|ec_ (λ x y hS hT hk => das (wn rfl) (hT.ev rfl) ⟨SM.refl _, rfl⟩)<|ec_ (λ x y hS hT hk => das (wn rfl) (hk 4 rfl) ⟨SM.refl _, rfl⟩)<|ec_ (λ x y hS hT hk => das (wn rfl) (hk 8 rfl) ⟨SM.refl _, rfl⟩) ?_
     exact each_nil
    intro f238 a239 w240 hS241 hC242 A
    have A : St 65 [(4, (.pointer (some ⟨g14, 0, none⟩))), (5, (.string (S []))), (6, (J ((setAt (setE (refP L 25 (instP lg L zPs).1) 34) (whereR L zPs.p)).e))), (7, (J ((setAt (setE (refP L 25 (instP lg L zPs).1) 34) (whereR L zPs.p)).a))), (8, (.pointer (some ⟨gr, 0, none⟩)))] a239 := A.cut _ (fc (A.g 4 rfl) (fc ((A.g 5 rfl).trans (hC242 10 (nb_ rfl))) (fc ((A.g 6 rfl).trans (hC242 11 (nb_ rfl))) (fc ((A.g 7 rfl).trans (hC242 12 (nb_ rfl))) (fc (A.g 8 rfl) fn_)))))
    have m245 := m211.sm hS241 hM233
    have m246 : Blk w240 g14 #[J 0, J 0, J 0, J 0, J 0, J 0, J 0, J 0, J 0, J 0, .bool false, .bool false, .bool false, J 0, J 0, J 0, .bool false] 30 := hC242 9 (nb_ rfl)
    have m247 := m210.sm hS241 hM235
    have m248 := m217.sm hS241 hM236
    have b249 := hS241.below b214 b214.size hM232B
    have x250 := x215.sm (M := M232) hS241 (λ k hk hc => by rw [congrFun hM232 k] <;> repeat (rw [if_neg (by first | omega | omega)]))
    refine tn_<|we_<|tr_<|retC3 (g := g14) (cs := #[J 0, J 0, J 0, J 0, J 0, J 0, J 0, J 0, J 0, J 0, .bool false, .bool false, .bool false, J 0, J 0, J 0, .bool false]) (x := (.string (S []))) (y := (J ((setAt (setE (refP L 25 (instP lg L zPs).1) 34) (whereR L zPs.p)).e))) (z := (J ((setAt (setE (refP L 25 (instP lg L zPs).1) 34) (whereR L zPs.p)).a))) rfl A rfl rfl rfl rfl m246 row30 ?_
    have hq251 : parP lg L = ((Ins.mk 0 0 0 0 0 0 0 0 0 0 false false false 0 0 0 false), [], (setAt (setE (refP L 25 (instP lg L zPs).1) 34) (whereR L zPs.p)).e, (setAt (setE (refP L 25 (instP lg L zPs).1) 34) (whereR L zPs.p)).a) := by simp only [parP, moreP, hb127, hb156, hb175, if_true, Bool.false_eq_true, if_false] <;> rfl
    rw [hq251]
    exact ⟨rfl, x250.grown⟩
   refine ⟨.bool false, he166.trans (ret_bool hb175), λ _ A=>Z 1 A rfl λ A=>qt_<|cf_ A rfl<|wk_<|tn_<|ws_<|sw_<|Z 2 A rfl λ A=>F1 A rfl fo86_4 λ A=>qs A rfl (dld (v := (J ((refP L 25 (instP lg L zPs).1).e))) (wn rfl) (A.ev rfl) one24 (m170.cell rfl) λ _ A=>B2 A rfl (b_ne _ _ ((refP L 25 (instP lg L zPs).1).e) 0 false _ (notof hb156)) @λ a265 A=>?_)⟩
   refine qt_<|cf_ A rfl<|wk_<|tn_<|ws_ ?_
   have A : St 65 [(4, (.pointer (some ⟨g14, 0, none⟩))), (8, (.pointer (some ⟨gr, 0, none⟩)))] a265 := A.sub rfl
   let M268 : Nat → Option (Array Value) := λ _ => none
   have hM268 : M268 = λ _ => none := rfl
   clear_value M268
   have hM269 : M268 g3 = none := (congrFun hM268 g3)
   have hM270 : M268 g14 = none := (congrFun hM268 g14)
   have hM271 : M268 gr = none := (congrFun hM268 gr)
   have hM272 : M268 gc = none := (congrFun hM268 gc)
   have hM268B : ∀ k, k < w.heap.size → M268 k = none := (λ k hk => (congrFun hM268 k))
   refine drawn (S := SM M268) (tabL [cv (.agg (insC (withL (instP lg L zPs).2 (instP lg L zPs).1.ins))), cv (.pointer (some ⟨gr, 0, none⟩)), cv (.pointer (some ⟨gr, 0, none⟩)), cv (.pointer (some ⟨gr, 35, none⟩)), cv (.string (S ((refP L 25 (instP lg L zPs).1).lab))), cv undef, cv (.string (S ((refP L 25 (instP lg L zPs).1).lab))), cv (J 0), cv (J 0)]) mixedY SM.refl SM.trans SM.drew A (by kernel_rfl) ?_ ?_
   ·skip
    have bD273 := blg b172 ((Grow.refl w164).drew) b172.size
    refine ec_ (λ x y hS hT hk => dlr (cs := (insC (withL (instP lg L zPs).2 (instP lg L zPs).1.ins))) (wn rfl) (hT.ev rfl) row30 (Blk.sm (w := w164.drew) m169 hS hM270) ⟨SM.refl _, rfl⟩)<|ec_ (λ x y hS hT hk => dmv (wn rfl) (hT.ev rfl) ⟨SM.refl _, rfl⟩)<|ec_ (λ x y hS hT hk => dnc (wn rfl) (hk 1 rfl) ⟨SM.refl _, rfl⟩)<|ec_ (λ x y hS hT hk => dfa (wn rfl) (hk 2 rfl) fo86_3 ⟨SM.refl _, rfl⟩)<|ec_ (λ x y hS hT hk => dld (v := (.string (S ((refP L 25 (instP lg L zPs).1).lab)))) (wn rfl) (hk 3 rfl) one9 ((Blk.sm (w := w164.drew) m170 hS hM271).cell rfl) ⟨SM.refl _, rfl⟩)<|ec_ (λ x y hS hT hk => dsr (wn rfl) (hT.ev rfl) (hk 0 rfl) row30 (Blk.sm (w := w164.drew) m169 hS hM270) rfl rfl (λ w' hu hb => ⟨SM.same hu (Blk.sm (w := w164.drew) m169 hS hM270) hb, rfl⟩))<|ec_ (λ x y hS hT hk => das (wn rfl) (hk 4 rfl) ⟨SM.refl _, rfl⟩)<|ec_ (λ x y hS hT hk => das (wn rfl) (hT.ev rfl) ⟨SM.refl _, rfl⟩)<|ec_ (λ x y hS hT hk => das (wn rfl) (hT.ev rfl) ⟨SM.refl _, rfl⟩) ?_
    exact each_nil
   intro f274 a275 w276 hS277 hC278 A
   have A : St 65 [(4, (.pointer (some ⟨g14, 0, none⟩))), (5, (.string (S ((refP L 25 (instP lg L zPs).1).lab)))), (6, (J 0)), (7, (J 0))] a275 := A.cut _ (fc (A.g 4 rfl) (fc ((A.g 5 rfl).trans (hC278 6 (nb_ rfl))) (fc ((A.g 6 rfl).trans (hC278 7 (nb_ rfl))) (fc ((A.g 7 rfl).trans (hC278 8 (nb_ rfl))) fn_))))
   have m281 := m168.sm hS277 hM269
   have m282 := m169.sm hS277 hM270
   have m283 := m170.sm hS277 hM271
   have m284 := m171.sm hS277 hM272
   have b285 := hS277.below b172 b172.size hM268B
   have x286 := x173.sm (M := M268) hS277 (λ k hk hc => by rw [congrFun hM268 k] <;> repeat (rw [if_neg (by first | omega | omega)]))
   refine tn_<|we_<|retC3 (g := g14) (cs := (insC (withL (instP lg L zPs).2 (instP lg L zPs).1.ins))) (x := (.string (S ((refP L 25 (instP lg L zPs).1).lab)))) (y := (J 0)) (z := (J 0)) rfl A rfl rfl rfl rfl m282 row30 ?_
   have hq287 : parP lg L = ((withL (instP lg L zPs).2 (instP lg L zPs).1.ins), (refP L 25 (instP lg L zPs).1).lab, 0, 0) := by simp only [parP, moreP, hb127, hb156, hb175, if_true, Bool.false_eq_true, if_false] <;> rfl
   rw [hq287]
   exact ⟨rfl, x286.grown⟩
  have hq288 := ne_of_beq hb156
  refine B2 A rfl (bq hb156) λ A=>Z 4 A rfl λ A=>qt_<|cf_ A rfl<|wk_<|tn_<|ws_<|sw_<|Z 2 A rfl λ A=>F1 A rfl fo86_4 λ A=>qs A rfl (dld (v := (J ((refP L 25 (instP lg L zPs).1).e))) (wn rfl) (A.ev rfl) one24 (m139.cell rfl) λ _ A=>B2 A rfl (b_ne _ _ ((refP L 25 (instP lg L zPs).1).e) 0 true _ (notof hb156)) @λ a307 A=>?_)
  refine qt_<|ct_ A rfl<|ws_ ?_
  have A : St 65 [(4, (.pointer (some ⟨g14, 0, none⟩))), (8, (.pointer (some ⟨gr, 0, none⟩)))] a307 := A.sub rfl
  let M310 : Nat → Option (Array Value) := λ k => if k = g14 then some #[J 0, J 0, J 0, J 0, J 0, J 0, J 0, J 0, J 0, J 0, .bool false, .bool false, .bool false, J 0, J 0, J 0, .bool false] else none
  have hM310 : M310 = λ k => if k = g14 then some #[J 0, J 0, J 0, J 0, J 0, J 0, J 0, J 0, J 0, J 0, .bool false, .bool false, .bool false, J 0, J 0, J 0, .bool false] else none := rfl
  clear_value M310
  have hM311 : M310 g3 = none := ((congrFun hM310 g3).trans (if_neg n20))
  have hM312 : M310 g14 = some #[J 0, J 0, J 0, J 0, J 0, J 0, J 0, J 0, J 0, J 0, .bool false, .bool false, .bool false, J 0, J 0, J 0, .bool false] := ((congrFun hM310 g14).trans (if_pos rfl))
  have hM313 : M310 gr = none := ((congrFun hM310 gr).trans (if_neg (Ne.symm n52)))
  have hM314 : M310 gc = none := ((congrFun hM310 gc).trans (if_neg (Ne.symm n51)))
  have hM310B : ∀ k, k < w.heap.size → M310 k = none := (λ k hk => (congrFun hM310 k).trans (if_neg (λ h => ni_ _ (Nat.lt_of_lt_of_le (h ▸ hk) ge19))))
  refine drawn (S := SM M310) (tabL [cv (.agg #[J 0, J 0, J 0, J 0, J 0, J 0, J 0, J 0, J 0, J 0, .bool false, .bool false, .bool false, J 0, J 0, J 0, .bool false]), cv (.pointer (some ⟨gr, 0, none⟩)), cv (.pointer (some ⟨gr, 0, none⟩)), cv (.pointer (some ⟨gr, 36, none⟩)), cv (J ((refP L 25 (instP lg L zPs).1).e)), cv (.pointer (some ⟨gr, 0, none⟩)), cv (.pointer (some ⟨gr, 0, none⟩)), cv (.pointer (some ⟨gr, 37, none⟩)), cv (J ((refP L 25 (instP lg L zPs).1).a)), cmr M310 g14 30 #[J 0, J 0, J 0, J 0, J 0, J 0, J 0, J 0, J 0, J 0, .bool false, .bool false, .bool false, J 0, J 0, J 0, .bool false] hM312, cv (.string (S [])), cv (J ((refP L 25 (instP lg L zPs).1).e)), cv (J ((refP L 25 (instP lg L zPs).1).a))]) mixedY SM.refl SM.trans SM.drew A (by kernel_rfl) ?_ ?_
  ·skip
   have bD315 := blg b144 ((Grow.refl w133).drew) b144.size
   refine ec_ (λ x y hS hT hk => dbd (cs := #[J 0, J 0, J 0, J 0, J 0, J 0, J 0, J 0, J 0, J 0, .bool false, .bool false, .bool false, J 0, J 0, J 0, .bool false]) (wn rfl) (bp_of bq_nil) zero30 places30 (by kernel_rfl) ⟨SM.refl _, rfl⟩)<|ec_ (λ x y hS hT hk => dmv (wn rfl) (hT.ev rfl) ⟨SM.refl _, rfl⟩)<|ec_ (λ x y hS hT hk => dnc (wn rfl) (hk 1 rfl) ⟨SM.refl _, rfl⟩)<|ec_ (λ x y hS hT hk => dfa (wn rfl) (hk 2 rfl) fo86_4 ⟨SM.refl _, rfl⟩)<|ec_ (λ x y hS hT hk => dld (v := (J ((refP L 25 (instP lg L zPs).1).e))) (wn rfl) (hk 3 rfl) one24 ((Blk.sm (w := w133.drew) m139 hS hM313).cell rfl) ⟨SM.refl _, rfl⟩)<|ec_ (λ x y hS hT hk => dmv (wn rfl) (hT.ev rfl) ⟨SM.refl _, rfl⟩)<|ec_ (λ x y hS hT hk => dnc (wn rfl) (hk 5 rfl) ⟨SM.refl _, rfl⟩)<|ec_ (λ x y hS hT hk => dfa (wn rfl) (hk 6 rfl) fo86_5 ⟨SM.refl _, rfl⟩)<|ec_ (λ x y hS hT hk => dld (v := (J ((refP L 25 (instP lg L zPs).1).a))) (wn rfl) (hk 7 rfl) one3 ((Blk.sm (w := w133.drew) m139 hS hM313).cell rfl) ⟨SM.refl _, rfl⟩)<|ec_ (λ x y hS hT hk => d_storeRowM (fin := #[J 0, J 0, J 0, J 0, J 0, J 0, J 0, J 0, J 0, J 0, .bool false, .bool false, .bool false, J 0, J 0, J 0, .bool false]) (w0 := w133.drew) (wn rfl) (hT.ev rfl) (hk 0 rfl) row30 hS hM312 m142 rfl rfl (λ _ h => h))<|ec_ (λ x y hS hT hk => das (wn rfl) (hT.ev rfl) ⟨SM.refl _, rfl⟩)<|ec_ (λ x y hS hT hk => das (wn rfl) (hk 4 rfl) ⟨SM.refl _, rfl⟩)<|ec_ (λ x y hS hT hk => das (wn rfl) (hk 8 rfl) ⟨SM.refl _, rfl⟩) ?_
   exact each_nil
  intro f316 a317 w318 hS319 hC320 A
  have A : St 65 [(4, (.pointer (some ⟨g14, 0, none⟩))), (5, (.string (S []))), (6, (J ((refP L 25 (instP lg L zPs).1).e))), (7, (J ((refP L 25 (instP lg L zPs).1).a))), (8, (.pointer (some ⟨gr, 0, none⟩)))] a317 := A.cut _ (fc (A.g 4 rfl) (fc ((A.g 5 rfl).trans (hC320 10 (nb_ rfl))) (fc ((A.g 6 rfl).trans (hC320 11 (nb_ rfl))) (fc ((A.g 7 rfl).trans (hC320 12 (nb_ rfl))) (fc (A.g 8 rfl) fn_)))))
  have m323 := m141.sm hS319 hM311
  have m324 : Blk w318 g14 #[J 0, J 0, J 0, J 0, J 0, J 0, J 0, J 0, J 0, J 0, .bool false, .bool false, .bool false, J 0, J 0, J 0, .bool false] 30 := hC320 9 (nb_ rfl)
  have m325 := m139.sm hS319 hM313
  have m326 := m140.sm hS319 hM314
  have b327 := hS319.below b144 b144.size hM310B
  have x328 := x143.sm (M := M310) hS319 (λ k hk hc => by rw [congrFun hM310 k] <;> repeat (rw [if_neg (by first | omega | omega)]))
  refine tn_<|we_<|tr_<|retC3 (g := g14) (cs := #[J 0, J 0, J 0, J 0, J 0, J 0, J 0, J 0, J 0, J 0, .bool false, .bool false, .bool false, J 0, J 0, J 0, .bool false]) (x := (.string (S []))) (y := (J ((refP L 25 (instP lg L zPs).1).e))) (z := (J ((refP L 25 (instP lg L zPs).1).a))) rfl A rfl rfl rfl rfl m324 row30 ?_
  have hq329 : parP lg L = ((Ins.mk 0 0 0 0 0 0 0 0 0 0 false false false 0 0 0 false), [], (refP L 25 (instP lg L zPs).1).e, (refP L 25 (instP lg L zPs).1).a) := by simp only [parP, moreP, hb127, hb156, if_true, Bool.false_eq_true, if_false] <;> rfl
  rw [hq329]
  exact ⟨rfl, x328.grown⟩
 have hq330 := df_ hb127
 refine B2 A rfl (bg hb127) λ A=>qt_<|cf_ A rfl<|wk_<|tn_<|ws_<|sw_<|Z 2 A rfl λ A=>F1 A rfl fo86_4 λ A=>qs A rfl (dld (v := (J ((instP lg L zPs).1.e))) (wn rfl) (A.ev rfl) one24 (m120.cell rfl) λ _ A=>?_)
 rcases eb_ ((instP lg L zPs).1.e == 0) with hb341 | hb341
 ·skip
  have hq342 := eq_of_beq hb341
  refine B2 A rfl (bq hb341) λ A=>Z 1 A rfl λ A=>qs A rfl (dlr (cs := (insC (withL (instP lg L zPs).2 (instP lg L zPs).1.ins))) (wy rfl rfl (A.g 35 rfl)) (A.ev rfl) row30 m119 λ _ A=>C A rfl ent63 (iswrong_any (withL (instP lg L zPs).2 (instP lg L zPs).1.ins) w114) ?_)
  rintro e352 w349 ⟨he351, hG350⟩
  have m353 := m118.grow hG350
  have m354 := m119.grow hG350
  have m355 := m120.grow hG350
  have m356 := m121.grow hG350
  have b357 := bls b122 hG350
  have x358 := x123.grow hG350
  have hsl359 := hsl124.below (hG350.mono (Nat.le_of_lt m121.lt))
  rcases eb_ (wrongB (withL (instP lg L zPs).2 (instP lg L zPs).1.ins)) with hb360 | hb360
  ·skip
   refine ⟨.bool true, he351.trans (ret_bool hb360), λ _ A=>Z 1 A rfl λ A=>qt_<|ct_ A rfl<|wr_<|Z 4 A rfl λ A=>F1 A rfl fo86_4 λ A=>qs A rfl (dst_ (wn rfl) (A.ev rfl) (A.ev rfl) one24 rfl m355 (nb_ rfl) λ w376 hU377 (m378 : Blk w376 gr (rdP lg gc (setE (instP lg L zPs).1 34)) 86)=>?_)⟩
   have m379 := m353.upd hU377 n50
   have m380 := m354.upd hU377 n52
   have m381 := m356.upd hU377 (Ne.symm hrc)
   have b382 := hU377.below b357 hger
   have x383 := x358.updOut hU377 hger
   have hsl384 := hsl359.below (hU377.below (Below.refl _ _) (Nat.le_of_lt hcr))
   have m385 : Blk w376 gc #[sv, J (((setE (instP lg L zPs).1 34).p : Nat) : Int)] 132 := m381
   have hp386 : (setE (instP lg L zPs).1 34).p ≤ L.length := hp84
   intro _ A
   refine Z 1 A rfl λ A=>F1 A rfl fo86_5 λ A=>qs A rfl (dst_ (wn rfl) (A.ev rfl) (A.ev rfl) one3 rfl m378 (nb_ rfl) λ w393 hU394 (m395 : Blk w393 gr (rdP lg gc (setAt (setE (instP lg L zPs).1 34) (whereR L zPs.p))) 86)=>?_)
   have m396 := m379.upd hU394 n50
   have m397 := m380.upd hU394 n52
   have m398 := m385.upd hU394 (Ne.symm hrc)
   have b399 := hU394.below b382 hger
   have x400 := x383.updOut hU394 hger
   have hsl401 := hsl384.below (hU394.below (Below.refl _ _) (Nat.le_of_lt hcr))
   have m402 : Blk w393 gc #[sv, J (((setAt (setE (instP lg L zPs).1 34) (whereR L zPs.p)).p : Nat) : Int)] 132 := m398
   have hp403 : (setAt (setE (instP lg L zPs).1 34) (whereR L zPs.p)).p ≤ L.length := hp386
   intro _ A
   refine qt_<|ws_<|sw_<|Z 2 A rfl λ A=>F1 A rfl fo86_4 λ A=>qs A rfl (dld (v := (J ((setAt (setE (instP lg L zPs).1 34) (whereR L zPs.p)).e))) (wn rfl) (A.ev rfl) one24 (m395.cell rfl) λ _ A=>B2 A rfl (b_ne _ _ ((setAt (setE (instP lg L zPs).1 34) (whereR L zPs.p)).e) 0 true _ (notof rfl)) @λ a414 A=>qt_<|ct_ A rfl<|ws_ ?_)
   have A : St 65 [(4, (.pointer (some ⟨g14, 0, none⟩))), (8, (.pointer (some ⟨gr, 0, none⟩)))] a414 := A.sub rfl
   let M417 : Nat → Option (Array Value) := λ k => if k = g14 then some #[J 0, J 0, J 0, J 0, J 0, J 0, J 0, J 0, J 0, J 0, .bool false, .bool false, .bool false, J 0, J 0, J 0, .bool false] else none
   have hM417 : M417 = λ k => if k = g14 then some #[J 0, J 0, J 0, J 0, J 0, J 0, J 0, J 0, J 0, J 0, .bool false, .bool false, .bool false, J 0, J 0, J 0, .bool false] else none := rfl
   clear_value M417
   have hM418 : M417 g3 = none := ((congrFun hM417 g3).trans (if_neg n20))
   have hM419 : M417 g14 = some #[J 0, J 0, J 0, J 0, J 0, J 0, J 0, J 0, J 0, J 0, .bool false, .bool false, .bool false, J 0, J 0, J 0, .bool false] := ((congrFun hM417 g14).trans (if_pos rfl))
   have hM420 : M417 gr = none := ((congrFun hM417 gr).trans (if_neg (Ne.symm n52)))
   have hM421 : M417 gc = none := ((congrFun hM417 gc).trans (if_neg (Ne.symm n51)))
   have hM417B : ∀ k, k < w.heap.size → M417 k = none := (λ k hk => (congrFun hM417 k).trans (if_neg (λ h => ni_ _ (Nat.lt_of_lt_of_le (h ▸ hk) ge19))))
   refine drawn (S := SM M417) (tabL [cv (.agg #[J 0, J 0, J 0, J 0, J 0, J 0, J 0, J 0, J 0, J 0, .bool false, .bool false, .bool false, J 0, J 0, J 0, .bool false]), cv (.pointer (some ⟨gr, 0, none⟩)), cv (.pointer (some ⟨gr, 0, none⟩)), cv (.pointer (some ⟨gr, 36, none⟩)), cv (J ((setAt (setE (instP lg L zPs).1 34) (whereR L zPs.p)).e)), cv (.pointer (some ⟨gr, 0, none⟩)), cv (.pointer (some ⟨gr, 0, none⟩)), cv (.pointer (some ⟨gr, 37, none⟩)), cv (J ((setAt (setE (instP lg L zPs).1 34) (whereR L zPs.p)).a)), cmr M417 g14 30 #[J 0, J 0, J 0, J 0, J 0, J 0, J 0, J 0, J 0, J 0, .bool false, .bool false, .bool false, J 0, J 0, J 0, .bool false] hM419, cv (.string (S [])), cv (J ((setAt (setE (instP lg L zPs).1 34) (whereR L zPs.p)).e)), cv (J ((setAt (setE (instP lg L zPs).1 34) (whereR L zPs.p)).a))]) mixedY SM.refl SM.trans SM.drew A (by kernel_rfl) ?_ ?_
   ·skip
    have bD422 := blg b399 ((Grow.refl w393).drew) b399.size
    refine ec_ (λ x y hS hT hk => dbd (cs := #[J 0, J 0, J 0, J 0, J 0, J 0, J 0, J 0, J 0, J 0, .bool false, .bool false, .bool false, J 0, J 0, J 0, .bool false]) (wn rfl) (bp_of bq_nil) zero30 places30 (by kernel_rfl) ⟨SM.refl _, rfl⟩)<|ec_ (λ x y hS hT hk => dmv (wn rfl) (hT.ev rfl) ⟨SM.refl _, rfl⟩)<|ec_ (λ x y hS hT hk => dnc (wn rfl) (hk 1 rfl) ⟨SM.refl _, rfl⟩)<|ec_ (λ x y hS hT hk => dfa (wn rfl) (hk 2 rfl) fo86_4 ⟨SM.refl _, rfl⟩)<|ec_ (λ x y hS hT hk => dld (v := (J ((setAt (setE (instP lg L zPs).1 34) (whereR L zPs.p)).e))) (wn rfl) (hk 3 rfl) one24 ((Blk.sm (w := w393.drew) m395 hS hM420).cell rfl) ⟨SM.refl _, rfl⟩)<|ec_ (λ x y hS hT hk => dmv (wn rfl) (hT.ev rfl) ⟨SM.refl _, rfl⟩)<|ec_ (λ x y hS hT hk => dnc (wn rfl) (hk 5 rfl) ⟨SM.refl _, rfl⟩)<|ec_ (λ x y hS hT hk => dfa (wn rfl) (hk 6 rfl) fo86_5 ⟨SM.refl _, rfl⟩)<|ec_ (λ x y hS hT hk => dld (v := (J ((setAt (setE (instP lg L zPs).1 34) (whereR L zPs.p)).a))) (wn rfl) (hk 7 rfl) one3 ((Blk.sm (w := w393.drew) m395 hS hM420).cell rfl) ⟨SM.refl _, rfl⟩)<|ec_ (λ x y hS hT hk => d_storeRowM (fin := #[J 0, J 0, J 0, J 0, J 0, J 0, J 0, J 0, J 0, J 0, .bool false, .bool false, .bool false, J 0, J 0, J 0, .bool false]) (w0 := w393.drew) (wn rfl) (hT.ev rfl) (hk 0 rfl) row30 hS hM419 m397 rfl rfl (λ _ h => h))<|ec_ (λ x y hS hT hk => das (wn rfl) (hT.ev rfl) ⟨SM.refl _, rfl⟩)<|ec_ (λ x y hS hT hk => das (wn rfl) (hk 4 rfl) ⟨SM.refl _, rfl⟩)<|ec_ (λ x y hS hT hk => das (wn rfl) (hk 8 rfl) ⟨SM.refl _, rfl⟩) ?_
    exact each_nil
   intro f423 a424 w425 hS426 hC427 A
   have A : St 65 [(4, (.pointer (some ⟨g14, 0, none⟩))), (5, (.string (S []))), (6, (J ((setAt (setE (instP lg L zPs).1 34) (whereR L zPs.p)).e))), (7, (J ((setAt (setE (instP lg L zPs).1 34) (whereR L zPs.p)).a))), (8, (.pointer (some ⟨gr, 0, none⟩)))] a424 := A.cut _ (fc (A.g 4 rfl) (fc ((A.g 5 rfl).trans (hC427 10 (nb_ rfl))) (fc ((A.g 6 rfl).trans (hC427 11 (nb_ rfl))) (fc ((A.g 7 rfl).trans (hC427 12 (nb_ rfl))) (fc (A.g 8 rfl) fn_)))))
   have m430 := m396.sm hS426 hM418
   have m431 : Blk w425 g14 #[J 0, J 0, J 0, J 0, J 0, J 0, J 0, J 0, J 0, J 0, .bool false, .bool false, .bool false, J 0, J 0, J 0, .bool false] 30 := hC427 9 (nb_ rfl)
   have m432 := m395.sm hS426 hM420
   have m433 := m402.sm hS426 hM421
   have b434 := hS426.below b399 b399.size hM417B
   have x435 := x400.sm (M := M417) hS426 (λ k hk hc => by rw [congrFun hM417 k] <;> repeat (rw [if_neg (by first | omega | omega)]))
   refine tn_<|we_<|tr_<|retC3 (g := g14) (cs := #[J 0, J 0, J 0, J 0, J 0, J 0, J 0, J 0, J 0, J 0, .bool false, .bool false, .bool false, J 0, J 0, J 0, .bool false]) (x := (.string (S []))) (y := (J ((setAt (setE (instP lg L zPs).1 34) (whereR L zPs.p)).e))) (z := (J ((setAt (setE (instP lg L zPs).1 34) (whereR L zPs.p)).a))) rfl A rfl rfl rfl rfl m431 row30 ?_
   have hq436 : parP lg L = ((Ins.mk 0 0 0 0 0 0 0 0 0 0 false false false 0 0 0 false), [], (setAt (setE (instP lg L zPs).1 34) (whereR L zPs.p)).e, (setAt (setE (instP lg L zPs).1 34) (whereR L zPs.p)).a) := by simp only [parP, moreP, hb127, hb341, hb360, if_true, Bool.false_eq_true, if_false] <;> rfl
   rw [hq436]
   exact ⟨rfl, x435.grown⟩
  refine ⟨.bool false, he351.trans (ret_bool hb360), λ _ A=>Z 1 A rfl λ A=>qt_<|cf_ A rfl<|wk_<|tn_<|ws_<|sw_<|Z 2 A rfl λ A=>F1 A rfl fo86_4 λ A=>qs A rfl (dld (v := (J ((instP lg L zPs).1.e))) (wn rfl) (A.ev rfl) one24 (m355.cell rfl) λ _ A=>B2 A rfl (b_ne _ _ ((instP lg L zPs).1.e) 0 false _ (notof hb341)) @λ a450 A=>?_)⟩
  refine qt_<|cf_ A rfl<|wk_<|tn_<|ws_ ?_
  have A : St 65 [(4, (.pointer (some ⟨g14, 0, none⟩))), (8, (.pointer (some ⟨gr, 0, none⟩)))] a450 := A.sub rfl
  let M453 : Nat → Option (Array Value) := λ _ => none
  have hM453 : M453 = λ _ => none := rfl
  clear_value M453
  have hM454 : M453 g3 = none := (congrFun hM453 g3)
  have hM455 : M453 g14 = none := (congrFun hM453 g14)
  have hM456 : M453 gr = none := (congrFun hM453 gr)
  have hM457 : M453 gc = none := (congrFun hM453 gc)
  have hM453B : ∀ k, k < w.heap.size → M453 k = none := (λ k hk => (congrFun hM453 k))
  refine drawn (S := SM M453) (tabL [cv (.agg (insC (withL (instP lg L zPs).2 (instP lg L zPs).1.ins))), cv (.pointer (some ⟨gr, 0, none⟩)), cv (.pointer (some ⟨gr, 0, none⟩)), cv (.pointer (some ⟨gr, 35, none⟩)), cv (.string (S ((instP lg L zPs).1.lab))), cv undef, cv (.string (S ((instP lg L zPs).1.lab))), cv (J 0), cv (J 0)]) mixedY SM.refl SM.trans SM.drew A (by kernel_rfl) ?_ ?_
  ·skip
   have bD458 := blg b357 ((Grow.refl w349).drew) b357.size
   refine ec_ (λ x y hS hT hk => dlr (cs := (insC (withL (instP lg L zPs).2 (instP lg L zPs).1.ins))) (wn rfl) (hT.ev rfl) row30 (Blk.sm (w := w349.drew) m354 hS hM455) ⟨SM.refl _, rfl⟩)<|ec_ (λ x y hS hT hk => dmv (wn rfl) (hT.ev rfl) ⟨SM.refl _, rfl⟩)<|ec_ (λ x y hS hT hk => dnc (wn rfl) (hk 1 rfl) ⟨SM.refl _, rfl⟩)<|ec_ (λ x y hS hT hk => dfa (wn rfl) (hk 2 rfl) fo86_3 ⟨SM.refl _, rfl⟩)<|ec_ (λ x y hS hT hk => dld (v := (.string (S ((instP lg L zPs).1.lab)))) (wn rfl) (hk 3 rfl) one9 ((Blk.sm (w := w349.drew) m355 hS hM456).cell rfl) ⟨SM.refl _, rfl⟩)<|ec_ (λ x y hS hT hk => dsr (wn rfl) (hT.ev rfl) (hk 0 rfl) row30 (Blk.sm (w := w349.drew) m354 hS hM455) rfl rfl (λ w' hu hb => ⟨SM.same hu (Blk.sm (w := w349.drew) m354 hS hM455) hb, rfl⟩))<|ec_ (λ x y hS hT hk => das (wn rfl) (hk 4 rfl) ⟨SM.refl _, rfl⟩)<|ec_ (λ x y hS hT hk => das (wn rfl) (hT.ev rfl) ⟨SM.refl _, rfl⟩)<|ec_ (λ x y hS hT hk => das (wn rfl) (hT.ev rfl) ⟨SM.refl _, rfl⟩) ?_
   exact each_nil
  intro f459 a460 w461 hS462 hC463 A
  have A : St 65 [(4, (.pointer (some ⟨g14, 0, none⟩))), (5, (.string (S ((instP lg L zPs).1.lab)))), (6, (J 0)), (7, (J 0))] a460 := A.cut _ (fc (A.g 4 rfl) (fc ((A.g 5 rfl).trans (hC463 6 (nb_ rfl))) (fc ((A.g 6 rfl).trans (hC463 7 (nb_ rfl))) (fc ((A.g 7 rfl).trans (hC463 8 (nb_ rfl))) fn_))))
  have m466 := m353.sm hS462 hM454
  have m467 := m354.sm hS462 hM455
  have m468 := m355.sm hS462 hM456
  have m469 := m356.sm hS462 hM457
  have b470 := hS462.below b357 b357.size hM453B
  have x471 := x358.sm (M := M453) hS462 (λ k hk hc => by rw [congrFun hM453 k] <;> repeat (rw [if_neg (by first | omega | omega)]))
  refine tn_<|we_<|retC3 (g := g14) (cs := (insC (withL (instP lg L zPs).2 (instP lg L zPs).1.ins))) (x := (.string (S ((instP lg L zPs).1.lab)))) (y := (J 0)) (z := (J 0)) rfl A rfl rfl rfl rfl m467 row30 ?_
  have hq472 : parP lg L = ((withL (instP lg L zPs).2 (instP lg L zPs).1.ins), (instP lg L zPs).1.lab, 0, 0) := by simp only [parP, moreP, hb127, hb341, hb360, if_true, Bool.false_eq_true, if_false] <;> rfl
  rw [hq472]
  exact ⟨rfl, x471.grown⟩
 have hq473 := ne_of_beq hb341
 refine B2 A rfl (bq hb341) λ A=>Z 4 A rfl λ A=>qt_<|cf_ A rfl<|wk_<|tn_<|ws_<|sw_<|Z 2 A rfl λ A=>F1 A rfl fo86_4 λ A=>qs A rfl (dld (v := (J ((instP lg L zPs).1.e))) (wn rfl) (A.ev rfl) one24 (m120.cell rfl) λ _ A=>B2 A rfl (b_ne _ _ ((instP lg L zPs).1.e) 0 true _ (notof hb341)) @λ a492 A=>?_)
 refine qt_<|ct_ A rfl<|ws_ ?_
 have A : St 65 [(4, (.pointer (some ⟨g14, 0, none⟩))), (8, (.pointer (some ⟨gr, 0, none⟩)))] a492 := A.sub rfl
 let M495 : Nat → Option (Array Value) := λ k => if k = g14 then some #[J 0, J 0, J 0, J 0, J 0, J 0, J 0, J 0, J 0, J 0, .bool false, .bool false, .bool false, J 0, J 0, J 0, .bool false] else none
 have hM495 : M495 = λ k => if k = g14 then some #[J 0, J 0, J 0, J 0, J 0, J 0, J 0, J 0, J 0, J 0, .bool false, .bool false, .bool false, J 0, J 0, J 0, .bool false] else none := rfl
 clear_value M495
 have hM496 : M495 g3 = none := ((congrFun hM495 g3).trans (if_neg n20))
 have hM497 : M495 g14 = some #[J 0, J 0, J 0, J 0, J 0, J 0, J 0, J 0, J 0, J 0, .bool false, .bool false, .bool false, J 0, J 0, J 0, .bool false] := ((congrFun hM495 g14).trans (if_pos rfl))
 have hM498 : M495 gr = none := ((congrFun hM495 gr).trans (if_neg (Ne.symm n52)))
 have hM499 : M495 gc = none := ((congrFun hM495 gc).trans (if_neg (Ne.symm n51)))
 have hM495B : ∀ k, k < w.heap.size → M495 k = none := (λ k hk => (congrFun hM495 k).trans (if_neg (λ h => ni_ _ (Nat.lt_of_lt_of_le (h ▸ hk) ge19))))
 refine drawn (S := SM M495) (tabL [cv (.agg #[J 0, J 0, J 0, J 0, J 0, J 0, J 0, J 0, J 0, J 0, .bool false, .bool false, .bool false, J 0, J 0, J 0, .bool false]), cv (.pointer (some ⟨gr, 0, none⟩)), cv (.pointer (some ⟨gr, 0, none⟩)), cv (.pointer (some ⟨gr, 36, none⟩)), cv (J ((instP lg L zPs).1.e)), cv (.pointer (some ⟨gr, 0, none⟩)), cv (.pointer (some ⟨gr, 0, none⟩)), cv (.pointer (some ⟨gr, 37, none⟩)), cv (J ((instP lg L zPs).1.a)), cmr M495 g14 30 #[J 0, J 0, J 0, J 0, J 0, J 0, J 0, J 0, J 0, J 0, .bool false, .bool false, .bool false, J 0, J 0, J 0, .bool false] hM497, cv (.string (S [])), cv (J ((instP lg L zPs).1.e)), cv (J ((instP lg L zPs).1.a))]) mixedY SM.refl SM.trans SM.drew A (by kernel_rfl) ?_ ?_
 ·skip
  have bD500 := blg b122 ((Grow.refl w114).drew) b122.size
  refine ec_ (λ x y hS hT hk => dbd (cs := #[J 0, J 0, J 0, J 0, J 0, J 0, J 0, J 0, J 0, J 0, .bool false, .bool false, .bool false, J 0, J 0, J 0, .bool false]) (wn rfl) (bp_of bq_nil) zero30 places30 (by kernel_rfl) ⟨SM.refl _, rfl⟩)<|ec_ (λ x y hS hT hk => dmv (wn rfl) (hT.ev rfl) ⟨SM.refl _, rfl⟩)<|ec_ (λ x y hS hT hk => dnc (wn rfl) (hk 1 rfl) ⟨SM.refl _, rfl⟩)<|ec_ (λ x y hS hT hk => dfa (wn rfl) (hk 2 rfl) fo86_4 ⟨SM.refl _, rfl⟩)<|ec_ (λ x y hS hT hk => dld (v := (J ((instP lg L zPs).1.e))) (wn rfl) (hk 3 rfl) one24 ((Blk.sm (w := w114.drew) m120 hS hM498).cell rfl) ⟨SM.refl _, rfl⟩)<|ec_ (λ x y hS hT hk => dmv (wn rfl) (hT.ev rfl) ⟨SM.refl _, rfl⟩)<|ec_ (λ x y hS hT hk => dnc (wn rfl) (hk 5 rfl) ⟨SM.refl _, rfl⟩)<|ec_ (λ x y hS hT hk => dfa (wn rfl) (hk 6 rfl) fo86_5 ⟨SM.refl _, rfl⟩)<|ec_ (λ x y hS hT hk => dld (v := (J ((instP lg L zPs).1.a))) (wn rfl) (hk 7 rfl) one3 ((Blk.sm (w := w114.drew) m120 hS hM498).cell rfl) ⟨SM.refl _, rfl⟩)<|ec_ (λ x y hS hT hk => d_storeRowM (fin := #[J 0, J 0, J 0, J 0, J 0, J 0, J 0, J 0, J 0, J 0, .bool false, .bool false, .bool false, J 0, J 0, J 0, .bool false]) (w0 := w114.drew) (wn rfl) (hT.ev rfl) (hk 0 rfl) row30 hS hM497 m119 rfl rfl (λ _ h => h))<|ec_ (λ x y hS hT hk => das (wn rfl) (hT.ev rfl) ⟨SM.refl _, rfl⟩)<|ec_ (λ x y hS hT hk => das (wn rfl) (hk 4 rfl) ⟨SM.refl _, rfl⟩)<|ec_ (λ x y hS hT hk => das (wn rfl) (hk 8 rfl) ⟨SM.refl _, rfl⟩) ?_
  exact each_nil
 intro f501 a502 w503 hS504 hC505 A
 have A : St 65 [(4, (.pointer (some ⟨g14, 0, none⟩))), (5, (.string (S []))), (6, (J ((instP lg L zPs).1.e))), (7, (J ((instP lg L zPs).1.a))), (8, (.pointer (some ⟨gr, 0, none⟩)))] a502 := A.cut _ (fc (A.g 4 rfl) (fc ((A.g 5 rfl).trans (hC505 10 (nb_ rfl))) (fc ((A.g 6 rfl).trans (hC505 11 (nb_ rfl))) (fc ((A.g 7 rfl).trans (hC505 12 (nb_ rfl))) (fc (A.g 8 rfl) fn_)))))
 have m508 := m118.sm hS504 hM496
 have m509 : Blk w503 g14 #[J 0, J 0, J 0, J 0, J 0, J 0, J 0, J 0, J 0, J 0, .bool false, .bool false, .bool false, J 0, J 0, J 0, .bool false] 30 := hC505 9 (nb_ rfl)
 have m510 := m120.sm hS504 hM498
 have m511 := m121.sm hS504 hM499
 have b512 := hS504.below b122 b122.size hM495B
 have x513 := x123.sm (M := M495) hS504 (λ k hk hc => by rw [congrFun hM495 k] <;> repeat (rw [if_neg (by first | omega | omega)]))
 refine tn_<|we_<|tr_<|retC3 (g := g14) (cs := #[J 0, J 0, J 0, J 0, J 0, J 0, J 0, J 0, J 0, J 0, .bool false, .bool false, .bool false, J 0, J 0, J 0, .bool false]) (x := (.string (S []))) (y := (J ((instP lg L zPs).1.e))) (z := (J ((instP lg L zPs).1.a))) rfl A rfl rfl rfl rfl m509 row30 ?_
 have hq514 : parP lg L = ((Ins.mk 0 0 0 0 0 0 0 0 0 0 false false false 0 0 0 false), [], (instP lg L zPs).1.e, (instP lg L zPs).1.a) := by simp only [parP, moreP, hb127, hb341, if_true, Bool.false_eq_true, if_false] <;> rfl
 rw [hq514]
 exact ⟨rfl, x513.grown⟩
abbrev Tm := List UInt8 × Ins × List Int
def tmpl (r : Rw) : Tm := (r.name, r.ins, r.parts)
def ptA (l : List Int) : Array Value := (l.map (Value.int .i64)).toArray
def PtOK (w : World) (v : Value) (r : Rw) (t : TypeId) : Prop := (r.pv = .slice none 0 0 ∧ r.parts = []) ∨ ∃ b, r.pv = .slice (some ⟨b, 0, none⟩) r.parts.length r.parts.length ∧ Blk w b (ptA r.parts) t ∧ v.ownBlock ≠ some b
section
variable {w w' : World} {v v' : Value} {r : Rw} {t : TypeId}
theorem PtOK.grow (h : PtOK w v r t) (hg : Grow w w') : PtOK w' v r t := by
 rcases h with h | ⟨b, h1, h2, h3⟩
 ·exact .inl h
 ·exact .inr ⟨b, h1, h2.grow hg, h3⟩
theorem PtOK.upd {g : Nat} (h : PtOK w v r t) (hu : Upd g w w') (hg : ∀ b, r.pv.ownBlock = some b → b ≠ g) : PtOK w' v r t := by
 rcases h with h | ⟨b, h1, h2, h3⟩
 ·exact .inl h
 ·exact .inr ⟨b, h1, h2.upd hu (hg b (by rw [h1]; rfl)), h3⟩
theorem PtOK.by (h : PtOK w v r t) (hg : w.grownBy w' v.ownBlock) (hl : v'.ownBlock = v.ownBlock ∨ v'.ownBlock = some w.heap.size) : PtOK w' v' r t := by
 rcases h with h | ⟨b, h1, h2, h3⟩
 ·exact .inl h
 ·exact .inr ⟨b, h1, h2.by hg h3, lies_ne hl h3 h2.lt⟩
theorem PtOK.sl (h : PtOK w v r t) : Sl ptE 1 w.heap.size w r.pv r.parts := by
 rcases h with ⟨h1, h2⟩ | ⟨b, h1, h2, _⟩
 ·rw [h1, h2]; exact Sl.nil
 ·rw [h1]
  refine ⟨some ⟨b, 0, none⟩, _, rfl, Nat.le_refl _, fun j x hx => ⟨b, 0, rfl, h2.lt, fun k u hu => ?_⟩⟩
  have hk : k = 0 := by have := get_lt hu; simp [ptE] at this; exact this
  subst hk
  simp [ptE] at hu
  subst hu
  refine h2.cell ?_
  unfold ptA
  simp [hx]
end
theorem own_lit {w : World} {g n : Nat} {cells : Array Value} {t : TypeId} {l : List Rw} (h : Blk w g cells t) (hc : cells.toList = l.flatMap rwE) (hn : l.length = n) (hm : n ≤ maxLen) : w.ownsRow g t 19 (.slice (some ⟨g, 0, none⟩) n n) l.length (l.flatMap rwE) := by
 subst hn
 have hl : (l.flatMap rwE).length = l.length * 19 := by
  clear hm h hc
  induction l with
  | nil => rfl
  | cons r l ih => rw [List.flatMap_cons, List.length_append, ih, rw_len, List.length_cons]; omega
 refine ⟨hl, .inr ⟨g, _, cells, rfl, Nat.le_refl _, h, Nat.le_refl _, hm, ?_, ?_⟩⟩
 ·rw [← Array.length_toList, hc, hl]
 ·rw [hc, List.take_of_length_le (by rw [hl]; omega)]
theorem own_base {w : World} {b b' e s n : Nat} {v : Value} {xs : List Value} (h : w.ownsRow b e s v n xs) (hb : b' ≤ b) : w.ownsRow b' e s v n xs := by
 refine ⟨h.1, ?_⟩
 rcases h.2 with h2 | ⟨g, cap, cur, h1, h2, h3⟩
 ·exact .inl h2
 ·exact .inr ⟨g, cap, cur, h1, Nat.le_trans hb h2, h3⟩
theorem sl_flat {α : Type} {enc : α → List Value} {s : Nat} {w : World} {g n : Nat} {cells : Array Value} {t : TypeId} {l : List α} (h : Blk w g cells t) (hel : ∀ x, (enc x).length = s) (hc : cells.toList = l.flatMap enc) (hn : l.length = n) (hm : n ≤ maxLen) : Sl enc s w.heap.size w (.slice (some ⟨g, 0, none⟩) n n) l := by
 subst hn
 have hl : (l.flatMap enc).length = l.length * s := by
  clear hm h hc
  induction l with
  | nil => simp
  | cons r l ih => rw [List.flatMap_cons, List.length_append, ih, hel, List.length_cons, Nat.add_mul, Nat.one_mul, Nat.add_comm]
 refine own_gen (b := g) (e := t) hel ⟨hl, .inr ⟨g, _, cells, rfl, Nat.le_refl _, h, Nat.le_refl _, hm, ?_, ?_⟩⟩
 ·rw [← Array.length_toList, hc, hl]
 ·rw [hc, List.take_of_length_le (by rw [hl]; exact Nat.le_refl _)]
theorem all_one {α : Type} {P : α → Prop} {a : α} {l : List α} (h : P a) (hl : ∀ r ∈ l, P r) : ∀ r ∈ a :: l, P r := fun r hr => by
 rcases List.mem_cons.1 hr with rfl | hr
 ·exact h
 ·exact hl r hr
theorem all_no {α : Type} {P : α → Prop} : ∀ r ∈ ([] : List α), P r := fun r hr => by cases hr
theorem PtOK.re {w : World} {v v' : Value} {r : Rw} {t : TypeId} (h : PtOK w v r t) (hn : ∀ b, r.pv.ownBlock = some b → v'.ownBlock ≠ some b) : PtOK w v' r t := by
 rcases h with h | ⟨b, h1, h2, h3⟩
 ·exact .inl h
 ·exact .inr ⟨b, h1, h2, hn b (by rw [h1]; rfl)⟩
def nfE (x : List UInt8 × Int) : List Value := [.string (S x.1), .int .i64 x.2]
def insF (op fn : Int) : Ins := ⟨op, 0, 0, 0, 0, 0, 0, 0, 0, fn, false, false, false, 0, 0, 0, false⟩
section
variable {P : Program} {ops : Array Oper} {a : Act} {w : World} {K : Value → World → Prop} {d : Option Tmp} {ty : TypeId} {pos : String} {af : Array Edge} {gd : Option (Nat × Bool)} {v : Value}
theorem d_appendR {t e by_ B n : Nat} {x y : Operand} {xs : List Value} {u : Value} {l : List Rw} {B' : Nat} (hw : Region.wanted { dst := d, op := .call { callee := .builtin .append, args := #[x, y], argTypes := #[t, t] }, type := ty, pos := pos, after := af, guard := gd } (yielded ops a.tmps) = true) (hx : a.eval x = v) (hy : a.eval y = u)
  (ht : elemB P t e 19 by_ = true) (hown : w.ownsRow B e 19 v n xs) (hs : Sl rwE 19 B' w u l) (hl0 : l ≠ []) (h1 : ∀ r ∈ l, (rwC r).toList.all (·.oneCell') = true) (hn : n ≤ 1000000) (hl : l.length ≤ 1000000) (hby : by_ ≤ 10000) (hB : B ≤ w.heap.size)
  (h : ∀ v' w', w'.ownsRow B e 19 v' (n + l.length) (xs ++ l.flatMap rwE) → w.grownBy w' v.ownBlock → (v'.ownBlock = v.ownBlock ∨ v'.ownBlock = some w.heap.size) → K v' w') :
  Does P ops { dst := d, op := .call { callee := .builtin .append, args := #[x, y], argTypes := #[t, t] }, type := ty, pos := pos, after := af, guard := gd } a w K := by
 obtain ⟨i, z, hu, hi, hz, hsz, hbz, hzs, h0⟩ := elem_facts ht
 have hmul : (n + l.length) * by_ ≤ 2000000 * 10000 := Nat.mul_le_mul (by omega) hby
 obtain ⟨ao, cap, hv, hlc, he⟩ := hs
 obtain ⟨x0, l0, rfl⟩ : ∃ x0 l0, l = x0 :: l0 := by cases l with
  | nil => exact absurd rfl hl0
  | cons x0 l0 => exact ⟨x0, l0, rfl⟩
 obtain ⟨b, o, rfl, _, _⟩ := he 0 x0 rfl
 have hlen : ∀ l : List Rw, (l.flatMap rwE).length = l.length * 19 := by
  intro l
  induction l with
  | nil => rfl
  | cons r l ih => rw [List.flatMap_cons, List.length_append, ih, rw_len, List.length_cons]; omega
 have hget : ∀ (l : List Rw) (j : Nat) (q : Value), (l.flatMap rwE)[j]? = some q → ∃ r, l[j / 19]? = some r ∧ (rwE r)[j % 19]? = some q := by
  intro l
  induction l with
  | nil => intro j q hq; simp at hq
  | cons r l ih =>
   intro j q hq
   rw [List.flatMap_cons] at hq
   by_cases hj : j < 19
   ·rw [List.getElem?_append_left (by rw [rw_len]; exact hj)] at hq
    exact ⟨r, by rw [Nat.div_eq_of_lt hj]; rfl, by rw [Nat.mod_eq_of_lt hj]; exact hq⟩
   ·rw [List.getElem?_append_right (by rw [rw_len]; omega), rw_len] at hq
    obtain ⟨r', h1, h2⟩ := ih (j - 19) q hq
    have e1 : j / 19 = (j - 19) / 19 + 1 := by omega
    have e2 : j % 19 = (j - 19) % 19 := by omega
    exact ⟨r', by rw [e1]; exact h1, by rw [e2]; exact h2⟩
 obtain ⟨v', w', hr, h2, h3, _, h5⟩ := run_append_own_at (P := P) w B t ty e i z 19 by_ hu hi hz hsz hbz hzs h0 v n xs hown ⟨b, o, none⟩ (x0 :: l0).length cap ((x0 :: l0).flatMap rwE) (hlen _)
  (fun j q hj => by
   obtain ⟨r, hr1, hr2⟩ := hget _ j q hj
   obtain ⟨b', o', hb', _, hrg⟩ := he _ r hr1
   simp only [Option.some.injEq, Addr.mk.injEq] at hb'
   obtain ⟨rfl, rfl, _⟩ := hb'
   have := hrg _ q hr2
   rw [Addr.add_mid]
   rw [show o + j / 19 * 19 + j % 19 = o + j by omega] at this
   exact this) (fun q hq => by
   obtain ⟨r, hr1, hr2⟩ := List.mem_flatMap.1 hq
   exact (List.all_eq_true.1 (h1 r hr1)) q hr2) (by simp only [maxLen]; omega) (by omega) hB
 refine does_val hw ?_ (h v' w' h2 h3 h5)
 unfold execOp
 simp only [resolve, invoke, builtin, Sem.run_bind, Sem.run_pure, Result.andThen_ok, List.map_toArray, List.map_cons, List.map_nil, hx, hy, hv, hr]
end
structure Made (w : World) (B : Nat) (v : Value) (rows : List Rw) (T : List Tm) (te tp : TypeId) : Prop where
 says : rows.map tmpl = T
 own : w.ownsRow B te 19 v rows.length (rows.flatMap rwE)
 parts : ∀ r ∈ rows, PtOK w v r tp
theorem pt_one {w : World} {v : Value} {r : Rw} {t : TypeId} (h : PtOK w v r t) : (rwC r).toList.all (·.oneCell') = true := rw_one h.sl
theorem Made.grow {w w' : World} {B : Nat} {v : Value} {rows : List Rw} {T : List Tm} {te tp : TypeId} (h : Made w B v rows T te tp) (hg : Grow w w') : Made w' B v rows T te tp := ⟨h.says, owg hg h.own, fun r hr => (h.parts r hr).grow hg⟩
theorem Made.snoc {w w' : World} {B B' : Nat} {v v' u : Value} {rows more : List Rw} {T T' : List Tm} {te tp : TypeId} (h : Made w B v rows T te tp) (hm : more.map tmpl = T') (hp : ∀ r ∈ more, PtOK w v r tp) (ho : w'.ownsRow B te 19 v' (rows.length + more.length) (rows.flatMap rwE ++ more.flatMap rwE)) (hg : w.grownBy w' v.ownBlock) (hl : v'.ownBlock = v.ownBlock ∨ v'.ownBlock = some w.heap.size) : Made w' B v' (rows ++ more) (T ++ T') te tp := by
 refine ⟨by rw [List.map_append, h.says, hm], ?_, fun r hr => ?_⟩
 ·rw [List.length_append, List.flatMap_append]; exact ho
 ·rcases List.mem_append.1 hr with h1 | h1
  ·exact (h.parts r h1).by hg hl
  ·exact (hp r h1).by hg hl
end Go.Proofs.YtjkbjjlfijhbdaaGreatDoor
