/- X86Prints: what it stands on, part 6. -/
import Derived.Test.YtjkbjjlfijhbdaaGreatDoorX86PrintsP5
import Derived.WalkSmall
import Derived.ProofKit
import Derived.OpenShut
import Derived.ChangeOld
namespace Go.Proofs.YtjkbjjlfijhbdaaGreatDoor
open Go.RowKit
set_option linter.defProp false
set_option maxHeartbeats 4000000
set_option maxRecDepth 100000
set_option linter.unusedVariables false
set_option linter.unusedSimpArgs false
theorem fo128_0 : fieldOff Tryz.prog 128 0 = some 0 := by kernel_rfl
theorem fo128_1 : fieldOff Tryz.prog 128 1 = some 1 := by kernel_rfl
theorem places128 : placesOf Tryz.prog 128 = some [(0, 1), (1, 1)] := by kernel_rfl
theorem row128 : rowB Tryz.prog 128 2 = true := by kernel_rfl
theorem slc129 : sliceB Tryz.prog 129 128 2 = true := by kernel_rfl
theorem slz103 : sliceZ Tryz.prog 103 109 = some (1, some (J 0)) := by kernel_rfl
theorem slz129 : sliceZ Tryz.prog 129 128 = some (2, some (.agg #[.string (S []), J 0])) := by kernel_rfl
theorem slz54 : sliceZ Tryz.prog 54 105 = some (19, some (.agg #[.string (S []), J 0, J 0, J 0, J 0, J 0, J 0, J 0, J 0, J 0, J 0, .bool false, .bool false, .bool false, J 0, J 0, J 0, .bool false, .slice none 0 0])) := by kernel_rfl
theorem zero128 : (Tryz.prog.info? 128).map (λ i => (i.zero, i.size)) = some (some (.agg #[.string (S []), J 0]), 2) := by kernel_rfl
def othX : List Tm := [([77, 79, 86], (Ins.mk 1 0 0 0 0 0 0 0 0 0 false false false 0 0 0 false), [1, 5]), ([77, 79, 86], (Ins.mk 2 0 0 0 0 0 0 0 0 0 false false false 0 0 0 false), [1, 2]), ([77, 79, 86, 42], (Ins.mk 4 0 0 0 0 0 0 0 0 0 false false false 0 0 0 false), [1, 6]), ([77, 79, 86, 42], (Ins.mk 5 0 0 0 0 0 0 0 0 0 false false false 0 0 0 false), [6, 2]), ([77, 79, 86, 42], (Ins.mk 5 0 0 0 0 0 0 0 0 0 false false false 0 0 0 false), [6, 5]), ([88, 67, 72, 71, 42], (Ins.mk 6 0 0 0 0 0 0 0 0 6 true false true 0 0 0 false), [4, 6]), ([88, 65, 68, 68, 42], (Ins.mk 6 0 0 0 0 0 0 0 0 1 true false true 0 0 0 false), [6, 4]), ([77, 70, 69, 78, 67, 69], (Ins.mk 7 0 0 0 0 0 0 0 0 0 false false false 3 3 0 false), []), ([74, 90], (Ins.mk 9 0 0 0 0 0 0 0 0 0 false false false 0 0 0 true), [2, 7]), ([74, 78, 90], (Ins.mk 9 0 0 0 0 0 0 0 0 0 false false false 0 0 0 false), [2, 7])]
theorem xothers_any  (w : World) : Calls Tryz.prog 57 #[] w λ e w' => ∃ v rows, e = .returned v ∧ Made w' w.heap.size v rows othX 105 109 ∧ (∀ r ∈ rows, ∀ b, r.pv.ownBlock = some b → w.heap.size ≤ b) ∧ Grow w w' := by
 have b0 := Grow.refl w
 refine enter (n := 37) Tryz.func57 rfl rfl (nb_ rfl) λ _ A=>sw_<|Z 1 A rfl λ A=>qt_<|sw_<|qs A rfl (dbd (cs := #[J 6, J 0, J 0, J 0, J 0, J 0, J 0, J 0, J 0, J 6, .bool true, .bool false, .bool true, J 0, J 0, J 0, .bool false]) (wn rfl) (bp_of (bq_cons (A.ev rfl) (bq_cons (A.ev rfl) (bq_cons (A.ev rfl) (bq_cons (A.ev rfl) bq_nil))))) zero30 places30 (by kernel_rfl) λ _ A=>qs A rfl (dal (wn rfl) zero30 λ g7 w8 eg9 hG10 (m11 : Blk w8 g7 #[J 0, J 0, J 0, J 0, J 0, J 0, J 0, J 0, J 0, J 0, .bool false, .bool false, .bool false, J 0, J 0, J 0, .bool false] 30)=>?_))
 have ge12 : w.heap.size ≤ g7 := eg9 ▸ b0.size
 have b13 := bls b0 hG10
 intro _ A
 refine qs A rfl (dsr (wn rfl) (A.ev rfl) (A.ev rfl) row30 m11 rfl rfl λ w16 hU17 (m18 : Blk w16 g7 #[J 6, J 0, J 0, J 0, J 0, J 0, J 0, J 0, J 0, J 6, .bool true, .bool false, .bool true, J 0, J 0, J 0, .bool false] 30)=>?_)
 have b19 := hU17.below b13 ge12
 intro _ A
 refine qt_<|sw_<|qs A rfl (dbd (cs := #[J 6, J 0, J 0, J 0, J 0, J 0, J 0, J 0, J 0, J 1, .bool true, .bool false, .bool true, J 0, J 0, J 0, .bool false]) (wn rfl) (bp_of (bq_cons (A.ev rfl) (bq_cons (A.ev rfl) (bq_cons (A.ev rfl) (bq_cons (A.ev rfl) bq_nil))))) zero30 places30 (by kernel_rfl) λ _ A=>qs A rfl (dal (wn rfl) zero30 λ g24 w25 eg26 hG27 (m28 : Blk w25 g24 #[J 0, J 0, J 0, J 0, J 0, J 0, J 0, J 0, J 0, J 0, .bool false, .bool false, .bool false, J 0, J 0, J 0, .bool false] 30)=>?_))
 have ge29 : w.heap.size ≤ g24 := eg26 ▸ b19.size
 have n30 := nn_ eg26 m18
 have m31 := m18.grow hG27
 have b32 := bls b19 hG27
 intro _ A
 refine qs A rfl (dsr (wn rfl) (A.ev rfl) (A.ev rfl) row30 m28 rfl rfl λ w35 hU36 (m37 : Blk w35 g24 #[J 6, J 0, J 0, J 0, J 0, J 0, J 0, J 0, J 0, J 1, .bool true, .bool false, .bool true, J 0, J 0, J 0, .bool false] 30)=>?_)
 have m38 := m31.upd hU36 n30
 have b39 := hU36.below b32 ge29
 intro _ A
 refine qt_<|sw_<|qs A rfl (dbd (cs := #[J 7, J 0, J 0, J 0, J 0, J 0, J 0, J 0, J 0, J 0, .bool false, .bool false, .bool false, J 3, J 3, J 0, .bool false]) (wn rfl) (bp_of (bq_cons (A.ev rfl) (bq_cons (A.ev rfl) (bq_cons (A.ev rfl) bq_nil)))) zero30 places30 (by kernel_rfl) λ _ A=>qs A rfl (dal (wn rfl) zero30 λ g44 w45 eg46 hG47 (m48 : Blk w45 g44 #[J 0, J 0, J 0, J 0, J 0, J 0, J 0, J 0, J 0, J 0, .bool false, .bool false, .bool false, J 0, J 0, J 0, .bool false] 30)=>?_))
 have ge49 : w.heap.size ≤ g44 := eg46 ▸ b39.size
 have n50 := nn_ eg46 m38
 have n51 := nn_ eg46 m37
 have m52 := m38.grow hG47
 have m53 := m37.grow hG47
 have b54 := bls b39 hG47
 intro _ A
 refine qs A rfl (dsr (wn rfl) (A.ev rfl) (A.ev rfl) row30 m48 rfl rfl λ w57 hU58 (m59 : Blk w57 g44 #[J 7, J 0, J 0, J 0, J 0, J 0, J 0, J 0, J 0, J 0, .bool false, .bool false, .bool false, J 3, J 3, J 0, .bool false] 30)=>?_)
 have m60 := m52.upd hU58 n50
 have m61 := m53.upd hU58 n51
 have b62 := hU58.below b54 ge49
 intro _ A
 refine qt_<|sw_<|qs A rfl (dbd (cs := #[J 1, J 0, J 0, J 0, J 0, J 0, J 0, J 0, J 0, J 0, .bool false, .bool false, .bool false, J 0, J 0, J 0, .bool false]) (wn rfl) (bp_of (bq_cons (A.ev rfl) bq_nil)) zero30 places30 (by kernel_rfl) λ _ A=>qs A rfl (d_sliceL (cells := #[J 1, J 5]) (wn rfl) (bp_of (bq_cons (A.ev rfl) (bq_cons (A.ev rfl) bq_nil))) slz103 (by decide) (by decide) (by kernel_rfl) λ g67 w68 eg69 hG70 (m71 : Blk w68 g67 (ptA [1, 5]) 109)=>?_))
 have ge72 : w.heap.size ≤ g67 := eg69 ▸ b62.size
 have n73 := nn_ eg69 m60
 have n74 := nn_ eg69 m61
 have n75 := nn_ eg69 m59
 have m76 := m60.grow hG70
 have m77 := m61.grow hG70
 have m78 := m59.grow hG70
 have b79 := bls b62 hG70
 intro _ A
 refine qs A rfl (dbd (cs := #[.string (S [77, 79, 86]), J 1, J 0, J 0, J 0, J 0, J 0, J 0, J 0, J 0, J 0, .bool false, .bool false, .bool false, J 0, J 0, J 0, .bool false, .slice (some ⟨g67, 0, none⟩) 2 2]) (wn rfl) (bp_of (bq_cons (A.ev rfl) (bq_cons (A.ev rfl) (bq_cons (A.ev rfl) bq_nil)))) zero105 places105 (by kernel_rfl) λ _ A=>qs A rfl (dbd (cs := #[J 2, J 0, J 0, J 0, J 0, J 0, J 0, J 0, J 0, J 0, .bool false, .bool false, .bool false, J 0, J 0, J 0, .bool false]) (wn rfl) (bp_of (bq_cons (A.ev rfl) bq_nil)) zero30 places30 (by kernel_rfl) λ _ A=>qs A rfl (d_sliceL (cells := #[J 1, J 2]) (wn rfl) (bp_of (bq_cons (A.ev rfl) (bq_cons (A.ev rfl) bq_nil))) slz103 (by decide) (by decide) (by kernel_rfl) λ g86 w87 eg88 hG89 (m90 : Blk w87 g86 (ptA [1, 2]) 109)=>?_)))
 have ge91 : w.heap.size ≤ g86 := eg88 ▸ b79.size
 have n92 := nn_ eg88 m76
 have n93 := nn_ eg88 m77
 have n94 := nn_ eg88 m78
 have n95 := nn_ eg88 m71
 have m96 := m76.grow hG89
 have m97 := m77.grow hG89
 have m98 := m78.grow hG89
 have m99 := m71.grow hG89
 have b100 := bls b79 hG89
 intro _ A
 refine qs A rfl (dbd (cs := #[.string (S [77, 79, 86]), J 2, J 0, J 0, J 0, J 0, J 0, J 0, J 0, J 0, J 0, .bool false, .bool false, .bool false, J 0, J 0, J 0, .bool false, .slice (some ⟨g86, 0, none⟩) 2 2]) (wn rfl) (bp_of (bq_cons (A.ev rfl) (bq_cons (A.ev rfl) (bq_cons (A.ev rfl) bq_nil)))) zero105 places105 (by kernel_rfl) λ _ A=>qs A rfl (dbd (cs := #[J 4, J 0, J 0, J 0, J 0, J 0, J 0, J 0, J 0, J 0, .bool false, .bool false, .bool false, J 0, J 0, J 0, .bool false]) (wn rfl) (bp_of (bq_cons (A.ev rfl) bq_nil)) zero30 places30 (by kernel_rfl) λ _ A=>qs A rfl (d_sliceL (cells := #[J 1, J 6]) (wn rfl) (bp_of (bq_cons (A.ev rfl) (bq_cons (A.ev rfl) bq_nil))) slz103 (by decide) (by decide) (by kernel_rfl) λ g107 w108 eg109 hG110 (m111 : Blk w108 g107 (ptA [1, 6]) 109)=>?_)))
 have ge112 : w.heap.size ≤ g107 := eg109 ▸ b100.size
 have n113 := nn_ eg109 m96
 have n114 := nn_ eg109 m97
 have n115 := nn_ eg109 m98
 have n116 := nn_ eg109 m99
 have n117 := nn_ eg109 m90
 have m118 := m96.grow hG110
 have m119 := m97.grow hG110
 have m120 := m98.grow hG110
 have m121 := m99.grow hG110
 have m122 := m90.grow hG110
 have b123 := bls b100 hG110
 intro _ A
 refine qs A rfl (dbd (cs := #[.string (S [77, 79, 86, 42]), J 4, J 0, J 0, J 0, J 0, J 0, J 0, J 0, J 0, J 0, .bool false, .bool false, .bool false, J 0, J 0, J 0, .bool false, .slice (some ⟨g107, 0, none⟩) 2 2]) (wn rfl) (bp_of (bq_cons (A.ev rfl) (bq_cons (A.ev rfl) (bq_cons (A.ev rfl) bq_nil)))) zero105 places105 (by kernel_rfl) λ _ A=>qs A rfl (dbd (cs := #[J 5, J 0, J 0, J 0, J 0, J 0, J 0, J 0, J 0, J 0, .bool false, .bool false, .bool false, J 0, J 0, J 0, .bool false]) (wn rfl) (bp_of (bq_cons (A.ev rfl) bq_nil)) zero30 places30 (by kernel_rfl) λ _ A=>qs A rfl (d_sliceL (cells := #[J 6, J 2]) (wn rfl) (bp_of (bq_cons (A.ev rfl) (bq_cons (A.ev rfl) bq_nil))) slz103 (by decide) (by decide) (by kernel_rfl) λ g130 w131 eg132 hG133 (m134 : Blk w131 g130 (ptA [6, 2]) 109)=>?_)))
 have ge135 : w.heap.size ≤ g130 := eg132 ▸ b123.size
 have n136 := nn_ eg132 m118
 have n137 := nn_ eg132 m119
 have n138 := nn_ eg132 m120
 have n139 := nn_ eg132 m121
 have n140 := nn_ eg132 m122
 have n141 := nn_ eg132 m111
 have m142 := m118.grow hG133
 have m143 := m119.grow hG133
 have m144 := m120.grow hG133
 have m145 := m121.grow hG133
 have m146 := m122.grow hG133
 have m147 := m111.grow hG133
 have b148 := bls b123 hG133
 intro _ A
 refine qs A rfl (dbd (cs := #[.string (S [77, 79, 86, 42]), J 5, J 0, J 0, J 0, J 0, J 0, J 0, J 0, J 0, J 0, .bool false, .bool false, .bool false, J 0, J 0, J 0, .bool false, .slice (some ⟨g130, 0, none⟩) 2 2]) (wn rfl) (bp_of (bq_cons (A.ev rfl) (bq_cons (A.ev rfl) (bq_cons (A.ev rfl) bq_nil)))) zero105 places105 (by kernel_rfl) λ _ A=>qs A rfl (dbd (cs := #[J 5, J 0, J 0, J 0, J 0, J 0, J 0, J 0, J 0, J 0, .bool false, .bool false, .bool false, J 0, J 0, J 0, .bool false]) (wn rfl) (bp_of (bq_cons (A.ev rfl) bq_nil)) zero30 places30 (by kernel_rfl) λ _ A=>qs A rfl (d_sliceL (cells := #[J 6, J 5]) (wn rfl) (bp_of (bq_cons (A.ev rfl) (bq_cons (A.ev rfl) bq_nil))) slz103 (by decide) (by decide) (by kernel_rfl) λ g155 w156 eg157 hG158 (m159 : Blk w156 g155 (ptA [6, 5]) 109)=>?_)))
 have ge160 : w.heap.size ≤ g155 := eg157 ▸ b148.size
 have n161 := nn_ eg157 m142
 have n162 := nn_ eg157 m143
 have n163 := nn_ eg157 m144
 have n164 := nn_ eg157 m145
 have n165 := nn_ eg157 m146
 have n166 := nn_ eg157 m147
 have n167 := nn_ eg157 m134
 have m168 := m142.grow hG158
 have m169 := m143.grow hG158
 have m170 := m144.grow hG158
 have m171 := m145.grow hG158
 have m172 := m146.grow hG158
 have m173 := m147.grow hG158
 have m174 := m134.grow hG158
 have b175 := bls b148 hG158
 intro _ A
 refine qs A rfl (dbd (cs := #[.string (S [77, 79, 86, 42]), J 5, J 0, J 0, J 0, J 0, J 0, J 0, J 0, J 0, J 0, .bool false, .bool false, .bool false, J 0, J 0, J 0, .bool false, .slice (some ⟨g155, 0, none⟩) 2 2]) (wn rfl) (bp_of (bq_cons (A.ev rfl) (bq_cons (A.ev rfl) (bq_cons (A.ev rfl) bq_nil)))) zero105 places105 (by kernel_rfl) λ _ A=>qs A rfl (dlr (cs := #[J 6, J 0, J 0, J 0, J 0, J 0, J 0, J 0, J 0, J 6, .bool true, .bool false, .bool true, J 0, J 0, J 0, .bool false]) (wn rfl) (A.ev rfl) row30 m168 λ _ A=>qs A rfl (d_sliceL (cells := #[J 4, J 6]) (wn rfl) (bp_of (bq_cons (A.ev rfl) (bq_cons (A.ev rfl) bq_nil))) slz103 (by decide) (by decide) (by kernel_rfl) λ g182 w183 eg184 hG185 (m186 : Blk w183 g182 (ptA [4, 6]) 109)=>?_)))
 have ge187 : w.heap.size ≤ g182 := eg184 ▸ b175.size
 have n188 := nn_ eg184 m168
 have n189 := nn_ eg184 m169
 have n190 := nn_ eg184 m170
 have n191 := nn_ eg184 m171
 have n192 := nn_ eg184 m172
 have n193 := nn_ eg184 m173
 have n194 := nn_ eg184 m174
 have n195 := nn_ eg184 m159
 have m196 := m168.grow hG185
 have m197 := m169.grow hG185
 have m198 := m170.grow hG185
 have m199 := m171.grow hG185
 have m200 := m172.grow hG185
 have m201 := m173.grow hG185
 have m202 := m174.grow hG185
 have m203 := m159.grow hG185
 have b204 := bls b175 hG185
 intro _ A
 refine qs A rfl (dbd (cs := #[.string (S [88, 67, 72, 71, 42]), J 6, J 0, J 0, J 0, J 0, J 0, J 0, J 0, J 0, J 6, .bool true, .bool false, .bool true, J 0, J 0, J 0, .bool false, .slice (some ⟨g182, 0, none⟩) 2 2]) (wn rfl) (bp_of (bq_cons (A.ev rfl) (bq_cons (A.ev rfl) (bq_cons (A.ev rfl) bq_nil)))) zero105 places105 (by kernel_rfl) λ _ A=>qs A rfl (dlr (cs := #[J 6, J 0, J 0, J 0, J 0, J 0, J 0, J 0, J 0, J 1, .bool true, .bool false, .bool true, J 0, J 0, J 0, .bool false]) (wn rfl) (A.ev rfl) row30 m197 λ _ A=>qs A rfl (d_sliceL (cells := #[J 6, J 4]) (wn rfl) (bp_of (bq_cons (A.ev rfl) (bq_cons (A.ev rfl) bq_nil))) slz103 (by decide) (by decide) (by kernel_rfl) λ g211 w212 eg213 hG214 (m215 : Blk w212 g211 (ptA [6, 4]) 109)=>?_)))
 have ge216 : w.heap.size ≤ g211 := eg213 ▸ b204.size
 have n217 := nn_ eg213 m196
 have n218 := nn_ eg213 m197
 have n219 := nn_ eg213 m198
 have n220 := nn_ eg213 m199
 have n221 := nn_ eg213 m200
 have n222 := nn_ eg213 m201
 have n223 := nn_ eg213 m202
 have n224 := nn_ eg213 m203
 have n225 := nn_ eg213 m186
 have m226 := m196.grow hG214
 have m227 := m197.grow hG214
 have m228 := m198.grow hG214
 have m229 := m199.grow hG214
 have m230 := m200.grow hG214
 have m231 := m201.grow hG214
 have m232 := m202.grow hG214
 have m233 := m203.grow hG214
 have m234 := m186.grow hG214
 have b235 := bls b204 hG214
 intro _ A
 refine qs A rfl (dbd (cs := #[.string (S [88, 65, 68, 68, 42]), J 6, J 0, J 0, J 0, J 0, J 0, J 0, J 0, J 0, J 1, .bool true, .bool false, .bool true, J 0, J 0, J 0, .bool false, .slice (some ⟨g211, 0, none⟩) 2 2]) (wn rfl) (bp_of (bq_cons (A.ev rfl) (bq_cons (A.ev rfl) (bq_cons (A.ev rfl) bq_nil)))) zero105 places105 (by kernel_rfl) λ _ A=>qs A rfl (dlr (cs := #[J 7, J 0, J 0, J 0, J 0, J 0, J 0, J 0, J 0, J 0, .bool false, .bool false, .bool false, J 3, J 3, J 0, .bool false]) (wn rfl) (A.ev rfl) row30 m228 λ _ A=>qs A rfl (dbd (cs := #[.string (S [77, 70, 69, 78, 67, 69]), J 7, J 0, J 0, J 0, J 0, J 0, J 0, J 0, J 0, J 0, .bool false, .bool false, .bool false, J 3, J 3, J 0, .bool false, .slice none 0 0]) (wn rfl) (bp_of (bq_cons (A.ev rfl) (bq_cons (A.ev rfl) bq_nil))) zero105 places105 (by kernel_rfl) λ _ A=>qs A rfl (dbd (cs := #[J 9, J 0, J 0, J 0, J 0, J 0, J 0, J 0, J 0, J 0, .bool false, .bool false, .bool false, J 0, J 0, J 0, .bool true]) (wn rfl) (bp_of (bq_cons (A.ev rfl) (bq_cons (A.ev rfl) bq_nil))) zero30 places30 (by kernel_rfl) λ _ A=>qs A rfl (d_sliceL (cells := #[J 2, J 7]) (wn rfl) (bp_of (bq_cons (A.ev rfl) (bq_cons (A.ev rfl) bq_nil))) slz103 (by decide) (by decide) (by kernel_rfl) λ g246 w247 eg248 hG249 (m250 : Blk w247 g246 (ptA [2, 7]) 109)=>?_)))))
 have ge251 : w.heap.size ≤ g246 := eg248 ▸ b235.size
 have n252 := nn_ eg248 m226
 have n253 := nn_ eg248 m227
 have n254 := nn_ eg248 m228
 have n255 := nn_ eg248 m229
 have n256 := nn_ eg248 m230
 have n257 := nn_ eg248 m231
 have n258 := nn_ eg248 m232
 have n259 := nn_ eg248 m233
 have n260 := nn_ eg248 m234
 have n261 := nn_ eg248 m215
 have m262 := m226.grow hG249
 have m263 := m227.grow hG249
 have m264 := m228.grow hG249
 have m265 := m229.grow hG249
 have m266 := m230.grow hG249
 have m267 := m231.grow hG249
 have m268 := m232.grow hG249
 have m269 := m233.grow hG249
 have m270 := m234.grow hG249
 have m271 := m215.grow hG249
 have b272 := bls b235 hG249
 intro _ A
 refine qs A rfl (dbd (cs := #[.string (S [74, 90]), J 9, J 0, J 0, J 0, J 0, J 0, J 0, J 0, J 0, J 0, .bool false, .bool false, .bool false, J 0, J 0, J 0, .bool true, .slice (some ⟨g246, 0, none⟩) 2 2]) (wn rfl) (bp_of (bq_cons (A.ev rfl) (bq_cons (A.ev rfl) (bq_cons (A.ev rfl) bq_nil)))) zero105 places105 (by kernel_rfl) λ _ A=>qs A rfl (dbd (cs := #[J 9, J 0, J 0, J 0, J 0, J 0, J 0, J 0, J 0, J 0, .bool false, .bool false, .bool false, J 0, J 0, J 0, .bool false]) (wn rfl) (bp_of (bq_cons (A.ev rfl) bq_nil)) zero30 places30 (by kernel_rfl) λ _ A=>qs A rfl (d_sliceL (cells := #[J 2, J 7]) (wn rfl) (bp_of (bq_cons (A.ev rfl) (bq_cons (A.ev rfl) bq_nil))) slz103 (by decide) (by decide) (by kernel_rfl) λ g279 w280 eg281 hG282 (m283 : Blk w280 g279 (ptA [2, 7]) 109)=>?_)))
 have ge284 : w.heap.size ≤ g279 := eg281 ▸ b272.size
 have n285 := nn_ eg281 m262
 have n286 := nn_ eg281 m263
 have n287 := nn_ eg281 m264
 have n288 := nn_ eg281 m265
 have n289 := nn_ eg281 m266
 have n290 := nn_ eg281 m267
 have n291 := nn_ eg281 m268
 have n292 := nn_ eg281 m269
 have n293 := nn_ eg281 m270
 have n294 := nn_ eg281 m271
 have n295 := nn_ eg281 m250
 have m296 := m262.grow hG282
 have m297 := m263.grow hG282
 have m298 := m264.grow hG282
 have m299 := m265.grow hG282
 have m300 := m266.grow hG282
 have m301 := m267.grow hG282
 have m302 := m268.grow hG282
 have m303 := m269.grow hG282
 have m304 := m270.grow hG282
 have m305 := m271.grow hG282
 have m306 := m250.grow hG282
 have b307 := bls b272 hG282
 intro _ A
 refine qs A rfl (dbd (cs := #[.string (S [74, 78, 90]), J 9, J 0, J 0, J 0, J 0, J 0, J 0, J 0, J 0, J 0, .bool false, .bool false, .bool false, J 0, J 0, J 0, .bool false, .slice (some ⟨g279, 0, none⟩) 2 2]) (wn rfl) (bp_of (bq_cons (A.ev rfl) (bq_cons (A.ev rfl) (bq_cons (A.ev rfl) bq_nil)))) zero105 places105 (by kernel_rfl) λ _ A=>qs A rfl (d_sliceL (cells := ([(Rw.mk [77, 79, 86] (Ins.mk 1 0 0 0 0 0 0 0 0 0 false false false 0 0 0 false) (.slice (some ⟨g67, 0, none⟩) 2 2) [1, 5]), (Rw.mk [77, 79, 86] (Ins.mk 2 0 0 0 0 0 0 0 0 0 false false false 0 0 0 false) (.slice (some ⟨g86, 0, none⟩) 2 2) [1, 2]), (Rw.mk [77, 79, 86, 42] (Ins.mk 4 0 0 0 0 0 0 0 0 0 false false false 0 0 0 false) (.slice (some ⟨g107, 0, none⟩) 2 2) [1, 6]), (Rw.mk [77, 79, 86, 42] (Ins.mk 5 0 0 0 0 0 0 0 0 0 false false false 0 0 0 false) (.slice (some ⟨g130, 0, none⟩) 2 2) [6, 2]), (Rw.mk [77, 79, 86, 42] (Ins.mk 5 0 0 0 0 0 0 0 0 0 false false false 0 0 0 false) (.slice (some ⟨g155, 0, none⟩) 2 2) [6, 5]), (Rw.mk [88, 67, 72, 71, 42] (Ins.mk 6 0 0 0 0 0 0 0 0 6 true false true 0 0 0 false) (.slice (some ⟨g182, 0, none⟩) 2 2) [4, 6]), (Rw.mk [88, 65, 68, 68, 42] (Ins.mk 6 0 0 0 0 0 0 0 0 1 true false true 0 0 0 false) (.slice (some ⟨g211, 0, none⟩) 2 2) [6, 4]), (Rw.mk [77, 70, 69, 78, 67, 69] (Ins.mk 7 0 0 0 0 0 0 0 0 0 false false false 3 3 0 false) (.slice none 0 0) []), (Rw.mk [74, 90] (Ins.mk 9 0 0 0 0 0 0 0 0 0 false false false 0 0 0 true) (.slice (some ⟨g246, 0, none⟩) 2 2) [2, 7]), (Rw.mk [74, 78, 90] (Ins.mk 9 0 0 0 0 0 0 0 0 0 false false false 0 0 0 false) (.slice (some ⟨g279, 0, none⟩) 2 2) [2, 7])].flatMap rwE).toArray) (wn rfl) (bp_of (bq_cons (A.ev rfl) (bq_cons (A.ev rfl) (bq_cons (A.ev rfl) (bq_cons (A.ev rfl) (bq_cons (A.ev rfl) (bq_cons (A.ev rfl) (bq_cons (A.ev rfl) (bq_cons (A.ev rfl) (bq_cons (A.ev rfl) (bq_cons (A.ev rfl) bq_nil))))))))))) slz54 (by decide) (by decide) (by kernel_rfl) λ g312 w313 eg314 hG315 (m316 : Blk w313 g312 ([(Rw.mk [77, 79, 86] (Ins.mk 1 0 0 0 0 0 0 0 0 0 false false false 0 0 0 false) (.slice (some ⟨g67, 0, none⟩) 2 2) [1, 5]), (Rw.mk [77, 79, 86] (Ins.mk 2 0 0 0 0 0 0 0 0 0 false false false 0 0 0 false) (.slice (some ⟨g86, 0, none⟩) 2 2) [1, 2]), (Rw.mk [77, 79, 86, 42] (Ins.mk 4 0 0 0 0 0 0 0 0 0 false false false 0 0 0 false) (.slice (some ⟨g107, 0, none⟩) 2 2) [1, 6]), (Rw.mk [77, 79, 86, 42] (Ins.mk 5 0 0 0 0 0 0 0 0 0 false false false 0 0 0 false) (.slice (some ⟨g130, 0, none⟩) 2 2) [6, 2]), (Rw.mk [77, 79, 86, 42] (Ins.mk 5 0 0 0 0 0 0 0 0 0 false false false 0 0 0 false) (.slice (some ⟨g155, 0, none⟩) 2 2) [6, 5]), (Rw.mk [88, 67, 72, 71, 42] (Ins.mk 6 0 0 0 0 0 0 0 0 6 true false true 0 0 0 false) (.slice (some ⟨g182, 0, none⟩) 2 2) [4, 6]), (Rw.mk [88, 65, 68, 68, 42] (Ins.mk 6 0 0 0 0 0 0 0 0 1 true false true 0 0 0 false) (.slice (some ⟨g211, 0, none⟩) 2 2) [6, 4]), (Rw.mk [77, 70, 69, 78, 67, 69] (Ins.mk 7 0 0 0 0 0 0 0 0 0 false false false 3 3 0 false) (.slice none 0 0) []), (Rw.mk [74, 90] (Ins.mk 9 0 0 0 0 0 0 0 0 0 false false false 0 0 0 true) (.slice (some ⟨g246, 0, none⟩) 2 2) [2, 7]), (Rw.mk [74, 78, 90] (Ins.mk 9 0 0 0 0 0 0 0 0 0 false false false 0 0 0 false) (.slice (some ⟨g279, 0, none⟩) 2 2) [2, 7])].flatMap rwE).toArray 105)=>?_))
 have ge317 : w.heap.size ≤ g312 := eg314 ▸ b307.size
 have n318 := nn_ eg314 m296
 have n319 := nn_ eg314 m297
 have n320 := nn_ eg314 m298
 have n321 := nn_ eg314 m299
 have n322 := nn_ eg314 m300
 have n323 := nn_ eg314 m301
 have n324 := nn_ eg314 m302
 have n325 := nn_ eg314 m303
 have n326 := nn_ eg314 m304
 have n327 := nn_ eg314 m305
 have n328 := nn_ eg314 m306
 have n329 := nn_ eg314 m283
 have m330 := m296.grow hG315
 have m331 := m297.grow hG315
 have m332 := m298.grow hG315
 have m333 := m299.grow hG315
 have m334 := m300.grow hG315
 have m335 := m301.grow hG315
 have m336 := m302.grow hG315
 have m337 := m303.grow hG315
 have m338 := m304.grow hG315
 have m339 := m305.grow hG315
 have m340 := m306.grow hG315
 have m341 := m283.grow hG315
 have b342 := bls b307 hG315
 intro _ A
 refine Z 1 A rfl λ A=>qt_<|we_<|ret1 rfl A (v := (.slice (some ⟨g312, 0, none⟩) 10 10)) rfl ?_
 exact ⟨_, [(Rw.mk [77, 79, 86] (Ins.mk 1 0 0 0 0 0 0 0 0 0 false false false 0 0 0 false) (.slice (some ⟨g67, 0, none⟩) 2 2) [1, 5]), (Rw.mk [77, 79, 86] (Ins.mk 2 0 0 0 0 0 0 0 0 0 false false false 0 0 0 false) (.slice (some ⟨g86, 0, none⟩) 2 2) [1, 2]), (Rw.mk [77, 79, 86, 42] (Ins.mk 4 0 0 0 0 0 0 0 0 0 false false false 0 0 0 false) (.slice (some ⟨g107, 0, none⟩) 2 2) [1, 6]), (Rw.mk [77, 79, 86, 42] (Ins.mk 5 0 0 0 0 0 0 0 0 0 false false false 0 0 0 false) (.slice (some ⟨g130, 0, none⟩) 2 2) [6, 2]), (Rw.mk [77, 79, 86, 42] (Ins.mk 5 0 0 0 0 0 0 0 0 0 false false false 0 0 0 false) (.slice (some ⟨g155, 0, none⟩) 2 2) [6, 5]), (Rw.mk [88, 67, 72, 71, 42] (Ins.mk 6 0 0 0 0 0 0 0 0 6 true false true 0 0 0 false) (.slice (some ⟨g182, 0, none⟩) 2 2) [4, 6]), (Rw.mk [88, 65, 68, 68, 42] (Ins.mk 6 0 0 0 0 0 0 0 0 1 true false true 0 0 0 false) (.slice (some ⟨g211, 0, none⟩) 2 2) [6, 4]), (Rw.mk [77, 70, 69, 78, 67, 69] (Ins.mk 7 0 0 0 0 0 0 0 0 0 false false false 3 3 0 false) (.slice none 0 0) []), (Rw.mk [74, 90] (Ins.mk 9 0 0 0 0 0 0 0 0 0 false false false 0 0 0 true) (.slice (some ⟨g246, 0, none⟩) 2 2) [2, 7]), (Rw.mk [74, 78, 90] (Ins.mk 9 0 0 0 0 0 0 0 0 0 false false false 0 0 0 false) (.slice (some ⟨g279, 0, none⟩) 2 2) [2, 7])], rfl, ⟨rfl, own_base (own_lit m316 rfl rfl (by decide)) ge317, (all_one (.inr ⟨g67, rfl, m333, (λ e => n321 (Option.some.inj e).symm)⟩) (all_one (.inr ⟨g86, rfl, m334, (λ e => n322 (Option.some.inj e).symm)⟩) (all_one (.inr ⟨g107, rfl, m335, (λ e => n323 (Option.some.inj e).symm)⟩) (all_one (.inr ⟨g130, rfl, m336, (λ e => n324 (Option.some.inj e).symm)⟩) (all_one (.inr ⟨g155, rfl, m337, (λ e => n325 (Option.some.inj e).symm)⟩) (all_one (.inr ⟨g182, rfl, m338, (λ e => n326 (Option.some.inj e).symm)⟩) (all_one (.inr ⟨g211, rfl, m339, (λ e => n327 (Option.some.inj e).symm)⟩) (all_one (.inl ⟨rfl, rfl⟩) (all_one (.inr ⟨g246, rfl, m340, (λ e => n328 (Option.some.inj e).symm)⟩) (all_one (.inr ⟨g279, rfl, m341, (λ e => n329 (Option.some.inj e).symm)⟩) all_no))))))))))⟩, (all_one (λ b hb => by cases hb; exact ge72) (all_one (λ b hb => by cases hb; exact ge91) (all_one (λ b hb => by cases hb; exact ge112) (all_one (λ b hb => by cases hb; exact ge135) (all_one (λ b hb => by cases hb; exact ge160) (all_one (λ b hb => by cases hb; exact ge187) (all_one (λ b hb => by cases hb; exact ge216) (all_one (λ b hb => by cases hb) (all_one (λ b hb => by cases hb; exact ge251) (all_one (λ b hb => by cases hb; exact ge284) all_no)))))))))), b342⟩
def aluT : List (List UInt8 × Int) := [([65, 68, 68], 1), ([83, 85, 66], 2), ([88, 79, 82], 3), ([65, 78, 68], 4), ([79, 82], 5)]
def compX (x : List UInt8 × Int) : List Tm := [(x.1, insF 3 x.2, [4, 3]), (x.1, insF 3 x.2, [4, 5])]
theorem xcomp_any  (w : World) : Calls Tryz.prog 56 #[] w λ e w' => ∃ v rows, e = .returned v ∧ Made w' w.heap.size v rows (aluT.flatMap compX) 105 109 ∧ (∀ r ∈ rows, ∀ b, r.pv.ownBlock = some b → w.heap.size ≤ b) ∧ Grow w w' := by
 have b0 := Grow.refl w
 refine enter (n := 36) Tryz.func56 rfl rfl (nb_ rfl) λ _ A=>sw_<|Z 1 A rfl λ A=>qt_<|sw_<|qs A rfl (dbd (cs := #[.string (S [65, 68, 68]), J 1]) (wn rfl) (bp_of (bq_cons (A.ev rfl) (bq_cons (A.ev rfl) bq_nil))) zero128 places128 (by kernel_rfl) λ _ A=>qs A rfl (dbd (cs := #[.string (S [83, 85, 66]), J 2]) (wn rfl) (bp_of (bq_cons (A.ev rfl) (bq_cons (A.ev rfl) bq_nil))) zero128 places128 (by kernel_rfl) λ _ A=>qs A rfl (dbd (cs := #[.string (S [88, 79, 82]), J 3]) (wn rfl) (bp_of (bq_cons (A.ev rfl) (bq_cons (A.ev rfl) bq_nil))) zero128 places128 (by kernel_rfl) λ _ A=>qs A rfl (dbd (cs := #[.string (S [65, 78, 68]), J 4]) (wn rfl) (bp_of (bq_cons (A.ev rfl) (bq_cons (A.ev rfl) bq_nil))) zero128 places128 (by kernel_rfl) λ _ A=>qs A rfl (dbd (cs := #[.string (S [79, 82]), J 5]) (wn rfl) (bp_of (bq_cons (A.ev rfl) (bq_cons (A.ev rfl) bq_nil))) zero128 places128 (by kernel_rfl) λ _ A=>qs A rfl (d_sliceL (cells := ((aluT).flatMap nfE).toArray) (wn rfl) (bp_of (bq_cons (A.ev rfl) (bq_cons (A.ev rfl) (bq_cons (A.ev rfl) (bq_cons (A.ev rfl) (bq_cons (A.ev rfl) bq_nil)))))) slz129 (by decide) (by decide) (by kernel_rfl) λ g15 w16 eg17 hG18 (m19 : Blk w16 g15 ((aluT).flatMap nfE).toArray 128)=>?_))))))
 have ge20 : w.heap.size ≤ g15 := eg17 ▸ b0.size
 have b21 := bls b0 hG18
 intro _ A
 refine Z 1 A rfl λ A=>qt_<|sw_<|Z 1 A rfl λ A=>qt_<|ws_<|sw_<|Z 1 A rfl λ A=>qs A rfl (dle (n := 5) (wn rfl) (A.ev rfl) slc129 (sl_flat (enc := nfE) (s := 2) (l := aluT) (n := 5) m19 (λ _ => rfl) rfl rfl (by decide)).form λ _ A=>Z 1 A rfl λ A=>?_)
 refine qt_<|wp_block<|loop_by (λ m a w' => ∃ (n : Nat) (ws : List Rw) (v : Value), m = 5 - n ∧ n ≤ 5 ∧ v.ownBlock ≠ some g15 ∧ (∀ r ∈ ws, ∀ b, r.pv.ownBlock = some b → w.heap.size ≤ b) ∧ Made w' w.heap.size v ws ((aluT.take n).flatMap compX) 105 109 ∧ ws.length ≤ 2 * n ∧ St 36 [(0, (.slice none 0 0)), (2, v), (12, (.slice (some ⟨g15, 0, none⟩) 5 5)), (13, (J 5)), (14, (J ((n : Nat) : Int)))] a ∧ Below w.heap.size w w' ∧ Blk w' g15 ((aluT).flatMap nfE).toArray 128) (5 - 0) ⟨0, [], .slice none 0 0, rfl, by omega, by simp [Value.ownBlock], all_no, ⟨rfl, ⟨rfl, .inl ⟨rfl, rfl⟩⟩, all_no⟩, by simp, A.sub rfl, b21, m19⟩ ?_
 rintro m34 a35 w36 ⟨n37, ws38, v39, hm40, hj1, hj2, hjp, hM43, hwl, A, b42, m44⟩
 have b45 : Below w36.heap.size w36 w36 := Below.refl _ _
 refine sw_ ?_
 rcases eb_ (decide (((n37 : Nat) : Int) < 5)) with hb46 | hb46
 ·skip
  have hq47 := dt_ hb46
  refine B2 A rfl (bl hb46) λ A=>qt_<|ws_<|ct_ A rfl<|wk_<|tn_<|ws_<|wp_block<|sw_ ?_
  obtain ⟨y50, hy51⟩ : ∃ y50, aluT[n37]? = some y50 := ⟨_, List.getElem?_eq_getElem (show n37 < aluT.length by show n37 < 5; omega)⟩
  obtain ⟨b52, o53, lt54, hr55, hix56⟩ := (sl_flat (enc := nfE) (s := 2) (l := aluT) (n := 5) m44 (λ _ => rfl) rfl rfl (by decide)).at hy51
  refine qs A rfl (dia (j := n37) (wn rfl) (A.ev rfl) (A.ev rfl) slc129 hix56 (get_lt hy51) λ _ A=>qs A rfl (dlm (cs := #[.string (S y50.1), J y50.2]) (wn rfl) (A.ev rfl) row128 hr55 λ _ A=>qs A rfl (dal (wn rfl) zero128 λ g61 w62 eg63 hG64 (m65 : Blk w62 g61 #[.string (S []), J 0] 128)=>?_)))
  have ge66 : w36.heap.size ≤ g61 := eg63 ▸ b45.size
  have n67 := nn_ eg63 m44
  have m68 := m44.grow hG64
  have hr69 := range_below hr55 hG64 lt54
  have lt70 := Nat.lt_of_lt_of_le lt54 hG64.size
  have b71 := bls b45 hG64
  intro _ A
  refine qs A rfl (dsr (wn rfl) (A.ev rfl) (A.ev rfl) row128 m65 rfl rfl λ w74 hU75 (m76 : Blk w74 g61 #[.string (S y50.1), J y50.2] 128)=>?_)
  have m77 := m68.upd hU75 n67
  have b78 := hU75.below b71 ge66
  intro _ A
  refine qt_<|sw_<|F1 A rfl fo128_1 λ A=>qs A rfl (dld (v := (J y50.2)) (wn rfl) (A.ev rfl) one3 (m76.cell rfl) λ _ A=>qs A rfl (dbd (cs := #[J 3, J 0, J 0, J 0, J 0, J 0, J 0, J 0, J 0, J y50.2, .bool false, .bool false, .bool false, J 0, J 0, J 0, .bool false]) (wn rfl) (bp_of (bq_cons (A.ev rfl) (bq_cons (A.ev rfl) bq_nil))) zero30 places30 (by kernel_rfl) λ _ A=>qs A rfl (dal (wn rfl) zero30 λ g87 w88 eg89 hG90 (m91 : Blk w88 g87 #[J 0, J 0, J 0, J 0, J 0, J 0, J 0, J 0, J 0, J 0, .bool false, .bool false, .bool false, J 0, J 0, J 0, .bool false] 30)=>?_)))
  have ge92 : w36.heap.size ≤ g87 := eg89 ▸ b78.size
  have n93 := nn_ eg89 m77
  have n94 := nn_ eg89 m76
  have m95 := m77.grow hG90
  have m96 := m76.grow hG90
  have b97 := bls b78 hG90
  intro _ A
  refine qs A rfl (dsr (wn rfl) (A.ev rfl) (A.ev rfl) row30 m91 rfl rfl λ w100 hU101 (m102 : Blk w100 g87 #[J 3, J 0, J 0, J 0, J 0, J 0, J 0, J 0, J 0, J y50.2, .bool false, .bool false, .bool false, J 0, J 0, J 0, .bool false] 30)=>?_)
  have m103 := m95.upd hU101 n93
  have m104 := m96.upd hU101 n94
  have b105 := hU101.below b97 ge92
  intro _ A
  refine qt_<|wr_<|Z 1 A rfl λ A=>F1 A rfl fo128_0 λ A=>qs A rfl (dld (v := (.string (S y50.1))) (wn rfl) (A.ev rfl) one9 (m104.cell rfl) λ _ A=>qs A rfl (dlr (cs := #[J 3, J 0, J 0, J 0, J 0, J 0, J 0, J 0, J 0, J y50.2, .bool false, .bool false, .bool false, J 0, J 0, J 0, .bool false]) (wn rfl) (A.ev rfl) row30 m102 λ _ A=>qs A rfl (d_sliceL (cells := #[J 4, J 3]) (wn rfl) (bp_of (bq_cons (A.ev rfl) (bq_cons (A.ev rfl) bq_nil))) slz103 (by decide) (by decide) (by kernel_rfl) λ g116 w117 eg118 hG119 (m120 : Blk w117 g116 (ptA [4, 3]) 109)=>?_)))
  have ge121 : w36.heap.size ≤ g116 := eg118 ▸ b105.size
  have n122 := nn_ eg118 m103
  have n123 := nn_ eg118 m104
  have n124 := nn_ eg118 m102
  have m125 := m103.grow hG119
  have m126 := m104.grow hG119
  have m127 := m102.grow hG119
  have b128 := bls b105 hG119
  intro _ A
  refine qs A rfl (dbd (cs := #[.string (S y50.1), J 3, J 0, J 0, J 0, J 0, J 0, J 0, J 0, J 0, J y50.2, .bool false, .bool false, .bool false, J 0, J 0, J 0, .bool false, .slice (some ⟨g116, 0, none⟩) 2 2]) (wn rfl) (bp_of (bq_cons (A.ev rfl) (bq_cons (A.ev rfl) (bq_cons (A.ev rfl) bq_nil)))) zero105 places105 (by kernel_rfl) λ _ A=>F1 A rfl fo128_0 λ A=>qs A rfl (dld (v := (.string (S y50.1))) (wn rfl) (A.ev rfl) one9 (m126.cell rfl) λ _ A=>qs A rfl (dlr (cs := #[J 3, J 0, J 0, J 0, J 0, J 0, J 0, J 0, J 0, J y50.2, .bool false, .bool false, .bool false, J 0, J 0, J 0, .bool false]) (wn rfl) (A.ev rfl) row30 m127 λ _ A=>qs A rfl (d_sliceL (cells := #[J 4, J 5]) (wn rfl) (bp_of (bq_cons (A.ev rfl) (bq_cons (A.ev rfl) bq_nil))) slz103 (by decide) (by decide) (by kernel_rfl) λ g139 w140 eg141 hG142 (m143 : Blk w140 g139 (ptA [4, 5]) 109)=>?_))))
  have ge144 : w36.heap.size ≤ g139 := eg141 ▸ b128.size
  have n145 := nn_ eg141 m125
  have n146 := nn_ eg141 m126
  have n147 := nn_ eg141 m127
  have n148 := nn_ eg141 m120
  have m149 := m125.grow hG142
  have m150 := m126.grow hG142
  have m151 := m127.grow hG142
  have m152 := m120.grow hG142
  have b153 := bls b128 hG142
  intro _ A
  refine qs A rfl (dbd (cs := #[.string (S y50.1), J 3, J 0, J 0, J 0, J 0, J 0, J 0, J 0, J 0, J y50.2, .bool false, .bool false, .bool false, J 0, J 0, J 0, .bool false, .slice (some ⟨g139, 0, none⟩) 2 2]) (wn rfl) (bp_of (bq_cons (A.ev rfl) (bq_cons (A.ev rfl) (bq_cons (A.ev rfl) bq_nil)))) zero105 places105 (by kernel_rfl) λ _ A=>qs A rfl (d_sliceL (cells := ([(Rw.mk y50.1 (Ins.mk 3 0 0 0 0 0 0 0 0 y50.2 false false false 0 0 0 false) (.slice (some ⟨g116, 0, none⟩) 2 2) [4, 3]), (Rw.mk y50.1 (Ins.mk 3 0 0 0 0 0 0 0 0 y50.2 false false false 0 0 0 false) (.slice (some ⟨g139, 0, none⟩) 2 2) [4, 5])].flatMap rwE).toArray) (wn rfl) (bp_of (bq_cons (A.ev rfl) (bq_cons (A.ev rfl) bq_nil))) slz54 (by decide) (by decide) (by kernel_rfl) λ g158 w159 eg160 hG161 (m162 : Blk w159 g158 ([(Rw.mk y50.1 (Ins.mk 3 0 0 0 0 0 0 0 0 y50.2 false false false 0 0 0 false) (.slice (some ⟨g116, 0, none⟩) 2 2) [4, 3]), (Rw.mk y50.1 (Ins.mk 3 0 0 0 0 0 0 0 0 y50.2 false false false 0 0 0 false) (.slice (some ⟨g139, 0, none⟩) 2 2) [4, 5])].flatMap rwE).toArray 105)=>?_))
  have ge163 : w36.heap.size ≤ g158 := eg160 ▸ b153.size
  have n164 := nn_ eg160 m149
  have n165 := nn_ eg160 m150
  have n166 := nn_ eg160 m151
  have n167 := nn_ eg160 m152
  have n168 := nn_ eg160 m143
  have m169 := m149.grow hG161
  have m170 := m150.grow hG161
  have m171 := m151.grow hG161
  have m172 := m152.grow hG161
  have m173 := m143.grow hG161
  have b174 := bls b153 hG161
  intro _ A
  have hMg177 := hM43.grow b174
  have hps178 : ∀ r ∈ ([(Rw.mk y50.1 (Ins.mk 3 0 0 0 0 0 0 0 0 y50.2 false false false 0 0 0 false) (.slice (some ⟨g116, 0, none⟩) 2 2) [4, 3]), (Rw.mk y50.1 (Ins.mk 3 0 0 0 0 0 0 0 0 y50.2 false false false 0 0 0 false) (.slice (some ⟨g139, 0, none⟩) 2 2) [4, 5])] : List Rw), PtOK w159 v39 r 109 := (all_one (.inr ⟨g116, rfl, m172, (λ e => ni_ _ (Nat.lt_of_lt_of_le (own_lt hM43.own _ e).2 ge121))⟩) (all_one (.inr ⟨g139, rfl, m173, (λ e => ni_ _ (Nat.lt_of_lt_of_le (own_lt hM43.own _ e).2 ge144))⟩) all_no))
  refine qs A rfl (d_appendR (l := [(Rw.mk y50.1 (Ins.mk 3 0 0 0 0 0 0 0 0 y50.2 false false false 0 0 0 false) (.slice (some ⟨g116, 0, none⟩) 2 2) [4, 3]), (Rw.mk y50.1 (Ins.mk 3 0 0 0 0 0 0 0 0 y50.2 false false false 0 0 0 false) (.slice (some ⟨g139, 0, none⟩) 2 2) [4, 5])]) (wn rfl) (A.ev rfl) (A.ev rfl) elm54 hMg177.own (own_gen (λ _ => rfl) (own_lit m162 rfl rfl (by decide))) (by simp) (λ r hr => pt_one (hps178 r hr)) (by omega) (nb_ rfl) (by decide) (nt_ b42.size b174.size) λ v179 w180 ho181 hg182 hl183=>?_)
  have b184 : Below w.heap.size w w180 := below_by (bls b42 b174) hg182 (nt_ b42.size b174.size) (λ k hk => (own_lt hM43.own k hk).1)
  have hpg185 : ∀ r ∈ ([(Rw.mk y50.1 (Ins.mk 3 0 0 0 0 0 0 0 0 y50.2 false false false 0 0 0 false) (.slice (some ⟨g116, 0, none⟩) 2 2) [4, 3]), (Rw.mk y50.1 (Ins.mk 3 0 0 0 0 0 0 0 0 y50.2 false false false 0 0 0 false) (.slice (some ⟨g139, 0, none⟩) 2 2) [4, 5])] : List Rw), ∀ b, r.pv.ownBlock = some b → w.heap.size ≤ b := (all_one (λ b hb => by cases hb; exact nt_ b42.size ge121) (all_one (λ b hb => by cases hb; exact nt_ b42.size ge144) all_no))
  intro _ A
  refine Z 1 A rfl λ A=>qe_<|i_norm<|tn_<|wr_<|B2 A rfl (b_addE (n37 + 1) (by omega) (by omega)) λ A=>Z 1 A rfl λ A=>qt_ ?_
  have hgt : ((aluT.take (n37 + 1)).flatMap compX) = ((aluT.take n37).flatMap compX) ++ compX y50 := by rw [List.take_add_one, hy51, List.flatMap_append]; simp
  exact ⟨5 - (n37 + 1), (by rw [hm40]; omega), n37 + 1, (ws38 ++ [(Rw.mk y50.1 (Ins.mk 3 0 0 0 0 0 0 0 0 y50.2 false false false 0 0 0 false) (.slice (some ⟨g116, 0, none⟩) 2 2) [4, 3]), (Rw.mk y50.1 (Ins.mk 3 0 0 0 0 0 0 0 0 y50.2 false false false 0 0 0 false) (.slice (some ⟨g139, 0, none⟩) 2 2) [4, 5])]), v179, rfl, by omega, lies_ne hl183 hj2 m169.lt, (λ r hr => by rcases List.mem_append.1 hr with h | h; exact hjp r h; exact hpg185 r h), (by rw [hgt]; exact Made.snoc (u := v179) (B' := 0) (hM43.grow b174) rfl hps178 ho181 hg182 hl183), (by rw [List.length_append]; show _ + 2 ≤ _; omega), A.sub rfl, b184, m169.by hg182 hj2⟩
 have hq194 := df_ hb46
 refine B2 A rfl (bl hb46) λ A=>qt_<|ws_<|cf_ A rfl<|wp_exit<|t_exit<|t_exit ?_
 have b197 := bls b42 b45
 refine i_here<|tn_<|sw_<|Z 2 A rfl λ A=>qt_<|we_<|ret1 rfl A (v := v39) rfl ?_
 have hn : n37 = 5 := by omega
 subst hn
 exact ⟨_, ws38, rfl, hM43.grow b45, hjp, b197⟩
theorem ent56 : Ent Tryz.prog 56 = FF := by kernel_rfl
theorem ent57 : Ent Tryz.prog 57 = FF := by kernel_rfl
theorem places56 : placesOf Tryz.prog 56 = some [(0, 8), (8, 4), (12, 1), (13, 3), (16, 1)] := by kernel_rfl
theorem zero56 : (Tryz.prog.info? 56).map (λ i => (i.zero, i.size)) = some (some (.agg #[.string (S []), .string (S []), .string (S []), .string (S []), .string (S []), .string (S []), .string (S []), .string (S []), .string (S []), .string (S []), .string (S []), .string (S []), .string (S []), .string (S []), .string (S []), .string (S []), .slice none 0 0]), 17) := by kernel_rfl
def x86L (rv : Value) (rows : List Rw) : Lg := ⟨[82, 65, 88], [82, 66, 88], [82, 67, 88], [82, 68, 88], [82, 83, 73], [82, 68, 73], [82, 56], [82, 57], [66], [87], [76], [81], [36], [], [], [], rv, rows⟩
def x86T : List Tm := aluT.flatMap compX ++ othX
theorem lg_one {g : Lg} {n : Nat} (h : ∃ ao cap, g.rv = .slice ao n cap) : (lgC g).toList.all (·.oneCell') = true := by
 obtain ⟨ao, cap, hv⟩ := h
 simp [lgC, hv, Value.oneCell']
theorem tab_made {w : World} {v : Value} {B : Nat} {rows : List Rw} {T : List Tm} {lg : Lg} (h : Made w B v rows T 105 109) (hv : lg.rv = v) (hr : lg.rows = rows) (hT : T.length ≤ 1000) (hP : ∀ x ∈ T, x.2.2.length ≤ 1000) : TabOK w.heap.size w lg := by
 subst hv; subst hr
 refine ⟨own_gen (λ _ => rfl) h.own, λ r hr => (h.parts r hr).sl, ?_, λ r hr => ?_⟩
 ·have := congrArg List.length h.says
  rw [List.length_map] at this; omega
 ·exact hP (tmpl r) (by rw [← h.says]; exact List.mem_map_of_mem hr)
theorem Made.upd {w w' : World} {B g : Nat} {v : Value} {rows : List Rw} {T : List Tm} {te tp : TypeId} (h : Made w B v rows T te tp) (hu : Upd g w w') (hv : v.ownBlock ≠ some g) (hp : ∀ r ∈ rows, ∀ b, r.pv.ownBlock = some b → b ≠ g) : Made w' B v rows T te tp :=
 ⟨h.says, own_upd h.own hu hv, λ r hr => (h.parts r hr).upd hu (hp r hr)⟩
theorem xlang_any  (w : World) : Calls Tryz.prog 26 #[] w λ e w' => ∃ rv rows, e = .returned (.agg (lgC (x86L rv rows))) ∧ rows.map tmpl = x86T ∧ TabOK w'.heap.size w' (x86L rv rows) ∧ Grow w w' := by
 have b0 := Grow.refl w
 refine enter (n := 7) Tryz.func26 rfl rfl (nb_ rfl) λ _ A=>sw_<|qs A rfl (dal (wn rfl) zero56 λ g3 w4 eg5 hG6 (m7 : Blk w4 g3 #[.string (S []), .string (S []), .string (S []), .string (S []), .string (S []), .string (S []), .string (S []), .string (S []), .string (S []), .string (S []), .string (S []), .string (S []), .string (S []), .string (S []), .string (S []), .string (S []), .slice none 0 0] 56)=>?_)
 have ge8 : w.heap.size ≤ g3 := eg5 ▸ b0.size
 have b9 := bls b0 hG6
 intro _ A
 refine qt_<|sw_<|C A rfl ent41 (registers_any w4) ?_
 rintro e15 w12 ⟨he14, hG13⟩
 have m16 := m7.grow hG13
 have b17 := bls b9 hG13
 refine ⟨(.agg regsA), he14, λ _ A=>qs A rfl (d_buildA (cs := #[.string (S [66]), .string (S [87]), .string (S [76]), .string (S [81])]) (wn rfl) (bp_of (bq_cons (A.ev rfl) (bq_cons (A.ev rfl) (bq_cons (A.ev rfl) (bq_cons (A.ev rfl) bq_nil))))) (by kernel_rfl) λ _ A=>C A rfl ent56 (xcomp_any w12) ?_)⟩
 rintro e25 w22 ⟨v26, rows27, he24, hM28, hpg29, hG23⟩
 have m30 := m16.grow hG23
 have b31 := bls b17 hG23
 refine ⟨v26, he24, λ _ A=>C A rfl ent57 (xothers_any w22) ?_⟩
 rintro e37 w34 ⟨v38, rows39, he36, hM40, hpg41, hG35⟩
 have m42 := m30.grow hG35
 have b43 := bls b31 hG35
 have hM44 := hM28.grow hG35
 have hG45 := Grow.trans hG23 hG35
 refine ⟨v38, he36, λ _ A=>?_⟩
 have hol : rows39.length = 10 := by have := congrArg List.length hM40.says; simpa [othX] using this
 have hcl : rows27.length = 10 := by have := congrArg List.length hM44.says; simpa [compX, aluT] using this
 have hps : ∀ r ∈ rows39, PtOK w34 v26 r 109 := λ r hr => (hM40.parts r hr).re (λ b hb e => by have h1 := hpg41 r hr b hb; have h2 := (own_lt hM28.own _ e).2; omega)
 refine qs A rfl (d_appendR (l := rows39) (wn rfl) (A.ev rfl) (A.ev rfl) elm54 hM44.own (own_gen (λ _ => rfl) hM40.own) (by intro h; rw [h] at hol; cases hol) (λ r hr => pt_one (hps r hr)) (by omega) (by omega) (by decide) hG45.size λ v48 w49 ho50 hg51 hl52=>?_)
 have b53 := below_by b43 hg51 b43.size (λ k hk => nt_ b17.size (own_lt hM44.own k hk).1)
 have hge : ∀ r ∈ rows27 ++ rows39, ∀ b, r.pv.ownBlock = some b → w12.heap.size ≤ b := λ r hr b hb => by rcases List.mem_append.1 hr with h | h; exact hpg29 r h b hb; exact nt_ hG23.size (hpg41 r h b hb)
 have hMM := Made.snoc (u := v48) (B' := 0) hM44 hM40.says hps ho50 hg51 hl52
 have m54 := m42.by hg51 (λ e => ni_ _ (Nat.lt_of_lt_of_le m16.lt (own_lt hM28.own _ e).1))
 intro _ A
 obtain ⟨ao1, cap1, hvf⟩ := own_form hMM.own
 refine qs A rfl (dbd (cs := lgC (x86L v48 (rows27 ++ rows39))) (wn rfl) (bp_of (bq_cons (A.ev rfl) (bq_cons (A.ev rfl) (bq_cons (A.ev rfl) (bq_cons (A.ev rfl) bq_nil))))) zero56 places56 (by rw [hvf]; kernel_rfl) λ _ A=>qs A rfl (dsr (wn rfl) (A.ev rfl) (A.ev rfl) row56 m54 rfl (lg_one (own_form hMM.own)) λ w59 hU60 (m61 : Blk w59 g3 (lgC (x86L v48 (rows27 ++ rows39))) 56)=>?_))
 have b62 := hU60.below b53 ge8
 have hMe := hMM.upd hU60 (λ e => ni_ _ (Nat.lt_of_lt_of_le m16.lt (own_lt hMM.own _ e).1)) (λ r hr b hb e => by have := hge r hr b hb; have := m16.lt; omega)
 intro _ A
 refine qt_<|we_<|retRow (g := g3) (cs := (lgC (x86L v48 (rows27 ++ rows39)))) rfl A rfl m61 row56 ?_
 skip
 exact ⟨v48, (rows27 ++ rows39), rfl, hMM.says, tab_made (lg := x86L v48 (rows27 ++ rows39)) hMe rfl rfl (by decide) (by decide), b62⟩
end Go.Proofs.YtjkbjjlfijhbdaaGreatDoor
namespace Go.Proofs.YtjkbjjlfijhbdaaGreatDoor
set_option linter.defProp false
set_option maxHeartbeats 4000000
set_option maxRecDepth 100000
set_option linter.unusedVariables false
set_option linter.unusedSimpArgs false
def nilV : Value := .slice none 0 0
def canR (r : Rw) : Rw := { r with pv := nilV }
def mkR (x : Tm) : Rw := ⟨x.1, x.2.1, nilV, x.2.2⟩
theorem canon {rows : List Rw} {T : List Tm} (h : rows.map tmpl = T) : rows.map canR = T.map mkR := by
 rw [← h, List.map_map]; rfl
theorem rowF_canon (f : Value → List Rw → Lg) (hf : ∀ v l, (f v l).rows = l) (rv : Value) (rows : List Rw) (i : Ins) : rowF (f nilV (rows.map canR)) i = (rowF (f rv rows) i).map canR := by
 unfold rowF
 rw [hf, hf, List.find?_map]
 rfl
theorem with_keeps (i : Ins) : ∀ (ps : List Int) (j : Ins), (ps.foldl (wStep i) j).op = j.op ∧ (ps.foldl (wStep i) j).fn = j.fn ∧ (ps.foldl (wStep i) j).acq = j.acq ∧ (ps.foldl (wStep i) j).weak = j.weak ∧ (ps.foldl (wStep i) j).rel = j.rel ∧ (ps.foldl (wStep i) j).zero = j.zero
 | [], j => ⟨rfl, rfl, rfl, rfl, rfl, rfl⟩
 | p :: ps, j => by
  rw [List.foldl_cons]
  obtain ⟨h1, h2, h3, h4, h5, h6⟩ := with_keeps i ps (wStep i j p)
  have key : (wStep i j p).op = j.op ∧ (wStep i j p).fn = j.fn ∧ (wStep i j p).acq = j.acq ∧ (wStep i j p).weak = j.weak ∧ (wStep i j p).rel = j.rel ∧ (wStep i j p).zero = j.zero := by
   unfold wStep
   (repeat' split) <;> exact ⟨rfl, rfl, rfl, rfl, rfl, rfl⟩
  obtain ⟨k1, k2, k3, k4, k5, k6⟩ := key
  exact ⟨h1.trans k1, h2.trans k2, h3.trans k3, h4.trans k4, h5.trans k5, h6.trans k6⟩
theorem fitr_keeps {i : Ins} {r : Rw} (h : fitsR i r = true) : r.ins.op = i.op ∧ r.ins.fn = i.fn ∧ r.ins.acq = i.acq ∧ r.ins.weak = i.weak ∧ r.ins.rel = i.rel ∧ r.ins.zero = i.zero := by
 unfold fitsR insEq at h
 rw [Bool.and_eq_true, decide_eq_true_eq] at h
 have := with_keeps i r.parts (bare0 r.ins)
 have e : r.parts.foldl (wStep i) (bare0 r.ins) = i := h.1
 rw [e] at this
 obtain ⟨h1, h2, h3, h4, h5, h6⟩ := this
 exact ⟨h1.symm, h2.symm, h3.symm, h4.symm, h5.symm, h6.symm⟩
theorem fitr_no {i : Ins} {r : Rw} (h : ¬ (r.ins.op = i.op ∧ r.ins.fn = i.fn ∧ r.ins.acq = i.acq ∧ r.ins.weak = i.weak ∧ r.ins.rel = i.rel ∧ r.ins.zero = i.zero)) : fitsR i r = false := by
 cases hh : fitsR i r
 ·rfl
 ·exact absurd (fitr_keeps hh) h
theorem fitr_yes {i : Ins} {r : Rw} (h : withR r i = i) (hs : showsR r i = true) : fitsR i r = true := by
 unfold fitsR insEq; rw [h, hs]; simp
theorem fitr_ne {i : Ins} {r : Rw} (h : withR r i ≠ i) : fitsR i r = false := by
 unfold fitsR insEq; simp [h]
theorem fitr_hides {i : Ins} {r : Rw} (h : showsR r i = false) : fitsR i r = false := by
 unfold fitsR; rw [h, Bool.and_false]
theorem reg_rng {r : Int} (h : regB r = true) : 0 ≤ r ∧ r < 8 := by
 unfold regB at h; simpa using h
theorem ron_rng {r : Int} (h : ronB r = true) : r = -1 ∨ (0 ≤ r ∧ r < 8) := by
 unfold ronB at h
 rw [Bool.or_eq_true] at h
 rcases h with h | h
 ·exact .inl (eq_of_beq h)
 ·exact .inr (reg_rng h)
theorem plain_of {i : Ins} (h : wrongB i = false) : i = plainF i ∧ soundB i = true := by
 rw [wrong_is] at h
 have h2 : (insEq i (plainF i) && soundB i) = true := by simpa using h
 rw [Bool.and_eq_true] at h2
 exact ⟨of_decide_eq_true h2.1, h2.2⟩
theorem mask_size {o n : Int} (h : (maskR o n == 0) = false) : n = 1 ∨ n = 2 ∨ n = 4 ∨ n = 8 := by
 cases hf : fitsB o n
 ·rw [maskR_no hf] at h; cases h
 ·obtain ⟨o', k, _, rfl, hk, _⟩ := fits_yes hf
  omega
theorem acc_all {i : Ins} (h : accB i = true) : (0 ≤ i.loc ∧ i.loc ≤ 2) ∧ (i.index = -1 ∨ (0 ≤ i.index ∧ i.index < 8)) ∧ (i.size = 1 ∨ i.size = 2 ∨ i.size = 4 ∨ i.size = 8) := by
 unfold accB at h
 simp only [Bool.and_eq_true, decide_eq_true_eq, Bool.not_eq_true'] at h
 obtain ⟨⟨⟨h1, h2⟩, h3⟩, h4⟩ := h
 exact ⟨by omega, ron_rng h3, mask_size h4⟩
def x86C : Lg := x86L nilV (x86T.map mkR)
theorem pr_x86 {rows : List Rw} (rv : Value) (h : rows.map tmpl = x86T) (i : Ins) (lb : List UInt8) : prL (x86L rv rows) i lb = prL x86C i lb := by
 have hc := rowF_canon x86L (fun _ _ => rfl) rv rows i
 rw [canon h] at hc
 have hc2 : rowF x86C i = (rowF (x86L rv rows) i).map canR := hc
 unfold prL
 rw [hc2]
 cases hr : rowF (x86L rv rows) i with
 | none => rfl
 | some r => rfl
theorem nameL_x (r : Int) : nameL x86C r = nameF r := by
 by_cases h1 : r < 0
 ·rw [nameL_neg h1, name_neg h1]
 ·by_cases h2 : r > 7
  ·rw [nameL_big h2, name_big h2]
  ·unfold nameL nameF; rw [if_neg (by omega), if_neg h1]; rfl
theorem memL_x {i : Ins} (h : i.index = -1 ∨ (0 ≤ i.index ∧ i.index < 8)) : memL x86C i i.loc.toNat = memT i := by
 have hi : (i.index == -1) = !decide (i.index ≥ 0) := by
  rcases h with h | h
  ·rw [h]; rfl
  ·rw [decide_eq_true (by omega : i.index ≥ 0)]; exact beq_eq_false_iff_ne.2 (by omega)
 unfold memL memT
 simp only [nameL_x, hi]
 cases (i.off == 0) <;> cases decide (i.index ≥ 0) <;> simp [List.append_assoc]
theorem join2 (a b : List UInt8) : Lib.join [a, b] [44] = a ++ [44] ++ b := by simp [Lib.join, List.intercalate]
theorem pr_row {i : Ins} {lb : List UInt8} {r : Rw} (hw : wrongB i = false) (hr : rowF x86C i = some r) (p q : Int) (hp : r.parts = [p, q]) : prL x86C i lb = if (i.op == 9) = true then (if isNm lb = true then (nameR x86C r i.size ++ [32] ++ (opndR x86C p i lb ++ [44] ++ opndR x86C q i lb), 0) else ([], 37)) else (nameR x86C r i.size ++ [32] ++ (opndR x86C p i lb ++ [44] ++ opndR x86C q i lb), 0) := by
 unfold prL
 rw [hw, hr]
 simp only [hp, List.map_cons, List.map_nil, join2, Bool.false_eq_true, if_false]
 rfl
theorem pr_none {i : Ins} {lb : List UInt8} (hw : wrongB i = false) (hr : rowF x86C i = none) : prL x86C i lb = ([], 36) := by
 unfold prL
 rw [hw, hr]
 simp only [Bool.false_eq_true, if_false]
theorem prR_is (i : Ins) (lb : List UInt8) : prR i lb = if wrongB i = true then ([], 34) else if eqL (txtT i lb) [] = true then ([], 36) else if (i.op == 9) = true then (if isNm lb = true then (txtT i lb, 0) else ([], 37)) else (txtT i lb, 0) := by
 have h := wrong_asb i
 unfold prR
 cases ho : (i.op == 9)
 ·rw [asb_no ho] at h
  simp only [h, Bool.false_eq_true, if_false]
  cases wrongB i <;> simp
 ·have e : asB i = Ins.mk i.op i.dst i.a i.b i.imm i.loc i.off i.index i.size i.fn i.acq i.weak i.rel i.pred i.succ 1 i.zero := asb_yes ho
  rw [e] at h
  simp only [h, if_true]
  cases wrongB i <;> simp
theorem both {i : Ins} {lb t : List UInt8} (hw : wrongB i = false) (ht : txtT i lb = t) (hn : t ≠ []) (hp : prL x86C i lb = if (i.op == 9) = true then (if isNm lb = true then (t, 0) else ([], 37)) else (t, 0)) : prL x86C i lb = prR i lb := by
 rw [hp, prR_is, hw, ht, eqL_no hn]
 simp only [Bool.false_eq_true, if_false]
theorem neither {i : Ins} {lb : List UInt8} (hw : wrongB i = false) (ht : txtT i lb = []) (hr : rowF x86C i = none) : prL x86C i lb = prR i lb := by
 rw [pr_none hw hr, prR_is, hw, ht, eqL_same]
 simp only [Bool.false_eq_true, if_false, if_true]
theorem repl_mov {n : Int} (h : n = 1 ∨ n = 2 ∨ n = 4 ∨ n = 8) (a : Ins) (v : Value) (ps : List Int) : nameR x86C ⟨[77, 79, 86, 42], a, v, ps⟩ n = [77, 79, 86] ++ tlX n := by
 rcases h with rfl | rfl | rfl | rfl
 ·exact (by decide : Lib.replace [77, 79, 86, 42] [42] [66] 1 = [77, 79, 86, 66])
 ·exact (by decide : Lib.replace [77, 79, 86, 42] [42] [87] 1 = [77, 79, 86, 87])
 ·exact (by decide : Lib.replace [77, 79, 86, 42] [42] [76] 1 = [77, 79, 86, 76])
 ·exact (by decide : Lib.replace [77, 79, 86, 42] [42] [81] 1 = [77, 79, 86, 81])
theorem repl_xchg {n : Int} (h : n = 1 ∨ n = 2 ∨ n = 4 ∨ n = 8) (a : Ins) (v : Value) (ps : List Int) : nameR x86C ⟨[88, 67, 72, 71, 42], a, v, ps⟩ n = [88, 67, 72, 71] ++ tlX n := by
 rcases h with rfl | rfl | rfl | rfl
 ·exact (by decide : Lib.replace [88, 67, 72, 71, 42] [42] [66] 1 = [88, 67, 72, 71, 66])
 ·exact (by decide : Lib.replace [88, 67, 72, 71, 42] [42] [87] 1 = [88, 67, 72, 71, 87])
 ·exact (by decide : Lib.replace [88, 67, 72, 71, 42] [42] [76] 1 = [88, 67, 72, 71, 76])
 ·exact (by decide : Lib.replace [88, 67, 72, 71, 42] [42] [81] 1 = [88, 67, 72, 71, 81])
theorem repl_xadd {n : Int} (h : n = 1 ∨ n = 2 ∨ n = 4 ∨ n = 8) (a : Ins) (v : Value) (ps : List Int) : nameR x86C ⟨[88, 65, 68, 68, 42], a, v, ps⟩ n = [88, 65, 68, 68] ++ tlX n := by
 rcases h with rfl | rfl | rfl | rfl
 ·exact (by decide : Lib.replace [88, 65, 68, 68, 42] [42] [66] 1 = [88, 65, 68, 68, 66])
 ·exact (by decide : Lib.replace [88, 65, 68, 68, 42] [42] [87] 1 = [88, 65, 68, 68, 87])
 ·exact (by decide : Lib.replace [88, 65, 68, 68, 42] [42] [76] 1 = [88, 65, 68, 68, 76])
 ·exact (by decide : Lib.replace [88, 65, 68, 68, 42] [42] [81] 1 = [88, 65, 68, 68, 81])
theorem name_zero (r : Rw) : nameR x86C r 0 = r.name := rfl
theorem rows_x : x86C.rows = [(⟨[65, 68, 68], ⟨3, 0, 0, 0, 0, 0, 0, 0, 0, 1, false, false, false, 0, 0, 0, false⟩, nilV, [4, 3]⟩ : Rw), (⟨[65, 68, 68], ⟨3, 0, 0, 0, 0, 0, 0, 0, 0, 1, false, false, false, 0, 0, 0, false⟩, nilV, [4, 5]⟩ : Rw), (⟨[83, 85, 66], ⟨3, 0, 0, 0, 0, 0, 0, 0, 0, 2, false, false, false, 0, 0, 0, false⟩, nilV, [4, 3]⟩ : Rw), (⟨[83, 85, 66], ⟨3, 0, 0, 0, 0, 0, 0, 0, 0, 2, false, false, false, 0, 0, 0, false⟩, nilV, [4, 5]⟩ : Rw), (⟨[88, 79, 82], ⟨3, 0, 0, 0, 0, 0, 0, 0, 0, 3, false, false, false, 0, 0, 0, false⟩, nilV, [4, 3]⟩ : Rw), (⟨[88, 79, 82], ⟨3, 0, 0, 0, 0, 0, 0, 0, 0, 3, false, false, false, 0, 0, 0, false⟩, nilV, [4, 5]⟩ : Rw), (⟨[65, 78, 68], ⟨3, 0, 0, 0, 0, 0, 0, 0, 0, 4, false, false, false, 0, 0, 0, false⟩, nilV, [4, 3]⟩ : Rw), (⟨[65, 78, 68], ⟨3, 0, 0, 0, 0, 0, 0, 0, 0, 4, false, false, false, 0, 0, 0, false⟩, nilV, [4, 5]⟩ : Rw), (⟨[79, 82], ⟨3, 0, 0, 0, 0, 0, 0, 0, 0, 5, false, false, false, 0, 0, 0, false⟩, nilV, [4, 3]⟩ : Rw), (⟨[79, 82], ⟨3, 0, 0, 0, 0, 0, 0, 0, 0, 5, false, false, false, 0, 0, 0, false⟩, nilV, [4, 5]⟩ : Rw), (⟨[77, 79, 86], ⟨1, 0, 0, 0, 0, 0, 0, 0, 0, 0, false, false, false, 0, 0, 0, false⟩, nilV, [1, 5]⟩ : Rw), (⟨[77, 79, 86], ⟨2, 0, 0, 0, 0, 0, 0, 0, 0, 0, false, false, false, 0, 0, 0, false⟩, nilV, [1, 2]⟩ : Rw), (⟨[77, 79, 86, 42], ⟨4, 0, 0, 0, 0, 0, 0, 0, 0, 0, false, false, false, 0, 0, 0, false⟩, nilV, [1, 6]⟩ : Rw), (⟨[77, 79, 86, 42], ⟨5, 0, 0, 0, 0, 0, 0, 0, 0, 0, false, false, false, 0, 0, 0, false⟩, nilV, [6, 2]⟩ : Rw), (⟨[77, 79, 86, 42], ⟨5, 0, 0, 0, 0, 0, 0, 0, 0, 0, false, false, false, 0, 0, 0, false⟩, nilV, [6, 5]⟩ : Rw), (⟨[88, 67, 72, 71, 42], ⟨6, 0, 0, 0, 0, 0, 0, 0, 0, 6, true, false, true, 0, 0, 0, false⟩, nilV, [4, 6]⟩ : Rw), (⟨[88, 65, 68, 68, 42], ⟨6, 0, 0, 0, 0, 0, 0, 0, 0, 1, true, false, true, 0, 0, 0, false⟩, nilV, [6, 4]⟩ : Rw), (⟨[77, 70, 69, 78, 67, 69], ⟨7, 0, 0, 0, 0, 0, 0, 0, 0, 0, false, false, false, 3, 3, 0, false⟩, nilV, []⟩ : Rw), (⟨[74, 90], ⟨9, 0, 0, 0, 0, 0, 0, 0, 0, 0, false, false, false, 0, 0, 0, true⟩, nilV, [2, 7]⟩ : Rw), (⟨[74, 78, 90], ⟨9, 0, 0, 0, 0, 0, 0, 0, 0, 0, false, false, false, 0, 0, 0, false⟩, nilV, [2, 7]⟩ : Rw)] := rfl
theorem find_skip {i : Ins} {r : Rw} {l : List Rw} (h : fitsR i r = false) : (r :: l).find? (fitsR i) = l.find? (fitsR i) := by rw [List.find?_cons, h]
theorem find_take {i : Ins} {r : Rw} {l : List Rw} (h : fitsR i r = true) : (r :: l).find? (fitsR i) = some r := by rw [List.find?_cons, h]
theorem find_1 {i : Ins} (ho : i.op = 1) : rowF x86C i = [(⟨[77, 79, 86], ⟨1, 0, 0, 0, 0, 0, 0, 0, 0, 0, false, false, false, 0, 0, 0, false⟩, nilV, [1, 5]⟩ : Rw)].find? (fitsR i) := by
 unfold rowF
 rw [rows_x]
 have hop : ∀ r : Rw, r.ins.op ≠ i.op → fitsR i r = false := fun r h => fitr_no fun hh => h hh.1
 rw [ho] at hop
 simp only [List.find?_cons, List.find?_nil, hop (⟨[65, 68, 68], ⟨3, 0, 0, 0, 0, 0, 0, 0, 0, 1, false, false, false, 0, 0, 0, false⟩, nilV, [4, 3]⟩ : Rw) (by decide), hop (⟨[65, 68, 68], ⟨3, 0, 0, 0, 0, 0, 0, 0, 0, 1, false, false, false, 0, 0, 0, false⟩, nilV, [4, 5]⟩ : Rw) (by decide), hop (⟨[83, 85, 66], ⟨3, 0, 0, 0, 0, 0, 0, 0, 0, 2, false, false, false, 0, 0, 0, false⟩, nilV, [4, 3]⟩ : Rw) (by decide), hop (⟨[83, 85, 66], ⟨3, 0, 0, 0, 0, 0, 0, 0, 0, 2, false, false, false, 0, 0, 0, false⟩, nilV, [4, 5]⟩ : Rw) (by decide), hop (⟨[88, 79, 82], ⟨3, 0, 0, 0, 0, 0, 0, 0, 0, 3, false, false, false, 0, 0, 0, false⟩, nilV, [4, 3]⟩ : Rw) (by decide), hop (⟨[88, 79, 82], ⟨3, 0, 0, 0, 0, 0, 0, 0, 0, 3, false, false, false, 0, 0, 0, false⟩, nilV, [4, 5]⟩ : Rw) (by decide), hop (⟨[65, 78, 68], ⟨3, 0, 0, 0, 0, 0, 0, 0, 0, 4, false, false, false, 0, 0, 0, false⟩, nilV, [4, 3]⟩ : Rw) (by decide), hop (⟨[65, 78, 68], ⟨3, 0, 0, 0, 0, 0, 0, 0, 0, 4, false, false, false, 0, 0, 0, false⟩, nilV, [4, 5]⟩ : Rw) (by decide), hop (⟨[79, 82], ⟨3, 0, 0, 0, 0, 0, 0, 0, 0, 5, false, false, false, 0, 0, 0, false⟩, nilV, [4, 3]⟩ : Rw) (by decide), hop (⟨[79, 82], ⟨3, 0, 0, 0, 0, 0, 0, 0, 0, 5, false, false, false, 0, 0, 0, false⟩, nilV, [4, 5]⟩ : Rw) (by decide), hop (⟨[77, 79, 86], ⟨2, 0, 0, 0, 0, 0, 0, 0, 0, 0, false, false, false, 0, 0, 0, false⟩, nilV, [1, 2]⟩ : Rw) (by decide), hop (⟨[77, 79, 86, 42], ⟨4, 0, 0, 0, 0, 0, 0, 0, 0, 0, false, false, false, 0, 0, 0, false⟩, nilV, [1, 6]⟩ : Rw) (by decide), hop (⟨[77, 79, 86, 42], ⟨5, 0, 0, 0, 0, 0, 0, 0, 0, 0, false, false, false, 0, 0, 0, false⟩, nilV, [6, 2]⟩ : Rw) (by decide), hop (⟨[77, 79, 86, 42], ⟨5, 0, 0, 0, 0, 0, 0, 0, 0, 0, false, false, false, 0, 0, 0, false⟩, nilV, [6, 5]⟩ : Rw) (by decide), hop (⟨[88, 67, 72, 71, 42], ⟨6, 0, 0, 0, 0, 0, 0, 0, 0, 6, true, false, true, 0, 0, 0, false⟩, nilV, [4, 6]⟩ : Rw) (by decide), hop (⟨[88, 65, 68, 68, 42], ⟨6, 0, 0, 0, 0, 0, 0, 0, 0, 1, true, false, true, 0, 0, 0, false⟩, nilV, [6, 4]⟩ : Rw) (by decide), hop (⟨[77, 70, 69, 78, 67, 69], ⟨7, 0, 0, 0, 0, 0, 0, 0, 0, 0, false, false, false, 3, 3, 0, false⟩, nilV, []⟩ : Rw) (by decide), hop (⟨[74, 90], ⟨9, 0, 0, 0, 0, 0, 0, 0, 0, 0, false, false, false, 0, 0, 0, true⟩, nilV, [2, 7]⟩ : Rw) (by decide), hop (⟨[74, 78, 90], ⟨9, 0, 0, 0, 0, 0, 0, 0, 0, 0, false, false, false, 0, 0, 0, false⟩, nilV, [2, 7]⟩ : Rw) (by decide)]
theorem find_2 {i : Ins} (ho : i.op = 2) : rowF x86C i = [(⟨[77, 79, 86], ⟨2, 0, 0, 0, 0, 0, 0, 0, 0, 0, false, false, false, 0, 0, 0, false⟩, nilV, [1, 2]⟩ : Rw)].find? (fitsR i) := by
 unfold rowF
 rw [rows_x]
 have hop : ∀ r : Rw, r.ins.op ≠ i.op → fitsR i r = false := fun r h => fitr_no fun hh => h hh.1
 rw [ho] at hop
 simp only [List.find?_cons, List.find?_nil, hop (⟨[65, 68, 68], ⟨3, 0, 0, 0, 0, 0, 0, 0, 0, 1, false, false, false, 0, 0, 0, false⟩, nilV, [4, 3]⟩ : Rw) (by decide), hop (⟨[65, 68, 68], ⟨3, 0, 0, 0, 0, 0, 0, 0, 0, 1, false, false, false, 0, 0, 0, false⟩, nilV, [4, 5]⟩ : Rw) (by decide), hop (⟨[83, 85, 66], ⟨3, 0, 0, 0, 0, 0, 0, 0, 0, 2, false, false, false, 0, 0, 0, false⟩, nilV, [4, 3]⟩ : Rw) (by decide), hop (⟨[83, 85, 66], ⟨3, 0, 0, 0, 0, 0, 0, 0, 0, 2, false, false, false, 0, 0, 0, false⟩, nilV, [4, 5]⟩ : Rw) (by decide), hop (⟨[88, 79, 82], ⟨3, 0, 0, 0, 0, 0, 0, 0, 0, 3, false, false, false, 0, 0, 0, false⟩, nilV, [4, 3]⟩ : Rw) (by decide), hop (⟨[88, 79, 82], ⟨3, 0, 0, 0, 0, 0, 0, 0, 0, 3, false, false, false, 0, 0, 0, false⟩, nilV, [4, 5]⟩ : Rw) (by decide), hop (⟨[65, 78, 68], ⟨3, 0, 0, 0, 0, 0, 0, 0, 0, 4, false, false, false, 0, 0, 0, false⟩, nilV, [4, 3]⟩ : Rw) (by decide), hop (⟨[65, 78, 68], ⟨3, 0, 0, 0, 0, 0, 0, 0, 0, 4, false, false, false, 0, 0, 0, false⟩, nilV, [4, 5]⟩ : Rw) (by decide), hop (⟨[79, 82], ⟨3, 0, 0, 0, 0, 0, 0, 0, 0, 5, false, false, false, 0, 0, 0, false⟩, nilV, [4, 3]⟩ : Rw) (by decide), hop (⟨[79, 82], ⟨3, 0, 0, 0, 0, 0, 0, 0, 0, 5, false, false, false, 0, 0, 0, false⟩, nilV, [4, 5]⟩ : Rw) (by decide), hop (⟨[77, 79, 86], ⟨1, 0, 0, 0, 0, 0, 0, 0, 0, 0, false, false, false, 0, 0, 0, false⟩, nilV, [1, 5]⟩ : Rw) (by decide), hop (⟨[77, 79, 86, 42], ⟨4, 0, 0, 0, 0, 0, 0, 0, 0, 0, false, false, false, 0, 0, 0, false⟩, nilV, [1, 6]⟩ : Rw) (by decide), hop (⟨[77, 79, 86, 42], ⟨5, 0, 0, 0, 0, 0, 0, 0, 0, 0, false, false, false, 0, 0, 0, false⟩, nilV, [6, 2]⟩ : Rw) (by decide), hop (⟨[77, 79, 86, 42], ⟨5, 0, 0, 0, 0, 0, 0, 0, 0, 0, false, false, false, 0, 0, 0, false⟩, nilV, [6, 5]⟩ : Rw) (by decide), hop (⟨[88, 67, 72, 71, 42], ⟨6, 0, 0, 0, 0, 0, 0, 0, 0, 6, true, false, true, 0, 0, 0, false⟩, nilV, [4, 6]⟩ : Rw) (by decide), hop (⟨[88, 65, 68, 68, 42], ⟨6, 0, 0, 0, 0, 0, 0, 0, 0, 1, true, false, true, 0, 0, 0, false⟩, nilV, [6, 4]⟩ : Rw) (by decide), hop (⟨[77, 70, 69, 78, 67, 69], ⟨7, 0, 0, 0, 0, 0, 0, 0, 0, 0, false, false, false, 3, 3, 0, false⟩, nilV, []⟩ : Rw) (by decide), hop (⟨[74, 90], ⟨9, 0, 0, 0, 0, 0, 0, 0, 0, 0, false, false, false, 0, 0, 0, true⟩, nilV, [2, 7]⟩ : Rw) (by decide), hop (⟨[74, 78, 90], ⟨9, 0, 0, 0, 0, 0, 0, 0, 0, 0, false, false, false, 0, 0, 0, false⟩, nilV, [2, 7]⟩ : Rw) (by decide)]
theorem find_3 {i : Ins} (ho : i.op = 3) : rowF x86C i = [(⟨[65, 68, 68], ⟨3, 0, 0, 0, 0, 0, 0, 0, 0, 1, false, false, false, 0, 0, 0, false⟩, nilV, [4, 3]⟩ : Rw), (⟨[65, 68, 68], ⟨3, 0, 0, 0, 0, 0, 0, 0, 0, 1, false, false, false, 0, 0, 0, false⟩, nilV, [4, 5]⟩ : Rw), (⟨[83, 85, 66], ⟨3, 0, 0, 0, 0, 0, 0, 0, 0, 2, false, false, false, 0, 0, 0, false⟩, nilV, [4, 3]⟩ : Rw), (⟨[83, 85, 66], ⟨3, 0, 0, 0, 0, 0, 0, 0, 0, 2, false, false, false, 0, 0, 0, false⟩, nilV, [4, 5]⟩ : Rw), (⟨[88, 79, 82], ⟨3, 0, 0, 0, 0, 0, 0, 0, 0, 3, false, false, false, 0, 0, 0, false⟩, nilV, [4, 3]⟩ : Rw), (⟨[88, 79, 82], ⟨3, 0, 0, 0, 0, 0, 0, 0, 0, 3, false, false, false, 0, 0, 0, false⟩, nilV, [4, 5]⟩ : Rw), (⟨[65, 78, 68], ⟨3, 0, 0, 0, 0, 0, 0, 0, 0, 4, false, false, false, 0, 0, 0, false⟩, nilV, [4, 3]⟩ : Rw), (⟨[65, 78, 68], ⟨3, 0, 0, 0, 0, 0, 0, 0, 0, 4, false, false, false, 0, 0, 0, false⟩, nilV, [4, 5]⟩ : Rw), (⟨[79, 82], ⟨3, 0, 0, 0, 0, 0, 0, 0, 0, 5, false, false, false, 0, 0, 0, false⟩, nilV, [4, 3]⟩ : Rw), (⟨[79, 82], ⟨3, 0, 0, 0, 0, 0, 0, 0, 0, 5, false, false, false, 0, 0, 0, false⟩, nilV, [4, 5]⟩ : Rw)].find? (fitsR i) := by
 unfold rowF
 rw [rows_x]
 have hop : ∀ r : Rw, r.ins.op ≠ i.op → fitsR i r = false := fun r h => fitr_no fun hh => h hh.1
 rw [ho] at hop
 simp only [List.find?_cons, List.find?_nil, hop (⟨[77, 79, 86], ⟨1, 0, 0, 0, 0, 0, 0, 0, 0, 0, false, false, false, 0, 0, 0, false⟩, nilV, [1, 5]⟩ : Rw) (by decide), hop (⟨[77, 79, 86], ⟨2, 0, 0, 0, 0, 0, 0, 0, 0, 0, false, false, false, 0, 0, 0, false⟩, nilV, [1, 2]⟩ : Rw) (by decide), hop (⟨[77, 79, 86, 42], ⟨4, 0, 0, 0, 0, 0, 0, 0, 0, 0, false, false, false, 0, 0, 0, false⟩, nilV, [1, 6]⟩ : Rw) (by decide), hop (⟨[77, 79, 86, 42], ⟨5, 0, 0, 0, 0, 0, 0, 0, 0, 0, false, false, false, 0, 0, 0, false⟩, nilV, [6, 2]⟩ : Rw) (by decide), hop (⟨[77, 79, 86, 42], ⟨5, 0, 0, 0, 0, 0, 0, 0, 0, 0, false, false, false, 0, 0, 0, false⟩, nilV, [6, 5]⟩ : Rw) (by decide), hop (⟨[88, 67, 72, 71, 42], ⟨6, 0, 0, 0, 0, 0, 0, 0, 0, 6, true, false, true, 0, 0, 0, false⟩, nilV, [4, 6]⟩ : Rw) (by decide), hop (⟨[88, 65, 68, 68, 42], ⟨6, 0, 0, 0, 0, 0, 0, 0, 0, 1, true, false, true, 0, 0, 0, false⟩, nilV, [6, 4]⟩ : Rw) (by decide), hop (⟨[77, 70, 69, 78, 67, 69], ⟨7, 0, 0, 0, 0, 0, 0, 0, 0, 0, false, false, false, 3, 3, 0, false⟩, nilV, []⟩ : Rw) (by decide), hop (⟨[74, 90], ⟨9, 0, 0, 0, 0, 0, 0, 0, 0, 0, false, false, false, 0, 0, 0, true⟩, nilV, [2, 7]⟩ : Rw) (by decide), hop (⟨[74, 78, 90], ⟨9, 0, 0, 0, 0, 0, 0, 0, 0, 0, false, false, false, 0, 0, 0, false⟩, nilV, [2, 7]⟩ : Rw) (by decide)]
theorem find_4 {i : Ins} (ho : i.op = 4) : rowF x86C i = [(⟨[77, 79, 86, 42], ⟨4, 0, 0, 0, 0, 0, 0, 0, 0, 0, false, false, false, 0, 0, 0, false⟩, nilV, [1, 6]⟩ : Rw)].find? (fitsR i) := by
 unfold rowF
 rw [rows_x]
 have hop : ∀ r : Rw, r.ins.op ≠ i.op → fitsR i r = false := fun r h => fitr_no fun hh => h hh.1
 rw [ho] at hop
 simp only [List.find?_cons, List.find?_nil, hop (⟨[65, 68, 68], ⟨3, 0, 0, 0, 0, 0, 0, 0, 0, 1, false, false, false, 0, 0, 0, false⟩, nilV, [4, 3]⟩ : Rw) (by decide), hop (⟨[65, 68, 68], ⟨3, 0, 0, 0, 0, 0, 0, 0, 0, 1, false, false, false, 0, 0, 0, false⟩, nilV, [4, 5]⟩ : Rw) (by decide), hop (⟨[83, 85, 66], ⟨3, 0, 0, 0, 0, 0, 0, 0, 0, 2, false, false, false, 0, 0, 0, false⟩, nilV, [4, 3]⟩ : Rw) (by decide), hop (⟨[83, 85, 66], ⟨3, 0, 0, 0, 0, 0, 0, 0, 0, 2, false, false, false, 0, 0, 0, false⟩, nilV, [4, 5]⟩ : Rw) (by decide), hop (⟨[88, 79, 82], ⟨3, 0, 0, 0, 0, 0, 0, 0, 0, 3, false, false, false, 0, 0, 0, false⟩, nilV, [4, 3]⟩ : Rw) (by decide), hop (⟨[88, 79, 82], ⟨3, 0, 0, 0, 0, 0, 0, 0, 0, 3, false, false, false, 0, 0, 0, false⟩, nilV, [4, 5]⟩ : Rw) (by decide), hop (⟨[65, 78, 68], ⟨3, 0, 0, 0, 0, 0, 0, 0, 0, 4, false, false, false, 0, 0, 0, false⟩, nilV, [4, 3]⟩ : Rw) (by decide), hop (⟨[65, 78, 68], ⟨3, 0, 0, 0, 0, 0, 0, 0, 0, 4, false, false, false, 0, 0, 0, false⟩, nilV, [4, 5]⟩ : Rw) (by decide), hop (⟨[79, 82], ⟨3, 0, 0, 0, 0, 0, 0, 0, 0, 5, false, false, false, 0, 0, 0, false⟩, nilV, [4, 3]⟩ : Rw) (by decide), hop (⟨[79, 82], ⟨3, 0, 0, 0, 0, 0, 0, 0, 0, 5, false, false, false, 0, 0, 0, false⟩, nilV, [4, 5]⟩ : Rw) (by decide), hop (⟨[77, 79, 86], ⟨1, 0, 0, 0, 0, 0, 0, 0, 0, 0, false, false, false, 0, 0, 0, false⟩, nilV, [1, 5]⟩ : Rw) (by decide), hop (⟨[77, 79, 86], ⟨2, 0, 0, 0, 0, 0, 0, 0, 0, 0, false, false, false, 0, 0, 0, false⟩, nilV, [1, 2]⟩ : Rw) (by decide), hop (⟨[77, 79, 86, 42], ⟨5, 0, 0, 0, 0, 0, 0, 0, 0, 0, false, false, false, 0, 0, 0, false⟩, nilV, [6, 2]⟩ : Rw) (by decide), hop (⟨[77, 79, 86, 42], ⟨5, 0, 0, 0, 0, 0, 0, 0, 0, 0, false, false, false, 0, 0, 0, false⟩, nilV, [6, 5]⟩ : Rw) (by decide), hop (⟨[88, 67, 72, 71, 42], ⟨6, 0, 0, 0, 0, 0, 0, 0, 0, 6, true, false, true, 0, 0, 0, false⟩, nilV, [4, 6]⟩ : Rw) (by decide), hop (⟨[88, 65, 68, 68, 42], ⟨6, 0, 0, 0, 0, 0, 0, 0, 0, 1, true, false, true, 0, 0, 0, false⟩, nilV, [6, 4]⟩ : Rw) (by decide), hop (⟨[77, 70, 69, 78, 67, 69], ⟨7, 0, 0, 0, 0, 0, 0, 0, 0, 0, false, false, false, 3, 3, 0, false⟩, nilV, []⟩ : Rw) (by decide), hop (⟨[74, 90], ⟨9, 0, 0, 0, 0, 0, 0, 0, 0, 0, false, false, false, 0, 0, 0, true⟩, nilV, [2, 7]⟩ : Rw) (by decide), hop (⟨[74, 78, 90], ⟨9, 0, 0, 0, 0, 0, 0, 0, 0, 0, false, false, false, 0, 0, 0, false⟩, nilV, [2, 7]⟩ : Rw) (by decide)]
theorem find_5 {i : Ins} (ho : i.op = 5) : rowF x86C i = [(⟨[77, 79, 86, 42], ⟨5, 0, 0, 0, 0, 0, 0, 0, 0, 0, false, false, false, 0, 0, 0, false⟩, nilV, [6, 2]⟩ : Rw), (⟨[77, 79, 86, 42], ⟨5, 0, 0, 0, 0, 0, 0, 0, 0, 0, false, false, false, 0, 0, 0, false⟩, nilV, [6, 5]⟩ : Rw)].find? (fitsR i) := by
 unfold rowF
 rw [rows_x]
 have hop : ∀ r : Rw, r.ins.op ≠ i.op → fitsR i r = false := fun r h => fitr_no fun hh => h hh.1
 rw [ho] at hop
 simp only [List.find?_cons, List.find?_nil, hop (⟨[65, 68, 68], ⟨3, 0, 0, 0, 0, 0, 0, 0, 0, 1, false, false, false, 0, 0, 0, false⟩, nilV, [4, 3]⟩ : Rw) (by decide), hop (⟨[65, 68, 68], ⟨3, 0, 0, 0, 0, 0, 0, 0, 0, 1, false, false, false, 0, 0, 0, false⟩, nilV, [4, 5]⟩ : Rw) (by decide), hop (⟨[83, 85, 66], ⟨3, 0, 0, 0, 0, 0, 0, 0, 0, 2, false, false, false, 0, 0, 0, false⟩, nilV, [4, 3]⟩ : Rw) (by decide), hop (⟨[83, 85, 66], ⟨3, 0, 0, 0, 0, 0, 0, 0, 0, 2, false, false, false, 0, 0, 0, false⟩, nilV, [4, 5]⟩ : Rw) (by decide), hop (⟨[88, 79, 82], ⟨3, 0, 0, 0, 0, 0, 0, 0, 0, 3, false, false, false, 0, 0, 0, false⟩, nilV, [4, 3]⟩ : Rw) (by decide), hop (⟨[88, 79, 82], ⟨3, 0, 0, 0, 0, 0, 0, 0, 0, 3, false, false, false, 0, 0, 0, false⟩, nilV, [4, 5]⟩ : Rw) (by decide), hop (⟨[65, 78, 68], ⟨3, 0, 0, 0, 0, 0, 0, 0, 0, 4, false, false, false, 0, 0, 0, false⟩, nilV, [4, 3]⟩ : Rw) (by decide), hop (⟨[65, 78, 68], ⟨3, 0, 0, 0, 0, 0, 0, 0, 0, 4, false, false, false, 0, 0, 0, false⟩, nilV, [4, 5]⟩ : Rw) (by decide), hop (⟨[79, 82], ⟨3, 0, 0, 0, 0, 0, 0, 0, 0, 5, false, false, false, 0, 0, 0, false⟩, nilV, [4, 3]⟩ : Rw) (by decide), hop (⟨[79, 82], ⟨3, 0, 0, 0, 0, 0, 0, 0, 0, 5, false, false, false, 0, 0, 0, false⟩, nilV, [4, 5]⟩ : Rw) (by decide), hop (⟨[77, 79, 86], ⟨1, 0, 0, 0, 0, 0, 0, 0, 0, 0, false, false, false, 0, 0, 0, false⟩, nilV, [1, 5]⟩ : Rw) (by decide), hop (⟨[77, 79, 86], ⟨2, 0, 0, 0, 0, 0, 0, 0, 0, 0, false, false, false, 0, 0, 0, false⟩, nilV, [1, 2]⟩ : Rw) (by decide), hop (⟨[77, 79, 86, 42], ⟨4, 0, 0, 0, 0, 0, 0, 0, 0, 0, false, false, false, 0, 0, 0, false⟩, nilV, [1, 6]⟩ : Rw) (by decide), hop (⟨[88, 67, 72, 71, 42], ⟨6, 0, 0, 0, 0, 0, 0, 0, 0, 6, true, false, true, 0, 0, 0, false⟩, nilV, [4, 6]⟩ : Rw) (by decide), hop (⟨[88, 65, 68, 68, 42], ⟨6, 0, 0, 0, 0, 0, 0, 0, 0, 1, true, false, true, 0, 0, 0, false⟩, nilV, [6, 4]⟩ : Rw) (by decide), hop (⟨[77, 70, 69, 78, 67, 69], ⟨7, 0, 0, 0, 0, 0, 0, 0, 0, 0, false, false, false, 3, 3, 0, false⟩, nilV, []⟩ : Rw) (by decide), hop (⟨[74, 90], ⟨9, 0, 0, 0, 0, 0, 0, 0, 0, 0, false, false, false, 0, 0, 0, true⟩, nilV, [2, 7]⟩ : Rw) (by decide), hop (⟨[74, 78, 90], ⟨9, 0, 0, 0, 0, 0, 0, 0, 0, 0, false, false, false, 0, 0, 0, false⟩, nilV, [2, 7]⟩ : Rw) (by decide)]
theorem find_6 {i : Ins} (ho : i.op = 6) : rowF x86C i = [(⟨[88, 67, 72, 71, 42], ⟨6, 0, 0, 0, 0, 0, 0, 0, 0, 6, true, false, true, 0, 0, 0, false⟩, nilV, [4, 6]⟩ : Rw), (⟨[88, 65, 68, 68, 42], ⟨6, 0, 0, 0, 0, 0, 0, 0, 0, 1, true, false, true, 0, 0, 0, false⟩, nilV, [6, 4]⟩ : Rw)].find? (fitsR i) := by
 unfold rowF
 rw [rows_x]
 have hop : ∀ r : Rw, r.ins.op ≠ i.op → fitsR i r = false := fun r h => fitr_no fun hh => h hh.1
 rw [ho] at hop
 simp only [List.find?_cons, List.find?_nil, hop (⟨[65, 68, 68], ⟨3, 0, 0, 0, 0, 0, 0, 0, 0, 1, false, false, false, 0, 0, 0, false⟩, nilV, [4, 3]⟩ : Rw) (by decide), hop (⟨[65, 68, 68], ⟨3, 0, 0, 0, 0, 0, 0, 0, 0, 1, false, false, false, 0, 0, 0, false⟩, nilV, [4, 5]⟩ : Rw) (by decide), hop (⟨[83, 85, 66], ⟨3, 0, 0, 0, 0, 0, 0, 0, 0, 2, false, false, false, 0, 0, 0, false⟩, nilV, [4, 3]⟩ : Rw) (by decide), hop (⟨[83, 85, 66], ⟨3, 0, 0, 0, 0, 0, 0, 0, 0, 2, false, false, false, 0, 0, 0, false⟩, nilV, [4, 5]⟩ : Rw) (by decide), hop (⟨[88, 79, 82], ⟨3, 0, 0, 0, 0, 0, 0, 0, 0, 3, false, false, false, 0, 0, 0, false⟩, nilV, [4, 3]⟩ : Rw) (by decide), hop (⟨[88, 79, 82], ⟨3, 0, 0, 0, 0, 0, 0, 0, 0, 3, false, false, false, 0, 0, 0, false⟩, nilV, [4, 5]⟩ : Rw) (by decide), hop (⟨[65, 78, 68], ⟨3, 0, 0, 0, 0, 0, 0, 0, 0, 4, false, false, false, 0, 0, 0, false⟩, nilV, [4, 3]⟩ : Rw) (by decide), hop (⟨[65, 78, 68], ⟨3, 0, 0, 0, 0, 0, 0, 0, 0, 4, false, false, false, 0, 0, 0, false⟩, nilV, [4, 5]⟩ : Rw) (by decide), hop (⟨[79, 82], ⟨3, 0, 0, 0, 0, 0, 0, 0, 0, 5, false, false, false, 0, 0, 0, false⟩, nilV, [4, 3]⟩ : Rw) (by decide), hop (⟨[79, 82], ⟨3, 0, 0, 0, 0, 0, 0, 0, 0, 5, false, false, false, 0, 0, 0, false⟩, nilV, [4, 5]⟩ : Rw) (by decide), hop (⟨[77, 79, 86], ⟨1, 0, 0, 0, 0, 0, 0, 0, 0, 0, false, false, false, 0, 0, 0, false⟩, nilV, [1, 5]⟩ : Rw) (by decide), hop (⟨[77, 79, 86], ⟨2, 0, 0, 0, 0, 0, 0, 0, 0, 0, false, false, false, 0, 0, 0, false⟩, nilV, [1, 2]⟩ : Rw) (by decide), hop (⟨[77, 79, 86, 42], ⟨4, 0, 0, 0, 0, 0, 0, 0, 0, 0, false, false, false, 0, 0, 0, false⟩, nilV, [1, 6]⟩ : Rw) (by decide), hop (⟨[77, 79, 86, 42], ⟨5, 0, 0, 0, 0, 0, 0, 0, 0, 0, false, false, false, 0, 0, 0, false⟩, nilV, [6, 2]⟩ : Rw) (by decide), hop (⟨[77, 79, 86, 42], ⟨5, 0, 0, 0, 0, 0, 0, 0, 0, 0, false, false, false, 0, 0, 0, false⟩, nilV, [6, 5]⟩ : Rw) (by decide), hop (⟨[77, 70, 69, 78, 67, 69], ⟨7, 0, 0, 0, 0, 0, 0, 0, 0, 0, false, false, false, 3, 3, 0, false⟩, nilV, []⟩ : Rw) (by decide), hop (⟨[74, 90], ⟨9, 0, 0, 0, 0, 0, 0, 0, 0, 0, false, false, false, 0, 0, 0, true⟩, nilV, [2, 7]⟩ : Rw) (by decide), hop (⟨[74, 78, 90], ⟨9, 0, 0, 0, 0, 0, 0, 0, 0, 0, false, false, false, 0, 0, 0, false⟩, nilV, [2, 7]⟩ : Rw) (by decide)]
theorem find_7 {i : Ins} (ho : i.op = 7) : rowF x86C i = [(⟨[77, 70, 69, 78, 67, 69], ⟨7, 0, 0, 0, 0, 0, 0, 0, 0, 0, false, false, false, 3, 3, 0, false⟩, nilV, []⟩ : Rw)].find? (fitsR i) := by
 unfold rowF
 rw [rows_x]
 have hop : ∀ r : Rw, r.ins.op ≠ i.op → fitsR i r = false := fun r h => fitr_no fun hh => h hh.1
 rw [ho] at hop
 simp only [List.find?_cons, List.find?_nil, hop (⟨[65, 68, 68], ⟨3, 0, 0, 0, 0, 0, 0, 0, 0, 1, false, false, false, 0, 0, 0, false⟩, nilV, [4, 3]⟩ : Rw) (by decide), hop (⟨[65, 68, 68], ⟨3, 0, 0, 0, 0, 0, 0, 0, 0, 1, false, false, false, 0, 0, 0, false⟩, nilV, [4, 5]⟩ : Rw) (by decide), hop (⟨[83, 85, 66], ⟨3, 0, 0, 0, 0, 0, 0, 0, 0, 2, false, false, false, 0, 0, 0, false⟩, nilV, [4, 3]⟩ : Rw) (by decide), hop (⟨[83, 85, 66], ⟨3, 0, 0, 0, 0, 0, 0, 0, 0, 2, false, false, false, 0, 0, 0, false⟩, nilV, [4, 5]⟩ : Rw) (by decide), hop (⟨[88, 79, 82], ⟨3, 0, 0, 0, 0, 0, 0, 0, 0, 3, false, false, false, 0, 0, 0, false⟩, nilV, [4, 3]⟩ : Rw) (by decide), hop (⟨[88, 79, 82], ⟨3, 0, 0, 0, 0, 0, 0, 0, 0, 3, false, false, false, 0, 0, 0, false⟩, nilV, [4, 5]⟩ : Rw) (by decide), hop (⟨[65, 78, 68], ⟨3, 0, 0, 0, 0, 0, 0, 0, 0, 4, false, false, false, 0, 0, 0, false⟩, nilV, [4, 3]⟩ : Rw) (by decide), hop (⟨[65, 78, 68], ⟨3, 0, 0, 0, 0, 0, 0, 0, 0, 4, false, false, false, 0, 0, 0, false⟩, nilV, [4, 5]⟩ : Rw) (by decide), hop (⟨[79, 82], ⟨3, 0, 0, 0, 0, 0, 0, 0, 0, 5, false, false, false, 0, 0, 0, false⟩, nilV, [4, 3]⟩ : Rw) (by decide), hop (⟨[79, 82], ⟨3, 0, 0, 0, 0, 0, 0, 0, 0, 5, false, false, false, 0, 0, 0, false⟩, nilV, [4, 5]⟩ : Rw) (by decide), hop (⟨[77, 79, 86], ⟨1, 0, 0, 0, 0, 0, 0, 0, 0, 0, false, false, false, 0, 0, 0, false⟩, nilV, [1, 5]⟩ : Rw) (by decide), hop (⟨[77, 79, 86], ⟨2, 0, 0, 0, 0, 0, 0, 0, 0, 0, false, false, false, 0, 0, 0, false⟩, nilV, [1, 2]⟩ : Rw) (by decide), hop (⟨[77, 79, 86, 42], ⟨4, 0, 0, 0, 0, 0, 0, 0, 0, 0, false, false, false, 0, 0, 0, false⟩, nilV, [1, 6]⟩ : Rw) (by decide), hop (⟨[77, 79, 86, 42], ⟨5, 0, 0, 0, 0, 0, 0, 0, 0, 0, false, false, false, 0, 0, 0, false⟩, nilV, [6, 2]⟩ : Rw) (by decide), hop (⟨[77, 79, 86, 42], ⟨5, 0, 0, 0, 0, 0, 0, 0, 0, 0, false, false, false, 0, 0, 0, false⟩, nilV, [6, 5]⟩ : Rw) (by decide), hop (⟨[88, 67, 72, 71, 42], ⟨6, 0, 0, 0, 0, 0, 0, 0, 0, 6, true, false, true, 0, 0, 0, false⟩, nilV, [4, 6]⟩ : Rw) (by decide), hop (⟨[88, 65, 68, 68, 42], ⟨6, 0, 0, 0, 0, 0, 0, 0, 0, 1, true, false, true, 0, 0, 0, false⟩, nilV, [6, 4]⟩ : Rw) (by decide), hop (⟨[74, 90], ⟨9, 0, 0, 0, 0, 0, 0, 0, 0, 0, false, false, false, 0, 0, 0, true⟩, nilV, [2, 7]⟩ : Rw) (by decide), hop (⟨[74, 78, 90], ⟨9, 0, 0, 0, 0, 0, 0, 0, 0, 0, false, false, false, 0, 0, 0, false⟩, nilV, [2, 7]⟩ : Rw) (by decide)]
theorem find_8 {i : Ins} (ho : i.op = 8) : rowF x86C i = [].find? (fitsR i) := by
 unfold rowF
 rw [rows_x]
 have hop : ∀ r : Rw, r.ins.op ≠ i.op → fitsR i r = false := fun r h => fitr_no fun hh => h hh.1
 rw [ho] at hop
 simp only [List.find?_cons, List.find?_nil, hop (⟨[65, 68, 68], ⟨3, 0, 0, 0, 0, 0, 0, 0, 0, 1, false, false, false, 0, 0, 0, false⟩, nilV, [4, 3]⟩ : Rw) (by decide), hop (⟨[65, 68, 68], ⟨3, 0, 0, 0, 0, 0, 0, 0, 0, 1, false, false, false, 0, 0, 0, false⟩, nilV, [4, 5]⟩ : Rw) (by decide), hop (⟨[83, 85, 66], ⟨3, 0, 0, 0, 0, 0, 0, 0, 0, 2, false, false, false, 0, 0, 0, false⟩, nilV, [4, 3]⟩ : Rw) (by decide), hop (⟨[83, 85, 66], ⟨3, 0, 0, 0, 0, 0, 0, 0, 0, 2, false, false, false, 0, 0, 0, false⟩, nilV, [4, 5]⟩ : Rw) (by decide), hop (⟨[88, 79, 82], ⟨3, 0, 0, 0, 0, 0, 0, 0, 0, 3, false, false, false, 0, 0, 0, false⟩, nilV, [4, 3]⟩ : Rw) (by decide), hop (⟨[88, 79, 82], ⟨3, 0, 0, 0, 0, 0, 0, 0, 0, 3, false, false, false, 0, 0, 0, false⟩, nilV, [4, 5]⟩ : Rw) (by decide), hop (⟨[65, 78, 68], ⟨3, 0, 0, 0, 0, 0, 0, 0, 0, 4, false, false, false, 0, 0, 0, false⟩, nilV, [4, 3]⟩ : Rw) (by decide), hop (⟨[65, 78, 68], ⟨3, 0, 0, 0, 0, 0, 0, 0, 0, 4, false, false, false, 0, 0, 0, false⟩, nilV, [4, 5]⟩ : Rw) (by decide), hop (⟨[79, 82], ⟨3, 0, 0, 0, 0, 0, 0, 0, 0, 5, false, false, false, 0, 0, 0, false⟩, nilV, [4, 3]⟩ : Rw) (by decide), hop (⟨[79, 82], ⟨3, 0, 0, 0, 0, 0, 0, 0, 0, 5, false, false, false, 0, 0, 0, false⟩, nilV, [4, 5]⟩ : Rw) (by decide), hop (⟨[77, 79, 86], ⟨1, 0, 0, 0, 0, 0, 0, 0, 0, 0, false, false, false, 0, 0, 0, false⟩, nilV, [1, 5]⟩ : Rw) (by decide), hop (⟨[77, 79, 86], ⟨2, 0, 0, 0, 0, 0, 0, 0, 0, 0, false, false, false, 0, 0, 0, false⟩, nilV, [1, 2]⟩ : Rw) (by decide), hop (⟨[77, 79, 86, 42], ⟨4, 0, 0, 0, 0, 0, 0, 0, 0, 0, false, false, false, 0, 0, 0, false⟩, nilV, [1, 6]⟩ : Rw) (by decide), hop (⟨[77, 79, 86, 42], ⟨5, 0, 0, 0, 0, 0, 0, 0, 0, 0, false, false, false, 0, 0, 0, false⟩, nilV, [6, 2]⟩ : Rw) (by decide), hop (⟨[77, 79, 86, 42], ⟨5, 0, 0, 0, 0, 0, 0, 0, 0, 0, false, false, false, 0, 0, 0, false⟩, nilV, [6, 5]⟩ : Rw) (by decide), hop (⟨[88, 67, 72, 71, 42], ⟨6, 0, 0, 0, 0, 0, 0, 0, 0, 6, true, false, true, 0, 0, 0, false⟩, nilV, [4, 6]⟩ : Rw) (by decide), hop (⟨[88, 65, 68, 68, 42], ⟨6, 0, 0, 0, 0, 0, 0, 0, 0, 1, true, false, true, 0, 0, 0, false⟩, nilV, [6, 4]⟩ : Rw) (by decide), hop (⟨[77, 70, 69, 78, 67, 69], ⟨7, 0, 0, 0, 0, 0, 0, 0, 0, 0, false, false, false, 3, 3, 0, false⟩, nilV, []⟩ : Rw) (by decide), hop (⟨[74, 90], ⟨9, 0, 0, 0, 0, 0, 0, 0, 0, 0, false, false, false, 0, 0, 0, true⟩, nilV, [2, 7]⟩ : Rw) (by decide), hop (⟨[74, 78, 90], ⟨9, 0, 0, 0, 0, 0, 0, 0, 0, 0, false, false, false, 0, 0, 0, false⟩, nilV, [2, 7]⟩ : Rw) (by decide)]
theorem find_9 {i : Ins} (ho : i.op = 9) : rowF x86C i = [(⟨[74, 90], ⟨9, 0, 0, 0, 0, 0, 0, 0, 0, 0, false, false, false, 0, 0, 0, true⟩, nilV, [2, 7]⟩ : Rw), (⟨[74, 78, 90], ⟨9, 0, 0, 0, 0, 0, 0, 0, 0, 0, false, false, false, 0, 0, 0, false⟩, nilV, [2, 7]⟩ : Rw)].find? (fitsR i) := by
 unfold rowF
 rw [rows_x]
 have hop : ∀ r : Rw, r.ins.op ≠ i.op → fitsR i r = false := fun r h => fitr_no fun hh => h hh.1
 rw [ho] at hop
 simp only [List.find?_cons, List.find?_nil, hop (⟨[65, 68, 68], ⟨3, 0, 0, 0, 0, 0, 0, 0, 0, 1, false, false, false, 0, 0, 0, false⟩, nilV, [4, 3]⟩ : Rw) (by decide), hop (⟨[65, 68, 68], ⟨3, 0, 0, 0, 0, 0, 0, 0, 0, 1, false, false, false, 0, 0, 0, false⟩, nilV, [4, 5]⟩ : Rw) (by decide), hop (⟨[83, 85, 66], ⟨3, 0, 0, 0, 0, 0, 0, 0, 0, 2, false, false, false, 0, 0, 0, false⟩, nilV, [4, 3]⟩ : Rw) (by decide), hop (⟨[83, 85, 66], ⟨3, 0, 0, 0, 0, 0, 0, 0, 0, 2, false, false, false, 0, 0, 0, false⟩, nilV, [4, 5]⟩ : Rw) (by decide), hop (⟨[88, 79, 82], ⟨3, 0, 0, 0, 0, 0, 0, 0, 0, 3, false, false, false, 0, 0, 0, false⟩, nilV, [4, 3]⟩ : Rw) (by decide), hop (⟨[88, 79, 82], ⟨3, 0, 0, 0, 0, 0, 0, 0, 0, 3, false, false, false, 0, 0, 0, false⟩, nilV, [4, 5]⟩ : Rw) (by decide), hop (⟨[65, 78, 68], ⟨3, 0, 0, 0, 0, 0, 0, 0, 0, 4, false, false, false, 0, 0, 0, false⟩, nilV, [4, 3]⟩ : Rw) (by decide), hop (⟨[65, 78, 68], ⟨3, 0, 0, 0, 0, 0, 0, 0, 0, 4, false, false, false, 0, 0, 0, false⟩, nilV, [4, 5]⟩ : Rw) (by decide), hop (⟨[79, 82], ⟨3, 0, 0, 0, 0, 0, 0, 0, 0, 5, false, false, false, 0, 0, 0, false⟩, nilV, [4, 3]⟩ : Rw) (by decide), hop (⟨[79, 82], ⟨3, 0, 0, 0, 0, 0, 0, 0, 0, 5, false, false, false, 0, 0, 0, false⟩, nilV, [4, 5]⟩ : Rw) (by decide), hop (⟨[77, 79, 86], ⟨1, 0, 0, 0, 0, 0, 0, 0, 0, 0, false, false, false, 0, 0, 0, false⟩, nilV, [1, 5]⟩ : Rw) (by decide), hop (⟨[77, 79, 86], ⟨2, 0, 0, 0, 0, 0, 0, 0, 0, 0, false, false, false, 0, 0, 0, false⟩, nilV, [1, 2]⟩ : Rw) (by decide), hop (⟨[77, 79, 86, 42], ⟨4, 0, 0, 0, 0, 0, 0, 0, 0, 0, false, false, false, 0, 0, 0, false⟩, nilV, [1, 6]⟩ : Rw) (by decide), hop (⟨[77, 79, 86, 42], ⟨5, 0, 0, 0, 0, 0, 0, 0, 0, 0, false, false, false, 0, 0, 0, false⟩, nilV, [6, 2]⟩ : Rw) (by decide), hop (⟨[77, 79, 86, 42], ⟨5, 0, 0, 0, 0, 0, 0, 0, 0, 0, false, false, false, 0, 0, 0, false⟩, nilV, [6, 5]⟩ : Rw) (by decide), hop (⟨[88, 67, 72, 71, 42], ⟨6, 0, 0, 0, 0, 0, 0, 0, 0, 6, true, false, true, 0, 0, 0, false⟩, nilV, [4, 6]⟩ : Rw) (by decide), hop (⟨[88, 65, 68, 68, 42], ⟨6, 0, 0, 0, 0, 0, 0, 0, 0, 1, true, false, true, 0, 0, 0, false⟩, nilV, [6, 4]⟩ : Rw) (by decide), hop (⟨[77, 70, 69, 78, 67, 69], ⟨7, 0, 0, 0, 0, 0, 0, 0, 0, 0, false, false, false, 3, 3, 0, false⟩, nilV, []⟩ : Rw) (by decide)]
theorem fields {i : Ins} (h : wrongB i = false) : i.op = 1 ∨ i.op = 2 ∨ i.op = 3 ∨ i.op = 4 ∨ i.op = 5 ∨ i.op = 6 ∨ i.op = 7 ∨ i.op = 8 ∨ i.op = 9 := by
 have := (sound_text (plain_of h).2).1
 omega
theorem opnd_reg {p : Int} {i : Ins} {lb : List UInt8} {r : Int} (h : regP p i = (r, true)) : opndR x86C p i lb = nameF r := by
 unfold opndR; rw [h]; simp only [if_true]; exact nameL_x r
theorem opnd_imm {i : Ins} {lb : List UInt8} : opndR x86C 5 i lb = numT i.imm := rfl
theorem opnd_mem {i : Ins} {lb : List UInt8} (h : i.index = -1 ∨ (0 ≤ i.index ∧ i.index < 8)) : opndR x86C 6 i lb = memT i := (show opndR x86C 6 i lb = memL x86C i i.loc.toNat from rfl).trans (memL_x h)
theorem opnd_lab {i : Ins} {lb : List UInt8} : opndR x86C 7 i lb = lb := rfl
theorem app_ne {a : UInt8} {l m : List UInt8} : (a :: l) ++ m ≠ [] := by simp
theorem pr_1 {i : Ins} {lb : List UInt8} (hw : wrongB i = false) (ho : i.op = 1) : prL x86C i lb = prR i lb := by
 obtain ⟨hp, hs⟩ := plain_of hw
 obtain ⟨op, dst, a, b, imm, loc, off, index, size, fn, acq, weak, rel, pred, succ, to, zero⟩ := i
 simp only at ho; subst ho
 simp [plainF, opB, rdB, wrB, immF] at hp
 obtain ⟨rfl, rfl, rfl, rfl, rfl, rfl, rfl, rfl, rfl, rfl, rfl, rfl, rfl, rfl⟩ := hp
 have hd := reg_rng (r := dst) (by simpa [soundB] using hs)
 have hr := find_1 (i := ⟨1, dst, -1, -1, imm, 0, 0, -1, 0, 0, false, false, false, 0, 0, 0, false⟩) rfl
 rw [find_take (fitr_yes rfl (by simp [showsR, lacks, regP]; omega))] at hr
 refine both hw rfl app_ne ((pr_row hw hr 1 5 rfl).trans ?_)
 rw [name_zero, opnd_reg (r := dst) rfl, opnd_imm]
 simp [txtT, List.append_assoc]
theorem pr_2 {i : Ins} {lb : List UInt8} (hw : wrongB i = false) (ho : i.op = 2) : prL x86C i lb = prR i lb := by
 obtain ⟨hp, hs⟩ := plain_of hw
 obtain ⟨op, dst, a, b, imm, loc, off, index, size, fn, acq, weak, rel, pred, succ, to, zero⟩ := i
 simp only at ho; subst ho
 simp [plainF, opB, rdB, wrB, immF] at hp
 obtain ⟨rfl, rfl, rfl, rfl, rfl, rfl, rfl, rfl, rfl, rfl, rfl, rfl, rfl, rfl⟩ := hp
 have hs2 : regB dst = true ∧ regB a = true := by simpa [soundB] using hs
 have hd := reg_rng hs2.1
 have ha := reg_rng hs2.2
 have hr := find_2 (i := ⟨2, dst, a, -1, 0, 0, 0, -1, 0, 0, false, false, false, 0, 0, 0, false⟩) rfl
 rw [find_take (fitr_yes rfl (by simp [showsR, lacks, regP]; omega))] at hr
 refine both hw rfl app_ne ((pr_row hw hr 1 2 rfl).trans ?_)
 rw [name_zero, opnd_reg (r := dst) rfl, opnd_reg (r := a) rfl]
 simp [txtT, List.append_assoc]
theorem pr_3 {i : Ins} {lb : List UInt8} (hw : wrongB i = false) (ho : i.op = 3) : prL x86C i lb = prR i lb := by
 obtain ⟨hp, hs⟩ := plain_of hw
 obtain ⟨op, dst, a, b, imm, loc, off, index, size, fn, acq, weak, rel, pred, succ, to, zero⟩ := i
 simp only at ho; subst ho
 have hs2 : (((regB dst = true ∧ regB a = true) ∧ ronB b = true) ∧ 1 ≤ fn) ∧ fn ≤ 5 := by simpa [soundB] using hs
 have hd := reg_rng hs2.1.1.1.1
 have ha := reg_rng hs2.1.1.1.2
 have hb := ron_rng hs2.1.1.2
 have hf : fn = 1 ∨ fn = 2 ∨ fn = 3 ∨ fn = 4 ∨ fn = 5 := by omega
 by_cases hb1 : b = -1
 ·subst hb1
  simp [plainF, opB, rdB, wrB, immF] at hp
  obtain ⟨rfl, rfl, rfl, rfl, rfl, rfl, rfl, rfl, rfl, rfl, rfl⟩ := hp
  by_cases hda : dst = a
  ·subst hda
   have hr := find_3 (i := ⟨3, dst, dst, -1, imm, 0, 0, -1, 0, fn, false, false, false, 0, 0, 0, false⟩) rfl
   have hid : ∀ (n : List UInt8) (k : Int), fitsR ⟨3, dst, dst, -1, imm, 0, 0, -1, 0, fn, false, false, false, 0, 0, 0, false⟩ (⟨n, ⟨3, 0, 0, 0, 0, 0, 0, 0, 0, k, false, false, false, 0, 0, 0, false⟩, nilV, [4, 3]⟩ : Rw) = false := fun n k => fitr_hides (by simp [showsR, lacks, regP])
   have hk : ∀ (n : List UInt8) (k : Int), k ≠ fn → fitsR ⟨3, dst, dst, -1, imm, 0, 0, -1, 0, fn, false, false, false, 0, 0, 0, false⟩ (⟨n, ⟨3, 0, 0, 0, 0, 0, 0, 0, 0, k, false, false, false, 0, 0, 0, false⟩, nilV, [4, 5]⟩ : Rw) = false := fun n k h => fitr_no fun hh => h hh.2.1
   have hy : ∀ (n : List UInt8), fitsR ⟨3, dst, dst, -1, imm, 0, 0, -1, 0, fn, false, false, false, 0, 0, 0, false⟩ (⟨n, ⟨3, 0, 0, 0, 0, 0, 0, 0, 0, fn, false, false, false, 0, 0, 0, false⟩, nilV, [4, 5]⟩ : Rw) = true := fun n => fitr_yes rfl (by simp [showsR, lacks, regP]; omega)
   rcases hf with rfl | rfl | rfl | rfl | rfl
   ·simp only [List.find?_cons, hid, hy] at hr
    refine both (t := [65, 68, 68] ++ [32] ++ nameF dst ++ [44] ++ numT imm) hw (by simp [txtT, fnT, fnsX, regOrT]) (by simp) ((pr_row hw hr 4 5 rfl).trans ?_)
    rw [name_zero, opnd_reg (r := dst) rfl, opnd_imm]
    simp [List.append_assoc]
   ·simp only [List.find?_cons, hid, hk _ 1 (by decide), hy] at hr
    refine both (t := [83, 85, 66] ++ [32] ++ nameF dst ++ [44] ++ numT imm) hw (by simp [txtT, fnT, fnsX, regOrT]) (by simp) ((pr_row hw hr 4 5 rfl).trans ?_)
    rw [name_zero, opnd_reg (r := dst) rfl, opnd_imm]
    simp [List.append_assoc]
   ·simp only [List.find?_cons, hid, hk _ 1 (by decide), hk _ 2 (by decide), hy] at hr
    refine both (t := [88, 79, 82] ++ [32] ++ nameF dst ++ [44] ++ numT imm) hw (by simp [txtT, fnT, fnsX, regOrT]) (by simp) ((pr_row hw hr 4 5 rfl).trans ?_)
    rw [name_zero, opnd_reg (r := dst) rfl, opnd_imm]
    simp [List.append_assoc]
   ·simp only [List.find?_cons, hid, hk _ 1 (by decide), hk _ 2 (by decide), hk _ 3 (by decide), hy] at hr
    refine both (t := [65, 78, 68] ++ [32] ++ nameF dst ++ [44] ++ numT imm) hw (by simp [txtT, fnT, fnsX, regOrT]) (by simp) ((pr_row hw hr 4 5 rfl).trans ?_)
    rw [name_zero, opnd_reg (r := dst) rfl, opnd_imm]
    simp [List.append_assoc]
   ·simp only [List.find?_cons, hid, hk _ 1 (by decide), hk _ 2 (by decide), hk _ 3 (by decide), hk _ 4 (by decide), hy] at hr
    refine both (t := [79, 82] ++ [32] ++ nameF dst ++ [44] ++ numT imm) hw (by simp [txtT, fnT, fnsX, regOrT]) (by simp) ((pr_row hw hr 4 5 rfl).trans ?_)
    rw [name_zero, opnd_reg (r := dst) rfl, opnd_imm]
    simp [List.append_assoc]
  ·refine neither hw (by simp [txtT, hda]) ?_
   rw [find_3 rfl]
   have hne : ∀ (n : List UInt8) (k q : Int), q = 3 ∨ q = 5 → fitsR ⟨3, dst, a, -1, imm, 0, 0, -1, 0, fn, false, false, false, 0, 0, 0, false⟩ (⟨n, ⟨3, 0, 0, 0, 0, 0, 0, 0, 0, k, false, false, false, 0, 0, 0, false⟩, nilV, [4, q]⟩ : Rw) = false := fun n k q hq => fitr_ne fun h => by
    rcases hq with rfl | rfl
    ·exact hda (congrArg Ins.a h)
    ·exact hda (congrArg Ins.a h)
   simp only [List.find?_cons, List.find?_nil, hne _ _ 3 (.inl rfl), hne _ _ 5 (.inr rfl)]
 ·have hbr : 0 ≤ b ∧ b < 8 := by rcases hb with h | h; exact absurd h hb1; exact h
  simp [plainF, opB, rdB, wrB, immF, hb1] at hp
  obtain ⟨rfl, rfl, rfl, rfl, rfl, rfl, rfl, rfl, rfl, rfl, rfl, rfl⟩ := hp
  by_cases hda : dst = a
  ·subst hda
   have hr := find_3 (i := ⟨3, dst, dst, b, 0, 0, 0, -1, 0, fn, false, false, false, 0, 0, 0, false⟩) rfl
   have hk : ∀ (n : List UInt8) (k : Int) (ps : List Int), k ≠ fn → fitsR ⟨3, dst, dst, b, 0, 0, 0, -1, 0, fn, false, false, false, 0, 0, 0, false⟩ (⟨n, ⟨3, 0, 0, 0, 0, 0, 0, 0, 0, k, false, false, false, 0, 0, 0, false⟩, nilV, ps⟩ : Rw) = false := fun n k ps h => fitr_no fun hh => h hh.2.1
   have hy : ∀ (n : List UInt8), fitsR ⟨3, dst, dst, b, 0, 0, 0, -1, 0, fn, false, false, false, 0, 0, 0, false⟩ (⟨n, ⟨3, 0, 0, 0, 0, 0, 0, 0, 0, fn, false, false, false, 0, 0, 0, false⟩, nilV, [4, 3]⟩ : Rw) = true := fun n => fitr_yes rfl (by simp [showsR, lacks, regP]; omega)
   rcases hf with rfl | rfl | rfl | rfl | rfl
   ·simp only [List.find?_cons, hy] at hr
    refine both (t := [65, 68, 68] ++ [32] ++ nameF dst ++ [44] ++ nameF b) hw (by simp [txtT, fnT, fnsX, regOrT, show ¬ b < 0 by omega]) (by simp) ((pr_row hw hr 4 3 rfl).trans ?_)
    rw [name_zero, opnd_reg (r := dst) rfl, opnd_reg (r := b) rfl]
    simp [List.append_assoc]
   ·simp only [List.find?_cons, hk _ 1 _ (by decide), hy] at hr
    refine both (t := [83, 85, 66] ++ [32] ++ nameF dst ++ [44] ++ nameF b) hw (by simp [txtT, fnT, fnsX, regOrT, show ¬ b < 0 by omega]) (by simp) ((pr_row hw hr 4 3 rfl).trans ?_)
    rw [name_zero, opnd_reg (r := dst) rfl, opnd_reg (r := b) rfl]
    simp [List.append_assoc]
   ·simp only [List.find?_cons, hk _ 1 _ (by decide), hk _ 2 _ (by decide), hy] at hr
    refine both (t := [88, 79, 82] ++ [32] ++ nameF dst ++ [44] ++ nameF b) hw (by simp [txtT, fnT, fnsX, regOrT, show ¬ b < 0 by omega]) (by simp) ((pr_row hw hr 4 3 rfl).trans ?_)
    rw [name_zero, opnd_reg (r := dst) rfl, opnd_reg (r := b) rfl]
    simp [List.append_assoc]
   ·simp only [List.find?_cons, hk _ 1 _ (by decide), hk _ 2 _ (by decide), hk _ 3 _ (by decide), hy] at hr
    refine both (t := [65, 78, 68] ++ [32] ++ nameF dst ++ [44] ++ nameF b) hw (by simp [txtT, fnT, fnsX, regOrT, show ¬ b < 0 by omega]) (by simp) ((pr_row hw hr 4 3 rfl).trans ?_)
    rw [name_zero, opnd_reg (r := dst) rfl, opnd_reg (r := b) rfl]
    simp [List.append_assoc]
   ·simp only [List.find?_cons, hk _ 1 _ (by decide), hk _ 2 _ (by decide), hk _ 3 _ (by decide), hk _ 4 _ (by decide), hy] at hr
    refine both (t := [79, 82] ++ [32] ++ nameF dst ++ [44] ++ nameF b) hw (by simp [txtT, fnT, fnsX, regOrT, show ¬ b < 0 by omega]) (by simp) ((pr_row hw hr 4 3 rfl).trans ?_)
    rw [name_zero, opnd_reg (r := dst) rfl, opnd_reg (r := b) rfl]
    simp [List.append_assoc]
  ·refine neither hw (by simp [txtT, hda]) ?_
   rw [find_3 rfl]
   have hne : ∀ (n : List UInt8) (k q : Int), q = 3 ∨ q = 5 → fitsR ⟨3, dst, a, b, 0, 0, 0, -1, 0, fn, false, false, false, 0, 0, 0, false⟩ (⟨n, ⟨3, 0, 0, 0, 0, 0, 0, 0, 0, k, false, false, false, 0, 0, 0, false⟩, nilV, [4, q]⟩ : Rw) = false := fun n k q hq => fitr_ne fun h => by
    rcases hq with rfl | rfl
    ·exact hda (congrArg Ins.a h)
    ·exact hda (congrArg Ins.a h)
   simp only [List.find?_cons, List.find?_nil, hne _ _ 3 (.inl rfl), hne _ _ 5 (.inr rfl)]
theorem pr_4 {i : Ins} {lb : List UInt8} (hw : wrongB i = false) (ho : i.op = 4) : prL x86C i lb = prR i lb := by
 obtain ⟨hp, hs⟩ := plain_of hw
 obtain ⟨op, dst, a, b, imm, loc, off, index, size, fn, acq, weak, rel, pred, succ, to, zero⟩ := i
 simp only at ho; subst ho
 simp [plainF, opB, rdB, wrB, immF] at hp
 obtain ⟨rfl, rfl, rfl, rfl, rfl, rfl, rfl, rfl, rfl⟩ := hp
 have hs2 : (regB dst = true ∧ accB ⟨4, dst, -1, -1, 0, loc, off, index, size, 0, acq, weak, false, 0, 0, 0, false⟩ = true) ∧ (acq = false ∨ weak = false) := by simpa [soundB] using hs
 have hd := reg_rng hs2.1.1
 obtain ⟨hl, hi, hz⟩ := acc_all hs2.1.2
 cases acq
 ·cases weak
  ·have hr := find_4 (i := ⟨4, dst, -1, -1, 0, loc, off, index, size, 0, false, false, false, 0, 0, 0, false⟩) rfl
   rw [find_take (fitr_yes rfl (by simp [showsR, lacks, regP]; omega))] at hr
   refine both (t := [77, 79, 86] ++ tlX size ++ [32] ++ nameF dst ++ [44] ++ memT ⟨4, dst, -1, -1, 0, loc, off, index, size, 0, false, false, false, 0, 0, 0, false⟩) hw (by simp [txtT, accT]) (by simp) ((pr_row hw hr 1 6 rfl).trans ?_)
   rw [repl_mov hz, opnd_reg (r := dst) rfl, opnd_mem hi]
   simp [List.append_assoc]
  ·refine neither hw (by simp [txtT, accT]) ?_
   rw [find_4 rfl, find_skip (fitr_no (by simp))]; rfl
 ·refine neither hw (by simp [txtT, accT]) ?_
  rw [find_4 rfl, find_skip (fitr_no (by simp))]; rfl
theorem pr_5 {i : Ins} {lb : List UInt8} (hw : wrongB i = false) (ho : i.op = 5) : prL x86C i lb = prR i lb := by
 obtain ⟨hp, hs⟩ := plain_of hw
 obtain ⟨op, dst, a, b, imm, loc, off, index, size, fn, acq, weak, rel, pred, succ, to, zero⟩ := i
 simp only at ho; subst ho
 have hs2 : ronB a = true ∧ accB ⟨5, dst, a, b, imm, loc, off, index, size, fn, acq, weak, rel, pred, succ, to, zero⟩ = true := by simpa [soundB] using hs
 have ha := ron_rng hs2.1
 obtain ⟨hl, hi, hz⟩ := acc_all hs2.2
 by_cases ha1 : a = -1
 ·subst ha1
  simp [plainF, opB, rdB, wrB, immF] at hp
  obtain ⟨rfl, rfl, rfl, rfl, rfl, rfl, rfl, rfl, rfl⟩ := hp
  cases rel
  ·have hr := find_5 (i := ⟨5, -1, -1, -1, imm, loc, off, index, size, 0, false, false, false, 0, 0, 0, false⟩) rfl
   rw [find_skip (fitr_hides (by simp [showsR, lacks, regP])), find_take (fitr_yes rfl (by simp [showsR, lacks, regP]))] at hr
   refine both (t := [77, 79, 86] ++ tlX size ++ [32] ++ memT ⟨5, -1, -1, -1, imm, loc, off, index, size, 0, false, false, false, 0, 0, 0, false⟩ ++ [44] ++ numT imm) hw (by simp [txtT, accT, regOrT]) (by simp) ((pr_row hw hr 6 5 rfl).trans ?_)
   rw [repl_mov hz, opnd_mem hi, opnd_imm]
   simp [List.append_assoc]
  ·refine neither hw (by simp [txtT, accT]) ?_
   rw [find_5 rfl, find_skip (fitr_no (by simp)), find_skip (fitr_no (by simp))]; rfl
 ·have har : 0 ≤ a ∧ a < 8 := by rcases ha with h | h; exact absurd h ha1; exact h
  simp [plainF, opB, rdB, wrB, immF, ha1] at hp
  obtain ⟨rfl, rfl, rfl, rfl, rfl, rfl, rfl, rfl, rfl, rfl⟩ := hp
  cases rel
  ·have hr := find_5 (i := ⟨5, -1, a, -1, 0, loc, off, index, size, 0, false, false, false, 0, 0, 0, false⟩) rfl
   rw [find_take (fitr_yes rfl (by simp [showsR, lacks, regP]; omega))] at hr
   refine both (t := [77, 79, 86] ++ tlX size ++ [32] ++ memT ⟨5, -1, a, -1, 0, loc, off, index, size, 0, false, false, false, 0, 0, 0, false⟩ ++ [44] ++ nameF a) hw (by simp [txtT, accT, regOrT, show ¬ a < 0 by omega]) (by simp) ((pr_row hw hr 6 2 rfl).trans ?_)
   rw [repl_mov hz, opnd_mem hi, opnd_reg (r := a) rfl]
   simp [List.append_assoc]
  ·refine neither hw (by simp [txtT, accT]) ?_
   rw [find_5 rfl, find_skip (fitr_no (by simp)), find_skip (fitr_no (by simp))]; rfl
theorem pr_6 {i : Ins} {lb : List UInt8} (hw : wrongB i = false) (ho : i.op = 6) : prL x86C i lb = prR i lb := by
 obtain ⟨hp, hs⟩ := plain_of hw
 obtain ⟨op, dst, a, b, imm, loc, off, index, size, fn, acq, weak, rel, pred, succ, to, zero⟩ := i
 simp only at ho; subst ho
 simp [plainF, opB, rdB, wrB, immF] at hp
 obtain ⟨rfl, rfl, rfl, rfl, rfl, rfl, rfl⟩ := hp
 have hs2 : ((regB dst = true ∧ regB a = true) ∧ accB ⟨6, dst, a, -1, 0, loc, off, index, size, fn, acq, false, rel, 0, 0, 0, false⟩ = true) ∧ (fn = 6 ∨ fn = 1) := by simpa [soundB] using hs
 have hd := reg_rng hs2.1.1.1
 obtain ⟨hl, hi, hz⟩ := acc_all hs2.1.2
 by_cases hda : dst = a
 ·subst hda
  cases acq
  ·refine neither hw (by simp [txtT, accT, rmwT]) ?_
   rw [find_6 rfl, find_skip (fitr_no (by simp)), find_skip (fitr_no (by simp))]; rfl
  ·cases rel
   ·refine neither hw (by simp [txtT, accT, rmwT]) ?_
    rw [find_6 rfl, find_skip (fitr_no (by simp)), find_skip (fitr_no (by simp))]; rfl
   ·rcases hs2.2 with rfl | rfl
    ·have hr := find_6 (i := ⟨6, dst, dst, -1, 0, loc, off, index, size, 6, true, false, true, 0, 0, 0, false⟩) rfl
     rw [find_take (fitr_yes rfl (by simp [showsR, lacks, regP]; omega))] at hr
     refine both (t := [88, 67, 72, 71] ++ tlX size ++ [32] ++ nameF dst ++ [44] ++ memT ⟨6, dst, dst, -1, 0, loc, off, index, size, 6, true, false, true, 0, 0, 0, false⟩) hw (by simp [txtT, accT, rmwT]) (by simp) ((pr_row hw hr 4 6 rfl).trans ?_)
     rw [repl_xchg hz, opnd_reg (r := dst) rfl, opnd_mem hi]
     simp [List.append_assoc]
    ·have hr := find_6 (i := ⟨6, dst, dst, -1, 0, loc, off, index, size, 1, true, false, true, 0, 0, 0, false⟩) rfl
     rw [find_skip (fitr_no (by simp)), find_take (fitr_yes rfl (by simp [showsR, lacks, regP]; omega))] at hr
     refine both (t := [88, 65, 68, 68] ++ tlX size ++ [32] ++ memT ⟨6, dst, dst, -1, 0, loc, off, index, size, 1, true, false, true, 0, 0, 0, false⟩ ++ [44] ++ nameF dst) hw (by simp [txtT, accT, rmwT]) (by simp) ((pr_row hw hr 6 4 rfl).trans ?_)
     rw [repl_xadd hz, opnd_reg (p := 4) (r := dst) rfl, opnd_mem hi]
     simp [List.append_assoc]
 ·refine neither hw (by simp [txtT, accT, rmwT, hda]) ?_
  rw [find_6 rfl]
  have h1 : fitsR ⟨6, dst, a, -1, 0, loc, off, index, size, fn, acq, false, rel, 0, 0, 0, false⟩ (⟨[88, 67, 72, 71, 42], ⟨6, 0, 0, 0, 0, 0, 0, 0, 0, 6, true, false, true, 0, 0, 0, false⟩, nilV, [4, 6]⟩ : Rw) = false := fitr_ne fun h => hda (congrArg Ins.a h)
  have h2 : fitsR ⟨6, dst, a, -1, 0, loc, off, index, size, fn, acq, false, rel, 0, 0, 0, false⟩ (⟨[88, 65, 68, 68, 42], ⟨6, 0, 0, 0, 0, 0, 0, 0, 0, 1, true, false, true, 0, 0, 0, false⟩, nilV, [6, 4]⟩ : Rw) = false := fitr_ne fun h => hda (congrArg Ins.a h)
  simp only [List.find?_cons, List.find?_nil, h1, h2]
theorem pr_7 {i : Ins} {lb : List UInt8} (hw : wrongB i = false) (ho : i.op = 7) : prL x86C i lb = prR i lb := by
 obtain ⟨hp, hs⟩ := plain_of hw
 obtain ⟨op, dst, a, b, imm, loc, off, index, size, fn, acq, weak, rel, pred, succ, to, zero⟩ := i
 simp only at ho; subst ho
 simp [plainF, opB, rdB, wrB, immF] at hp
 obtain ⟨rfl, rfl, rfl, rfl, rfl, rfl, rfl, rfl, rfl, rfl, rfl, rfl, rfl, rfl⟩ := hp
 by_cases h3 : pred = 3 ∧ succ = 3
 ·obtain ⟨rfl, rfl⟩ := h3
  have hr := find_7 (i := ⟨7, -1, -1, -1, 0, 0, 0, -1, 0, 0, false, false, false, 3, 3, 0, false⟩) rfl
  rw [find_take (fitr_yes rfl (by rfl))] at hr
  refine both (t := [77, 70, 69, 78, 67, 69]) hw (by simp [txtT, fenT]) (by simp) ?_
  unfold prL
  rw [hw, hr]
  rfl
 ·refine neither hw ?_ ?_
  ·simp only [txtT, fenT]
   by_cases h4 : pred = 3
   ·have : succ ≠ 3 := fun e => h3 ⟨h4, e⟩
    simp [this]
   ·simp [h4]
  ·rw [find_7 rfl, find_skip (fitr_ne fun h => h3 ⟨(congrArg Ins.pred h).symm, (congrArg Ins.succ h).symm⟩)]; rfl
theorem pr_8 {i : Ins} {lb : List UInt8} (hw : wrongB i = false) (ho : i.op = 8) : prL x86C i lb = prR i lb := by
 obtain ⟨hp, hs⟩ := plain_of hw
 obtain ⟨op, dst, a, b, imm, loc, off, index, size, fn, acq, weak, rel, pred, succ, to, zero⟩ := i
 simp only at ho; subst ho
 refine neither hw (by simp [txtT, fenT]) ?_
 rw [find_8 rfl]; rfl
theorem pr_9 {i : Ins} {lb : List UInt8} (hw : wrongB i = false) (ho : i.op = 9) : prL x86C i lb = prR i lb := by
 obtain ⟨hp, hs⟩ := plain_of hw
 obtain ⟨op, dst, a, b, imm, loc, off, index, size, fn, acq, weak, rel, pred, succ, to, zero⟩ := i
 simp only at ho; subst ho
 simp [plainF, opB, rdB, wrB, immF] at hp
 obtain ⟨rfl, rfl, rfl, rfl, rfl, rfl, rfl, rfl, rfl, rfl, rfl, rfl, rfl⟩ := hp
 have ha := reg_rng (r := a) (by simpa [soundB] using hs)
 cases zero
 ·have hr := find_9 (i := ⟨9, -1, a, -1, 0, 0, 0, -1, 0, 0, false, false, false, 0, 0, to, false⟩) rfl
  rw [find_skip (fitr_no (by simp)), find_take (fitr_yes rfl (by simp [showsR, lacks, regP]; omega))] at hr
  refine both (t := [74, 78, 90] ++ [32] ++ nameF a ++ [44] ++ lb) hw (by simp [txtT, branT]) (by simp) ((pr_row hw hr 2 7 rfl).trans ?_)
  rw [name_zero, opnd_reg (r := a) rfl, opnd_lab]
  simp [List.append_assoc]
 ·have hr := find_9 (i := ⟨9, -1, a, -1, 0, 0, 0, -1, 0, 0, false, false, false, 0, 0, to, true⟩) rfl
  rw [find_take (fitr_yes rfl (by simp [showsR, lacks, regP]; omega))] at hr
  refine both (t := [74, 90] ++ [32] ++ nameF a ++ [44] ++ lb) hw (by simp [txtT, branT]) (by simp) ((pr_row hw hr 2 7 rfl).trans ?_)
  rw [name_zero, opnd_reg (r := a) rfl, opnd_lab]
  simp [List.append_assoc]
theorem pr_eq (i : Ins) (lb : List UInt8) : prL x86C i lb = prR i lb := by
 cases hw : wrongB i
 ·rcases fields hw with h | h | h | h | h | h | h | h | h
  ·exact pr_1 hw h
  ·exact pr_2 hw h
  ·exact pr_3 hw h
  ·exact pr_4 hw h
  ·exact pr_5 hw h
  ·exact pr_6 hw h
  ·exact pr_7 hw h
  ·exact pr_8 hw h
  ·exact pr_9 hw h
 ·rw [prR_is, hw]; unfold prL; rw [hw]; simp only [if_true]
theorem tokE_len (t : Tk) : (tokE t).length = 4 := rfl
section
variable {L : List Tk}
end
section
variable {L : List Tk} {g : Lg}
end
section
variable {L : List Tk} {g : Lg}
end
section
variable {L : List Tk}
end
section
variable {L : List Tk}
end
section
variable {L : List Tk}
end
section
variable {L : List Tk}
section
variable {q : List UInt8} (h1 : eqL q [77, 79, 86] = false) (h2 : decide (aluF q > 0) = false) (h3 : decide (szF q [77, 79, 86] > 0) = false) (h4 : decide (szF q [88, 67, 72, 71] > 0) = false) (h5 : decide (szF q [88, 65, 68, 68] > 0) = false)
include h1 h2 h3 h4 h5
end
end
section
variable {rv : Value} {rows : List Rw} {L : List Tk}
abbrev x86K (rows : List Rw) : Lg := x86L nilV (rows.map canR)
theorem can_step (q : List UInt8) (s : Ps) (ws : List Rw) (r : Rw) : nStep (x86K rows) q (s, ws.map canR) (canR r) = ((nStep (x86L rv rows) q (s, ws) r).1, (nStep (x86L rv rows) q (s, ws) r).2.map canR) := by
 have e : sizeP (x86K rows) (canR r) q = sizeP (x86L rv rows) r q := rfl
 unfold nStep
 rw [e]
 split
 ·rw [List.map_append]; rfl
 ·rfl
theorem can_fold (q : List UInt8) : ∀ (l : List Rw) (s : Ps) (ws : List Rw), (l.map canR).foldl (nStep (x86K rows) q) (s, ws.map canR) = ((l.foldl (nStep (x86L rv rows) q) (s, ws)).1, (l.foldl (nStep (x86L rv rows) q) (s, ws)).2.map canR)
 | [], s, ws => rfl
 | r :: l, s, ws => by
  rw [List.map_cons, List.foldl_cons, List.foldl_cons, can_step (rv := rv), can_fold q l]
theorem can_named (s : Ps) : namedP (x86K rows) L s = ((namedP (x86L rv rows) L s).1, (namedP (x86L rv rows) L s).2.map canR) := by
 unfold namedP
 cases hy : L[s.p]? with
 | none => rfl
 | some y =>
  simp only []
  have e := can_fold (rv := rv) (rows := rows) y.text rows s []
  rw [List.map_nil] at e
  rw [show (x86K rows).rows = rows.map canR from rfl, show (x86L rv rows).rows = rows from rfl, e]
  split
  ·unfold noRow
   simp only [List.length_map]
  ·rfl
theorem can_left (k : Nat) (ws : List Rw) (s : Ps) : leftR (x86K rows) L k (ws.map canR) s = (leftR (x86L rv rows) L k ws s).map canR := by
 unfold leftR
 rw [List.filter_map]; rfl
theorem can_beg (k : Nat) (ws : List Rw) (s : Ps) : begP (x86K rows) L k (ws.map canR) s = begP (x86L rv rows) L k ws s := by
 unfold begP
 rw [can_left (rv := rv), List.length_map]
theorem can_part (k : Nat) (ws : List Rw) (s : Ps) : part0 (x86K rows) L k (ws.map canR) s = part0 (x86L rv rows) L k ws s := by
 cases ws with
 | nil => rfl
 | cons r l => rfl
theorem can_inst : ∀ (f k : Nat) (ws : List Rw) (s : Ps), instL (x86K rows) L f k (ws.map canR) s = ((instL (x86L rv rows) L f k ws s).1, (instL (x86L rv rows) L f k ws s).2.map canR)
 | 0, _, _, _ => rfl
 | f + 1, k, [], s => rfl
 | f + 1, k, r :: l, s => by
  have h1 := can_left (rv := rv) (rows := rows) (L := L) k (r :: l) (commaP L k s)
  have h2 := can_beg (rv := rv) (rows := rows) (L := L) k (r :: l) (commaP L k s)
  have h3 := can_part (rv := rv) (rows := rows) (L := L) k (leftR (x86L rv rows) L k (r :: l) (commaP L k s)) (begP (x86L rv rows) L k (r :: l) (commaP L k s))
  have h4 := can_inst f (k + 1) (leftR (x86L rv rows) L k (r :: l) (commaP L k s)) (part0 (x86L rv rows) L k (leftR (x86L rv rows) L k (r :: l) (commaP L k s)) (begP (x86L rv rows) L k (r :: l) (commaP L k s)))
  rw [List.map_cons] at h1 h2 ⊢
  rw [instL, instL]
  by_cases hd : decide (((k : Nat) : Int) < ((r.parts.length : Nat) : Int)) = true
  ·rw [if_pos (show decide (((k : Nat) : Int) < (((canR r).parts.length : Nat) : Int)) = true from hd), if_pos hd, h1, h2, h3, h4]
  ·rw [if_neg (show ¬ decide (((k : Nat) : Int) < (((canR r).parts.length : Nat) : Int)) = true from hd), if_neg hd]; rfl
theorem can_with (ws : List Rw) (i : Ins) : withL (ws.map canR) i = withL ws i := by cases ws <;> rfl
theorem pa_x86 (h : rows.map tmpl = x86T) : parP (x86L rv rows) L = parP x86C L := by
 have hc : x86C = x86K rows := by unfold x86C x86K; rw [canon h]
 have hi : instP (x86K rows) L zPs = ((instP (x86L rv rows) L zPs).1, (instP (x86L rv rows) L zPs).2.map canR) := by
  unfold instP
  rw [can_named (rv := rv)]
  exact can_inst _ _ _ _
 rw [hc]
 unfold parP
 rw [hi]
 simp only [can_with]
end
section
variable {rv : Value} {rows : List Rw}
theorem row_in (h : rows.map tmpl = x86T) {r : Rw} (hr : r ∈ rows) : tmpl r ∈ x86T := by rw [← h]; exact List.mem_map_of_mem hr
def nameOKB (m : List UInt8) : Bool := decide (m.length ≤ 10) && decide ((Lib.cut m [42]).1.length + (Lib.cut m [42]).2.1.length ≤ 20) && [[66], [87], [76], [81]].all fun y => decide ((Lib.replace m [42] y 1).length ≤ 100)
theorem names_ok : ∀ x ∈ x86T, nameOKB x.1 = true := by decide
theorem x_nm (h : rows.map tmpl = x86T) : ∀ r ∈ (x86L rv rows).rows, r.name.length ≤ 1000 ∧ (Lib.cut r.name [42]).1.length + (Lib.cut r.name [42]).2.1.length ≤ 2000 := fun r hr => by
 have := names_ok _ (row_in h hr)
 unfold nameOKB at this
 simp only [Bool.and_eq_true, decide_eq_true_eq] at this
 have h1 : r.name.length ≤ 10 := this.1.1
 have h2 : (Lib.cut r.name [42]).1.length + (Lib.cut r.name [42]).2.1.length ≤ 20 := this.1.2
 exact ⟨by omega, by omega⟩
theorem x_ll : ∀ y ∈ (x86L rv rows).lets, y.length ≤ 1000 := fun y hy => by
 have : y ∈ [[66], [87], [76], [(81 : UInt8)]] := hy
 simp only [List.mem_cons, List.not_mem_nil, or_false] at this
 rcases this with rfl | rfl | rfl | rfl <;> decide
theorem x_rl : ∀ y ∈ (x86L rv rows).regs, y.length ≤ 100 := fun y hy => (by decide : ∀ y ∈ regsX, y.length ≤ 100) y hy
def expN (m : List UInt8) : List (List UInt8) := if (Lib.cut m [42]).2.2 = true then x86C.lets.map fun y => (Lib.cut m [42]).1 ++ y ++ (Lib.cut m [42]).2.1 else [m]
theorem idx_mem {q : List UInt8} : ∀ (l : List (List UInt8)) (k : Nat), ¬ idxL l q k < 0 → q ∈ l
 | [], _, h => absurd (by decide : (-1 : Int) < 0) h
 | y :: l, k, h => by
  rw [idxL] at h
  split at h
  ·next he => rw [eqL_eq he]; exact List.mem_cons_self ..
  ·exact List.mem_cons_of_mem _ (idx_mem l (k + 1) h)
theorem size_exp {r : Rw} {q : List UInt8} (h : (sizeP (x86L rv rows) r q).2 = true) : q ∈ expN r.name := by
 unfold sizeP at h
 unfold expN
 split at h
 ·next hc =>
  rw [if_pos hc]
  split at h
  ·cases h
  ·next hd => exact idx_mem (sizedN (x86L rv rows) r) 0 (fun hlt => hd (decide_eq_true hlt))
 ·next hc => rw [if_neg hc, List.mem_singleton]; exact eqL_eq h
theorem exps_ok : (x86T.all fun x => x86T.all fun y => x.2.2.length == y.2.2.length || (expN x.1).all fun z => !(expN y.1).contains z) = true := by decide
theorem x_un (h : rows.map tmpl = x86T) : ∀ q, ∀ r ∈ (x86L rv rows).rows, ∀ r' ∈ (x86L rv rows).rows, (sizeP (x86L rv rows) r q).2 = true → (sizeP (x86L rv rows) r' q).2 = true → r.parts.length = r'.parts.length := fun q r hr r' hr' h1 h2 => by
 have hx := List.all_eq_true.1 (List.all_eq_true.1 exps_ok _ (row_in h hr)) _ (row_in h hr')
 rw [Bool.or_eq_true] at hx
 rcases hx with hx | hx
 ·exact eq_of_beq hx
 ·have := List.all_eq_true.1 hx q (size_exp h1)
  have hc : (expN r'.name).contains q = true := List.contains_iff_mem.2 (size_exp h2)
  rw [show (tmpl r').1 = r'.name from rfl, hc] at this; cases this
theorem parts_ok : ∀ x ∈ x86T, x.2.2.length ≤ 2 ∧ ∀ p ∈ x.2.2, (p = 6 → x.2.1.op = 4 ∨ x.2.1.op = 5 ∨ x.2.1.op = 6) ∧ p ≠ 8 ∧ p ≠ 9 := by decide
theorem acc_of {i : Ins} (hw : wrongB i = false) (ho : i.op = 4 ∨ i.op = 5 ∨ i.op = 6) : 0 ≤ i.loc ∧ i.loc ≤ 2 := by
 obtain ⟨_, hs⟩ := plain_of hw
 have : accB i = true := by
  unfold soundB at hs
  rcases ho with ho | ho | ho
  ·rw [ho] at hs
   have hs : (regB i.dst && accB i && !(i.acq && i.weak)) = true := hs
   simp only [Bool.and_eq_true] at hs; exact hs.1.2
  ·rw [ho] at hs
   have hs : (ronB i.a && accB i) = true := hs
   simp only [Bool.and_eq_true] at hs; exact hs.2
  ·rw [ho] at hs
   have hs : (regB i.dst && regB i.a && accB i && (i.fn == 6 || i.fn == 1)) = true := hs
   simp only [Bool.and_eq_true] at hs; exact hs.1.2
 exact (acc_all this).1
theorem x_lc (h : rows.map tmpl = x86T) {i : Ins} {r : Rw} (hw : wrongB i = false) (hr : rowF (x86L rv rows) i = some r) : ∀ pt ∈ r.parts, pt = 6 → 0 ≤ i.loc ∧ i.loc ≤ 2 := fun pt hp h6 => by
 have hm : r ∈ rows := List.mem_of_find?_eq_some hr
 have hf := fitr_keeps (List.find?_some hr)
 have := ((parts_ok _ (row_in h hm)).2 pt hp).1 h6
 have ho : r.ins.op = 4 ∨ r.ins.op = 5 ∨ r.ins.op = 6 := this
 rw [hf.1] at ho
 exact acc_of hw ho
theorem nmL_len {g : Lg} (h : ∀ y ∈ g.regs, y.length ≤ 100) (n : Int) : (nameL g n).length ≤ 100 := by
 unfold nameL
 split
 ·exact Nat.zero_le _
 ·cases hy : g.regs[n.toNat]? with
  | none => exact Nat.zero_le _
  | some y => exact h y (List.mem_of_getElem? hy)
theorem x_opnd {i : Ins} {lb : List UInt8} {p : Int} (h8 : p ≠ 8) (h9 : p ≠ 9) (hi1 : -9223372036854775808 ≤ i.imm) (hi2 : i.imm ≤ 9223372036854775807) (ho1 : -9223372036854775808 ≤ i.off) (ho2 : i.off ≤ 9223372036854775807) (hlb : lb.length ≤ 9000) : (opndR (x86L rv rows) p i lb).length ≤ 9000 := by
 have hn := fun n => nmL_len (g := x86L rv rows) x_rl n
 have e1 := itoa_len hi1 hi2
 have e2 := itoa_len ho1 ho2
 have e3 := loc_len i.loc.toNat
 have n1 := hn i.index
 unfold opndR
 split
 ·exact Nat.le_trans (hn _) (by decide)
 ·split
  ·show ([36] ++ Lib.itoa i.imm).length ≤ 9000
   simp only [List.length_append, List.length_cons, List.length_nil]; omega
  ·split
   ·unfold memL
    split <;> split <;> simp only [List.length_append, List.length_cons, List.length_nil] <;> omega
   ·rw [if_neg (by simpa using h8), if_neg (by simpa using h9)]; exact hlb
theorem x_jl (h : rows.map tmpl = x86T) {i : Ins} {r : Rw} {lb : List UInt8} (hm : r ∈ rows) (hi1 : -9223372036854775808 ≤ i.imm) (hi2 : i.imm ≤ 9223372036854775807) (ho1 : -9223372036854775808 ≤ i.off) (ho2 : i.off ≤ 9223372036854775807) (hlb : lb.length ≤ 9000) : (Lib.join (r.parts.map (fun p => opndR (x86L rv rows) p i lb)) [44]).length ≤ 1000000 := by
 obtain ⟨h2, hp⟩ := parts_ok _ (row_in h hm)
 have h2 : r.parts.length ≤ 2 := h2
 have hq : ∀ p ∈ r.parts, (opndR (x86L rv rows) p i lb).length ≤ 9000 := fun p hpp => x_opnd (hp p hpp).2.1 (hp p hpp).2.2 hi1 hi2 ho1 ho2 hlb
 match hr : r.parts with
 | [] => exact Nat.zero_le _
 | [a] =>
  rw [hr] at hq
  rw [List.map_cons, List.map_nil, Lib.join_one]
  exact Nat.le_trans (hq a (List.mem_cons_self ..)) (by decide)
 | [a, b] =>
  rw [hr] at hq
  have ha := hq a (List.mem_cons_self ..)
  have hb := hq b (List.mem_cons_of_mem _ (List.mem_cons_self ..))
  simp only [List.map_cons, List.map_nil, Lib.join, List.intercalate, List.intersperse, List.flatten_cons, List.flatten_nil, List.length_append, List.length_cons, List.length_nil]
  omega
 | a :: b :: c :: l => rw [hr] at h2; simp at h2
theorem x_nz (h : rows.map tmpl = x86T) {r : Rw} (hm : r ∈ rows) (n : Int) : (nameR (x86L rv rows) r n).length ≤ 1000000 := by
 have hk := names_ok _ (row_in h hm)
 unfold nameOKB at hk
 simp only [Bool.and_eq_true, decide_eq_true_eq] at hk
 have h1 : r.name.length ≤ 10 := hk.1.1
 have h2 : ∀ y ∈ [[66], [87], [76], [(81 : UInt8)]], (Lib.replace r.name [42] y 1).length ≤ 100 := fun y hy => of_decide_eq_true (List.all_eq_true.1 hk.2 y hy)
 unfold nameR
 split
 ·next y hy =>
  have : y ∈ [[66], [87], [76], [(81 : UInt8)]] := by
   unfold letF at hy
   split at hy
   ·cases hy; exact (by decide : [66] ∈ [[66], [87], [76], [(81 : UInt8)]])
   ·split at hy
    ·cases hy; exact (by decide : [87] ∈ [[66], [87], [76], [(81 : UInt8)]])
    ·split at hy
     ·cases hy; exact (by decide : [76] ∈ [[66], [87], [76], [(81 : UInt8)]])
     ·split at hy
      ·cases hy; exact (by decide : [81] ∈ [[66], [87], [76], [(81 : UInt8)]])
      ·cases hy
  exact Nat.le_trans (h2 y this) (by decide)
 ·omega
theorem x_no8 (h : rows.map tmpl = x86T) {i : Ins} {r : Rw} (hm : r ∈ rows) : (∀ pt ∈ r.parts, pt = 8 → 1 ≤ i.pred ∧ i.pred ≤ 3) ∧ (∀ pt ∈ r.parts, pt = 9 → 1 ≤ i.succ ∧ i.succ ≤ 3) := by
 obtain ⟨_, hp⟩ := parts_ok _ (row_in h hm)
 exact ⟨fun pt hq e => absurd e (hp pt hq).2.1, fun pt hq e => absurd e (hp pt hq).2.2⟩
end
end Go.Proofs.YtjkbjjlfijhbdaaGreatDoor
namespace Go.Proofs.YtjkbjjlfijhbdaaGreatDoor
open Go.RowKit
set_option linter.defProp false
set_option maxHeartbeats 4000000
set_option maxRecDepth 100000
set_option linter.unusedVariables false
set_option linter.unusedSimpArgs false
theorem ent26 : Ent Tryz.prog 26 = FF := by kernel_rfl
theorem ent27 : Ent Tryz.prog 27 = FF := by kernel_rfl
theorem ent38 : Ent Tryz.prog 38 = FF := by kernel_rfl
theorem print_bad (lg : Lg) (i : Ins) (lb : List UInt8) (w : World) (hw : wrongB i = true) : Calls Tryz.prog 38 #[.agg (lgC lg), .agg (insC i), .string (S lb)] w λ e w' => e = .returned (.tuple #[.string (S (prL lg i lb).1), J (prL lg i lb).2]) ∧ Grow w w' := by
 have b0 := Grow.refl w
 refine enter (n := 68) Tryz.func38 rfl rfl (nb_ rfl) λ _ A=>sw_<|qs A rfl (d_box (wn rfl) (A.ev rfl) λ g3 w4 eg5 hG6 (m7 : Blk w4 g3 (lgC lg) 56)=>?_)
 have ge8 : w.heap.size ≤ g3 := eg5 ▸ b0.size
 have b9 := bls b0 hG6
 intro _ A
 refine qs A rfl (d_box (wn rfl) (A.ev rfl) λ g12 w13 eg14 hG15 (m16 : Blk w13 g12 (insC i) 30)=>?_)
 have ge17 : w.heap.size ≤ g12 := eg14 ▸ b9.size
 have n18 := nn_ eg14 m7
 have m19 := m7.grow hG15
 have b20 := bls b9 hG15
 intro _ A
 refine Z 2 A rfl λ A=>qt_<|ws_<|sw_<|qs A rfl (dlr (cs := (insC i)) (wn rfl) (A.ev rfl) row30 m16 λ _ A=>C A rfl ent63 (iswrong_any i w13) ?_)
 rintro e32 w29 ⟨he31, hG30⟩
 have m33 := m19.grow hG30
 have m34 := m16.grow hG30
 have b35 := bls b20 hG30
 refine ⟨.bool true, he31.trans (ret_bool hw), λ _ A=>qt_<|ct_ A rfl<|sw_<|Z 2 A rfl λ A=>qt_<|we_<|tr_<|ret2 (x := (.string (S []))) (y := (J 34)) rfl A rfl rfl ?_⟩
 have hq42 : prL lg i lb = ([], 34) := by unfold prL; rw [if_pos hw]
 exact ⟨by rw [hq42], b35⟩
theorem xpr_any (rv : Value) (rows : List Rw) (h : rows.map tmpl = x86T) (i : Ins) (lb : List UInt8) (w : World) (hTb : TabOK w.heap.size w (x86L rv rows)) (hi1 : -9223372036854775808 ≤ i.imm) (hi2 : i.imm ≤ 9223372036854775807) (ho1 : -9223372036854775808 ≤ i.off) (ho2 : i.off ≤ 9223372036854775807) (htab : Lib.TabIs Tryz.prog w "internal/strconv.uint64pow10" .u64 Lib.pow10Tab) (m0 : Int) (hm : w.cell? ⟨0, 0, none⟩ = some (J m0)) (ev : Value) (hev1 : w.cell? ⟨1, 0, none⟩ = some ev) (hev2 : ev = .nilIface ∨ ∃ te pe, ev = .iface te pe) (hlb : lb.length ≤ 9000) : Calls Tryz.prog 38 #[.agg (lgC (x86L rv rows)), .agg (insC i), .string (S lb)] w λ e w' => e = .returned (.tuple #[.string (S (prR i lb).1), J (prR i lb).2]) ∧ Grow w w' := by
 rw [← pr_eq i lb, ← pr_x86 rv h i lb]
 cases hw : wrongB i
 ·cases hr : rowF (x86L rv rows) i with
  | none => exact print_none _ i lb w hr hTb hi1 hi2 ho1 ho2 x_rl (show ([36] : List UInt8).length ≤ 100 by decide) htab m0 hm ev hev1 hev2 (by omega)
  | some r =>
   have hm' : r ∈ rows := List.mem_of_find?_eq_some hr
   exact print_some _ i lb r w hr hTb hi1 hi2 ho1 ho2 x_rl (show ([36] : List UInt8).length ≤ 100 by decide) htab m0 hm ev hev1 hev2 (by omega) hm' (x_nm (rv := rv) h r hm').1 x_ll (x_lc h hw hr) (x_no8 h hm').1 (x_no8 h hm').2 (x_jl h hm' hi1 hi2 ho1 ho2 hlb) (x_nz h hm' i.size)
 ·exact print_bad _ i lb w hw
def cLan (M : Nat → Option (Array Value)) (hM : ∀ k, M k = none) : Cl (SM M) :=
 ⟨λ v w => ∃ rv rows, v = .agg (lgC (x86L rv rows)) ∧ rows.map tmpl = x86T ∧ TabOK w.heap.size w (x86L rv rows), λ _ w w' hS ⟨rv, rows, h1, h2, h3⟩ => ⟨rv, rows, h1, h2, h3.to (hS.below (Below.refl _ _) (Nat.le_refl _) (λ k _ => hM k))⟩⟩
theorem xparse_any (tv : Value) (L : List Tk) (w : World) (m0 : Int) (hm : w.cell? ⟨0, 0, none⟩ = some (J m0)) (hTv : Sl tokE 4 w.heap.size w tv L) (hL : L.length ≤ 1000000) : Calls Tryz.prog 11 #[tv] w λ e w' => e = .returned (.tuple #[.agg (insC (parP x86C L).1), .string (S (parP x86C L).2.1), J (parP x86C L).2.2.1, J (parP x86C L).2.2.2]) ∧ Grow w w' := by
 have b0 := Grow.refl w
 refine enter (n := 13) Tryz.func11 rfl rfl (nb_ rfl) λ _ A=>sw_<|qs A rfl (dal (wn rfl) zero30 λ g3 w4 eg5 hG6 (m7 : Blk w4 g3 #[J 0, J 0, J 0, J 0, J 0, J 0, J 0, J 0, J 0, J 0, .bool false, .bool false, .bool false, J 0, J 0, J 0, .bool false] 30)=>?_)
 have ge8 : w.heap.size ≤ g3 := eg5 ▸ b0.size
 have b9 := bls b0 hG6
 intro _ A
 refine Z 3 A rfl λ A=>qt_<|sw_<|C A rfl ent26 (xlang_any w4) ?_
 rintro e21 w18 ⟨rv, rows, he20, hT0, hTb, hG19⟩
 have m22 := m7.grow hG19
 have b23 := bls b9 hG19
 refine ⟨(.agg (lgC (x86L rv rows))), he20, λ _ A=>Z 1 A rfl λ A=>C A rfl ent27 (parse_any (x86L rv rows) tv L w18 hTb (x_nm hT0) x_ll m0 (cell_keep hm b23) (x_un hT0) ((hTv.below b23).mono b23.size) hL) ?_⟩
 rintro e31 w28 ⟨he30, hG29⟩
 have m32 := m22.grow hG29
 have b33 := bls b23 hG29
 refine ⟨(.tuple #[(.agg (insC (parP (x86L rv rows) L).1)), (.string (S ((parP (x86L rv rows) L).2.1))), (J ((parP (x86L rv rows) L).2.2.1)), (J ((parP (x86L rv rows) L).2.2.2))]), he30, λ _ A=>Z 4 A rfl λ A=>qs A rfl (dsr (wn rfl) (A.ev rfl) (A.ev rfl) row30 m32 rfl rfl λ w44 hU45 (m46 : Blk w44 g3 (insC (parP (x86L rv rows) L).1) 30)=>?_)⟩
 have b47 := hU45.below b33 ge8
 intro _ A
 refine Z 3 A rfl λ A=>qt_<|we_<|retC3 (g := g3) (cs := (insC (parP (x86L rv rows) L).1)) (x := (.string (S ((parP (x86L rv rows) L).2.1)))) (y := (J ((parP (x86L rv rows) L).2.2.1))) (z := (J ((parP (x86L rv rows) L).2.2.2))) rfl A rfl rfl rfl rfl m46 row30 ?_
 rw [← pa_x86 (rv := rv) hT0]
 exact ⟨rfl, b47⟩
theorem xprint_any (i : Ins) (lb : List UInt8) (w : World) (hi1 : -9223372036854775808 ≤ i.imm) (hi2 : i.imm ≤ 9223372036854775807) (ho1 : -9223372036854775808 ≤ i.off) (ho2 : i.off ≤ 9223372036854775807) (htab : Lib.TabIs Tryz.prog w "internal/strconv.uint64pow10" .u64 Lib.pow10Tab) (m0 : Int) (hm : w.cell? ⟨0, 0, none⟩ = some (J m0)) (ev : Value) (hev1 : w.cell? ⟨1, 0, none⟩ = some ev) (hev2 : ev = .nilIface ∨ ∃ te pe, ev = .iface te pe) (hlb : lb.length ≤ 9000) : Calls Tryz.prog 13 #[.agg (insC i), .string (S lb)] w λ e w' => e = .returned (.tuple #[.string (S (prR i lb).1), J (prR i lb).2]) ∧ Grow w w' := by
 have b0 := Grow.refl w
 refine enter (n := 12) Tryz.func13 rfl rfl (nb_ rfl) λ _ A=>sw_<|qs A rfl (d_box (wn rfl) (A.ev rfl) λ g3 w4 eg5 hG6 (m7 : Blk w4 g3 (insC i) 30)=>?_)
 have ge8 : w.heap.size ≤ g3 := eg5 ▸ b0.size
 have b9 := bls b0 hG6
 intro _ A
 refine Z 2 A rfl @λ a14 A=>qt_<|ws_ ?_
 have A : St 12 [(1, (.string (S lb))), (2, (.pointer (some ⟨g3, 0, none⟩)))] a14 := A.sub rfl
 let M17 : Nat → Option (Array Value) := λ _ => none
 have hM17 : M17 = λ _ => none := rfl
 clear_value M17
 have hM18 : M17 g3 = none := (congrFun hM17 g3)
 have hM17B : ∀ k, k < w.heap.size → M17 k = none := (λ k hk => (congrFun hM17 k))
 refine drawn (S := SM M17) (tabL [cLan M17 (λ k => congrFun hM17 k), cv (.agg (insC i)), cv (.string (S lb)), cv (.tuple #[(.string (S ((prR i lb).1))), (J ((prR i lb).2))]), cv (.string (S ((prR i lb).1))), cv (J ((prR i lb).2)), cv (.string (S ((prR i lb).1))), cv (J ((prR i lb).2))]) mixedY SM.refl SM.trans SM.drew A (by kernel_rfl) ?_ ?_
 ·skip
  have bD19 := blg b9 ((Grow.refl w4).drew) b9.size
  refine ec_ (λ x y hS hT hk => dcl (wn rfl) ent26 map0 (xlang_any y) (λ _ _ ⟨rv, rows, he, hT, hTb, hG⟩ => ⟨_, he, SM.grow hG, rv, rows, rfl, hT, hTb⟩))<|ec_ (λ x y hS hT hk => dlr (cs := (insC i)) (wn rfl) (hT.ev rfl) row30 (Blk.sm (w := w4.drew) m7 hS hM18) ⟨SM.refl _, rfl⟩)<|ec_ (λ x y hS hT hk => dmv (wn rfl) (hT.ev rfl) ⟨SM.refl _, rfl⟩)<|ec_ (λ x y hS hT hk => (hk 0 rfl).elim λ rv h => h.elim λ rows h => dcl (wn rfl) ent38 (map3 (show x.eval _ = .agg (lgC (x86L rv rows)) from h.1) (show x.eval _ = .agg (insC i) from (hk 1 rfl)) (show x.eval _ = .string (S lb) from (hk 2 rfl))) (xpr_any rv rows h.2.1 i lb y h.2.2 hi1 hi2 ho1 ho2 (tab_keep htab (hS.below bD19 b9.size hM17B)) m0 (cell_keep hm (hS.below bD19 b9.size hM17B)) ev (cell_keep hev1 (hS.below bD19 b9.size hM17B)) hev2 hlb) (λ _ _ ⟨he, hG⟩ => ⟨(.tuple #[(.string (S ((prR i lb).1))), (J ((prR i lb).2))]), he, SM.grow hG, rfl⟩))<|ec_ (λ x y hS hT hk => dex (v := (.string (S ((prR i lb).1)))) (wn rfl) (hk 3 rfl) rfl ⟨SM.refl _, rfl⟩)<|ec_ (λ x y hS hT hk => dex (v := (J ((prR i lb).2))) (wn rfl) (hk 3 rfl) rfl ⟨SM.refl _, rfl⟩)<|ec_ (λ x y hS hT hk => das (wn rfl) (hk 4 rfl) ⟨SM.refl _, rfl⟩)<|ec_ (λ x y hS hT hk => das (wn rfl) (hk 5 rfl) ⟨SM.refl _, rfl⟩) ?_
  exact each_nil
 intro f20 a21 w22 hS23 hC24 A
 have A : St 12 [(4, (.string (S ((prR i lb).1)))), (5, (J ((prR i lb).2)))] a21 := A.cut _ (fc ((A.g 4 rfl).trans (hC24 6 (nb_ rfl))) (fc ((A.g 5 rfl).trans (hC24 7 (nb_ rfl))) fn_))
 have m27 := m7.sm hS23 hM18
 have b28 := hS23.below b9 b9.size hM17B
 refine tn_<|we_<|ret2 (x := (.string (S ((prR i lb).1)))) (y := (J ((prR i lb).2))) rfl A rfl rfl ?_
 exact ⟨rfl, b28⟩
end Go.Proofs.YtjkbjjlfijhbdaaGreatDoor
namespace Go.Proofs.YtjkbjjlfijhbdaaGreatDoor
set_option linter.defProp false
set_option maxHeartbeats 4000000
set_option maxRecDepth 100000
set_option linter.unusedVariables false
set_option linter.unusedSimpArgs false
def txt5 : List UInt8 := [77, 79, 86, 76, 32, 91, 120, 43, 52, 93, 44, 82, 66, 88]
def ins5 : Ins := ⟨5, -1, 1, -1, 0, 0, 4, -1, 4, 0, false, false, false, 0, 0, 0, false⟩
set_option maxRecDepth 100000 in
theorem tok5 : (tokensR txt5).2.1 = 0 ∧ (tokensR txt5).2.2 = 0 := by decide +kernel
set_option maxRecDepth 100000 in
theorem par5 : parP x86C (tokensR txt5).1 = (ins5, [], 0, 0) := by decide +kernel
set_option maxRecDepth 100000 in
theorem par0 : parP x86C [] = (zIns, [], 24, 0) := by decide +kernel
set_option maxRecDepth 100000 in
theorem prt5 : prR ins5 [] = (txt5, 0) := by decide +kernel
theorem reg3 : regF (nameF 3) = 3 := by decide +kernel
theorem len5 : (tokensR txt5).1.length ≤ 1000000 := by decide +kernel
end Go.Proofs.YtjkbjjlfijhbdaaGreatDoor
namespace Go.Proofs.YtjkbjjlfijhbdaaGreatDoor
open Go.RowKit
set_option linter.defProp false
set_option maxHeartbeats 4000000
set_option maxRecDepth 100000
set_option linter.unusedVariables false
set_option linter.unusedSimpArgs false
theorem ent11 : Ent Tryz.prog 11 = FF := by kernel_rfl
theorem ent13 : Ent Tryz.prog 13 = FF := by kernel_rfl
theorem ent15 : Ent Tryz.prog 15 = FF := by kernel_rfl
theorem ent17 : Ent Tryz.prog 17 = FF := by kernel_rfl
theorem able5_any  (w : World) (htab : Lib.TabIs Tryz.prog w "internal/strconv.uint64pow10" .u64 Lib.pow10Tab) (m0 : Int) (hm : w.cell? ⟨0, 0, none⟩ = some (J m0)) (ev : Value) (hev1 : w.cell? ⟨1, 0, none⟩ = some ev) (hev2 : ev = .nilIface ∨ ∃ te pe, ev = .iface te pe) : Calls Tryz.prog 9 #[] w λ e w' => e = .returned (.bool true) ∧ Grow w w' := by
 have b0 := Grow.refl w
 refine enter (n := 66) Tryz.func9 rfl rfl (nb_ rfl) λ _ A=>sw_<|Z 1 A rfl λ A=>qt_<|sw_<|C A rfl ent10 (tokens_any txt5 w (by decide) m0 (cell_keep hm b0) ev (cell_keep hev1 b0) hev2) ?_
 rintro e8 w5 ⟨v9, he7, ho10, hG6⟩
 have b12 := bls b0 hG6
 have hS11 := own_gen tokE_len ho10
 have b13 : Below w5.heap.size w5 w5 := Below.refl _ _
 refine ⟨(.tuple #[v9, (J 0), (J 0)]), he7.trans (by rw [tok5.1, tok5.2] <;> rfl), λ _ A=>Z 7 A rfl λ A=>qt_<|sw_<|Z 1 A rfl λ A=>C A rfl ent11 (xparse_any v9 (tokensR txt5).1 w5 m0 (cell_keep hm (Grow.trans b12 b13)) ((hS11.below b13).mono b13.size) len5) ?_⟩
 rintro e35 w32 ⟨he34, hG33⟩
 have b36 := bls b13 hG33
 refine ⟨(.tuple #[(.agg #[J 5, J (-1), J 1, J (-1), J 0, J 0, J 4, J (-1), J 4, J 0, .bool false, .bool false, .bool false, J 0, J 0, J 0, .bool false]), (.string (S [])), (J 0), (J 0)]), he34.trans (by rw [par5] <;> rfl), λ _ A=>Z 5 A rfl λ A=>qs A rfl (dal (wn rfl) zero30 λ g49 w50 eg51 hG52 (m53 : Blk w50 g49 #[J 0, J 0, J 0, J 0, J 0, J 0, J 0, J 0, J 0, J 0, .bool false, .bool false, .bool false, J 0, J 0, J 0, .bool false] 30)=>?_)⟩
 have ge54 : w5.heap.size ≤ g49 := eg51 ▸ b36.size
 have b55 := bls b36 hG52
 intro _ A
 refine qs A rfl (dsr (wn rfl) (A.ev rfl) (A.ev rfl) row30 m53 rfl rfl λ w58 hU59 (m60 : Blk w58 g49 #[J 5, J (-1), J 1, J (-1), J 0, J 0, J 4, J (-1), J 4, J 0, .bool false, .bool false, .bool false, J 0, J 0, J 0, .bool false] 30)=>?_)
 have b61 := hU59.below b55 ge54
 intro _ A
 refine Z 3 A rfl λ A=>qt_<|sw_<|qs A rfl (dlr (cs := #[J 5, J (-1), J 1, J (-1), J 0, J 0, J 4, J (-1), J 4, J 0, .bool false, .bool false, .bool false, J 0, J 0, J 0, .bool false]) (wn rfl) (A.ev rfl) row30 m60 λ _ A=>Z 1 A rfl λ A=>C A rfl ent13 (xprint_any ins5 [] w58 (by decide) (by decide) (by decide) (by decide) (tab_keep htab (Grow.trans b12 b61)) m0 (cell_keep hm (Grow.trans b12 b61)) ev (cell_keep hev1 (Grow.trans b12 b61)) hev2 (by decide)) ?_)
 rintro e77 w74 ⟨he76, hG75⟩
 have m78 := m60.grow hG75
 have b79 := bls b61 hG75
 refine ⟨(.tuple #[(.string (S txt5)), (J 0)]), he76.trans (by rw [prt5] <;> rfl), λ _ A=>Z 5 A rfl λ A=>qt_<|sw_<|C A rfl ent11 (xparse_any (.slice none 0 0) [] w74 m0 (cell_keep hm (Grow.trans b12 b79)) Sl.nil (by decide)) ?_⟩
 rintro e95 w92 ⟨he94, hG93⟩
 have m96 := m78.grow hG93
 have b97 := bls b79 hG93
 refine ⟨(.tuple #[(.agg #[J 0, J 0, J 0, J 0, J 0, J 0, J 0, J 0, J 0, J 0, .bool false, .bool false, .bool false, J 0, J 0, J 0, .bool false]), (.string (S [])), (J 24), (J 0)]), he94.trans (by rw [par0] <;> rfl), λ _ A=>Z 5 A rfl λ A=>qs A rfl (dal (wn rfl) zero30 λ g110 w111 eg112 hG113 (m114 : Blk w111 g110 #[J 0, J 0, J 0, J 0, J 0, J 0, J 0, J 0, J 0, J 0, .bool false, .bool false, .bool false, J 0, J 0, J 0, .bool false] 30)=>?_)⟩
 have ge115 : w5.heap.size ≤ g110 := eg112 ▸ b97.size
 have n116 := nn_ eg112 m96
 have m117 := m96.grow hG113
 have b118 := bls b97 hG113
 intro _ A
 refine qs A rfl (dsr (wn rfl) (A.ev rfl) (A.ev rfl) row30 m114 rfl rfl λ w121 hU122 (m123 : Blk w121 g110 #[J 0, J 0, J 0, J 0, J 0, J 0, J 0, J 0, J 0, J 0, .bool false, .bool false, .bool false, J 0, J 0, J 0, .bool false] 30)=>?_)
 have m124 := m117.upd hU122 n116
 have b125 := hU122.below b118 ge115
 intro _ A
 refine Z 3 A rfl λ A=>qt_<|sw_<|Z 1 A rfl λ A=>B2 A rfl (b_eq _ _ 0 0 true _ rfl) λ A=>Z 2 A rfl λ A=>B2 A rfl (b_eq _ _ 0 0 true _ rfl) λ A=>Z 3 A rfl λ A=>B2 A rfl (b_seq (l := txt5) (m := txt5) (r := true) (eqL_same _)) λ A=>Z 2 A rfl λ A=>F1 A rfl fo30_0 λ A=>qs A rfl (dld (v := (J 5)) (wy rfl rfl (A.g 48 rfl)) (A.ev rfl) one3 (m124.cell rfl) λ _ A=>?_)
 refine B2 A rfl (b_eq _ _ 5 5 true _ rfl) λ A=>Z 3 A rfl λ A=>B2 A rfl (b_eq _ _ 24 24 true _ rfl) λ A=>Z 3 A rfl λ A=>B2 A rfl (b_eq _ _ 0 0 true _ rfl) λ A=>Z 2 A rfl λ A=>C A rfl ent15 (xname_any 3 w121) ?_
 rintro e185 w182 ⟨he184, hG183⟩
 have m186 := m124.grow hG183
 have m187 := m123.grow hG183
 have b188 := bls b125 hG183
 refine ⟨(.string (S (nameF 3))), he184, λ _ A=>C A rfl ent17 (xreg_any (nameF 3) w182) ?_⟩
 rintro e194 w191 ⟨he193, hG192⟩
 have m195 := m186.grow hG192
 have m196 := m187.grow hG192
 have b197 := bls b188 hG192
 refine ⟨(J (regF (nameF 3))), he193, λ _ A=>B2 A rfl (b_eq _ _ (regF (nameF 3)) 3 true _ (beq_iff_eq.2 reg3)) λ A=>Z 2 A rfl @λ a204 A=>qe_ ?_⟩
 have A : St 66 [(0, (.bool true))] a204 := A.sub rfl
 refine tn_<|we_<|ret1 rfl A (v := (.bool true)) rfl ?_
 exact ⟨rfl, (Grow.trans b12 b197)⟩
theorem ent14 : Ent Tryz.prog 14 = FF := by kernel_rfl
theorem ent9 : Ent Tryz.prog 9 = FF := by kernel_rfl
theorem x86Prints_law (i : Ins) (lb : List UInt8) (r : Int) (q : List UInt8) (w : World) (hsum : lb.length + q.length ≤ 9223372036854775807) (hi1 : -9223372036854775808 ≤ i.imm) (hi2 : i.imm ≤ 9223372036854775807) (ho1 : -9223372036854775808 ≤ i.off) (ho2 : i.off ≤ 9223372036854775807) (htab : Lib.TabIs Tryz.prog w "internal/strconv.uint64pow10" .u64 Lib.pow10Tab) (m0 : Int) (hm : w.cell? ⟨0, 0, none⟩ = some (J m0)) (ev : Value) (hev1 : w.cell? ⟨1, 0, none⟩ = some ev) (hev2 : ev = .nilIface ∨ ∃ te pe, ev = .iface te pe) : Calls Tryz.prog 4 #[.agg (insC i), .string (S lb), J r, .string (S q)] w λ e w' => e = .returned (.bool true) ∧ Grow w w' := by
 have b0 := Grow.refl w
 refine enter (n := 55) Tryz.func4 rfl rfl (nb_ rfl) λ _ A=>sw_<|qs A rfl (d_box (wn rfl) (A.ev rfl) λ g3 w4 eg5 hG6 (m7 : Blk w4 g3 (insC i) 30)=>?_)
 have ge8 : w.heap.size ≤ g3 := eg5 ▸ b0.size
 have b9 := bls b0 hG6
 intro _ A
 refine Z 1 A rfl λ A=>qt_<|ws_<|sw_<|C A rfl ent9 (able5_any w4 (tab_keep htab b9) m0 (cell_keep hm b9) ev (cell_keep hev1 b9) hev2) ?_
 rintro e17 w14 ⟨he16, hG15⟩
 have m18 := m7.grow hG15
 have b19 := bls b9 hG15
 refine ⟨(.bool true), he16, λ _ A=>Z 1 A rfl λ A=>qt_<|cf_ A rfl<|wk_<|tn_<|ws_<|sw_<|Z 1 A rfl λ A=>qs A rfl (d_slen (wn rfl) (A.ev rfl) str9 λ _ A=>Z 1 A rfl λ A=>qs A rfl (d_slen (wn rfl) (A.ev rfl) str9 λ _ A=>?_))⟩
 refine B2 A rfl (b_addE (lb.length + q.length) (by omega) (by omega)) λ A=>?_
 rcases eb_ (decide (((lb.length + q.length : Nat) : Int) > 8000)) with hb34 | hb34
 ·skip
  have hq35 := dt_ hb34
  refine B2 A rfl (bg hb34) λ A=>qt_<|ct_ A rfl<|sw_<|Z 1 A rfl λ A=>qt_<|we_<|tr_<|ret1 rfl A (v := (.bool true)) rfl ?_
  exact ⟨rfl, b19⟩
 have hq40 := df_ hb34
 refine B2 A rfl (bg hb34) λ A=>qt_<|cf_ A rfl<|wk_<|tn_<|sw_<|qs A rfl (dlr (cs := (insC i)) (wn rfl) (A.ev rfl) row30 m18 λ _ A=>Z 1 A rfl λ A=>C A rfl ent13 (xprint_any i lb w14 hi1 hi2 ho1 ho2 (tab_keep htab b19) m0 (cell_keep hm b19) ev (cell_keep hev1 b19) hev2 (by omega)) ?_)
 rintro e50 w47 ⟨he49, hG48⟩
 have m51 := m18.grow hG48
 have b52 := bls b19 hG48
 refine ⟨(.tuple #[(.string (S ((prR i lb).1))), (J ((prR i lb).2))]), he49, λ _ A=>Z 5 A rfl λ A=>qt_<|sw_<|qs A rfl (dlr (cs := (insC i)) (wn rfl) (A.ev rfl) row30 m51 λ _ A=>Z 1 A rfl λ A=>C A rfl ent14 (rprint_any i lb w47 ho1 ho2 hi1 hi2 (by omega)) ?_)⟩
 rintro e72 w69 ⟨he71, hG70⟩
 have m73 := m51.grow hG70
 have b74 := bls b52 hG70
 refine ⟨(.tuple #[(.string (S ((prR i lb).1))), (J ((prR i lb).2))]), he71, λ _ A=>Z 5 A rfl λ A=>qt_<|sw_<|Z 2 A rfl λ A=>B2 A rfl (b_seq (l := (prR i lb).1) (m := (prR i lb).1) (r := true) (eqL_same _)) λ A=>Z 3 A rfl λ A=>B2 A rfl (b_eq _ _ ((prR i lb).2) ((prR i lb).2) true _ (beq_self_eq_true _)) λ A=>Z 3 A rfl λ A=>C A rfl ent15 (xname_any r w69) ?_⟩
 rintro e110 w107 ⟨he109, hG108⟩
 have m111 := m73.grow hG108
 have b112 := bls b74 hG108
 refine ⟨(.string (S (nameF r))), he109, λ _ A=>Z 1 A rfl λ A=>C A rfl ent16 (rname_any r w107) ?_⟩
 rintro e120 w117 ⟨he119, hG118⟩
 have m121 := m111.grow hG118
 have b122 := bls b112 hG118
 refine ⟨(.string (S (nameF r))), he119, λ _ A=>B2 A rfl (b_seq (l := nameF r) (m := nameF r) (r := true) (eqL_same _)) λ A=>Z 3 A rfl λ A=>C A rfl ent17 (xreg_any q w117) ?_⟩
 rintro e136 w133 ⟨he135, hG134⟩
 have m137 := m121.grow hG134
 have b138 := bls b122 hG134
 refine ⟨(J (regF q)), he135, λ _ A=>Z 1 A rfl λ A=>C A rfl ent18 (rregn_any q w133) ?_⟩
 rintro e146 w143 ⟨he145, hG144⟩
 have m147 := m137.grow hG144
 have b148 := bls b138 hG144
 refine ⟨(J (regF q)), he145, λ _ A=>B2 A rfl (b_eq _ _ (regF q) (regF q) true _ (beq_self_eq_true _)) λ A=>Z 2 A rfl @λ a155 A=>qe_ ?_⟩
 have A : St 55 [(8, (.bool true))] a155 := A.sub rfl
 refine tn_<|we_<|ret1 rfl A (v := (.bool true)) rfl ?_
 exact ⟨rfl, b148⟩
end Go.Proofs.YtjkbjjlfijhbdaaGreatDoor
namespace Go.Proofs.YtjkbjjlfijhbdaaGreatDoor
open Go.ChangeShapes Go.WideShapes Go.ChangeAt Go.RowKit
set_option linter.defProp false
set_option maxHeartbeats 4000000
set_option maxRecDepth 100000
set_option linter.unusedVariables false
set_option linter.unusedSimpArgs false
def insT (k : Nat) : Nat := if k == 10 || k == 11 || k == 12 || k == 16 then 4 else 3
def insFs (P : Program) : Option (Array Field) := match P.underlying 30 with | some (.struct fs) => some fs | _ => none
def insFB (P : Program) : Bool := match insFs P with | some fs => (List.range 17).all (fun k => match fs[k]? with | some f => f.offset == k && f.type == insT k | none => false) | none => false
theorem insFB_true : insFB Tryz.prog = true := by kernel_rfl
theorem ins_fields : ∃ fs : Array Field, Tryz.prog.underlying 30 = some (.struct fs) ∧ ∀ k, k < 17 → ∃ f, fs[k]? = some f ∧ f.offset = k ∧ f.type = insT k := by
 have h := insFB_true
 unfold insFB at h
 cases hq : insFs Tryz.prog with
 | none => simp [hq] at h
 | some fs =>
  rw [hq] at h
  refine ⟨fs, ?_, fun k hk => ?_⟩
  ·unfold insFs at hq
   split at hq
   ·rename_i fs' he; rw [he]; cases hq; rfl
   ·cases hq
  ·have h1 := List.all_eq_true.1 h k (List.mem_range.2 hk)
   cases hf : fs[k]? with
   | none => simp [hf] at h1
   | some f => rw [hf] at h1; simp only [Bool.and_eq_true, beq_iff_eq] at h1; exact ⟨f, rfl, h1.1, h1.2⟩
theorem ins_cells : Tryz.prog.cellsOf 30 = 17 := by kernel_rfl
theorem int_cells : Tryz.prog.cellsOf 3 = 1 := by kernel_rfl
theorem bool_cells : Tryz.prog.cellsOf 4 = 1 := by kernel_rfl
theorem take_one {l : List Value} {k : Nat} {v : Value} (h : (l.drop k).take 1 = [v]) : l[k]? = some v := by
 have := congrArg (fun l => l[0]?) h
 simpa using this
theorem open_ins {H : Type} {enc : TypeId × Value → H} {W : World} {base : Nat} {spare : Nat → Bool} {held : Bool} {base' : Nat} {v : Value} {d : DataW H} {ps : List MemPlace}
  (hv : Value.okWide Tryz.prog W .any base 30 v) (h : DataW.Trod enc Tryz.prog W base' spare held 30 v d ps) : ∃ i : Ins, v = .agg (insC i) := by
 obtain ⟨fs, hu, hfs⟩ := ins_fields
 obtain ⟨cs, rfl, hsz⟩ := okWide_struct hu hv
 rw [ins_cells] at hsz
 obtain ⟨fuel, hf⟩ := h
 obtain ⟨xs, n, _, _, _, hlen, hx⟩ := DataW.trod_struct hu hf
 have int : ∀ k, k < 17 → insT k = 3 → ∃ m : Int, cs.toList[k]? = some (.int .i64 m) := fun k hk ht => by
  obtain ⟨f, hf1, ho, hty⟩ := hfs k hk
  have h1 := hx k f hf1
  have hl := (Array.getElem?_eq_some_iff.1 hf1).1
  rw [ho, hty, ht, int_cells, List.getElem?_eq_getElem (by omega)] at h1
  obtain ⟨m, h2, _, _⟩ := DataW.trod_int Tryz.underlying3 h1
  exact ⟨m, take_one h2⟩
 have bool : ∀ k, k < 17 → insT k = 4 → ∃ b : Bool, cs.toList[k]? = some (.bool b) := fun k hk ht => by
  obtain ⟨f, hf1, ho, hty⟩ := hfs k hk
  have h1 := hx k f hf1
  have hl := (Array.getElem?_eq_some_iff.1 hf1).1
  rw [ho, hty, ht, bool_cells, List.getElem?_eq_getElem (by omega)] at h1
  obtain ⟨m, h2, _⟩ := DataW.trod_bool Tryz.underlying4 h1
  exact ⟨m, take_one h2⟩
 obtain ⟨c0, h0⟩ := int 0 (by decide) rfl
 obtain ⟨c1, h1⟩ := int 1 (by decide) rfl
 obtain ⟨c2, h2⟩ := int 2 (by decide) rfl
 obtain ⟨c3, h3⟩ := int 3 (by decide) rfl
 obtain ⟨c4, h4⟩ := int 4 (by decide) rfl
 obtain ⟨c5, h5⟩ := int 5 (by decide) rfl
 obtain ⟨c6, h6⟩ := int 6 (by decide) rfl
 obtain ⟨c7, h7⟩ := int 7 (by decide) rfl
 obtain ⟨c8, h8⟩ := int 8 (by decide) rfl
 obtain ⟨c9, h9⟩ := int 9 (by decide) rfl
 obtain ⟨c10, h10⟩ := bool 10 (by decide) rfl
 obtain ⟨c11, h11⟩ := bool 11 (by decide) rfl
 obtain ⟨c12, h12⟩ := bool 12 (by decide) rfl
 obtain ⟨c13, h13⟩ := int 13 (by decide) rfl
 obtain ⟨c14, h14⟩ := int 14 (by decide) rfl
 obtain ⟨c15, h15⟩ := int 15 (by decide) rfl
 obtain ⟨c16, h16⟩ := bool 16 (by decide) rfl
 refine ⟨⟨c0, c1, c2, c3, c4, c5, c6, c7, c8, c9, c10, c11, c12, c13, c14, c15, c16⟩, congrArg Value.agg ?_⟩
 apply Array.ext'
 apply List.ext_getElem?
 intro k
 by_cases hk : k < 17
 ·have : k = 0 ∨ k = 1 ∨ k = 2 ∨ k = 3 ∨ k = 4 ∨ k = 5 ∨ k = 6 ∨ k = 7 ∨ k = 8 ∨ k = 9 ∨ k = 10 ∨ k = 11 ∨ k = 12 ∨ k = 13 ∨ k = 14 ∨ k = 15 ∨ k = 16 := by omega
  rcases this with rfl | rfl | rfl | rfl | rfl | rfl | rfl | rfl | rfl | rfl | rfl | rfl | rfl | rfl | rfl | rfl | rfl
  ·exact h0
  ·exact h1
  ·exact h2
  ·exact h3
  ·exact h4
  ·exact h5
  ·exact h6
  ·exact h7
  ·exact h8
  ·exact h9
  ·exact h10
  ·exact h11
  ·exact h12
  ·exact h13
  ·exact h14
  ·exact h15
  ·exact h16
 ·rw [List.getElem?_eq_none (by simp; omega), List.getElem?_eq_none (by simp [insC]; omega)]
theorem wf_rng {n : Int} (h : (Lit.int .i64 n).wf = true) : -9223372036854775808 ≤ n ∧ n ≤ 9223372036854775807 := by
 have h' : (decide ((IntKind.i64).min ≤ n) && decide (n ≤ (IntKind.i64).max)) = true := h
 rw [Bool.and_eq_true, decide_eq_true_eq, decide_eq_true_eq, show (IntKind.i64).min = -9223372036854775808 from rfl, show (IntKind.i64).max = 9223372036854775807 from rfl] at h'
 exact h'
theorem ins_rng {H : Type} {enc : TypeId × Value → H} {W : World} {spare : Nat → Bool} {held : Bool} {base' : Nat} {i : Ins} {d : DataW H} {ps : List MemPlace}
  (h : DataW.Trod enc Tryz.prog W base' spare held 30 (.agg (insC i)) d ps) : (-9223372036854775808 ≤ i.imm ∧ i.imm ≤ 9223372036854775807) ∧ (-9223372036854775808 ≤ i.off ∧ i.off ≤ 9223372036854775807) := by
 obtain ⟨fs, hu, hfs⟩ := ins_fields
 obtain ⟨fuel, hf⟩ := h
 obtain ⟨xs, n, _, _, _, hlen, hx⟩ := DataW.trod_struct hu hf
 have int : ∀ k, k < 17 → insT k = 3 → ∀ m : Int, (insC i).toList[k]? = some (.int .i64 m) → -9223372036854775808 ≤ m ∧ m ≤ 9223372036854775807 := fun k hk ht m hm => by
  obtain ⟨f, hf1, ho, hty⟩ := hfs k hk
  have h1 := hx k f hf1
  have hl := (Array.getElem?_eq_some_iff.1 hf1).1
  rw [ho, hty, ht, int_cells, List.getElem?_eq_getElem (by omega)] at h1
  obtain ⟨m', h2, _, hw⟩ := DataW.trod_int Tryz.underlying3 h1
  have e := take_one h2
  have e2 : (insC i).toList[k]? = some (.int .i64 m') := e
  rw [hm] at e2
  cases e2
  exact wf_rng hw
 exact ⟨int 4 (by decide) rfl i.imm rfl, int 6 (by decide) rfl i.off rfl⟩
end Go.Proofs.YtjkbjjlfijhbdaaGreatDoor
