/- ScPlays, part 6: the engine, contracts, theory. -/
import Derived.Test.YtbbdanhpphlbpaaGreatDoorScPlaysP5
import Derived.Shelf.Spec.SlicesGrow
import Derived.LoopN
import Derived.WalkSmall
import Derived.ProofKit
import Derived.OpenShut
import Derived.ChangeOld
import Derived.Deep.Slices
import Derived.Lib.LaidTab
set_option linter.unusedVariables false
set_option linter.unusedSimpArgs false
set_option linter.unusedSectionVars false
set_option maxRecDepth 100000
set_option maxHeartbeats 2000000
namespace Go.Proofs.YtbbdanhpphlbpaaGreatDoor
open Go.Shelf Go.RowKit
def LD:Go.Shelf.Ren:=⟨fun|4=>232|n=>n,fun|22=>173|25=>203|n=>n,fun|n=>n⟩
theorem SS:Go.Proofs.Lays8.n4 Tryz.prog LD:={
 mixed:=by kernel_rfl
 f4:=⟨"slices.Grow[[]belated/lang.Row,belated/lang.Row]",by decide,Tryz.func232.trans (congrArg some (by kernel_rfl))⟩
 t0:=Tryz.underlying0
 a0:=Tryz.isAgg0
 z0:=Tryz.sizeOf0
 v0:=Tryz.zeroValue0
 t3:=Tryz.underlying3
 a3:=Tryz.isAgg3
 z3:=Tryz.sizeOf3
 v3:=Tryz.zeroValue3
 t4:=Tryz.underlying4
 a4:=Tryz.isAgg4
 z4:=Tryz.sizeOf4
 v4:=Tryz.zeroValue4
 t9:=Tryz.underlying9
 a9:=Tryz.isAgg9
 z9:=Tryz.sizeOf9
 v9:=Tryz.zeroValue9
 t20:=Tryz.underlying20
 a20:=Tryz.isAgg20
 z20:=Tryz.sizeOf20
 v20:=Tryz.zeroValue20
 t22:=Tryz.underlying173
 a22:=Tryz.isAgg173
 z22:=Tryz.sizeOf173
 v22:=Tryz.zeroValue173}
theorem Ue:∃ti z,Tryz.prog.info? 203=some ti∧ti.zero=some z∧z.cells.size=20∧ti.size=20∧ti.bytes≤100000:=by
 have h:(Tryz.prog.info? 203).map (fun ti=>(ti.zero.map (fun z=>z.cells.size),ti.size,Nat.ble ti.bytes 100000))=some (some 20,20,true):=by kernel_rfl
 cases e:Tryz.prog.info? 203 with
 |none=>rw [e]at h;cases h
 | some ti=>
  rw [e]at h
  simp only [Option.map_some,Option.some.injEq,Prod.mk.injEq]at h
  obtain⟨h1,h2,h3⟩:=h
  cases ez:ti.zero with
  |none=>rw [ez]at h1;cases h1
  |some z=>
   rw [ez]at h1
   simp only [Option.map_some,Option.some.injEq]at h1
   exact⟨ti,z,rfl,ez,h1,h2,Nat.le_of_ble_eq_true h3⟩
theorem Vs (k:Nat)(h0:0<k)(hk:k≤1000000):Jf Tryz.prog 232 [.sla none 0 0,.int .i64 k] [] (fun x w w'=>∃(L:List Rw) (b cp:Nat),x=.sla (some ⟨b,0,none⟩) 0 cp∧L=[]∧w.heap.size≤b∧Bm 203 20 0 (fun zz=>iX (L.getD zz Rw.z)) b cp w'):=by
 refine⟨by kernel_rfl,fun G w vs hM hv=>?_⟩
 have mJ:some [Value.slice none 0 0,.int .i64 k]=some vs:=hv
 cases mJ
 obtain⟨ti,z,e1,e2,e3,e4,e5⟩:=Ue
 have hc:=Any8.slices_Grow_grow SS ti z e1 e2 (by omega) none 0 0 k [] w (Nat.le_refl _) (by omega) (by
  have:(0+k)*ti.bytes≤1000000*100000:=Nat.mul_le_mul (by omega) e5
  omega) (by omega) (by simp) (fun _=>rfl) (fun a ha=>by cases ha)
 refine hc.mono ?_
 rintro e w' ⟨rfl,rfl⟩
 have y3:=grownCap_ge w (0+k) 0 203
 refine⟨.sla (some ⟨w.heap.size,0,none⟩) 0 (grownCap w (0+k) 0 203),_,rfl,rfl,((BW.refl w).drew).alloc _,[],w.heap.size,_,rfl,rfl,Nat.le_refl _,fun k=>⟨_,rfl,rfl⟩,[],rfl,?_⟩
 refine World.ownsRow_made w.drew _ _ (Nat.zero_le _) (grownCap_le_maxLen w (0+k) 0 203 (by unfold maxLen;omega)) ?_
 show(([]:List Value).toArray++Builtin.zeroCells z.cells (0+k - 0)++Builtin.zeroCells z.cells (grownCap w (0+k) 0 203 - (0+k))).size=_
 simp only [Array.size_append,List.size_toArray,List.length_nil,size_zeroCells,e3]
 omega
end Go.Proofs.YtbbdanhpphlbpaaGreatDoor
namespace Go.Proofs.YtbbdanhpphlbpaaGreatDoor
open Go.RowKit
set_option simprocs false
def r5:List (List UInt8×Int):=[([97,100,100],1),([115,117,98],2),([120,111,114],3),([97,110,100],4),([111,114],5)]
theorem X2:∀k,(r5.getD k nz).1.length≤3
 |0=>by decide
 |1=>by decide
 |2=>by decide
 |3=>by decide
 |4=>by decide
 |k+5=>by simp [r5,List.getD]
abbrev Pi (x:List UInt8×Int)(b1:Nat):Rw:=⟨x.1,[],IK 3 x.2,some ⟨b1,0,none⟩,[1,2,3],3⟩
abbrev Pj (x:List UInt8×Int)(b2:Nat):Rw:=⟨x.1++[105],[],IK 3 x.2,some ⟨b2,0,none⟩,[1,2,5],3⟩
def KL:List (List UInt8×List UInt8×In×List Int):=r5.flatMap fun x=>[(x.1,[],IK 3 x.2,[1,2,3]),(x.1++[105],[],IK 3 x.2,[1,2,5])]
structure RC (lo:Nat)(z:List Rw×Nat)(w:World)(ks:List Nat):Prop where
 le:z.2≤5
 tm:z.1.map tm=KL.take (2*z.2)
 rw:RowsIn lo z.1 w ks
theorem RC.len {lo:Nat}{z:List Rw×Nat}{w:World}{ks:List Nat}(h:RC lo z w ks):z.1.length=2*z.2:=by
 have h1:=congrArg List.length h.tm
 rw [List.length_map,List.length_take]at h1
 have h2:KL.length=10:=by decide
 have:=h.le
 omega
theorem RC.nx {lo b1 b2:Nat}{z:List Rw×Nat}{w w1:World}{ks ks1:List Nat}{l:List (Nat×List SV)}(h:RC lo z w ks)(hk:(z.2:Int)<5)(hr:RowsIn lo z.1 w1 ks1)(hA:Acc lo [(b2,[.int .i64 1,.int .i64 2,.int .i64 5]),(b1,[.int .i64 1,.int .i64 2,.int .i64 3])] w1 ks1):RC lo (z.1++[Pi (r5.getD ((z.2:Int)).toNat nz) b1,Pj (r5.getD ((z.2:Int)).toNat nz) b2],z.2+1) w1 ks1:=by
 refine⟨by have:=h.le;show z.2+1≤5;omega,?_,fun r l5=>?_⟩
 ·show List.map _ (z.1++_)=_
  rw [List.map_append,h.tm,Int.toNat_natCast]
  have:z.2=0∨z.2=1∨z.2=2∨z.2=3∨z.2=4:=by omega
  rcases this with e|e|e|e|e<;>rw [e]<;>rfl
 ·rcases List.mem_append.1 l5 with h1|h1
  ·exact hr r h1
  ·simp only [List.mem_cons,List.mem_nil_iff,or_false]at h1
   rcases h1 with rfl|rfl
   ·exact Ao (cs:=[]) [1,2,3] hA (List.mem_cons_of_mem _ (List.mem_cons_self))
   ·exact Ao (cs:=[]) [1,2,5] hA (List.mem_cons_self)
theorem X3:Jf Tryz.prog 194 [] [] (fun x w w'=>∃(L:List Rw) (b cp:Nat),x=.sla (some ⟨b,0,none⟩) 10 cp∧(L.map tm=KL∧RowsIn w.heap.size L w' [b])∧w.heap.size≤b∧Bm 203 20 10 (fun zz=>iX (L.getD zz Rw.z)) b cp w'):=
 DJ (n:=37) (by kernel_rfl) Tryz.func194 rfl rfl rfl fun G w a h0 A=>N9 13 A rfl rfl fun A=>have A:=A.asT nz Ho 2 NP.1 NP.2.1 NP.2.2 r5 0 rfl;N9 17 A rfl rfl fun A=>have A:=A.nilRow 2 203 20 (fun zz=>iX (([]:List Rw).getD zz Rw.z)) rfl (fun z=>⟨_,rfl,rfl⟩);Ew (fun(z:List Rw×Nat)=>[(0,.sla none 0 0),(2,.sl 1 z.1.length 0),(12,.sl 0 5 5),(13,.int .i64 ((5:Nat):Int)),(14,.int .i64 (z.2:Int))]) (fun(z:List Rw×Nat)=>[some (.lst 2 5 (fun zz=>Ho (r5.getD zz nz))),some (.row 203 20 z.1.length 0 (fun zz=>iX (z.1.getD zz Rw.z)))]) (fun z w1 ks1=>RC w.heap.size z w1 ks1) (fun z=>5 - z.2) ([],0) (A.cut [0,2,12,13,14] rfl) ⟨by decide,rfl,fun r hr=>by cases hr⟩ fun z G1 a1 w1 hJ hg A B=>have hA:Acc w.heap.size [] w1 _:=Acc.nil;have hR:=hJ.rw;
 N9 6 A rfl rfl fun A=>AL 15 A rfl
   (fun h1 A=>N9 14 A rfl (iU (by omega)<|iU (by omega)<|iT) fun A=>N9 4 A rfl rfl fun A=>have A:=AB A 20 (.agg [.int .i64 3,.z9,.z9,.z9,.z9,.z9,.z9,.z9,.z9,.int .i64 ((r5.getD (((z.2:Int)).toNat) nz).2),.bool false,.bool false,.bool false,.z9,.z9,.z9,.bool false]) rfl (fun _=>rfl);N9 9 A rfl rfl fun A=>lZ [.int .i64 1,.int .i64 2,.int .i64 3] (X:=⟨_,true⟩) hX RowsIn.ok B hA hR A rfl rfl rfl rfl fun b1 B hA hR A=>
 N9 5 A rfl (iU (by have q:=X2 ((z.2:Int)).toNat;(try simp only [List.length_append,List.length_cons,List.length_nil]);omega)<|iT) fun A=>lZ [.int .i64 1,.int .i64 2,.int .i64 5] (X:=⟨_,true⟩) hX RowsIn.ok B hA hR A rfl rfl rfl rfl fun b2 B hA hR A=>
 N9 2 A rfl rfl fun A=>have A:=A.asT Rw.z iX 20 k7.1 k7.2.1 k7.2.2 [Pi (r5.getD (((z.2:Int)).toNat) nz) b1,Pj (r5.getD (((z.2:Int)).toNat) nz) b2] 4 rfl;AW A rfl (GG hX ((z.1++[Pi (r5.getD (((z.2:Int)).toNat) nz) b1,Pj (r5.getD (((z.2:Int)).toNat) nz) b2]).length) (fun zz=>iX ((z.1++[Pi (r5.getD (((z.2:Int)).toNat) nz) b1,Pj (r5.getD (((z.2:Int)).toNat) nz) b2]).getD zz Rw.z)) rfl rfl rfl rfl (Nat.le_refl _) (by have:=hJ.len;have:=hJ.le;omega) (by decide) List.length_append (fun k hk=>by show iX _=iX _;rw [i6 hk]) (fun k hk=>by show iX _=iX _;rw [Bh]) (fun z=>⟨_,rfl,rfl⟩) (fun k hk=>⟨_,rfl,iT⟩)) fun A=>
 N9 8 A rfl (iU (by omega)<|iT) fun A=>⟨(z.1++[Pi (r5.getD (((z.2:Int)).toNat) nz) b1,Pj (r5.getD (((z.2:Int)).toNat) nz) b2],z.2+1),_,(by have:=h1;show _ - _<_ - _;omega),(hJ.nx (l:=[]) h1 (RowsIn.ok _ _ _ _ hR A.mix fun b hb=>A.keys_own b ((BQ (H:=[some (.lst 2 5 (fun zz=>Ho (r5.getD zz nz))),none,some (.blk [.str ((r5.getD (((z.2:Int)).toNat) nz).1),.int .i64 ((r5.getD (((z.2:Int)).toNat) nz).2)]),some (.blk [.int .i64 3,.z9,.z9,.z9,.z9,.z9,.z9,.z9,.z9,.int .i64 ((r5.getD (((z.2:Int)).toNat) nz).2),.bool false,.bool false,.bool false,.z9,.z9,.z9,.bool false]),some (.lst 20 ([Pi (r5.getD (((z.2:Int)).toNat) nz) b1,Pj (r5.getD (((z.2:Int)).toNat) nz) b2].length) (fun zz=>iX ([Pi (r5.getD (((z.2:Int)).toNat) nz) b1,Pj (r5.getD (((z.2:Int)).toNat) nz) b2].getD zz Rw.z))),some (.row 203 20 ((z.1++[Pi (r5.getD (((z.2:Int)).toNat) nz) b1,Pj (r5.getD (((z.2:Int)).toNat) nz) b2]).length) 0 (fun zz=>iX ((z.1++[Pi (r5.getD (((z.2:Int)).toNat) nz) b1,Pj (r5.getD (((z.2:Int)).toNat) nz) b2]).getD zz Rw.z)))]) (m:=[0,5]) A.mem.len rfl rfl) b hb)) (hA.go A.mix fun b hb=>A.keys_own b ((BQ (H:=[some (.lst 2 5 (fun zz=>Ho (r5.getD zz nz))),none,some (.blk [.str ((r5.getD (((z.2:Int)).toNat) nz).1),.int .i64 ((r5.getD (((z.2:Int)).toNat) nz).2)]),some (.blk [.int .i64 3,.z9,.z9,.z9,.z9,.z9,.z9,.z9,.z9,.int .i64 ((r5.getD (((z.2:Int)).toNat) nz).2),.bool false,.bool false,.bool false,.z9,.z9,.z9,.bool false]),some (.lst 20 ([Pi (r5.getD (((z.2:Int)).toNat) nz) b1,Pj (r5.getD (((z.2:Int)).toNat) nz) b2].length) (fun zz=>iX ([Pi (r5.getD (((z.2:Int)).toNat) nz) b1,Pj (r5.getD (((z.2:Int)).toNat) nz) b2].getD zz Rw.z))),some (.row 203 20 ((z.1++[Pi (r5.getD (((z.2:Int)).toNat) nz) b1,Pj (r5.getD (((z.2:Int)).toNat) nz) b2]).length) 0 (fun zz=>iX ((z.1++[Pi (r5.getD (((z.2:Int)).toNat) nz) b1,Pj (r5.getD (((z.2:Int)).toNat) nz) b2]).getD zz Rw.z)))]) (m:=[0,5]) A.mem.len rfl rfl) b hb))),((B.trans A).cut [0,2,12,13,14] rfl).mv 0 [0,5] rfl rfl rfl rfl (by simp only [List.length_nil]at h0;omega)⟩)
   (fun h1 A=>N9 10 A rfl rfl fun A=>(have e5:z.2=5:=(by have:=hJ.le;omega);have e:z.1.length=10:=(by have:=hJ.len;omega);match A.giveRow 1 0 (by omega) rfl rfl rfl with|⟨b,cp,A2,hG,ho,hk⟩=>HY (J:=fun x w w'=>∃(L:List Rw) (b cp:Nat),x=.sla (some ⟨b,0,none⟩) 10 cp∧(L.map tm=KL∧RowsIn w.heap.size L w' [b])∧w.heap.size≤b∧Bm 203 20 10 (fun zz=>iX (L.getD zz Rw.z)) b cp w') hX (B.trans A2) (fun i e he=>Bj he) rfl rfl rfl rfl ⟨z.1,b,cp,(by show SV.sla _ z.1.length cp=_;rw [e]),⟨(by have h2:=hJ.tm;rw [e5]at h2;exact h2),(RowsIn.ok _ _ _ _ hJ.rw A.mix fun b2 hb=>by have:b2=b:=(by simpa using hb);rw [this];exact ho)⟩,Gg B (fun i e he=>Bj he) ho,(by rw [←e];exact hG)⟩))
abbrev sz:List UInt8×Bool×Bool:=([],false,false)
def LF (x:List UInt8×Bool×Bool):List SV:=[.str x.1,.bool x.2.1,.bool x.2.2]
theorem X4:(∀x,(LF x).length=3)∧(∀x,Fw 0 (LF x)=true)∧(∀x,∃vs,AE [] (LF x)=some vs):=⟨fun _=>rfl,fun _=>rfl,fun _=>⟨_,rfl⟩⟩
def a2:List (List UInt8×Int):=[([97,109,111,115,119,97,112,46,42],6),([97,109,111,97,100,100,46,42],1)]
def s4:List (List UInt8×Bool×Bool):=[([],false,false),([46,97,113],true,false),([46,114,108],false,true),([46,97,113,46,114,108],true,true)]
theorem l4:∀k,(a2.getD k nz).1.length≤100
 |0=>by decide
 |1=>by decide
 |k+2=>by simp [a2,List.getD]
theorem LG:∀k,(s4.getD k sz).1.length≤100
 |0=>by decide
 |1=>by decide
 |2=>by decide
 |3=>by decide
 |k+4=>by simp [s4,List.getD]
def SU (x:List UInt8×Int)(y:List UInt8×Bool×Bool):In:=⟨6,0,0,0,0,0,0,0,0,x.2,y.2.1,false,y.2.2,0,0,0,false⟩
abbrev Pk (x:List UInt8×Int)(y:List UInt8×Bool×Bool)(b1:Nat):Rw:=⟨x.1++y.1,[],SU x y,some ⟨b1,0,none⟩,[1,2,6],3⟩
def KM:List (List UInt8×List UInt8×In×List Int):=a2.flatMap fun x=>s4.map fun y=>(x.1++y.1,[],SU x y,[1,2,6])
structure RA (lo n:Nat)(L:List Rw)(w:World)(ks:List Nat):Prop where
 tm:L.map tm=KM.take n
 rw:RowsIn lo L w ks
theorem RA.len {lo n:Nat}{L:List Rw}{w:World}{ks:List Nat}(h:RA lo n L w ks):L.length≤8∧(n≤8→L.length=n):=by
 have h1:=congrArg List.length h.tm
 rw [List.length_map,List.length_take]at h1
 have h2:KM.length=8:=by decide
 omega
theorem RA.nx {lo b1 k j:Nat}{L:List Rw}{w w1:World}{ks ks1:List Nat}(h:RA lo (4*k+j) L w ks)(hk:k<2)(hj:j<4)(hr:RowsIn lo L w1 ks1)(hA:Acc lo [(b1,[.int .i64 1,.int .i64 2,.int .i64 6])] w1 ks1):RA lo (4*k+(j+1)) (L++[Pk (a2.getD ((k:Int)).toNat nz) (s4.getD ((j:Int)).toNat sz) b1]) w1 ks1:=by
 refine⟨?_,fun r l5=>?_⟩
 ·rw [List.map_append,h.tm,Int.toNat_natCast,Int.toNat_natCast]
  have q1:k=0∨k=1:=by omega
  have q2:j=0∨j=1∨j=2∨j=3:=by omega
  rcases q1 with e|e<;>rcases q2 with e2|e2|e2|e2<;>rw [e,e2]<;>rfl
 ·rcases List.mem_append.1 l5 with h1|h1
  ·exact hr r h1
  ·simp only [List.mem_cons,List.mem_nil_iff,or_false]at h1
   subst h1
   exact Ao (cs:=[]) [1,2,6] hA List.mem_cons_self
theorem X5:Jf Tryz.prog 195 [] [] (fun x w w'=>∃(L:List Rw) (b cp:Nat),x=.sla (some ⟨b,0,none⟩) 8 cp∧(L.map tm=KM∧RowsIn w.heap.size L w' [b])∧w.heap.size≤b∧Bm 203 20 8 (fun zz=>iX (L.getD zz Rw.z)) b cp w'):=
 DJ (n:=50) (by kernel_rfl) Tryz.func195 rfl rfl rfl fun G w a h0 A=>N9 10 A rfl rfl fun A=>have A:=A.asT nz Ho 2 NP.1 NP.2.1 NP.2.2 a2 0 rfl;N9 6 A rfl rfl fun A=>have A:=AB A 12 (.agg [.str [],.bool false,.bool false]) rfl (fun _=>rfl);N9 1 A rfl rfl fun A=>have A:=AB A 13 (.agg [.str [46,97,113],.bool true,.bool false]) rfl (fun _=>rfl);N9 1 A rfl rfl fun A=>have A:=AB A 14 (.agg [.str [46,114,108],.bool false,.bool true]) rfl (fun _=>rfl);N9 1 A rfl rfl fun A=>have A:=AB A 15 (.agg [.str [46,97,113,46,114,108],.bool true,.bool true]) rfl (fun _=>rfl);N9 1 A rfl rfl fun A=>have A:=A.asT sz LF 3 X4.1 X4.2.1 X4.2.2 s4 1 rfl;N9 17 A rfl rfl fun A=>have A:=A.nilRow 3 203 20 (fun zz=>iX (([]:List Rw).getD zz Rw.z)) rfl (fun z=>⟨_,rfl,rfl⟩);Ew (fun(z:List Rw×Nat)=>[(0,.sla none 0 0),(2,.sl 1 4 4),(3,.sl 2 z.1.length 0),(17,.sl 0 2 2),(18,.int .i64 ((2:Nat):Int)),(19,.int .i64 (z.2:Int))]) (fun(z:List Rw×Nat)=>[some (.lst 2 2 (fun zz=>Ho (a2.getD zz nz))),some (.lst 3 4 (fun zz=>LF (s4.getD zz sz))),some (.row 203 20 z.1.length 0 (fun zz=>iX (z.1.getD zz Rw.z)))]) (fun z w1 ks1=>z.2≤2∧RA w.heap.size (4*z.2) z.1 w1 ks1) (fun z=>2 - z.2) ([],0) (A.cut [0,2,3,17,18,19] rfl) ⟨by decide,⟨rfl,fun r hr=>by cases hr⟩⟩ fun z G1 a1 w1 hJ hg A B=>have mD:=hJ.1;have hR:=hJ.2.rw;
 N9 6 A rfl rfl fun A=>AL 20 A rfl
   (fun h1 A=>N9 14 A rfl (iU (by omega)<|iU (by omega)<|iT) fun A=>N9 7 A rfl rfl fun A=>have hR:=RowsIn.ok _ _ _ _ hR A.mix A.keys_own;Ew (fun(y:List Rw×Nat)=>[(0,.sla none 0 0),(2,.sl 1 4 4),(3,.sl 2 y.1.length 0),(5,.ptr 3 0),(17,.sl 0 2 2),(18,.int .i64 ((2:Nat):Int)),(19,.int .i64 (z.2:Int)),(23,.sl 1 4 4),(24,.int .i64 ((4:Nat):Int)),(25,.int .i64 (y.2:Int))]) (fun(y:List Rw×Nat)=>[some (.lst 2 2 (fun zz=>Ho (a2.getD zz nz))),some (.lst 3 4 (fun zz=>LF (s4.getD zz sz))),some (.row 203 20 y.1.length 0 (fun zz=>iX (y.1.getD zz Rw.z))),some (.blk [.str ((a2.getD (((z.2:Int)).toNat) nz).1),.int .i64 ((a2.getD (((z.2:Int)).toNat) nz).2)])]) (fun y w1 ks1=>y.2≤4∧RA w.heap.size (4*z.2+y.2) y.1 w1 ks1) (fun y=>4 - y.2) (z.1,0) ((B.trans A).cut [0,2,3,5,17,18,19,23,24,25] rfl) ⟨Nat.zero_le 4,⟨hJ.2.tm,hR⟩⟩ fun y G1 a1 w1 hJ hg A B=>have hA:Acc w.heap.size [] w1 _:=Acc.nil;have hR:=hJ.2.rw;
 N9 6 A rfl rfl fun A=>AL 26 A rfl
     (fun h2 A=>N9 14 A rfl (iU (by omega)<|iU (by omega)<|iT) fun A=>N9 8 A rfl rfl fun A=>have A:=AB A 35 (.agg [.int .i64 6,.z9,.z9,.z9,.z9,.z9,.z9,.z9,.z9,.int .i64 ((a2.getD (((z.2:Int)).toNat) nz).2),.bool ((s4.getD (((y.2:Int)).toNat) sz).2.1),.bool false,.bool ((s4.getD (((y.2:Int)).toNat) sz).2.2),.z9,.z9,.z9,.bool false]) rfl (fun _=>rfl);N9 12 A rfl (iU (by have q:=l4 ((z.2:Int)).toNat;have q2:=LG ((y.2:Int)).toNat;(try simp only [List.length_append,List.length_cons,List.length_nil]);omega)<|iT) fun A=>lZ [.int .i64 1,.int .i64 2,.int .i64 6] (X:=⟨_,true⟩) hX RowsIn.ok B hA hR A rfl rfl rfl rfl fun b1 B hA hR A=>
 N9 2 A rfl rfl fun A=>have A:=A.asT Rw.z iX 20 k7.1 k7.2.1 k7.2.2 [Pk (a2.getD (((z.2:Int)).toNat) nz) (s4.getD (((y.2:Int)).toNat) sz) b1] 6 rfl;AW A rfl (GG hX ((y.1++[Pk (a2.getD (((z.2:Int)).toNat) nz) (s4.getD (((y.2:Int)).toNat) sz) b1]).length) (fun zz=>iX ((y.1++[Pk (a2.getD (((z.2:Int)).toNat) nz) (s4.getD (((y.2:Int)).toNat) sz) b1]).getD zz Rw.z)) rfl rfl rfl rfl (Nat.le_refl _) (by have:=hJ.2.len;have:=hJ.1;omega) (by decide) List.length_append (fun k hk=>by show iX _=iX _;rw [i6 hk]) (fun k hk=>by show iX _=iX _;rw [Bh]) (fun z=>⟨_,rfl,rfl⟩) (fun k hk=>⟨_,rfl,iT⟩)) fun A=>
 N9 8 A rfl (iU (by omega)<|iT) fun A=>⟨(y.1++[Pk (a2.getD (((z.2:Int)).toNat) nz) (s4.getD (((y.2:Int)).toNat) sz) b1],y.2+1),_,(by have:=h2;show _ - _<_ - _;omega),⟨by have:=h2;show y.2+1≤4;omega,hJ.2.nx (by omega) (by omega) (RowsIn.ok _ _ _ _ hR A.mix fun b hb=>A.keys_own b ((BQ (H:=[some (.lst 2 2 (fun zz=>Ho (a2.getD zz nz))),some (.lst 3 4 (fun zz=>LF (s4.getD zz sz))),none,some (.blk [.str ((a2.getD (((z.2:Int)).toNat) nz).1),.int .i64 ((a2.getD (((z.2:Int)).toNat) nz).2)]),some (.blk [.str ((s4.getD (((y.2:Int)).toNat) sz).1),.bool ((s4.getD (((y.2:Int)).toNat) sz).2.1),.bool ((s4.getD (((y.2:Int)).toNat) sz).2.2)]),some (.blk [.int .i64 6,.z9,.z9,.z9,.z9,.z9,.z9,.z9,.z9,.int .i64 ((a2.getD (((z.2:Int)).toNat) nz).2),.bool ((s4.getD (((y.2:Int)).toNat) sz).2.1),.bool false,.bool ((s4.getD (((y.2:Int)).toNat) sz).2.2),.z9,.z9,.z9,.bool false]),some (.lst 20 ([Pk (a2.getD (((z.2:Int)).toNat) nz) (s4.getD (((y.2:Int)).toNat) sz) b1].length) (fun zz=>iX ([Pk (a2.getD (((z.2:Int)).toNat) nz) (s4.getD (((y.2:Int)).toNat) sz) b1].getD zz Rw.z))),some (.row 203 20 ((y.1++[Pk (a2.getD (((z.2:Int)).toNat) nz) (s4.getD (((y.2:Int)).toNat) sz) b1]).length) 0 (fun zz=>iX ((y.1++[Pk (a2.getD (((z.2:Int)).toNat) nz) (s4.getD (((y.2:Int)).toNat) sz) b1]).getD zz Rw.z)))]) (m:=[0,1,7,3]) A.mem.len rfl rfl) b hb)) (hA.go A.mix fun b hb=>A.keys_own b ((BQ (H:=[some (.lst 2 2 (fun zz=>Ho (a2.getD zz nz))),some (.lst 3 4 (fun zz=>LF (s4.getD zz sz))),none,some (.blk [.str ((a2.getD (((z.2:Int)).toNat) nz).1),.int .i64 ((a2.getD (((z.2:Int)).toNat) nz).2)]),some (.blk [.str ((s4.getD (((y.2:Int)).toNat) sz).1),.bool ((s4.getD (((y.2:Int)).toNat) sz).2.1),.bool ((s4.getD (((y.2:Int)).toNat) sz).2.2)]),some (.blk [.int .i64 6,.z9,.z9,.z9,.z9,.z9,.z9,.z9,.z9,.int .i64 ((a2.getD (((z.2:Int)).toNat) nz).2),.bool ((s4.getD (((y.2:Int)).toNat) sz).2.1),.bool false,.bool ((s4.getD (((y.2:Int)).toNat) sz).2.2),.z9,.z9,.z9,.bool false]),some (.lst 20 ([Pk (a2.getD (((z.2:Int)).toNat) nz) (s4.getD (((y.2:Int)).toNat) sz) b1].length) (fun zz=>iX ([Pk (a2.getD (((z.2:Int)).toNat) nz) (s4.getD (((y.2:Int)).toNat) sz) b1].getD zz Rw.z))),some (.row 203 20 ((y.1++[Pk (a2.getD (((z.2:Int)).toNat) nz) (s4.getD (((y.2:Int)).toNat) sz) b1]).length) 0 (fun zz=>iX ((y.1++[Pk (a2.getD (((z.2:Int)).toNat) nz) (s4.getD (((y.2:Int)).toNat) sz) b1]).getD zz Rw.z)))]) (m:=[0,1,7,3]) A.mem.len rfl rfl) b hb))⟩,((B.trans A).cut [0,2,3,5,17,18,19,23,24,25] rfl).mv 0 [0,1,7,3] rfl rfl rfl rfl (by simp only [List.length_nil]at h0;omega)⟩)
     (fun h2 A=>N9 8 A rfl (iU (by omega)<|iT) fun A=>⟨(y.1,z.2+1),_,(by have:=h1;show _ - _<_ - _;omega),⟨by have:=h1;show z.2+1≤2;omega,⟨(by have q:=hJ.2.tm;have q1:=hJ.1;rw [show 4*z.2+y.2=4*(z.2+1) by omega]at q;exact q),RowsIn.ok _ _ _ _ hJ.2.rw A.mix fun b hb=>A.keys_own b ((BQ (H:=[some (.lst 2 2 (fun zz=>Ho (a2.getD zz nz))),some (.lst 3 4 (fun zz=>LF (s4.getD zz sz))),some (.row 203 20 y.1.length 0 (fun zz=>iX (y.1.getD zz Rw.z))),some (.blk [.str ((a2.getD (((z.2:Int)).toNat) nz).1),.int .i64 ((a2.getD (((z.2:Int)).toNat) nz).2)])]) (m:=[0,1,2]) A.mem.len rfl rfl) b hb)⟩⟩,((B.trans A).cut [0,2,3,17,18,19] rfl).mv 0 [0,1,2] rfl rfl rfl rfl (by simp only [List.length_nil]at h0;omega)⟩))
   (fun h1 A=>N9 10 A rfl rfl fun A=>(have e5:z.2=2:=(by have:=hJ.1;omega);have e:z.1.length=8:=(by have:=hJ.2.len;omega);match A.giveRow 2 0 (by omega) rfl rfl rfl with|⟨b,cp,A2,hG,ho,hk⟩=>HY (J:=fun x w w'=>∃(L:List Rw) (b cp:Nat),x=.sla (some ⟨b,0,none⟩) 8 cp∧(L.map tm=KM∧RowsIn w.heap.size L w' [b])∧w.heap.size≤b∧Bm 203 20 8 (fun zz=>iX (L.getD zz Rw.z)) b cp w') hX (B.trans A2) (fun i e he=>Bj he) rfl rfl rfl rfl ⟨z.1,b,cp,(by show SV.sla _ z.1.length cp=_;rw [e]),⟨(by have h2:=hJ.2.tm;rw [e5]at h2;exact h2),(RowsIn.ok _ _ _ _ hJ.2.rw A.mix fun b2 hb=>by have:b2=b:=(by simpa using hb);rw [this];exact ho)⟩,Gg B (fun i e he=>Bj he) ho,(by rw [←e];exact hG)⟩))
section
variable {P:Program}{n:Nat}{ks:List Nat}{G0:Gr}{w0:World}{T:List (Nat×SV)}{H:Hp}{G:Gr}{a:Act}{w w':World}{Q:Exit→Act→World→Prop}{K:List Fr}{ops:Array Oper}{o:Oper}{rest:List Oper}{c:Code}
theorem Jp {q:Nat}(h:Goal P Q (.lp (Code.rounds P c (Fa P Q K) q)::K) (.code c) a w):Code.rounds P c (Fa P Q K) (q+1) a w:=h
theorem bH (q:Nat)(h:Code.rounds P c (Fa P Q K) q a w):Goal P Q K (.code (.loop c)) a w:=wp_loop_rounds q h
theorem JQ {β:Type} {e s m t f:Nat} {az:List SV} {F:β→Nat→List SV} {R:β→Nat→World→World→Prop} (hf:Jf P f az [] (fun x w w'=>∃(L:β) (b cp:Nat),x=.sla (some ⟨b,0,none⟩) m cp∧R L b w w'∧w.heap.size≤b∧Bm e s m (F L) b cp w')) (A:Sy n T H ks G0 w0 G a w) (hd:o.dst=some t) (h1:BS n ops T o=some (f,az)) (h2:DU [] az=some az)
  (k:∀L b cp a' w' G',R L b w w'→w.heap.size≤b→(∀k,(keys (H++[some (.row e s m 0 (F L))]) G').contains k=true→k<w.heap.size∨k=b)→Sy n ((t,.sl H.length m 0)::Ay T o.dst (.sla (some ⟨b,0,none⟩) m cp)) (H++[some (.row e s m 0 (F L))]) ks G0 w0 G' a' w'→Goal P Q K (.ops ops rest) a' w'):Goal P Q K (.ops ops (o::rest)) a w:=by
 refine Iw [] hf A h1 h2 rfl rfl rfl fun x a' w' hJ hk A'=>?_
 obtain⟨L,b,cp,rfl,hR,jO,hg⟩:=hJ
 have hl:look (Ay T o.dst (.sla (some ⟨b,0,none⟩) m cp)) t=some (.sla (some ⟨b,0,none⟩) m cp):=by rw [hd];simp [Ay,look,Nat.beq_refl]
 have A2:=A'.takeRow t hg (fun i e L q1 q2 q3=>by
  have:=A.mem.ent i e q1
  rw [q2]at this
  have:=Ae.lt this q3
  omega) (Nat.le_trans A.mix.size jO) hl
 refine k L b cp a' w' _ hR jO (fun k jQ=>?_) A2
 obtain⟨i,e',M,q1,q2,q3,q4⟩:=mem_keys.1 jQ
 have hlen:=A.mem.len
 by_cases hi:i<H.length
 ·rw [List.getElem?_append_left hi]at q1
  rw [List.getElem?_append_left (by omega)]at q3
  exact .inl (hk k (mem_keys.2 ⟨i,e',M,q1,q2,q3,q4⟩))
 ·right
  have mB:i=G.length:=by
   have:=(List.getElem?_eq_some_iff.1 q3).1
   simp at this
   omega
  subst mB
  rw [List.getElem?_append_right (Nat.le_refl _)]at q3
  simp at q3
  rw [←q4,←q3]
end
theorem FW {i o s m k:Nat}(j:Nat){q:Nat}(hq:o+j*s+k=q):∀G,den G (.ix (.ptr i o) s m (j:Int) k)=den G (.ptr i q):=fun G=>by
 subst hq
 unfold den
 cases hG:G[i]? with
 |none=>unfold den;rw [hG]
 |some p=>cases p with
  |none=>unfold den;rw [hG]
  |some L=>unfold den;rw [hG];simp [Nat.add_assoc]
theorem Uf (L1 L2 L3:List Rw) (c1 c2 c3:Nat) (l1:L1.length=10) (l12:(L1++L2).length=18):Fn Tryz.prog 193 [.sl 0 3 3] [some (.blk [.sl 1 10 c1,.sl 2 8 c2,.sl 3 7 c3]),some (.lst 20 10 (fun zz=>iX (L1.getD zz Rw.z))),some (.lst 20 8 (fun zz=>iX (L2.getD zz Rw.z))),some (.lst 20 7 (fun zz=>iX (L3.getD zz Rw.z)))] (Rt (.sl 4 25 0) [some (.blk [.sl 1 10 c1,.sl 2 8 c2,.sl 3 7 c3]),some (.lst 20 10 (fun zz=>iX (L1.getD zz Rw.z))),some (.lst 20 8 (fun zz=>iX (L2.getD zz Rw.z))),some (.lst 20 7 (fun zz=>iX (L3.getD zz Rw.z))),some (.row 203 20 25 0 (fun zz=>iX (((L1++L2)++L3).getD zz Rw.z)))]):=
 AG (n:=36) (by kernel_rfl) Tryz.func193 rfl rfl rfl fun G w a h0 A=>N9 15 A rfl rfl fun A=>have A:=AB A 10 (.int .i64 3) rfl (fun _=>rfl);N9 1 A rfl rfl fun A=>N9 3 A rfl rfl fun A=>bH 4 (Jp (have A:=A.cut [0,2,3,9,10,11] rfl;
 N9 6 A rfl rfl fun A=>AL 12 A rfl
   (fun h1 A=>N9 8 A rfl (iU (by omega)<|iT) fun A=>have A:=AB A 13 (.ptr 0 0) rfl (FW 0 rfl);N9 7 A rfl rfl fun A=>N9 2 A rfl rfl fun A=>have A:=AB A 17 (.int .i64 10) rfl (fun _=>rfl);N9 1 A rfl (iU (by omega)<|iT) fun A=>have A:=AB A 18 (.int .i64 10) rfl (fun _=>rfl);N9 6 A rfl rfl fun A=>N9 3 A rfl rfl fun A=>AL 20 A rfl
    (fun h2 A=>absurd h2 (by decide))
    (fun h2 A=>N9 6 A rfl (iU (by omega)<|iT) fun A=>have A:=AB A 22 (.int .i64 1) rfl (fun _=>rfl);N9 1 A rfl rfl fun A=>N9 1 A rfl rfl fun A=>Jp (have A:=A.cut [0,2,3,9,10,11] rfl;
 N9 6 A rfl rfl fun A=>AL 12 A rfl
     (fun h3 A=>N9 8 A rfl (iU (by omega)<|iT) fun A=>have A:=AB A 13 (.ptr 0 1) rfl (FW 1 rfl);N9 7 A rfl rfl fun A=>N9 2 A rfl rfl fun A=>have A:=AB A 17 (.int .i64 8) rfl (fun _=>rfl);N9 1 A rfl (iU (by omega)<|iT) fun A=>have A:=AB A 18 (.int .i64 18) rfl (fun _=>rfl);N9 6 A rfl rfl fun A=>N9 3 A rfl rfl fun A=>AL 20 A rfl
      (fun h4 A=>absurd h4 (by decide))
      (fun h4 A=>N9 6 A rfl (iU (by omega)<|iT) fun A=>have A:=AB A 22 (.int .i64 2) rfl (fun _=>rfl);N9 1 A rfl rfl fun A=>N9 1 A rfl rfl fun A=>Jp (have A:=A.cut [0,2,3,9,10,11] rfl;
 N9 6 A rfl rfl fun A=>AL 12 A rfl
       (fun h5 A=>N9 8 A rfl (iU (by omega)<|iT) fun A=>have A:=AB A 13 (.ptr 0 2) rfl (FW 2 rfl);N9 7 A rfl rfl fun A=>N9 2 A rfl rfl fun A=>have A:=AB A 17 (.int .i64 7) rfl (fun _=>rfl);N9 1 A rfl (iU (by omega)<|iT) fun A=>have A:=AB A 18 (.int .i64 25) rfl (fun _=>rfl);N9 6 A rfl rfl fun A=>N9 3 A rfl rfl fun A=>AL 20 A rfl
        (fun h6 A=>absurd h6 (by decide))
        (fun h6 A=>N9 6 A rfl (iU (by omega)<|iT) fun A=>have A:=AB A 22 (.int .i64 3) rfl (fun _=>rfl);N9 1 A rfl rfl fun A=>N9 1 A rfl rfl fun A=>Jp (have A:=A.cut [0,2,3,9,10,11] rfl;
 N9 6 A rfl rfl fun A=>AL 12 A rfl
         (fun h7 A=>absurd h7 (by decide))
         (fun h7 A=>N9 6 A rfl rfl fun A=>JQ (t:=24) (F:=fun(L:List Rw) zz=>iX (L.getD zz Rw.z)) (R:=fun L b w w'=>L=[]) (Vs 25 (by decide) (by decide)) A rfl rfl rfl fun L b1 cp1 a1 w1 G1 hR jO hk A=>
 N9 8 A rfl rfl fun A=>have A:=AB A 26 (.int .i64 3) rfl (fun _=>rfl);N9 1 A rfl rfl fun A=>N9 3 A rfl rfl fun A=>bH 4 (Jp (have A:=A.cut [2,6,25,26,27] rfl;
 N9 6 A rfl rfl fun A=>AL 28 A rfl
           (fun h8 A=>N9 8 A rfl (iU (by omega)<|iT) fun A=>have A:=AB A 29 (.ptr 0 0) rfl (FW 0 rfl);N9 7 A rfl rfl fun A=>AW A rfl (GG hX 10 (fun zz=>iX (L1.getD zz Rw.z)) rfl rfl rfl rfl (Nat.le_refl _) (by decide) (show 10≤1000000 by decide) rfl (fun k hk=>absurd hk (Nat.not_lt_zero k)) (fun k hk=>by show iX (L1.getD (0+k) Rw.z)=iX _;rw [Nat.zero_add]) (fun z=>⟨_,rfl,rfl⟩) (fun k hk=>⟨_,rfl,iT⟩)) fun A=>
 N9 6 A rfl (iU (by omega)<|iT) fun A=>have A:=AB A 34 (.int .i64 1) rfl (fun _=>rfl);N9 1 A rfl rfl fun A=>N9 1 A rfl rfl fun A=>Jp (have A:=A.cut [2,6,25,26,27] rfl;
 N9 6 A rfl rfl fun A=>AL 28 A rfl
            (fun h9 A=>N9 8 A rfl (iU (by omega)<|iT) fun A=>have A:=AB A 29 (.ptr 0 1) rfl (FW 1 rfl);N9 7 A rfl rfl fun A=>AW A rfl (GG hX 18 (fun zz=>iX ((L1++L2).getD zz Rw.z)) rfl rfl rfl rfl (Nat.le_refl _) (by decide) (show 8≤1000000 by decide) rfl (fun k hk=>by show iX _=iX _;rw [i6 (by rw [l1];exact hk)]) (fun k hk=>by show iX ((L1++L2).getD (10+k) Rw.z)=iX _;rw [show 10+k=L1.length+k by rw [l1],Bh]) (fun z=>⟨_,rfl,rfl⟩) (fun k hk=>⟨_,rfl,iT⟩)) fun A=>
 N9 6 A rfl (iU (by omega)<|iT) fun A=>have A:=AB A 34 (.int .i64 2) rfl (fun _=>rfl);N9 1 A rfl rfl fun A=>N9 1 A rfl rfl fun A=>Jp (have A:=A.cut [2,6,25,26,27] rfl;
 N9 6 A rfl rfl fun A=>AL 28 A rfl
             (fun kH A=>N9 8 A rfl (iU (by omega)<|iT) fun A=>have A:=AB A 29 (.ptr 0 2) rfl (FW 2 rfl);N9 7 A rfl rfl fun A=>AW A rfl (GG hX 25 (fun zz=>iX (((L1++L2)++L3).getD zz Rw.z)) rfl rfl rfl rfl (Nat.le_refl _) (by decide) (show 7≤1000000 by decide) rfl (fun k hk=>by show iX _=iX _;rw [i6 (by rw [l12];exact hk)]) (fun k hk=>by show iX (((L1++L2)++L3).getD (18+k) Rw.z)=iX _;rw [show 18+k=(L1++L2).length+k by rw [l12],Bh]) (fun z=>⟨_,rfl,rfl⟩) (fun k hk=>⟨_,rfl,iT⟩)) fun A=>
 N9 6 A rfl (iU (by omega)<|iT) fun A=>have A:=AB A 34 (.int .i64 3) rfl (fun _=>rfl);N9 1 A rfl rfl fun A=>N9 1 A rfl rfl fun A=>Jp (have A:=A.cut [2,6,25,26,27] rfl;
 N9 6 A rfl rfl fun A=>AL 28 A rfl
              (fun kF A=>absurd kF (by decide))
              (fun kF A=>N9 10 A rfl rfl fun A=>Mj hX [7] A ⟨rfl,rfl⟩ rfl rfl rfl rfl rfl rfl rfl rfl h0)))
             (fun kH A=>absurd (by decide) kH)))
            (fun h9 A=>absurd (by decide) h9)))
           (fun h8 A=>absurd (by decide) h8)))))))
       (fun h5 A=>absurd (by decide) h5))))
     (fun h3 A=>absurd (by decide) h3))))
   (fun h1 A=>absurd (by decide) h1)))
abbrev DW (b1 b2 b3 b4 b5 b6 b7 b8:Nat):List (Nat×List SV):=[(b8,[.str [108,105],.str [],.int .i64 1,.z9,.z9,.z9,.z9,.z9,.z9,.z9,.z9,.z9,.ff,.ff,.ff,.z9,.z9,.z9,.ff,.sla (some ⟨b1,0,none⟩) 2 2,.str [109,118],.str [],.int .i64 2,.z9,.z9,.z9,.z9,.z9,.z9,.z9,.z9,.z9,.ff,.ff,.ff,.z9,.z9,.z9,.ff,.sla (some ⟨b2,0,none⟩) 2 2,.str [108,42],.str [],.int .i64 4,.z9,.z9,.z9,.z9,.z9,.z9,.z9,.z9,.z9,.ff,.ff,.ff,.z9,.z9,.z9,.ff,.sla (some ⟨b3,0,none⟩) 2 2,.str [115,42],.str [],.int .i64 5,.z9,.z9,.z9,.z9,.z9,.z9,.z9,.z9,.z9,.ff,.ff,.ff,.z9,.z9,.z9,.ff,.sla (some ⟨b4,0,none⟩) 2 2,.str [102,101,110,99,101],.str [],.int .i64 7,.z9,.z9,.z9,.z9,.z9,.z9,.z9,.z9,.z9,.ff,.ff,.ff,.z9,.z9,.z9,.ff,.sla (some ⟨b5,0,none⟩) 2 2,.str [98,101,113,122],.str [],.int .i64 9,.z9,.z9,.z9,.z9,.z9,.z9,.z9,.z9,.z9,.ff,.ff,.ff,.z9,.z9,.z9,.tt,.sla (some ⟨b6,0,none⟩) 2 2,.str [98,110,101,122],.str [],.int .i64 9,.z9,.z9,.z9,.z9,.z9,.z9,.z9,.z9,.z9,.ff,.ff,.ff,.z9,.z9,.z9,.ff,.sla (some ⟨b7,0,none⟩) 2 2]),(b7,[.int .i64 2,.int .i64 7]),(b6,[.int .i64 2,.int .i64 7]),(b5,[.int .i64 8,.int .i64 9]),(b4,[.int .i64 2,.int .i64 6]),(b3,[.int .i64 1,.int .i64 6]),(b2,[.int .i64 1,.int .i64 2]),(b1,[.int .i64 1,.int .i64 5])]
theorem bI:Jf Tryz.prog 196 [] [] (fun x w w'=>∃b1 b2 b3 b4 b5 b6 b7 b8:Nat,x=.sla (some ⟨b8,0,none⟩) 7 7∧Acc w.heap.size (DW b1 b2 b3 b4 b5 b6 b7 b8) w' []):=
 DJ (n:=23) (by kernel_rfl) Tryz.func196 rfl rfl rfl fun G w a h0 A=>have B:=A;have hA:Acc w.heap.size [] w _:=Acc.nil;N9 8 A rfl rfl fun A=>C0 [.int .i64 1,.int .i64 5] (X:=⟨_,true⟩) hX B hA A rfl rfl rfl rfl fun b1 B hA A=>
 N9 2 A rfl rfl fun A=>C0 [.int .i64 1,.int .i64 2] (X:=⟨_,true⟩) hX B hA A rfl rfl rfl rfl fun b2 B hA A=>
 N9 2 A rfl rfl fun A=>C0 [.int .i64 1,.int .i64 6] (X:=⟨_,true⟩) hX B hA A rfl rfl rfl rfl fun b3 B hA A=>
 N9 2 A rfl rfl fun A=>C0 [.int .i64 2,.int .i64 6] (X:=⟨_,true⟩) hX B hA A rfl rfl rfl rfl fun b4 B hA A=>
 N9 2 A rfl rfl fun A=>C0 [.int .i64 8,.int .i64 9] (X:=⟨_,true⟩) hX B hA A rfl rfl rfl rfl fun b5 B hA A=>
 N9 2 A rfl rfl fun A=>C0 [.int .i64 2,.int .i64 7] (X:=⟨_,true⟩) hX B hA A rfl rfl rfl rfl fun b6 B hA A=>
 N9 2 A rfl rfl fun A=>C0 [.int .i64 2,.int .i64 7] (X:=⟨_,true⟩) hX B hA A rfl rfl rfl rfl fun b7 B hA A=>
 N9 1 A rfl rfl fun A=>C0 [.str [108,105],.str [],.int .i64 1,.z9,.z9,.z9,.z9,.z9,.z9,.z9,.z9,.z9,.ff,.ff,.ff,.z9,.z9,.z9,.ff,.sla (some ⟨b1,0,none⟩) 2 2,.str [109,118],.str [],.int .i64 2,.z9,.z9,.z9,.z9,.z9,.z9,.z9,.z9,.z9,.ff,.ff,.ff,.z9,.z9,.z9,.ff,.sla (some ⟨b2,0,none⟩) 2 2,.str [108,42],.str [],.int .i64 4,.z9,.z9,.z9,.z9,.z9,.z9,.z9,.z9,.z9,.ff,.ff,.ff,.z9,.z9,.z9,.ff,.sla (some ⟨b3,0,none⟩) 2 2,.str [115,42],.str [],.int .i64 5,.z9,.z9,.z9,.z9,.z9,.z9,.z9,.z9,.z9,.ff,.ff,.ff,.z9,.z9,.z9,.ff,.sla (some ⟨b4,0,none⟩) 2 2,.str [102,101,110,99,101],.str [],.int .i64 7,.z9,.z9,.z9,.z9,.z9,.z9,.z9,.z9,.z9,.ff,.ff,.ff,.z9,.z9,.z9,.ff,.sla (some ⟨b5,0,none⟩) 2 2,.str [98,101,113,122],.str [],.int .i64 9,.z9,.z9,.z9,.z9,.z9,.z9,.z9,.z9,.z9,.ff,.ff,.ff,.z9,.z9,.z9,.tt,.sla (some ⟨b6,0,none⟩) 2 2,.str [98,110,101,122],.str [],.int .i64 9,.z9,.z9,.z9,.z9,.z9,.z9,.z9,.z9,.z9,.ff,.ff,.ff,.z9,.z9,.z9,.ff,.sla (some ⟨b7,0,none⟩) 2 2] (X:=⟨_,true⟩) hX B hA A rfl rfl rfl rfl fun b8 B hA A=>
 N9 4 A rfl rfl fun A=>HY (J:=fun x w w'=>∃b1 b2 b3 b4 b5 b6 b7 b8:Nat,x=.sla (some ⟨b8,0,none⟩) 7 7∧Acc w.heap.size (DW b1 b2 b3 b4 b5 b6 b7 b8) w' []) hX (B.trans A) (fun i e he=>Bj he) rfl rfl rfl rfl ⟨b1,b2,b3,b4,b5,b6,b7,b8,rfl,(hA.now A).bare⟩
def IB (b1 b2 b3 b4 b5 b6 b7:Nat):List Rw:=[⟨[108,105],[],⟨1,0,0,0,0,0,0,0,0,0,false,false,false,0,0,0,false⟩,some ⟨b1,0,none⟩,[1,5],2⟩,⟨[109,118],[],⟨2,0,0,0,0,0,0,0,0,0,false,false,false,0,0,0,false⟩,some ⟨b2,0,none⟩,[1,2],2⟩,⟨[108,42],[],⟨4,0,0,0,0,0,0,0,0,0,false,false,false,0,0,0,false⟩,some ⟨b3,0,none⟩,[1,6],2⟩,⟨[115,42],[],⟨5,0,0,0,0,0,0,0,0,0,false,false,false,0,0,0,false⟩,some ⟨b4,0,none⟩,[2,6],2⟩,⟨[102,101,110,99,101],[],⟨7,0,0,0,0,0,0,0,0,0,false,false,false,0,0,0,false⟩,some ⟨b5,0,none⟩,[8,9],2⟩,⟨[98,101,113,122],[],⟨9,0,0,0,0,0,0,0,0,0,false,false,false,0,0,0,true⟩,some ⟨b6,0,none⟩,[2,7],2⟩,⟨[98,110,101,122],[],⟨9,0,0,0,0,0,0,0,0,0,false,false,false,0,0,0,false⟩,some ⟨b7,0,none⟩,[2,7],2⟩]
def bJ:List (List UInt8×List UInt8×In×List Int):=[([108,105],[],⟨1,0,0,0,0,0,0,0,0,0,false,false,false,0,0,0,false⟩,[1,5]),([109,118],[],⟨2,0,0,0,0,0,0,0,0,0,false,false,false,0,0,0,false⟩,[1,2]),([108,42],[],⟨4,0,0,0,0,0,0,0,0,0,false,false,false,0,0,0,false⟩,[1,6]),([115,42],[],⟨5,0,0,0,0,0,0,0,0,0,false,false,false,0,0,0,false⟩,[2,6]),([102,101,110,99,101],[],⟨7,0,0,0,0,0,0,0,0,0,false,false,false,0,0,0,false⟩,[8,9]),([98,101,113,122],[],⟨9,0,0,0,0,0,0,0,0,0,false,false,false,0,0,0,true⟩,[2,7]),([98,110,101,122],[],⟨9,0,0,0,0,0,0,0,0,0,false,false,false,0,0,0,false⟩,[2,7])]
def DP:List (List UInt8×List UInt8×In×List Int):=(KL++KM)++bJ
theorem Pm {b1 b2 b3 b4 b5 b6 b7 b8 lo lo2:Nat}{w:World}{ks:List Nat}(h:Acc lo (DW b1 b2 b3 b4 b5 b6 b7 b8) w ks)(jO:lo2≤lo):RowsIn lo2 (IB b1 b2 b3 b4 b5 b6 b7) w ks:=by
 intro r hr
 unfold IB at hr
 simp only [List.mem_cons,List.mem_nil_iff,or_false]at hr
 rcases hr with rfl|rfl|rfl|rfl|rfl|rfl|rfl
 ·have q:=Ao (b:=b1) (cs:=[]) [1,5] h (by show _∈DW b1 b2 b3 b4 b5 b6 b7 b8;unfold DW;simp);exact⟨q.1,fun z hz=>Nat.le_trans jO (q.2 z hz)⟩
 ·have q:=Ao (b:=b2) (cs:=[]) [1,2] h (by show _∈DW b1 b2 b3 b4 b5 b6 b7 b8;unfold DW;simp);exact⟨q.1,fun z hz=>Nat.le_trans jO (q.2 z hz)⟩
 ·have q:=Ao (b:=b3) (cs:=[]) [1,6] h (by show _∈DW b1 b2 b3 b4 b5 b6 b7 b8;unfold DW;simp);exact⟨q.1,fun z hz=>Nat.le_trans jO (q.2 z hz)⟩
 ·have q:=Ao (b:=b4) (cs:=[]) [2,6] h (by show _∈DW b1 b2 b3 b4 b5 b6 b7 b8;unfold DW;simp);exact⟨q.1,fun z hz=>Nat.le_trans jO (q.2 z hz)⟩
 ·have q:=Ao (b:=b5) (cs:=[]) [8,9] h (by show _∈DW b1 b2 b3 b4 b5 b6 b7 b8;unfold DW;simp);exact⟨q.1,fun z hz=>Nat.le_trans jO (q.2 z hz)⟩
 ·have q:=Ao (b:=b6) (cs:=[]) [2,7] h (by show _∈DW b1 b2 b3 b4 b5 b6 b7 b8;unfold DW;simp);exact⟨q.1,fun z hz=>Nat.le_trans jO (q.2 z hz)⟩
 ·have q:=Ao (b:=b7) (cs:=[]) [2,7] h (by show _∈DW b1 b2 b3 b4 b5 b6 b7 b8;unfold DW;simp);exact⟨q.1,fun z hz=>Nat.le_trans jO (q.2 z hz)⟩
theorem SW (b1 b2 b3 b4 b5 b6 b7 b8:Nat):AE [] ((IB b1 b2 b3 b4 b5 b6 b7).flatMap iX)=AE [] [.str [108,105],.str [],.int .i64 1,.z9,.z9,.z9,.z9,.z9,.z9,.z9,.z9,.z9,.ff,.ff,.ff,.z9,.z9,.z9,.ff,.sla (some ⟨b1,0,none⟩) 2 2,.str [109,118],.str [],.int .i64 2,.z9,.z9,.z9,.z9,.z9,.z9,.z9,.z9,.z9,.ff,.ff,.ff,.z9,.z9,.z9,.ff,.sla (some ⟨b2,0,none⟩) 2 2,.str [108,42],.str [],.int .i64 4,.z9,.z9,.z9,.z9,.z9,.z9,.z9,.z9,.z9,.ff,.ff,.ff,.z9,.z9,.z9,.ff,.sla (some ⟨b3,0,none⟩) 2 2,.str [115,42],.str [],.int .i64 5,.z9,.z9,.z9,.z9,.z9,.z9,.z9,.z9,.z9,.ff,.ff,.ff,.z9,.z9,.z9,.ff,.sla (some ⟨b4,0,none⟩) 2 2,.str [102,101,110,99,101],.str [],.int .i64 7,.z9,.z9,.z9,.z9,.z9,.z9,.z9,.z9,.z9,.ff,.ff,.ff,.z9,.z9,.z9,.ff,.sla (some ⟨b5,0,none⟩) 2 2,.str [98,101,113,122],.str [],.int .i64 9,.z9,.z9,.z9,.z9,.z9,.z9,.z9,.z9,.z9,.ff,.ff,.ff,.z9,.z9,.z9,.tt,.sla (some ⟨b6,0,none⟩) 2 2,.str [98,110,101,122],.str [],.int .i64 9,.z9,.z9,.z9,.z9,.z9,.z9,.z9,.z9,.z9,.ff,.ff,.ff,.z9,.z9,.z9,.ff,.sla (some ⟨b7,0,none⟩) 2 2]:=by rfl
section
variable {n:Nat}{ks:List Nat}{G0:Gr}{w0:World}{T:List (Nat×SV)}{H:Hp}{G:Gr}{a:Act}{w:World}{Q:Exit→Act→World→Prop}{K:List Fr}{ops:Array Oper}{o:Oper}{rest:List Oper}
theorem SX (A:Sy n T H ks G0 w0 G a w) (h1:BS n ops T o=some (196,[]))
  (k:∀b1 b2 b3 b4 b5 b6 b7 b8 vs a' w',AE [] ((IB b1 b2 b3 b4 b5 b6 b7).flatMap iX)=some vs→Iv b8 0 vs w' (keys H G)→RowsIn w.heap.size (IB b1 b2 b3 b4 b5 b6 b7) w' (keys H G)→Sy n (Ay T o.dst (.sla (some ⟨b8,0,none⟩) 7 7)) H ks G0 w0 G a' w'→Goal Tryz.prog Q K (.ops ops rest) a' w'):Goal Tryz.prog Q K (.ops ops (o::rest)) a w:=by
 refine Iw [] bI A h1 rfl rfl rfl rfl fun x a' w' hJ hk A'=>?_
 obtain⟨b1,b2,b3,b4,b5,b6,b7,b8,rfl,hA⟩:=hJ
 have hA:=HH hA hk
 obtain⟨_,vs,q1,q2⟩:=hA _ List.mem_cons_self
 exact k b1 b2 b3 b4 b5 b6 b7 b8 vs a' w' ((SW b1 b2 b3 b4 b5 b6 b7 b8).trans q1) q2 (Pm hA (Nat.le_refl _)) A'
end
theorem X6:Fn Tryz.prog 147 [] [] (Rt (.agg [.str [97,48],.str [97,49],.str [97,50],.str [97,51],.str [97,52],.str [97,53],.str [97,54],.str [97,55]]) []):=
 AG (n:=2) (by kernel_rfl) Tryz.func147 rfl rfl rfl fun G w a h0 A=>N9 12 A rfl rfl fun A=>R9 A rfl h0 rfl rfl rfl
theorem JR:Jf Tryz.prog 146 [] [] (fun x w w'=>∃(L:List Rw) (b cp:Nat),x=.agg [.str [97,48],.str [97,49],.str [97,50],.str [97,51],.str [97,52],.str [97,53],.str [97,54],.str [97,55],.str [98],.str [104],.str [119],.str [100],.str [],.str [114],.str [119],.str [114,119],.sla (some ⟨b,0,none⟩) 25 cp]∧(L.map tm=DP∧RowsIn w.heap.size L w' [b])∧w.heap.size≤b∧Bm 203 20 25 (fun zz=>iX (L.getD zz Rw.z)) b cp w'):=
 DJ (n:=10) (by kernel_rfl) Tryz.func146 rfl rfl rfl fun G w a h0 A=>N9 7 A rfl rfl fun A=>C9 [] (X6) A rfl fun A=>N9 2 A rfl rfl fun A=>have hz:=A.mix.size;Fg (t:=4) (F:=fun(L:List Rw) zz=>iX (L.getD zz Rw.z)) (R:=fun L b w w'=>L.map tm=KL∧RowsIn w.heap.size L w' [b]) X3 A rfl rfl fun L1 b1 cp1 a1 w1 G1 qM jO hk A=>have l1:L1.length=10:=(by have q:=congrArg List.length qM.1;rw [List.length_map]at q;exact q);have hI:=(Ax qM.2 hk).mono hz;have B:=A;have A:=B.base;
 have hz:=Nat.le_trans B.mix.size A.mix.size;Fg (t:=5) (F:=fun(L:List Rw) zz=>iX (L.getD zz Rw.z)) (R:=fun L b w w'=>L.map tm=KM∧RowsIn w.heap.size L w' [b]) X5 A rfl rfl fun L2 b2 cp2 a2_ w2 G2 uS jO hk A=>have l2:L2.length=8:=(by have q:=congrArg List.length uS.1;rw [List.length_map]at q;exact q);have jE:=(Ax uS.2 hk).mono hz;have hI:=(RowsIn.ok _ _ _ _ hI A.mix A.keys_own).app jE;have l12:(L1++L2).length=18:=(by rw [List.length_append,l1,l2]);have B:=B.trans A;have A:=A.base;
 have hz:=Nat.le_trans B.mix.size A.mix.size;SX A rfl fun c1 c2 c3 c4 c5 c6 c7 c8 vs a3 w3 hv hL hO A=>have hI:=(RowsIn.ok _ _ _ _ hI A.mix A.keys_own).app (hO.mono hz);have B:=B.trans A;have A:=A.base;have A:=A.adoptL Rw.z iX 20 k7.1 k7.2.1 k7.2.2 (IB c1 c2 c3 c4 c5 c6 c7) hL hv 6 rfl;
 N9 1 A rfl rfl fun A=>have A:=A.freeze 1 rfl;have A:=A.freeze 2 rfl;C9 [4,1,2,3] (Uf L1 L2 (IB c1 c2 c3 c4 c5 c6 c7) 0 0 7 l1 l12) A rfl fun A=>match A.giveRow 5 8 (by decide) rfl rfl rfl with|⟨b,cp,A2,hG,ho,sH⟩=>(have h1:=RowsIn.ok _ _ _ _ hI A2.mix A2.keys_own;have h2:=RowsIn.ok _ _ _ [b] hI A2.mix (fun b2 hb=>by have:b2=b:=(by simpa using hb);rw [this];exact ho);have pF:=Gg B (fun i e he=>Bj he) ho;have B:=B.trans A2;have A:=A2.base;
 N9 5 A rfl rfl fun A=>HY (J:=fun x w w'=>∃(L:List Rw) (b cp:Nat),x=.agg [.str [97,48],.str [97,49],.str [97,50],.str [97,51],.str [97,52],.str [97,53],.str [97,54],.str [97,55],.str [98],.str [104],.str [119],.str [100],.str [],.str [114],.str [119],.str [114,119],.sla (some ⟨b,0,none⟩) 25 cp]∧(L.map tm=DP∧RowsIn w.heap.size L w' [b])∧w.heap.size≤b∧Bm 203 20 25 (fun zz=>iX (L.getD zz Rw.z)) b cp w') hX (B.trans A) (fun i e he=>Bj he) rfl rfl rfl rfl ⟨(L1++L2)++(IB c1 c2 c3 c4 c5 c6 c7),b,cp,rfl,⟨by rw [List.map_append,List.map_append,qM.1,uS.1];rfl,h1.one h2 A.mix⟩,pF,hG.mix A.mix sH⟩)
end Go.Proofs.YtbbdanhpphlbpaaGreatDoor
namespace Go.Proofs.YtbbdanhpphlbpaaGreatDoor
open Go.RowKit
section
variable {g:Lg}{L:List Rw}{i:In}{lb:List UInt8}{r:Rw}
theorem MN (h:Db i=false):BN i.op i.dst i.ra i.rb i.imm i.loc i.off i.ix i.sz i.fn i.acq i.weak i.rel i.pred i.succ i.to_ i.zero=true:=by
 cases hs:BN i.op i.dst i.ra i.rb i.imm i.loc i.off i.ix i.sz i.fn i.acq i.weak i.rel i.pred i.succ i.to_ i.zero with
 |true=>rfl
 |false=>
  exfalso
  unfold Db Ek at h
  rw [hs,Bool.not_false,Bool.or_true,if_pos rfl]at h
  exact absurd h (by decide)
theorem Fi (h:Bl i.op i.dst i.ra i.rb i.imm i.loc i.off i.ix i.sz i.fn i.acq i.weak i.rel i.pred i.succ i.to_ i.zero=true):0≤i.loc∧i.loc<3:=by
 unfold Bl at h
 split at h
 ·split at h
  ·omega
  ·cases h
 ·cases h
theorem Ug (h:Db i=false)(ho:i.op=4∨i.op=5∨i.op=6):0≤i.loc∧i.loc<3:=by
 have hs:=MN h
 unfold BN at hs
 rw [if_neg (by omega),if_neg (by omega),if_neg (by omega)]at hs
 rcases ho with ho|ho|ho
 ·rw [if_pos ho]at hs
  split at hs
  ·rw [Bool.and_eq_true]at hs;exact Fi hs.1
  ·cases hs
 ·rw [if_neg (by omega),if_pos ho]at hs
  split at hs
  ·exact Fi hs
  ·cases hs
 ·rw [if_neg (by omega),if_neg (by omega),if_pos ho]at hs
  split at hs
  ·split at hs
   ·rw [Bool.and_eq_true]at hs;exact Fi hs.1
   ·cases hs
  ·cases hs
theorem On (h:Db i=false)(ho:i.op=7):(1≤i.pred∧i.pred≤3)∧(1≤i.succ∧i.succ≤3):=by
 have hs:=MN h
 unfold BN at hs
 rw [if_neg (by omega),if_neg (by omega),if_neg (by omega),if_neg (by omega),if_neg (by omega),if_neg (by omega),if_pos ho]at hs
 split at hs
 ·next hp=>
  simp only [Bool.or_eq_true,beq_iff_eq]at hp hs
  omega
 ·cases hs
theorem SY (i J:In)(p:Int):(DA i J p).op=J.op:=by
 unfold DA
 repeat' split
 all_goals rfl
theorem X7 (r:Rw)(i:In):(r.lay i).op=r.ins.op:=by
 have:∀(l:List Int) (J:In),(l.foldl (DA i) J).op=J.op:=by
  intro l
  induction l with
  |nil=>intro J;rfl
  |cons p l ih=>intro J;rw [List.foldl_cons,ih,SY]
 exact this r.ps (bare r.ins)
theorem X8 (h:Ea L i=true):i.op=(Aa L i).ins.op:=by
 unfold Ea at h
 unfold Aa
 cases hf:L.find? (EZ i)with
 |none=>rw [hf]at h;cases h
 |some r=>
  have:=List.find?_some hf
  unfold EZ at this
  rw [Bool.and_eq_true]at this
  have h2:=this.1
  unfold MK at h2
  rw [Bool.and_eq_true,beq_iff_eq,X7]at h2
  exact h2.1.symm
end
def gV (g:Lg)(T:List (List UInt8×List UInt8×In×List Int)):Bool:=T.all fun x=>
 decide (x.1.length≤1000)&&decide (Lib.countB (S x.1) (S [42])≤1000)&&decide (x.2.2.2.length≤4)&&decide (x.2.1.length≤1000)&&
 ((List.range 4).all fun k=>decide ((Lib.replace x.1 [42] (g.let.getD k []) 1).length≤1000))&&
 (x.2.2.2.all fun p=>(!(p==6)||(x.2.2.1.op==4||(x.2.2.1.op==5||x.2.2.1.op==6)))&&(!(p==8||p==9)||x.2.2.1.op==7))
theorem Oo {B:Nat}:∀(l:List (List UInt8)),(∀x∈l,x.length≤B)→Lib.lens l≤l.length*B
 | [],_=>by simp [Lib.lens]
 |x::l,h=>by
  have h1:=Oo l (fun y hy=>h y (List.mem_cons_of_mem _ hy))
  have h2:=h x List.mem_cons_self
  have e:Lib.lens (x::l)=x.length+Lib.lens l:=by simp [Lib.lens]
  rw [e,List.length_cons,Nat.add_mul];omega
theorem join_le {B:Nat}(l:List (List UInt8))(h:∀x∈l,x.length≤B):(Lib.join l [44]).length≤l.length*(B+1):=by
 cases l with
 |nil=>exact Nat.zero_le _
 |cons x l=>
  rw [Lib.join_length]
  have:=Oo (x::l) h
  rw [Nat.mul_add,List.length_cons]at*
  simp only [List.length_cons,List.length_nil]
  omega
theorem Uh:gV Dk HG=true:=by decide+kernel
theorem LH {a b c:List UInt8}{B:Nat}(ha:a.length≤B)(hb:b.length≤B)(hc:c.length≤B)(k:Nat):([a,b,c].getD k []).length≤B:=by
 by_cases h:k<3
 ·have:k=0∨k=1∨k=2:=by omega
  rcases this with rfl|rfl|rfl
  ·exact ha
  ·exact hb
  ·exact hc
 ·rw [List.getD_eq_getElem?_getD,List.getElem?_eq_none (by simpa using h)];exact Nat.zero_le _
structure Ye (g:Lg):Prop where
 lg:UO g
 lt:∀k,([g.l0,g.l1,g.l2,g.l3].getD k []).length≤1000
 f0:g.f0.length≤1000
 f1:g.f1.length≤1000
 f2:g.f2.length≤1000
structure Vt (i:In):Prop where
 im: -9223372036854775808≤i.imm∧i.imm≤9223372036854775807
 of_: -9223372036854775808≤i.off∧i.off≤9223372036854775807
section
variable {g:Lg}{L:List Rw}{i:In}{lb:List UInt8}{r:Rw}
theorem X9 (hg:Ye g)(hi:Vt i):(MM g i).length≤1100:=by
 have q1:=hg.lg.rg i.ix
 have q2:=Lib.itoa_length_le i.off hi.of_.1 hi.of_.2
 have q3:=LH (a:=[120]) (b:=[121]) (c:=[122]) (B:=1) (by decide) (by decide) (by decide) (i.loc).toNat
 unfold MM NM Xn
 split<;>split<;>(simp only [List.length_append,List.length_cons,List.length_nil];omega)
theorem YA (hg:Ye g)(hi:Vt i)(hw:r.wd.length≤1000)(p:Int):(Hl g r p i lb).length≤2000+lb.length:=by
 have q1:=hg.lg.rg (El p i).1
 have q2:=Lib.itoa_length_le i.imm hi.im.1 hi.im.2
 have q3:=hg.lg.im
 have q4:=X9 hg hi
 have q5:=LH hg.f0 hg.f1 hg.f2 (i.pred - 1).toNat
 have q6:=LH hg.f0 hg.f1 hg.f2 (i.succ - 1).toNat
 unfold Hl
 split
 ·omega
 split
 ·rw [List.length_append];omega
 split
 ·omega
 split
 ·omega
 split
 ·omega
 split
 ·omega
 ·omega
theorem Sa {T:List (List UInt8×List UInt8×In×List Int)}(hm:L.map tm=T)(hg:Ye g)(hB:gV g T=true)(hn:T.length≤1000)(hi:Vt i)(hl:lb.length≤100000):Jo g L i lb:=by
 have hlen:L.length≤1000:=by have:=congrArg List.length hm;rw [List.length_map]at this;omega
 have lV:∀r∈L,r.nm.length≤1000∧Lib.countB (S r.nm) (S [42])≤1000∧r.ps.length≤4∧r.wd.length≤1000∧(∀k,k<4→(Lib.replace r.nm [42] (g.let.getD k []) 1).length≤1000)∧∀p∈r.ps,(p=6→r.ins.op=4∨r.ins.op=5∨r.ins.op=6)∧(p=8∨p=9→r.ins.op=7):=fun r hr=>by
  have:=(List.all_eq_true.1 hB) _ (X1 hm hr)
  simp only [Bool.and_eq_true,decide_eq_true_eq]at this
  obtain⟨⟨⟨⟨⟨h1,h2⟩,h3⟩,h4⟩,h5⟩,h6⟩:=this
  refine⟨h1,h2,h3,h4,fun k hk=>?_,fun p hp=>?_⟩
  ·have:=(List.all_eq_true.1 h5) k (List.mem_range.2 hk)
   exact of_decide_eq_true this
  ·have:=(List.all_eq_true.1 h6) p hp
   simp only [Bool.and_eq_true,Bool.or_eq_true,Bool.not_eq_true',beq_iff_eq,beq_eq_false_iff_ne,Bool.or_eq_false_iff]at this
   obtain⟨a1,a2⟩:=this
   refine⟨fun e=>?_,fun e=>?_⟩
   ·rcases a1 with a1|a1
    ·exact absurd e a1
    ·exact a1
   ·rcases a2 with a2|a2
    ·rcases e with e|e
     ·exact absurd e a2.1
     ·exact absurd e a2.2
    ·exact a2
 have hz:∀k,(L.getD k Rw.z)∈L∨L.getD k Rw.z=Rw.z:=fun k=>by
  by_cases h:k<L.length
  ·left;rw [List.getD_eq_getElem?_getD,List.getElem?_eq_getElem h];exact List.getElem_mem h
  ·right;rw [List.getD_eq_getElem?_getD,List.getElem?_eq_none (by omega)];rfl
 have hr:Aa L i∈L∨Aa L i=Rw.z:=by
  unfold Aa
  cases hf:L.find? (EZ i)with
  |none=>exact .inr rfl
  |some r=>exact .inl (List.mem_of_find?_eq_some hf)
 have sW:Rw.z.nm=[]∧Rw.z.ps=[]∧Rw.z.wd=[]:=⟨rfl,rfl,rfl⟩
 have y4:(Ey g (Aa L i).nm i.sz).length≤1000:=by
  unfold Ey
  split
  ·next hk=>
   rcases hr with hr|hr
   ·exact(lV _ hr).2.2.2.2.1 _ hk
   ·rw [hr,sW.1]
    have:R5 i.sz=0∨R5 i.sz=1∨R5 i.sz=2∨R5 i.sz=3:=by omega
    have e:∀y:List UInt8,(Lib.replace [] [42] y 1)=[]:=fun y=>by
     unfold Lib.replace
     split
     ·rfl
     ·have hc:Lib.index [] [42]= -1:=by decide
      cases Lib.replaceNum [] [42] 1 with
      |zero=>rfl
      |succ k=>unfold Lib.replaceK;rw [hc];rfl
    rw [e];exact Nat.zero_le _
  ·rcases hr with hr|hr
   ·exact(lV _ hr).1
   ·rw [hr,sW.1];exact Nat.zero_le _
 refine⟨hg.lg,hg.lt,fun k=>?_,by omega,hi.im,?_,fun hw hq k hk=>?_,by omega,?_⟩
 ·rcases hz k with h|h
  ·have:=(lV _ h).2.2.1;omega
  ·rw [h,sW.2.1];exact Nat.zero_le _
 ·rcases hr with hr|hr
  ·exact⟨(lV _ hr).1,(lV _ hr).2.1⟩
  ·rw [hr,sW.1];exact⟨Nat.zero_le _,by decide⟩
 ·have o7:=If hq
  have jG:=X8 hq
  have hp:(Aa L i).ps.getD k 0∈(Aa L i).ps:=by rw [List.getD_eq_getElem?_getD,List.getElem?_eq_getElem hk];exact List.getElem_mem hk
  obtain⟨h6,vT⟩:=(lV _ o7).2.2.2.2.2 _ hp
  refine⟨fun e=>⟨Ug hw (by rw [jG];exact h6 e),hi.of_⟩,fun e=>(On hw (by rw [jG];exact vT (.inl e))).1,fun e=>(On hw (by rw [jG];exact vT (.inr e))).2⟩
 ·have pD:(Aa L i).ps.length≤4∧(Aa L i).wd.length≤1000:=by
   rcases hr with hr|hr
   ·exact⟨(lV _ hr).2.2.1,(lV _ hr).2.2.2.1⟩
   ·rw [hr];exact⟨Nat.zero_le _,Nat.zero_le _⟩
  have h1:=join_le (B:=2000+lb.length) (Hn g (Aa L i) i lb) (fun x hx=>by
   unfold Hn at hx
   obtain⟨p,_,rfl⟩:=List.mem_map.1 hx
   exact YA hg hi pD.2 p)
  have h2:(Hn g (Aa L i) i lb).length≤4:=by unfold Hn;rw [List.length_map];exact pD.1
  have h3:(Hn g (Aa L i) i lb).length*(2000+lb.length+1)≤4*(2000+lb.length+1):=Nat.mul_le_mul_right _ h2
  omega
end
theorem YB:Ye Dk:=by
 refine⟨⟨fun r=>?_,by decide⟩,fun k=>?_,by decide,by decide,by decide⟩
 ·unfold Es
  split
  ·exact Nat.zero_le _
  ·next h=>
   have:(r).toNat=0∨(r).toNat=1∨(r).toNat=2∨(r).toNat=3∨(r).toNat=4∨(r).toNat=5∨(r).toNat=6∨(r).toNat=7:=by
    simp only [Bool.or_eq_true,decide_eq_true_eq]at h;omega
   rcases this with e|e|e|e|e|e|e|e<;>rw [e]<;>decide
 ·by_cases h:k<4
  ·have:k=0∨k=1∨k=2∨k=3:=by omega
   rcases this with rfl|rfl|rfl|rfl<;>decide
  ·rw [List.getD_eq_getElem?_getD,List.getElem?_eq_none (by simpa using h)];decide
theorem Sb {L:List Rw}{i:In}{lb:List UInt8}(hi:Vt i)(hl:lb.length≤100000)(hm:L.map tm=HG):Jo Dk L i lb:=Sa hm YB Uh (by decide+kernel) hi hl
end Go.Proofs.YtbbdanhpphlbpaaGreatDoor
namespace Go.Proofs.YtbbdanhpphlbpaaGreatDoor
open Go.RowKit
set_option simprocs false
def Bq:Lg:=⟨[97,48],[97,49],[97,50],[97,51],[97,52],[97,53],[97,54],[97,55],[98],[104],[119],[100],[],[114],[119],[114,119]⟩
def GN:List Rw:=DP.map Ua
theorem MO {L:List Rw}{i:In}{lb:List UInt8}(h:L.map tm=DP):Ch Bq L i lb=Ch Bq GN i lb:=by
 have:=NR (g:=Bq) (L:=L) (i:=i) (lb:=lb)
 rw [SQ h]at this
 exact this.symm
theorem Sc:Ye Bq:=by
 refine⟨⟨fun r=>?_,by decide⟩,fun k=>?_,by decide,by decide,by decide⟩
 ·unfold Es
  split
  ·exact Nat.zero_le _
  ·next h=>
   have:(r).toNat=0∨(r).toNat=1∨(r).toNat=2∨(r).toNat=3∨(r).toNat=4∨(r).toNat=5∨(r).toNat=6∨(r).toNat=7:=by
    simp only [Bool.or_eq_true,decide_eq_true_eq]at h;omega
   rcases this with e|e|e|e|e|e|e|e<;>rw [e]<;>decide
 ·by_cases h:k<4
  ·have:k=0∨k=1∨k=2∨k=3:=by omega
   rcases this with rfl|rfl|rfl|rfl<;>decide
  ·rw [List.getD_eq_getElem?_getD,List.getElem?_eq_none (by simpa using h)];decide
theorem NS {L:List Rw}{i:In}{lb:List UInt8}(hi:Vt i)(hl:lb.length≤100000)(hm:L.map tm=DP):Jo Bq L i lb:=Sa hm Sc (by decide+kernel) (by decide+kernel) hi hl
theorem Ui (i:In)(lb:List UInt8)(os:List (Nat×Obj))(hM:lP os)(hT:mR os)(hE:lW os)(hp:∀L:List Rw,L.map tm=DP→Jo Bq L i lb):Bi (Gl os) Tryz.prog 113 [.agg (AS i),.str lb] [] (Rt (.tup [.str ((Ch Bq GN i lb).1),.int .i64 ((Ch Bq GN i lb).2)]) []):=
 Ab (n:=12) (by kernel_rfl) Tryz.func113 rfl rfl rfl fun G w a h0 hI A=>N9 8 A rfl rfl fun A=>I8 8 BK rfl A fun{w2} A=>Gs (fun(tail:∀(L:List Rw) {G1:Gr} {a1:Act} {w1:World},L.map tm=DP→L.length=25→EK os L w1 (keys [some (.blk (AS i)),some (EJ L)] G1)→Sy 12 [(6,.agg [.str [97,48],.str [97,49],.str [97,50],.str [97,51],.str [97,52],.str [97,53],.str [97,54],.str [97,55],.str [98],.str [104],.str [119],.str [100],.str [],.str [114],.str [119],.str [114,119],.sl 1 L.length 0]),(7,.agg (AS i)),(8,.str lb)] [some (.blk (AS i)),some (EJ L)] (keys [] G) G w G1 a1 w1→wpAny Tryz.prog .any _ _ _ _ a1 w1)=>AM (rs:=[0,1,2]) (by kernel_rfl) (by decide) (Bg ⟨CK (t:=6) (l:=[.str [97,48],.str [97,49],.str [97,50],.str [97,51],.str [97,52],.str [97,53],.str [97,54],.str [97,55],.str [98],.str [104],.str [119],.str [100],.str [],.str [114],.str [119],.str [114,119]]) (F:=fun(L:List Rw) zz=>iX (L.getD zz Rw.z)) (R:=fun L b w w'=>L.map tm=DP∧RowsIn w.heap.size L w' [b]) rfl JR A rfl rfl fun L b cp a1 w1 G1 hR jO k8 A=>have jA:L.length=25:=(by have q:=congrArg List.length hR.1;rw [List.length_map]at q;exact q.trans (by decide+kernel));have k9:=Ax hR.2 k8;have B0:=A;have A:=A.base;have A:=A.rowAs 1 L.length (fun zz=>iX (L.getD zz Rw.z)) rfl jA (fun _ _=>rfl) (fun z=>⟨_,rfl,rfl⟩);have A:=A.say 6 (.agg [.str [97,48],.str [97,49],.str [97,50],.str [97,51],.str [97,52],.str [97,53],.str [97,54],.str [97,55],.str [98],.str [104],.str [119],.str [100],.str [],.str [114],.str [119],.str [114,119],.sl 1 L.length 0]) rfl (by rw [jA]<;>rfl);have A:=A.freeze 1 rfl;have lA:=RowsIn.ok.now A k9;have B:=B0.trans A;have A:=A.base;have jE:EK os L _ _:=⟨fun r hr=>(lA r hr).1,Gl.ok.now B hI⟩;AM (rs:=[1,2]) (by kernel_rfl) (by decide) (Bg ⟨CM (.agg (AS i)) rfl A rfl rfl fun A=>AM (rs:=[2]) (by kernel_rfl) (by decide) (Bg ⟨CM (.str lb) rfl A rfl rfl fun A=>tail L hR.1 jA (EK.ok.now A jE) ((B.trans A).cut [6,7,8] rfl),
    (CF)⟩),
   (Bg ⟨CM (.str lb) rfl A rfl rfl fun A=>AM (rs:=[1]) (by kernel_rfl) (by decide) (Bg ⟨CM (.agg (AS i)) rfl A rfl rfl fun A=>tail L hR.1 jA (EK.ok.now A jE) ((B.trans A).cut [6,7,8] rfl),
    (CF)⟩),
   (CF)⟩)⟩),
  (Bg ⟨CM (.agg (AS i)) rfl A rfl rfl fun A=>AM (rs:=[0,2]) (by kernel_rfl) (by decide) (Bg ⟨CK (t:=6) (l:=[.str [97,48],.str [97,49],.str [97,50],.str [97,51],.str [97,52],.str [97,53],.str [97,54],.str [97,55],.str [98],.str [104],.str [119],.str [100],.str [],.str [114],.str [119],.str [114,119]]) (F:=fun(L:List Rw) zz=>iX (L.getD zz Rw.z)) (R:=fun L b w w'=>L.map tm=DP∧RowsIn w.heap.size L w' [b]) rfl JR A rfl rfl fun L b cp a1 w1 G1 hR jO k8 A=>have jA:L.length=25:=(by have q:=congrArg List.length hR.1;rw [List.length_map]at q;exact q.trans (by decide+kernel));have k9:=Ax hR.2 k8;have B0:=A;have A:=A.base;have A:=A.rowAs 1 L.length (fun zz=>iX (L.getD zz Rw.z)) rfl jA (fun _ _=>rfl) (fun z=>⟨_,rfl,rfl⟩);have A:=A.say 6 (.agg [.str [97,48],.str [97,49],.str [97,50],.str [97,51],.str [97,52],.str [97,53],.str [97,54],.str [97,55],.str [98],.str [104],.str [119],.str [100],.str [],.str [114],.str [119],.str [114,119],.sl 1 L.length 0]) rfl (by rw [jA]<;>rfl);have A:=A.freeze 1 rfl;have lA:=RowsIn.ok.now A k9;have B:=B0.trans A;have A:=A.base;have jE:EK os L _ _:=⟨fun r hr=>(lA r hr).1,Gl.ok.now B hI⟩;AM (rs:=[2]) (by kernel_rfl) (by decide) (Bg ⟨CM (.str lb) rfl A rfl rfl fun A=>tail L hR.1 jA (EK.ok.now A jE) ((B.trans A).cut [6,7,8] rfl),
    (CF)⟩),
   (Bg ⟨CM (.str lb) rfl A rfl rfl fun A=>AM (rs:=[0]) (by kernel_rfl) (by decide) (Bg ⟨CK (t:=6) (l:=[.str [97,48],.str [97,49],.str [97,50],.str [97,51],.str [97,52],.str [97,53],.str [97,54],.str [97,55],.str [98],.str [104],.str [119],.str [100],.str [],.str [114],.str [119],.str [114,119]]) (F:=fun(L:List Rw) zz=>iX (L.getD zz Rw.z)) (R:=fun L b w w'=>L.map tm=DP∧RowsIn w.heap.size L w' [b]) rfl JR A rfl rfl fun L b cp a1 w1 G1 hR jO k8 A=>have jA:L.length=25:=(by have q:=congrArg List.length hR.1;rw [List.length_map]at q;exact q.trans (by decide+kernel));have k9:=Ax hR.2 k8;have B0:=A;have A:=A.base;have A:=A.rowAs 1 L.length (fun zz=>iX (L.getD zz Rw.z)) rfl jA (fun _ _=>rfl) (fun z=>⟨_,rfl,rfl⟩);have A:=A.say 6 (.agg [.str [97,48],.str [97,49],.str [97,50],.str [97,51],.str [97,52],.str [97,53],.str [97,54],.str [97,55],.str [98],.str [104],.str [119],.str [100],.str [],.str [114],.str [119],.str [114,119],.sl 1 L.length 0]) rfl (by rw [jA]<;>rfl);have A:=A.freeze 1 rfl;have lA:=RowsIn.ok.now A k9;have B:=B0.trans A;have A:=A.base;have jE:EK os L _ _:=⟨fun r hr=>(lA r hr).1,Gl.ok.now B hI⟩;tail L hR.1 jA (EK.ok.now A jE) ((B.trans A).cut [6,7,8] rfl),
    (CF)⟩),
   (CF)⟩)⟩),
  (Bg ⟨CM (.str lb) rfl A rfl rfl fun A=>AM (rs:=[0,1]) (by kernel_rfl) (by decide) (Bg ⟨CK (t:=6) (l:=[.str [97,48],.str [97,49],.str [97,50],.str [97,51],.str [97,52],.str [97,53],.str [97,54],.str [97,55],.str [98],.str [104],.str [119],.str [100],.str [],.str [114],.str [119],.str [114,119]]) (F:=fun(L:List Rw) zz=>iX (L.getD zz Rw.z)) (R:=fun L b w w'=>L.map tm=DP∧RowsIn w.heap.size L w' [b]) rfl JR A rfl rfl fun L b cp a1 w1 G1 hR jO k8 A=>have jA:L.length=25:=(by have q:=congrArg List.length hR.1;rw [List.length_map]at q;exact q.trans (by decide+kernel));have k9:=Ax hR.2 k8;have B0:=A;have A:=A.base;have A:=A.rowAs 1 L.length (fun zz=>iX (L.getD zz Rw.z)) rfl jA (fun _ _=>rfl) (fun z=>⟨_,rfl,rfl⟩);have A:=A.say 6 (.agg [.str [97,48],.str [97,49],.str [97,50],.str [97,51],.str [97,52],.str [97,53],.str [97,54],.str [97,55],.str [98],.str [104],.str [119],.str [100],.str [],.str [114],.str [119],.str [114,119],.sl 1 L.length 0]) rfl (by rw [jA]<;>rfl);have A:=A.freeze 1 rfl;have lA:=RowsIn.ok.now A k9;have B:=B0.trans A;have A:=A.base;have jE:EK os L _ _:=⟨fun r hr=>(lA r hr).1,Gl.ok.now B hI⟩;AM (rs:=[1]) (by kernel_rfl) (by decide) (Bg ⟨CM (.agg (AS i)) rfl A rfl rfl fun A=>tail L hR.1 jA (EK.ok.now A jE) ((B.trans A).cut [6,7,8] rfl),
    (CF)⟩),
   (Bg ⟨CM (.agg (AS i)) rfl A rfl rfl fun A=>AM (rs:=[0]) (by kernel_rfl) (by decide) (Bg ⟨CK (t:=6) (l:=[.str [97,48],.str [97,49],.str [97,50],.str [97,51],.str [97,52],.str [97,53],.str [97,54],.str [97,55],.str [98],.str [104],.str [119],.str [100],.str [],.str [114],.str [119],.str [114,119]]) (F:=fun(L:List Rw) zz=>iX (L.getD zz Rw.z)) (R:=fun L b w w'=>L.map tm=DP∧RowsIn w.heap.size L w' [b]) rfl JR A rfl rfl fun L b cp a1 w1 G1 hR jO k8 A=>have jA:L.length=25:=(by have q:=congrArg List.length hR.1;rw [List.length_map]at q;exact q.trans (by decide+kernel));have k9:=Ax hR.2 k8;have B0:=A;have A:=A.base;have A:=A.rowAs 1 L.length (fun zz=>iX (L.getD zz Rw.z)) rfl jA (fun _ _=>rfl) (fun z=>⟨_,rfl,rfl⟩);have A:=A.say 6 (.agg [.str [97,48],.str [97,49],.str [97,50],.str [97,51],.str [97,52],.str [97,53],.str [97,54],.str [97,55],.str [98],.str [104],.str [119],.str [100],.str [],.str [114],.str [119],.str [114,119],.sl 1 L.length 0]) rfl (by rw [jA]<;>rfl);have A:=A.freeze 1 rfl;have lA:=RowsIn.ok.now A k9;have B:=B0.trans A;have A:=A.base;have jE:EK os L _ _:=⟨fun r hr=>(lA r hr).1,Gl.ok.now B hI⟩;tail L hR.1 jA (EK.ok.now A jE) ((B.trans A).cut [6,7,8] rfl),
    (CF)⟩),
   (CF)⟩)⟩),
  (CF)⟩)⟩)⟩)) (fun L {G1 a1 w1} sI jA jE A=>have hR:L.map tm=DP∧True:=⟨sI,trivial⟩;have B:=A;have A:=B.base;AM (rs:=[3]) (by kernel_rfl) (by decide) (Bg ⟨En (x:=.tup [.str ((Ch Bq L i lb).1),.int .i64 ((Ch Bq L i lb).2)]) (H':=[some (.blk (AS i)),some (EJ L)]) rfl A rfl (C8 [1] EK.ok jE (LB Bq L 0 i lb os hM hT hE (hp L hR.1)) rfl rfl rfl rfl rfl rfl rfl) fun A=>AM (rs:=[4,5]) (by kernel_rfl) (by decide) (Bg ⟨CM (.str ((Ch Bq L i lb).1)) rfl A rfl rfl fun A=>AM (rs:=[5]) (by kernel_rfl) (by decide) (Bg ⟨CM (.int .i64 ((Ch Bq L i lb).2)) rfl A rfl rfl fun A=>AM (rs:=[6]) (by kernel_rfl) (by decide) (Bg ⟨CM (.str ((Ch Bq L i lb).1)) rfl A rfl rfl fun A=>AM (rs:=[7]) (by kernel_rfl) (by decide) (Bg ⟨CM (.int .i64 ((Ch Bq L i lb).2)) rfl A rfl rfl fun A=>Dh (by kernel_rfl) (N9 2 A rfl rfl fun A=>R9 (B.trans A) rfl h0 rfl (by rw [←MO hR.1]<;>rfl) rfl),
      (CF)⟩),
     (CF)⟩),
    (CF)⟩),
   (Bg ⟨CM (.int .i64 ((Ch Bq L i lb).2)) rfl A rfl rfl fun A=>AM (rs:=[4]) (by kernel_rfl) (by decide) (Bg ⟨CM (.str ((Ch Bq L i lb).1)) rfl A rfl rfl fun A=>AM (rs:=[6]) (by kernel_rfl) (by decide) (Bg ⟨CM (.str ((Ch Bq L i lb).1)) rfl A rfl rfl fun A=>AM (rs:=[7]) (by kernel_rfl) (by decide) (Bg ⟨CM (.int .i64 ((Ch Bq L i lb).2)) rfl A rfl rfl fun A=>Dh (by kernel_rfl) (N9 2 A rfl rfl fun A=>R9 (B.trans A) rfl h0 rfl (by rw [←MO hR.1]<;>rfl) rfl),
      (CF)⟩),
     (CF)⟩),
    (CF)⟩),
   (CF)⟩)⟩),
  (CF)⟩))
end Go.Proofs.YtbbdanhpphlbpaaGreatDoor
namespace Go.Proofs.YtbbdanhpphlbpaaGreatDoor.Ar
open Go.RowKit
set_option simprocs false
section
variable {P:Program}{n:Nat}{ks:List Nat}{G0:Gr}{w0:World}{T:List (Nat×SV)}{H:Hp}{G:Gr}{a:Act}{w w':World}{Q:Exit→Act→World→Prop}{K:List Fr}{ops:Array Oper}{o:Oper}{rest:List Oper}{c:Code}
theorem Jp {q:Nat}(h:Goal P Q (.lp (Code.rounds P c (Fa P Q K) q)::K) (.code c) a w):Code.rounds P c (Fa P Q K) (q+1) a w:=h
theorem bH (q:Nat)(h:Code.rounds P c (Fa P Q K) q a w):Goal P Q K (.code (.loop c)) a w:=wp_loop_rounds q h
theorem JQ {β:Type} {e s m t f:Nat} {az:List SV} {F:β→Nat→List SV} {R:β→Nat→World→World→Prop} (hf:Jf P f az [] (fun x w w'=>∃(L:β) (b cp:Nat),x=.sla (some ⟨b,0,none⟩) m cp∧R L b w w'∧w.heap.size≤b∧Bm e s m (F L) b cp w')) (A:Sy n T H ks G0 w0 G a w) (hd:o.dst=some t) (h1:BS n ops T o=some (f,az)) (h2:DU [] az=some az)
  (k:∀L b cp a' w' G',R L b w w'→w.heap.size≤b→(∀k,(keys (H++[some (.row e s m 0 (F L))]) G').contains k=true→k<w.heap.size∨k=b)→Sy n ((t,.sl H.length m 0)::Ay T o.dst (.sla (some ⟨b,0,none⟩) m cp)) (H++[some (.row e s m 0 (F L))]) ks G0 w0 G' a' w'→Goal P Q K (.ops ops rest) a' w'):Goal P Q K (.ops ops (o::rest)) a w:=by
 refine Iw [] hf A h1 h2 rfl rfl rfl fun x a' w' hJ hk A'=>?_
 obtain⟨L,b,cp,rfl,hR,jO,hg⟩:=hJ
 have hl:look (Ay T o.dst (.sla (some ⟨b,0,none⟩) m cp)) t=some (.sla (some ⟨b,0,none⟩) m cp):=by rw [hd];simp [Ay,look,Nat.beq_refl]
 have A2:=A'.takeRow t hg (fun i e L q1 q2 q3=>by
  have:=A.mem.ent i e q1
  rw [q2]at this
  have:=Ae.lt this q3
  omega) (Nat.le_trans A.mix.size jO) hl
 refine k L b cp a' w' _ hR jO (fun k jQ=>?_) A2
 obtain⟨i,e',M,q1,q2,q3,q4⟩:=mem_keys.1 jQ
 have hlen:=A.mem.len
 by_cases hi:i<H.length
 ·rw [List.getElem?_append_left hi]at q1
  rw [List.getElem?_append_left (by omega)]at q3
  exact .inl (hk k (mem_keys.2 ⟨i,e',M,q1,q2,q3,q4⟩))
 ·right
  have mB:i=G.length:=by
   have:=(List.getElem?_eq_some_iff.1 q3).1
   simp at this
   omega
  subst mB
  rw [List.getElem?_append_right (Nat.le_refl _)]at q3
  simp at q3
  rw [←q4,←q3]
end
theorem FW {i o s m k:Nat}(j:Nat){q:Nat}(hq:o+j*s+k=q):∀G,den G (.ix (.ptr i o) s m (j:Int) k)=den G (.ptr i q):=fun G=>by
 subst hq
 unfold den
 cases hG:G[i]? with
 |none=>unfold den;rw [hG]
 |some p=>cases p with
  |none=>unfold den;rw [hG]
  |some L=>unfold den;rw [hG];simp [Nat.add_assoc]
theorem Sd (L1 L2 L3 L4 L5:List Rw) (c1 c2 c3 c4 c5:Nat) (l1:L1.length=10) (l12:(L1++L2).length=15) (l13:((L1++L2)++L3).length=23) (l14:(((L1++L2)++L3)++L4).length=26):Fn Tryz.prog 193 [.sl 0 5 5] [some (.blk [.sl 1 10 c1,.sl 2 5 c2,.sl 3 8 c3,.sl 4 3 c4,.sl 5 5 c5]),some (.lst 20 10 (fun zz=>iX (L1.getD zz Rw.z))),some (.lst 20 5 (fun zz=>iX (L2.getD zz Rw.z))),some (.lst 20 8 (fun zz=>iX (L3.getD zz Rw.z))),some (.lst 20 3 (fun zz=>iX (L4.getD zz Rw.z))),some (.lst 20 5 (fun zz=>iX (L5.getD zz Rw.z)))] (Rt (.sl 6 31 0) [some (.blk [.sl 1 10 c1,.sl 2 5 c2,.sl 3 8 c3,.sl 4 3 c4,.sl 5 5 c5]),some (.lst 20 10 (fun zz=>iX (L1.getD zz Rw.z))),some (.lst 20 5 (fun zz=>iX (L2.getD zz Rw.z))),some (.lst 20 8 (fun zz=>iX (L3.getD zz Rw.z))),some (.lst 20 3 (fun zz=>iX (L4.getD zz Rw.z))),some (.lst 20 5 (fun zz=>iX (L5.getD zz Rw.z))),some (.row 203 20 31 0 (fun zz=>iX (((((L1++L2)++L3)++L4)++L5).getD zz Rw.z)))]):=
 AG (n:=36) (by kernel_rfl) Tryz.func193 rfl rfl rfl fun G w a h0 A=>N9 15 A rfl rfl fun A=>have A:=AB A 10 (.int .i64 5) rfl (fun _=>rfl);N9 1 A rfl rfl fun A=>N9 3 A rfl rfl fun A=>bH 6 (Jp (have A:=A.cut [0,2,3,9,10,11] rfl;
 N9 6 A rfl rfl fun A=>AL 12 A rfl
   (fun h1 A=>N9 8 A rfl (iU (by omega)<|iT) fun A=>have A:=AB A 13 (.ptr 0 0) rfl (FW 0 rfl);N9 7 A rfl rfl fun A=>N9 2 A rfl rfl fun A=>have A:=AB A 17 (.int .i64 10) rfl (fun _=>rfl);N9 1 A rfl (iU (by omega)<|iT) fun A=>have A:=AB A 18 (.int .i64 10) rfl (fun _=>rfl);N9 6 A rfl rfl fun A=>N9 3 A rfl rfl fun A=>AL 20 A rfl
    (fun h2 A=>absurd h2 (by decide))
    (fun h2 A=>N9 6 A rfl (iU (by omega)<|iT) fun A=>have A:=AB A 22 (.int .i64 1) rfl (fun _=>rfl);N9 1 A rfl rfl fun A=>N9 1 A rfl rfl fun A=>Jp (have A:=A.cut [0,2,3,9,10,11] rfl;
 N9 6 A rfl rfl fun A=>AL 12 A rfl
     (fun h3 A=>N9 8 A rfl (iU (by omega)<|iT) fun A=>have A:=AB A 13 (.ptr 0 1) rfl (FW 1 rfl);N9 7 A rfl rfl fun A=>N9 2 A rfl rfl fun A=>have A:=AB A 17 (.int .i64 5) rfl (fun _=>rfl);N9 1 A rfl (iU (by omega)<|iT) fun A=>have A:=AB A 18 (.int .i64 15) rfl (fun _=>rfl);N9 6 A rfl rfl fun A=>N9 3 A rfl rfl fun A=>AL 20 A rfl
      (fun h4 A=>absurd h4 (by decide))
      (fun h4 A=>N9 6 A rfl (iU (by omega)<|iT) fun A=>have A:=AB A 22 (.int .i64 2) rfl (fun _=>rfl);N9 1 A rfl rfl fun A=>N9 1 A rfl rfl fun A=>Jp (have A:=A.cut [0,2,3,9,10,11] rfl;
 N9 6 A rfl rfl fun A=>AL 12 A rfl
       (fun h5 A=>N9 8 A rfl (iU (by omega)<|iT) fun A=>have A:=AB A 13 (.ptr 0 2) rfl (FW 2 rfl);N9 7 A rfl rfl fun A=>N9 2 A rfl rfl fun A=>have A:=AB A 17 (.int .i64 8) rfl (fun _=>rfl);N9 1 A rfl (iU (by omega)<|iT) fun A=>have A:=AB A 18 (.int .i64 23) rfl (fun _=>rfl);N9 6 A rfl rfl fun A=>N9 3 A rfl rfl fun A=>AL 20 A rfl
        (fun h6 A=>absurd h6 (by decide))
        (fun h6 A=>N9 6 A rfl (iU (by omega)<|iT) fun A=>have A:=AB A 22 (.int .i64 3) rfl (fun _=>rfl);N9 1 A rfl rfl fun A=>N9 1 A rfl rfl fun A=>Jp (have A:=A.cut [0,2,3,9,10,11] rfl;
 N9 6 A rfl rfl fun A=>AL 12 A rfl
         (fun h7 A=>N9 8 A rfl (iU (by omega)<|iT) fun A=>have A:=AB A 13 (.ptr 0 3) rfl (FW 3 rfl);N9 7 A rfl rfl fun A=>N9 2 A rfl rfl fun A=>have A:=AB A 17 (.int .i64 3) rfl (fun _=>rfl);N9 1 A rfl (iU (by omega)<|iT) fun A=>have A:=AB A 18 (.int .i64 26) rfl (fun _=>rfl);N9 6 A rfl rfl fun A=>N9 3 A rfl rfl fun A=>AL 20 A rfl
          (fun h8 A=>absurd h8 (by decide))
          (fun h8 A=>N9 6 A rfl (iU (by omega)<|iT) fun A=>have A:=AB A 22 (.int .i64 4) rfl (fun _=>rfl);N9 1 A rfl rfl fun A=>N9 1 A rfl rfl fun A=>Jp (have A:=A.cut [0,2,3,9,10,11] rfl;
 N9 6 A rfl rfl fun A=>AL 12 A rfl
           (fun h9 A=>N9 8 A rfl (iU (by omega)<|iT) fun A=>have A:=AB A 13 (.ptr 0 4) rfl (FW 4 rfl);N9 7 A rfl rfl fun A=>N9 2 A rfl rfl fun A=>have A:=AB A 17 (.int .i64 5) rfl (fun _=>rfl);N9 1 A rfl (iU (by omega)<|iT) fun A=>have A:=AB A 18 (.int .i64 31) rfl (fun _=>rfl);N9 6 A rfl rfl fun A=>N9 3 A rfl rfl fun A=>AL 20 A rfl
            (fun kH A=>absurd kH (by decide))
            (fun kH A=>N9 6 A rfl (iU (by omega)<|iT) fun A=>have A:=AB A 22 (.int .i64 5) rfl (fun _=>rfl);N9 1 A rfl rfl fun A=>N9 1 A rfl rfl fun A=>Jp (have A:=A.cut [0,2,3,9,10,11] rfl;
 N9 6 A rfl rfl fun A=>AL 12 A rfl
             (fun kF A=>absurd kF (by decide))
             (fun kF A=>N9 6 A rfl rfl fun A=>JQ (t:=24) (F:=fun(L:List Rw) zz=>iX (L.getD zz Rw.z)) (R:=fun L b w w'=>L=[]) (Vs 31 (by decide) (by decide)) A rfl rfl rfl fun L b1 cp1 a1 w1 G1 hR jO hk A=>
 N9 8 A rfl rfl fun A=>have A:=AB A 26 (.int .i64 5) rfl (fun _=>rfl);N9 1 A rfl rfl fun A=>N9 3 A rfl rfl fun A=>bH 6 (Jp (have A:=A.cut [2,6,25,26,27] rfl;
 N9 6 A rfl rfl fun A=>AL 28 A rfl
               (fun mA A=>N9 8 A rfl (iU (by omega)<|iT) fun A=>have A:=AB A 29 (.ptr 0 0) rfl (FW 0 rfl);N9 7 A rfl rfl fun A=>AW A rfl (GG hX 10 (fun zz=>iX (L1.getD zz Rw.z)) rfl rfl rfl rfl (Nat.le_refl _) (by decide) (show 10≤1000000 by decide) rfl (fun k hk=>absurd hk (Nat.not_lt_zero k)) (fun k hk=>by show iX (L1.getD (0+k) Rw.z)=iX _;rw [Nat.zero_add]) (fun z=>⟨_,rfl,rfl⟩) (fun k hk=>⟨_,rfl,iT⟩)) fun A=>
 N9 6 A rfl (iU (by omega)<|iT) fun A=>have A:=AB A 34 (.int .i64 1) rfl (fun _=>rfl);N9 1 A rfl rfl fun A=>N9 1 A rfl rfl fun A=>Jp (have A:=A.cut [2,6,25,26,27] rfl;
 N9 6 A rfl rfl fun A=>AL 28 A rfl
                (fun lU A=>N9 8 A rfl (iU (by omega)<|iT) fun A=>have A:=AB A 29 (.ptr 0 1) rfl (FW 1 rfl);N9 7 A rfl rfl fun A=>AW A rfl (GG hX 15 (fun zz=>iX ((L1++L2).getD zz Rw.z)) rfl rfl rfl rfl (Nat.le_refl _) (by decide) (show 5≤1000000 by decide) rfl (fun k hk=>by show iX _=iX _;rw [i6 (by rw [l1];exact hk)]) (fun k hk=>by show iX ((L1++L2).getD (10+k) Rw.z)=iX _;rw [show 10+k=L1.length+k by rw [l1],Bh]) (fun z=>⟨_,rfl,rfl⟩) (fun k hk=>⟨_,rfl,iT⟩)) fun A=>
 N9 6 A rfl (iU (by omega)<|iT) fun A=>have A:=AB A 34 (.int .i64 2) rfl (fun _=>rfl);N9 1 A rfl rfl fun A=>N9 1 A rfl rfl fun A=>Jp (have A:=A.cut [2,6,25,26,27] rfl;
 N9 6 A rfl rfl fun A=>AL 28 A rfl
                 (fun nD A=>N9 8 A rfl (iU (by omega)<|iT) fun A=>have A:=AB A 29 (.ptr 0 2) rfl (FW 2 rfl);N9 7 A rfl rfl fun A=>AW A rfl (GG hX 23 (fun zz=>iX (((L1++L2)++L3).getD zz Rw.z)) rfl rfl rfl rfl (Nat.le_refl _) (by decide) (show 8≤1000000 by decide) rfl (fun k hk=>by show iX _=iX _;rw [i6 (by rw [l12];exact hk)]) (fun k hk=>by show iX (((L1++L2)++L3).getD (15+k) Rw.z)=iX _;rw [show 15+k=(L1++L2).length+k by rw [l12],Bh]) (fun z=>⟨_,rfl,rfl⟩) (fun k hk=>⟨_,rfl,iT⟩)) fun A=>
 N9 6 A rfl (iU (by omega)<|iT) fun A=>have A:=AB A 34 (.int .i64 3) rfl (fun _=>rfl);N9 1 A rfl rfl fun A=>N9 1 A rfl rfl fun A=>Jp (have A:=A.cut [2,6,25,26,27] rfl;
 N9 6 A rfl rfl fun A=>AL 28 A rfl
                  (fun nL A=>N9 8 A rfl (iU (by omega)<|iT) fun A=>have A:=AB A 29 (.ptr 0 3) rfl (FW 3 rfl);N9 7 A rfl rfl fun A=>AW A rfl (GG hX 26 (fun zz=>iX ((((L1++L2)++L3)++L4).getD zz Rw.z)) rfl rfl rfl rfl (Nat.le_refl _) (by decide) (show 3≤1000000 by decide) rfl (fun k hk=>by show iX _=iX _;rw [i6 (by rw [l13];exact hk)]) (fun k hk=>by show iX ((((L1++L2)++L3)++L4).getD (23+k) Rw.z)=iX _;rw [show 23+k=((L1++L2)++L3).length+k by rw [l13],Bh]) (fun z=>⟨_,rfl,rfl⟩) (fun k hk=>⟨_,rfl,iT⟩)) fun A=>
 N9 6 A rfl (iU (by omega)<|iT) fun A=>have A:=AB A 34 (.int .i64 4) rfl (fun _=>rfl);N9 1 A rfl rfl fun A=>N9 1 A rfl rfl fun A=>Jp (have A:=A.cut [2,6,25,26,27] rfl;
 N9 6 A rfl rfl fun A=>AL 28 A rfl
                   (fun nS A=>N9 8 A rfl (iU (by omega)<|iT) fun A=>have A:=AB A 29 (.ptr 0 4) rfl (FW 4 rfl);N9 7 A rfl rfl fun A=>AW A rfl (GG hX 31 (fun zz=>iX (((((L1++L2)++L3)++L4)++L5).getD zz Rw.z)) rfl rfl rfl rfl (Nat.le_refl _) (by decide) (show 5≤1000000 by decide) rfl (fun k hk=>by show iX _=iX _;rw [i6 (by rw [l14];exact hk)]) (fun k hk=>by show iX (((((L1++L2)++L3)++L4)++L5).getD (26+k) Rw.z)=iX _;rw [show 26+k=(((L1++L2)++L3)++L4).length+k by rw [l14],Bh]) (fun z=>⟨_,rfl,rfl⟩) (fun k hk=>⟨_,rfl,iT⟩)) fun A=>
 N9 6 A rfl (iU (by omega)<|iT) fun A=>have A:=AB A 34 (.int .i64 5) rfl (fun _=>rfl);N9 1 A rfl rfl fun A=>N9 1 A rfl rfl fun A=>Jp (have A:=A.cut [2,6,25,26,27] rfl;
 N9 6 A rfl rfl fun A=>AL 28 A rfl
                    (fun oT A=>absurd oT (by decide))
                    (fun oT A=>N9 10 A rfl rfl fun A=>Mj hX [11] A ⟨rfl,rfl⟩ rfl rfl rfl rfl rfl rfl rfl rfl h0)))
                   (fun nS A=>absurd (by decide) nS)))
                  (fun nL A=>absurd (by decide) nL)))
                 (fun nD A=>absurd (by decide) nD)))
                (fun lU A=>absurd (by decide) lU)))
               (fun mA A=>absurd (by decide) mA)))))))
           (fun h9 A=>absurd (by decide) h9))))
         (fun h7 A=>absurd (by decide) h7))))
       (fun h5 A=>absurd (by decide) h5))))
     (fun h3 A=>absurd (by decide) h3))))
   (fun h1 A=>absurd (by decide) h1)))
end Go.Proofs.YtbbdanhpphlbpaaGreatDoor.Ar
namespace Go.Proofs.YtbbdanhpphlbpaaGreatDoor
open Go.RowKit
set_option simprocs false
theorem YC:Fn Tryz.prog 149 [] [] (Rt (.agg [.str [88,48],.str [88,49],.str [88,50],.str [88,51],.str [88,52],.str [88,53],.str [88,54],.str [88,55]]) []):=
 AG (n:=2) (by kernel_rfl) Tryz.func149 rfl rfl rfl fun G w a h0 A=>N9 12 A rfl rfl fun A=>R9 A rfl h0 rfl rfl rfl
end Go.Proofs.YtbbdanhpphlbpaaGreatDoor
namespace Go.Proofs.YtbbdanhpphlbpaaGreatDoor.Ar
open Go.RowKit
set_option simprocs false
def c5:List (List UInt8×Int):=[([65,68,68],1),([83,85,66],2),([69,79,82],3),([65,78,68],4),([79,82,82],5)]
abbrev Pn (x:List UInt8×Int)(b1:Nat):Rw:=⟨x.1,[],IK 3 x.2,some ⟨b1,0,none⟩,[1,2,3],3⟩
abbrev Po (x:List UInt8×Int)(b2:Nat):Rw:=⟨x.1,[],IK 3 x.2,some ⟨b2,0,none⟩,[1,2,5],3⟩
def KN:List (List UInt8×List UInt8×In×List Int):=c5.flatMap fun x=>[(x.1,[],IK 3 x.2,[1,2,3]),(x.1,[],IK 3 x.2,[1,2,5])]
structure AC (lo:Nat)(z:List Rw×Nat)(w:World)(ks:List Nat):Prop where
 le:z.2≤5
 tm:z.1.map tm=KN.take (2*z.2)
 rw:RowsIn lo z.1 w ks
theorem AC.len {lo:Nat}{z:List Rw×Nat}{w:World}{ks:List Nat}(h:AC lo z w ks):z.1.length=2*z.2:=by
 have h1:=congrArg List.length h.tm
 rw [List.length_map,List.length_take]at h1
 have h2:KN.length=10:=by decide
 have:=h.le
 omega
theorem AC.nx {lo b1 b2:Nat}{z:List Rw×Nat}{w w1:World}{ks ks1:List Nat}{l:List (Nat×List SV)}(h:AC lo z w ks)(hk:(z.2:Int)<5)(hr:RowsIn lo z.1 w1 ks1)(hA:Acc lo [(b2,[.int .i64 1,.int .i64 2,.int .i64 5]),(b1,[.int .i64 1,.int .i64 2,.int .i64 3])] w1 ks1):AC lo (z.1++[Pn (c5.getD ((z.2:Int)).toNat nz) b1,Po (c5.getD ((z.2:Int)).toNat nz) b2],z.2+1) w1 ks1:=by
 refine⟨by have:=h.le;show z.2+1≤5;omega,?_,fun r l5=>?_⟩
 ·show List.map _ (z.1++_)=_
  rw [List.map_append,h.tm,Int.toNat_natCast]
  have:z.2=0∨z.2=1∨z.2=2∨z.2=3∨z.2=4:=by omega
  rcases this with e|e|e|e|e<;>rw [e]<;>rfl
 ·rcases List.mem_append.1 l5 with h1|h1
  ·exact hr r h1
  ·simp only [List.mem_cons,List.mem_nil_iff,or_false]at h1
   rcases h1 with rfl|rfl
   ·exact Ao (cs:=[]) [1,2,3] hA (List.mem_cons_of_mem _ (List.mem_cons_self))
   ·exact Ao (cs:=[]) [1,2,5] hA (List.mem_cons_self)
theorem YD:Jf Tryz.prog 197 [] [] (fun x w w'=>∃(L:List Rw) (b cp:Nat),x=.sla (some ⟨b,0,none⟩) 10 cp∧(L.map tm=KN∧RowsIn w.heap.size L w' [b])∧w.heap.size≤b∧Bm 203 20 10 (fun zz=>iX (L.getD zz Rw.z)) b cp w'):=
 DJ (n:=36) (by kernel_rfl) Tryz.func197 rfl rfl rfl fun G w a h0 A=>N9 13 A rfl rfl fun A=>have A:=A.asT nz Ho 2 NP.1 NP.2.1 NP.2.2 c5 0 rfl;N9 17 A rfl rfl fun A=>have A:=A.nilRow 2 203 20 (fun zz=>iX (([]:List Rw).getD zz Rw.z)) rfl (fun z=>⟨_,rfl,rfl⟩);Ew (fun(z:List Rw×Nat)=>[(0,.sla none 0 0),(2,.sl 1 z.1.length 0),(12,.sl 0 5 5),(13,.int .i64 ((5:Nat):Int)),(14,.int .i64 (z.2:Int))]) (fun(z:List Rw×Nat)=>[some (.lst 2 5 (fun zz=>Ho (c5.getD zz nz))),some (.row 203 20 z.1.length 0 (fun zz=>iX (z.1.getD zz Rw.z)))]) (fun z w1 ks1=>AC w.heap.size z w1 ks1) (fun z=>5 - z.2) ([],0) (A.cut [0,2,12,13,14] rfl) ⟨by decide,rfl,fun r hr=>by cases hr⟩ fun z G1 a1 w1 hJ hg A B=>have hA:Acc w.heap.size [] w1 _:=Acc.nil;have hR:=hJ.rw;
 N9 6 A rfl rfl fun A=>AL 15 A rfl
   (fun h1 A=>N9 14 A rfl (iU (by omega)<|iU (by omega)<|iT) fun A=>N9 4 A rfl rfl fun A=>have A:=AB A 20 (.agg [.int .i64 3,.z9,.z9,.z9,.z9,.z9,.z9,.z9,.z9,.int .i64 ((c5.getD (((z.2:Int)).toNat) nz).2),.bool false,.bool false,.bool false,.z9,.z9,.z9,.bool false]) rfl (fun _=>rfl);N9 9 A rfl rfl fun A=>lZ [.int .i64 1,.int .i64 2,.int .i64 3] (X:=⟨_,true⟩) hX RowsIn.ok B hA hR A rfl rfl rfl rfl fun b1 B hA hR A=>
 N9 4 A rfl rfl fun A=>lZ [.int .i64 1,.int .i64 2,.int .i64 5] (X:=⟨_,true⟩) hX RowsIn.ok B hA hR A rfl rfl rfl rfl fun b2 B hA hR A=>
 N9 2 A rfl rfl fun A=>have A:=A.asT Rw.z iX 20 k7.1 k7.2.1 k7.2.2 [Pn (c5.getD (((z.2:Int)).toNat) nz) b1,Po (c5.getD (((z.2:Int)).toNat) nz) b2] 4 rfl;AW A rfl (GG hX ((z.1++[Pn (c5.getD (((z.2:Int)).toNat) nz) b1,Po (c5.getD (((z.2:Int)).toNat) nz) b2]).length) (fun zz=>iX ((z.1++[Pn (c5.getD (((z.2:Int)).toNat) nz) b1,Po (c5.getD (((z.2:Int)).toNat) nz) b2]).getD zz Rw.z)) rfl rfl rfl rfl (Nat.le_refl _) (by have:=hJ.len;have:=hJ.le;omega) (by decide) List.length_append (fun k hk=>by show iX _=iX _;rw [i6 hk]) (fun k hk=>by show iX _=iX _;rw [Bh]) (fun z=>⟨_,rfl,rfl⟩) (fun k hk=>⟨_,rfl,iT⟩)) fun A=>
 N9 8 A rfl (iU (by omega)<|iT) fun A=>⟨(z.1++[Pn (c5.getD (((z.2:Int)).toNat) nz) b1,Po (c5.getD (((z.2:Int)).toNat) nz) b2],z.2+1),_,(by have:=h1;show _ - _<_ - _;omega),(hJ.nx (l:=[]) h1 (RowsIn.ok _ _ _ _ hR A.mix fun b hb=>A.keys_own b ((BQ (H:=[some (.lst 2 5 (fun zz=>Ho (c5.getD zz nz))),none,some (.blk [.str ((c5.getD (((z.2:Int)).toNat) nz).1),.int .i64 ((c5.getD (((z.2:Int)).toNat) nz).2)]),some (.blk [.int .i64 3,.z9,.z9,.z9,.z9,.z9,.z9,.z9,.z9,.int .i64 ((c5.getD (((z.2:Int)).toNat) nz).2),.bool false,.bool false,.bool false,.z9,.z9,.z9,.bool false]),some (.lst 20 ([Pn (c5.getD (((z.2:Int)).toNat) nz) b1,Po (c5.getD (((z.2:Int)).toNat) nz) b2].length) (fun zz=>iX ([Pn (c5.getD (((z.2:Int)).toNat) nz) b1,Po (c5.getD (((z.2:Int)).toNat) nz) b2].getD zz Rw.z))),some (.row 203 20 ((z.1++[Pn (c5.getD (((z.2:Int)).toNat) nz) b1,Po (c5.getD (((z.2:Int)).toNat) nz) b2]).length) 0 (fun zz=>iX ((z.1++[Pn (c5.getD (((z.2:Int)).toNat) nz) b1,Po (c5.getD (((z.2:Int)).toNat) nz) b2]).getD zz Rw.z)))]) (m:=[0,5]) A.mem.len rfl rfl) b hb)) (hA.go A.mix fun b hb=>A.keys_own b ((BQ (H:=[some (.lst 2 5 (fun zz=>Ho (c5.getD zz nz))),none,some (.blk [.str ((c5.getD (((z.2:Int)).toNat) nz).1),.int .i64 ((c5.getD (((z.2:Int)).toNat) nz).2)]),some (.blk [.int .i64 3,.z9,.z9,.z9,.z9,.z9,.z9,.z9,.z9,.int .i64 ((c5.getD (((z.2:Int)).toNat) nz).2),.bool false,.bool false,.bool false,.z9,.z9,.z9,.bool false]),some (.lst 20 ([Pn (c5.getD (((z.2:Int)).toNat) nz) b1,Po (c5.getD (((z.2:Int)).toNat) nz) b2].length) (fun zz=>iX ([Pn (c5.getD (((z.2:Int)).toNat) nz) b1,Po (c5.getD (((z.2:Int)).toNat) nz) b2].getD zz Rw.z))),some (.row 203 20 ((z.1++[Pn (c5.getD (((z.2:Int)).toNat) nz) b1,Po (c5.getD (((z.2:Int)).toNat) nz) b2]).length) 0 (fun zz=>iX ((z.1++[Pn (c5.getD (((z.2:Int)).toNat) nz) b1,Po (c5.getD (((z.2:Int)).toNat) nz) b2]).getD zz Rw.z)))]) (m:=[0,5]) A.mem.len rfl rfl) b hb))),((B.trans A).cut [0,2,12,13,14] rfl).mv 0 [0,5] rfl rfl rfl rfl (by simp only [List.length_nil]at h0;omega)⟩)
   (fun h1 A=>N9 10 A rfl rfl fun A=>(have e5:z.2=5:=(by have:=hJ.le;omega);have e:z.1.length=10:=(by have:=hJ.len;omega);match A.giveRow 1 0 (by omega) rfl rfl rfl with|⟨b,cp,A2,hG,ho,hk⟩=>HY (J:=fun x w w'=>∃(L:List Rw) (b cp:Nat),x=.sla (some ⟨b,0,none⟩) 10 cp∧(L.map tm=KN∧RowsIn w.heap.size L w' [b])∧w.heap.size≤b∧Bm 203 20 10 (fun zz=>iX (L.getD zz Rw.z)) b cp w') hX (B.trans A2) (fun i e he=>Bj he) rfl rfl rfl rfl ⟨z.1,b,cp,(by show SV.sla _ z.1.length cp=_;rw [e]),⟨(by have h2:=hJ.tm;rw [e5]at h2;exact h2),(RowsIn.ok _ _ _ _ hJ.rw A.mix fun b2 hb=>by have:b2=b:=(by simpa using hb);rw [this];exact ho)⟩,Gg B (fun i e he=>Bj he) ho,(by rw [←e];exact hG)⟩))
end Go.Proofs.YtbbdanhpphlbpaaGreatDoor.Ar
namespace Go.Proofs.YtbbdanhpphlbpaaGreatDoor.Ar
open Go.RowKit
set_option simprocs false
abbrev sz:List UInt8×Bool×Bool:=([],false,false)
def LF (x:List UInt8×Bool×Bool):List SV:=[.str x.1,.bool x.2.1,.bool x.2.2]
theorem X4:(∀x,(LF x).length=3)∧(∀x,Fw 0 (LF x)=true)∧(∀x,∃vs,AE [] (LF x)=some vs):=⟨fun _=>rfl,fun _=>rfl,fun _=>⟨_,rfl⟩⟩
def a2:List (List UInt8×Int):=[([83,87,80],6),([76,68,65,68,68],1)]
def s4:List (List UInt8×Bool×Bool):=[([],false,false),([65],true,false),([76],false,true),([65,76],true,true)]
theorem l4:∀k,(a2.getD k nz).1.length≤100
 |0=>by decide
 |1=>by decide
 |k+2=>by simp [a2,List.getD]
theorem LG:∀k,(s4.getD k sz).1.length≤100
 |0=>by decide
 |1=>by decide
 |2=>by decide
 |3=>by decide
 |k+4=>by simp [s4,List.getD]
def SU (x:List UInt8×Int)(y:List UInt8×Bool×Bool):In:=⟨6,0,0,0,0,0,0,0,0,x.2,y.2.1,false,y.2.2,0,0,0,false⟩
abbrev Pp (x:List UInt8×Int)(y:List UInt8×Bool×Bool)(b1:Nat):Rw:=⟨(x.1++y.1)++[42],[],SU x y,some ⟨b1,0,none⟩,[2,1,6],3⟩
def KO:List (List UInt8×List UInt8×In×List Int):=a2.flatMap fun x=>s4.map fun y=>((x.1++y.1)++[42],[],SU x y,[2,1,6])
structure AA (lo n:Nat)(L:List Rw)(w:World)(ks:List Nat):Prop where
 tm:L.map tm=KO.take n
 rw:RowsIn lo L w ks
theorem AA.len {lo n:Nat}{L:List Rw}{w:World}{ks:List Nat}(h:AA lo n L w ks):L.length≤8∧(n≤8→L.length=n):=by
 have h1:=congrArg List.length h.tm
 rw [List.length_map,List.length_take]at h1
 have h2:KO.length=8:=by decide
 omega
theorem AA.nx {lo b1 k j:Nat}{L:List Rw}{w w1:World}{ks ks1:List Nat}(h:AA lo (4*k+j) L w ks)(hk:k<2)(hj:j<4)(hr:RowsIn lo L w1 ks1)(hA:Acc lo [(b1,[.int .i64 2,.int .i64 1,.int .i64 6])] w1 ks1):AA lo (4*k+(j+1)) (L++[Pp (a2.getD ((k:Int)).toNat nz) (s4.getD ((j:Int)).toNat sz) b1]) w1 ks1:=by
 refine⟨?_,fun r l5=>?_⟩
 ·rw [List.map_append,h.tm,Int.toNat_natCast,Int.toNat_natCast]
  have q1:k=0∨k=1:=by omega
  have q2:j=0∨j=1∨j=2∨j=3:=by omega
  rcases q1 with e|e<;>rcases q2 with e2|e2|e2|e2<;>rw [e,e2]<;>rfl
 ·rcases List.mem_append.1 l5 with h1|h1
  ·exact hr r h1
  ·simp only [List.mem_cons,List.mem_nil_iff,or_false]at h1
   subst h1
   exact Ao (cs:=[]) [2,1,6] hA List.mem_cons_self
theorem YE:Jf Tryz.prog 199 [] [] (fun x w w'=>∃(L:List Rw) (b cp:Nat),x=.sla (some ⟨b,0,none⟩) 8 cp∧(L.map tm=KO∧RowsIn w.heap.size L w' [b])∧w.heap.size≤b∧Bm 203 20 8 (fun zz=>iX (L.getD zz Rw.z)) b cp w'):=
 DJ (n:=51) (by kernel_rfl) Tryz.func199 rfl rfl rfl fun G w a h0 A=>N9 10 A rfl rfl fun A=>have A:=A.asT nz Ho 2 NP.1 NP.2.1 NP.2.2 a2 0 rfl;N9 6 A rfl rfl fun A=>have A:=AB A 12 (.agg [.str [],.bool false,.bool false]) rfl (fun _=>rfl);N9 1 A rfl rfl fun A=>have A:=AB A 13 (.agg [.str [65],.bool true,.bool false]) rfl (fun _=>rfl);N9 1 A rfl rfl fun A=>have A:=AB A 14 (.agg [.str [76],.bool false,.bool true]) rfl (fun _=>rfl);N9 1 A rfl rfl fun A=>have A:=AB A 15 (.agg [.str [65,76],.bool true,.bool true]) rfl (fun _=>rfl);N9 1 A rfl rfl fun A=>have A:=A.asT sz LF 3 X4.1 X4.2.1 X4.2.2 s4 1 rfl;N9 17 A rfl rfl fun A=>have A:=A.nilRow 3 203 20 (fun zz=>iX (([]:List Rw).getD zz Rw.z)) rfl (fun z=>⟨_,rfl,rfl⟩);Ew (fun(z:List Rw×Nat)=>[(0,.sla none 0 0),(2,.sl 1 4 4),(3,.sl 2 z.1.length 0),(17,.sl 0 2 2),(18,.int .i64 ((2:Nat):Int)),(19,.int .i64 (z.2:Int))]) (fun(z:List Rw×Nat)=>[some (.lst 2 2 (fun zz=>Ho (a2.getD zz nz))),some (.lst 3 4 (fun zz=>LF (s4.getD zz sz))),some (.row 203 20 z.1.length 0 (fun zz=>iX (z.1.getD zz Rw.z)))]) (fun z w1 ks1=>z.2≤2∧AA w.heap.size (4*z.2) z.1 w1 ks1) (fun z=>2 - z.2) ([],0) (A.cut [0,2,3,17,18,19] rfl) ⟨by decide,⟨rfl,fun r hr=>by cases hr⟩⟩ fun z G1 a1 w1 hJ hg A B=>have mD:=hJ.1;have hR:=hJ.2.rw;
 N9 6 A rfl rfl fun A=>AL 20 A rfl
   (fun h1 A=>N9 14 A rfl (iU (by omega)<|iU (by omega)<|iT) fun A=>N9 7 A rfl rfl fun A=>have hR:=RowsIn.ok _ _ _ _ hR A.mix A.keys_own;Ew (fun(y:List Rw×Nat)=>[(0,.sla none 0 0),(2,.sl 1 4 4),(3,.sl 2 y.1.length 0),(5,.ptr 3 0),(17,.sl 0 2 2),(18,.int .i64 ((2:Nat):Int)),(19,.int .i64 (z.2:Int)),(23,.sl 1 4 4),(24,.int .i64 ((4:Nat):Int)),(25,.int .i64 (y.2:Int))]) (fun(y:List Rw×Nat)=>[some (.lst 2 2 (fun zz=>Ho (a2.getD zz nz))),some (.lst 3 4 (fun zz=>LF (s4.getD zz sz))),some (.row 203 20 y.1.length 0 (fun zz=>iX (y.1.getD zz Rw.z))),some (.blk [.str ((a2.getD (((z.2:Int)).toNat) nz).1),.int .i64 ((a2.getD (((z.2:Int)).toNat) nz).2)])]) (fun y w1 ks1=>y.2≤4∧AA w.heap.size (4*z.2+y.2) y.1 w1 ks1) (fun y=>4 - y.2) (z.1,0) ((B.trans A).cut [0,2,3,5,17,18,19,23,24,25] rfl) ⟨Nat.zero_le 4,⟨hJ.2.tm,hR⟩⟩ fun y G1 a1 w1 hJ hg A B=>have hA:Acc w.heap.size [] w1 _:=Acc.nil;have hR:=hJ.2.rw;
 N9 6 A rfl rfl fun A=>AL 26 A rfl
     (fun h2 A=>N9 14 A rfl (iU (by omega)<|iU (by omega)<|iT) fun A=>N9 8 A rfl rfl fun A=>have A:=AB A 35 (.agg [.int .i64 6,.z9,.z9,.z9,.z9,.z9,.z9,.z9,.z9,.int .i64 ((a2.getD (((z.2:Int)).toNat) nz).2),.bool ((s4.getD (((y.2:Int)).toNat) sz).2.1),.bool false,.bool ((s4.getD (((y.2:Int)).toNat) sz).2.2),.z9,.z9,.z9,.bool false]) rfl (fun _=>rfl);N9 13 A rfl (iU (by have q:=l4 ((z.2:Int)).toNat;have q2:=LG ((y.2:Int)).toNat;(try simp only [List.length_append,List.length_cons,List.length_nil]);omega)<|iU (by have q:=l4 ((z.2:Int)).toNat;have q2:=LG ((y.2:Int)).toNat;(try simp only [List.length_append,List.length_cons,List.length_nil]);omega)<|iT) fun A=>lZ [.int .i64 2,.int .i64 1,.int .i64 6] (X:=⟨_,true⟩) hX RowsIn.ok B hA hR A rfl rfl rfl rfl fun b1 B hA hR A=>
 N9 2 A rfl rfl fun A=>have A:=A.asT Rw.z iX 20 k7.1 k7.2.1 k7.2.2 [Pp (a2.getD (((z.2:Int)).toNat) nz) (s4.getD (((y.2:Int)).toNat) sz) b1] 6 rfl;AW A rfl (GG hX ((y.1++[Pp (a2.getD (((z.2:Int)).toNat) nz) (s4.getD (((y.2:Int)).toNat) sz) b1]).length) (fun zz=>iX ((y.1++[Pp (a2.getD (((z.2:Int)).toNat) nz) (s4.getD (((y.2:Int)).toNat) sz) b1]).getD zz Rw.z)) rfl rfl rfl rfl (Nat.le_refl _) (by have:=hJ.2.len;have:=hJ.1;omega) (by decide) List.length_append (fun k hk=>by show iX _=iX _;rw [i6 hk]) (fun k hk=>by show iX _=iX _;rw [Bh]) (fun z=>⟨_,rfl,rfl⟩) (fun k hk=>⟨_,rfl,iT⟩)) fun A=>
 N9 8 A rfl (iU (by omega)<|iT) fun A=>⟨(y.1++[Pp (a2.getD (((z.2:Int)).toNat) nz) (s4.getD (((y.2:Int)).toNat) sz) b1],y.2+1),_,(by have:=h2;show _ - _<_ - _;omega),⟨by have:=h2;show y.2+1≤4;omega,hJ.2.nx (by omega) (by omega) (RowsIn.ok _ _ _ _ hR A.mix fun b hb=>A.keys_own b ((BQ (H:=[some (.lst 2 2 (fun zz=>Ho (a2.getD zz nz))),some (.lst 3 4 (fun zz=>LF (s4.getD zz sz))),none,some (.blk [.str ((a2.getD (((z.2:Int)).toNat) nz).1),.int .i64 ((a2.getD (((z.2:Int)).toNat) nz).2)]),some (.blk [.str ((s4.getD (((y.2:Int)).toNat) sz).1),.bool ((s4.getD (((y.2:Int)).toNat) sz).2.1),.bool ((s4.getD (((y.2:Int)).toNat) sz).2.2)]),some (.blk [.int .i64 6,.z9,.z9,.z9,.z9,.z9,.z9,.z9,.z9,.int .i64 ((a2.getD (((z.2:Int)).toNat) nz).2),.bool ((s4.getD (((y.2:Int)).toNat) sz).2.1),.bool false,.bool ((s4.getD (((y.2:Int)).toNat) sz).2.2),.z9,.z9,.z9,.bool false]),some (.lst 20 ([Pp (a2.getD (((z.2:Int)).toNat) nz) (s4.getD (((y.2:Int)).toNat) sz) b1].length) (fun zz=>iX ([Pp (a2.getD (((z.2:Int)).toNat) nz) (s4.getD (((y.2:Int)).toNat) sz) b1].getD zz Rw.z))),some (.row 203 20 ((y.1++[Pp (a2.getD (((z.2:Int)).toNat) nz) (s4.getD (((y.2:Int)).toNat) sz) b1]).length) 0 (fun zz=>iX ((y.1++[Pp (a2.getD (((z.2:Int)).toNat) nz) (s4.getD (((y.2:Int)).toNat) sz) b1]).getD zz Rw.z)))]) (m:=[0,1,7,3]) A.mem.len rfl rfl) b hb)) (hA.go A.mix fun b hb=>A.keys_own b ((BQ (H:=[some (.lst 2 2 (fun zz=>Ho (a2.getD zz nz))),some (.lst 3 4 (fun zz=>LF (s4.getD zz sz))),none,some (.blk [.str ((a2.getD (((z.2:Int)).toNat) nz).1),.int .i64 ((a2.getD (((z.2:Int)).toNat) nz).2)]),some (.blk [.str ((s4.getD (((y.2:Int)).toNat) sz).1),.bool ((s4.getD (((y.2:Int)).toNat) sz).2.1),.bool ((s4.getD (((y.2:Int)).toNat) sz).2.2)]),some (.blk [.int .i64 6,.z9,.z9,.z9,.z9,.z9,.z9,.z9,.z9,.int .i64 ((a2.getD (((z.2:Int)).toNat) nz).2),.bool ((s4.getD (((y.2:Int)).toNat) sz).2.1),.bool false,.bool ((s4.getD (((y.2:Int)).toNat) sz).2.2),.z9,.z9,.z9,.bool false]),some (.lst 20 ([Pp (a2.getD (((z.2:Int)).toNat) nz) (s4.getD (((y.2:Int)).toNat) sz) b1].length) (fun zz=>iX ([Pp (a2.getD (((z.2:Int)).toNat) nz) (s4.getD (((y.2:Int)).toNat) sz) b1].getD zz Rw.z))),some (.row 203 20 ((y.1++[Pp (a2.getD (((z.2:Int)).toNat) nz) (s4.getD (((y.2:Int)).toNat) sz) b1]).length) 0 (fun zz=>iX ((y.1++[Pp (a2.getD (((z.2:Int)).toNat) nz) (s4.getD (((y.2:Int)).toNat) sz) b1]).getD zz Rw.z)))]) (m:=[0,1,7,3]) A.mem.len rfl rfl) b hb))⟩,((B.trans A).cut [0,2,3,5,17,18,19,23,24,25] rfl).mv 0 [0,1,7,3] rfl rfl rfl rfl (by simp only [List.length_nil]at h0;omega)⟩)
     (fun h2 A=>N9 8 A rfl (iU (by omega)<|iT) fun A=>⟨(y.1,z.2+1),_,(by have:=h1;show _ - _<_ - _;omega),⟨by have:=h1;show z.2+1≤2;omega,⟨(by have q:=hJ.2.tm;have q1:=hJ.1;rw [show 4*z.2+y.2=4*(z.2+1) by omega]at q;exact q),RowsIn.ok _ _ _ _ hJ.2.rw A.mix fun b hb=>A.keys_own b ((BQ (H:=[some (.lst 2 2 (fun zz=>Ho (a2.getD zz nz))),some (.lst 3 4 (fun zz=>LF (s4.getD zz sz))),some (.row 203 20 y.1.length 0 (fun zz=>iX (y.1.getD zz Rw.z))),some (.blk [.str ((a2.getD (((z.2:Int)).toNat) nz).1),.int .i64 ((a2.getD (((z.2:Int)).toNat) nz).2)])]) (m:=[0,1,2]) A.mem.len rfl rfl) b hb)⟩⟩,((B.trans A).cut [0,2,3,17,18,19] rfl).mv 0 [0,1,2] rfl rfl rfl rfl (by simp only [List.length_nil]at h0;omega)⟩))
   (fun h1 A=>N9 10 A rfl rfl fun A=>(have e5:z.2=2:=(by have:=hJ.1;omega);have e:z.1.length=8:=(by have:=hJ.2.len;omega);match A.giveRow 2 0 (by omega) rfl rfl rfl with|⟨b,cp,A2,hG,ho,hk⟩=>HY (J:=fun x w w'=>∃(L:List Rw) (b cp:Nat),x=.sla (some ⟨b,0,none⟩) 8 cp∧(L.map tm=KO∧RowsIn w.heap.size L w' [b])∧w.heap.size≤b∧Bm 203 20 8 (fun zz=>iX (L.getD zz Rw.z)) b cp w') hX (B.trans A2) (fun i e he=>Bj he) rfl rfl rfl rfl ⟨z.1,b,cp,(by show SV.sla _ z.1.length cp=_;rw [e]),⟨(by have h2:=hJ.2.tm;rw [e5]at h2;exact h2),(RowsIn.ok _ _ _ _ hJ.2.rw A.mix fun b2 hb=>by have:b2=b:=(by simpa using hb);rw [this];exact ho)⟩,Gg B (fun i e he=>Bj he) ho,(by rw [←e];exact hG)⟩))
end Go.Proofs.YtbbdanhpphlbpaaGreatDoor.Ar
namespace Go.Proofs.YtbbdanhpphlbpaaGreatDoor.Ar
open Go.RowKit
set_option simprocs false
abbrev fz:List UInt8×Int×Int:=([],0,0)
def YF (x:List UInt8×Int×Int):List SV:=[.str x.1,.int .i64 x.2.1,.int .i64 x.2.2]
theorem fN:(∀x,(YF x).length=3)∧(∀x,Fw 0 (YF x)=true)∧(∀x,∃vs,AE [] (YF x)=some vs):=⟨fun _=>rfl,fun _=>rfl,fun _=>⟨_,rfl⟩⟩
def f3:List (List UInt8×Int×Int):=[([83,89],3,3),([76,68],1,3),([83,84],2,2)]
def bK (x:List UInt8×Int×Int):In:=⟨7,0,0,0,0,0,0,0,0,0,false,false,false,x.2.1,x.2.2,0,false⟩
abbrev Pq (x:List UInt8×Int×Int)(b1:Nat):Rw:=⟨[68,77,66],x.1,bK x,some ⟨b1,0,none⟩,[10],1⟩
def Pr:List (List UInt8×List UInt8×In×List Int):=f3.map fun x=>([68,77,66],x.1,bK x,[10])
structure AF (lo:Nat)(z:List Rw×Nat)(w:World)(ks:List Nat):Prop where
 le:z.2≤3
 tm:z.1.map tm=Pr.take z.2
 rw:RowsIn lo z.1 w ks
theorem AF.len {lo:Nat}{z:List Rw×Nat}{w:World}{ks:List Nat}(h:AF lo z w ks):z.1.length=z.2:=by
 have h1:=congrArg List.length h.tm
 rw [List.length_map,List.length_take]at h1
 have h2:Pr.length=3:=by decide
 have:=h.le
 omega
theorem AF.nx {lo b1:Nat}{z:List Rw×Nat}{w w1:World}{ks ks1:List Nat}{l:List (Nat×List SV)}(h:AF lo z w ks)(hk:(z.2:Int)<3)(hr:RowsIn lo z.1 w1 ks1)(hA:Acc lo [(b1,[.int .i64 10])] w1 ks1):AF lo (z.1++[Pq (f3.getD ((z.2:Int)).toNat fz) b1],z.2+1) w1 ks1:=by
 refine⟨by have:=h.le;show z.2+1≤3;omega,?_,fun r l5=>?_⟩
 ·show List.map _ (z.1++_)=_
  rw [List.map_append,h.tm,Int.toNat_natCast]
  have:z.2=0∨z.2=1∨z.2=2:=by omega
  rcases this with e|e|e<;>rw [e]<;>rfl
 ·rcases List.mem_append.1 l5 with h1|h1
  ·exact hr r h1
  ·simp only [List.mem_cons,List.mem_nil_iff,or_false]at h1
   subst h1
   exact Ao (cs:=[]) [10] hA List.mem_cons_self
theorem bL:Jf Tryz.prog 200 [] [] (fun x w w'=>∃(L:List Rw) (b cp:Nat),x=.sla (some ⟨b,0,none⟩) 3 cp∧(L.map tm=Pr∧RowsIn w.heap.size L w' [b])∧w.heap.size≤b∧Bm 203 20 3 (fun zz=>iX (L.getD zz Rw.z)) b cp w'):=
 DJ (n:=31) (by kernel_rfl) Tryz.func200 rfl rfl rfl fun G w a h0 A=>N9 11 A rfl rfl fun A=>have A:=A.asT fz YF 3 fN.1 fN.2.1 fN.2.2 f3 0 rfl;N9 17 A rfl rfl fun A=>have A:=A.nilRow 2 203 20 (fun zz=>iX (([]:List Rw).getD zz Rw.z)) rfl (fun z=>⟨_,rfl,rfl⟩);Ew (fun(z:List Rw×Nat)=>[(0,.sla none 0 0),(2,.sl 1 z.1.length 0),(10,.sl 0 3 3),(11,.int .i64 ((3:Nat):Int)),(12,.int .i64 (z.2:Int))]) (fun(z:List Rw×Nat)=>[some (.lst 3 3 (fun zz=>YF (f3.getD zz fz))),some (.row 203 20 z.1.length 0 (fun zz=>iX (z.1.getD zz Rw.z)))]) (fun z w1 ks1=>AF w.heap.size z w1 ks1) (fun z=>3 - z.2) ([],0) (A.cut [0,2,10,11,12] rfl) ⟨by decide,rfl,fun r hr=>by cases hr⟩ fun z G1 a1 w1 hJ hg A B=>have hA:Acc w.heap.size [] w1 _:=Acc.nil;have hR:=hJ.rw;
 N9 6 A rfl rfl fun A=>AL 13 A rfl
   (fun h1 A=>N9 14 A rfl (iU (by omega)<|iU (by omega)<|iT) fun A=>N9 6 A rfl rfl fun A=>have A:=AB A 20 (.agg [.int .i64 7,.z9,.z9,.z9,.z9,.z9,.z9,.z9,.z9,.z9,.bool false,.bool false,.bool false,.int .i64 ((f3.getD (((z.2:Int)).toNat) fz).2.1),.int .i64 ((f3.getD (((z.2:Int)).toNat) fz).2.2),.z9,.bool false]) rfl (fun _=>rfl);N9 9 A rfl rfl fun A=>lZ [.int .i64 10] (X:=⟨_,true⟩) hX RowsIn.ok B hA hR A rfl rfl rfl rfl fun b1 B hA hR A=>
 N9 2 A rfl rfl fun A=>have A:=A.asT Rw.z iX 20 k7.1 k7.2.1 k7.2.2 [Pq (f3.getD (((z.2:Int)).toNat) fz) b1] 4 rfl;AW A rfl (GG hX ((z.1++[Pq (f3.getD (((z.2:Int)).toNat) fz) b1]).length) (fun zz=>iX ((z.1++[Pq (f3.getD (((z.2:Int)).toNat) fz) b1]).getD zz Rw.z)) rfl rfl rfl rfl (Nat.le_refl _) (by have:=hJ.len;have:=hJ.le;omega) (by decide) List.length_append (fun k hk=>by show iX _=iX _;rw [i6 hk]) (fun k hk=>by show iX _=iX _;rw [Bh]) (fun z=>⟨_,rfl,rfl⟩) (fun k hk=>⟨_,rfl,iT⟩)) fun A=>
 N9 8 A rfl (iU (by omega)<|iT) fun A=>⟨(z.1++[Pq (f3.getD (((z.2:Int)).toNat) fz) b1],z.2+1),_,(by have:=h1;show _ - _<_ - _;omega),(hJ.nx (l:=[]) h1 (RowsIn.ok _ _ _ _ hR A.mix fun b hb=>A.keys_own b ((BQ (H:=[some (.lst 3 3 (fun zz=>YF (f3.getD zz fz))),none,some (.blk [.str ((f3.getD (((z.2:Int)).toNat) fz).1),.int .i64 ((f3.getD (((z.2:Int)).toNat) fz).2.1),.int .i64 ((f3.getD (((z.2:Int)).toNat) fz).2.2)]),some (.blk [.int .i64 7,.z9,.z9,.z9,.z9,.z9,.z9,.z9,.z9,.z9,.bool false,.bool false,.bool false,.int .i64 ((f3.getD (((z.2:Int)).toNat) fz).2.1),.int .i64 ((f3.getD (((z.2:Int)).toNat) fz).2.2),.z9,.bool false]),some (.lst 20 ([Pq (f3.getD (((z.2:Int)).toNat) fz) b1].length) (fun zz=>iX ([Pq (f3.getD (((z.2:Int)).toNat) fz) b1].getD zz Rw.z))),some (.row 203 20 ((z.1++[Pq (f3.getD (((z.2:Int)).toNat) fz) b1]).length) 0 (fun zz=>iX ((z.1++[Pq (f3.getD (((z.2:Int)).toNat) fz) b1]).getD zz Rw.z)))]) (m:=[0,5]) A.mem.len rfl rfl) b hb)) (hA.go A.mix fun b hb=>A.keys_own b ((BQ (H:=[some (.lst 3 3 (fun zz=>YF (f3.getD zz fz))),none,some (.blk [.str ((f3.getD (((z.2:Int)).toNat) fz).1),.int .i64 ((f3.getD (((z.2:Int)).toNat) fz).2.1),.int .i64 ((f3.getD (((z.2:Int)).toNat) fz).2.2)]),some (.blk [.int .i64 7,.z9,.z9,.z9,.z9,.z9,.z9,.z9,.z9,.z9,.bool false,.bool false,.bool false,.int .i64 ((f3.getD (((z.2:Int)).toNat) fz).2.1),.int .i64 ((f3.getD (((z.2:Int)).toNat) fz).2.2),.z9,.bool false]),some (.lst 20 ([Pq (f3.getD (((z.2:Int)).toNat) fz) b1].length) (fun zz=>iX ([Pq (f3.getD (((z.2:Int)).toNat) fz) b1].getD zz Rw.z))),some (.row 203 20 ((z.1++[Pq (f3.getD (((z.2:Int)).toNat) fz) b1]).length) 0 (fun zz=>iX ((z.1++[Pq (f3.getD (((z.2:Int)).toNat) fz) b1]).getD zz Rw.z)))]) (m:=[0,5]) A.mem.len rfl rfl) b hb))),((B.trans A).cut [0,2,10,11,12] rfl).mv 0 [0,5] rfl rfl rfl rfl (by simp only [List.length_nil]at h0;omega)⟩)
   (fun h1 A=>N9 10 A rfl rfl fun A=>(have e5:z.2=3:=(by have:=hJ.le;omega);have e:z.1.length=3:=(by have:=hJ.len;omega);match A.giveRow 1 0 (by omega) rfl rfl rfl with|⟨b,cp,A2,hG,ho,hk⟩=>HY (J:=fun x w w'=>∃(L:List Rw) (b cp:Nat),x=.sla (some ⟨b,0,none⟩) 3 cp∧(L.map tm=Pr∧RowsIn w.heap.size L w' [b])∧w.heap.size≤b∧Bm 203 20 3 (fun zz=>iX (L.getD zz Rw.z)) b cp w') hX (B.trans A2) (fun i e he=>Bj he) rfl rfl rfl rfl ⟨z.1,b,cp,(by show SV.sla _ z.1.length cp=_;rw [e]),⟨(by have h2:=hJ.tm;rw [e5]at h2;exact h2),(RowsIn.ok _ _ _ _ hJ.rw A.mix fun b2 hb=>by have:b2=b:=(by simpa using hb);rw [this];exact ho)⟩,Gg B (fun i e he=>Bj he) ho,(by rw [←e];exact hG)⟩))
end Go.Proofs.YtbbdanhpphlbpaaGreatDoor.Ar
namespace Go.Proofs.YtbbdanhpphlbpaaGreatDoor.Ar
open Go.RowKit
set_option simprocs false
abbrev Ec (b1 b2 b3:Nat):List (Nat×List SV):=[(b3,[.str [76,68,82,42],.str [],.int .i64 4,.z9,.z9,.z9,.z9,.z9,.z9,.z9,.z9,.z9,.ff,.ff,.ff,.z9,.z9,.z9,.ff,.sla (some ⟨b1,0,none⟩) 2 2,.str [76,68,65,82,42],.str [],.int .i64 4,.z9,.z9,.z9,.z9,.z9,.z9,.z9,.z9,.z9,.tt,.ff,.ff,.z9,.z9,.z9,.ff,.sla (some ⟨b1,0,none⟩) 2 2,.str [76,68,65,80,82,42],.str [],.int .i64 4,.z9,.z9,.z9,.z9,.z9,.z9,.z9,.z9,.z9,.ff,.tt,.ff,.z9,.z9,.z9,.ff,.sla (some ⟨b1,0,none⟩) 2 2,.str [83,84,82,42],.str [],.int .i64 5,.z9,.z9,.z9,.z9,.z9,.z9,.z9,.z9,.z9,.ff,.ff,.ff,.z9,.z9,.z9,.ff,.sla (some ⟨b2,0,none⟩) 2 2,.str [83,84,76,82,42],.str [],.int .i64 5,.z9,.z9,.z9,.z9,.z9,.z9,.z9,.z9,.z9,.ff,.ff,.tt,.z9,.z9,.z9,.ff,.sla (some ⟨b2,0,none⟩) 2 2]),(b2,[.int .i64 2,.int .i64 6]),(b1,[.int .i64 1,.int .i64 6])]
theorem bM:Jf Tryz.prog 198 [] [] (fun x w w'=>∃b1 b2 b3:Nat,x=.sla (some ⟨b3,0,none⟩) 5 5∧Acc w.heap.size (Ec b1 b2 b3) w' []):=
 DJ (n:=21) (by kernel_rfl) Tryz.func198 rfl rfl rfl fun G w a h0 A=>have B:=A;have hA:Acc w.heap.size [] w _:=Acc.nil;N9 7 A rfl rfl fun A=>C0 [.int .i64 1,.int .i64 6] (X:=⟨_,true⟩) hX B hA A rfl rfl rfl rfl fun b1 B hA A=>
 C0 [.int .i64 2,.int .i64 6] (X:=⟨_,true⟩) hX B hA A rfl rfl rfl rfl fun b2 B hA A=>
 N9 21 A rfl rfl fun A=>C0 [.str [76,68,82,42],.str [],.int .i64 4,.z9,.z9,.z9,.z9,.z9,.z9,.z9,.z9,.z9,.ff,.ff,.ff,.z9,.z9,.z9,.ff,.sla (some ⟨b1,0,none⟩) 2 2,.str [76,68,65,82,42],.str [],.int .i64 4,.z9,.z9,.z9,.z9,.z9,.z9,.z9,.z9,.z9,.tt,.ff,.ff,.z9,.z9,.z9,.ff,.sla (some ⟨b1,0,none⟩) 2 2,.str [76,68,65,80,82,42],.str [],.int .i64 4,.z9,.z9,.z9,.z9,.z9,.z9,.z9,.z9,.z9,.ff,.tt,.ff,.z9,.z9,.z9,.ff,.sla (some ⟨b1,0,none⟩) 2 2,.str [83,84,82,42],.str [],.int .i64 5,.z9,.z9,.z9,.z9,.z9,.z9,.z9,.z9,.z9,.ff,.ff,.ff,.z9,.z9,.z9,.ff,.sla (some ⟨b2,0,none⟩) 2 2,.str [83,84,76,82,42],.str [],.int .i64 5,.z9,.z9,.z9,.z9,.z9,.z9,.z9,.z9,.z9,.ff,.ff,.tt,.z9,.z9,.z9,.ff,.sla (some ⟨b2,0,none⟩) 2 2] (X:=⟨_,true⟩) hX B hA A rfl rfl rfl rfl fun b3 B hA A=>
 N9 4 A rfl rfl fun A=>HY (J:=fun x w w'=>∃b1 b2 b3:Nat,x=.sla (some ⟨b3,0,none⟩) 5 5∧Acc w.heap.size (Ec b1 b2 b3) w' []) hX (B.trans A) (fun i e he=>Bj he) rfl rfl rfl rfl ⟨b1,b2,b3,rfl,(hA.now A).bare⟩
abbrev FX (b1 b2 b3 b4 b5:Nat):List (Nat×List SV):=[(b5,[.str [77,79,86],.str [],.int .i64 1,.z9,.z9,.z9,.z9,.z9,.z9,.z9,.z9,.z9,.ff,.ff,.ff,.z9,.z9,.z9,.ff,.sla (some ⟨b1,0,none⟩) 2 2,.str [77,79,86],.str [],.int .i64 2,.z9,.z9,.z9,.z9,.z9,.z9,.z9,.z9,.z9,.ff,.ff,.ff,.z9,.z9,.z9,.ff,.sla (some ⟨b2,0,none⟩) 2 2,.str [73,83,66],.str [],.int .i64 8,.z9,.z9,.z9,.z9,.z9,.z9,.z9,.z9,.z9,.ff,.ff,.ff,.z9,.z9,.z9,.ff,.sla none 0 0,.str [67,66,90],.str [],.int .i64 9,.z9,.z9,.z9,.z9,.z9,.z9,.z9,.z9,.z9,.ff,.ff,.ff,.z9,.z9,.z9,.tt,.sla (some ⟨b3,0,none⟩) 2 2,.str [67,66,78,90],.str [],.int .i64 9,.z9,.z9,.z9,.z9,.z9,.z9,.z9,.z9,.z9,.ff,.ff,.ff,.z9,.z9,.z9,.ff,.sla (some ⟨b4,0,none⟩) 2 2]),(b4,[.int .i64 2,.int .i64 7]),(b3,[.int .i64 2,.int .i64 7]),(b2,[.int .i64 1,.int .i64 2]),(b1,[.int .i64 1,.int .i64 5])]
theorem bN:Jf Tryz.prog 201 [] [] (fun x w w'=>∃b1 b2 b3 b4 b5:Nat,x=.sla (some ⟨b5,0,none⟩) 5 5∧Acc w.heap.size (FX b1 b2 b3 b4 b5) w' []):=
 DJ (n:=16) (by kernel_rfl) Tryz.func201 rfl rfl rfl fun G w a h0 A=>have B:=A;have hA:Acc w.heap.size [] w _:=Acc.nil;N9 8 A rfl rfl fun A=>C0 [.int .i64 1,.int .i64 5] (X:=⟨_,true⟩) hX B hA A rfl rfl rfl rfl fun b1 B hA A=>
 N9 2 A rfl rfl fun A=>C0 [.int .i64 1,.int .i64 2] (X:=⟨_,true⟩) hX B hA A rfl rfl rfl rfl fun b2 B hA A=>
 N9 4 A rfl rfl fun A=>C0 [.int .i64 2,.int .i64 7] (X:=⟨_,true⟩) hX B hA A rfl rfl rfl rfl fun b3 B hA A=>
 N9 2 A rfl rfl fun A=>C0 [.int .i64 2,.int .i64 7] (X:=⟨_,true⟩) hX B hA A rfl rfl rfl rfl fun b4 B hA A=>
 N9 1 A rfl rfl fun A=>C0 [.str [77,79,86],.str [],.int .i64 1,.z9,.z9,.z9,.z9,.z9,.z9,.z9,.z9,.z9,.ff,.ff,.ff,.z9,.z9,.z9,.ff,.sla (some ⟨b1,0,none⟩) 2 2,.str [77,79,86],.str [],.int .i64 2,.z9,.z9,.z9,.z9,.z9,.z9,.z9,.z9,.z9,.ff,.ff,.ff,.z9,.z9,.z9,.ff,.sla (some ⟨b2,0,none⟩) 2 2,.str [73,83,66],.str [],.int .i64 8,.z9,.z9,.z9,.z9,.z9,.z9,.z9,.z9,.z9,.ff,.ff,.ff,.z9,.z9,.z9,.ff,.sla none 0 0,.str [67,66,90],.str [],.int .i64 9,.z9,.z9,.z9,.z9,.z9,.z9,.z9,.z9,.z9,.ff,.ff,.ff,.z9,.z9,.z9,.tt,.sla (some ⟨b3,0,none⟩) 2 2,.str [67,66,78,90],.str [],.int .i64 9,.z9,.z9,.z9,.z9,.z9,.z9,.z9,.z9,.z9,.ff,.ff,.ff,.z9,.z9,.z9,.ff,.sla (some ⟨b4,0,none⟩) 2 2] (X:=⟨_,true⟩) hX B hA A rfl rfl rfl rfl fun b5 B hA A=>
 N9 4 A rfl rfl fun A=>HY (J:=fun x w w'=>∃b1 b2 b3 b4 b5:Nat,x=.sla (some ⟨b5,0,none⟩) 5 5∧Acc w.heap.size (FX b1 b2 b3 b4 b5) w' []) hX (B.trans A) (fun i e he=>Bj he) rfl rfl rfl rfl ⟨b1,b2,b3,b4,b5,rfl,(hA.now A).bare⟩
end Go.Proofs.YtbbdanhpphlbpaaGreatDoor.Ar
namespace Go.Proofs.YtbbdanhpphlbpaaGreatDoor.Ar
open Go.RowKit
set_option simprocs false
def Ed (b1 b2:Nat):List Rw:=[⟨[76,68,82,42],[],⟨4,0,0,0,0,0,0,0,0,0,false,false,false,0,0,0,false⟩,some ⟨b1,0,none⟩,[1,6],2⟩,⟨[76,68,65,82,42],[],⟨4,0,0,0,0,0,0,0,0,0,true,false,false,0,0,0,false⟩,some ⟨b1,0,none⟩,[1,6],2⟩,⟨[76,68,65,80,82,42],[],⟨4,0,0,0,0,0,0,0,0,0,false,true,false,0,0,0,false⟩,some ⟨b1,0,none⟩,[1,6],2⟩,⟨[83,84,82,42],[],⟨5,0,0,0,0,0,0,0,0,0,false,false,false,0,0,0,false⟩,some ⟨b2,0,none⟩,[2,6],2⟩,⟨[83,84,76,82,42],[],⟨5,0,0,0,0,0,0,0,0,0,false,false,true,0,0,0,false⟩,some ⟨b2,0,none⟩,[2,6],2⟩]
def bO:List (List UInt8×List UInt8×In×List Int):=[([76,68,82,42],[],⟨4,0,0,0,0,0,0,0,0,0,false,false,false,0,0,0,false⟩,[1,6]),([76,68,65,82,42],[],⟨4,0,0,0,0,0,0,0,0,0,true,false,false,0,0,0,false⟩,[1,6]),([76,68,65,80,82,42],[],⟨4,0,0,0,0,0,0,0,0,0,false,true,false,0,0,0,false⟩,[1,6]),([83,84,82,42],[],⟨5,0,0,0,0,0,0,0,0,0,false,false,false,0,0,0,false⟩,[2,6]),([83,84,76,82,42],[],⟨5,0,0,0,0,0,0,0,0,0,false,false,true,0,0,0,false⟩,[2,6])]
theorem Pt {b1 b2 b3 lo lo2:Nat}{w:World}{ks:List Nat}(h:Acc lo (Ec b1 b2 b3) w ks)(jO:lo2≤lo):RowsIn lo2 (Ed b1 b2) w ks:=by
 intro r hr
 unfold Ed at hr
 simp only [List.mem_cons,List.mem_nil_iff,or_false]at hr
 rcases hr with rfl|rfl|rfl|rfl|rfl
 ·have q:=Ao (b:=b1) (cs:=[]) [1,6] h (by show _∈Ec b1 b2 b3;unfold Ec;simp);exact⟨q.1,fun z hz=>Nat.le_trans jO (q.2 z hz)⟩
 ·have q:=Ao (b:=b1) (cs:=[]) [1,6] h (by show _∈Ec b1 b2 b3;unfold Ec;simp);exact⟨q.1,fun z hz=>Nat.le_trans jO (q.2 z hz)⟩
 ·have q:=Ao (b:=b1) (cs:=[]) [1,6] h (by show _∈Ec b1 b2 b3;unfold Ec;simp);exact⟨q.1,fun z hz=>Nat.le_trans jO (q.2 z hz)⟩
 ·have q:=Ao (b:=b2) (cs:=[]) [2,6] h (by show _∈Ec b1 b2 b3;unfold Ec;simp);exact⟨q.1,fun z hz=>Nat.le_trans jO (q.2 z hz)⟩
 ·have q:=Ao (b:=b2) (cs:=[]) [2,6] h (by show _∈Ec b1 b2 b3;unfold Ec;simp);exact⟨q.1,fun z hz=>Nat.le_trans jO (q.2 z hz)⟩
theorem Se (b1 b2 b3:Nat):AE [] ((Ed b1 b2).flatMap iX)=AE [] [.str [76,68,82,42],.str [],.int .i64 4,.z9,.z9,.z9,.z9,.z9,.z9,.z9,.z9,.z9,.ff,.ff,.ff,.z9,.z9,.z9,.ff,.sla (some ⟨b1,0,none⟩) 2 2,.str [76,68,65,82,42],.str [],.int .i64 4,.z9,.z9,.z9,.z9,.z9,.z9,.z9,.z9,.z9,.tt,.ff,.ff,.z9,.z9,.z9,.ff,.sla (some ⟨b1,0,none⟩) 2 2,.str [76,68,65,80,82,42],.str [],.int .i64 4,.z9,.z9,.z9,.z9,.z9,.z9,.z9,.z9,.z9,.ff,.tt,.ff,.z9,.z9,.z9,.ff,.sla (some ⟨b1,0,none⟩) 2 2,.str [83,84,82,42],.str [],.int .i64 5,.z9,.z9,.z9,.z9,.z9,.z9,.z9,.z9,.z9,.ff,.ff,.ff,.z9,.z9,.z9,.ff,.sla (some ⟨b2,0,none⟩) 2 2,.str [83,84,76,82,42],.str [],.int .i64 5,.z9,.z9,.z9,.z9,.z9,.z9,.z9,.z9,.z9,.ff,.ff,.tt,.z9,.z9,.z9,.ff,.sla (some ⟨b2,0,none⟩) 2 2]:=by rfl
section
variable {n:Nat}{ks:List Nat}{G0:Gr}{w0:World}{T:List (Nat×SV)}{H:Hp}{G:Gr}{a:Act}{w:World}{Q:Exit→Act→World→Prop}{K:List Fr}{ops:Array Oper}{o:Oper}{rest:List Oper}
theorem Uj (A:Sy n T H ks G0 w0 G a w) (h1:BS n ops T o=some (198,[]))
  (k:∀b1 b2 b3 vs a' w',AE [] ((Ed b1 b2).flatMap iX)=some vs→Iv b3 0 vs w' (keys H G)→RowsIn w.heap.size (Ed b1 b2) w' (keys H G)→Sy n (Ay T o.dst (.sla (some ⟨b3,0,none⟩) 5 5)) H ks G0 w0 G a' w'→Goal Tryz.prog Q K (.ops ops rest) a' w'):Goal Tryz.prog Q K (.ops ops (o::rest)) a w:=by
 refine Iw [] bM A h1 rfl rfl rfl rfl fun x a' w' hJ hk A'=>?_
 obtain⟨b1,b2,b3,rfl,hA⟩:=hJ
 have hA:=HH hA hk
 obtain⟨_,vs,q1,q2⟩:=hA _ List.mem_cons_self
 exact k b1 b2 b3 vs a' w' ((Se b1 b2 b3).trans q1) q2 (Pt hA (Nat.le_refl _)) A'
end
def F6 (b1 b2 b3 b4:Nat):List Rw:=[⟨[77,79,86],[],⟨1,0,0,0,0,0,0,0,0,0,false,false,false,0,0,0,false⟩,some ⟨b1,0,none⟩,[1,5],2⟩,⟨[77,79,86],[],⟨2,0,0,0,0,0,0,0,0,0,false,false,false,0,0,0,false⟩,some ⟨b2,0,none⟩,[1,2],2⟩,⟨[73,83,66],[],⟨8,0,0,0,0,0,0,0,0,0,false,false,false,0,0,0,false⟩,none,[],0⟩,⟨[67,66,90],[],⟨9,0,0,0,0,0,0,0,0,0,false,false,false,0,0,0,true⟩,some ⟨b3,0,none⟩,[2,7],2⟩,⟨[67,66,78,90],[],⟨9,0,0,0,0,0,0,0,0,0,false,false,false,0,0,0,false⟩,some ⟨b4,0,none⟩,[2,7],2⟩]
def bP:List (List UInt8×List UInt8×In×List Int):=[([77,79,86],[],⟨1,0,0,0,0,0,0,0,0,0,false,false,false,0,0,0,false⟩,[1,5]),([77,79,86],[],⟨2,0,0,0,0,0,0,0,0,0,false,false,false,0,0,0,false⟩,[1,2]),([73,83,66],[],⟨8,0,0,0,0,0,0,0,0,0,false,false,false,0,0,0,false⟩,[]),([67,66,90],[],⟨9,0,0,0,0,0,0,0,0,0,false,false,false,0,0,0,true⟩,[2,7]),([67,66,78,90],[],⟨9,0,0,0,0,0,0,0,0,0,false,false,false,0,0,0,false⟩,[2,7])]
theorem Pv {b1 b2 b3 b4 b5 lo lo2:Nat}{w:World}{ks:List Nat}(h:Acc lo (FX b1 b2 b3 b4 b5) w ks)(jO:lo2≤lo):RowsIn lo2 (F6 b1 b2 b3 b4) w ks:=by
 intro r hr
 unfold F6 at hr
 simp only [List.mem_cons,List.mem_nil_iff,or_false]at hr
 rcases hr with rfl|rfl|rfl|rfl|rfl
 ·have q:=Ao (b:=b1) (cs:=[]) [1,5] h (by show _∈FX b1 b2 b3 b4 b5;unfold FX;simp);exact⟨q.1,fun z hz=>Nat.le_trans jO (q.2 z hz)⟩
 ·have q:=Ao (b:=b2) (cs:=[]) [1,2] h (by show _∈FX b1 b2 b3 b4 b5;unfold FX;simp);exact⟨q.1,fun z hz=>Nat.le_trans jO (q.2 z hz)⟩
 ·exact⟨.inl ⟨rfl,rfl⟩,fun q hq=>by cases hq⟩
 ·have q:=Ao (b:=b3) (cs:=[]) [2,7] h (by show _∈FX b1 b2 b3 b4 b5;unfold FX;simp);exact⟨q.1,fun z hz=>Nat.le_trans jO (q.2 z hz)⟩
 ·have q:=Ao (b:=b4) (cs:=[]) [2,7] h (by show _∈FX b1 b2 b3 b4 b5;unfold FX;simp);exact⟨q.1,fun z hz=>Nat.le_trans jO (q.2 z hz)⟩
theorem Sf (b1 b2 b3 b4 b5:Nat):AE [] ((F6 b1 b2 b3 b4).flatMap iX)=AE [] [.str [77,79,86],.str [],.int .i64 1,.z9,.z9,.z9,.z9,.z9,.z9,.z9,.z9,.z9,.ff,.ff,.ff,.z9,.z9,.z9,.ff,.sla (some ⟨b1,0,none⟩) 2 2,.str [77,79,86],.str [],.int .i64 2,.z9,.z9,.z9,.z9,.z9,.z9,.z9,.z9,.z9,.ff,.ff,.ff,.z9,.z9,.z9,.ff,.sla (some ⟨b2,0,none⟩) 2 2,.str [73,83,66],.str [],.int .i64 8,.z9,.z9,.z9,.z9,.z9,.z9,.z9,.z9,.z9,.ff,.ff,.ff,.z9,.z9,.z9,.ff,.sla none 0 0,.str [67,66,90],.str [],.int .i64 9,.z9,.z9,.z9,.z9,.z9,.z9,.z9,.z9,.z9,.ff,.ff,.ff,.z9,.z9,.z9,.tt,.sla (some ⟨b3,0,none⟩) 2 2,.str [67,66,78,90],.str [],.int .i64 9,.z9,.z9,.z9,.z9,.z9,.z9,.z9,.z9,.z9,.ff,.ff,.ff,.z9,.z9,.z9,.ff,.sla (some ⟨b4,0,none⟩) 2 2]:=by rfl
section
variable {n:Nat}{ks:List Nat}{G0:Gr}{w0:World}{T:List (Nat×SV)}{H:Hp}{G:Gr}{a:Act}{w:World}{Q:Exit→Act→World→Prop}{K:List Fr}{ops:Array Oper}{o:Oper}{rest:List Oper}
theorem Uk (A:Sy n T H ks G0 w0 G a w) (h1:BS n ops T o=some (201,[]))
  (k:∀b1 b2 b3 b4 b5 vs a' w',AE [] ((F6 b1 b2 b3 b4).flatMap iX)=some vs→Iv b5 0 vs w' (keys H G)→RowsIn w.heap.size (F6 b1 b2 b3 b4) w' (keys H G)→Sy n (Ay T o.dst (.sla (some ⟨b5,0,none⟩) 5 5)) H ks G0 w0 G a' w'→Goal Tryz.prog Q K (.ops ops rest) a' w'):Goal Tryz.prog Q K (.ops ops (o::rest)) a w:=by
 refine Iw [] bN A h1 rfl rfl rfl rfl fun x a' w' hJ hk A'=>?_
 obtain⟨b1,b2,b3,b4,b5,rfl,hA⟩:=hJ
 have hA:=HH hA hk
 obtain⟨_,vs,q1,q2⟩:=hA _ List.mem_cons_self
 exact k b1 b2 b3 b4 b5 vs a' w' ((Sf b1 b2 b3 b4 b5).trans q1) q2 (Pv hA (Nat.le_refl _)) A'
end
def Hr:List (List UInt8×List UInt8×In×List Int):=(((KN++bO)++KO)++Pr)++bP
theorem JS:Jf Tryz.prog 148 [] [] (fun x w w'=>∃(L:List Rw) (b cp:Nat),x=.agg [.str [88,48],.str [88,49],.str [88,50],.str [88,51],.str [88,52],.str [88,53],.str [88,54],.str [88,55],.str [66],.str [72],.str [87],.str [],.str [35],.str [],.str [],.str [],.sla (some ⟨b,0,none⟩) 31 cp]∧(L.map tm=Hr∧RowsIn w.heap.size L w' [b])∧w.heap.size≤b∧Bm 203 20 31 (fun zz=>iX (L.getD zz Rw.z)) b cp w'):=
 DJ (n:=11) (by kernel_rfl) Tryz.func148 rfl rfl rfl fun G w a h0 A=>N9 7 A rfl rfl fun A=>C9 [] (YC) A rfl fun A=>N9 1 A rfl rfl fun A=>have hz:=A.mix.size;Fg (t:=3) (F:=fun(L:List Rw) zz=>iX (L.getD zz Rw.z)) (R:=fun L b w w'=>L.map tm=KN∧RowsIn w.heap.size L w' [b]) YD A rfl rfl fun L1 e1 cp1 a1_ w1 G1 qM jO hk A=>have l1:L1.length=10:=(by have q:=congrArg List.length qM.1;rw [List.length_map]at q;exact q);have hI:=(Ax qM.2 hk).mono hz;have B:=A;have A:=B.base;
 have hz:=Nat.le_trans B.mix.size A.mix.size;Uj A rfl fun p1 p2 p3 vp a2_ w2 hv hL hO A=>have hI:=(RowsIn.ok _ _ _ _ hI A.mix A.keys_own).app (hO.mono hz);have lx2:(Ed p1 p2).length=5:=rfl;have l12:(L1++(Ed p1 p2)).length=15:=(by rw [List.length_append,l1,lx2]);have B:=B.trans A;have A:=A.base;have A:=A.adoptL Rw.z iX 20 k7.1 k7.2.1 k7.2.2 (Ed p1 p2) hL hv 4 rfl;
 have hz:=Nat.le_trans B.mix.size A.mix.size;Fg (t:=5) (F:=fun(L:List Rw) zz=>iX (L.getD zz Rw.z)) (R:=fun L b w w'=>L.map tm=KO∧RowsIn w.heap.size L w' [b]) YE A rfl rfl fun L3 e3 cp3 a3_ w3 G3 uT jO hk A=>have lx3:L3.length=8:=(by have q:=congrArg List.length uT.1;rw [List.length_map]at q;exact q);have jE:=(Ax uT.2 hk).mono hz;have hI:=(RowsIn.ok _ _ _ _ hI A.mix A.keys_own).app jE;have l13:((L1++(Ed p1 p2))++L3).length=23:=(by rw [List.length_append,l12,lx3]);have B:=B.trans A;have A:=A.base;
 have hz:=Nat.le_trans B.mix.size A.mix.size;Fg (t:=6) (F:=fun(L:List Rw) zz=>iX (L.getD zz Rw.z)) (R:=fun L b w w'=>L.map tm=Pr∧RowsIn w.heap.size L w' [b]) bL A rfl rfl fun L4 e4 cp4 a4_ w4 G4 uU jO hk A=>have lx4:L4.length=3:=(by have q:=congrArg List.length uU.1;rw [List.length_map]at q;exact q);have jE:=(Ax uU.2 hk).mono hz;have hI:=(RowsIn.ok _ _ _ _ hI A.mix A.keys_own).app jE;have l14:(((L1++(Ed p1 p2))++L3)++L4).length=26:=(by rw [List.length_append,l13,lx4]);have B:=B.trans A;have A:=A.base;
 have hz:=Nat.le_trans B.mix.size A.mix.size;Uk A rfl fun q1 q2 q3 q4 q5 vq a5_ w5 hv hL hO A=>have hI:=(RowsIn.ok _ _ _ _ hI A.mix A.keys_own).app (hO.mono hz);have lx5:(F6 q1 q2 q3 q4).length=5:=rfl;have l15:((((L1++(Ed p1 p2))++L3)++L4)++(F6 q1 q2 q3 q4)).length=31:=(by rw [List.length_append,l14,lx5]);have B:=B.trans A;have A:=A.base;have A:=A.adoptL Rw.z iX 20 k7.1 k7.2.1 k7.2.2 (F6 q1 q2 q3 q4) hL hv 7 rfl;
 N9 1 A rfl rfl fun A=>have A:=A.freeze 1 rfl;have A:=A.freeze 3 rfl;have A:=A.freeze 4 rfl;C9 [6,1,2,3,4,5] (Sd L1 (Ed p1 p2) L3 L4 (F6 q1 q2 q3 q4) 0 5 0 0 5 l1 l12 l13 l14) A rfl fun A=>match A.giveRow 7 9 (by decide) rfl rfl rfl with|⟨b,cp,A2,hG,ho,sH⟩=>(have h1:=RowsIn.ok _ _ _ _ hI A2.mix A2.keys_own;have h2:=RowsIn.ok _ _ _ [b] hI A2.mix (fun b2 hb=>by have:b2=b:=(by simpa using hb);rw [this];exact ho);have pF:=Gg B (fun i e he=>Bj he) ho;have B:=B.trans A2;have A:=A2.base;
 N9 5 A rfl rfl fun A=>HY (J:=fun x w w'=>∃(L:List Rw) (b cp:Nat),x=.agg [.str [88,48],.str [88,49],.str [88,50],.str [88,51],.str [88,52],.str [88,53],.str [88,54],.str [88,55],.str [66],.str [72],.str [87],.str [],.str [35],.str [],.str [],.str [],.sla (some ⟨b,0,none⟩) 31 cp]∧(L.map tm=Hr∧RowsIn w.heap.size L w' [b])∧w.heap.size≤b∧Bm 203 20 31 (fun zz=>iX (L.getD zz Rw.z)) b cp w') hX (B.trans A) (fun i e he=>Bj he) rfl rfl rfl rfl ⟨((((L1++(Ed p1 p2))++L3)++L4)++(F6 q1 q2 q3 q4)),b,cp,rfl,⟨by rw [List.map_append,List.map_append,List.map_append,List.map_append,qM.1,uT.1,uU.1];rfl,h1.one h2 A.mix⟩,pF,hG.mix A.mix sH⟩)
end Go.Proofs.YtbbdanhpphlbpaaGreatDoor.Ar
namespace Go.Proofs.YtbbdanhpphlbpaaGreatDoor
end Go.Proofs.YtbbdanhpphlbpaaGreatDoor
namespace Go.Proofs.YtbbdanhpphlbpaaGreatDoor.Ar
open Go.RowKit
set_option simprocs false
def Dz:Lg:=⟨[88,48],[88,49],[88,50],[88,51],[88,52],[88,53],[88,54],[88,55],[66],[72],[87],[],[35],[],[],[]⟩
def NT:List Rw:=Hr.map Ua
theorem Sg {L:List Rw}{i:In}{lb:List UInt8}(h:L.map tm=Hr):Ch Dz L i lb=Ch Dz NT i lb:=by
 have:=NR (g:=Dz) (L:=L) (i:=i) (lb:=lb)
 rw [SQ h]at this
 exact this.symm
theorem YG:Ye Dz:=by
 refine⟨⟨fun r=>?_,by decide⟩,fun k=>?_,by decide,by decide,by decide⟩
 ·unfold Es
  split
  ·exact Nat.zero_le _
  ·next h=>
   have:(r).toNat=0∨(r).toNat=1∨(r).toNat=2∨(r).toNat=3∨(r).toNat=4∨(r).toNat=5∨(r).toNat=6∨(r).toNat=7:=by
    simp only [Bool.or_eq_true,decide_eq_true_eq]at h;omega
   rcases this with e|e|e|e|e|e|e|e<;>rw [e]<;>decide
 ·by_cases h:k<4
  ·have:k=0∨k=1∨k=2∨k=3:=by omega
   rcases this with rfl|rfl|rfl|rfl<;>decide
  ·rw [List.getD_eq_getElem?_getD,List.getElem?_eq_none (by simpa using h)];decide
theorem Sh {L:List Rw}{i:In}{lb:List UInt8}(hi:Vt i)(hl:lb.length≤100000)(hm:L.map tm=Hr):Jo Dz L i lb:=Sa hm YG (by decide+kernel) (by decide+kernel) hi hl
theorem Ul (i:In)(lb:List UInt8)(os:List (Nat×Obj))(hM:lP os)(hT:mR os)(hE:lW os)(hp:∀L:List Rw,L.map tm=Hr→Jo Dz L i lb):Bi (Gl os) Tryz.prog 116 [.agg (AS i),.str lb] [] (Rt (.tup [.str ((Ch Dz NT i lb).1),.int .i64 ((Ch Dz NT i lb).2)]) []):=
 Ab (n:=12) (by kernel_rfl) Tryz.func116 rfl rfl rfl fun G w a h0 hI A=>N9 8 A rfl rfl fun A=>I8 8 BK rfl A fun{w2} A=>Gs (fun(tail:∀(L:List Rw) {G1:Gr} {a1:Act} {w1:World},L.map tm=Hr→L.length=31→EK os L w1 (keys [some (.blk (AS i)),some (EJ L)] G1)→Sy 12 [(6,.agg [.str [88,48],.str [88,49],.str [88,50],.str [88,51],.str [88,52],.str [88,53],.str [88,54],.str [88,55],.str [66],.str [72],.str [87],.str [],.str [35],.str [],.str [],.str [],.sl 1 L.length 0]),(7,.agg (AS i)),(8,.str lb)] [some (.blk (AS i)),some (EJ L)] (keys [] G) G w G1 a1 w1→wpAny Tryz.prog .any _ _ _ _ a1 w1)=>AM (rs:=[0,1,2]) (by kernel_rfl) (by decide) (Bg ⟨CK (t:=6) (l:=[.str [88,48],.str [88,49],.str [88,50],.str [88,51],.str [88,52],.str [88,53],.str [88,54],.str [88,55],.str [66],.str [72],.str [87],.str [],.str [35],.str [],.str [],.str []]) (F:=fun(L:List Rw) zz=>iX (L.getD zz Rw.z)) (R:=fun L b w w'=>L.map tm=Hr∧RowsIn w.heap.size L w' [b]) rfl JS A rfl rfl fun L b cp a1 w1 G1 hR jO k8 A=>have jA:L.length=31:=(by have q:=congrArg List.length hR.1;rw [List.length_map]at q;exact q.trans (by decide+kernel));have k9:=Ax hR.2 k8;have B0:=A;have A:=A.base;have A:=A.rowAs 1 L.length (fun zz=>iX (L.getD zz Rw.z)) rfl jA (fun _ _=>rfl) (fun z=>⟨_,rfl,rfl⟩);have A:=A.say 6 (.agg [.str [88,48],.str [88,49],.str [88,50],.str [88,51],.str [88,52],.str [88,53],.str [88,54],.str [88,55],.str [66],.str [72],.str [87],.str [],.str [35],.str [],.str [],.str [],.sl 1 L.length 0]) rfl (by rw [jA]<;>rfl);have A:=A.freeze 1 rfl;have lA:=RowsIn.ok.now A k9;have B:=B0.trans A;have A:=A.base;have jE:EK os L _ _:=⟨fun r hr=>(lA r hr).1,Gl.ok.now B hI⟩;AM (rs:=[1,2]) (by kernel_rfl) (by decide) (Bg ⟨CM (.agg (AS i)) rfl A rfl rfl fun A=>AM (rs:=[2]) (by kernel_rfl) (by decide) (Bg ⟨CM (.str lb) rfl A rfl rfl fun A=>tail L hR.1 jA (EK.ok.now A jE) ((B.trans A).cut [6,7,8] rfl),
    (CF)⟩),
   (Bg ⟨CM (.str lb) rfl A rfl rfl fun A=>AM (rs:=[1]) (by kernel_rfl) (by decide) (Bg ⟨CM (.agg (AS i)) rfl A rfl rfl fun A=>tail L hR.1 jA (EK.ok.now A jE) ((B.trans A).cut [6,7,8] rfl),
    (CF)⟩),
   (CF)⟩)⟩),
  (Bg ⟨CM (.agg (AS i)) rfl A rfl rfl fun A=>AM (rs:=[0,2]) (by kernel_rfl) (by decide) (Bg ⟨CK (t:=6) (l:=[.str [88,48],.str [88,49],.str [88,50],.str [88,51],.str [88,52],.str [88,53],.str [88,54],.str [88,55],.str [66],.str [72],.str [87],.str [],.str [35],.str [],.str [],.str []]) (F:=fun(L:List Rw) zz=>iX (L.getD zz Rw.z)) (R:=fun L b w w'=>L.map tm=Hr∧RowsIn w.heap.size L w' [b]) rfl JS A rfl rfl fun L b cp a1 w1 G1 hR jO k8 A=>have jA:L.length=31:=(by have q:=congrArg List.length hR.1;rw [List.length_map]at q;exact q.trans (by decide+kernel));have k9:=Ax hR.2 k8;have B0:=A;have A:=A.base;have A:=A.rowAs 1 L.length (fun zz=>iX (L.getD zz Rw.z)) rfl jA (fun _ _=>rfl) (fun z=>⟨_,rfl,rfl⟩);have A:=A.say 6 (.agg [.str [88,48],.str [88,49],.str [88,50],.str [88,51],.str [88,52],.str [88,53],.str [88,54],.str [88,55],.str [66],.str [72],.str [87],.str [],.str [35],.str [],.str [],.str [],.sl 1 L.length 0]) rfl (by rw [jA]<;>rfl);have A:=A.freeze 1 rfl;have lA:=RowsIn.ok.now A k9;have B:=B0.trans A;have A:=A.base;have jE:EK os L _ _:=⟨fun r hr=>(lA r hr).1,Gl.ok.now B hI⟩;AM (rs:=[2]) (by kernel_rfl) (by decide) (Bg ⟨CM (.str lb) rfl A rfl rfl fun A=>tail L hR.1 jA (EK.ok.now A jE) ((B.trans A).cut [6,7,8] rfl),
    (CF)⟩),
   (Bg ⟨CM (.str lb) rfl A rfl rfl fun A=>AM (rs:=[0]) (by kernel_rfl) (by decide) (Bg ⟨CK (t:=6) (l:=[.str [88,48],.str [88,49],.str [88,50],.str [88,51],.str [88,52],.str [88,53],.str [88,54],.str [88,55],.str [66],.str [72],.str [87],.str [],.str [35],.str [],.str [],.str []]) (F:=fun(L:List Rw) zz=>iX (L.getD zz Rw.z)) (R:=fun L b w w'=>L.map tm=Hr∧RowsIn w.heap.size L w' [b]) rfl JS A rfl rfl fun L b cp a1 w1 G1 hR jO k8 A=>have jA:L.length=31:=(by have q:=congrArg List.length hR.1;rw [List.length_map]at q;exact q.trans (by decide+kernel));have k9:=Ax hR.2 k8;have B0:=A;have A:=A.base;have A:=A.rowAs 1 L.length (fun zz=>iX (L.getD zz Rw.z)) rfl jA (fun _ _=>rfl) (fun z=>⟨_,rfl,rfl⟩);have A:=A.say 6 (.agg [.str [88,48],.str [88,49],.str [88,50],.str [88,51],.str [88,52],.str [88,53],.str [88,54],.str [88,55],.str [66],.str [72],.str [87],.str [],.str [35],.str [],.str [],.str [],.sl 1 L.length 0]) rfl (by rw [jA]<;>rfl);have A:=A.freeze 1 rfl;have lA:=RowsIn.ok.now A k9;have B:=B0.trans A;have A:=A.base;have jE:EK os L _ _:=⟨fun r hr=>(lA r hr).1,Gl.ok.now B hI⟩;tail L hR.1 jA (EK.ok.now A jE) ((B.trans A).cut [6,7,8] rfl),
    (CF)⟩),
   (CF)⟩)⟩),
  (Bg ⟨CM (.str lb) rfl A rfl rfl fun A=>AM (rs:=[0,1]) (by kernel_rfl) (by decide) (Bg ⟨CK (t:=6) (l:=[.str [88,48],.str [88,49],.str [88,50],.str [88,51],.str [88,52],.str [88,53],.str [88,54],.str [88,55],.str [66],.str [72],.str [87],.str [],.str [35],.str [],.str [],.str []]) (F:=fun(L:List Rw) zz=>iX (L.getD zz Rw.z)) (R:=fun L b w w'=>L.map tm=Hr∧RowsIn w.heap.size L w' [b]) rfl JS A rfl rfl fun L b cp a1 w1 G1 hR jO k8 A=>have jA:L.length=31:=(by have q:=congrArg List.length hR.1;rw [List.length_map]at q;exact q.trans (by decide+kernel));have k9:=Ax hR.2 k8;have B0:=A;have A:=A.base;have A:=A.rowAs 1 L.length (fun zz=>iX (L.getD zz Rw.z)) rfl jA (fun _ _=>rfl) (fun z=>⟨_,rfl,rfl⟩);have A:=A.say 6 (.agg [.str [88,48],.str [88,49],.str [88,50],.str [88,51],.str [88,52],.str [88,53],.str [88,54],.str [88,55],.str [66],.str [72],.str [87],.str [],.str [35],.str [],.str [],.str [],.sl 1 L.length 0]) rfl (by rw [jA]<;>rfl);have A:=A.freeze 1 rfl;have lA:=RowsIn.ok.now A k9;have B:=B0.trans A;have A:=A.base;have jE:EK os L _ _:=⟨fun r hr=>(lA r hr).1,Gl.ok.now B hI⟩;AM (rs:=[1]) (by kernel_rfl) (by decide) (Bg ⟨CM (.agg (AS i)) rfl A rfl rfl fun A=>tail L hR.1 jA (EK.ok.now A jE) ((B.trans A).cut [6,7,8] rfl),
    (CF)⟩),
   (Bg ⟨CM (.agg (AS i)) rfl A rfl rfl fun A=>AM (rs:=[0]) (by kernel_rfl) (by decide) (Bg ⟨CK (t:=6) (l:=[.str [88,48],.str [88,49],.str [88,50],.str [88,51],.str [88,52],.str [88,53],.str [88,54],.str [88,55],.str [66],.str [72],.str [87],.str [],.str [35],.str [],.str [],.str []]) (F:=fun(L:List Rw) zz=>iX (L.getD zz Rw.z)) (R:=fun L b w w'=>L.map tm=Hr∧RowsIn w.heap.size L w' [b]) rfl JS A rfl rfl fun L b cp a1 w1 G1 hR jO k8 A=>have jA:L.length=31:=(by have q:=congrArg List.length hR.1;rw [List.length_map]at q;exact q.trans (by decide+kernel));have k9:=Ax hR.2 k8;have B0:=A;have A:=A.base;have A:=A.rowAs 1 L.length (fun zz=>iX (L.getD zz Rw.z)) rfl jA (fun _ _=>rfl) (fun z=>⟨_,rfl,rfl⟩);have A:=A.say 6 (.agg [.str [88,48],.str [88,49],.str [88,50],.str [88,51],.str [88,52],.str [88,53],.str [88,54],.str [88,55],.str [66],.str [72],.str [87],.str [],.str [35],.str [],.str [],.str [],.sl 1 L.length 0]) rfl (by rw [jA]<;>rfl);have A:=A.freeze 1 rfl;have lA:=RowsIn.ok.now A k9;have B:=B0.trans A;have A:=A.base;have jE:EK os L _ _:=⟨fun r hr=>(lA r hr).1,Gl.ok.now B hI⟩;tail L hR.1 jA (EK.ok.now A jE) ((B.trans A).cut [6,7,8] rfl),
    (CF)⟩),
   (CF)⟩)⟩),
  (CF)⟩)⟩)⟩)) (fun L {G1 a1 w1} sI jA jE A=>have hR:L.map tm=Hr∧True:=⟨sI,trivial⟩;have B:=A;have A:=B.base;AM (rs:=[3]) (by kernel_rfl) (by decide) (Bg ⟨En (x:=.tup [.str ((Ch Dz L i lb).1),.int .i64 ((Ch Dz L i lb).2)]) (H':=[some (.blk (AS i)),some (EJ L)]) rfl A rfl (C8 [1] EK.ok jE (LB Dz L 0 i lb os hM hT hE (hp L hR.1)) rfl rfl rfl rfl rfl rfl rfl) fun A=>AM (rs:=[4,5]) (by kernel_rfl) (by decide) (Bg ⟨CM (.str ((Ch Dz L i lb).1)) rfl A rfl rfl fun A=>AM (rs:=[5]) (by kernel_rfl) (by decide) (Bg ⟨CM (.int .i64 ((Ch Dz L i lb).2)) rfl A rfl rfl fun A=>AM (rs:=[6]) (by kernel_rfl) (by decide) (Bg ⟨CM (.str ((Ch Dz L i lb).1)) rfl A rfl rfl fun A=>AM (rs:=[7]) (by kernel_rfl) (by decide) (Bg ⟨CM (.int .i64 ((Ch Dz L i lb).2)) rfl A rfl rfl fun A=>Dh (by kernel_rfl) (N9 2 A rfl rfl fun A=>R9 (B.trans A) rfl h0 rfl (by rw [←Sg hR.1]<;>rfl) rfl),
      (CF)⟩),
     (CF)⟩),
    (CF)⟩),
   (Bg ⟨CM (.int .i64 ((Ch Dz L i lb).2)) rfl A rfl rfl fun A=>AM (rs:=[4]) (by kernel_rfl) (by decide) (Bg ⟨CM (.str ((Ch Dz L i lb).1)) rfl A rfl rfl fun A=>AM (rs:=[6]) (by kernel_rfl) (by decide) (Bg ⟨CM (.str ((Ch Dz L i lb).1)) rfl A rfl rfl fun A=>AM (rs:=[7]) (by kernel_rfl) (by decide) (Bg ⟨CM (.int .i64 ((Ch Dz L i lb).2)) rfl A rfl rfl fun A=>Dh (by kernel_rfl) (N9 2 A rfl rfl fun A=>R9 (B.trans A) rfl h0 rfl (by rw [←Sg hR.1]<;>rfl) rfl),
      (CF)⟩),
     (CF)⟩),
    (CF)⟩),
   (CF)⟩)⟩),
  (CF)⟩))
end Go.Proofs.YtbbdanhpphlbpaaGreatDoor.Ar
namespace Go.Proofs.YtbbdanhpphlbpaaGreatDoor
open Go.RowKit
set_option simprocs false
def D0 (k:Int):List UInt8:=[76]++Lib.itoa k
theorem Si (k:Int)(h1: -9223372036854775808≤k)(h2:k≤9223372036854775807):(D0 k).length≤22:=by
 have:=Lib.itoa_length_le k h1 h2
 unfold D0;rw [List.length_append];show 1+_≤_;omega
def GC (os:List (Nat×Obj))(cs:List AD):Dd:=fun w ks=>Gl os w ks∧AH cs w ks
theorem GC.ok {os:List (Nat×Obj)}{cs:List AD}:Dd.OK (GC os cs):=fun w ks w' ks' h m hk=>⟨Gl.ok _ _ _ _ h.1 m hk,AH.ok _ _ _ _ h.2 m hk⟩
def Vu (i:In):Prop:=Vt i∧ -9223372036854775808≤i.to_∧i.to_≤9223372036854775807
def Ce (pe:In→Int)(cs:List AD):Bool:=cs.all fun c=>c.l.all fun i=>pe i==0
structure Q1 (pe:In→Int)(cs:List AD)(i:Nat):Prop where
 le:i≤cs.length
 ok:∀j,j<i→((cs.getD j AD.z).l.all fun i=>pe i==0)=true
structure Q2 (pe:In→Int)(c:AD)(k:Nat):Prop where
 le:k≤c.l.length
 ok:∀j,j<k→pe (c.l.getD j In.z)=0
section
variable {pe:In→Int}{cs:List AD}{c:AD}{i k:Nat}
theorem KP (h:(k:Int)<((c.l.length:Nat):Int)):c.l.getD ((k:Int)).toNat In.z∈c.l:=by
 rw [Int.toNat_natCast,List.getD_eq_getElem?_getD,List.getElem?_eq_getElem (by omega)];exact List.getElem_mem _
theorem KQ (h:(i:Int)<((cs.length:Nat):Int)):cs.getD ((i:Int)).toNat AD.z∈cs:=by
 rw [Int.toNat_natCast,List.getD_eq_getElem?_getD,List.getElem?_eq_getElem (by omega)];exact List.getElem_mem _
theorem Q2.i0:Q2 pe c 0:=⟨Nat.zero_le _,fun j hj=>by omega⟩
theorem Q2.nx (h:Q2 pe c k)(h1:(k:Int)<((c.l.length:Nat):Int))(h2:pe (c.l.getD ((k:Int)).toNat In.z)=0):Q2 pe c (k+1):=⟨by omega,fun j hj=>by
 by_cases e:j=k
 ·subst e;rw [Int.toNat_natCast]at h2;exact h2
 ·exact h.ok j (by omega)⟩
theorem Q2.good (h:Q2 pe c k)(h1:¬(k:Int)<((c.l.length:Nat):Int)):(c.l.all fun i=>pe i==0)=true:=by
 rw [List.all_eq_true]
 intro i hi
 obtain⟨j,hj,rfl⟩:=List.mem_iff_getElem.1 hi
 have:=h.ok j (by omega)
 rw [List.getD_eq_getElem?_getD,List.getElem?_eq_getElem hj]at this
 exact beq_iff_eq.2 this
theorem Q1.i0:Q1 pe cs 0:=⟨Nat.zero_le _,fun j hj=>by omega⟩
theorem Q1.nx (h:Q1 pe cs i)(h1:(i:Int)<((cs.length:Nat):Int))(h2:((cs.getD ((i:Int)).toNat AD.z).l.all fun i=>pe i==0)=true):Q1 pe cs (i+1):=⟨by omega,fun j hj=>by
 by_cases e:j=i
 ·subst e;rw [Int.toNat_natCast]at h2;exact h2
 ·exact h.ok j (by omega)⟩
theorem Q1.good (h:Q1 pe cs i)(h1:¬(i:Int)<((cs.length:Nat):Int)):Ce pe cs=true:=by
 unfold Ce
 rw [List.all_eq_true]
 intro c hc
 obtain⟨j,hj,rfl⟩:=List.mem_iff_getElem.1 hc
 have:=h.ok j (by omega)
 rw [List.getD_eq_getElem?_getD,List.getElem?_eq_getElem hj]at this
 exact this
theorem Pw (h1:(i:Int)<((cs.length:Nat):Int))(h2:(k:Int)<(((cs.getD ((i:Int)).toNat AD.z).l.length:Nat):Int))(h3:pe ((cs.getD ((i:Int)).toNat AD.z).l.getD ((k:Int)).toNat In.z)≠0):Ce pe cs=false:=by
 cases hq:Ce pe cs with
 |false=>rfl
 |true=>
  unfold Ce at hq
  have e1:=List.all_eq_true.1 hq _ (KQ h1)
  have e2:=List.all_eq_true.1 e1 _ (KP h2)
  exact absurd (eq_of_beq e2) h3
end
theorem fO (k:Int)(os:List (Nat×Obj))(hM:lP os)(hT:mR os)(hE:lW os)(h1: -9223372036854775808≤k)(h2:k≤9223372036854775807):Bi (Gl os) Tryz.prog 84 [.int .i64 k] [] (Rt (.str (D0 k)) []):=
 Ab (n:=6) (by kernel_rfl) Tryz.func84 rfl rfl rfl fun G w a h0 hI A=>N9 8 A rfl rfl fun A=>I9 [] Gl.ok hI (NH k os hM hT h1 h2) A rfl fun A=>N9 5 A rfl (iU (by have:=Lib.itoa_length_le k h1 h2;(try simp only [List.length_append,List.length_cons,List.length_nil]);omega)<|iT) fun A=>R9 A rfl h0 rfl rfl rfl
theorem GO (cs:List AD)(cx:Nat)(tt:List UInt8)(f1 fp f3:Nat)(pt:In→List UInt8→List UInt8)(pe:In→List UInt8→Int)(os:List (Nat×Obj))(hM:lP os)(hT:mR os)(hE:lW os)(hp:∀(i:In) (lb:List UInt8),Vt i→lb.length≤100000→Bi (Gl os) Tryz.prog fp [.agg (CD i),.str lb] [] (Rt (.tup [.str (pt i lb),.int .i64 (pe i lb)]) []))(hs:∀c∈cs,c.l.length≤9223372036854775807)(hn:cs.length≤9223372036854775807)(hR:∀c∈cs,∀i∈c.l,Vu i):Bi (GC os cs) Tryz.prog 49 [.agg [.str tt,.fn f1 [],.fn fp [],.fn f3 []],.sl 0 cs.length cx] [some (Am cs)] (Rt (.bool (Ce (fun i=>pe i (D0 i.to_)) cs)) [some (Am cs)]):=
 Ab (n:=37) (by kernel_rfl) Tryz.func49 rfl rfl rfl fun G w a h0 hI A=>N9 15 A rfl rfl fun A=>Bk (fun(i:Nat)=>[(2,.ptr 1 0),(4,.ff),(11,.sl 0 cs.length cx),(12,.int .i64 ((cs.length:Nat):Int)),(13,.int .i64 (i:Int))]) (fun(i:Nat)=>[some (Am cs),some (.blk [.str tt,.fn f1 [],.fn fp [],.fn f3 []])]) (fun(i:Nat)=>Q1 (fun i=>pe i (D0 i.to_)) cs i) (fun(i:Nat)=>cs.length - i) 0 Q1.i0 ((A.cut [2,4,11,12,13] rfl).trunc 2 rfl rfl rfl (iR h0 rfl)) fun i hJ {G a w} A=>N9 6 A rfl rfl fun A=>AL 14 A rfl
   (fun h1 A=>N9 13 A rfl (iU (by(try have hy:=B7 hs ((i:Int)).toNat);(try have:=hK.le);(try have:=hJ.le);omega)<|iU (by(try have hy:=B7 hs ((i:Int)).toNat);(try have:=hK.le);(try have:=hJ.le);omega)<|iT) fun A=>N9 7 A rfl rfl fun A=>Bk (fun(k:Nat)=>[(2,.ptr 1 0),(4,.ff),(11,.sl 0 cs.length cx),(12,.int .i64 ((cs.length:Nat):Int)),(13,.int .i64 (i:Int)),(17,.sla ((cs.getD (((i:Int)).toNat) AD.z).ao) ((cs.getD (((i:Int)).toNat) AD.z).l.length) ((cs.getD (((i:Int)).toNat) AD.z).cp)),(18,.int .i64 (((cs.getD (((i:Int)).toNat) AD.z).l.length:Nat):Int)),(19,.int .i64 (k:Int))]) (fun(k:Nat)=>[some (Am cs),some (.blk [.str tt,.fn f1 [],.fn fp [],.fn f3 []])]) (fun(k:Nat)=>Q2 (fun i=>pe i (D0 i.to_)) (cs.getD ((i:Int)).toNat AD.z) k) (fun(k:Nat)=>(cs.getD ((i:Int)).toNat AD.z).l.length - k) 0 Q2.i0 ((A.cut [2,4,11,12,13,17,18,19] rfl).trunc 2 rfl rfl rfl (iR h0 rfl)) fun k hK {G a w} A=>N9 6 A rfl rfl fun A=>AL 20 A rfl
     (fun h2 A=>N9 7 A rfl rfl fun A=>Mq (ao:=(cs.getD (((i:Int)).toNat) AD.z).ao) (s:=17) (m:=(cs.getD (((i:Int)).toNat) AD.z).l.length) (f:=fun zz=>CD ((cs.getD (((i:Int)).toNat) AD.z).l.getD zz In.z)) hX 21 17 (hI.2.at (by omega)) (by omega) A rfl rfl rfl rfl rfl rfl (iU (by(try have hy:=B7 hs ((i:Int)).toNat);(try have:=hK.le);(try have:=hJ.le);omega)<|iT) fun A=>N9 6 A rfl (iU (by(try have hy:=B7 hs ((i:Int)).toNat);(try have:=hK.le);(try have:=hJ.le);omega)<|iT) fun A=>Hh BK [.ptr 1 2,.fn fp [],.agg (AS ((cs.getD (((i:Int)).toNat) AD.z).l.getD (((k:Int)).toNat) In.z)),.ptr 3 15,.int .i64 (((cs.getD (((i:Int)).toNat) AD.z).l.getD (((k:Int)).toNat) In.z).to_),.str (D0 (((cs.getD (((i:Int)).toNat) AD.z).l.getD (((k:Int)).toNat) In.z).to_)),.tup [.str (pt ((cs.getD (((i:Int)).toNat) AD.z).l.getD (((k:Int)).toNat) In.z) (D0 (((cs.getD (((i:Int)).toNat) AD.z).l.getD (((k:Int)).toNat) In.z).to_))),.int .i64 (pe ((cs.getD (((i:Int)).toNat) AD.z).l.getD (((k:Int)).toNat) In.z) (D0 (((cs.getD (((i:Int)).toNat) AD.z).l.getD (((k:Int)).toNat) In.z).to_)))],.tup [.str (pt ((cs.getD (((i:Int)).toNat) AD.z).l.getD (((k:Int)).toNat) In.z) (D0 (((cs.getD (((i:Int)).toNat) AD.z).l.getD (((k:Int)).toNat) In.z).to_))),.int .i64 (pe ((cs.getD (((i:Int)).toNat) AD.z).l.getD (((k:Int)).toNat) In.z) (D0 (((cs.getD (((i:Int)).toNat) AD.z).l.getD (((k:Int)).toNat) In.z).to_)))],.str (pt ((cs.getD (((i:Int)).toNat) AD.z).l.getD (((k:Int)).toNat) In.z) (D0 (((cs.getD (((i:Int)).toNat) AD.z).l.getD (((k:Int)).toNat) In.z).to_))),.int .i64 (pe ((cs.getD (((i:Int)).toNat) AD.z).l.getD (((k:Int)).toNat) In.z) (D0 (((cs.getD (((i:Int)).toNat) AD.z).l.getD (((k:Int)).toNat) In.z).to_))),.str (pt ((cs.getD (((i:Int)).toNat) AD.z).l.getD (((k:Int)).toNat) In.z) (D0 (((cs.getD (((i:Int)).toNat) AD.z).l.getD (((k:Int)).toNat) In.z).to_))),.int .i64 (pe ((cs.getD (((i:Int)).toNat) AD.z).l.getD (((k:Int)).toNat) In.z) (D0 (((cs.getD (((i:Int)).toNat) AD.z).l.getD (((k:Int)).toNat) In.z).to_)))] [] [] 0 [([],[],[some (Am cs),some (.blk [.str tt,.fn f1 [],.fn fp [],.fn f3 []]),some (.lst 17 ((cs.getD (((i:Int)).toNat) AD.z).l.length) (fun zz=>CD ((cs.getD (((i:Int)).toNat) AD.z).l.getD zz In.z))),some (.blk (AS ((cs.getD (((i:Int)).toNat) AD.z).l.getD (((k:Int)).toNat) In.z)))])] [[true,true,true,true,true,true,true,true,true,true,true,true]] A rfl rfl rfl rfl (by kernel_rfl) rfl (by kernel_rfl) ⟨⟨iV 0 rfl rfl,⟨iV 0 rfl rfl,⟨iV 0 rfl rfl,⟨iV 0 rfl rfl,⟨iV 0 rfl rfl,⟨BT 0 rfl (C8 [] GC.ok hI (Bi.mono (fO (((cs.getD (((i:Int)).toNat) AD.z).l.getD (((k:Int)).toNat) In.z).to_) os hM hT hE (hR _ (KQ h1) _ (KP h2)).2.1 (hR _ (KQ h1) _ (KP h2)).2.2) fun _ _ q=>q.1) rfl rfl rfl rfl rfl rfl rfl),⟨BT 0 rfl (C8 [] GC.ok hI (Bi.mono (hp ((cs.getD (((i:Int)).toNat) AD.z).l.getD (((k:Int)).toNat) In.z) (D0 (((cs.getD (((i:Int)).toNat) AD.z).l.getD (((k:Int)).toNat) In.z).to_)) (hR _ (KQ h1) _ (KP h2)).1 (Nat.le_trans (Si _ (hR _ (KQ h1) _ (KP h2)).2.1 (hR _ (KQ h1) _ (KP h2)).2.2) (by decide))) fun _ _ q=>q.1) rfl rfl rfl rfl rfl rfl rfl),⟨iV 0 rfl rfl,⟨iV 0 rfl rfl,⟨iV 0 rfl rfl,⟨iV 0 rfl rfl,⟨iV 0 rfl rfl,trivial⟩⟩⟩⟩⟩⟩⟩⟩⟩⟩⟩⟩,trivial⟩ fun A=>N9 7 A rfl rfl fun A=>Dc 34 A rfl
      (fun h3 A=>N9 7 A rfl rfl fun A=>R9 A rfl h0 rfl (by rw [Pw (pe:=(fun i=>pe i (D0 i.to_))) h1 h2 h3];rfl) rfl)
      (fun h3 A=>N9 8 A rfl (iU (by(try have hy:=B7 hs ((i:Int)).toNat);(try have:=hK.le);(try have:=hJ.le);omega)<|iT) fun A=>⟨k+1,_,(by omega),(hK.nx h2 h3),((A.cut [2,4,11,12,13,17,18,19] rfl).trunc 2 rfl rfl rfl (iR h0 rfl))⟩))
     (fun h2 A=>N9 8 A rfl (iU (by(try have hy:=B7 hs ((i:Int)).toNat);(try have:=hK.le);(try have:=hJ.le);omega)<|iT) fun A=>⟨i+1,_,(by omega),(hJ.nx h1 (hK.good h2)),((A.cut [2,4,11,12,13] rfl).trunc 2 rfl rfl rfl (iR h0 rfl))⟩))
   (fun h1 A=>N9 9 A rfl rfl fun A=>R9 A rfl h0 rfl (by rw [hJ.good h1];rfl) rfl)
theorem NU:Fn Tryz.prog 80 [] [] (Rt (.sl 0 3 3) [some (.blk [.str [88,56,54],.fn 109 [],.fn 110 [],.fn 111 [],.str [82,73,83,67,86],.fn 112 [],.fn 113 [],.fn 114 [],.str [65,82,77],.fn 115 [],.fn 116 [],.fn 117 []])]):=
 AG (n:=5) (by kernel_rfl) Tryz.func80 rfl rfl rfl fun G w a h0 A=>N9 15 A rfl rfl fun A=>Mj hX [0] A ⟨rfl,rfl⟩ rfl rfl rfl rfl rfl rfl rfl rfl h0
theorem Um:Fn Tryz.prog 46 [.int .i64 1] [] (Rt (.tup [.agg [.str [88,56,54],.fn 109 [],.fn 110 [],.fn 111 []],.tt]) []):=
 AG (n:=16) (by kernel_rfl) Tryz.func46 rfl rfl rfl fun G w a h0 A=>N9 17 A rfl rfl fun A=>fork 9 A rfl
  (fun h1 A=>absurd h1 (by decide))
  (fun h1 A=>N9 5 A rfl rfl fun A=>C9 [] NU A rfl fun A=>N9 2 A rfl (iU (by decide)<|iT) fun A=>have A:=AB A 13 (.int .i64 0) rfl (fun _=>rfl);N9 1 A rfl (iU (by decide)<|iT) fun A=>have A:=AB A 14 (.ptr 1 0) rfl (B8 0 rfl);N9 6 A rfl rfl fun A=>R9 A rfl h0 rfl rfl rfl)
theorem Un:Fn Tryz.prog 46 [.int .i64 2] [] (Rt (.tup [.agg [.str [82,73,83,67,86],.fn 112 [],.fn 113 [],.fn 114 []],.tt]) []):=
 AG (n:=16) (by kernel_rfl) Tryz.func46 rfl rfl rfl fun G w a h0 A=>N9 17 A rfl rfl fun A=>fork 9 A rfl
  (fun h1 A=>absurd h1 (by decide))
  (fun h1 A=>N9 5 A rfl rfl fun A=>C9 [] NU A rfl fun A=>N9 2 A rfl (iU (by decide)<|iT) fun A=>have A:=AB A 13 (.int .i64 1) rfl (fun _=>rfl);N9 1 A rfl (iU (by decide)<|iT) fun A=>have A:=AB A 14 (.ptr 1 4) rfl (B8 1 rfl);N9 6 A rfl rfl fun A=>R9 A rfl h0 rfl rfl rfl)
theorem Uo:Fn Tryz.prog 46 [.int .i64 3] [] (Rt (.tup [.agg [.str [65,82,77],.fn 115 [],.fn 116 [],.fn 117 []],.tt]) []):=
 AG (n:=16) (by kernel_rfl) Tryz.func46 rfl rfl rfl fun G w a h0 A=>N9 17 A rfl rfl fun A=>fork 9 A rfl
  (fun h1 A=>absurd h1 (by decide))
  (fun h1 A=>N9 5 A rfl rfl fun A=>C9 [] NU A rfl fun A=>N9 2 A rfl (iU (by decide)<|iT) fun A=>have A:=AB A 13 (.int .i64 2) rfl (fun _=>rfl);N9 1 A rfl (iU (by decide)<|iT) fun A=>have A:=AB A 14 (.ptr 1 8) rfl (B8 2 rfl);N9 6 A rfl rfl fun A=>R9 A rfl h0 rfl rfl rfl)
theorem Up (ar:Int)(ha:¬(1≤ar∧ar≤3)):Fn Tryz.prog 46 [.int .i64 ar] [] (Rt (.tup [.agg [.str [],.v .nilFunc,.v .nilFunc,.v .nilFunc],.ff]) []):=
 AG (n:=16) (by kernel_rfl) Tryz.func46 rfl rfl rfl fun G w a h0 A=>N9 17 A rfl rfl fun A=>fork 9 A rfl
  (fun h1 A=>N9 9 A rfl rfl fun A=>R9 A rfl h0 rfl rfl rfl)
  (fun h1 A=>absurd h1 (by simp only [Bool.or_eq_false_iff,decide_eq_false_iff_not];omega))
def KR (qu:Int):List UInt8:=if qu=1 then [101,120,105,115,116,115]else if qu=2 then [126,32,101,120,105,115,116,115]else if qu=3 then [102,111,114,97,108,108]else []
theorem Sj (qu:Int):Fn Tryz.prog 50 [.int .i64 qu] [] (Rt (.str (KR qu)) []):=
 AG (n:=10) (by kernel_rfl) Tryz.func50 rfl rfl rfl fun G w a h0 A=>N9 18 A rfl rfl fun A=>AN 4 A rfl
  (fun h1 A=>N9 7 A rfl rfl fun A=>R9 A rfl h0 rfl (by simp only [AX,nb,BY,BR,KR,if_pos h1]) rfl)
  (fun h1 A=>N9 7 A rfl rfl fun A=>AN 6 A rfl
   (fun h2 A=>N9 7 A rfl rfl fun A=>R9 A rfl h0 rfl (by simp only [AX,nb,BY,BR,KR,if_neg (h1),if_pos h2]) rfl)
   (fun h2 A=>N9 7 A rfl rfl fun A=>AN 8 A rfl
    (fun h3 A=>N9 7 A rfl rfl fun A=>R9 A rfl h0 rfl (by simp only [AX,nb,BY,BR,KR,if_neg (h1),if_neg (h2),if_pos h3]) rfl)
    (fun h3 A=>N9 10 A rfl rfl fun A=>R9 A rfl h0 rfl (by simp only [AX,nb,BY,BR,KR,if_neg (h1),if_neg (h2),if_neg (h3)]) rfl)))
end Go.Proofs.YtbbdanhpphlbpaaGreatDoor
namespace Go.Proofs.YtbbdanhpphlbpaaGreatDoor
open Go.RowKit
section
variable {P:Program}{n:Nat}{ks:List Nat}{G0:Gr}{w0:World}{T:List (Nat×SV)}{H:Hp}{G:Gr}{a:Act}{w w':World}{ops:Array Oper}{o:Oper}{rest:List Oper}{Q:Exit→Act→World→Prop}{K:List Fr}
end
def bQ (ao:Option Addr)(l:List Int)(w:World)(ks:List Nat):Prop:=
 l=[]∨∃b o,ao=some ⟨b,o,none⟩∧b<w.heap.size∧ks.contains b=false∧w.rangeAt b o (l.map (Value.int .i64))
theorem bQ.at {ao:Option Addr}{x:Int}{l:List Int}{w:World}{ks:List Nat}(h:bQ ao (x::l) w ks):∃b o,ao=some ⟨b,o,none⟩:=by
 rcases h with h|⟨b,o,h1,_⟩
 ·cases h
 ·exact⟨b,o,h1⟩
section
variable {P:Program}{Y:Tb}{n:Nat}{ks:List Nat}{G0:Gr}{w0:World}{T:List (Nat×SV)}{H:Hp}{ops:Array Oper}{o:Oper}{rest:List Oper}{Q:Exit→Act→World→Prop}{K:List Fr}
end
section
variable {P:Program}{n:Nat}{ks:List Nat}{G0:Gr}{w0:World}{T:List (Nat×SV)}{H:Hp}{ops:Array Oper}{o:Oper}
theorem YH {x y:Operand}{t e m s i q k:Nat}{cs:List SV}{p2:Nat}(jG:o.op=.slice t x (some y) none none)(hg:iY ops T o.guard=some .run)(hx:jR T x=some (.ptr i q))(hy:jR T y=some (.int .i64 (k:Int)))(hb:H[i]?=some (some (.blk cs)))(ht:LN P t m e s=true)(hk:k≤m)(h2:(if m=k then q else q+k*s)=p2):
  Aw P n ops ks G0 w0 T H o (.sp (.ptr i p2) (m - k) (m - k)) H:=fun G a w A=>by
 subst h2
 have hw:=An (gd:=none) A hg
 obtain⟨d,op,ty,pos,af,gd⟩:=o
 simp only at jG
 subst jG
 have jB:=A.ev hx
 have jN:=A.ev hy
 obtain⟨L,vs,hL,_,_⟩:=A.mem.ent i _ hb
 have hG:G[i]?=some (some L):=by
  cases hq:G[i]? with
  |none=>rw [hq]at hL;cases hL
  |some p=>rw [hq]at hL;simp at hL;rw [hL]
 unfold den at jB jN
 rw [hG]at jB
 simp only [Option.some.injEq]at jB jN
 obtain⟨hu,j9⟩:=Cv ht
 refine AR (v:=.slice (some ⟨L.b,L.pre.length+(if m=k then q else q+k*s),none⟩) (m - k) (m - k)) (w':=w) hw ?_ ⟨[],?_,by simpa using A.ms⟩
 ·have nQ:(Instr.sliceBounds false m m (some (.int .i64 (k:Int))) none none).run P w=.ok (k,m,m) w:=by
   simp [Instr.sliceBounds,run_sliceBound (P:=P) w .i64 (k:Int) m _ (by omega) (by omega)]
  unfold execOp
  simp only [←jB,←jN,Option.map_some,Option.map_none,Instr.sliceAt,Sem.run_bind,run_underlying hu,Instr.sureAddr,Sem.run_pure,nQ,Result.andThen_ok,C3 j9]
  by_cases hc:m=k
  ·simp [hc]
  ·simp [hc,Addr.add_mid,Nat.add_assoc]
 ·rw [List.append_nil]
  unfold den
  have:den G (.ptr i (if m=k then q else q+k*s))=some (.pointer (some ⟨L.b,L.pre.length+(if m=k then q else q+k*s),none⟩)):=by unfold den;rw [hG]
  rw [this];rfl
end
end Go.Proofs.YtbbdanhpphlbpaaGreatDoor
namespace Go.Proofs.YtbbdanhpphlbpaaGreatDoor
open Go.RowKit
set_option simprocs false
def Sk (r:Nat→Int):Nat→Bool
 |0=>((r 0==0)&&((r 1==0)&&((r 2==0)&&((r 3==0)&&((r 4==0)&&((r 5==0)&&((r 6==0)&&(r 7==0))))))))
 |1=>((r 8==0)&&((r 9==0)&&((r 10==0)&&((r 11==0)&&((r 12==0)&&((r 13==0)&&((r 14==0)&&(r 15==0))))))))
 |_=>((r 16==0)&&((r 17==0)&&((r 18==0)&&((r 19==0)&&((r 20==0)&&((r 21==0)&&((r 22==0)&&(r 23==0))))))))
def GP (r:Nat→Int)(k:Nat):Bool:=(List.range (3 - k)).any fun j=> !(Sk r (k+j))
structure Px (r:Nat→Int)(k j:Nat):Prop where
 le:j≤3 - k
 ok:∀q,q<j→Sk r (k+q)=true
theorem Px.i0 {r:Nat→Int}{k:Nat}:Px r k 0:=⟨Nat.zero_le _,fun q hq=>by omega⟩
theorem Px.nx {r:Nat→Int}{k j:Nat}(h:Px r k j)(h1:j<3 - k)(h2:(!(Sk r (k+j)))=false):Px r k (j+1):=⟨by omega,fun q hq=>by
 by_cases e:q=j
 ·subst e;cases hz:Sk r (k+q)with
  |true=>rfl
  |false=>rw [hz]at h2;cases h2
 ·exact h.ok q (by omega)⟩
theorem Px.good {r:Nat→Int}{k j:Nat}(h:Px r k j)(h1:¬j<3 - k):GP r k=false:=by
 unfold GP
 rw [List.any_eq_false]
 intro q hq
 have:=h.ok q (by have:=List.mem_range.1 hq;omega)
 rw [this];decide
theorem JU {r:Nat→Int}{k j:Nat}(h1:j<3 - k)(h2:(!(Sk r (k+j)))=true):GP r k=true:=by
 unfold GP
 rw [List.any_eq_true]
 exact⟨j,List.mem_range.2 h1,h2⟩
theorem YI (ar:Int)(nm:List UInt8)(mi r:Nat→Int)(cs:List AD)(cx:Nat)(qu:Int)(kd:List Cn)(ck:Nat)(hk:cs.length=1):Fn Tryz.prog 52 [.agg (BJ ar nm mi r cs cx qu kd ck)] [some (Am cs),some (A9 kd)] (Rt (.bool (GP r 1)) [some (Am cs),some (A9 kd)]):=
 AG (n:=19) (by kernel_rfl) Tryz.func52 rfl rfl rfl fun G w a h0 A=>N9 13 A rfl rfl fun A=>have A:=AB A 8 (.int .i64 1) rfl (fun _=>by rw [hk];rfl);AW A rfl (YH (m:=3) (s:=8) (e:=23) (k:=1) rfl rfl rfl rfl rfl (by kernel_rfl) (by decide) rfl) fun A=>N9 5 A rfl rfl fun A=>Bk (fun(j:Nat)=>[(2,.ff),(9,.sp (.ptr 2 13) 2 2),(10,.int .i64 ((2:Nat):Int)),(11,.int .i64 (j:Int))]) (fun(j:Nat)=>[some (Am cs),some (A9 kd),some (.blk (BJ ar nm mi r cs cx qu kd ck))]) (fun(j:Nat)=>Px r 1 j) (fun(j:Nat)=>2 - j) 0 Px.i0 ((A.cut [2,9,10,11] rfl).trunc 3 rfl rfl rfl (iR h0 rfl)) fun j hJ {G a w} A=>N9 6 A rfl rfl fun A=>AL 12 A rfl
   (fun h1 A=>N9 7 A rfl rfl fun A=>Decidable.byCases (p:=j=0) (fun e0=>have A:=A.say 11 (.int .i64 0) rfl (by rw [e0];rfl);N9 1 A rfl (iU (by(try have:=hJ.le);omega)<|iT) fun A=>have A:=AB A 13 (.ptr 2 13) rfl (B8 0 rfl);N9 12 A rfl rfl fun A=>fork 17 A rfl
     (fun h2 A=>N9 7 A rfl rfl fun A=>R9 A rfl h0 rfl (by rw [JU (k:=1) (j:=0) (by decide) h2];rfl) rfl)
     (fun h2 A=>N9 8 A rfl (iU (by(try have:=hJ.le);omega)<|iT) fun A=>⟨j+1,_,(by omega),(hJ.nx (by omega) (by rw [e0];exact h2)),((A.cut [2,9,10,11] rfl).trunc 3 rfl rfl rfl (iR h0 rfl)).sayT (by rw [e0];rfl)⟩)) fun ne0=>(have e1:j=1:=(by omega);have A:=A.say 11 (.int .i64 1) rfl (by rw [e1];rfl);N9 1 A rfl (iU (by(try have:=hJ.le);omega)<|iT) fun A=>have A:=AB A 13 (.ptr 2 21) rfl (B8 1 rfl);N9 12 A rfl rfl fun A=>fork 17 A rfl
     (fun h3 A=>N9 7 A rfl rfl fun A=>R9 A rfl h0 rfl (by rw [JU (k:=1) (j:=1) (by decide) h3];rfl) rfl)
     (fun h3 A=>N9 8 A rfl (iU (by(try have:=hJ.le);omega)<|iT) fun A=>⟨j+1,_,(by omega),(hJ.nx (by omega) (by rw [e1];exact h3)),((A.cut [2,9,10,11] rfl).trunc 3 rfl rfl rfl (iR h0 rfl)).sayT (by rw [e1];rfl)⟩)))
   (fun h1 A=>N9 9 A rfl rfl fun A=>R9 A rfl h0 rfl (by rw [hJ.good (by omega)];rfl) rfl)
theorem YJ (ar:Int)(nm:List UInt8)(mi r:Nat→Int)(cs:List AD)(cx:Nat)(qu:Int)(kd:List Cn)(ck:Nat)(hk:cs.length=2):Fn Tryz.prog 52 [.agg (BJ ar nm mi r cs cx qu kd ck)] [some (Am cs),some (A9 kd)] (Rt (.bool (GP r 2)) [some (Am cs),some (A9 kd)]):=
 AG (n:=19) (by kernel_rfl) Tryz.func52 rfl rfl rfl fun G w a h0 A=>N9 13 A rfl rfl fun A=>have A:=AB A 8 (.int .i64 2) rfl (fun _=>by rw [hk];rfl);AW A rfl (YH (m:=3) (s:=8) (e:=23) (k:=2) rfl rfl rfl rfl rfl (by kernel_rfl) (by decide) rfl) fun A=>N9 5 A rfl rfl fun A=>Bk (fun(j:Nat)=>[(2,.ff),(9,.sp (.ptr 2 21) 1 1),(10,.int .i64 ((1:Nat):Int)),(11,.int .i64 (j:Int))]) (fun(j:Nat)=>[some (Am cs),some (A9 kd),some (.blk (BJ ar nm mi r cs cx qu kd ck))]) (fun(j:Nat)=>Px r 2 j) (fun(j:Nat)=>1 - j) 0 Px.i0 ((A.cut [2,9,10,11] rfl).trunc 3 rfl rfl rfl (iR h0 rfl)) fun j hJ {G a w} A=>N9 6 A rfl rfl fun A=>AL 12 A rfl
   (fun h1 A=>N9 7 A rfl rfl fun A=>(have e0:j=0:=(by omega);have A:=A.say 11 (.int .i64 0) rfl (by rw [e0];rfl);N9 1 A rfl (iU (by(try have:=hJ.le);omega)<|iT) fun A=>have A:=AB A 13 (.ptr 2 21) rfl (B8 0 rfl);N9 12 A rfl rfl fun A=>fork 17 A rfl
     (fun h2 A=>N9 7 A rfl rfl fun A=>R9 A rfl h0 rfl (by rw [JU (k:=2) (j:=0) (by decide) h2];rfl) rfl)
     (fun h2 A=>N9 8 A rfl (iU (by(try have:=hJ.le);omega)<|iT) fun A=>⟨j+1,_,(by omega),(hJ.nx (by omega) (by rw [e0];exact h2)),((A.cut [2,9,10,11] rfl).trunc 3 rfl rfl rfl (iR h0 rfl)).sayT (by rw [e0];rfl)⟩)))
   (fun h1 A=>N9 9 A rfl rfl fun A=>R9 A rfl h0 rfl (by rw [hJ.good (by omega)];rfl) rfl)
theorem YK (ar:Int)(nm:List UInt8)(mi r:Nat→Int)(cs:List AD)(cx:Nat)(qu:Int)(kd:List Cn)(ck:Nat)(hk:cs.length=3):Fn Tryz.prog 52 [.agg (BJ ar nm mi r cs cx qu kd ck)] [some (Am cs),some (A9 kd)] (Rt (.bool (GP r 3)) [some (Am cs),some (A9 kd)]):=
 AG (n:=19) (by kernel_rfl) Tryz.func52 rfl rfl rfl fun G w a h0 A=>N9 13 A rfl rfl fun A=>have A:=AB A 8 (.int .i64 3) rfl (fun _=>by rw [hk];rfl);AW A rfl (YH (m:=3) (s:=8) (e:=23) (k:=3) rfl rfl rfl rfl rfl (by kernel_rfl) (by decide) rfl) fun A=>N9 5 A rfl rfl fun A=>Bk (fun(j:Nat)=>[(2,.ff),(9,.sp (.ptr 2 5) 0 0),(10,.int .i64 ((0:Nat):Int)),(11,.int .i64 (j:Int))]) (fun(j:Nat)=>[some (Am cs),some (A9 kd),some (.blk (BJ ar nm mi r cs cx qu kd ck))]) (fun(j:Nat)=>Px r 3 j) (fun(j:Nat)=>0 - j) 0 Px.i0 ((A.cut [2,9,10,11] rfl).trunc 3 rfl rfl rfl (iR h0 rfl)) fun j hJ {G a w} A=>N9 6 A rfl rfl fun A=>AL 12 A rfl
   (fun h1 A=>N9 7 A rfl rfl fun A=>absurd h1 (by omega))
   (fun h1 A=>N9 9 A rfl rfl fun A=>R9 A rfl h0 rfl (by rw [hJ.good (by omega)];rfl) rfl)
theorem YL (p q:Int):Fn Tryz.prog 126 [.int .i64 p,.int .i64 q] [] (Rt (.bool ((decide (0≤p))&&(decide (p<q)))) []):=
 AG (n:=12) (by kernel_rfl) Tryz.func126 rfl rfl rfl fun G w a h0 A=>N9 18 A rfl rfl fun A=>R9 A rfl h0 rfl rfl rfl
def LI (kd th rg lc vl:Int):Bool:=if kd=1 then if((decide (0≤th))&&(decide (th<3)))=true then((decide (0≤rg))&&(decide (rg<8)))&&(lc==0)else false else if kd=2 then(((decide (0≤lc))&&(decide (lc<3)))&&(th==0))&&(rg==0)else if kd=3 then((kd==kd)&&((th==0)&&((rg==0)&&((lc==0)&&(vl==0)))))else if kd=4 then((kd==kd)&&((th==0)&&((rg==0)&&((lc==0)&&(vl==0)))))else if kd=5 then((kd==kd)&&((th==0)&&((rg==0)&&((lc==0)&&(vl==0)))))else false
theorem fP (kd th rg lc vl:Int):Fn Tryz.prog 85 [.agg [.int .i64 kd,.int .i64 th,.int .i64 rg,.int .i64 lc,.int .i64 vl]] [] (Rt (.bool (LI kd th rg lc vl)) []):=
 AG (n:=44) (by kernel_rfl) Tryz.func85 rfl rfl rfl fun G w a h0 A=>N9 20 A rfl rfl fun A=>AN 5 A rfl
  (fun h1 A=>N9 5 A rfl rfl fun A=>C9 [] (YL th 3) A rfl fun A=>N9 1 A rfl rfl fun A=>fork 10 A rfl
   (fun h2 A=>N9 2 A rfl rfl fun A=>C9 [] (YL rg 8) A rfl fun A=>N9 10 A rfl rfl fun A=>R9 A rfl h0 rfl (by simp only [AX,nb,BY,BR,LI,if_pos h1,if_pos h2]) rfl)
   (fun h2 A=>N9 13 A rfl rfl fun A=>R9 A rfl h0 rfl (by simp only [AX,nb,BY,BR,LI,if_pos h1,if_neg (ne_true_of_eq_false h2)]) rfl))
  (fun h1 A=>N9 7 A rfl rfl fun A=>AN 20 A rfl
   (fun h3 A=>N9 5 A rfl rfl fun A=>C9 [] (YL lc 3) A rfl fun A=>N9 14 A rfl rfl fun A=>R9 A rfl h0 rfl (by simp only [AX,nb,BY,BR,LI,if_neg (h1),if_pos h3]) rfl)
   (fun h3 A=>N9 8 A rfl rfl fun A=>AN 35 A rfl
    (fun h4 A=>N9 15 A rfl rfl fun A=>R9 A rfl h0 rfl (by simp only [AX,nb,BY,BR,LI,if_neg (h1),if_neg (h3),if_pos h4]) rfl)
    (fun h4 A=>N9 7 A rfl rfl fun A=>AN 35 A rfl
     (fun h5 A=>N9 15 A rfl rfl fun A=>R9 A rfl h0 rfl (by simp only [AX,nb,BY,BR,LI,if_neg (h1),if_neg (h3),if_neg (h4),if_pos h5]) rfl)
     (fun h5 A=>N9 6 A rfl rfl fun A=>AN 35 A rfl
      (fun h6 A=>N9 12 A rfl rfl fun A=>R9 A rfl h0 rfl (by simp only [AX,nb,BY,BR,LI,if_neg (h1),if_neg (h3),if_neg (h4),if_neg (h5),if_pos h6]) rfl)
      (fun h6 A=>N9 10 A rfl rfl fun A=>R9 A rfl h0 rfl (by simp only [AX,nb,BY,BR,LI,if_neg (h1),if_neg (h3),if_neg (h4),if_neg (h5),if_neg (h6)]) rfl)))))
def Fs (kd:Int):Int:=if kd=3 then 1 else if kd=4 then 2 else if kd=5 then 2 else 0
theorem bR (kd:Int):Fn Tryz.prog 86 [.int .i64 kd] [] (Rt (.int .i64 (Fs kd)) []):=
 AG (n:=9) (by kernel_rfl) Tryz.func86 rfl rfl rfl fun G w a h0 A=>N9 18 A rfl rfl fun A=>AN 4 A rfl
  (fun h1 A=>N9 7 A rfl rfl fun A=>R9 A rfl h0 rfl (by simp only [AX,nb,BY,BR,Fs,if_pos h1]) rfl)
  (fun h1 A=>N9 8 A rfl rfl fun A=>AN 6 A rfl
   (fun h2 A=>N9 10 A rfl rfl fun A=>R9 A rfl h0 rfl (by simp only [AX,nb,BY,BR,Fs,if_neg (h1),if_pos h2]) rfl)
   (fun h2 A=>N9 6 A rfl rfl fun A=>AN 6 A rfl
    (fun h3 A=>N9 7 A rfl rfl fun A=>R9 A rfl h0 rfl (by simp only [AX,nb,BY,BR,Fs,if_neg (h1),if_neg (h2),if_pos h3]) rfl)
    (fun h3 A=>N9 10 A rfl rfl fun A=>R9 A rfl h0 rfl (by simp only [AX,nb,BY,BR,Fs,if_neg (h1),if_neg (h2),if_neg (h3)]) rfl)))
def NV (c:Cn):Bool:=LI c.k c.t c.r c.l c.v
def Sm:List Cn→Int→Bool
 | [],h=>h==1
 |c::l,h=>if NV c=false∨h<Fs c.k then false else Sm l (h+(1 - Fs c.k))
def MP (l:List Cn):Bool:=if((l.length:Nat):Int)>32 then false else Sm l 0
theorem Fm (k:Int):0≤Fs k∧Fs k≤2:=by unfold Fs;split<;>(try split)<;>(try split)<;>omega
structure NW (kd:List Cn)(i:Nat)(h:Int):Prop where
 le:i≤kd.length
 h0:0≤h
 h1:h≤i
 eq:Sm kd 0=Sm (kd.drop i) h
section
variable {kd:List Cn}{i:Nat}{h:Int}
theorem NW.i0:NW kd 0 0:=⟨Nat.zero_le _,by omega,by omega,by rw [List.drop_zero]⟩
theorem NW.at (hI:NW kd i h)(h1:(i:Int)<((kd.length:Nat):Int)):Sm kd 0=if NV (kd.getD ((i:Int)).toNat Cn.z)=false∨h<Fs (kd.getD ((i:Int)).toNat Cn.z).k then false else Sm (kd.drop (i+1)) (h+(1 - Fs (kd.getD ((i:Int)).toNat Cn.z).k)):=by
 have hi:i<kd.length:=by omega
 have e:(kd.getD ((i:Int)).toNat Cn.z)=kd[i]:=by rw [Int.toNat_natCast,List.getD_eq_getElem?_getD,List.getElem?_eq_getElem hi];rfl
 rw [hI.eq,List.drop_eq_getElem_cons hi,Sm,e]
theorem NW.b1 (hI:NW kd i h)(h1:(i:Int)<((kd.length:Nat):Int))(h2:(!(NV (kd.getD ((i:Int)).toNat Cn.z)))=true):Sm kd 0=false:=by
 rw [hI.at h1,if_pos (.inl (by cases hq:NV (kd.getD ((i:Int)).toNat Cn.z);rfl;rw [hq]at h2;cases h2))]
theorem NW.b2 (hI:NW kd i h)(h1:(i:Int)<((kd.length:Nat):Int))(h2:h<Fs (kd.getD ((i:Int)).toNat Cn.z).k):Sm kd 0=false:=by rw [hI.at h1,if_pos (.inr h2)]
theorem NW.nx (hI:NW kd i h)(h1:(i:Int)<((kd.length:Nat):Int))(h2:(!(NV (kd.getD ((i:Int)).toNat Cn.z)))=false)(h3:¬h<Fs (kd.getD ((i:Int)).toNat Cn.z).k):NW kd (i+1) (h+(1 - Fs (kd.getD ((i:Int)).toNat Cn.z).k)):=by
 have hn:NV (kd.getD ((i:Int)).toNat Cn.z)=true:=by cases hq:NV (kd.getD ((i:Int)).toNat Cn.z);(rw [hq]at h2;cases h2);rfl
 have hp:=Fm (kd.getD ((i:Int)).toNat Cn.z).k
 have k0:=hI.h0;have k1:=hI.h1
 refine⟨by omega,by omega,by omega,?_⟩
 rw [hI.at h1,if_neg (by rintro (e|e);rw [hn]at e;cases e;exact h3 e)]
theorem NW.fi (hI:NW kd i h)(h1:¬(i:Int)<((kd.length:Nat):Int)):Sm kd 0=(h==1):=by
 rw [hI.eq,List.drop_eq_nil_of_le (by omega),Sm]
end
theorem LJ (kd:List Cn)(ck:Nat):Fn Tryz.prog 51 [.sl 0 kd.length ck] [some (A9 kd)] (Rt (.bool (MP kd)) [some (A9 kd)]):=
 AG (n:=34) (by kernel_rfl) Tryz.func51 rfl rfl rfl fun G w a h0 A=>N9 13 A rfl rfl fun A=>AL 8 A rfl
  (fun h1 A=>N9 7 A rfl rfl fun A=>R9 A rfl h0 rfl (by unfold MP;rw [if_pos h1];rfl) rfl)
  (fun h1 A=>N9 17 A rfl rfl fun A=>Lk (fun(i:Nat) (h:Int)=>[(2,.ff),(3,.int .i64 h),(9,.sl 0 kd.length ck),(10,.int .i64 ((kd.length:Nat):Int)),(11,.int .i64 (i:Int))]) (fun(i:Nat) (h:Int)=>[some (A9 kd)]) (fun(i:Nat) (h:Int)=>NW kd i h) (fun(i:Nat) (h:Int)=>kd.length - i) 0 0 NW.i0 ((A.cut [2,3,9,10,11] rfl).trunc 1 rfl rfl rfl (iR h0 rfl)) fun i h hJ {G a w} A=>N9 6 A rfl rfl fun A=>AL 12 A rfl
    (fun h2 A=>N9 15 A rfl (iU (by(try have hp:=Fm (kd.getD ((i:Int)).toNat Cn.z).k);(try have:=hJ.le);(try have:=hJ.h0);(try have:=hJ.h1);omega)<|iU (by(try have hp:=Fm (kd.getD ((i:Int)).toNat Cn.z).k);(try have:=hJ.le);(try have:=hJ.h0);(try have:=hJ.h1);omega)<|iT) fun A=>N9 2 A rfl rfl fun A=>C9 [] (fP (kd.getD (((i:Int)).toNat) Cn.z).k (kd.getD (((i:Int)).toNat) Cn.z).t (kd.getD (((i:Int)).toNat) Cn.z).r (kd.getD (((i:Int)).toNat) Cn.z).l (kd.getD (((i:Int)).toNat) Cn.z).v) A rfl fun A=>N9 2 A rfl rfl fun A=>fork 18 A rfl
     (fun h3 A=>N9 15 A rfl rfl fun A=>R9 A rfl h0 rfl (by unfold MP;rw [if_neg h1,hJ.b1 h2 h3];rfl) rfl)
     (fun h3 A=>N9 3 A rfl rfl fun A=>C9 [] (bR ((kd.getD (((i:Int)).toNat) Cn.z).k)) A rfl fun A=>N9 4 A rfl rfl fun A=>AL 24 A rfl
      (fun h4 A=>N9 7 A rfl rfl fun A=>R9 A rfl h0 rfl (by unfold MP;rw [if_neg h1,hJ.b2 h2 h4];rfl) rfl)
      (fun h4 A=>N9 7 A rfl rfl fun A=>C9 [] (bR ((kd.getD (((i:Int)).toNat) Cn.z).k)) A rfl fun A=>N9 6 A rfl (iU (by(try have hp:=Fm (kd.getD ((i:Int)).toNat Cn.z).k);(try have:=hJ.le);(try have:=hJ.h0);(try have:=hJ.h1);omega)<|iU (by(try have hp:=Fm (kd.getD ((i:Int)).toNat Cn.z).k);(try have:=hJ.le);(try have:=hJ.h0);(try have:=hJ.h1);omega)<|iT) fun A=>N9 4 A rfl (iU (by(try have hp:=Fm (kd.getD ((i:Int)).toNat Cn.z).k);(try have:=hJ.le);(try have:=hJ.h0);(try have:=hJ.h1);omega)<|iT) fun A=>⟨i+1,h+(1 - Fs (kd.getD ((i:Int)).toNat Cn.z).k),_,(by omega),(hJ.nx h2 h3 h4),((A.cut [2,3,9,10,11] rfl).trunc 1 rfl rfl rfl (iR h0 rfl))⟩)))
    (fun h2 A=>N9 11 A rfl rfl fun A=>R9 A rfl h0 rfl (by unfold MP;rw [if_neg h1,hJ.fi h2];rfl) rfl))
theorem NX (ar:Int)(nm:List UInt8)(mi r:Nat→Int)(cs:List AD)(cx:Nat)(qu:Int)(kd:List Cn)(ck:Nat)(h:1≤cs.length∧cs.length≤3):Fn Tryz.prog 52 [.agg (BJ ar nm mi r cs cx qu kd ck)] [some (Am cs),some (A9 kd)] (Rt (.bool (GP r cs.length)) [some (Am cs),some (A9 kd)]):=by
 have e:cs.length=1∨cs.length=2∨cs.length=3:=by omega
 rcases e with e|e|e
 ·have:=YI ar nm mi r cs cx qu kd ck e
  rw [show GP r cs.length=GP r 1 by rw [e]]
  exact this
 ·have:=YJ ar nm mi r cs cx qu kd ck e
  rw [show GP r cs.length=GP r 2 by rw [e]]
  exact this
 ·have:=YK ar nm mi r cs cx qu kd ck e
  rw [show GP r cs.length=GP r 3 by rw [e]]
  exact this
theorem NY {cs:List AD}(h:Km cs=0):1≤cs.length∧cs.length≤3:=by
 unfold Km at h
 split at h
 ·cases h
 ·next hh=>simp only [Bool.or_eq_true,decide_eq_true_eq]at hh;omega
def DD (pe:In→Int)(nm:List UInt8)(cs:List AD)(qu:Int)(kd:List Cn)(r:Nat→Int):Int:=
 if(nm.length:Int)>16 then 40 else if C1 nm=false then 40 else if Km cs≠0 then Km cs else if Ce pe cs=false then 36 else
 if KR qu=[]then 22 else if MP kd=false then 22 else if GP r cs.length=true then 1 else 0
theorem Py (nm:List UInt8) (mi r:Nat→Int) (cs:List AD) (cx:Nat) (qu:Int) (kd:List Cn) (ck:Nat) (os:List (Nat×Obj)) (hM:lP os) (hT:mR os) (hE:lW os) (hs:∀c∈cs,c.l.length≤9223372036854775807) (hR:∀c∈cs,∀i∈c.l,Vu i) (hn:cs.length≤9223372036854775807):Bi (GC os cs) Tryz.prog 9 [.agg (EI 1 nm mi r (.sl 0 cs.length cx) qu (.sl 1 kd.length ck))] [some (Am cs),some (A9 kd)] (Rt (.int .i64 (DD (fun i=>(fun(i:In) (lb:List UInt8)=>(Ch Dk NQ i lb).2) i (D0 i.to_)) nm cs qu kd r)) [some (Am cs),some (A9 kd)]):=
 Ab (n:=53) (by kernel_rfl) Tryz.func9 rfl rfl rfl fun G w a h0 hI A=>N9 10 A rfl rfl fun A=>C9 [] Um A rfl fun A=>N9 26 A rfl rfl fun A=>AL 20 A rfl
  (fun h1 A=>N9 14 A rfl rfl fun A=>R9 A rfl h0 rfl (by unfold DD;rw [if_pos h1];rfl) rfl)
  (fun h1 A=>N9 2 A rfl rfl fun A=>I9 [] GC.ok hI (Bi.mono (Ie nm os hM hE) fun _ _ q=>q.1) A rfl fun A=>N9 4 A rfl rfl fun A=>fork 25 A rfl
   (fun h2 A=>N9 7 A rfl rfl fun A=>R9 A rfl h0 rfl (by unfold DD;rw [if_neg h1];rw [if_pos (by revert h2;cases C1 nm<;>simp)];rfl) rfl)
   (fun h2 A=>N9 8 A rfl rfl fun A=>I9 [0] GC.ok hI (Bi.mono (IV cs cx hs (fun h8 h3=>TY cs cx (fun c hc=>Nat.le_trans (Gm h8 c hc) (by decide)) (by omega))) fun _ _ q=>q.2) A rfl fun A=>N9 15 A rfl rfl fun A=>Dc 34 A rfl
    (fun h3 A=>N9 8 A rfl rfl fun A=>R9 A rfl h0 rfl (by unfold DD;rw [if_neg h1];rw [if_neg (by revert h2;cases C1 nm<;>simp)];rw [if_pos h3];rfl) rfl)
    (fun h3 A=>N9 9 A rfl rfl fun A=>I9 [0] GC.ok hI (GO cs cx [88,56,54] 109 110 111 (fun i lb=>(Ch Dk NQ i lb).1) (fun i lb=>(Ch Dk NQ i lb).2) os hM hT hE (fun i lb hi hl=>Ud i lb os hM hT hE (fun L hL=>Sb hi hl hL)) hs hn hR) A rfl fun A=>N9 3 A rfl rfl fun A=>fork 40 A rfl
     (fun h4 A=>N9 7 A rfl rfl fun A=>R9 A rfl h0 rfl (by unfold DD;rw [if_neg h1];rw [if_neg (by revert h2;cases C1 nm<;>simp)];rw [if_neg (not_not_intro h3)];rw [if_pos (by revert h4;cases Ce _ cs<;>simp)];rfl) rfl)
     (fun h4 A=>N9 8 A rfl rfl fun A=>C9 [] (Sj qu) A rfl fun A=>N9 2 A rfl rfl fun A=>AN 45 A rfl
      (fun h5 A=>N9 14 A rfl rfl fun A=>R9 A rfl h0 rfl (by unfold DD;rw [if_neg h1];rw [if_neg (by revert h2;cases C1 nm<;>simp)];rw [if_neg (not_not_intro h3)];rw [if_neg (by revert h4;cases Ce _ cs<;>simp)];rw [if_pos h5];rfl) rfl)
      (fun h5 A=>N9 2 A rfl rfl fun A=>C9 [1] (LJ kd ck) A rfl fun A=>N9 4 A rfl rfl fun A=>fork 50 A rfl
       (fun h6 A=>N9 7 A rfl rfl fun A=>R9 A rfl h0 rfl (by unfold DD;rw [if_neg h1];rw [if_neg (by revert h2;cases C1 nm<;>simp)];rw [if_neg (not_not_intro h3)];rw [if_neg (by revert h4;cases Ce _ cs<;>simp)];rw [if_neg h5];rw [if_pos (by revert h6;cases MP kd<;>simp)];rfl) rfl)
       (fun h6 A=>N9 7 A rfl rfl fun A=>C9 [0,1] (NX 1 nm mi r cs cx qu kd ck (NY h3)) A rfl fun A=>N9 2 A rfl rfl fun A=>fork 52 A rfl
        (fun h7 A=>N9 7 A rfl rfl fun A=>R9 A rfl h0 rfl (by unfold DD;rw [if_neg h1];rw [if_neg (by revert h2;cases C1 nm<;>simp)];rw [if_neg (not_not_intro h3)];rw [if_neg (by revert h4;cases Ce _ cs<;>simp)];rw [if_neg h5];rw [if_neg (by revert h6;cases MP kd<;>simp)];rw [if_pos h7];rfl) rfl)
        (fun h7 A=>N9 9 A rfl rfl fun A=>R9 A rfl h0 rfl (by unfold DD;rw [if_neg h1];rw [if_neg (by revert h2;cases C1 nm<;>simp)];rw [if_neg (not_not_intro h3)];rw [if_neg (by revert h4;cases Ce _ cs<;>simp)];rw [if_neg h5];rw [if_neg (by revert h6;cases MP kd<;>simp)];rw [if_neg (by rw [h7];decide)];rfl) rfl)))))))
theorem Pz (nm:List UInt8) (mi r:Nat→Int) (cs:List AD) (cx:Nat) (qu:Int) (kd:List Cn) (ck:Nat) (os:List (Nat×Obj)) (hM:lP os) (hT:mR os) (hE:lW os) (hs:∀c∈cs,c.l.length≤9223372036854775807) (hR:∀c∈cs,∀i∈c.l,Vu i) (hn:cs.length≤9223372036854775807):Bi (GC os cs) Tryz.prog 9 [.agg (EI 2 nm mi r (.sl 0 cs.length cx) qu (.sl 1 kd.length ck))] [some (Am cs),some (A9 kd)] (Rt (.int .i64 (DD (fun i=>(fun(i:In) (lb:List UInt8)=>(Ch Bq GN i lb).2) i (D0 i.to_)) nm cs qu kd r)) [some (Am cs),some (A9 kd)]):=
 Ab (n:=53) (by kernel_rfl) Tryz.func9 rfl rfl rfl fun G w a h0 hI A=>N9 10 A rfl rfl fun A=>C9 [] Un A rfl fun A=>N9 26 A rfl rfl fun A=>AL 20 A rfl
  (fun h1 A=>N9 14 A rfl rfl fun A=>R9 A rfl h0 rfl (by unfold DD;rw [if_pos h1];rfl) rfl)
  (fun h1 A=>N9 2 A rfl rfl fun A=>I9 [] GC.ok hI (Bi.mono (Ie nm os hM hE) fun _ _ q=>q.1) A rfl fun A=>N9 4 A rfl rfl fun A=>fork 25 A rfl
   (fun h2 A=>N9 7 A rfl rfl fun A=>R9 A rfl h0 rfl (by unfold DD;rw [if_neg h1];rw [if_pos (by revert h2;cases C1 nm<;>simp)];rfl) rfl)
   (fun h2 A=>N9 8 A rfl rfl fun A=>I9 [0] GC.ok hI (Bi.mono (IV cs cx hs (fun h8 h3=>TY cs cx (fun c hc=>Nat.le_trans (Gm h8 c hc) (by decide)) (by omega))) fun _ _ q=>q.2) A rfl fun A=>N9 15 A rfl rfl fun A=>Dc 34 A rfl
    (fun h3 A=>N9 8 A rfl rfl fun A=>R9 A rfl h0 rfl (by unfold DD;rw [if_neg h1];rw [if_neg (by revert h2;cases C1 nm<;>simp)];rw [if_pos h3];rfl) rfl)
    (fun h3 A=>N9 9 A rfl rfl fun A=>I9 [0] GC.ok hI (GO cs cx [82,73,83,67,86] 112 113 114 (fun i lb=>(Ch Bq GN i lb).1) (fun i lb=>(Ch Bq GN i lb).2) os hM hT hE (fun i lb hi hl=>Ui i lb os hM hT hE (fun L hL=>NS hi hl hL)) hs hn hR) A rfl fun A=>N9 3 A rfl rfl fun A=>fork 40 A rfl
     (fun h4 A=>N9 7 A rfl rfl fun A=>R9 A rfl h0 rfl (by unfold DD;rw [if_neg h1];rw [if_neg (by revert h2;cases C1 nm<;>simp)];rw [if_neg (not_not_intro h3)];rw [if_pos (by revert h4;cases Ce _ cs<;>simp)];rfl) rfl)
     (fun h4 A=>N9 8 A rfl rfl fun A=>C9 [] (Sj qu) A rfl fun A=>N9 2 A rfl rfl fun A=>AN 45 A rfl
      (fun h5 A=>N9 14 A rfl rfl fun A=>R9 A rfl h0 rfl (by unfold DD;rw [if_neg h1];rw [if_neg (by revert h2;cases C1 nm<;>simp)];rw [if_neg (not_not_intro h3)];rw [if_neg (by revert h4;cases Ce _ cs<;>simp)];rw [if_pos h5];rfl) rfl)
      (fun h5 A=>N9 2 A rfl rfl fun A=>C9 [1] (LJ kd ck) A rfl fun A=>N9 4 A rfl rfl fun A=>fork 50 A rfl
       (fun h6 A=>N9 7 A rfl rfl fun A=>R9 A rfl h0 rfl (by unfold DD;rw [if_neg h1];rw [if_neg (by revert h2;cases C1 nm<;>simp)];rw [if_neg (not_not_intro h3)];rw [if_neg (by revert h4;cases Ce _ cs<;>simp)];rw [if_neg h5];rw [if_pos (by revert h6;cases MP kd<;>simp)];rfl) rfl)
       (fun h6 A=>N9 7 A rfl rfl fun A=>C9 [0,1] (NX 2 nm mi r cs cx qu kd ck (NY h3)) A rfl fun A=>N9 2 A rfl rfl fun A=>fork 52 A rfl
        (fun h7 A=>N9 7 A rfl rfl fun A=>R9 A rfl h0 rfl (by unfold DD;rw [if_neg h1];rw [if_neg (by revert h2;cases C1 nm<;>simp)];rw [if_neg (not_not_intro h3)];rw [if_neg (by revert h4;cases Ce _ cs<;>simp)];rw [if_neg h5];rw [if_neg (by revert h6;cases MP kd<;>simp)];rw [if_pos h7];rfl) rfl)
        (fun h7 A=>N9 9 A rfl rfl fun A=>R9 A rfl h0 rfl (by unfold DD;rw [if_neg h1];rw [if_neg (by revert h2;cases C1 nm<;>simp)];rw [if_neg (not_not_intro h3)];rw [if_neg (by revert h4;cases Ce _ cs<;>simp)];rw [if_neg h5];rw [if_neg (by revert h6;cases MP kd<;>simp)];rw [if_neg (by rw [h7];decide)];rfl) rfl)))))))
theorem P0 (nm:List UInt8) (mi r:Nat→Int) (cs:List AD) (cx:Nat) (qu:Int) (kd:List Cn) (ck:Nat) (os:List (Nat×Obj)) (hM:lP os) (hT:mR os) (hE:lW os) (hs:∀c∈cs,c.l.length≤9223372036854775807) (hR:∀c∈cs,∀i∈c.l,Vu i) (hn:cs.length≤9223372036854775807):Bi (GC os cs) Tryz.prog 9 [.agg (EI 3 nm mi r (.sl 0 cs.length cx) qu (.sl 1 kd.length ck))] [some (Am cs),some (A9 kd)] (Rt (.int .i64 (DD (fun i=>(fun(i:In) (lb:List UInt8)=>(Ch Ar.Dz Ar.NT i lb).2) i (D0 i.to_)) nm cs qu kd r)) [some (Am cs),some (A9 kd)]):=
 Ab (n:=53) (by kernel_rfl) Tryz.func9 rfl rfl rfl fun G w a h0 hI A=>N9 10 A rfl rfl fun A=>C9 [] Uo A rfl fun A=>N9 26 A rfl rfl fun A=>AL 20 A rfl
  (fun h1 A=>N9 14 A rfl rfl fun A=>R9 A rfl h0 rfl (by unfold DD;rw [if_pos h1];rfl) rfl)
  (fun h1 A=>N9 2 A rfl rfl fun A=>I9 [] GC.ok hI (Bi.mono (Ie nm os hM hE) fun _ _ q=>q.1) A rfl fun A=>N9 4 A rfl rfl fun A=>fork 25 A rfl
   (fun h2 A=>N9 7 A rfl rfl fun A=>R9 A rfl h0 rfl (by unfold DD;rw [if_neg h1];rw [if_pos (by revert h2;cases C1 nm<;>simp)];rfl) rfl)
   (fun h2 A=>N9 8 A rfl rfl fun A=>I9 [0] GC.ok hI (Bi.mono (IV cs cx hs (fun h8 h3=>TY cs cx (fun c hc=>Nat.le_trans (Gm h8 c hc) (by decide)) (by omega))) fun _ _ q=>q.2) A rfl fun A=>N9 15 A rfl rfl fun A=>Dc 34 A rfl
    (fun h3 A=>N9 8 A rfl rfl fun A=>R9 A rfl h0 rfl (by unfold DD;rw [if_neg h1];rw [if_neg (by revert h2;cases C1 nm<;>simp)];rw [if_pos h3];rfl) rfl)
    (fun h3 A=>N9 9 A rfl rfl fun A=>I9 [0] GC.ok hI (GO cs cx [65,82,77] 115 116 117 (fun i lb=>(Ch Ar.Dz Ar.NT i lb).1) (fun i lb=>(Ch Ar.Dz Ar.NT i lb).2) os hM hT hE (fun i lb hi hl=>Ar.Ul i lb os hM hT hE (fun L hL=>Ar.Sh hi hl hL)) hs hn hR) A rfl fun A=>N9 3 A rfl rfl fun A=>fork 40 A rfl
     (fun h4 A=>N9 7 A rfl rfl fun A=>R9 A rfl h0 rfl (by unfold DD;rw [if_neg h1];rw [if_neg (by revert h2;cases C1 nm<;>simp)];rw [if_neg (not_not_intro h3)];rw [if_pos (by revert h4;cases Ce _ cs<;>simp)];rfl) rfl)
     (fun h4 A=>N9 8 A rfl rfl fun A=>C9 [] (Sj qu) A rfl fun A=>N9 2 A rfl rfl fun A=>AN 45 A rfl
      (fun h5 A=>N9 14 A rfl rfl fun A=>R9 A rfl h0 rfl (by unfold DD;rw [if_neg h1];rw [if_neg (by revert h2;cases C1 nm<;>simp)];rw [if_neg (not_not_intro h3)];rw [if_neg (by revert h4;cases Ce _ cs<;>simp)];rw [if_pos h5];rfl) rfl)
      (fun h5 A=>N9 2 A rfl rfl fun A=>C9 [1] (LJ kd ck) A rfl fun A=>N9 4 A rfl rfl fun A=>fork 50 A rfl
       (fun h6 A=>N9 7 A rfl rfl fun A=>R9 A rfl h0 rfl (by unfold DD;rw [if_neg h1];rw [if_neg (by revert h2;cases C1 nm<;>simp)];rw [if_neg (not_not_intro h3)];rw [if_neg (by revert h4;cases Ce _ cs<;>simp)];rw [if_neg h5];rw [if_pos (by revert h6;cases MP kd<;>simp)];rfl) rfl)
       (fun h6 A=>N9 7 A rfl rfl fun A=>C9 [0,1] (NX 3 nm mi r cs cx qu kd ck (NY h3)) A rfl fun A=>N9 2 A rfl rfl fun A=>fork 52 A rfl
        (fun h7 A=>N9 7 A rfl rfl fun A=>R9 A rfl h0 rfl (by unfold DD;rw [if_neg h1];rw [if_neg (by revert h2;cases C1 nm<;>simp)];rw [if_neg (not_not_intro h3)];rw [if_neg (by revert h4;cases Ce _ cs<;>simp)];rw [if_neg h5];rw [if_neg (by revert h6;cases MP kd<;>simp)];rw [if_pos h7];rfl) rfl)
        (fun h7 A=>N9 9 A rfl rfl fun A=>R9 A rfl h0 rfl (by unfold DD;rw [if_neg h1];rw [if_neg (by revert h2;cases C1 nm<;>simp)];rw [if_neg (not_not_intro h3)];rw [if_neg (by revert h4;cases Ce _ cs<;>simp)];rw [if_neg h5];rw [if_neg (by revert h6;cases MP kd<;>simp)];rw [if_neg (by rw [h7];decide)];rfl) rfl)))))))
theorem P1 (ar:Int)(nm:List UInt8)(mi r:Nat→Int)(cs:List AD)(cx:Nat)(qu:Int)(kd:List Cn)(ck:Nat)(ha:¬(1≤ar∧ar≤3)):Fn Tryz.prog 9 [.agg (BJ ar nm mi r cs cx qu kd ck)] [some (Am cs),some (A9 kd)] (Rt (.int .i64 36) [some (Am cs),some (A9 kd)]):=
 AG (n:=53) (by kernel_rfl) Tryz.func9 rfl rfl rfl fun G w a h0 A=>N9 10 A rfl rfl fun A=>C9 [] (Up ar ha) A rfl fun A=>N9 10 A rfl rfl fun A=>N9 12 A rfl rfl fun A=>R9 A rfl h0 rfl rfl rfl
end Go.Proofs.YtbbdanhpphlbpaaGreatDoor
namespace Go.Proofs.YtbbdanhpphlbpaaGreatDoor
open Go.ChangeShapes Go.WideShapes Go.ChangeAt Go.RowKit Go.Deep
theorem Sn {n:Int}(h:(Lit.int .i64 n).wf=true): -9223372036854775808≤n∧n≤9223372036854775807:=by
 have h':(decide ((IntKind.i64).min≤n)&&decide (n≤(IntKind.i64).max))=true:=h
 rw [Bool.and_eq_true,decide_eq_true_eq,decide_eq_true_eq,show(IntKind.i64).min= -9223372036854775808 from rfl,show(IntKind.i64).max=9223372036854775807 from rfl]at h'
 exact h'
def bS (i:In):Array Value:= #[.int .i64 i.op,.int .i64 i.dst,.int .i64 i.ra,.int .i64 i.rb,.int .i64 i.imm,.int .i64 i.loc,.int .i64 i.off,.int .i64 i.ix,.int .i64 i.sz,.int .i64 i.fn,.bool i.acq,.bool i.weak,.bool i.rel,.int .i64 i.pred,.int .i64 i.succ,.int .i64 i.to_,.bool i.zero]
def cX (i:In):List Value:=(bS i).toList
def Uq (k:Nat):Nat:=if k==10||k==11||k==12||k==16 then 4 else 3
def So (P:Program):Option (Array Field):=match P.underlying 63 with|some (.struct fs)=>some fs|_=>none
def Vv (P:Program):Bool:=match So P with|some fs=>(List.range 17).all (fun k=>match fs[k]? with|some f=>f.offset==k&&f.type==Uq k|none=>false)|none=>false
theorem NZ:Vv Tryz.prog=true:=by kernel_rfl
theorem Na:∃fs:Array Field,Tryz.prog.underlying 63=some (.struct fs)∧∀k,k<17→∃f,fs[k]?=some f∧f.offset=k∧f.type=Uq k:=by
 have h:=NZ
 unfold Vv at h
 cases hq:So Tryz.prog with
 |none=>simp [hq]at h
 | some fs=>
  rw [hq]at h
  refine⟨fs,?_,fun k hk=>?_⟩
  ·unfold So at hq
   split at hq
   ·rename_i fs' he;rw [he];cases hq;rfl
   ·cases hq
  ·have h1:=List.all_eq_true.1 h k (List.mem_range.2 hk)
   cases hf:fs[k]? with
   |none=>simp [hf]at h1
   |some f=>rw [hf]at h1;simp only [Bool.and_eq_true,beq_iff_eq]at h1;exact⟨f,rfl,h1.1,h1.2⟩
theorem P2:Tryz.prog.cellsOf 3=1:=by kernel_rfl
theorem Nb:Tryz.prog.cellsOf 4=1:=by kernel_rfl
theorem take_one {l:List Value}{k:Nat}{v:Value}(h:(l.drop k).take 1=[v]):l[k]?=some v:=by
 have:=congrArg (fun l=>l[0]?) h
 simpa using this
section
variable {H:Type}{enc:TypeId×Value→H}{W:World}{base:Nat}{spare:Nat→Bool}{held:Bool}{base':Nat}
theorem Sp (cs:List Value)(n:Nat)(x:DataW H×List MemPlace)(h:DataW.trod enc Tryz.prog W base' spare held n 63 cs=some x)(hl:cs.length=17):∃i:In,cs=cX i∧Vu i:=by
 obtain⟨fs,hu,vU⟩:=Na
 obtain⟨xs,n,_,_,_,hlen,hx⟩:=DataW.trod_struct hu h
 have int:∀k,k<17→Uq k=3→∃m:Int,cs[k]?=some (.int .i64 m)∧ -9223372036854775808≤m∧m≤9223372036854775807:=fun k hk ht=>by
  obtain⟨f,nP,ho,uV⟩:=vU k hk
  have h1:=hx k f nP
  have hl:=(Array.getElem?_eq_some_iff.1 nP).1
  rw [ho,uV,ht,P2,List.getElem?_eq_getElem (by omega)]at h1
  obtain⟨m,h2,_,h3⟩:=DataW.trod_int Tryz.underlying3 h1
  exact⟨m,take_one h2,Sn h3⟩
 have bool:∀k,k<17→Uq k=4→∃b:Bool,cs[k]?=some (.bool b):=fun k hk ht=>by
  obtain⟨f,nP,ho,uV⟩:=vU k hk
  have h1:=hx k f nP
  have hl:=(Array.getElem?_eq_some_iff.1 nP).1
  rw [ho,uV,ht,Nb,List.getElem?_eq_getElem (by omega)]at h1
  obtain⟨m,h2,_⟩:=DataW.trod_bool Tryz.underlying4 h1
  exact⟨m,take_one h2⟩
 obtain⟨c0,h0,w0⟩:=int 0 (by decide) rfl
 obtain⟨c1,h1,w1⟩:=int 1 (by decide) rfl
 obtain⟨c2,h2,w2⟩:=int 2 (by decide) rfl
 obtain⟨c3,h3,w3⟩:=int 3 (by decide) rfl
 obtain⟨c4,h4,w4⟩:=int 4 (by decide) rfl
 obtain⟨c5,h5,w5⟩:=int 5 (by decide) rfl
 obtain⟨c6,h6,w6⟩:=int 6 (by decide) rfl
 obtain⟨c7,h7,w7⟩:=int 7 (by decide) rfl
 obtain⟨c8,h8,w8⟩:=int 8 (by decide) rfl
 obtain⟨c9,h9,w9⟩:=int 9 (by decide) rfl
 obtain⟨c10,kH⟩:=bool 10 (by decide) rfl
 obtain⟨c11,kF⟩:=bool 11 (by decide) rfl
 obtain⟨c12,mA⟩:=bool 12 (by decide) rfl
 obtain⟨c13,lU,w13⟩:=int 13 (by decide) rfl
 obtain⟨c14,nD,w14⟩:=int 14 (by decide) rfl
 obtain⟨c15,nL,w15⟩:=int 15 (by decide) rfl
 obtain⟨c16,nS⟩:=bool 16 (by decide) rfl
 refine⟨⟨c0,c1,c2,c3,c4,c5,c6,c7,c8,c9,c10,c11,c12,c13,c14,c15,c16⟩,?_,⟨w4,w6⟩,w15⟩
 apply List.ext_getElem?
 intro k
 by_cases hk:k<17
 ·have:k=0∨k=1∨k=2∨k=3∨k=4∨k=5∨k=6∨k=7∨k=8∨k=9∨k=10∨k=11∨k=12∨k=13∨k=14∨k=15∨k=16:=by omega
  rcases this with rfl|rfl|rfl|rfl|rfl|rfl|rfl|rfl|rfl|rfl|rfl|rfl|rfl|rfl|rfl|rfl|rfl
  ·exact h0
  ·exact h1
  ·exact h2
  ·exact h3
  ·exact h4
  ·exact h5
  ·exact h6
  ·exact h7
  ·exact h8
  ·exact h9
  ·exact kH
  ·exact kF
  ·exact mA
  ·exact lU
  ·exact nD
  ·exact nL
  ·exact nS
 ·rw [List.getElem?_eq_none (by omega),List.getElem?_eq_none (by simp [cX,bS];omega)]
theorem IC {P:Program}{e:Nat}{d:DataW H}:∀{l:List (DataW H)},d∈l→(DataW.weightsAll P e l).all (·≤reachBytes)=true→(d.weights P e).all (·≤reachBytes)=true
 | [],h,_=>by cases h
 |x::l,h,hw=>by
  unfold DataW.weightsAll at hw
  rw [List.all_append,Bool.and_eq_true]at hw
  rcases List.mem_cons.1 h with rfl|h
  ·exact hw.1
  ·exact IC h hw.2
theorem Ig {P:Program}{t:Nat}{d:DataW H}:∀{ts:List Nat} {l:List (DataW H)} {i:Nat},ts[i]?=some t→l[i]?=some d→(DataW.weightsEach P ts l).all (·≤reachBytes)=true→(d.weights P t).all (·≤reachBytes)=true
 | [],_,_,h,_,_=>by simp at h
 |_::_,[],_,_,h,_=>by simp at h
 |t'::ts,x::l,i,h1,h2,hw=>by
  unfold DataW.weightsEach at hw
  rw [List.all_append,Bool.and_eq_true]at hw
  cases i with
  |zero=>simp at h1 h2;subst h1;subst h2;exact hw.1
  |succ i=>exact Ig (by simpa using h1) (by simpa using h2) hw.2
theorem Ev {α:Type} [Inhabited α] {en:α→List Value} {Q:α→Prop} {t e s fuel:Nat} {cells:List Value} {x:DataW H×List MemPlace} (ht:Tryz.prog.underlying t=some (.slice e)) (hc:Tryz.prog.cellsOf e=s) (h0:0<s)
  (mI:∀cs n x,DataW.trod enc Tryz.prog W base' spare held n e cs=some x→cs.length=s→(x.1.weights Tryz.prog e).all (·≤reachBytes)=true→∃y:α,cs=en y∧Q y)
  (hf:DataW.trod enc Tryz.prog W base' spare held fuel t cells=some x) (kN:(x.1.weights Tryz.prog t).all (·≤reachBytes)=true):
  ∃(ao:Option Addr) (l:List α) (cap:Nat),cells=[.slice ao l.length cap]∧(l.length≤9223372036854775807∧l.length*Tryz.prog.bytesOf e≤reachBytes)∧Sl en s W.heap.size W (.slice ao l.length cap) l∧∀y∈l,Q y:=by
 rcases open_slice ht hf with⟨lT,_⟩|⟨a,len0,cap0,m,n,D,Pl,lT,hb,hl,hm,tJ,sJ,hx⟩
 ·exact⟨none,[],0,lT,by simp,Sl.nil,fun y hy=>by cases hy⟩
 ·have vD:len0≤m:=by rw [tJ];split<;>omega
  have qS:maxLen=9223372036854775807:=rfl
  rw [sJ]at kN
  unfold DataW.weights at kN
  rw [ht]at kN
  simp only [List.all_cons,List.all_append,Bool.and_eq_true,decide_eq_true_eq,List.length_map,List.length_range]at kN
  have pF:len0*Tryz.prog.bytesOf e≤reachBytes:=Nat.le_trans (Nat.mul_le_mul_right _ (Nat.le_add_right _ _)) kN.1
  rw [hc]at hx
  obtain⟨Y,hY⟩:=choose_lt (α:=α) (n:=len0) (p:=fun i y=>Q y∧(en y).length=s∧∀k,k<s→W.cell? ((a.add (i*s)).add k)=(en y)[k]?) (fun i hi=>by
   obtain⟨cs',h1,h2⟩:=hx i (by omega)
   obtain⟨_,hlen,j7⟩:=World.cells?_some h1
   obtain⟨y,rfl,hq⟩:=mI cs' n _ h2 hlen (IC (l:=(List.range len0).map D) (List.mem_map.2 ⟨i,List.mem_range.2 hi,rfl⟩) kN.2.1)
   exact⟨y,hq,hlen,j7⟩)
  have hlen:((List.range len0).map Y).length=len0:=by simp
  refine⟨some a,(List.range len0).map Y,cap0,by rw [hlen];exact lT,by rw [hlen];exact⟨by omega,pF⟩,⟨some a,cap0,by rw [hlen],by rw [hlen];exact hl,fun j x hj=>?_⟩,fun y hy=>?_⟩
  ·have nJ:j<len0:=by have:=(List.getElem?_eq_some_iff.1 hj).1;simpa using this
   have sJ:x=Y j:=by simp [nJ]at hj;exact hj.symm
   subst sJ
   obtain⟨_,oW,j7⟩:=hY j nJ
   obtain⟨b,o,spot⟩:=a
   obtain⟨_,y5,qN⟩:=hY 0 (by omega)
   have oL:=qN 0 h0
   rw [List.getElem?_eq_getElem (by omega)]at oL
   have sK:spot=none:=by simpa [Addr.add]using World.cell?_spot oL
   subst sK
   refine⟨b,o,rfl,?_,fun k u hu=>?_⟩
   ·have:=World.block_lt_of_cell? W _ oL
    rw [Addr.add_mid,Addr.add_mid]at this
    exact this
   ·have hk:k<s:=by have:=(List.getElem?_eq_some_iff.1 hu).1;omega
    have:=j7 k hk
    rw [hu,Addr.add_mid,Addr.add_mid]at this
    exact this
  ·obtain⟨i,hi,rfl⟩:=List.mem_map.1 hy
   exact(hY i (by simpa using hi)).1
def fQ (c:AD):List Value:=[.slice c.ao c.l.length c.cp]
instance:Inhabited AD:=⟨AD.z⟩
instance:Inhabited In:=⟨In.z⟩
structure bT (W:World)(c:AD):Prop where
 sl:Sl cX 17 W.heap.size W (.slice c.ao c.l.length c.cp) c.l
 le:c.l.length≤9223372036854775807
 wl:c.l.length*120≤reachBytes
 ok:∀i∈c.l,Vu i
theorem Sq (cs:List Value)(n:Nat)(x:DataW H×List MemPlace)(h:DataW.trod enc Tryz.prog W base' spare held n 64 cs=some x)(hl:cs.length=1)(kN:(x.1.weights Tryz.prog 64).all (·≤reachBytes)=true):∃c:AD,cs=fQ c∧bT W c:=by
 obtain⟨ao,l,cap,h1,h2,h3,h4⟩:=Ev (t:=64) (e:=63) (s:=17) (by kernel_rfl) (by kernel_rfl) (by omega) (fun cs n x h hl _=>Sp cs n x h hl) h kN
 rw [show Tryz.prog.bytesOf 63=120 by kernel_rfl]at h2
 exact⟨⟨ao,l,cap⟩,h1,h3,h2.1,h2.2,h4⟩
def AI (enc:TypeId×Value→H)(W:World)(base':Nat)(spare:Nat→Bool)(held:Bool)(t s:Nat):Prop:=Tryz.prog.cellsOf t=s∧∀(cs:List Value) (n:Nat) (x:DataW H×List MemPlace),DataW.trod enc Tryz.prog W base' spare held n t cs=some x→∀k,k<s→∃m:Int,cs[k]?=some (.int .i64 m)∧ -9223372036854775808≤m∧m≤9223372036854775807
theorem AI.int:AI enc W base' spare held 3 1:=⟨by kernel_rfl,fun cs n x h k hk=>by
 obtain⟨m,h2,_,h3⟩:=DataW.trod_int Tryz.underlying3 h
 obtain rfl:k=0:=by omega
 exact⟨m,by rw [h2];rfl,Sn h3⟩⟩
theorem Nc {cs:List Value}{o s j:Nat}(hj:j<s):((cs.drop o).take s)[j]?=cs[o+j]?:=by
 rw [List.getElem?_take_of_lt hj,List.getElem?_drop]
theorem AI.arr {t n e s:Nat}(ht:Tryz.prog.underlying t=some (.array n e))(hc:Tryz.prog.cellsOf t=n*s)(h0:0<s)(he:AI enc W base' spare held e s):AI enc W base' spare held t (n*s):=⟨hc,fun cs f x h k hk=>by
 obtain⟨xs,m,_,_,_,pX,hx⟩:=DataW.trod_array ht h
 have hi:k / s<n:=(Nat.div_lt_iff_lt_mul h0).2 hk
 have h1:=hx (k / s) hi
 rw [he.1,List.getElem?_eq_getElem (by omega)]at h1
 obtain⟨z,h2,h3⟩:=he.2 _ _ _ h1 (k % s) (Nat.mod_lt _ h0)
 rw [Nc (Nat.mod_lt _ h0)]at h2
 have e:k / s*s+k % s=k:=by rw [Nat.mul_comm];exact Nat.div_add_mod k s
 rw [e]at h2
 exact⟨z,h2,h3⟩⟩
def KS (P:Program)(t i:Nat):Option (Nat×Nat):=match P.underlying t with|some (.struct fs)=>(fs[i]?).map fun f=>(f.offset,f.type)|_=>none
theorem gW {t i o u fuel:Nat}{cs:List Value}{x:DataW H×List MemPlace}(h:DataW.trod enc Tryz.prog W base' spare held fuel t cs=some x)(h1:KS Tryz.prog t i=some (o,u)):∃n z,DataW.trod enc Tryz.prog W base' spare held n u ((cs.drop o).take (Tryz.prog.cellsOf u))=some z:=by
 unfold KS at h1
 split at h1
 ·next fs hu=>
  obtain⟨xs,m,_,_,_,pX,hx⟩:=DataW.trod_struct hu h
  obtain⟨f,nP,pZ⟩:=Option.map_eq_some_iff.1 h1
  cases pZ
  have h5:=hx i f nP
  have nU:=(Array.getElem?_eq_some_iff.1 nP).1
  rw [List.getElem?_eq_getElem (by omega)]at h5
  exact⟨m,_,h5⟩
 ·cases h1
theorem AI.str {t s:Nat}(hc:Tryz.prog.cellsOf t=s)(hf:∀k,k<s→∃i o u z,KS Tryz.prog t i=some (o,u)∧AI enc W base' spare held u z∧o≤k∧k<o+z):AI enc W base' spare held t s:=⟨hc,fun cs n x h k hk=>by
 obtain⟨i,o,u,z,h1,h2,h3,h4⟩:=hf k hk
 obtain⟨m,z',h5⟩:=gW h h1
 rw [h2.1]at h5
 obtain⟨q,h6,h7⟩:=h2.2 _ _ _ h5 (k - o) (by omega)
 rw [Nc (by omega),show o+(k - o)=k by omega]at h6
 exact⟨q,h6,h7⟩⟩
theorem AI.cond:AI enc W base' spare held 66 5:=by
 refine AI.str (by kernel_rfl) fun k hk=>?_
 have:k=0∨k=1∨k=2∨k=3∨k=4:=by omega
 rcases this with rfl|rfl|rfl|rfl|rfl
 ·exact⟨0,0,3,1,by kernel_rfl,AI.int,by omega,by omega⟩
 ·exact⟨1,1,3,1,by kernel_rfl,AI.int,by omega,by omega⟩
 ·exact⟨2,2,3,1,by kernel_rfl,AI.int,by omega,by omega⟩
 ·exact⟨3,3,3,1,by kernel_rfl,AI.int,by omega,by omega⟩
 ·exact⟨4,4,3,1,by kernel_rfl,AI.int,by omega,by omega⟩
def fR (c:Cn):List Value:=[.int .i64 c.k,.int .i64 c.t,.int .i64 c.r,.int .i64 c.l,.int .i64 c.v]
def gX (c:Cn):Prop:= -9223372036854775808≤c.v∧c.v≤9223372036854775807
instance:Inhabited Cn:=⟨Cn.z⟩
theorem Sr (cs:List Value)(n:Nat)(x:DataW H×List MemPlace)(h:DataW.trod enc Tryz.prog W base' spare held n 66 cs=some x)(hl:cs.length=5):∃y:Cn,cs=fR y∧gX y:=by
 have A:=AI.cond.2 cs n x h
 obtain⟨a,ha,_⟩:=A 0 (by omega)
 obtain⟨b,hb,_⟩:=A 1 (by omega)
 obtain⟨c,hc,_⟩:=A 2 (by omega)
 obtain⟨d,hd,_⟩:=A 3 (by omega)
 obtain⟨e,he,h5⟩:=A 4 (by omega)
 refine⟨⟨a,b,c,d,e⟩,?_,h5⟩
 match cs,hl,ha,hb,hc,hd,he with
 | [u0,u1,u2,u3,u4],_,ha,hb,hc,hd,he=>simp at ha hb hc hd he;subst ha hb hc hd he;rfl
theorem YM {t i o u fuel:Nat}{cs:List Value}{x:DataW H×List MemPlace}(h:DataW.trod enc Tryz.prog W base' spare held fuel t cs=some x)(kN:(x.1.weights Tryz.prog t).all (·≤reachBytes)=true)(h1:KS Tryz.prog t i=some (o,u)):∃n z,DataW.trod enc Tryz.prog W base' spare held n u ((cs.drop o).take (Tryz.prog.cellsOf u))=some z∧(z.1.weights Tryz.prog u).all (·≤reachBytes)=true:=by
 unfold KS at h1
 split at h1
 ·next fs hu=>
  obtain⟨xs,m,_,sJ,_,pX,hx⟩:=DataW.trod_struct hu h
  obtain⟨f,nP,pZ⟩:=Option.map_eq_some_iff.1 h1
  cases pZ
  have h5:=hx i f nP
  have nU:=(Array.getElem?_eq_some_iff.1 nP).1
  rw [List.getElem?_eq_getElem (by omega)]at h5
  refine⟨m,_,h5,?_⟩
  rw [sJ]at kN
  unfold DataW.weights at kN
  rw [hu]at kN
  exact Ig (i:=i) (by rw [List.getElem?_map];simp [nP]) (by rw [List.getElem?_map,List.getElem?_eq_getElem (by omega)];rfl) kN
 ·cases h1
structure Ts where (ar:Int) (nm:List UInt8) (mi r:Nat→Int) (bo:BO) (cs:List AD) (cx:Nat) (qu:Int) (co:BO) (kd:List Cn) (ck:Nat)
def Vw (y:Ts):List Value:=[.int .i64 y.ar,.string (S y.nm),.int .i64 (y.mi 0),.int .i64 (y.mi 1),.int .i64 (y.mi 2),.int .i64 (y.r 0),.int .i64 (y.r 1),.int .i64 (y.r 2),.int .i64 (y.r 3),.int .i64 (y.r 4),.int .i64 (y.r 5),.int .i64 (y.r 6),.int .i64 (y.r 7),.int .i64 (y.r 8),.int .i64 (y.r 9),.int .i64 (y.r 10),.int .i64 (y.r 11),.int .i64 (y.r 12),.int .i64 (y.r 13),.int .i64 (y.r 14),.int .i64 (y.r 15),.int .i64 (y.r 16),.int .i64 (y.r 17),.int .i64 (y.r 18),.int .i64 (y.r 19),.int .i64 (y.r 20),.int .i64 (y.r 21),.int .i64 (y.r 22),.int .i64 (y.r 23),.slice (Hw y.bo) y.cs.length y.cx,.int .i64 y.qu,.slice (Hw y.co) y.kd.length y.ck]
structure MQ (W:World)(y:Ts):Prop where
 codes:Sl fQ 1 W.heap.size W (.slice (Hw y.bo) y.cs.length y.cx) y.cs
 conds:Sl fR 5 W.heap.size W (.slice (Hw y.co) y.kd.length y.ck) y.kd
 code:∀c∈y.cs,bT W c
 cond:∀c∈y.kd,gX c
 le:y.cs.length≤9223372036854775807
 lk:y.kd.length≤9223372036854775807
 ln:y.nm.length≤9223372036854775807
 wc:y.cs.length*24≤reachBytes
 wk:y.kd.length*40≤reachBytes
 wn:y.nm.length≤reachBytes
 ar: -9223372036854775808≤y.ar∧y.ar≤9223372036854775807
 qu: -9223372036854775808≤y.qu∧y.qu≤9223372036854775807
 mi:∀k,k<3→ -9223372036854775808≤y.mi k∧y.mi k≤9223372036854775807
 r:∀k,k<24→ -9223372036854775808≤y.r k∧y.r k≤9223372036854775807
def fS:List Nat:=[3,9,3,3,3,3,3,3,3,3,3,3,3,3,3,3,3,3,3,3,3,3,3,3,3,3,3,3,3,25,3,26]
theorem Ss:Tryz.prog.cellTypes Tryz.prog.depth 28=some fS:=by kernel_rfl
theorem JV {t e n cap:Nat}{ao:Option Addr}(ht:Tryz.prog.underlying t=some (.slice e))(hv:Cell.okWide Tryz.prog W .any base t (.slice ao n cap)):∃bo:BO,ao=Hw bo:=by
 cases ao with
 |none=>exact⟨none,rfl⟩
 |some a=>
  simp only [Cell.okWide,ht,Cell.ok]at hv
  obtain⟨b,o,s⟩:=a
  have:s=none:=hv.2.2.2.1
  subst this
  exact⟨some (b,o),rfl⟩
def isStr (P:Program)(t:Nat):Bool:=match P.underlying t with|some (.struct _)=>true|_=>false
theorem YN {t:Nat}(h:isStr Tryz.prog t=true):∃fs,Tryz.prog.underlying t=some (.struct fs):=by
 unfold isStr at h
 split at h
 ·next fs he=>exact⟨fs,he⟩
 ·cases h
theorem P3 {v:Value}{d:DataW H}{ps:List MemPlace}(hv:Value.okWide Tryz.prog W .any base 28 v)(h:DataW.Trod enc Tryz.prog W base' spare held 28 v d ps)(kN:(d.weights Tryz.prog 28).all (·≤reachBytes)=true):∃y:Ts,v=.agg (Vw y).toArray∧MQ W y:=by
 obtain⟨fs,hu⟩:=YN (t:=28) (by kernel_rfl)
 simp only [Value.okWide,hu]at hv
 obtain⟨ca,rfl,j9,ts,mP,_,jS⟩:=hv
 rw [Ss]at mP
 cases mP
 rw [show Tryz.prog.cellsOf 28=32 by kernel_rfl]at j9
 obtain⟨fuel,hf⟩:=h
 have n6:∀k:Nat,ca[k]?=ca.toList[k]?:=fun k=>by simp
 have hf:DataW.trod enc Tryz.prog W base' spare held fuel 28 ca.toList=some (d,ps):=by simpa [Value.cells]using hf
 have hl:ca.toList.length=32:=by simpa using j9
 have one:∀(i o u s:Nat),KS Tryz.prog 28 i=some (o,u)→AI enc W base' spare held u s→∀k,k<s→∃m:Int,ca.toList[o+k]?=some (.int .i64 m)∧ -9223372036854775808≤m∧m≤9223372036854775807:=fun i o u s h1 h2 k hk=>by
  obtain⟨n,z,h3⟩:=gW hf h1
  rw [h2.1]at h3
  obtain⟨m,h4,h5⟩:=h2.2 _ _ _ h3 k hk
  rw [Nc hk]at h4
  exact⟨m,h4,h5⟩
 obtain⟨ar,h0,x4⟩:=one 0 0 3 1 (by kernel_rfl) AI.int 0 (by decide)
 obtain⟨qu,x6,sS⟩:=one 5 30 3 1 (by kernel_rfl) AI.int 0 (by decide)
 obtain⟨mi,qW⟩:=choose_lt (α:=Int) (n:=3) (one 2 2 22 3 (by kernel_rfl) (AI.arr (n:=3) (s:=1) (e:=3) (by kernel_rfl) (by kernel_rfl) (by decide) AI.int))
 obtain⟨r,hr⟩:=choose_lt (α:=Int) (n:=24) (one 3 5 24 24 (by kernel_rfl) (AI.arr (n:=3) (s:=8) (e:=23) (by kernel_rfl) (by kernel_rfl) (by decide) (AI.arr (n:=8) (s:=1) (e:=3) (by kernel_rfl) (by kernel_rfl) (by decide) AI.int)))
 obtain⟨n1,z1,hn,nA⟩:=YM hf kN (i:=1) (o:=1) (u:=9) (by kernel_rfl)
 obtain⟨nm,sD,tP,qI⟩:=DataW.trod_string (by kernel_rfl) hn
 rw [show Tryz.prog.cellsOf 9=1 by kernel_rfl]at sD
 have h1:=take_one sD
 obtain⟨n2,z2,hc,x7⟩:=YM hf kN (i:=4) (o:=29) (u:=25) (by kernel_rfl)
 obtain⟨ao,cs,cx,p9,hle,nT,jP⟩:=Ev (t:=25) (e:=64) (s:=1) (by kernel_rfl) (by kernel_rfl) (by omega) Sq hc x7
 rw [show Tryz.prog.cellsOf 25=1 by kernel_rfl]at p9
 have vV:=take_one p9
 obtain⟨n3,z3,hk,x8⟩:=YM hf kN (i:=6) (o:=31) (u:=26) (by kernel_rfl)
 obtain⟨ao',kd,ck,mT,uW,x9,yA⟩:=Ev (t:=26) (e:=66) (s:=5) (by kernel_rfl) (by kernel_rfl) (by omega) (fun cs n x h hl _=>Sr cs n x h hl) hk x8
 rw [show Tryz.prog.bytesOf 64=24 by kernel_rfl]at hle
 rw [show Tryz.prog.bytesOf 66=40 by kernel_rfl]at uW
 rw [tP]at nA
 rw [show Tryz.prog.cellsOf 26=1 by kernel_rfl]at mT
 have vW:=take_one mT
 obtain⟨u,yB,yC⟩:=jS 29 _ ((n6 29).trans vV)
 cases yB
 obtain⟨bo,rfl⟩:=JV (e:=64) (by kernel_rfl) yC
 obtain⟨u,yD,yE⟩:=jS 31 _ ((n6 31).trans vW)
 cases yD
 obtain⟨co,rfl⟩:=JV (e:=66) (by kernel_rfl) yE
 refine⟨⟨ar,nm.data.toList,mi,r,bo,cs,cx,qu,co,kd,ck⟩,?_,nT,x9,jP,yA,hle.1,uW.1,?_,hle.2,uW.2,(by unfold DataW.weights at nA;simpa using nA),x4,sS,fun k hk=>(qW k hk).2,fun k hk=>(hr k hk).2⟩
 ·have e:ca.toList=Vw ⟨ar,nm.data.toList,mi,r,bo,cs,cx,qu,co,kd,ck⟩:=by
   apply List.ext_getElem?
   intro k
   by_cases hk:k<32
   ·have:k=0∨k=1∨k=2∨k=3∨k=4∨k=5∨k=6∨k=7∨k=8∨k=9∨k=10∨k=11∨k=12∨k=13∨k=14∨k=15∨k=16∨k=17∨k=18∨k=19∨k=20∨k=21∨k=22∨k=23∨k=24∨k=25∨k=26∨k=27∨k=28∨k=29∨k=30∨k=31:=by omega
    rcases this with rfl|rfl|rfl|rfl|rfl|rfl|rfl|rfl|rfl|rfl|rfl|rfl|rfl|rfl|rfl|rfl|rfl|rfl|rfl|rfl|rfl|rfl|rfl|rfl|rfl|rfl|rfl|rfl|rfl|rfl|rfl|rfl
    ·exact h0
    ·exact h1
    ·exact(qW 0 (by decide)).1
    ·exact(qW 1 (by decide)).1
    ·exact(qW 2 (by decide)).1
    ·exact(hr 0 (by decide)).1
    ·exact(hr 1 (by decide)).1
    ·exact(hr 2 (by decide)).1
    ·exact(hr 3 (by decide)).1
    ·exact(hr 4 (by decide)).1
    ·exact(hr 5 (by decide)).1
    ·exact(hr 6 (by decide)).1
    ·exact(hr 7 (by decide)).1
    ·exact(hr 8 (by decide)).1
    ·exact(hr 9 (by decide)).1
    ·exact(hr 10 (by decide)).1
    ·exact(hr 11 (by decide)).1
    ·exact(hr 12 (by decide)).1
    ·exact(hr 13 (by decide)).1
    ·exact(hr 14 (by decide)).1
    ·exact(hr 15 (by decide)).1
    ·exact(hr 16 (by decide)).1
    ·exact(hr 17 (by decide)).1
    ·exact(hr 18 (by decide)).1
    ·exact(hr 19 (by decide)).1
    ·exact(hr 20 (by decide)).1
    ·exact(hr 21 (by decide)).1
    ·exact(hr 22 (by decide)).1
    ·exact(hr 23 (by decide)).1
    ·exact vV
    ·exact x6
    ·exact vW
   ·rw [List.getElem?_eq_none (by omega),List.getElem?_eq_none (by simp [Vw];omega)]
  rw [←e]
 ·have qS:maxLen=9223372036854775807:=rfl
  show nm.data.toList.length≤_
  have e2:nm.data.toList.length=nm.size:=Array.length_toList
  rw [e2]
  exact qI
end
end Go.Proofs.YtbbdanhpphlbpaaGreatDoor
namespace Go.Proofs.YtbbdanhpphlbpaaGreatDoor
open Go.ChangeShapes Go.WideShapes Go.ChangeAt Go.RowKit
def bU (y:Ts):SV:=.agg (EI y.ar y.nm y.mi y.r (.sl 0 y.cs.length y.cx) y.qu (.sl 1 y.kd.length y.ck))
def Nd (y:Ts):Hp:=[some (.lst 1 y.cs.length (fun zz=>He (y.cs.getD zz AD.z))),some (.lst 5 y.kd.length (fun zz=>cc (y.kd.getD zz Cn.z)))]
def MR (y:Ts):Gr:=[DZ y.bo,DZ y.co]
section
variable {W:World}{y:Ts}
theorem Vx (h:MQ W y):den (MR y) (.sl 0 y.cs.length y.cx)=some (.slice (Hw y.bo) y.cs.length y.cx)∧Ae (MR y) W (DZ y.bo) (.lst 1 y.cs.length (fun zz=>He (y.cs.getD zz AD.z))):=
 (NO (bo:=y.bo) (enc:=fQ) (f:=fun zz=>He (y.cs.getD zz AD.z)) h.codes (Nat.le_refl _) (fun k x hx=>by show AE [] (He (y.cs.getD k AD.z))=_;rw [List.getD_eq_getElem?_getD,hx];rfl) (fun k=>⟨_,rfl⟩)).2 [] [DZ y.co]
theorem Vy (h:MQ W y):den (MR y) (.sl 1 y.kd.length y.ck)=some (.slice (Hw y.co) y.kd.length y.ck)∧Ae (MR y) W (DZ y.co) (.lst 5 y.kd.length (fun zz=>cc (y.kd.getD zz Cn.z))):=
 (NO (bo:=y.co) (enc:=fR) (f:=fun zz=>cc (y.kd.getD zz Cn.z)) h.conds (Nat.le_refl _) (fun k x hx=>by show AE [] (cc (y.kd.getD k Cn.z))=_;rw [List.getD_eq_getElem?_getD,hx];rfl) (fun k=>⟨_,rfl⟩)).2 [DZ y.bo] []
theorem Su:∀(i:Nat) (e:A6),(Nd y)[i]?=some (some e)→e.mut=false:=fun i e he=>by
 match i,he with
 |0,he=>cases he;rfl
 |1,he=>cases he;rfl
 |n+2,he=>simp [Nd]at he
theorem YO (h:MQ W y):Mem (Nd y) (MR y) W:=⟨rfl,fun i e he=>by
  match i,he with
  |0,he=>cases he;exact(Vx h).2
  |1,he=>cases he;exact(Vy h).2
  |n+2,he=>simp [Nd]at he,fun i j e f L M _ hi _ hm _ _ _=>by rw [Su i e hi]at hm;cases hm⟩
theorem YP (h:MQ W y):AE (MR y) [bU y]=some [.agg (Vw y).toArray]:=by
 have e1:=(Vx h).1
 have e2:=(Vy h).1
 generalize MR y=G at e1 e2
 unfold bU Vw
 simp only [AE,den,Option.map_some]at e1 e2⊢
 rw [e1,e2]
 rfl
theorem Sv (h:MQ W y){ks:List Nat}(hk:∀b,ks.contains b=false):AH y.cs W ks:=fun c hc=>by
 obtain⟨ao,cap,hv,mV,he⟩:=(h.code c hc).sl
 injection hv with q1 q2 q3
 refine⟨fun k=>⟨_,rfl⟩,?_⟩
 by_cases h0:c.l.length=0
 ·exact .inl h0
 ·obtain⟨b,o,e,hb,_⟩:=he 0 c.l[0] (List.getElem?_eq_getElem (by omega))
  refine .inr ⟨b,o,q1.trans e,hb,hk b,fun k rK=>?_⟩
  obtain⟨b',o',e',_,hr⟩:=he k c.l[k] (List.getElem?_eq_getElem rK)
  rw [e]at e'
  cases e'
  exact⟨cX c.l[k],(by show AE [] (CD (c.l.getD k In.z))=_;rw [List.getD_eq_getElem?_getD,List.getElem?_eq_getElem rK];rfl),hr⟩
theorem Ur (h:Lib.TabIs Tryz.prog W "internal/strconv.uint64pow10" .u64 Lib.pow10Tab):∃(g:Nat) (o:Obj),W.heap[g]?=some o∧∀w:World,w.heap[g]?=some o→Lib.TabIs Tryz.prog w "internal/strconv.uint64pow10" .u64 Lib.pow10Tab:=by
 unfold Lib.TabIs World.var? at h
 cases hg:Tryz.prog.globalNamed "internal/strconv.uint64pow10" with
 |none=>rw [hg]at h;simp at h
 | some g=>
  rw [hg]at h
  cases ho:W.heap[g]? with
  |none=>simp [ho]at h
  |some o=>
   refine⟨g,o,ho,fun w hw=>?_⟩
   unfold Lib.TabIs World.var?
   rw [hg]
   simp only [Option.bind_some,ho,hw]at h⊢
   exact h
theorem HI {b k:Nat}{v:Value}(h:W.cell? ⟨b,k,none⟩=some v):∃o,W.heap[b]?=some o∧∀w:World,w.heap[b]?=some o→w.cell? ⟨b,k,none⟩=some v:=by
 cases ho:W.heap[b]? with
 |none=>unfold World.cell? at h;simp [ho]at h
 |some o=>
  refine⟨o,rfl,fun w hw=>?_⟩
  unfold World.cell? at h⊢
  simp only [ho,hw]at h⊢
  exact h
end
end Go.Proofs.YtbbdanhpphlbpaaGreatDoor
namespace Go.Proofs.YtbbdanhpphlbpaaGreatDoor.Mc
open Go.RowKit
def iO (ar:Int):In→Int:=fun i=>if ar=1 then(Ch Dk NQ i (D0 i.to_)).2 else if ar=2 then(Ch Bq GN i (D0 i.to_)).2 else(Ch Ar.Dz Ar.NT i (D0 i.to_)).2
def Sw (ar:Int)(nm:List UInt8)(cs:List AD)(qu:Int)(kd:List Cn)(r:Nat→Int):Int:=if 1≤ar∧ar≤3 then DD (iO ar) nm cs qu kd r else 36
theorem P4 (ar:Int)(nm:List UInt8)(mi r:Nat→Int)(cs:List AD)(cx:Nat)(qu:Int)(kd:List Cn)(ck:Nat)(os:List (Nat×Obj))(hM:lP os)(hT:mR os)(hE:lW os)(hs:∀c∈cs,c.l.length≤9223372036854775807)(hR:∀c∈cs,∀i∈c.l,Vu i)(hn:cs.length≤9223372036854775807):Bi (GC os cs) Tryz.prog 9 [.agg (BJ ar nm mi r cs cx qu kd ck)] [some (Am cs),some (A9 kd)] (Rt (.int .i64 (Sw ar nm cs qu kd r)) [some (Am cs),some (A9 kd)]):=by
 by_cases h:1≤ar∧ar≤3
 ·have hc:ar=1∨ar=2∨ar=3:=by omega
  unfold Sw
  rw [if_pos h]
  rcases hc with rfl|rfl|rfl
  ·exact Py nm mi r cs cx qu kd ck os hM hT hE hs hR hn
  ·exact Pz nm mi r cs cx qu kd ck os hM hT hE hs hR hn
  ·exact P0 nm mi r cs cx qu kd ck os hM hT hE hs hR hn
 ·unfold Sw
  rw [if_neg h]
  exact(P1 ar nm mi r cs cx qu kd ck h).toI
theorem fT {ar:Int}{nm:List UInt8}{cs:List AD}{qu:Int}{kd:List Cn}{r:Nat→Int}(h:Sw ar nm cs qu kd r=0):Km cs=0∧kd.length≤32:=by
 unfold Sw at h
 split at h
 ·unfold DD at h
  split at h
  ·omega
  split at h
  ·omega
  split at h
  ·next hh=>exact absurd h hh
  ·next hh=>
   refine⟨Decidable.not_not.1 hh,?_⟩
   split at h
   ·omega
   split at h
   ·omega
   split at h
   ·omega
   ·next hr=>
    have hr:MP kd=true:=by simpa using hr
    unfold MP at hr
    split at hr
    ·cases hr
    ·omega
 ·omega
section
variable {W:World}{y:Ts}
theorem bV {G:Gr}{p:Option Loc}{s n:Nat}{f:Nat→List SV}(h:Ae [] W p (.lst s n f)):Ae G W p (.lst s n f):=h
end
end Go.Proofs.YtbbdanhpphlbpaaGreatDoor.Mc
namespace Go.Proofs.YtbbdanhpphlbpaaGreatDoor.Mc
open Go.RowKit
set_option simprocs false
theorem bW {cs cs':List AD}(hl:cs'.length=cs.length)(he:∀k,k<cs.length→(cs'.getD k AD.z).l=(cs.getD k AD.z).l):∀k,(cs'.getD k AD.z).l=(cs.getD k AD.z).l:=fun k=>by
 by_cases hk:k<cs.length
 ·exact he k hk
 ·rw [List.getD_eq_getElem?_getD,List.getD_eq_getElem?_getD,List.getElem?_eq_none (by omega),List.getElem?_eq_none (by omega)]
theorem bX {cs cs':List AD}(hl:cs'.length=cs.length)(he:∀k,k<cs.length→(cs'.getD k AD.z).l=(cs.getD k AD.z).l):cs'.map (·.l)=cs.map (·.l):=by
 refine List.ext_getElem (by simp [hl]) fun k h1 h2=>?_
 rw [List.length_map]at h1 h2
 have:=he k h2
 rw [List.getD_eq_getElem?_getD,List.getD_eq_getElem?_getD,List.getElem?_eq_getElem h1,List.getElem?_eq_getElem h2]at this
 simpa using this
theorem Sx {c d:AD}(h:c.l=d.l):E5 c=E5 d:=by unfold E5;rw [h]
theorem Vz {cs cs':List AD}(h:cs'.map (·.l)=cs.map (·.l))(p:In→Bool):Gn p cs'=Gn p cs:=by
 unfold Gn
 have e:∀x:List AD,(x.map fun c=>ET p c.l)=(x.map (·.l)).map (ET p):=fun x=>by rw [List.map_map];rfl
 rw [e,e,h]
theorem Oq {cs cs':List AD}(hl:cs'.length=cs.length)(he:∀k,k<cs.length→(cs'.getD k AD.z).l=(cs.getD k AD.z).l)(h:Km cs=0):Km cs'=0:=by
 have hA:=bW hl he
 have hm:=bX hl he
 have e1:Gk cs'=Gk cs:=by unfold Gk;rw [hl];congr 1;funext k;rw [hA k]
 have e2:Hf cs'=Hf cs:=by unfold Hf;rw [hl];congr 1;funext k;rw [Sx (hA k)]
 have e3:Gq cs'=Gq cs:=by unfold Gq;rw [Vz hm,Vz hm]
 unfold Km at h⊢
 rw [hl,e1,e2,e3]
 revert h
 split
 ·exact id
 ·split
  ·exact id
  ·split
   ·next k _=>rw [Sx (hA k),hA k];exact id
   ·exact id
structure VP (cs cs2:List AD)(z:List Tr)(ra:Option Addr)(nn mx N:Nat)(v:Nat×List Th×List Tr×Rg)(w:World)(ks:List Nat):Prop where
 le:v.1≤mx
 ok:Ai cs2 v.2.1 nn
 rd:RD cs v.2.1 v.2.2.1 z ra nn N w ks
 mr:∀k,k<3→inr (v.2.2.2 k)
theorem IH.le {cs:List AD}{N N':Nat}{w:World}{ks:List Nat}(h:IH cs N w ks)(hn:N'≤N):IH cs N' w ks:=fun ks' hk=>h ks' fun b hb=>(hk b hb).elim (fun q=>.inl (by omega)) .inr
theorem fU {q n:Int}(h:0≤q∧q<n):(decide (q≥0)&&decide (q<n))=true:=by rw [decide_eq_true h.1,decide_eq_true h.2];rfl
theorem fV {q n:Int}(h:¬(0≤q∧q<n)):(decide (q≥0)&&decide (q<n))=false:=by
 by_cases h1:q≥0
 ·rw [decide_eq_false (show¬q<n by omega),Bool.and_false]
 ·rw [decide_eq_false h1,Bool.false_and]
theorem bY {a b:Int}(h:(!(a==0)||decide (b>60))=false):a=0∧b≤60:=by
 simp at h;omega
theorem bZ {cs cs2:List AD}{ts:List Th}{th:Int}{m:Rg}(he:(cs2.getD th.toNat AD.z).l=(cs.getD th.toNat AD.z).l):CC cs ts th (JZ m (ts.getD th.toNat Th.z).r ((cs.getD th.toNat AD.z).l.getD ((((ts.getD th.toNat Th.z).at_:Nat):Int)).toNat In.z))=CC cs2 ts th (JZ m (ts.getD th.toNat Th.z).r ((cs2.getD th.toNat AD.z).l.getD ((((ts.getD th.toNat Th.z).at_:Nat):Int)).toNat In.z)):=by
 unfold CC;rw [he]
theorem RD.as {cs:List AD}{ts ts':List Th}{tr z:List Tr}{ra:Option Addr}{nn N:Nat}{w:World}{ks:List Nat}(h:RD cs ts tr z ra nn N w ks)(e:ts=ts'):RD cs ts' tr z ra nn N w ks:=e▸h
theorem RD.take {cs:List AD}{ts:List Th}{tr z:List Tr}{ra:Option Addr}{nn N:Nat}{w:World}{H:Hp}{G:Gr}(k:Nat)(h:RD cs ts tr z ra nn N w (keys H G)):RD cs ts tr z ra nn N w (keys (H.take k) (G.take k)):=RD.ok _ _ _ _ h (CR.refl _ _) (fun b hb=>.inl (by
 obtain⟨i,e,L,h1,h2,h3,h4⟩:=mem_keys.1 hb
 rw [List.getElem?_take]at h1 h3
 split at h1
 ·next hi=>rw [if_pos hi]at h3;exact mem_keys.2 ⟨i,e,L,h1,h2,h3,h4⟩
 ·cases h1))
theorem b0 {cs:List AD}{ts:List Th}{nn:Nat}(hC:Ai cs ts nn){q:Int}(hq:0≤q∧q<(((Bs cs ts nn).length:Nat):Int)):∃t:Nat,t<nn∧(Bs cs ts nn).getD q.toNat (0,0,0)=(2,(t:Int),((ts.getD t Th.z).at_:Int))∧(ts.getD t Th.z).at_<(cs.getD t AD.z).l.length:=by
 obtain⟨t,h1,h2,h3⟩:=RI (cs:=cs) (ts:=ts) (n:=nn) (k:=q.toNat) (by omega)
 have:=hC.a t (by have:=hC.m;omega)
 exact⟨t,h1,h2,by omega⟩
abbrev MV (cs2:List AD)(v:Nat×List Th×List Tr×Rg)(tq:Nat):Rg:=Ex v.2.2.2 (A5 v.2.1 (tq:Int)).r (AT cs2 v.2.1 (tq:Int))
abbrev V0 (cs2:List AD)(v:Nat×List Th×List Tr×Rg)(tq:Nat):List Th:=CC cs2 v.2.1 (tq:Int) (JZ v.2.2.2 (A5 v.2.1 (tq:Int)).r (AT cs2 v.2.1 (tq:Int)))
abbrev MW (cs:List AD):A6:=.blk [.sl 4 cs.length 0]
abbrev iQ (ar:Int)(nm:List UInt8)(mi r:Nat→Int)(cs:List AD)(cx:Nat)(qu:Int)(kd:List Cn)(ck:Nat)(R:List Int):Hp:=[some (Am cs),some (A9 kd),some (.lst 1 R.length (fun j=>[.int .i64 (R.getD j 0)])),some (.blk (BJ ar nm mi r cs cx qu kd ck))]
theorem YQ (ar:Int) (nm:List UInt8) (mi r:Nat→Int) (cs:List AD) (cx:Nat) (qu:Int) (kd:List Cn) (ck:Nat) (R:List Int) (cr:Nat) (os:List (Nat×Obj)) (hM:lP os) (hT:mR os) (hE:lW os) (lF:∀c∈cs,c.l.length≤9223372036854775807) (hR:∀c∈cs,∀i∈c.l,Vu i) (hn:cs.length≤9223372036854775807) (hD:∀w ks,Gl os w ks→Hj w ks) (qW:∀k,k<3→inr (mi k)):Bi (GC os cs) Tryz.prog 3 [.agg (BJ ar nm mi r cs cx qu kd ck),.sl 2 R.length cr] [some (Am cs),some (A9 kd),some (.lst 1 R.length (fun j=>[.int .i64 (R.getD j 0)]))] (Rt (.tt) [some (Am cs),some (A9 kd),some (.lst 1 R.length (fun j=>[.int .i64 (R.getD j 0)]))]):=
 Ab (n:=82) (by kernel_rfl) Tryz.func3 rfl rfl rfl fun G w a h0 hI A=>N9 9 A rfl rfl fun A=>I9 [] AK.ok (hD _ _ hI.1) aE A rfl fun A=>N9 10 A rfl rfl fun A=>I9 [0,1] GC.ok hI (P4 ar nm mi r cs cx qu kd ck os hM hT hE lF hR hn) A rfl fun A=>N9 8 A rfl rfl fun A=>fork 20 A rfl
  (fun h1 A=>N9 7 A rfl rfl fun A=>R9 A rfl h0 rfl rfl rfl)
  (fun h1 A=>N9 4 A rfl rfl fun A=>have kE:=bY h1;have kM:=fT kE.1;have A:=A.cut [1,2] rfl;I8 7 BK rfl A fun{w2} A=>Gs (fun(tail:∀(cs2:List AD) {G1:Gr} {a1:Act} {w1:World},Ai cs2 (Ac cs (fun k j=>r (8*k+j))) cs.length→(∀k,k<cs.length→(cs2.getD k AD.z).l=(cs.getD k AD.z).l)→IH cs2 w.heap.size w1 (keys [some (Am cs),some (A9 kd),some (.lst 1 R.length (fun j=>[.int .i64 (R.getD j 0)])),some (.blk (BJ ar nm mi r cs cx qu kd ck)),some (AZ cs2 (Ac cs (fun k j=>r (8*k+j))) cs.length),some (MW cs),some (.blk (BB 5 mi))] G1)→Sy 82 [(1,.sl 2 R.length cr),(2,.ptr 3 0),(23,.ptr 6 0),(24,.agg (BJ ar nm mi r cs cx qu kd ck))] [some (Am cs),some (A9 kd),some (.lst 1 R.length (fun j=>[.int .i64 (R.getD j 0)])),some (.blk (BJ ar nm mi r cs cx qu kd ck)),some (AZ cs2 (Ac cs (fun k j=>r (8*k+j))) cs.length),some (MW cs),some (.blk (BB 5 mi))] (keys [some (Am cs),some (A9 kd),some (.lst 1 R.length (fun j=>[.int .i64 (R.getD j 0)]))] G) G w G1 a1 w1→wpAny Tryz.prog .any _ _ _ _ a1 w1)=>AM (rs:=[0,3]) (by kernel_rfl) (by decide) (Bg ⟨CM (.agg (BJ ar nm mi r cs cx qu kd ck)) rfl A rfl rfl fun A=>AM (rs:=[1,3]) (by kernel_rfl) (by decide) (Bg ⟨JO [0,1] rfl (R7 cs cx kd ck ar nm mi r qu kM.1 (Nat.le_trans kM.2 (by decide))) A (Eu (GC.ok.now A hI).2) rfl rfl rfl rfl rfl rfl fun ao1 ao2 cp1 cp2 Ez {_ _} kU kG oV A=>have B:=A;have A:=B.base;AM (rs:=[2,3]) (by kernel_rfl) (by decide) (Bg ⟨HD (H':=fun cs2=>[some (Am cs),some (A9 kd),some (.lst 1 R.length (fun j=>[.int .i64 (R.getD j 0)])),some (.blk (BJ ar nm mi r cs cx qu kd ck)),some (AZ cs2 (Ac Ez (fun k j=>r (8*k+j))) Ez.length),some (.blk [.sl 4 Ez.length 0]),some (.blk (BB 5 mi))]) rfl (RY Ez ao1 cp1 (fun k j=>r (8*k+j)) mi ar qu nm ao2 kd.length cp2 (Oq kU kG kM.1) (by have:=(EE kM.1).1;omega)) A ⟨AK.ok _ _ _ _ oV.1 A.mix (fun b hb=>by cases hb),AH.ok _ _ _ _ oV.2 A.mix (fun b hb=>by cases hb)⟩ rfl rfl rfl (fun _=>rfl) fun cs2 {G2 _ _} jJ qO jP A=>have eH:([some (Am cs),some (A9 kd),some (.lst 1 R.length (fun j=>[.int .i64 (R.getD j 0)])),some (.blk (BJ ar nm mi r cs cx qu kd ck)),some (AZ cs2 (Ac cs (fun k j=>r (8*k+j))) cs.length),some (MW cs),some (.blk (BB 5 mi))]:Hp)=[some (Am cs),some (A9 kd),some (.lst 1 R.length (fun j=>[.int .i64 (R.getD j 0)])),some (.blk (BJ ar nm mi r cs cx qu kd ck)),some (AZ cs2 (Ac Ez (fun k j=>r (8*k+j))) Ez.length),some (.blk [.sl 4 Ez.length 0]),some (.blk (BB 5 mi))]:=by rw [←FR kU kG,kU]
  have jP:=IH.ok _ _ _ (keys [some (Am cs),some (A9 kd),some (.lst 1 R.length (fun j=>[.int .i64 (R.getD j 0)])),some (.blk (BJ ar nm mi r cs cx qu kd ck)),some (AZ cs2 (Ac cs (fun k j=>r (8*k+j))) cs.length),some (MW cs),some (.blk (BB 5 mi))] G2) jP (CR.refl _ _) (fun b hb=>.inl (by rw [←eH];exact hb));have A:=A.sayH eH.symm;have jJ:Ai cs2 (Ac cs (fun k j=>r (8*k+j))) cs.length:=(by rw [FR kU kG,←kU];exact jJ);have heq:∀k,k<cs.length→(cs2.getD k AD.z).l=(cs.getD k AD.z).l:=fun k hk=>(qO k (by omega)).trans (kG k hk);have C:=A;have A:=C.base;AM (rs:=[3]) (by kernel_rfl) (by decide) (Bg ⟨CM (.agg (BJ ar nm mi r cs cx qu kd ck)) rfl A rfl rfl fun A=>tail cs2 jJ heq ((IH.ok.now A jP).le B.mix.size) ((B.trans (C.trans A)).cut [1,2,23,24] rfl),
      (CF)⟩),
     (Bg ⟨CM (.agg (BJ ar nm mi r cs cx qu kd ck)) rfl A rfl rfl fun A=>AM (rs:=[2]) (by kernel_rfl) (by decide) (Bg ⟨HD (H':=fun cs2=>[some (Am cs),some (A9 kd),some (.lst 1 R.length (fun j=>[.int .i64 (R.getD j 0)])),some (.blk (BJ ar nm mi r cs cx qu kd ck)),some (AZ cs2 (Ac Ez (fun k j=>r (8*k+j))) Ez.length),some (.blk [.sl 4 Ez.length 0]),some (.blk (BB 5 mi))]) rfl (RY Ez ao1 cp1 (fun k j=>r (8*k+j)) mi ar qu nm ao2 kd.length cp2 (Oq kU kG kM.1) (by have:=(EE kM.1).1;omega)) A ⟨AK.ok _ _ _ _ oV.1 A.mix (fun b hb=>by cases hb),AH.ok _ _ _ _ oV.2 A.mix (fun b hb=>by cases hb)⟩ rfl rfl rfl (fun _=>rfl) fun cs2 {G2 _ _} jJ qO jP A=>have eH:([some (Am cs),some (A9 kd),some (.lst 1 R.length (fun j=>[.int .i64 (R.getD j 0)])),some (.blk (BJ ar nm mi r cs cx qu kd ck)),some (AZ cs2 (Ac cs (fun k j=>r (8*k+j))) cs.length),some (MW cs),some (.blk (BB 5 mi))]:Hp)=[some (Am cs),some (A9 kd),some (.lst 1 R.length (fun j=>[.int .i64 (R.getD j 0)])),some (.blk (BJ ar nm mi r cs cx qu kd ck)),some (AZ cs2 (Ac Ez (fun k j=>r (8*k+j))) Ez.length),some (.blk [.sl 4 Ez.length 0]),some (.blk (BB 5 mi))]:=by rw [←FR kU kG,kU]
  have jP:=IH.ok _ _ _ (keys [some (Am cs),some (A9 kd),some (.lst 1 R.length (fun j=>[.int .i64 (R.getD j 0)])),some (.blk (BJ ar nm mi r cs cx qu kd ck)),some (AZ cs2 (Ac cs (fun k j=>r (8*k+j))) cs.length),some (MW cs),some (.blk (BB 5 mi))] G2) jP (CR.refl _ _) (fun b hb=>.inl (by rw [←eH];exact hb));have A:=A.sayH eH.symm;have jJ:Ai cs2 (Ac cs (fun k j=>r (8*k+j))) cs.length:=(by rw [FR kU kG,←kU];exact jJ);have heq:∀k,k<cs.length→(cs2.getD k AD.z).l=(cs.getD k AD.z).l:=fun k hk=>(qO k (by omega)).trans (kG k hk);have C:=A;have A:=C.base;tail cs2 jJ heq ((IH.ok.now A jP).le B.mix.size) ((B.trans (C.trans A)).cut [1,2,23,24] rfl),
      (CF)⟩),
     (CF)⟩)⟩),
    (Bg ⟨CM (.agg (BJ ar nm mi r cs cx qu kd ck)) rfl A rfl rfl fun A=>AM (rs:=[1]) (by kernel_rfl) (by decide) (Bg ⟨JO [0,1] rfl (R7 cs cx kd ck ar nm mi r qu kM.1 (Nat.le_trans kM.2 (by decide))) A (Eu (GC.ok.now A hI).2) rfl rfl rfl rfl rfl rfl fun ao1 ao2 cp1 cp2 Ez {_ _} kU kG oV A=>have B:=A;have A:=B.base;AM (rs:=[2]) (by kernel_rfl) (by decide) (Bg ⟨HD (H':=fun cs2=>[some (Am cs),some (A9 kd),some (.lst 1 R.length (fun j=>[.int .i64 (R.getD j 0)])),some (.blk (BJ ar nm mi r cs cx qu kd ck)),some (AZ cs2 (Ac Ez (fun k j=>r (8*k+j))) Ez.length),some (.blk [.sl 4 Ez.length 0]),some (.blk (BB 5 mi))]) rfl (RY Ez ao1 cp1 (fun k j=>r (8*k+j)) mi ar qu nm ao2 kd.length cp2 (Oq kU kG kM.1) (by have:=(EE kM.1).1;omega)) A ⟨AK.ok _ _ _ _ oV.1 A.mix (fun b hb=>by cases hb),AH.ok _ _ _ _ oV.2 A.mix (fun b hb=>by cases hb)⟩ rfl rfl rfl (fun _=>rfl) fun cs2 {G2 _ _} jJ qO jP A=>have eH:([some (Am cs),some (A9 kd),some (.lst 1 R.length (fun j=>[.int .i64 (R.getD j 0)])),some (.blk (BJ ar nm mi r cs cx qu kd ck)),some (AZ cs2 (Ac cs (fun k j=>r (8*k+j))) cs.length),some (MW cs),some (.blk (BB 5 mi))]:Hp)=[some (Am cs),some (A9 kd),some (.lst 1 R.length (fun j=>[.int .i64 (R.getD j 0)])),some (.blk (BJ ar nm mi r cs cx qu kd ck)),some (AZ cs2 (Ac Ez (fun k j=>r (8*k+j))) Ez.length),some (.blk [.sl 4 Ez.length 0]),some (.blk (BB 5 mi))]:=by rw [←FR kU kG,kU]
  have jP:=IH.ok _ _ _ (keys [some (Am cs),some (A9 kd),some (.lst 1 R.length (fun j=>[.int .i64 (R.getD j 0)])),some (.blk (BJ ar nm mi r cs cx qu kd ck)),some (AZ cs2 (Ac cs (fun k j=>r (8*k+j))) cs.length),some (MW cs),some (.blk (BB 5 mi))] G2) jP (CR.refl _ _) (fun b hb=>.inl (by rw [←eH];exact hb));have A:=A.sayH eH.symm;have jJ:Ai cs2 (Ac cs (fun k j=>r (8*k+j))) cs.length:=(by rw [FR kU kG,←kU];exact jJ);have heq:∀k,k<cs.length→(cs2.getD k AD.z).l=(cs.getD k AD.z).l:=fun k hk=>(qO k (by omega)).trans (kG k hk);have C:=A;have A:=C.base;tail cs2 jJ heq ((IH.ok.now A jP).le B.mix.size) ((B.trans (C.trans A)).cut [1,2,23,24] rfl),
      (CF)⟩),
     (CF)⟩),
    (CF)⟩)⟩),
   (Bg ⟨CM (.agg (BJ ar nm mi r cs cx qu kd ck)) rfl A rfl rfl fun A=>AM (rs:=[0]) (by kernel_rfl) (by decide) (Bg ⟨CM (.agg (BJ ar nm mi r cs cx qu kd ck)) rfl A rfl rfl fun A=>AM (rs:=[1]) (by kernel_rfl) (by decide) (Bg ⟨JO [0,1] rfl (R7 cs cx kd ck ar nm mi r qu kM.1 (Nat.le_trans kM.2 (by decide))) A (Eu (GC.ok.now A hI).2) rfl rfl rfl rfl rfl rfl fun ao1 ao2 cp1 cp2 Ez {_ _} kU kG oV A=>have B:=A;have A:=B.base;AM (rs:=[2]) (by kernel_rfl) (by decide) (Bg ⟨HD (H':=fun cs2=>[some (Am cs),some (A9 kd),some (.lst 1 R.length (fun j=>[.int .i64 (R.getD j 0)])),some (.blk (BJ ar nm mi r cs cx qu kd ck)),some (AZ cs2 (Ac Ez (fun k j=>r (8*k+j))) Ez.length),some (.blk [.sl 4 Ez.length 0]),some (.blk (BB 5 mi))]) rfl (RY Ez ao1 cp1 (fun k j=>r (8*k+j)) mi ar qu nm ao2 kd.length cp2 (Oq kU kG kM.1) (by have:=(EE kM.1).1;omega)) A ⟨AK.ok _ _ _ _ oV.1 A.mix (fun b hb=>by cases hb),AH.ok _ _ _ _ oV.2 A.mix (fun b hb=>by cases hb)⟩ rfl rfl rfl (fun _=>rfl) fun cs2 {G2 _ _} jJ qO jP A=>have eH:([some (Am cs),some (A9 kd),some (.lst 1 R.length (fun j=>[.int .i64 (R.getD j 0)])),some (.blk (BJ ar nm mi r cs cx qu kd ck)),some (AZ cs2 (Ac cs (fun k j=>r (8*k+j))) cs.length),some (MW cs),some (.blk (BB 5 mi))]:Hp)=[some (Am cs),some (A9 kd),some (.lst 1 R.length (fun j=>[.int .i64 (R.getD j 0)])),some (.blk (BJ ar nm mi r cs cx qu kd ck)),some (AZ cs2 (Ac Ez (fun k j=>r (8*k+j))) Ez.length),some (.blk [.sl 4 Ez.length 0]),some (.blk (BB 5 mi))]:=by rw [←FR kU kG,kU]
  have jP:=IH.ok _ _ _ (keys [some (Am cs),some (A9 kd),some (.lst 1 R.length (fun j=>[.int .i64 (R.getD j 0)])),some (.blk (BJ ar nm mi r cs cx qu kd ck)),some (AZ cs2 (Ac cs (fun k j=>r (8*k+j))) cs.length),some (MW cs),some (.blk (BB 5 mi))] G2) jP (CR.refl _ _) (fun b hb=>.inl (by rw [←eH];exact hb));have A:=A.sayH eH.symm;have jJ:Ai cs2 (Ac cs (fun k j=>r (8*k+j))) cs.length:=(by rw [FR kU kG,←kU];exact jJ);have heq:∀k,k<cs.length→(cs2.getD k AD.z).l=(cs.getD k AD.z).l:=fun k hk=>(qO k (by omega)).trans (kG k hk);have C:=A;have A:=C.base;tail cs2 jJ heq ((IH.ok.now A jP).le B.mix.size) ((B.trans (C.trans A)).cut [1,2,23,24] rfl),
      (CF)⟩),
     (CF)⟩),
    (CF)⟩),
   (CF)⟩)⟩)) (fun cs2 {Gc ac wc} jJ heq jP A=>have BL:=A;have A:=BL.base;have oL:=h0;have h0:=BL.mem.len;have vX:=h0;have yF:=BL.mem;have qX:=(GC.ok.now BL hI).2;have sX:=hD _ _ (GC.ok.now BL hI).1;have jE:AH cs2 _ _:=jP _ (fun b hb=>.inr hb);have kP:=(EE kM.1).1.2;have kT:=(EE kM.1).2;AM (rs:=[4]) (by kernel_rfl) (by decide) (Bg ⟨SB [0,1] rfl (aY ar nm mi r cs cx qu kd ck (EE kM.1).2 (EE kM.1).1.2) A (Eu (AH.ok.now A qX)) rfl rfl rfl rfl rfl rfl fun tv ra rc z {_ _ _} yG A=>have B:=A;have A:=B.base;AM (rs:=[5]) (by kernel_rfl) (by decide) (Bg ⟨CM (.ptr 6 0) rfl A rfl rfl fun A=>AM (rs:=[6]) (by kernel_rfl) (by decide) (Bg ⟨CM (.ptr 7 0) rfl A rfl rfl fun A=>Dh (by kernel_rfl) (N9 3 A rfl rfl fun A=>have mQ:=RD.ok.now A yG;have B:=B.trans A;have A:=B.base;have h0:=B.mem.len;have sL:=(⟨mQ.rf (AH.ok.now B jE) (AH.ok.now B qX) (Nat.le_refl _) heq,AK.ok.now B sX⟩:UT cs2 (Ac cs (fun k j=>r (8*k+j))) cs.length ra (fun k=>(z.getD k Tr.z).L.b) (fun k=>(z.getD k Tr.z).L.pre.length) (fun k=>(cs.getD k AD.z).ao) (fun k=>(cs.getD k AD.z).cp) (fun k=>J7 (z.getD k Tr.z).pb (z.getD k Tr.z).ps.length) _ _);N9 3 A rfl rfl fun A=>I9 [6,5,4,7] UT.ok sL (NN tv mi cs2 (Ac cs (fun k j=>r (8*k+j))) cs.length ra rc (fun k=>(z.getD k Tr.z).L.b) (fun k=>(z.getD k Tr.z).L.pre.length) (fun k=>(cs.getD k AD.z).ao) (fun k=>(cs.getD k AD.z).cp) (fun k=>J7 (z.getD k Tr.z).pb (z.getD k Tr.z).ps.length) jJ kP) A rfl fun A=>N9 13 A rfl rfl fun A=>Ew (fun(v:Nat×List Th×List Tr×Rg)=>[(1,.sl 2 R.length cr),(5,.ptr 6 0),(6,.ptr 7 0),(7,.int .i64 (v.1:Int))]) (fun(v:Nat×List Th×List Tr×Rg)=>[some (Am cs),some (A9 kd),some (.lst 1 R.length (fun j=>[.int .i64 (R.getD j 0)])),some (.blk (BJ ar nm mi r cs cx qu kd ck)),some (AZ cs2 v.2.1 cs.length),some (MW cs),some (.blk (BB 5 v.2.2.2)),some (.blk (dS tv v.2.2.2 cs.length ra rc))]) (fun v w' ks=>VP cs cs2 z ra cs.length R.length wc.heap.size v w' ks) (fun v=>R.length - v.1) (0,(Ac cs (fun k j=>r (8*k+j))),z,mi) ((B.trans A).cut [1,5,6,7] rfl) ⟨Nat.zero_le _,jJ,RD.ok.now A mQ,qW⟩ fun v G a w hv lI A B=>have h0:=B.mem.len;have yH:=hv.rd.rf (AH.ok.now B jE) (AH.ok.now B qX) (Nat.le_refl _) heq;have vY:=(⟨AH.ok.now B jE,AK.ok.now B sX⟩:TI cs2 _ _);N9 9 A rfl rfl fun A=>AL 33 A rfl
        (fun h2 A=>N9 8 A rfl rfl fun A=>I9 [7] K3.ok yH (Zy tv v.2.2.2 cs2 v.2.1 cs.length ra rc (fun k=>(z.getD k Tr.z).L.b) (fun k=>(z.getD k Tr.z).L.pre.length) (fun k=>(cs.getD k AD.z).ao) (fun k=>(cs.getD k AD.z).cp) (fun k=>J7 (v.2.2.1.getD k Tr.z).pb (v.2.2.1.getD k Tr.z).ps.length) hv.ok kP) A rfl fun A=>N9 14 A rfl (iU (by omega)<|iU (by omega)<|iT) fun A=>N9 15 A rfl (BX<|BX<|BX<|HW (fun hg=>(by omega))<|BX<|BX<|iT) fun A=>Y4 (fun(q:Int)=>[(1,.sl 2 R.length cr),(5,.ptr 6 0),(6,.ptr 7 0),(7,.int .i64 (v.1:Int)),(8,.sl 8 ((Bs cs2 v.2.1 cs.length).length) 0),(9,.int .i64 q)]) (fun(q:Int)=>[some (Am cs),some (A9 kd),some (.lst 1 R.length (fun j=>[.int .i64 (R.getD j 0)])),some (.blk (BJ ar nm mi r cs cx qu kd ck)),some (AZ cs2 v.2.1 cs.length),some (MW cs),some (.blk (BB 5 v.2.2.2)),some (.blk (dS tv v.2.2.2 cs.length ra rc)),some (.row 44 4 ((Bs cs2 v.2.1 cs.length).length) 0 (E7 (Bs cs2 v.2.1 cs.length)))]) (fun(q:Int)=>True) A (fun{G a w} A=>fork 53 A rfl
          (fun h3 A=>N9 8 A rfl (iU (by have hx:=h3;simp only [Bool.and_eq_true,decide_eq_true_eq]at hx;omega)<|iT) fun A=>⟨Int.tmod (R.getD (((v.1:Int)).toNat) 0) (((Bs cs2 v.2.1 cs.length).length:Nat):Int),_,trivial,((A.cut [1,5,6,7,8,9] rfl).trunc 9 rfl rfl rfl (Nat.le_trans (Nat.le_of_eq h0.symm) (show(8:Nat)≤9 by decide))).sayT (by rfl)⟩)
          (fun h3 A=>N9 2 A rfl rfl fun A=>⟨(R.getD (((v.1:Int)).toNat) 0),_,trivial,((A.cut [1,5,6,7,8,9] rfl).trunc 9 rfl rfl rfl (Nat.le_trans (Nat.le_of_eq h0.symm) (show(8:Nat)≤9 by decide))).sayT (by rfl)⟩)) fun q hJ {G a w} A=>N9 16 A rfl rfl fun A=>N9 3 A rfl rfl fun A=>iB (0≤q∧q<(((Bs cs2 v.2.1 cs.length).length:Nat):Int))
         (fun hq=>Exists.elim (b0 hv.ok hq) fun tq ht=>have vZ:=ht.1;have v7:(A5 v.2.1 (tq:Int)).at_<(cs2.getD (((tq:Int)).toNat) AD.z).l.length:=ht.2.2;have sY:(cs2.getD (((tq:Int)).toNat) AD.z).l=(cs.getD (((tq:Int)).toNat) AD.z).l:=heq tq vZ;have A:=AB A 10 (.tt) rfl (fun _=>congrArg (fun b=>some (Value.bool b)) (fU hq));I9 [6,5,4] TI.ok vY (gK v.2.2.2 cs2 v.2.1 cs.length q (tq:Int) hv.ok kP ⟨Int.natCast_nonneg _,by omega⟩ v7 hq (by rw [ht.2.1])) A rfl fun A=>N9 2 A rfl rfl fun A=>have A:=AB A 70 (.ff) rfl (fun _=>rfl);N9 18 A rfl (iU (by omega)<|iU (by omega)<|iT) fun A=>have A:=AB A 76 (.agg [.int .i64 2,.int .i64 (tq:Int),.int .i64 (((v.2.1.getD tq Th.z).at_:Nat):Int),.z9]) rfl (fun _=>by rw [ht.2.1]);iL 7 72 (H1:=[some (Am cs),some (A9 kd),some (.lst 1 R.length (fun j=>[.int .i64 (R.getD j 0)])),some (.blk (BJ ar nm mi r cs cx qu kd ck)),some (.row 125 10 cs.length 0 (fun zz=>GJ (cs2.getD zz AD.z) ((V0 cs2 v tq).getD zz Th.z))),some (MW cs),some (.blk [.ptr 5 0,.int .i64 ((MV cs2 v tq) 0),.int .i64 ((MV cs2 v tq) 1),.int .i64 ((MV cs2 v tq) 2)]),none,some (.row 44 4 ((Bs cs2 v.2.1 cs.length).length) 0 (E7 (Bs cs2 v.2.1 cs.length)))]) (H2:=[some (Am cs),some (A9 kd),some (.lst 1 R.length (fun j=>[.int .i64 (R.getD j 0)])),some (.blk (BJ ar nm mi r cs cx qu kd ck)),some (.row 125 10 cs.length 0 (fun zz=>GJ (cs2.getD zz AD.z) ((V0 cs2 v tq).getD zz Th.z))),some (MW cs),some (.blk [.ptr 5 0,.int .i64 ((MV cs2 v tq) 0),.int .i64 ((MV cs2 v tq) 1),.int .i64 ((MV cs2 v tq) 2)]),some (.blk (dS tv (Ex v.2.2.2 (A5 v.2.1 (tq:Int)).r (AT cs v.2.1 (tq:Int))) cs.length ra rc)),some (.row 44 4 ((Bs cs2 v.2.1 cs.length).length) 0 (E7 (Bs cs2 v.2.1 cs.length)))]) (B.trans A) (RD.ok.now A hv.rd) qX (gM 3 yF (B.trans A).pre rfl rfl) rfl rfl (hv.ok.n.trans hv.ok.m) (Nat.le_refl _) kP (tq:Int) (((v.2.1.getD tq Th.z).at_:Nat):Int) ⟨Int.natCast_nonneg _,by omega⟩ (Lw kT (show((tq:Int)).toNat<cs.length from vZ)) (by rw [←sY];exact v7) hv.mr (fun _=>rfl) rfl rfl fun tr2 {a w x} L oN B=>have oN:=oN.as (bZ sY);have B:=B.sayH (H':=[some (Am cs),some (A9 kd),some (.lst 1 R.length (fun j=>[.int .i64 (R.getD j 0)])),some (.blk (BJ ar nm mi r cs cx qu kd ck)),some (.row 125 10 cs.length 0 (fun zz=>GJ (cs2.getD zz AD.z) ((V0 cs2 v tq).getD zz Th.z))),some (MW cs),some (.blk [.ptr 5 0,.int .i64 ((MV cs2 v tq) 0),.int .i64 ((MV cs2 v tq) 1),.int .i64 ((MV cs2 v tq) 2)]),some (.blk (dS tv (MV cs2 v tq) cs.length ra rc)),some (.row 44 4 ((Bs cs2 v.2.1 cs.length).length) 0 (E7 (Bs cs2 v.2.1 cs.length)))]) (by simp only [MV,V0,MW,iQ,AT,sY]);have oN:RD cs (V0 cs2 v tq) tr2 z ra cs.length wc.heap.size _ (keys [some (Am cs),some (A9 kd),some (.lst 1 R.length (fun j=>[.int .i64 (R.getD j 0)])),some (.blk (BJ ar nm mi r cs cx qu kd ck)),some (.row 125 10 cs.length 0 (fun zz=>GJ (cs2.getD zz AD.z) ((V0 cs2 v tq).getD zz Th.z))),some (MW cs),some (.blk [.ptr 5 0,.int .i64 ((MV cs2 v tq) 0),.int .i64 ((MV cs2 v tq) 1),.int .i64 ((MV cs2 v tq) 2)]),some (.blk (dS tv (MV cs2 v tq) cs.length ra rc)),some (.row 44 4 ((Bs cs2 v.2.1 cs.length).length) 0 (E7 (Bs cs2 v.2.1 cs.length)))] _):=RD.ok _ _ _ _ oN (CR.refl _ _) (fun b hb=>.inl (by have q:=hb;simp only [MV,V0,MW,iQ,AT,sY]at q⊢;exact q));have A:=B.base;have h0:=B.mem.len;N9 3 A rfl rfl fun A=>have mQ:=RD.ok.now A oN;have B:=B.trans A;have A:=B.base;have h0:=B.mem.len;have sL:=(⟨mQ.rf (AH.ok.now B jE) (AH.ok.now B qX) (Nat.le_refl _) heq,AK.ok.now B sX⟩:UT cs2 (V0 cs2 v tq) cs.length ra (fun k=>(z.getD k Tr.z).L.b) (fun k=>(z.getD k Tr.z).L.pre.length) (fun k=>(cs.getD k AD.z).ao) (fun k=>(cs.getD k AD.z).cp) (fun k=>J7 (tr2.getD k Tr.z).pb (tr2.getD k Tr.z).ps.length) _ _);N9 3 A rfl rfl fun A=>I9 [6,5,4,7] UT.ok sL (NN tv (MV cs2 v tq) cs2 (V0 cs2 v tq) cs.length ra rc (fun k=>(z.getD k Tr.z).L.b) (fun k=>(z.getD k Tr.z).L.pre.length) (fun k=>(cs.getD k AD.z).ao) (fun k=>(cs.getD k AD.z).cp) (fun k=>J7 (tr2.getD k Tr.z).pb (tr2.getD k Tr.z).ps.length) (hv.ok.set ⟨Int.natCast_nonneg _,by omega⟩ _) kP) A rfl fun A=>N9 12 A rfl (iU (by omega)<|iT) fun A=>⟨(v.1+1,(V0 cs2 v tq),tr2,(MV cs2 v tq)),_,(by show R.length - (v.1+1)<R.length - v.1;omega),⟨(by show v.1+1≤R.length;omega),hv.ok.set ⟨Int.natCast_nonneg _,by omega⟩ _,(RD.ok.now A mQ).take 8,T6 hv.mr⟩,(((B.trans A).cut [1,5,6,7] rfl).trunc 8 rfl rfl rfl (Nat.le_trans (Nat.le_of_eq vX.symm) (show(7:Nat)≤8 by decide))).sayT (by rfl)⟩)
         (fun hq=>have A:=AB A 10 (.ff) rfl (fun _=>congrArg (fun b=>some (Value.bool b)) (fV hq));I9 [6,5,4] TI.ok vY (Zq v.2.2.2 cs2 v.2.1 cs.length q hv.ok kP hq) A rfl fun A=>N9 2 A rfl rfl fun A=>have A:=AB A 70 (.ff) rfl (fun _=>rfl);N9 15 A rfl rfl fun A=>have mQ:=RD.ok.now A hv.rd;have B:=B.trans A;have A:=B.base;have h0:=B.mem.len;have sL:=(⟨mQ.rf (AH.ok.now B jE) (AH.ok.now B qX) (Nat.le_refl _) heq,AK.ok.now B sX⟩:UT cs2 v.2.1 cs.length ra (fun k=>(z.getD k Tr.z).L.b) (fun k=>(z.getD k Tr.z).L.pre.length) (fun k=>(cs.getD k AD.z).ao) (fun k=>(cs.getD k AD.z).cp) (fun k=>J7 (v.2.2.1.getD k Tr.z).pb (v.2.2.1.getD k Tr.z).ps.length) _ _);N9 3 A rfl rfl fun A=>I9 [6,5,4,7] UT.ok sL (NN tv v.2.2.2 cs2 v.2.1 cs.length ra rc (fun k=>(z.getD k Tr.z).L.b) (fun k=>(z.getD k Tr.z).L.pre.length) (fun k=>(cs.getD k AD.z).ao) (fun k=>(cs.getD k AD.z).cp) (fun k=>J7 (v.2.2.1.getD k Tr.z).pb (v.2.2.1.getD k Tr.z).ps.length) hv.ok kP) A rfl fun A=>N9 12 A rfl (iU (by omega)<|iT) fun A=>⟨(v.1+1,v.2.1,v.2.2.1,v.2.2.2),_,(by show R.length - (v.1+1)<R.length - v.1;omega),⟨(by show v.1+1≤R.length;omega),hv.ok,(RD.ok.now A mQ).take 8,hv.mr⟩,(((B.trans A).cut [1,5,6,7] rfl).trunc 8 rfl rfl rfl (Nat.le_trans (Nat.le_of_eq vX.symm) (show(7:Nat)≤8 by decide))).sayT (by rfl)⟩))
        (fun h2 A=>N9 9 A rfl rfl fun A=>R9 (BL.trans (B.trans A)) rfl oL rfl rfl rfl)),
     (CF)⟩),
    (CF)⟩),
   (CF)⟩)))
end Go.Proofs.YtbbdanhpphlbpaaGreatDoor.Mc
namespace Go.Proofs.YtbbdanhpphlbpaaGreatDoor.Mc
open Go.ChangeShapes Go.WideShapes Go.ChangeAt Go.RowKit Go.Deep
def cA (a:Int):List Value:=[.int .i64 a]
section
variable {H:Type}{enc:TypeId×Value→H}{W:World}{base:Nat}{spare:Nat→Bool}{held:Bool}{base':Nat}
theorem Sz (cs:List Value)(n:Nat)(x:DataW H×List MemPlace)(h:DataW.trod enc Tryz.prog W base' spare held n 3 cs=some x)(hl:cs.length=1):∃y:Int,cs=cA y∧True:=by
 obtain⟨m,h2,_,_⟩:=DataW.trod_int Tryz.underlying3 h
 exact⟨m,h2,trivial⟩
theorem S0 {t e n cap:Nat}{ao:Option Addr}(ht:Tryz.prog.underlying t=some (.slice e))(hv:Value.okWide Tryz.prog W .any base t (.slice ao n cap)):∃bo:BO,ao=Hw bo:=by
 cases ao with
 |none=>exact⟨none,rfl⟩
 |some a=>
  unfold Value.okWide at hv
  rw [ht]at hv
  simp only [Cell.okWide,ht,Cell.ok]at hv
  obtain⟨b,o,s⟩:=a
  have:s=none:=hv.2.2.2.1
  subst this
  exact⟨some (b,o),rfl⟩
theorem P5 {v:Value}{d:DataW H}{ps:List MemPlace}(hv:Value.okWide Tryz.prog W .any base 29 v)(h:DataW.Trod enc Tryz.prog W base' spare held 29 v d ps)(kN:(d.weights Tryz.prog 29).all (·≤reachBytes)=true):∃(bo:BO) (l:List Int) (cap:Nat),v=.slice (Hw bo) l.length cap∧l.length*8≤reachBytes∧Sl cA 1 W.heap.size W (.slice (Hw bo) l.length cap) l:=by
 obtain⟨fuel,hf⟩:=h
 obtain⟨ao,l,cap,h1,h2,h3,_⟩:=Ev (α:=Int) (en:=cA) (Q:=fun _=>True) (t:=29) (e:=3) (s:=1) (by kernel_rfl) (by kernel_rfl) (by omega) (fun cs n x h hl _=>Sz cs n x h hl) hf kN
 rw [show Tryz.prog.bytesOf 3=8 by kernel_rfl]at h2
 have hu:Tryz.prog.underlying 29=some (.slice 3):=by kernel_rfl
 obtain⟨a0,len0,cap0,rfl⟩:=okWide_slice hu hv
 simp [Value.cells]at h1
 obtain⟨rfl,rfl,rfl⟩:=h1
 obtain⟨bo,rfl⟩:=S0 (t:=29) (e:=3) hu hv
 exact⟨bo,l,_,rfl,h2.2,h3⟩
end
theorem Us {bo:BO}{n cap:Nat}{w:World}{l:List Int}(h:Sl cA 1 w.heap.size w (.slice (Hw bo) n cap) l):n=l.length∧∀(G F:Gr),den (G++DZ bo::F) (.sl G.length l.length cap)=some (.slice (Hw bo) n cap)∧Ae (G++DZ bo::F) w (DZ bo) (.lst 1 l.length (fun j=>[.int .i64 (l.getD j 0)])):=NO (f:=fun j=>[.int .i64 (l.getD j 0)]) h (Nat.le_refl _) (fun k x hx=>by show AE [] [SV.int .i64 (l.getD k 0)]=_;rw [List.getD_eq_getElem?_getD,hx];rfl) (fun k=>⟨_,rfl⟩)
end Go.Proofs.YtbbdanhpphlbpaaGreatDoor.Mc
namespace Go.Proofs.YtbbdanhpphlbpaaGreatDoor.Mc
open Go.RowKit
section
variable {W:World}{y:Ts}
theorem S2 (h:∀i:Nat,i<64→W.cell? ⟨3,i,none⟩=some (.int .u8 (Q5.getD i 0))):∃o,W.heap[3]?=some o∧∀w:World,w.heap[3]?=some o→∀i:Nat,i<64→w.cell? ⟨3,i,none⟩=some (.int .u8 (Q5.getD i 0)):=by
 obtain⟨o,k,_⟩:=HI (h 0 (by decide))
 refine⟨o,k,fun w hw i hi=>?_⟩
 obtain⟨o',k',c'⟩:=HI (h i hi)
 cases k.symm.trans k'
 exact c' w hw
theorem Ut {w:World}{ks:List Nat}{o:Obj}(h:w.heap[3]?=some o)(hk:ks.contains 3=false)(hc:∀i:Nat,i<64→w.cell? ⟨3,i,none⟩=some (.int .u8 (Q5.getD i 0))):Hj w ks:=by
 have i7:3<w.heap.size:=(Array.getElem?_eq_some_iff.1 h).1
 refine⟨fun k=>⟨_,rfl⟩,.inr ⟨3,0,rfl,i7,hk,fun k jQ=>⟨[.int .u8 (Q5.getD k 0)],rfl,fun q v hq=>?_⟩⟩⟩
 match q,hq with
 |0,hq=>
  simp only [List.getElem?_cons_zero,Option.some.injEq]at hq
  subst hq
  have:=hc k jQ
  simpa using this
 |q+1,hq=>simp at hq
theorem P6 {f:Nat} {x:SV} {v:Value} {ex:List SV} {Hx:Hp} {Gx:Gr} {vx:List Value} (hx:∀G:Gr,den G x=some v) (hO:MQ W y) (yI:Lib.TabIs Tryz.prog W "internal/strconv.uint64pow10" .u64 Lib.pow10Tab) (m0:Int) (hm:W.cell? ⟨0,0,none⟩=some (.int .i64 m0)) (ev:Value) (he:W.cell? ⟨4,0,none⟩=some ev) (sC:ev=.nilIface∨∃te pe,ev=.iface te pe)
  (uX:∀i:Nat,i<64→W.cell? ⟨3,i,none⟩=some (.int .u8 (Q5.getD i 0))) (hlen:Hx.length=Gx.length) (v8:∀(i:Nat) (e:A6),Hx[i]?=some (some e)→∃s n f,e=.lst s n f∧Ae [] W ((Gx[i]?).getD none) (.lst s n f)) (yJ:AE (MR y++Gx) ex=some vx)
  (h:∀(os:List (Nat×Obj)) (hM:∀w ks,Gl os w ks→∃m,w.cell? ⟨0,0,none⟩=some (.int .i64 m)) (hT:∀w ks,Gl os w ks→Lib.TabIs Tryz.prog w "internal/strconv.uint64pow10" .u64 Lib.pow10Tab) (hE:∀w ks,Gl os w ks→∃ev,w.cell? ⟨4,0,none⟩=some ev∧(ev=.nilIface∨∃te pe,ev=.iface te pe)) (hD:∀w ks,Gl os w ks→Hj w ks),Bi (GC os y.cs) Tryz.prog f (bU y::ex) (Nd y++Hx) (Rt x (Nd y++Hx))):Calls Tryz.prog f (.agg (Vw y).toArray::vx).toArray W fun e W'=>e=.returned v∧BW W W':=by
 have nI:(Nd y).length=(MR y).length:=rfl
 have nK:∀(i:Nat) (e:A6),(Nd y++Hx)[i]?=some (some e)→e.mut=false:=fun i e hi=>by
  by_cases q:i<(Nd y).length
  ·rw [List.getElem?_append_left q]at hi;exact Su i e hi
  ·rw [List.getElem?_append_right (by omega)]at hi
   obtain⟨s,n,f,rfl,_⟩:=v8 _ e hi
   rfl
 have uY:Mem (Nd y++Hx) (MR y++Gx) W:=by
  refine SG (by rw [List.length_append,List.length_append,nI,hlen]) fun i e hi=>⟨nK i e hi,?_⟩
  by_cases q:i<(Nd y).length
  ·rw [List.getElem?_append_left q]at hi
   rw [List.getElem?_append_left (by omega)]
   have:=((YO hO).ent i e hi).more Gx
   exact this
  ·rw [List.getElem?_append_right (by omega)]at hi
   rw [List.getElem?_append_right (by omega),←nI]
   obtain⟨s,n,f,rfl,h2⟩:=v8 _ e hi
   exact bV h2
 obtain⟨g5,o5,k5,c5⟩:=Ur yI
 obtain⟨o3,k3,c3⟩:=S2 uX
 obtain⟨o0,k0,c0⟩:=HI hm
 obtain⟨o1,k1,c1⟩:=HI he
 have hk:∀k,(keys (Nd y++Hx) (MR y++Gx)).contains k=false:=fun k=>VE nK k
 have uG:∀k,(keys (Nd y) (MR y)).contains k=false:=fun k=>VE Su k
 have hG:Gl [(0,o0),(4,o1),(g5,o5),(3,o3)] W (keys (Nd y++Hx) (MR y++Gx)):=fun p hp=>by
  simp only [List.mem_cons,List.not_mem_nil,or_false]at hp
  rcases hp with rfl|rfl|rfl|rfl
  ·exact⟨k0,hk _⟩
  ·exact⟨k1,hk _⟩
  ·exact⟨k5,hk _⟩
  ·exact⟨k3,hk _⟩
 have qP:AH y.cs W (keys (Nd y++Hx) (MR y++Gx)):=AH.ok _ _ _ _ (Sv hO uG) (CR.refl _ _) (fun b hb=>by rw [hk b]at hb;cases hb)
 have hf:=h [(0,o0),(4,o1),(g5,o5),(3,o3)] (fun w ks hg=>⟨m0,c0 w (hg (0,o0) (by simp)).1⟩) (fun w ks hg=>c5 w (hg (g5,o5) (by simp)).1) (fun w ks hg=>⟨ev,c1 w (hg (4,o1) (by simp)).1,sC⟩) (fun w ks hg=>Ut (hg (3,o3) (by simp)).1 (hg (3,o3) (by simp)).2 (c3 w (hg (3,o3) (by simp)).1))
 have kZ:AE (MR y++Gx) (bU y::ex)=some (.agg (Vw y).toArray::vx):=by
  have h1:=Al Gx [bU y] (YP hO)
  obtain⟨v1,ws,e1,e2,e3⟩:=Au h1
  cases e2
  cases e3
  exact Az e1 yJ
 refine Calls.mono (hf.2 (MR y++Gx) W _ uY ⟨hG,qP⟩ kZ) fun e W' hp=>?_
 obtain⟨v',F,h1,h2,_,h4⟩:=UW hp nK
 rw [hx]at h1
 cases h1
 exact⟨h2,h4⟩
end
end Go.Proofs.YtbbdanhpphlbpaaGreatDoor.Mc
