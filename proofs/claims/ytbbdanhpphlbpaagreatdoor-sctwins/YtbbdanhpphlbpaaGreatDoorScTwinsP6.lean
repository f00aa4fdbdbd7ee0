/- ScTwins, part 6: the engine, contracts, theory. -/
import Derived.Test.YtbbdanhpphlbpaaGreatDoorScTwinsP5
import Derived.LoopN
import Derived.WalkSmall
import Derived.ProofKit
import Derived.OpenShut
import Derived.ChangeOld
import Derived.Deep.Slices
import Derived.Lib.LaidTab
import Derived.Shelf.Strconv.AppendIntPublic10
import Derived.Lib.SlBytesRow
import Derived.Lib.ItoaLen
import Derived.Tactics
import Derived.Tactics2
import Derived.Defers
import Derived.Recover
set_option linter.unusedVariables false
set_option linter.unusedSimpArgs false
set_option linter.unusedSectionVars false
set_option maxRecDepth 100000
set_option maxHeartbeats 2000000
namespace Go.Proofs.YtbbdanhpphlbpaaGreatDoor
open Go.RowKit
set_option simprocs false
def r5:List (List UInt8×Int):=[([97,100,100],1),([115,117,98],2),([120,111,114],3),([97,110,100],4),([111,114],5)]
theorem fW:∀k,(r5.getD k nz).1.length≤3
 |0=>by decide
 |1=>by decide
 |2=>by decide
 |3=>by decide
 |4=>by decide
 |k+5=>by simp [r5,List.getD]
abbrev TN (x:List UInt8×Int)(b1:Nat):Rw:=⟨x.1,[],Jx 3 x.2,some ⟨b1,0,none⟩,[1,2,3],3⟩
abbrev TO (x:List UInt8×Int)(b2:Nat):Rw:=⟨x.1++[105],[],Jx 3 x.2,some ⟨b2,0,none⟩,[1,2,5],3⟩
def MO:List (List UInt8×List UInt8×In×List Int):=r5.flatMap fun x=>[(x.1,[],Jx 3 x.2,[1,2,3]),(x.1++[105],[],Jx 3 x.2,[1,2,5])]
structure RC (lo:Nat)(z:List Rw×Nat)(w:World)(ks:List Nat):Prop where
 le:z.2≤5
 tm:z.1.map tm=MO.take (2*z.2)
 rw:RowsIn lo z.1 w ks
theorem RC.len {lo:Nat}{z:List Rw×Nat}{w:World}{ks:List Nat}(h:RC lo z w ks):z.1.length=2*z.2:=by
 have h1:=congrArg List.length h.tm
 rw [δ2,δ8]at h1
 have h2:MO.length=10:=by decide
 have:=h.le
 omega
theorem RC.nx {lo b1 b2:Nat}{z:List Rw×Nat}{w w1:World}{ks ks1:List Nat}{l:List (Nat×List SV)}(h:RC lo z w ks)(hk:(z.2:Int)<5)(hr:RowsIn lo z.1 w1 ks1)(hA:Acc lo [(b2,[.int .i64 1,.int .i64 2,.int .i64 5]),(b1,[.int .i64 1,.int .i64 2,.int .i64 3])] w1 ks1):RC lo (z.1++[TN (r5.getD ((z.2:Int)).toNat nz) b1,TO (r5.getD ((z.2:Int)).toNat nz) b2],z.2+1) w1 ks1:=by
 refine⟨by have:=h.le;show z.2+1≤5;omega,?_,fun r Nm=>?_⟩
 ·show List.map _ (z.1++_)=_
  rw [ζ5,h.tm,β5]
  have:z.2=0∨z.2=1∨z.2=2∨z.2=3∨z.2=4:=by omega
  rcases this with e|e|e|e|e<;>rw [e]<;>rfl
 ·rcases ζ6.1 Nm with h1|h1
  ·exact hr r h1
  ·simp only [ζ9,ι1,μ9]at h1
   rcases h1 with rfl|rfl
   ·exact BY (cs:=[]) [1,2,3] hA (ζ7 _ (ε2))
   ·exact BY (cs:=[]) [1,2,5] hA (ε2)
theorem fX:Ly Tryz.prog 194 [] [] (fun x w w'=>∃(L:List Rw) (b cp:Nat),x=.sla (some ⟨b,0,none⟩) 10 cp∧(L.map tm=MO∧RowsIn w.heap.size L w' [b])∧w.heap.size≤b∧Cb 203 20 10 (fun zz=>BG (L.getD zz Rw.z)) b cp w'):=
 EI (n:=37) (by kernel_rfl) Tryz.func194 rfl rfl rfl fun G w a h0 A=>N9 13 A rfl rfl fun A=>have A:=A.asT nz JU 2 O3.1 O3.2.1 O3.2.2 r5 0 rfl;N9 17 A rfl rfl fun A=>have A:=A.nilRow 2 203 20 (fun zz=>BG (([]:List Rw).getD zz Rw.z)) rfl (fun z=>⟨_,rfl,rfl⟩);Gm (fun(z:List Rw×Nat)=>[(0,.sla none 0 0),(2,.sl 1 z.1.length 0),(12,.sl 0 5 5),(13,.int .i64 ((5:Nat):Int)),(14,.int .i64 (z.2:Int))]) (fun(z:List Rw×Nat)=>[some (.lst 2 5 (fun zz=>JU (r5.getD zz nz))),some (.row 203 20 z.1.length 0 (fun zz=>BG (z.1.getD zz Rw.z)))]) (fun z w1 ks1=>RC w.heap.size z w1 ks1) (fun z=>5 - z.2) ([],0) (A.cut [0,2,12,13,14] rfl) ⟨by decide,rfl,fun r hr=>by cases hr⟩ fun z G1 a1 w1 hJ hg A B=>have hA:Acc w.heap.size [] w1 _:=Acc.nil;have hR:=hJ.rw;
 N9 6 A rfl rfl fun A=>Aq 15 A rfl
   (fun h1 A=>N9 14 A rfl (Aj (by omega)<|Aj (by omega)<|Ah) fun A=>N9 4 A rfl rfl fun A=>have A:=Ai A 20 (.agg [.int .i64 3,.z9,.z9,.z9,.z9,.z9,.z9,.z9,.z9,.int .i64 ((r5.getD (((z.2:Int)).toNat) nz).2),.bool false,.bool false,.bool false,.z9,.z9,.z9,.bool false]) rfl (fun _=>rfl);N9 9 A rfl rfl fun A=>Lc [.int .i64 1,.int .i64 2,.int .i64 3] (X:=⟨_,true⟩) hX RowsIn.ok B hA hR A rfl rfl rfl rfl fun b1 B hA hR A=>
 N9 5 A rfl (Aj (by have q:=fW ((z.2:Int)).toNat;(try simp only [α4,α5,α7]);omega)<|Ah) fun A=>Lc [.int .i64 1,.int .i64 2,.int .i64 5] (X:=⟨_,true⟩) hX RowsIn.ok B hA hR A rfl rfl rfl rfl fun b2 B hA hR A=>
 N9 2 A rfl rfl fun A=>have A:=A.asT Rw.z BG 20 ID.1 ID.2.1 ID.2.2 [TN (r5.getD (((z.2:Int)).toNat) nz) b1,TO (r5.getD (((z.2:Int)).toNat) nz) b2] 4 rfl;A9 A rfl (HT hX ((z.1++[TN (r5.getD (((z.2:Int)).toNat) nz) b1,TO (r5.getD (((z.2:Int)).toNat) nz) b2]).length) (fun zz=>BG ((z.1++[TN (r5.getD (((z.2:Int)).toNat) nz) b1,TO (r5.getD (((z.2:Int)).toNat) nz) b2]).getD zz Rw.z)) rfl rfl rfl rfl (β7 _) (by have:=hJ.len;have:=hJ.le;omega) (by decide) α4 (fun k hk=>by show BG _=BG _;rw [BX hk]) (fun k hk=>by show BG _=BG _;rw [CV]) (fun z=>⟨_,rfl,rfl⟩) (fun k hk=>⟨_,rfl,Ah⟩)) fun A=>
 N9 8 A rfl (Aj (by omega)<|Ah) fun A=>⟨(z.1++[TN (r5.getD (((z.2:Int)).toNat) nz) b1,TO (r5.getD (((z.2:Int)).toNat) nz) b2],z.2+1),_,(by have:=h1;show _ - _<_ - _;omega),(hJ.nx (l:=[]) h1 (RowsIn.ok _ _ _ _ hR A.mix fun b hb=>A.keys_own b ((CB (H:=[some (.lst 2 5 (fun zz=>JU (r5.getD zz nz))),none,some (.blk [.str ((r5.getD (((z.2:Int)).toNat) nz).1),.int .i64 ((r5.getD (((z.2:Int)).toNat) nz).2)]),some (.blk [.int .i64 3,.z9,.z9,.z9,.z9,.z9,.z9,.z9,.z9,.int .i64 ((r5.getD (((z.2:Int)).toNat) nz).2),.bool false,.bool false,.bool false,.z9,.z9,.z9,.bool false]),some (.lst 20 ([TN (r5.getD (((z.2:Int)).toNat) nz) b1,TO (r5.getD (((z.2:Int)).toNat) nz) b2].length) (fun zz=>BG ([TN (r5.getD (((z.2:Int)).toNat) nz) b1,TO (r5.getD (((z.2:Int)).toNat) nz) b2].getD zz Rw.z))),some (.row 203 20 ((z.1++[TN (r5.getD (((z.2:Int)).toNat) nz) b1,TO (r5.getD (((z.2:Int)).toNat) nz) b2]).length) 0 (fun zz=>BG ((z.1++[TN (r5.getD (((z.2:Int)).toNat) nz) b1,TO (r5.getD (((z.2:Int)).toNat) nz) b2]).getD zz Rw.z)))]) (m:=[0,5]) A.mem.len rfl rfl) b hb)) (hA.go A.mix fun b hb=>A.keys_own b ((CB (H:=[some (.lst 2 5 (fun zz=>JU (r5.getD zz nz))),none,some (.blk [.str ((r5.getD (((z.2:Int)).toNat) nz).1),.int .i64 ((r5.getD (((z.2:Int)).toNat) nz).2)]),some (.blk [.int .i64 3,.z9,.z9,.z9,.z9,.z9,.z9,.z9,.z9,.int .i64 ((r5.getD (((z.2:Int)).toNat) nz).2),.bool false,.bool false,.bool false,.z9,.z9,.z9,.bool false]),some (.lst 20 ([TN (r5.getD (((z.2:Int)).toNat) nz) b1,TO (r5.getD (((z.2:Int)).toNat) nz) b2].length) (fun zz=>BG ([TN (r5.getD (((z.2:Int)).toNat) nz) b1,TO (r5.getD (((z.2:Int)).toNat) nz) b2].getD zz Rw.z))),some (.row 203 20 ((z.1++[TN (r5.getD (((z.2:Int)).toNat) nz) b1,TO (r5.getD (((z.2:Int)).toNat) nz) b2]).length) 0 (fun zz=>BG ((z.1++[TN (r5.getD (((z.2:Int)).toNat) nz) b1,TO (r5.getD (((z.2:Int)).toNat) nz) b2]).getD zz Rw.z)))]) (m:=[0,5]) A.mem.len rfl rfl) b hb))),((B.trans A).cut [0,2,12,13,14] rfl).mv 0 [0,5] rfl rfl rfl rfl (by simp only [α7]at h0;omega)⟩)
   (fun h1 A=>N9 10 A rfl rfl fun A=>(have e5:z.2=5:=(by have:=hJ.le;omega);have e:z.1.length=10:=(by have:=hJ.len;omega);match A.giveRow 1 0 (by omega) rfl rfl rfl with|⟨b,cp,A2,hG,ho,hk⟩=>JH (J:=fun x w w'=>∃(L:List Rw) (b cp:Nat),x=.sla (some ⟨b,0,none⟩) 10 cp∧(L.map tm=MO∧RowsIn w.heap.size L w' [b])∧w.heap.size≤b∧Cb 203 20 10 (fun zz=>BG (L.getD zz Rw.z)) b cp w') hX (B.trans A2) (fun i e he=>CW he) rfl rfl rfl rfl ⟨z.1,b,cp,(by show SV.sla _ z.1.length cp=_;rw [e]),⟨(by have h2:=hJ.tm;rw [e5]at h2;exact h2),(RowsIn.ok _ _ _ _ hJ.rw A.mix fun b2 hb=>by have:b2=b:=(by simpa using hb);rw [this];exact ho)⟩,IS B (fun i e he=>CW he) ho,(by rw [←e];exact hG)⟩))
abbrev sz:List UInt8×Bool×Bool:=([],false,false)
def Na (x:List UInt8×Bool×Bool):List SV:=[.str x.1,.bool x.2.1,.bool x.2.2]
theorem fY:(∀x,(Na x).length=3)∧(∀x,Hf 0 (Na x)=true)∧(∀x,∃vs,Al [] (Na x)=some vs):=⟨fun _=>rfl,fun _=>rfl,fun _=>⟨_,rfl⟩⟩
def a2:List (List UInt8×Int):=[([97,109,111,115,119,97,112,46,42],6),([97,109,111,97,100,100,46,42],1)]
def s4:List (List UInt8×Bool×Bool):=[([],false,false),([46,97,113],true,false),([46,114,108],false,true),([46,97,113,46,114,108],true,true)]
theorem Nb:∀k,(a2.getD k nz).1.length≤100
 |0=>by decide
 |1=>by decide
 |k+2=>by simp [a2,List.getD]
theorem Nc:∀k,(s4.getD k sz).1.length≤100
 |0=>by decide
 |1=>by decide
 |2=>by decide
 |3=>by decide
 |k+4=>by simp [s4,List.getD]
def WK (x:List UInt8×Int)(y:List UInt8×Bool×Bool):In:=⟨6,0,0,0,0,0,0,0,0,x.2,y.2.1,false,y.2.2,0,0,0,false⟩
abbrev TP (x:List UInt8×Int)(y:List UInt8×Bool×Bool)(b1:Nat):Rw:=⟨x.1++y.1,[],WK x y,some ⟨b1,0,none⟩,[1,2,6],3⟩
def MP:List (List UInt8×List UInt8×In×List Int):=a2.flatMap fun x=>s4.map fun y=>(x.1++y.1,[],WK x y,[1,2,6])
structure RA (lo n:Nat)(L:List Rw)(w:World)(ks:List Nat):Prop where
 tm:L.map tm=MP.take n
 rw:RowsIn lo L w ks
theorem RA.len {lo n:Nat}{L:List Rw}{w:World}{ks:List Nat}(h:RA lo n L w ks):L.length≤8∧(n≤8→L.length=n):=by
 have h1:=congrArg List.length h.tm
 rw [δ2,δ8]at h1
 have h2:MP.length=8:=by decide
 omega
theorem RA.nx {lo b1 k j:Nat}{L:List Rw}{w w1:World}{ks ks1:List Nat}(h:RA lo (4*k+j) L w ks)(hk:k<2)(hj:j<4)(hr:RowsIn lo L w1 ks1)(hA:Acc lo [(b1,[.int .i64 1,.int .i64 2,.int .i64 6])] w1 ks1):RA lo (4*k+(j+1)) (L++[TP (a2.getD ((k:Int)).toNat nz) (s4.getD ((j:Int)).toNat sz) b1]) w1 ks1:=by
 refine⟨?_,fun r Nm=>?_⟩
 ·rw [ζ5,h.tm,β5,β5]
  have q1:k=0∨k=1:=by omega
  have q2:j=0∨j=1∨j=2∨j=3:=by omega
  rcases q1 with e|e<;>rcases q2 with e2|e2|e2|e2<;>rw [e,e2]<;>rfl
 ·rcases ζ6.1 Nm with h1|h1
  ·exact hr r h1
  ·simp only [ζ9,ι1,μ9]at h1
   subst h1
   exact BY (cs:=[]) [1,2,6] hA ε2
theorem fZ:Ly Tryz.prog 195 [] [] (fun x w w'=>∃(L:List Rw) (b cp:Nat),x=.sla (some ⟨b,0,none⟩) 8 cp∧(L.map tm=MP∧RowsIn w.heap.size L w' [b])∧w.heap.size≤b∧Cb 203 20 8 (fun zz=>BG (L.getD zz Rw.z)) b cp w'):=
 EI (n:=50) (by kernel_rfl) Tryz.func195 rfl rfl rfl fun G w a h0 A=>N9 10 A rfl rfl fun A=>have A:=A.asT nz JU 2 O3.1 O3.2.1 O3.2.2 a2 0 rfl;N9 6 A rfl rfl fun A=>have A:=Ai A 12 (.agg [.str [],.bool false,.bool false]) rfl (fun _=>rfl);N9 1 A rfl rfl fun A=>have A:=Ai A 13 (.agg [.str [46,97,113],.bool true,.bool false]) rfl (fun _=>rfl);N9 1 A rfl rfl fun A=>have A:=Ai A 14 (.agg [.str [46,114,108],.bool false,.bool true]) rfl (fun _=>rfl);N9 1 A rfl rfl fun A=>have A:=Ai A 15 (.agg [.str [46,97,113,46,114,108],.bool true,.bool true]) rfl (fun _=>rfl);N9 1 A rfl rfl fun A=>have A:=A.asT sz Na 3 fY.1 fY.2.1 fY.2.2 s4 1 rfl;N9 17 A rfl rfl fun A=>have A:=A.nilRow 3 203 20 (fun zz=>BG (([]:List Rw).getD zz Rw.z)) rfl (fun z=>⟨_,rfl,rfl⟩);Gm (fun(z:List Rw×Nat)=>[(0,.sla none 0 0),(2,.sl 1 4 4),(3,.sl 2 z.1.length 0),(17,.sl 0 2 2),(18,.int .i64 ((2:Nat):Int)),(19,.int .i64 (z.2:Int))]) (fun(z:List Rw×Nat)=>[some (.lst 2 2 (fun zz=>JU (a2.getD zz nz))),some (.lst 3 4 (fun zz=>Na (s4.getD zz sz))),some (.row 203 20 z.1.length 0 (fun zz=>BG (z.1.getD zz Rw.z)))]) (fun z w1 ks1=>z.2≤2∧RA w.heap.size (4*z.2) z.1 w1 ks1) (fun z=>2 - z.2) ([],0) (A.cut [0,2,3,17,18,19] rfl) ⟨by decide,⟨rfl,fun r hr=>by cases hr⟩⟩ fun z G1 a1 w1 hJ hg A B=>have Nu:=hJ.1;have hR:=hJ.2.rw;
 N9 6 A rfl rfl fun A=>Aq 20 A rfl
   (fun h1 A=>N9 14 A rfl (Aj (by omega)<|Aj (by omega)<|Ah) fun A=>N9 7 A rfl rfl fun A=>have hR:=RowsIn.ok _ _ _ _ hR A.mix A.keys_own;Gm (fun(y:List Rw×Nat)=>[(0,.sla none 0 0),(2,.sl 1 4 4),(3,.sl 2 y.1.length 0),(5,.ptr 3 0),(17,.sl 0 2 2),(18,.int .i64 ((2:Nat):Int)),(19,.int .i64 (z.2:Int)),(23,.sl 1 4 4),(24,.int .i64 ((4:Nat):Int)),(25,.int .i64 (y.2:Int))]) (fun(y:List Rw×Nat)=>[some (.lst 2 2 (fun zz=>JU (a2.getD zz nz))),some (.lst 3 4 (fun zz=>Na (s4.getD zz sz))),some (.row 203 20 y.1.length 0 (fun zz=>BG (y.1.getD zz Rw.z))),some (.blk [.str ((a2.getD (((z.2:Int)).toNat) nz).1),.int .i64 ((a2.getD (((z.2:Int)).toNat) nz).2)])]) (fun y w1 ks1=>y.2≤4∧RA w.heap.size (4*z.2+y.2) y.1 w1 ks1) (fun y=>4 - y.2) (z.1,0) ((B.trans A).cut [0,2,3,5,17,18,19,23,24,25] rfl) ⟨β8 4,⟨hJ.2.tm,hR⟩⟩ fun y G1 a1 w1 hJ hg A B=>have hA:Acc w.heap.size [] w1 _:=Acc.nil;have hR:=hJ.2.rw;
 N9 6 A rfl rfl fun A=>Aq 26 A rfl
     (fun h2 A=>N9 14 A rfl (Aj (by omega)<|Aj (by omega)<|Ah) fun A=>N9 8 A rfl rfl fun A=>have A:=Ai A 35 (.agg [.int .i64 6,.z9,.z9,.z9,.z9,.z9,.z9,.z9,.z9,.int .i64 ((a2.getD (((z.2:Int)).toNat) nz).2),.bool ((s4.getD (((y.2:Int)).toNat) sz).2.1),.bool false,.bool ((s4.getD (((y.2:Int)).toNat) sz).2.2),.z9,.z9,.z9,.bool false]) rfl (fun _=>rfl);N9 12 A rfl (Aj (by have q:=Nb ((z.2:Int)).toNat;have q2:=Nc ((y.2:Int)).toNat;(try simp only [α4,α5,α7]);omega)<|Ah) fun A=>Lc [.int .i64 1,.int .i64 2,.int .i64 6] (X:=⟨_,true⟩) hX RowsIn.ok B hA hR A rfl rfl rfl rfl fun b1 B hA hR A=>
 N9 2 A rfl rfl fun A=>have A:=A.asT Rw.z BG 20 ID.1 ID.2.1 ID.2.2 [TP (a2.getD (((z.2:Int)).toNat) nz) (s4.getD (((y.2:Int)).toNat) sz) b1] 6 rfl;A9 A rfl (HT hX ((y.1++[TP (a2.getD (((z.2:Int)).toNat) nz) (s4.getD (((y.2:Int)).toNat) sz) b1]).length) (fun zz=>BG ((y.1++[TP (a2.getD (((z.2:Int)).toNat) nz) (s4.getD (((y.2:Int)).toNat) sz) b1]).getD zz Rw.z)) rfl rfl rfl rfl (β7 _) (by have:=hJ.2.len;have:=hJ.1;omega) (by decide) α4 (fun k hk=>by show BG _=BG _;rw [BX hk]) (fun k hk=>by show BG _=BG _;rw [CV]) (fun z=>⟨_,rfl,rfl⟩) (fun k hk=>⟨_,rfl,Ah⟩)) fun A=>
 N9 8 A rfl (Aj (by omega)<|Ah) fun A=>⟨(y.1++[TP (a2.getD (((z.2:Int)).toNat) nz) (s4.getD (((y.2:Int)).toNat) sz) b1],y.2+1),_,(by have:=h2;show _ - _<_ - _;omega),⟨by have:=h2;show y.2+1≤4;omega,hJ.2.nx (by omega) (by omega) (RowsIn.ok _ _ _ _ hR A.mix fun b hb=>A.keys_own b ((CB (H:=[some (.lst 2 2 (fun zz=>JU (a2.getD zz nz))),some (.lst 3 4 (fun zz=>Na (s4.getD zz sz))),none,some (.blk [.str ((a2.getD (((z.2:Int)).toNat) nz).1),.int .i64 ((a2.getD (((z.2:Int)).toNat) nz).2)]),some (.blk [.str ((s4.getD (((y.2:Int)).toNat) sz).1),.bool ((s4.getD (((y.2:Int)).toNat) sz).2.1),.bool ((s4.getD (((y.2:Int)).toNat) sz).2.2)]),some (.blk [.int .i64 6,.z9,.z9,.z9,.z9,.z9,.z9,.z9,.z9,.int .i64 ((a2.getD (((z.2:Int)).toNat) nz).2),.bool ((s4.getD (((y.2:Int)).toNat) sz).2.1),.bool false,.bool ((s4.getD (((y.2:Int)).toNat) sz).2.2),.z9,.z9,.z9,.bool false]),some (.lst 20 ([TP (a2.getD (((z.2:Int)).toNat) nz) (s4.getD (((y.2:Int)).toNat) sz) b1].length) (fun zz=>BG ([TP (a2.getD (((z.2:Int)).toNat) nz) (s4.getD (((y.2:Int)).toNat) sz) b1].getD zz Rw.z))),some (.row 203 20 ((y.1++[TP (a2.getD (((z.2:Int)).toNat) nz) (s4.getD (((y.2:Int)).toNat) sz) b1]).length) 0 (fun zz=>BG ((y.1++[TP (a2.getD (((z.2:Int)).toNat) nz) (s4.getD (((y.2:Int)).toNat) sz) b1]).getD zz Rw.z)))]) (m:=[0,1,7,3]) A.mem.len rfl rfl) b hb)) (hA.go A.mix fun b hb=>A.keys_own b ((CB (H:=[some (.lst 2 2 (fun zz=>JU (a2.getD zz nz))),some (.lst 3 4 (fun zz=>Na (s4.getD zz sz))),none,some (.blk [.str ((a2.getD (((z.2:Int)).toNat) nz).1),.int .i64 ((a2.getD (((z.2:Int)).toNat) nz).2)]),some (.blk [.str ((s4.getD (((y.2:Int)).toNat) sz).1),.bool ((s4.getD (((y.2:Int)).toNat) sz).2.1),.bool ((s4.getD (((y.2:Int)).toNat) sz).2.2)]),some (.blk [.int .i64 6,.z9,.z9,.z9,.z9,.z9,.z9,.z9,.z9,.int .i64 ((a2.getD (((z.2:Int)).toNat) nz).2),.bool ((s4.getD (((y.2:Int)).toNat) sz).2.1),.bool false,.bool ((s4.getD (((y.2:Int)).toNat) sz).2.2),.z9,.z9,.z9,.bool false]),some (.lst 20 ([TP (a2.getD (((z.2:Int)).toNat) nz) (s4.getD (((y.2:Int)).toNat) sz) b1].length) (fun zz=>BG ([TP (a2.getD (((z.2:Int)).toNat) nz) (s4.getD (((y.2:Int)).toNat) sz) b1].getD zz Rw.z))),some (.row 203 20 ((y.1++[TP (a2.getD (((z.2:Int)).toNat) nz) (s4.getD (((y.2:Int)).toNat) sz) b1]).length) 0 (fun zz=>BG ((y.1++[TP (a2.getD (((z.2:Int)).toNat) nz) (s4.getD (((y.2:Int)).toNat) sz) b1]).getD zz Rw.z)))]) (m:=[0,1,7,3]) A.mem.len rfl rfl) b hb))⟩,((B.trans A).cut [0,2,3,5,17,18,19,23,24,25] rfl).mv 0 [0,1,7,3] rfl rfl rfl rfl (by simp only [α7]at h0;omega)⟩)
     (fun h2 A=>N9 8 A rfl (Aj (by omega)<|Ah) fun A=>⟨(y.1,z.2+1),_,(by have:=h1;show _ - _<_ - _;omega),⟨by have:=h1;show z.2+1≤2;omega,⟨(by have q:=hJ.2.tm;have q1:=hJ.1;rw [show 4*z.2+y.2=4*(z.2+1) by omega]at q;exact q),RowsIn.ok _ _ _ _ hJ.2.rw A.mix fun b hb=>A.keys_own b ((CB (H:=[some (.lst 2 2 (fun zz=>JU (a2.getD zz nz))),some (.lst 3 4 (fun zz=>Na (s4.getD zz sz))),some (.row 203 20 y.1.length 0 (fun zz=>BG (y.1.getD zz Rw.z))),some (.blk [.str ((a2.getD (((z.2:Int)).toNat) nz).1),.int .i64 ((a2.getD (((z.2:Int)).toNat) nz).2)])]) (m:=[0,1,2]) A.mem.len rfl rfl) b hb)⟩⟩,((B.trans A).cut [0,2,3,17,18,19] rfl).mv 0 [0,1,2] rfl rfl rfl rfl (by simp only [α7]at h0;omega)⟩))
   (fun h1 A=>N9 10 A rfl rfl fun A=>(have e5:z.2=2:=(by have:=hJ.1;omega);have e:z.1.length=8:=(by have:=hJ.2.len;omega);match A.giveRow 2 0 (by omega) rfl rfl rfl with|⟨b,cp,A2,hG,ho,hk⟩=>JH (J:=fun x w w'=>∃(L:List Rw) (b cp:Nat),x=.sla (some ⟨b,0,none⟩) 8 cp∧(L.map tm=MP∧RowsIn w.heap.size L w' [b])∧w.heap.size≤b∧Cb 203 20 8 (fun zz=>BG (L.getD zz Rw.z)) b cp w') hX (B.trans A2) (fun i e he=>CW he) rfl rfl rfl rfl ⟨z.1,b,cp,(by show SV.sla _ z.1.length cp=_;rw [e]),⟨(by have h2:=hJ.2.tm;rw [e5]at h2;exact h2),(RowsIn.ok _ _ _ _ hJ.2.rw A.mix fun b2 hb=>by have:b2=b:=(by simpa using hb);rw [this];exact ho)⟩,IS B (fun i e he=>CW he) ho,(by rw [←e];exact hG)⟩))
section
variable {P:Program}{n:Nat}{ks:List Nat}{G0:Gr}{w0:World}{T:List (Nat×SV)}{H:Hp}{G:Gr}{a:Act}{w w':World}{Q:Exit→Act→World→Prop}{K:List Fr}{ops:Array Oper}{o:Oper}{rest:List Oper}{c:Code}
theorem Lk {q:Nat}(h:Goal P Q (.lp (Code.rounds P c (Fz P Q K) q)::K) (.code c) a w):Code.rounds P c (Fz P Q K) (q+1) a w:=h
theorem oU (q:Nat)(h:Code.rounds P c (Fz P Q K) q a w):Goal P Q K (.code (.loop c)) a w:=wp_loop_rounds q h
end
theorem Gz {i o s m k:Nat}(j:Nat){q:Nat}(hq:o+j*s+k=q):∀G,den G (.ix (.ptr i o) s m (j:Int) k)=den G (.ptr i q):=fun G=>by
 subst hq
 unfold den
 cases hG:G[i]? with
 |none=>unfold den;rw [hG]
 |some p=>cases p with
  |none=>unfold den;rw [hG]
  |some L=>unfold den;rw [hG];simp [θ4]
theorem Yq (L1 L2 L3:List Rw) (c1 c2 c3:Nat) (l1:L1.length=10) (l12:(L1++L2).length=18):Fn Tryz.prog 193 [.sl 0 3 3] [some (.blk [.sl 1 10 c1,.sl 2 8 c2,.sl 3 7 c3]),some (.lst 20 10 (fun zz=>BG (L1.getD zz Rw.z))),some (.lst 20 8 (fun zz=>BG (L2.getD zz Rw.z))),some (.lst 20 7 (fun zz=>BG (L3.getD zz Rw.z)))] (Rt (.sl 4 25 0) [some (.blk [.sl 1 10 c1,.sl 2 8 c2,.sl 3 7 c3]),some (.lst 20 10 (fun zz=>BG (L1.getD zz Rw.z))),some (.lst 20 8 (fun zz=>BG (L2.getD zz Rw.z))),some (.lst 20 7 (fun zz=>BG (L3.getD zz Rw.z))),some (.row 203 20 25 0 (fun zz=>BG (((L1++L2)++L3).getD zz Rw.z)))]):=
 Am (n:=36) (by kernel_rfl) Tryz.func193 rfl rfl rfl fun G w a h0 A=>N9 15 A rfl rfl fun A=>have A:=Ai A 10 (.int .i64 3) rfl (fun _=>rfl);N9 1 A rfl rfl fun A=>N9 3 A rfl rfl fun A=>oU 4 (Lk (have A:=A.cut [0,2,3,9,10,11] rfl;
 N9 6 A rfl rfl fun A=>Aq 12 A rfl
   (fun h1 A=>N9 8 A rfl (Aj (by omega)<|Ah) fun A=>have A:=Ai A 13 (.ptr 0 0) rfl (Gz 0 rfl);N9 7 A rfl rfl fun A=>N9 2 A rfl rfl fun A=>have A:=Ai A 17 (.int .i64 10) rfl (fun _=>rfl);N9 1 A rfl (Aj (by omega)<|Ah) fun A=>have A:=Ai A 18 (.int .i64 10) rfl (fun _=>rfl);N9 6 A rfl rfl fun A=>N9 3 A rfl rfl fun A=>Aq 20 A rfl
    (fun h2 A=>absurd h2 (by decide))
    (fun h2 A=>N9 6 A rfl (Aj (by omega)<|Ah) fun A=>have A:=Ai A 22 (.int .i64 1) rfl (fun _=>rfl);N9 1 A rfl rfl fun A=>N9 1 A rfl rfl fun A=>Lk (have A:=A.cut [0,2,3,9,10,11] rfl;
 N9 6 A rfl rfl fun A=>Aq 12 A rfl
     (fun h3 A=>N9 8 A rfl (Aj (by omega)<|Ah) fun A=>have A:=Ai A 13 (.ptr 0 1) rfl (Gz 1 rfl);N9 7 A rfl rfl fun A=>N9 2 A rfl rfl fun A=>have A:=Ai A 17 (.int .i64 8) rfl (fun _=>rfl);N9 1 A rfl (Aj (by omega)<|Ah) fun A=>have A:=Ai A 18 (.int .i64 18) rfl (fun _=>rfl);N9 6 A rfl rfl fun A=>N9 3 A rfl rfl fun A=>Aq 20 A rfl
      (fun h4 A=>absurd h4 (by decide))
      (fun h4 A=>N9 6 A rfl (Aj (by omega)<|Ah) fun A=>have A:=Ai A 22 (.int .i64 2) rfl (fun _=>rfl);N9 1 A rfl rfl fun A=>N9 1 A rfl rfl fun A=>Lk (have A:=A.cut [0,2,3,9,10,11] rfl;
 N9 6 A rfl rfl fun A=>Aq 12 A rfl
       (fun h5 A=>N9 8 A rfl (Aj (by omega)<|Ah) fun A=>have A:=Ai A 13 (.ptr 0 2) rfl (Gz 2 rfl);N9 7 A rfl rfl fun A=>N9 2 A rfl rfl fun A=>have A:=Ai A 17 (.int .i64 7) rfl (fun _=>rfl);N9 1 A rfl (Aj (by omega)<|Ah) fun A=>have A:=Ai A 18 (.int .i64 25) rfl (fun _=>rfl);N9 6 A rfl rfl fun A=>N9 3 A rfl rfl fun A=>Aq 20 A rfl
        (fun h6 A=>absurd h6 (by decide))
        (fun h6 A=>N9 6 A rfl (Aj (by omega)<|Ah) fun A=>have A:=Ai A 22 (.int .i64 3) rfl (fun _=>rfl);N9 1 A rfl rfl fun A=>N9 1 A rfl rfl fun A=>Lk (have A:=A.cut [0,2,3,9,10,11] rfl;
 N9 6 A rfl rfl fun A=>Aq 12 A rfl
         (fun h7 A=>absurd h7 (by decide))
         (fun h7 A=>N9 6 A rfl rfl fun A=>Kq (t:=24) (F:=fun(L:List Rw) zz=>BG (L.getD zz Rw.z)) (R:=fun L b w w'=>L=[]) (aN 25 (by decide) (by decide)) A rfl rfl rfl fun L b1 cp1 a1 w1 G1 hR Dl hk A=>
 N9 8 A rfl rfl fun A=>have A:=Ai A 26 (.int .i64 3) rfl (fun _=>rfl);N9 1 A rfl rfl fun A=>N9 3 A rfl rfl fun A=>oU 4 (Lk (have A:=A.cut [2,6,25,26,27] rfl;
 N9 6 A rfl rfl fun A=>Aq 28 A rfl
           (fun h8 A=>N9 8 A rfl (Aj (by omega)<|Ah) fun A=>have A:=Ai A 29 (.ptr 0 0) rfl (Gz 0 rfl);N9 7 A rfl rfl fun A=>A9 A rfl (HT hX 10 (fun zz=>BG (L1.getD zz Rw.z)) rfl rfl rfl rfl (β7 _) (by decide) (show 10≤1000000 by decide) rfl (fun k hk=>absurd hk (ξ3 k)) (fun k hk=>by show BG (L1.getD (0+k) Rw.z)=BG _;rw [ε0]) (fun z=>⟨_,rfl,rfl⟩) (fun k hk=>⟨_,rfl,Ah⟩)) fun A=>
 N9 6 A rfl (Aj (by omega)<|Ah) fun A=>have A:=Ai A 34 (.int .i64 1) rfl (fun _=>rfl);N9 1 A rfl rfl fun A=>N9 1 A rfl rfl fun A=>Lk (have A:=A.cut [2,6,25,26,27] rfl;
 N9 6 A rfl rfl fun A=>Aq 28 A rfl
            (fun h9 A=>N9 8 A rfl (Aj (by omega)<|Ah) fun A=>have A:=Ai A 29 (.ptr 0 1) rfl (Gz 1 rfl);N9 7 A rfl rfl fun A=>A9 A rfl (HT hX 18 (fun zz=>BG ((L1++L2).getD zz Rw.z)) rfl rfl rfl rfl (β7 _) (by decide) (show 8≤1000000 by decide) rfl (fun k hk=>by show BG _=BG _;rw [BX (by rw [l1];exact hk)]) (fun k hk=>by show BG ((L1++L2).getD (10+k) Rw.z)=BG _;rw [show 10+k=L1.length+k by rw [l1],CV]) (fun z=>⟨_,rfl,rfl⟩) (fun k hk=>⟨_,rfl,Ah⟩)) fun A=>
 N9 6 A rfl (Aj (by omega)<|Ah) fun A=>have A:=Ai A 34 (.int .i64 2) rfl (fun _=>rfl);N9 1 A rfl rfl fun A=>N9 1 A rfl rfl fun A=>Lk (have A:=A.cut [2,6,25,26,27] rfl;
 N9 6 A rfl rfl fun A=>Aq 28 A rfl
             (fun GL A=>N9 8 A rfl (Aj (by omega)<|Ah) fun A=>have A:=Ai A 29 (.ptr 0 2) rfl (Gz 2 rfl);N9 7 A rfl rfl fun A=>A9 A rfl (HT hX 25 (fun zz=>BG (((L1++L2)++L3).getD zz Rw.z)) rfl rfl rfl rfl (β7 _) (by decide) (show 7≤1000000 by decide) rfl (fun k hk=>by show BG _=BG _;rw [BX (by rw [l12];exact hk)]) (fun k hk=>by show BG (((L1++L2)++L3).getD (18+k) Rw.z)=BG _;rw [show 18+k=(L1++L2).length+k by rw [l12],CV]) (fun z=>⟨_,rfl,rfl⟩) (fun k hk=>⟨_,rfl,Ah⟩)) fun A=>
 N9 6 A rfl (Aj (by omega)<|Ah) fun A=>have A:=Ai A 34 (.int .i64 3) rfl (fun _=>rfl);N9 1 A rfl rfl fun A=>N9 1 A rfl rfl fun A=>Lk (have A:=A.cut [2,6,25,26,27] rfl;
 N9 6 A rfl rfl fun A=>Aq 28 A rfl
              (fun Fv A=>absurd Fv (by decide))
              (fun Fv A=>N9 10 A rfl rfl fun A=>Ns hX [7] A ⟨rfl,rfl⟩ rfl rfl rfl rfl rfl rfl rfl rfl h0)))
             (fun GL A=>absurd (by decide) GL)))
            (fun h9 A=>absurd (by decide) h9)))
           (fun h8 A=>absurd (by decide) h8)))))))
       (fun h5 A=>absurd (by decide) h5))))
     (fun h3 A=>absurd (by decide) h3))))
   (fun h1 A=>absurd (by decide) h1)))
abbrev Ea (b1 b2 b3 b4 b5 b6 b7 b8:Nat):List (Nat×List SV):=[(b8,[.str [108,105],.str [],.int .i64 1,.z9,.z9,.z9,.z9,.z9,.z9,.z9,.z9,.z9,.ff,.ff,.ff,.z9,.z9,.z9,.ff,.sla (some ⟨b1,0,none⟩) 2 2,.str [109,118],.str [],.int .i64 2,.z9,.z9,.z9,.z9,.z9,.z9,.z9,.z9,.z9,.ff,.ff,.ff,.z9,.z9,.z9,.ff,.sla (some ⟨b2,0,none⟩) 2 2,.str [108,42],.str [],.int .i64 4,.z9,.z9,.z9,.z9,.z9,.z9,.z9,.z9,.z9,.ff,.ff,.ff,.z9,.z9,.z9,.ff,.sla (some ⟨b3,0,none⟩) 2 2,.str [115,42],.str [],.int .i64 5,.z9,.z9,.z9,.z9,.z9,.z9,.z9,.z9,.z9,.ff,.ff,.ff,.z9,.z9,.z9,.ff,.sla (some ⟨b4,0,none⟩) 2 2,.str [102,101,110,99,101],.str [],.int .i64 7,.z9,.z9,.z9,.z9,.z9,.z9,.z9,.z9,.z9,.ff,.ff,.ff,.z9,.z9,.z9,.ff,.sla (some ⟨b5,0,none⟩) 2 2,.str [98,101,113,122],.str [],.int .i64 9,.z9,.z9,.z9,.z9,.z9,.z9,.z9,.z9,.z9,.ff,.ff,.ff,.z9,.z9,.z9,.tt,.sla (some ⟨b6,0,none⟩) 2 2,.str [98,110,101,122],.str [],.int .i64 9,.z9,.z9,.z9,.z9,.z9,.z9,.z9,.z9,.z9,.ff,.ff,.ff,.z9,.z9,.z9,.ff,.sla (some ⟨b7,0,none⟩) 2 2]),(b7,[.int .i64 2,.int .i64 7]),(b6,[.int .i64 2,.int .i64 7]),(b5,[.int .i64 8,.int .i64 9]),(b4,[.int .i64 2,.int .i64 6]),(b3,[.int .i64 1,.int .i64 6]),(b2,[.int .i64 1,.int .i64 2]),(b1,[.int .i64 1,.int .i64 5])]
theorem oV:Ly Tryz.prog 196 [] [] (fun x w w'=>∃b1 b2 b3 b4 b5 b6 b7 b8:Nat,x=.sla (some ⟨b8,0,none⟩) 7 7∧Acc w.heap.size (Ea b1 b2 b3 b4 b5 b6 b7 b8) w' []):=
 EI (n:=23) (by kernel_rfl) Tryz.func196 rfl rfl rfl fun G w a h0 A=>have B:=A;have hA:Acc w.heap.size [] w _:=Acc.nil;N9 8 A rfl rfl fun A=>Dw [.int .i64 1,.int .i64 5] (X:=⟨_,true⟩) hX B hA A rfl rfl rfl rfl fun b1 B hA A=>
 N9 2 A rfl rfl fun A=>Dw [.int .i64 1,.int .i64 2] (X:=⟨_,true⟩) hX B hA A rfl rfl rfl rfl fun b2 B hA A=>
 N9 2 A rfl rfl fun A=>Dw [.int .i64 1,.int .i64 6] (X:=⟨_,true⟩) hX B hA A rfl rfl rfl rfl fun b3 B hA A=>
 N9 2 A rfl rfl fun A=>Dw [.int .i64 2,.int .i64 6] (X:=⟨_,true⟩) hX B hA A rfl rfl rfl rfl fun b4 B hA A=>
 N9 2 A rfl rfl fun A=>Dw [.int .i64 8,.int .i64 9] (X:=⟨_,true⟩) hX B hA A rfl rfl rfl rfl fun b5 B hA A=>
 N9 2 A rfl rfl fun A=>Dw [.int .i64 2,.int .i64 7] (X:=⟨_,true⟩) hX B hA A rfl rfl rfl rfl fun b6 B hA A=>
 N9 2 A rfl rfl fun A=>Dw [.int .i64 2,.int .i64 7] (X:=⟨_,true⟩) hX B hA A rfl rfl rfl rfl fun b7 B hA A=>
 N9 1 A rfl rfl fun A=>Dw [.str [108,105],.str [],.int .i64 1,.z9,.z9,.z9,.z9,.z9,.z9,.z9,.z9,.z9,.ff,.ff,.ff,.z9,.z9,.z9,.ff,.sla (some ⟨b1,0,none⟩) 2 2,.str [109,118],.str [],.int .i64 2,.z9,.z9,.z9,.z9,.z9,.z9,.z9,.z9,.z9,.ff,.ff,.ff,.z9,.z9,.z9,.ff,.sla (some ⟨b2,0,none⟩) 2 2,.str [108,42],.str [],.int .i64 4,.z9,.z9,.z9,.z9,.z9,.z9,.z9,.z9,.z9,.ff,.ff,.ff,.z9,.z9,.z9,.ff,.sla (some ⟨b3,0,none⟩) 2 2,.str [115,42],.str [],.int .i64 5,.z9,.z9,.z9,.z9,.z9,.z9,.z9,.z9,.z9,.ff,.ff,.ff,.z9,.z9,.z9,.ff,.sla (some ⟨b4,0,none⟩) 2 2,.str [102,101,110,99,101],.str [],.int .i64 7,.z9,.z9,.z9,.z9,.z9,.z9,.z9,.z9,.z9,.ff,.ff,.ff,.z9,.z9,.z9,.ff,.sla (some ⟨b5,0,none⟩) 2 2,.str [98,101,113,122],.str [],.int .i64 9,.z9,.z9,.z9,.z9,.z9,.z9,.z9,.z9,.z9,.ff,.ff,.ff,.z9,.z9,.z9,.tt,.sla (some ⟨b6,0,none⟩) 2 2,.str [98,110,101,122],.str [],.int .i64 9,.z9,.z9,.z9,.z9,.z9,.z9,.z9,.z9,.z9,.ff,.ff,.ff,.z9,.z9,.z9,.ff,.sla (some ⟨b7,0,none⟩) 2 2] (X:=⟨_,true⟩) hX B hA A rfl rfl rfl rfl fun b8 B hA A=>
 N9 4 A rfl rfl fun A=>JH (J:=fun x w w'=>∃b1 b2 b3 b4 b5 b6 b7 b8:Nat,x=.sla (some ⟨b8,0,none⟩) 7 7∧Acc w.heap.size (Ea b1 b2 b3 b4 b5 b6 b7 b8) w' []) hX (B.trans A) (fun i e he=>CW he) rfl rfl rfl rfl ⟨b1,b2,b3,b4,b5,b6,b7,b8,rfl,(hA.now A).bare⟩
def Jm (b1 b2 b3 b4 b5 b6 b7:Nat):List Rw:=[⟨[108,105],[],⟨1,0,0,0,0,0,0,0,0,0,false,false,false,0,0,0,false⟩,some ⟨b1,0,none⟩,[1,5],2⟩,⟨[109,118],[],⟨2,0,0,0,0,0,0,0,0,0,false,false,false,0,0,0,false⟩,some ⟨b2,0,none⟩,[1,2],2⟩,⟨[108,42],[],⟨4,0,0,0,0,0,0,0,0,0,false,false,false,0,0,0,false⟩,some ⟨b3,0,none⟩,[1,6],2⟩,⟨[115,42],[],⟨5,0,0,0,0,0,0,0,0,0,false,false,false,0,0,0,false⟩,some ⟨b4,0,none⟩,[2,6],2⟩,⟨[102,101,110,99,101],[],⟨7,0,0,0,0,0,0,0,0,0,false,false,false,0,0,0,false⟩,some ⟨b5,0,none⟩,[8,9],2⟩,⟨[98,101,113,122],[],⟨9,0,0,0,0,0,0,0,0,0,false,false,false,0,0,0,true⟩,some ⟨b6,0,none⟩,[2,7],2⟩,⟨[98,110,101,122],[],⟨9,0,0,0,0,0,0,0,0,0,false,false,false,0,0,0,false⟩,some ⟨b7,0,none⟩,[2,7],2⟩]
def oW:List (List UInt8×List UInt8×In×List Int):=[([108,105],[],⟨1,0,0,0,0,0,0,0,0,0,false,false,false,0,0,0,false⟩,[1,5]),([109,118],[],⟨2,0,0,0,0,0,0,0,0,0,false,false,false,0,0,0,false⟩,[1,2]),([108,42],[],⟨4,0,0,0,0,0,0,0,0,0,false,false,false,0,0,0,false⟩,[1,6]),([115,42],[],⟨5,0,0,0,0,0,0,0,0,0,false,false,false,0,0,0,false⟩,[2,6]),([102,101,110,99,101],[],⟨7,0,0,0,0,0,0,0,0,0,false,false,false,0,0,0,false⟩,[8,9]),([98,101,113,122],[],⟨9,0,0,0,0,0,0,0,0,0,false,false,false,0,0,0,true⟩,[2,7]),([98,110,101,122],[],⟨9,0,0,0,0,0,0,0,0,0,false,false,false,0,0,0,false⟩,[2,7])]
def EN:List (List UInt8×List UInt8×In×List Int):=(MO++MP)++oW
theorem TQ {b1 b2 b3 b4 b5 b6 b7 b8 lo lo2:Nat}{w:World}{ks:List Nat}(h:Acc lo (Ea b1 b2 b3 b4 b5 b6 b7 b8) w ks)(Dl:lo2≤lo):RowsIn lo2 (Jm b1 b2 b3 b4 b5 b6 b7) w ks:=by
 intro r hr
 unfold Jm at hr
 simp only [ζ9,ι1,μ9]at hr
 rcases hr with rfl|rfl|rfl|rfl|rfl|rfl|rfl
 ·have q:=BY (b:=b1) (cs:=[]) [1,5] h (by show _∈Ea b1 b2 b3 b4 b5 b6 b7 b8;unfold Ea;simp);exact⟨q.1,fun z hz=>β4 Dl (q.2 z hz)⟩
 ·have q:=BY (b:=b2) (cs:=[]) [1,2] h (by show _∈Ea b1 b2 b3 b4 b5 b6 b7 b8;unfold Ea;simp);exact⟨q.1,fun z hz=>β4 Dl (q.2 z hz)⟩
 ·have q:=BY (b:=b3) (cs:=[]) [1,6] h (by show _∈Ea b1 b2 b3 b4 b5 b6 b7 b8;unfold Ea;simp);exact⟨q.1,fun z hz=>β4 Dl (q.2 z hz)⟩
 ·have q:=BY (b:=b4) (cs:=[]) [2,6] h (by show _∈Ea b1 b2 b3 b4 b5 b6 b7 b8;unfold Ea;simp);exact⟨q.1,fun z hz=>β4 Dl (q.2 z hz)⟩
 ·have q:=BY (b:=b5) (cs:=[]) [8,9] h (by show _∈Ea b1 b2 b3 b4 b5 b6 b7 b8;unfold Ea;simp);exact⟨q.1,fun z hz=>β4 Dl (q.2 z hz)⟩
 ·have q:=BY (b:=b6) (cs:=[]) [2,7] h (by show _∈Ea b1 b2 b3 b4 b5 b6 b7 b8;unfold Ea;simp);exact⟨q.1,fun z hz=>β4 Dl (q.2 z hz)⟩
 ·have q:=BY (b:=b7) (cs:=[]) [2,7] h (by show _∈Ea b1 b2 b3 b4 b5 b6 b7 b8;unfold Ea;simp);exact⟨q.1,fun z hz=>β4 Dl (q.2 z hz)⟩
theorem WL (b1 b2 b3 b4 b5 b6 b7 b8:Nat):Al [] ((Jm b1 b2 b3 b4 b5 b6 b7).flatMap BG)=Al [] [.str [108,105],.str [],.int .i64 1,.z9,.z9,.z9,.z9,.z9,.z9,.z9,.z9,.z9,.ff,.ff,.ff,.z9,.z9,.z9,.ff,.sla (some ⟨b1,0,none⟩) 2 2,.str [109,118],.str [],.int .i64 2,.z9,.z9,.z9,.z9,.z9,.z9,.z9,.z9,.z9,.ff,.ff,.ff,.z9,.z9,.z9,.ff,.sla (some ⟨b2,0,none⟩) 2 2,.str [108,42],.str [],.int .i64 4,.z9,.z9,.z9,.z9,.z9,.z9,.z9,.z9,.z9,.ff,.ff,.ff,.z9,.z9,.z9,.ff,.sla (some ⟨b3,0,none⟩) 2 2,.str [115,42],.str [],.int .i64 5,.z9,.z9,.z9,.z9,.z9,.z9,.z9,.z9,.z9,.ff,.ff,.ff,.z9,.z9,.z9,.ff,.sla (some ⟨b4,0,none⟩) 2 2,.str [102,101,110,99,101],.str [],.int .i64 7,.z9,.z9,.z9,.z9,.z9,.z9,.z9,.z9,.z9,.ff,.ff,.ff,.z9,.z9,.z9,.ff,.sla (some ⟨b5,0,none⟩) 2 2,.str [98,101,113,122],.str [],.int .i64 9,.z9,.z9,.z9,.z9,.z9,.z9,.z9,.z9,.z9,.ff,.ff,.ff,.z9,.z9,.z9,.tt,.sla (some ⟨b6,0,none⟩) 2 2,.str [98,110,101,122],.str [],.int .i64 9,.z9,.z9,.z9,.z9,.z9,.z9,.z9,.z9,.z9,.ff,.ff,.ff,.z9,.z9,.z9,.ff,.sla (some ⟨b7,0,none⟩) 2 2]:=by rfl
section
variable {n:Nat}{ks:List Nat}{G0:Gr}{w0:World}{T:List (Nat×SV)}{H:Hp}{G:Gr}{a:Act}{w:World}{Q:Exit→Act→World→Prop}{K:List Fr}{ops:Array Oper}{o:Oper}{rest:List Oper}
theorem WM (A:Sy n T H ks G0 w0 G a w) (h1:B6 n ops T o=some (196,[]))
  (k:∀b1 b2 b3 b4 b5 b6 b7 b8 vs a' w',Al [] ((Jm b1 b2 b3 b4 b5 b6 b7).flatMap BG)=some vs→Kk b8 0 vs w' (keys H G)→RowsIn w.heap.size (Jm b1 b2 b3 b4 b5 b6 b7) w' (keys H G)→Sy n (Bh T o.dst (.sla (some ⟨b8,0,none⟩) 7 7)) H ks G0 w0 G a' w'→Goal Tryz.prog Q K (.ops ops rest) a' w'):Goal Tryz.prog Q K (.ops ops (o::rest)) a w:=by
 refine OR [] oV A h1 rfl rfl rfl rfl fun x a' w' hJ hk A'=>?_
 obtain⟨b1,b2,b3,b4,b5,b6,b7,b8,rfl,hA⟩:=hJ
 have hA:=Is hA hk
 obtain⟨_,vs,q1,q2⟩:=hA _ ε2
 exact k b1 b2 b3 b4 b5 b6 b7 b8 vs a' w' ((WL b1 b2 b3 b4 b5 b6 b7 b8).trans q1) q2 (TQ hA (β7 _)) A'
end
theorem gA:Fn Tryz.prog 147 [] [] (Rt (.agg [.str [97,48],.str [97,49],.str [97,50],.str [97,51],.str [97,52],.str [97,53],.str [97,54],.str [97,55]]) []):=
 Am (n:=2) (by kernel_rfl) Tryz.func147 rfl rfl rfl fun G w a h0 A=>N9 12 A rfl rfl fun A=>R9 A rfl h0 rfl rfl rfl
theorem LD:Ly Tryz.prog 146 [] [] (fun x w w'=>∃(L:List Rw) (b cp:Nat),x=.agg [.str [97,48],.str [97,49],.str [97,50],.str [97,51],.str [97,52],.str [97,53],.str [97,54],.str [97,55],.str [98],.str [104],.str [119],.str [100],.str [],.str [114],.str [119],.str [114,119],.sla (some ⟨b,0,none⟩) 25 cp]∧(L.map tm=EN∧RowsIn w.heap.size L w' [b])∧w.heap.size≤b∧Cb 203 20 25 (fun zz=>BG (L.getD zz Rw.z)) b cp w'):=
 EI (n:=10) (by kernel_rfl) Tryz.func146 rfl rfl rfl fun G w a h0 A=>N9 7 A rfl rfl fun A=>C9 [] (gA) A rfl fun A=>N9 2 A rfl rfl fun A=>have hz:=A.mix.size;HH (t:=4) (F:=fun(L:List Rw) zz=>BG (L.getD zz Rw.z)) (R:=fun L b w w'=>L.map tm=MO∧RowsIn w.heap.size L w' [b]) fX A rfl rfl fun L1 b1 cp1 a1 w1 G1 jM Dl hk A=>have l1:L1.length=10:=(by have q:=congrArg List.length jM.1;rw [δ2]at q;exact q);have hI:=(Bi jM.2 hk).mono hz;have B:=A;have A:=B.base;
 have hz:=β4 B.mix.size A.mix.size;HH (t:=5) (F:=fun(L:List Rw) zz=>BG (L.getD zz Rw.z)) (R:=fun L b w w'=>L.map tm=MP∧RowsIn w.heap.size L w' [b]) fZ A rfl rfl fun L2 b2 cp2 a2_ w2 G2 xU Dl hk A=>have l2:L2.length=8:=(by have q:=congrArg List.length xU.1;rw [δ2]at q;exact q);have CT:=(Bi xU.2 hk).mono hz;have hI:=(RowsIn.ok _ _ _ _ hI A.mix A.keys_own).app CT;have l12:(L1++L2).length=18:=(by rw [α4,l1,l2]);have B:=B.trans A;have A:=A.base;
 have hz:=β4 B.mix.size A.mix.size;WM A rfl fun c1 c2 c3 c4 c5 c6 c7 c8 vs a3 w3 hv hL hO A=>have hI:=(RowsIn.ok _ _ _ _ hI A.mix A.keys_own).app (hO.mono hz);have B:=B.trans A;have A:=A.base;have A:=A.adoptL Rw.z BG 20 ID.1 ID.2.1 ID.2.2 (Jm c1 c2 c3 c4 c5 c6 c7) hL hv 6 rfl;
 N9 1 A rfl rfl fun A=>have A:=A.freeze 1 rfl;have A:=A.freeze 2 rfl;C9 [4,1,2,3] (Yq L1 L2 (Jm c1 c2 c3 c4 c5 c6 c7) 0 0 7 l1 l12) A rfl fun A=>match A.giveRow 5 8 (by decide) rfl rfl rfl with|⟨b,cp,A2,hG,ho,rD⟩=>(have h1:=RowsIn.ok _ _ _ _ hI A2.mix A2.keys_own;have h2:=RowsIn.ok _ _ _ [b] hI A2.mix (fun b2 hb=>by have:b2=b:=(by simpa using hb);rw [this];exact ho);have ZN:=IS B (fun i e he=>CW he) ho;have B:=B.trans A2;have A:=A2.base;
 N9 5 A rfl rfl fun A=>JH (J:=fun x w w'=>∃(L:List Rw) (b cp:Nat),x=.agg [.str [97,48],.str [97,49],.str [97,50],.str [97,51],.str [97,52],.str [97,53],.str [97,54],.str [97,55],.str [98],.str [104],.str [119],.str [100],.str [],.str [114],.str [119],.str [114,119],.sla (some ⟨b,0,none⟩) 25 cp]∧(L.map tm=EN∧RowsIn w.heap.size L w' [b])∧w.heap.size≤b∧Cb 203 20 25 (fun zz=>BG (L.getD zz Rw.z)) b cp w') hX (B.trans A) (fun i e he=>CW he) rfl rfl rfl rfl ⟨(L1++L2)++(Jm c1 c2 c3 c4 c5 c6 c7),b,cp,rfl,⟨by rw [ζ5,ζ5,jM.1,xU.1];rfl,h1.one h2 A.mix⟩,ZN,hG.mix A.mix rD⟩)
end Go.Proofs.YtbbdanhpphlbpaaGreatDoor
namespace Go.Proofs.YtbbdanhpphlbpaaGreatDoor
open Go.RowKit
section
variable {g:Lg}{L:List Rw}{i:In}{lb:List UInt8}{r:Rw}
theorem O4 (h:Ej i=false):B8 i.op i.dst i.ra i.rb i.imm i.loc i.off i.ix i.sz i.fn i.acq i.weak i.rel i.pred i.succ i.to_ i.zero=true:=by
 cases hs:B8 i.op i.dst i.ra i.rb i.imm i.loc i.off i.ix i.sz i.fn i.acq i.weak i.rel i.pred i.succ i.to_ i.zero with
 |true=>rfl
 |false=>
  exfalso
  unfold Ej F7 at h
  rw [hs,Bool.not_false,σ0,if_pos rfl]at h
  exact absurd h (by decide)
theorem HM (h:CZ i.op i.dst i.ra i.rb i.imm i.loc i.off i.ix i.sz i.fn i.acq i.weak i.rel i.pred i.succ i.to_ i.zero=true):0≤i.loc∧i.loc<3:=by
 unfold CZ at h
 split at h
 ·split at h
  ·omega
  ·cases h
 ·cases h
theorem Yr (h:Ej i=false)(ho:i.op=4∨i.op=5∨i.op=6):0≤i.loc∧i.loc<3:=by
 have hs:=O4 h
 unfold B8 at hs
 rw [if_neg (by omega),if_neg (by omega),if_neg (by omega)]at hs
 rcases ho with ho|ho|ho
 ·rw [if_pos ho]at hs
  split at hs
  ·rw [α3]at hs;exact HM hs.1
  ·cases hs
 ·rw [if_neg (by omega),if_pos ho]at hs
  split at hs
  ·exact HM hs
  ·cases hs
 ·rw [if_neg (by omega),if_neg (by omega),if_pos ho]at hs
  split at hs
  ·split at hs
   ·rw [α3]at hs;exact HM hs.1
   ·cases hs
  ·cases hs
theorem R1 (h:Ej i=false)(ho:i.op=7):(1≤i.pred∧i.pred≤3)∧(1≤i.succ∧i.succ≤3):=by
 have hs:=O4 h
 unfold B8 at hs
 rw [if_neg (by omega),if_neg (by omega),if_neg (by omega),if_neg (by omega),if_neg (by omega),if_neg (by omega),if_pos ho]at hs
 split at hs
 ·next hp=>
  simp only [β9,ε4]at hp hs
  omega
 ·cases hs
theorem WN (i J:In)(p:Int):(D6 i J p).op=J.op:=by
 unfold D6
 repeat' split
 all_goals rfl
theorem gB (r:Rw)(i:In):(r.lay i).op=r.ins.op:=by
 have:∀(l:List Int) (J:In),(l.foldl (D6 i) J).op=J.op:=by
  intro l
  induction l with
  |nil=>intro J;rfl
  |cons p l ih=>intro J;rw [μ5,ih,WN]
 exact this r.ps (bare r.ins)
theorem gC (h:Fl L i=true):i.op=(BD L i).ins.op:=by
 unfold Fl at h
 unfold BD
 cases hf:L.find? (Fk i)with
 |none=>rw [hf]at h;cases h
 |some r=>
  have:=υ4 hf
  unfold Fk at this
  rw [α3]at this
  have h2:=this.1
  unfold O0 at h2
  rw [α3,ε4,gB]at h2
  exact h2.1.symm
end
def yV (g:Lg)(T:List (List UInt8×List UInt8×In×List Int)):Bool:=T.all fun x=>
 decide (x.1.length≤1000)&&decide (Lib.countB (S x.1) (S [42])≤1000)&&decide (x.2.2.2.length≤4)&&decide (x.2.1.length≤1000)&&
 ((List.range 4).all fun k=>decide ((Lib.replace x.1 [42] (g.let.getD k []) 1).length≤1000))&&
 (x.2.2.2.all fun p=>(!(p==6)||(x.2.2.1.op==4||(x.2.2.1.op==5||x.2.2.1.op==6)))&&(!(p==8||p==9)||x.2.2.1.op==7))
theorem R3 {B:Nat}:∀(l:List (List UInt8)),(∀x∈l,x.length≤B)→Lib.lens l≤l.length*B
 | [],_=>by simp [Lib.lens]
 |x::l,h=>by
  have h1:=R3 l (fun y hy=>h y (ζ7 _ hy))
  have h2:=h x ε2
  have e:Lib.lens (x::l)=x.length+Lib.lens l:=by simp [Lib.lens]
  rw [e,α5,ι9];omega
theorem join_le {B:Nat}(l:List (List UInt8))(h:∀x∈l,x.length≤B):(Lib.join l [44]).length≤l.length*(B+1):=by
 cases l with
 |nil=>exact β8 _
 |cons x l=>
  rw [Lib.join_length]
  have:=R3 (x::l) h
  rw [Nat.mul_add,α5]at*
  simp only [α5,α7]
  omega
theorem Ys:yV Ep Ir=true:=by decide+kernel
theorem Nd {a b c:List UInt8}{B:Nat}(ha:a.length≤B)(hb:b.length≤B)(hc:c.length≤B)(k:Nat):([a,b,c].getD k []).length≤B:=by
 by_cases h:k<3
 ·have:k=0∨k=1∨k=2:=by omega
  rcases this with rfl|rfl|rfl
  ·exact ha
  ·exact hb
  ·exact hc
 ·rw [α6,γ4 (by simpa using h)];exact β8 _
structure j7 (g:Lg):Prop where
 lg:YZ g
 lt:∀k,([g.l0,g.l1,g.l2,g.l3].getD k []).length≤1000
 f0:g.f0.length≤1000
 f1:g.f1.length≤1000
 f2:g.f2.length≤1000
structure aO (i:In):Prop where
 im: -9223372036854775808≤i.imm∧i.imm≤9223372036854775807
 of_: -9223372036854775808≤i.off∧i.off≤9223372036854775807
section
variable {g:Lg}{L:List Rw}{i:In}{lb:List UInt8}{r:Rw}
theorem gD (hg:j7 g)(hi:aO i):(O2 g i).length≤1100:=by
 have q1:=hg.lg.rg i.ix
 have q2:=Lib.itoa_length_le i.off hi.of_.1 hi.of_.2
 have q3:=Nd (a:=[120]) (b:=[121]) (c:=[122]) (B:=1) (by decide) (by decide) (by decide) (i.loc).toNat
 unfold O2 P8 fG
 split<;>split<;>(simp only [α4,α5,α7];omega)
theorem gE (hg:j7 g)(hi:aO i)(hw:r.wd.length≤1000)(p:Int):(JR g r p i lb).length≤2000+lb.length:=by
 have q1:=hg.lg.rg (F8 p i).1
 have q2:=Lib.itoa_length_le i.imm hi.im.1 hi.im.2
 have q3:=hg.lg.im
 have q4:=gD hg hi
 have q5:=Nd hg.f0 hg.f1 hg.f2 (i.pred - 1).toNat
 have q6:=Nd hg.f0 hg.f1 hg.f2 (i.succ - 1).toNat
 unfold JR
 split
 ·omega
 split
 ·rw [α4];omega
 split
 ·omega
 split
 ·omega
 split
 ·omega
 split
 ·omega
 ·omega
theorem WO {T:List (List UInt8×List UInt8×In×List Int)}(hm:L.map tm=T)(hg:j7 g)(hB:yV g T=true)(hn:T.length≤1000)(hi:aO i)(hl:lb.length≤100000):Lj g L i lb:=by
 have hlen:L.length≤1000:=by have:=congrArg List.length hm;rw [δ2]at this;omega
 have J4:∀r∈L,r.nm.length≤1000∧Lib.countB (S r.nm) (S [42])≤1000∧r.ps.length≤4∧r.wd.length≤1000∧(∀k,k<4→(Lib.replace r.nm [42] (g.let.getD k []) 1).length≤1000)∧∀p∈r.ps,(p=6→r.ins.op=4∨r.ins.op=5∨r.ins.op=6)∧(p=8∨p=9→r.ins.op=7):=fun r hr=>by
  have:=(δ7.1 hB) _ (fV hm hr)
  simp only [α3,δ5]at this
  obtain⟨⟨⟨⟨⟨h1,h2⟩,h3⟩,h4⟩,h5⟩,h6⟩:=this
  refine⟨h1,h2,h3,h4,fun k hk=>?_,fun p hp=>?_⟩
  ·have:=(δ7.1 h5) k (ε8.2 hk)
   exact δ0 this
  ·have:=(δ7.1 h6) p hp
   simp only [α3,β9,κ8,ε4,δ1,δ6]at this
   obtain⟨a1,a2⟩:=this
   refine⟨fun e=>?_,fun e=>?_⟩
   ·rcases a1 with a1|a1
    ·exact absurd e a1
    ·exact a1
   ·rcases a2 with a2|a2
    ·rcases e with e|e
     ·exact absurd e a2.1
     ·exact absurd e a2.2
    ·exact a2
 have hz:∀k,(L.getD k Rw.z)∈L∨L.getD k Rw.z=Rw.z:=fun k=>by
  by_cases h:k<L.length
  ·left;rw [α6,β0 h];exact η9 h
  ·right;rw [α6,γ4 (by omega)];rfl
 have hr:BD L i∈L∨BD L i=Rw.z:=by
  unfold BD
  cases hf:L.find? (Fk i)with
  |none=>exact .inr rfl
  |some r=>exact .inl (List.mem_of_find?_eq_some hf)
 have sU:Rw.z.nm=[]∧Rw.z.ps=[]∧Rw.z.wd=[]:=⟨rfl,rfl,rfl⟩
 have hnl:(GO g (BD L i).nm i.sz).length≤1000:=by
  unfold GO
  split
  ·next hk=>
   rcases hr with hr|hr
   ·exact(J4 _ hr).2.2.2.2.1 _ hk
   ·rw [hr,sU.1]
    have:Vw i.sz=0∨Vw i.sz=1∨Vw i.sz=2∨Vw i.sz=3:=by omega
    have e:∀y:List UInt8,(Lib.replace [] [42] y 1)=[]:=fun y=>by
     unfold Lib.replace
     split
     ·rfl
     ·have hc:Lib.index [] [42]= -1:=by decide
      cases Lib.replaceNum [] [42] 1 with
      |zero=>rfl
      |succ k=>unfold Lib.replaceK;rw [hc];rfl
    rw [e];exact β8 _
  ·rcases hr with hr|hr
   ·exact(J4 _ hr).1
   ·rw [hr,sU.1];exact β8 _
 refine⟨hg.lg,hg.lt,fun k=>?_,by omega,hi.im,?_,fun hw hq k hk=>?_,by omega,?_⟩
 ·rcases hz k with h|h
  ·have:=(J4 _ h).2.2.1;omega
  ·rw [h,sU.2.1];exact β8 _
 ·rcases hr with hr|hr
  ·exact⟨(J4 _ hr).1,(J4 _ hr).2.1⟩
  ·rw [hr,sU.1];exact⟨β8 _,by decide⟩
 ·have ZF:=KJ hq
  have CJ:=gC hq
  have hp:(BD L i).ps.getD k 0∈(BD L i).ps:=by rw [α6,β0 hk];exact η9 hk
  obtain⟨h6,zN⟩:=(J4 _ ZF).2.2.2.2.2 _ hp
  refine⟨fun e=>⟨Yr hw (by rw [CJ];exact h6 e),hi.of_⟩,fun e=>(R1 hw (by rw [CJ];exact zN (.inl e))).1,fun e=>(R1 hw (by rw [CJ];exact zN (.inr e))).2⟩
 ·have ZL:(BD L i).ps.length≤4∧(BD L i).wd.length≤1000:=by
   rcases hr with hr|hr
   ·exact⟨(J4 _ hr).2.2.1,(J4 _ hr).2.2.2.1⟩
   ·rw [hr];exact⟨β8 _,β8 _⟩
  have h1:=join_le (B:=2000+lb.length) (JS g (BD L i) i lb) (fun x hx=>by
   unfold JS at hx
   obtain⟨p,_,rfl⟩:=List.mem_map.1 hx
   exact gE hg hi ZL.2 p)
  have h2:(JS g (BD L i) i lb).length≤4:=by unfold JS;rw [δ2];exact ZL.1
  have h3:(JS g (BD L i) i lb).length*(2000+lb.length+1)≤4*(2000+lb.length+1):=θ6 _ h2
  omega
end
theorem gF:j7 Ep:=by
 refine⟨⟨fun r=>?_,by decide⟩,fun k=>?_,by decide,by decide,by decide⟩
 ·unfold GH
  split
  ·exact β8 _
  ·next h=>
   have:(r).toNat=0∨(r).toNat=1∨(r).toNat=2∨(r).toNat=3∨(r).toNat=4∨(r).toNat=5∨(r).toNat=6∨(r).toNat=7:=by
    simp only [β9,δ5]at h;omega
   rcases this with e|e|e|e|e|e|e|e<;>rw [e]<;>decide
 ·by_cases h:k<4
  ·have:k=0∨k=1∨k=2∨k=3:=by omega
   rcases this with rfl|rfl|rfl|rfl<;>decide
  ·rw [α6,γ4 (by simpa using h)];decide
theorem WQ {L:List Rw}{i:In}{lb:List UInt8}(hi:aO i)(hl:lb.length≤100000)(hm:L.map tm=Ir):Lj Ep L i lb:=WO hm gF Ys (by decide+kernel) hi hl
end Go.Proofs.YtbbdanhpphlbpaaGreatDoor
namespace Go.Proofs.YtbbdanhpphlbpaaGreatDoor
open Go.RowKit
set_option simprocs false
def Ck:Lg:=⟨[97,48],[97,49],[97,50],[97,51],[97,52],[97,53],[97,54],[97,55],[98],[104],[119],[100],[],[114],[119],[114,119]⟩
def H7:List Rw:=EN.map Yl
theorem O5 {L:List Rw}{i:In}{lb:List UInt8}(h:L.map tm=EN):Dg Ck L i lb=Dg Ck H7 i lb:=by
 have:=QB (g:=Ck) (L:=L) (i:=i) (lb:=lb)
 rw [WG h]at this
 exact this.symm
theorem WR:j7 Ck:=by
 refine⟨⟨fun r=>?_,by decide⟩,fun k=>?_,by decide,by decide,by decide⟩
 ·unfold GH
  split
  ·exact β8 _
  ·next h=>
   have:(r).toNat=0∨(r).toNat=1∨(r).toNat=2∨(r).toNat=3∨(r).toNat=4∨(r).toNat=5∨(r).toNat=6∨(r).toNat=7:=by
    simp only [β9,δ5]at h;omega
   rcases this with e|e|e|e|e|e|e|e<;>rw [e]<;>decide
 ·by_cases h:k<4
  ·have:k=0∨k=1∨k=2∨k=3:=by omega
   rcases this with rfl|rfl|rfl|rfl<;>decide
  ·rw [α6,γ4 (by simpa using h)];decide
theorem QC {L:List Rw}{i:In}{lb:List UInt8}(hi:aO i)(hl:lb.length≤100000)(hm:L.map tm=EN):Lj Ck L i lb:=WO hm WR (by decide+kernel) (by decide+kernel) hi hl
theorem Yt (i:In)(lb:List UInt8)(os:List (Nat×Obj))(hM:LR os)(hT:NU os)(hE:MF os)(hp:∀L:List Rw,L.map tm=EN→Lj Ck L i lb):CE (Gl os) Tryz.prog 113 [.agg (A5 i),.str lb] [] (Rt (.tup [.str ((Dg Ck H7 i lb).1),.int .i64 ((Dg Ck H7 i lb).2)]) []):=
 BB (n:=12) (by kernel_rfl) Tryz.func113 rfl rfl rfl fun G w a h0 hI A=>N9 8 A rfl rfl fun A=>NC 8 By rfl A fun{w2} A=>KE (fun(tail:∀(L:List Rw) {G1:Gr} {a1:Act} {w1:World},L.map tm=EN→L.length=25→FU os L w1 (keys [some (.blk (A5 i)),some (FT L)] G1)→Sy 12 [(6,.agg [.str [97,48],.str [97,49],.str [97,50],.str [97,51],.str [97,52],.str [97,53],.str [97,54],.str [97,55],.str [98],.str [104],.str [119],.str [100],.str [],.str [114],.str [119],.str [114,119],.sl 1 L.length 0]),(7,.agg (A5 i)),(8,.str lb)] [some (.blk (A5 i)),some (FT L)] (keys [] G) G w G1 a1 w1→wpAny Tryz.prog .any _ _ _ _ a1 w1)=>Aw (rs:=[0,1,2]) (by kernel_rfl) (by decide) (Cc ⟨DC (t:=6) (l:=[.str [97,48],.str [97,49],.str [97,50],.str [97,51],.str [97,52],.str [97,53],.str [97,54],.str [97,55],.str [98],.str [104],.str [119],.str [100],.str [],.str [114],.str [119],.str [114,119]]) (F:=fun(L:List Rw) zz=>BG (L.getD zz Rw.z)) (R:=fun L b w w'=>L.map tm=EN∧RowsIn w.heap.size L w' [b]) rfl LD A rfl rfl fun L b cp a1 w1 G1 hR Dl Iw A=>have Br:L.length=25:=(by have q:=congrArg List.length hR.1;rw [δ2]at q;exact q.trans (by decide+kernel));have Ix:=Bi hR.2 Iw;have B0:=A;have A:=A.base;have A:=A.rowAs 1 L.length (fun zz=>BG (L.getD zz Rw.z)) rfl Br (fun _ _=>rfl) (fun z=>⟨_,rfl,rfl⟩);have A:=A.say 6 (.agg [.str [97,48],.str [97,49],.str [97,50],.str [97,51],.str [97,52],.str [97,53],.str [97,54],.str [97,55],.str [98],.str [104],.str [119],.str [100],.str [],.str [114],.str [119],.str [114,119],.sl 1 L.length 0]) rfl (by rw [Br]<;>rfl);have A:=A.freeze 1 rfl;have Iy:=RowsIn.ok.now A Ix;have B:=B0.trans A;have A:=A.base;have CT:FU os L _ _:=⟨fun r hr=>(Iy r hr).1,Gl.ok.now B hI⟩;Aw (rs:=[1,2]) (by kernel_rfl) (by decide) (Cc ⟨Da (.agg (A5 i)) rfl A rfl rfl fun A=>Aw (rs:=[2]) (by kernel_rfl) (by decide) (Cc ⟨Da (.str lb) rfl A rfl rfl fun A=>tail L hR.1 Br (FU.ok.now A CT) ((B.trans A).cut [6,7,8] rfl),
    (DF)⟩),
   (Cc ⟨Da (.str lb) rfl A rfl rfl fun A=>Aw (rs:=[1]) (by kernel_rfl) (by decide) (Cc ⟨Da (.agg (A5 i)) rfl A rfl rfl fun A=>tail L hR.1 Br (FU.ok.now A CT) ((B.trans A).cut [6,7,8] rfl),
    (DF)⟩),
   (DF)⟩)⟩),
  (Cc ⟨Da (.agg (A5 i)) rfl A rfl rfl fun A=>Aw (rs:=[0,2]) (by kernel_rfl) (by decide) (Cc ⟨DC (t:=6) (l:=[.str [97,48],.str [97,49],.str [97,50],.str [97,51],.str [97,52],.str [97,53],.str [97,54],.str [97,55],.str [98],.str [104],.str [119],.str [100],.str [],.str [114],.str [119],.str [114,119]]) (F:=fun(L:List Rw) zz=>BG (L.getD zz Rw.z)) (R:=fun L b w w'=>L.map tm=EN∧RowsIn w.heap.size L w' [b]) rfl LD A rfl rfl fun L b cp a1 w1 G1 hR Dl Iw A=>have Br:L.length=25:=(by have q:=congrArg List.length hR.1;rw [δ2]at q;exact q.trans (by decide+kernel));have Ix:=Bi hR.2 Iw;have B0:=A;have A:=A.base;have A:=A.rowAs 1 L.length (fun zz=>BG (L.getD zz Rw.z)) rfl Br (fun _ _=>rfl) (fun z=>⟨_,rfl,rfl⟩);have A:=A.say 6 (.agg [.str [97,48],.str [97,49],.str [97,50],.str [97,51],.str [97,52],.str [97,53],.str [97,54],.str [97,55],.str [98],.str [104],.str [119],.str [100],.str [],.str [114],.str [119],.str [114,119],.sl 1 L.length 0]) rfl (by rw [Br]<;>rfl);have A:=A.freeze 1 rfl;have Iy:=RowsIn.ok.now A Ix;have B:=B0.trans A;have A:=A.base;have CT:FU os L _ _:=⟨fun r hr=>(Iy r hr).1,Gl.ok.now B hI⟩;Aw (rs:=[2]) (by kernel_rfl) (by decide) (Cc ⟨Da (.str lb) rfl A rfl rfl fun A=>tail L hR.1 Br (FU.ok.now A CT) ((B.trans A).cut [6,7,8] rfl),
    (DF)⟩),
   (Cc ⟨Da (.str lb) rfl A rfl rfl fun A=>Aw (rs:=[0]) (by kernel_rfl) (by decide) (Cc ⟨DC (t:=6) (l:=[.str [97,48],.str [97,49],.str [97,50],.str [97,51],.str [97,52],.str [97,53],.str [97,54],.str [97,55],.str [98],.str [104],.str [119],.str [100],.str [],.str [114],.str [119],.str [114,119]]) (F:=fun(L:List Rw) zz=>BG (L.getD zz Rw.z)) (R:=fun L b w w'=>L.map tm=EN∧RowsIn w.heap.size L w' [b]) rfl LD A rfl rfl fun L b cp a1 w1 G1 hR Dl Iw A=>have Br:L.length=25:=(by have q:=congrArg List.length hR.1;rw [δ2]at q;exact q.trans (by decide+kernel));have Ix:=Bi hR.2 Iw;have B0:=A;have A:=A.base;have A:=A.rowAs 1 L.length (fun zz=>BG (L.getD zz Rw.z)) rfl Br (fun _ _=>rfl) (fun z=>⟨_,rfl,rfl⟩);have A:=A.say 6 (.agg [.str [97,48],.str [97,49],.str [97,50],.str [97,51],.str [97,52],.str [97,53],.str [97,54],.str [97,55],.str [98],.str [104],.str [119],.str [100],.str [],.str [114],.str [119],.str [114,119],.sl 1 L.length 0]) rfl (by rw [Br]<;>rfl);have A:=A.freeze 1 rfl;have Iy:=RowsIn.ok.now A Ix;have B:=B0.trans A;have A:=A.base;have CT:FU os L _ _:=⟨fun r hr=>(Iy r hr).1,Gl.ok.now B hI⟩;tail L hR.1 Br (FU.ok.now A CT) ((B.trans A).cut [6,7,8] rfl),
    (DF)⟩),
   (DF)⟩)⟩),
  (Cc ⟨Da (.str lb) rfl A rfl rfl fun A=>Aw (rs:=[0,1]) (by kernel_rfl) (by decide) (Cc ⟨DC (t:=6) (l:=[.str [97,48],.str [97,49],.str [97,50],.str [97,51],.str [97,52],.str [97,53],.str [97,54],.str [97,55],.str [98],.str [104],.str [119],.str [100],.str [],.str [114],.str [119],.str [114,119]]) (F:=fun(L:List Rw) zz=>BG (L.getD zz Rw.z)) (R:=fun L b w w'=>L.map tm=EN∧RowsIn w.heap.size L w' [b]) rfl LD A rfl rfl fun L b cp a1 w1 G1 hR Dl Iw A=>have Br:L.length=25:=(by have q:=congrArg List.length hR.1;rw [δ2]at q;exact q.trans (by decide+kernel));have Ix:=Bi hR.2 Iw;have B0:=A;have A:=A.base;have A:=A.rowAs 1 L.length (fun zz=>BG (L.getD zz Rw.z)) rfl Br (fun _ _=>rfl) (fun z=>⟨_,rfl,rfl⟩);have A:=A.say 6 (.agg [.str [97,48],.str [97,49],.str [97,50],.str [97,51],.str [97,52],.str [97,53],.str [97,54],.str [97,55],.str [98],.str [104],.str [119],.str [100],.str [],.str [114],.str [119],.str [114,119],.sl 1 L.length 0]) rfl (by rw [Br]<;>rfl);have A:=A.freeze 1 rfl;have Iy:=RowsIn.ok.now A Ix;have B:=B0.trans A;have A:=A.base;have CT:FU os L _ _:=⟨fun r hr=>(Iy r hr).1,Gl.ok.now B hI⟩;Aw (rs:=[1]) (by kernel_rfl) (by decide) (Cc ⟨Da (.agg (A5 i)) rfl A rfl rfl fun A=>tail L hR.1 Br (FU.ok.now A CT) ((B.trans A).cut [6,7,8] rfl),
    (DF)⟩),
   (Cc ⟨Da (.agg (A5 i)) rfl A rfl rfl fun A=>Aw (rs:=[0]) (by kernel_rfl) (by decide) (Cc ⟨DC (t:=6) (l:=[.str [97,48],.str [97,49],.str [97,50],.str [97,51],.str [97,52],.str [97,53],.str [97,54],.str [97,55],.str [98],.str [104],.str [119],.str [100],.str [],.str [114],.str [119],.str [114,119]]) (F:=fun(L:List Rw) zz=>BG (L.getD zz Rw.z)) (R:=fun L b w w'=>L.map tm=EN∧RowsIn w.heap.size L w' [b]) rfl LD A rfl rfl fun L b cp a1 w1 G1 hR Dl Iw A=>have Br:L.length=25:=(by have q:=congrArg List.length hR.1;rw [δ2]at q;exact q.trans (by decide+kernel));have Ix:=Bi hR.2 Iw;have B0:=A;have A:=A.base;have A:=A.rowAs 1 L.length (fun zz=>BG (L.getD zz Rw.z)) rfl Br (fun _ _=>rfl) (fun z=>⟨_,rfl,rfl⟩);have A:=A.say 6 (.agg [.str [97,48],.str [97,49],.str [97,50],.str [97,51],.str [97,52],.str [97,53],.str [97,54],.str [97,55],.str [98],.str [104],.str [119],.str [100],.str [],.str [114],.str [119],.str [114,119],.sl 1 L.length 0]) rfl (by rw [Br]<;>rfl);have A:=A.freeze 1 rfl;have Iy:=RowsIn.ok.now A Ix;have B:=B0.trans A;have A:=A.base;have CT:FU os L _ _:=⟨fun r hr=>(Iy r hr).1,Gl.ok.now B hI⟩;tail L hR.1 Br (FU.ok.now A CT) ((B.trans A).cut [6,7,8] rfl),
    (DF)⟩),
   (DF)⟩)⟩),
  (DF)⟩)⟩)⟩)) (fun L {G1 a1 w1} rE Br CT A=>have hR:L.map tm=EN∧True:=⟨rE,trivial⟩;have B:=A;have A:=B.base;Aw (rs:=[3]) (by kernel_rfl) (by decide) (Cc ⟨Em (x:=.tup [.str ((Dg Ck L i lb).1),.int .i64 ((Dg Ck L i lb).2)]) (H':=[some (.blk (A5 i)),some (FT L)]) rfl A rfl (De [1] FU.ok CT (NX Ck L 0 i lb os hM hT hE (hp L hR.1)) rfl rfl rfl rfl rfl rfl rfl) fun A=>Aw (rs:=[4,5]) (by kernel_rfl) (by decide) (Cc ⟨Da (.str ((Dg Ck L i lb).1)) rfl A rfl rfl fun A=>Aw (rs:=[5]) (by kernel_rfl) (by decide) (Cc ⟨Da (.int .i64 ((Dg Ck L i lb).2)) rfl A rfl rfl fun A=>Aw (rs:=[6]) (by kernel_rfl) (by decide) (Cc ⟨Da (.str ((Dg Ck L i lb).1)) rfl A rfl rfl fun A=>Aw (rs:=[7]) (by kernel_rfl) (by decide) (Cc ⟨Da (.int .i64 ((Dg Ck L i lb).2)) rfl A rfl rfl fun A=>El (by kernel_rfl) (N9 2 A rfl rfl fun A=>R9 (B.trans A) rfl h0 rfl (by rw [←O5 hR.1]<;>rfl) rfl),
      (DF)⟩),
     (DF)⟩),
    (DF)⟩),
   (Cc ⟨Da (.int .i64 ((Dg Ck L i lb).2)) rfl A rfl rfl fun A=>Aw (rs:=[4]) (by kernel_rfl) (by decide) (Cc ⟨Da (.str ((Dg Ck L i lb).1)) rfl A rfl rfl fun A=>Aw (rs:=[6]) (by kernel_rfl) (by decide) (Cc ⟨Da (.str ((Dg Ck L i lb).1)) rfl A rfl rfl fun A=>Aw (rs:=[7]) (by kernel_rfl) (by decide) (Cc ⟨Da (.int .i64 ((Dg Ck L i lb).2)) rfl A rfl rfl fun A=>El (by kernel_rfl) (N9 2 A rfl rfl fun A=>R9 (B.trans A) rfl h0 rfl (by rw [←O5 hR.1]<;>rfl) rfl),
      (DF)⟩),
     (DF)⟩),
    (DF)⟩),
   (DF)⟩)⟩),
  (DF)⟩))
end Go.Proofs.YtbbdanhpphlbpaaGreatDoor
namespace Go.Proofs.YtbbdanhpphlbpaaGreatDoor.Ar
open Go.RowKit
set_option simprocs false
section
variable {P:Program}{n:Nat}{ks:List Nat}{G0:Gr}{w0:World}{T:List (Nat×SV)}{H:Hp}{G:Gr}{a:Act}{w w':World}{Q:Exit→Act→World→Prop}{K:List Fr}{ops:Array Oper}{o:Oper}{rest:List Oper}{c:Code}
theorem Lk {q:Nat}(h:Goal P Q (.lp (Code.rounds P c (Fz P Q K) q)::K) (.code c) a w):Code.rounds P c (Fz P Q K) (q+1) a w:=h
theorem oU (q:Nat)(h:Code.rounds P c (Fz P Q K) q a w):Goal P Q K (.code (.loop c)) a w:=wp_loop_rounds q h
end
theorem Gz {i o s m k:Nat}(j:Nat){q:Nat}(hq:o+j*s+k=q):∀G,den G (.ix (.ptr i o) s m (j:Int) k)=den G (.ptr i q):=fun G=>by
 subst hq
 unfold den
 cases hG:G[i]? with
 |none=>unfold den;rw [hG]
 |some p=>cases p with
  |none=>unfold den;rw [hG]
  |some L=>unfold den;rw [hG];simp [θ4]
theorem WS (L1 L2 L3 L4 L5:List Rw) (c1 c2 c3 c4 c5:Nat) (l1:L1.length=10) (l12:(L1++L2).length=15) (l13:((L1++L2)++L3).length=23) (l14:(((L1++L2)++L3)++L4).length=26):Fn Tryz.prog 193 [.sl 0 5 5] [some (.blk [.sl 1 10 c1,.sl 2 5 c2,.sl 3 8 c3,.sl 4 3 c4,.sl 5 5 c5]),some (.lst 20 10 (fun zz=>BG (L1.getD zz Rw.z))),some (.lst 20 5 (fun zz=>BG (L2.getD zz Rw.z))),some (.lst 20 8 (fun zz=>BG (L3.getD zz Rw.z))),some (.lst 20 3 (fun zz=>BG (L4.getD zz Rw.z))),some (.lst 20 5 (fun zz=>BG (L5.getD zz Rw.z)))] (Rt (.sl 6 31 0) [some (.blk [.sl 1 10 c1,.sl 2 5 c2,.sl 3 8 c3,.sl 4 3 c4,.sl 5 5 c5]),some (.lst 20 10 (fun zz=>BG (L1.getD zz Rw.z))),some (.lst 20 5 (fun zz=>BG (L2.getD zz Rw.z))),some (.lst 20 8 (fun zz=>BG (L3.getD zz Rw.z))),some (.lst 20 3 (fun zz=>BG (L4.getD zz Rw.z))),some (.lst 20 5 (fun zz=>BG (L5.getD zz Rw.z))),some (.row 203 20 31 0 (fun zz=>BG (((((L1++L2)++L3)++L4)++L5).getD zz Rw.z)))]):=
 Am (n:=36) (by kernel_rfl) Tryz.func193 rfl rfl rfl fun G w a h0 A=>N9 15 A rfl rfl fun A=>have A:=Ai A 10 (.int .i64 5) rfl (fun _=>rfl);N9 1 A rfl rfl fun A=>N9 3 A rfl rfl fun A=>oU 6 (Lk (have A:=A.cut [0,2,3,9,10,11] rfl;
 N9 6 A rfl rfl fun A=>Aq 12 A rfl
   (fun h1 A=>N9 8 A rfl (Aj (by omega)<|Ah) fun A=>have A:=Ai A 13 (.ptr 0 0) rfl (Gz 0 rfl);N9 7 A rfl rfl fun A=>N9 2 A rfl rfl fun A=>have A:=Ai A 17 (.int .i64 10) rfl (fun _=>rfl);N9 1 A rfl (Aj (by omega)<|Ah) fun A=>have A:=Ai A 18 (.int .i64 10) rfl (fun _=>rfl);N9 6 A rfl rfl fun A=>N9 3 A rfl rfl fun A=>Aq 20 A rfl
    (fun h2 A=>absurd h2 (by decide))
    (fun h2 A=>N9 6 A rfl (Aj (by omega)<|Ah) fun A=>have A:=Ai A 22 (.int .i64 1) rfl (fun _=>rfl);N9 1 A rfl rfl fun A=>N9 1 A rfl rfl fun A=>Lk (have A:=A.cut [0,2,3,9,10,11] rfl;
 N9 6 A rfl rfl fun A=>Aq 12 A rfl
     (fun h3 A=>N9 8 A rfl (Aj (by omega)<|Ah) fun A=>have A:=Ai A 13 (.ptr 0 1) rfl (Gz 1 rfl);N9 7 A rfl rfl fun A=>N9 2 A rfl rfl fun A=>have A:=Ai A 17 (.int .i64 5) rfl (fun _=>rfl);N9 1 A rfl (Aj (by omega)<|Ah) fun A=>have A:=Ai A 18 (.int .i64 15) rfl (fun _=>rfl);N9 6 A rfl rfl fun A=>N9 3 A rfl rfl fun A=>Aq 20 A rfl
      (fun h4 A=>absurd h4 (by decide))
      (fun h4 A=>N9 6 A rfl (Aj (by omega)<|Ah) fun A=>have A:=Ai A 22 (.int .i64 2) rfl (fun _=>rfl);N9 1 A rfl rfl fun A=>N9 1 A rfl rfl fun A=>Lk (have A:=A.cut [0,2,3,9,10,11] rfl;
 N9 6 A rfl rfl fun A=>Aq 12 A rfl
       (fun h5 A=>N9 8 A rfl (Aj (by omega)<|Ah) fun A=>have A:=Ai A 13 (.ptr 0 2) rfl (Gz 2 rfl);N9 7 A rfl rfl fun A=>N9 2 A rfl rfl fun A=>have A:=Ai A 17 (.int .i64 8) rfl (fun _=>rfl);N9 1 A rfl (Aj (by omega)<|Ah) fun A=>have A:=Ai A 18 (.int .i64 23) rfl (fun _=>rfl);N9 6 A rfl rfl fun A=>N9 3 A rfl rfl fun A=>Aq 20 A rfl
        (fun h6 A=>absurd h6 (by decide))
        (fun h6 A=>N9 6 A rfl (Aj (by omega)<|Ah) fun A=>have A:=Ai A 22 (.int .i64 3) rfl (fun _=>rfl);N9 1 A rfl rfl fun A=>N9 1 A rfl rfl fun A=>Lk (have A:=A.cut [0,2,3,9,10,11] rfl;
 N9 6 A rfl rfl fun A=>Aq 12 A rfl
         (fun h7 A=>N9 8 A rfl (Aj (by omega)<|Ah) fun A=>have A:=Ai A 13 (.ptr 0 3) rfl (Gz 3 rfl);N9 7 A rfl rfl fun A=>N9 2 A rfl rfl fun A=>have A:=Ai A 17 (.int .i64 3) rfl (fun _=>rfl);N9 1 A rfl (Aj (by omega)<|Ah) fun A=>have A:=Ai A 18 (.int .i64 26) rfl (fun _=>rfl);N9 6 A rfl rfl fun A=>N9 3 A rfl rfl fun A=>Aq 20 A rfl
          (fun h8 A=>absurd h8 (by decide))
          (fun h8 A=>N9 6 A rfl (Aj (by omega)<|Ah) fun A=>have A:=Ai A 22 (.int .i64 4) rfl (fun _=>rfl);N9 1 A rfl rfl fun A=>N9 1 A rfl rfl fun A=>Lk (have A:=A.cut [0,2,3,9,10,11] rfl;
 N9 6 A rfl rfl fun A=>Aq 12 A rfl
           (fun h9 A=>N9 8 A rfl (Aj (by omega)<|Ah) fun A=>have A:=Ai A 13 (.ptr 0 4) rfl (Gz 4 rfl);N9 7 A rfl rfl fun A=>N9 2 A rfl rfl fun A=>have A:=Ai A 17 (.int .i64 5) rfl (fun _=>rfl);N9 1 A rfl (Aj (by omega)<|Ah) fun A=>have A:=Ai A 18 (.int .i64 31) rfl (fun _=>rfl);N9 6 A rfl rfl fun A=>N9 3 A rfl rfl fun A=>Aq 20 A rfl
            (fun GL A=>absurd GL (by decide))
            (fun GL A=>N9 6 A rfl (Aj (by omega)<|Ah) fun A=>have A:=Ai A 22 (.int .i64 5) rfl (fun _=>rfl);N9 1 A rfl rfl fun A=>N9 1 A rfl rfl fun A=>Lk (have A:=A.cut [0,2,3,9,10,11] rfl;
 N9 6 A rfl rfl fun A=>Aq 12 A rfl
             (fun Fv A=>absurd Fv (by decide))
             (fun Fv A=>N9 6 A rfl rfl fun A=>Kq (t:=24) (F:=fun(L:List Rw) zz=>BG (L.getD zz Rw.z)) (R:=fun L b w w'=>L=[]) (aN 31 (by decide) (by decide)) A rfl rfl rfl fun L b1 cp1 a1 w1 G1 hR Dl hk A=>
 N9 8 A rfl rfl fun A=>have A:=Ai A 26 (.int .i64 5) rfl (fun _=>rfl);N9 1 A rfl rfl fun A=>N9 3 A rfl rfl fun A=>oU 6 (Lk (have A:=A.cut [2,6,25,26,27] rfl;
 N9 6 A rfl rfl fun A=>Aq 28 A rfl
               (fun No A=>N9 8 A rfl (Aj (by omega)<|Ah) fun A=>have A:=Ai A 29 (.ptr 0 0) rfl (Gz 0 rfl);N9 7 A rfl rfl fun A=>A9 A rfl (HT hX 10 (fun zz=>BG (L1.getD zz Rw.z)) rfl rfl rfl rfl (β7 _) (by decide) (show 10≤1000000 by decide) rfl (fun k hk=>absurd hk (ξ3 k)) (fun k hk=>by show BG (L1.getD (0+k) Rw.z)=BG _;rw [ε0]) (fun z=>⟨_,rfl,rfl⟩) (fun k hk=>⟨_,rfl,Ah⟩)) fun A=>
 N9 6 A rfl (Aj (by omega)<|Ah) fun A=>have A:=Ai A 34 (.int .i64 1) rfl (fun _=>rfl);N9 1 A rfl rfl fun A=>N9 1 A rfl rfl fun A=>Lk (have A:=A.cut [2,6,25,26,27] rfl;
 N9 6 A rfl rfl fun A=>Aq 28 A rfl
                (fun Ll A=>N9 8 A rfl (Aj (by omega)<|Ah) fun A=>have A:=Ai A 29 (.ptr 0 1) rfl (Gz 1 rfl);N9 7 A rfl rfl fun A=>A9 A rfl (HT hX 15 (fun zz=>BG ((L1++L2).getD zz Rw.z)) rfl rfl rfl rfl (β7 _) (by decide) (show 5≤1000000 by decide) rfl (fun k hk=>by show BG _=BG _;rw [BX (by rw [l1];exact hk)]) (fun k hk=>by show BG ((L1++L2).getD (10+k) Rw.z)=BG _;rw [show 10+k=L1.length+k by rw [l1],CV]) (fun z=>⟨_,rfl,rfl⟩) (fun k hk=>⟨_,rfl,Ah⟩)) fun A=>
 N9 6 A rfl (Aj (by omega)<|Ah) fun A=>have A:=Ai A 34 (.int .i64 2) rfl (fun _=>rfl);N9 1 A rfl rfl fun A=>N9 1 A rfl rfl fun A=>Lk (have A:=A.cut [2,6,25,26,27] rfl;
 N9 6 A rfl rfl fun A=>Aq 28 A rfl
                 (fun Qe A=>N9 8 A rfl (Aj (by omega)<|Ah) fun A=>have A:=Ai A 29 (.ptr 0 2) rfl (Gz 2 rfl);N9 7 A rfl rfl fun A=>A9 A rfl (HT hX 23 (fun zz=>BG (((L1++L2)++L3).getD zz Rw.z)) rfl rfl rfl rfl (β7 _) (by decide) (show 8≤1000000 by decide) rfl (fun k hk=>by show BG _=BG _;rw [BX (by rw [l12];exact hk)]) (fun k hk=>by show BG (((L1++L2)++L3).getD (15+k) Rw.z)=BG _;rw [show 15+k=(L1++L2).length+k by rw [l12],CV]) (fun z=>⟨_,rfl,rfl⟩) (fun k hk=>⟨_,rfl,Ah⟩)) fun A=>
 N9 6 A rfl (Aj (by omega)<|Ah) fun A=>have A:=Ai A 34 (.int .i64 3) rfl (fun _=>rfl);N9 1 A rfl rfl fun A=>N9 1 A rfl rfl fun A=>Lk (have A:=A.cut [2,6,25,26,27] rfl;
 N9 6 A rfl rfl fun A=>Aq 28 A rfl
                  (fun SH A=>N9 8 A rfl (Aj (by omega)<|Ah) fun A=>have A:=Ai A 29 (.ptr 0 3) rfl (Gz 3 rfl);N9 7 A rfl rfl fun A=>A9 A rfl (HT hX 26 (fun zz=>BG ((((L1++L2)++L3)++L4).getD zz Rw.z)) rfl rfl rfl rfl (β7 _) (by decide) (show 3≤1000000 by decide) rfl (fun k hk=>by show BG _=BG _;rw [BX (by rw [l13];exact hk)]) (fun k hk=>by show BG ((((L1++L2)++L3)++L4).getD (23+k) Rw.z)=BG _;rw [show 23+k=((L1++L2)++L3).length+k by rw [l13],CV]) (fun z=>⟨_,rfl,rfl⟩) (fun k hk=>⟨_,rfl,Ah⟩)) fun A=>
 N9 6 A rfl (Aj (by omega)<|Ah) fun A=>have A:=Ai A 34 (.int .i64 4) rfl (fun _=>rfl);N9 1 A rfl rfl fun A=>N9 1 A rfl rfl fun A=>Lk (have A:=A.cut [2,6,25,26,27] rfl;
 N9 6 A rfl rfl fun A=>Aq 28 A rfl
                   (fun Tp A=>N9 8 A rfl (Aj (by omega)<|Ah) fun A=>have A:=Ai A 29 (.ptr 0 4) rfl (Gz 4 rfl);N9 7 A rfl rfl fun A=>A9 A rfl (HT hX 31 (fun zz=>BG (((((L1++L2)++L3)++L4)++L5).getD zz Rw.z)) rfl rfl rfl rfl (β7 _) (by decide) (show 5≤1000000 by decide) rfl (fun k hk=>by show BG _=BG _;rw [BX (by rw [l14];exact hk)]) (fun k hk=>by show BG (((((L1++L2)++L3)++L4)++L5).getD (26+k) Rw.z)=BG _;rw [show 26+k=(((L1++L2)++L3)++L4).length+k by rw [l14],CV]) (fun z=>⟨_,rfl,rfl⟩) (fun k hk=>⟨_,rfl,Ah⟩)) fun A=>
 N9 6 A rfl (Aj (by omega)<|Ah) fun A=>have A:=Ai A 34 (.int .i64 5) rfl (fun _=>rfl);N9 1 A rfl rfl fun A=>N9 1 A rfl rfl fun A=>Lk (have A:=A.cut [2,6,25,26,27] rfl;
 N9 6 A rfl rfl fun A=>Aq 28 A rfl
                    (fun XT A=>absurd XT (by decide))
                    (fun XT A=>N9 10 A rfl rfl fun A=>Ns hX [11] A ⟨rfl,rfl⟩ rfl rfl rfl rfl rfl rfl rfl rfl h0)))
                   (fun Tp A=>absurd (by decide) Tp)))
                  (fun SH A=>absurd (by decide) SH)))
                 (fun Qe A=>absurd (by decide) Qe)))
                (fun Ll A=>absurd (by decide) Ll)))
               (fun No A=>absurd (by decide) No)))))))
           (fun h9 A=>absurd (by decide) h9))))
         (fun h7 A=>absurd (by decide) h7))))
       (fun h5 A=>absurd (by decide) h5))))
     (fun h3 A=>absurd (by decide) h3))))
   (fun h1 A=>absurd (by decide) h1)))
end Go.Proofs.YtbbdanhpphlbpaaGreatDoor.Ar
namespace Go.Proofs.YtbbdanhpphlbpaaGreatDoor
open Go.RowKit
set_option simprocs false
theorem gG:Fn Tryz.prog 149 [] [] (Rt (.agg [.str [88,48],.str [88,49],.str [88,50],.str [88,51],.str [88,52],.str [88,53],.str [88,54],.str [88,55]]) []):=
 Am (n:=2) (by kernel_rfl) Tryz.func149 rfl rfl rfl fun G w a h0 A=>N9 12 A rfl rfl fun A=>R9 A rfl h0 rfl rfl rfl
end Go.Proofs.YtbbdanhpphlbpaaGreatDoor
namespace Go.Proofs.YtbbdanhpphlbpaaGreatDoor.Ar
open Go.RowKit
set_option simprocs false
def c5:List (List UInt8×Int):=[([65,68,68],1),([83,85,66],2),([69,79,82],3),([65,78,68],4),([79,82,82],5)]
abbrev TR (x:List UInt8×Int)(b1:Nat):Rw:=⟨x.1,[],Jx 3 x.2,some ⟨b1,0,none⟩,[1,2,3],3⟩
abbrev TS (x:List UInt8×Int)(b2:Nat):Rw:=⟨x.1,[],Jx 3 x.2,some ⟨b2,0,none⟩,[1,2,5],3⟩
def MQ:List (List UInt8×List UInt8×In×List Int):=c5.flatMap fun x=>[(x.1,[],Jx 3 x.2,[1,2,3]),(x.1,[],Jx 3 x.2,[1,2,5])]
structure AC (lo:Nat)(z:List Rw×Nat)(w:World)(ks:List Nat):Prop where
 le:z.2≤5
 tm:z.1.map tm=MQ.take (2*z.2)
 rw:RowsIn lo z.1 w ks
theorem AC.len {lo:Nat}{z:List Rw×Nat}{w:World}{ks:List Nat}(h:AC lo z w ks):z.1.length=2*z.2:=by
 have h1:=congrArg List.length h.tm
 rw [δ2,δ8]at h1
 have h2:MQ.length=10:=by decide
 have:=h.le
 omega
theorem AC.nx {lo b1 b2:Nat}{z:List Rw×Nat}{w w1:World}{ks ks1:List Nat}{l:List (Nat×List SV)}(h:AC lo z w ks)(hk:(z.2:Int)<5)(hr:RowsIn lo z.1 w1 ks1)(hA:Acc lo [(b2,[.int .i64 1,.int .i64 2,.int .i64 5]),(b1,[.int .i64 1,.int .i64 2,.int .i64 3])] w1 ks1):AC lo (z.1++[TR (c5.getD ((z.2:Int)).toNat nz) b1,TS (c5.getD ((z.2:Int)).toNat nz) b2],z.2+1) w1 ks1:=by
 refine⟨by have:=h.le;show z.2+1≤5;omega,?_,fun r Nm=>?_⟩
 ·show List.map _ (z.1++_)=_
  rw [ζ5,h.tm,β5]
  have:z.2=0∨z.2=1∨z.2=2∨z.2=3∨z.2=4:=by omega
  rcases this with e|e|e|e|e<;>rw [e]<;>rfl
 ·rcases ζ6.1 Nm with h1|h1
  ·exact hr r h1
  ·simp only [ζ9,ι1,μ9]at h1
   rcases h1 with rfl|rfl
   ·exact BY (cs:=[]) [1,2,3] hA (ζ7 _ (ε2))
   ·exact BY (cs:=[]) [1,2,5] hA (ε2)
theorem gH:Ly Tryz.prog 197 [] [] (fun x w w'=>∃(L:List Rw) (b cp:Nat),x=.sla (some ⟨b,0,none⟩) 10 cp∧(L.map tm=MQ∧RowsIn w.heap.size L w' [b])∧w.heap.size≤b∧Cb 203 20 10 (fun zz=>BG (L.getD zz Rw.z)) b cp w'):=
 EI (n:=36) (by kernel_rfl) Tryz.func197 rfl rfl rfl fun G w a h0 A=>N9 13 A rfl rfl fun A=>have A:=A.asT nz JU 2 O3.1 O3.2.1 O3.2.2 c5 0 rfl;N9 17 A rfl rfl fun A=>have A:=A.nilRow 2 203 20 (fun zz=>BG (([]:List Rw).getD zz Rw.z)) rfl (fun z=>⟨_,rfl,rfl⟩);Gm (fun(z:List Rw×Nat)=>[(0,.sla none 0 0),(2,.sl 1 z.1.length 0),(12,.sl 0 5 5),(13,.int .i64 ((5:Nat):Int)),(14,.int .i64 (z.2:Int))]) (fun(z:List Rw×Nat)=>[some (.lst 2 5 (fun zz=>JU (c5.getD zz nz))),some (.row 203 20 z.1.length 0 (fun zz=>BG (z.1.getD zz Rw.z)))]) (fun z w1 ks1=>AC w.heap.size z w1 ks1) (fun z=>5 - z.2) ([],0) (A.cut [0,2,12,13,14] rfl) ⟨by decide,rfl,fun r hr=>by cases hr⟩ fun z G1 a1 w1 hJ hg A B=>have hA:Acc w.heap.size [] w1 _:=Acc.nil;have hR:=hJ.rw;
 N9 6 A rfl rfl fun A=>Aq 15 A rfl
   (fun h1 A=>N9 14 A rfl (Aj (by omega)<|Aj (by omega)<|Ah) fun A=>N9 4 A rfl rfl fun A=>have A:=Ai A 20 (.agg [.int .i64 3,.z9,.z9,.z9,.z9,.z9,.z9,.z9,.z9,.int .i64 ((c5.getD (((z.2:Int)).toNat) nz).2),.bool false,.bool false,.bool false,.z9,.z9,.z9,.bool false]) rfl (fun _=>rfl);N9 9 A rfl rfl fun A=>Lc [.int .i64 1,.int .i64 2,.int .i64 3] (X:=⟨_,true⟩) hX RowsIn.ok B hA hR A rfl rfl rfl rfl fun b1 B hA hR A=>
 N9 4 A rfl rfl fun A=>Lc [.int .i64 1,.int .i64 2,.int .i64 5] (X:=⟨_,true⟩) hX RowsIn.ok B hA hR A rfl rfl rfl rfl fun b2 B hA hR A=>
 N9 2 A rfl rfl fun A=>have A:=A.asT Rw.z BG 20 ID.1 ID.2.1 ID.2.2 [TR (c5.getD (((z.2:Int)).toNat) nz) b1,TS (c5.getD (((z.2:Int)).toNat) nz) b2] 4 rfl;A9 A rfl (HT hX ((z.1++[TR (c5.getD (((z.2:Int)).toNat) nz) b1,TS (c5.getD (((z.2:Int)).toNat) nz) b2]).length) (fun zz=>BG ((z.1++[TR (c5.getD (((z.2:Int)).toNat) nz) b1,TS (c5.getD (((z.2:Int)).toNat) nz) b2]).getD zz Rw.z)) rfl rfl rfl rfl (β7 _) (by have:=hJ.len;have:=hJ.le;omega) (by decide) α4 (fun k hk=>by show BG _=BG _;rw [BX hk]) (fun k hk=>by show BG _=BG _;rw [CV]) (fun z=>⟨_,rfl,rfl⟩) (fun k hk=>⟨_,rfl,Ah⟩)) fun A=>
 N9 8 A rfl (Aj (by omega)<|Ah) fun A=>⟨(z.1++[TR (c5.getD (((z.2:Int)).toNat) nz) b1,TS (c5.getD (((z.2:Int)).toNat) nz) b2],z.2+1),_,(by have:=h1;show _ - _<_ - _;omega),(hJ.nx (l:=[]) h1 (RowsIn.ok _ _ _ _ hR A.mix fun b hb=>A.keys_own b ((CB (H:=[some (.lst 2 5 (fun zz=>JU (c5.getD zz nz))),none,some (.blk [.str ((c5.getD (((z.2:Int)).toNat) nz).1),.int .i64 ((c5.getD (((z.2:Int)).toNat) nz).2)]),some (.blk [.int .i64 3,.z9,.z9,.z9,.z9,.z9,.z9,.z9,.z9,.int .i64 ((c5.getD (((z.2:Int)).toNat) nz).2),.bool false,.bool false,.bool false,.z9,.z9,.z9,.bool false]),some (.lst 20 ([TR (c5.getD (((z.2:Int)).toNat) nz) b1,TS (c5.getD (((z.2:Int)).toNat) nz) b2].length) (fun zz=>BG ([TR (c5.getD (((z.2:Int)).toNat) nz) b1,TS (c5.getD (((z.2:Int)).toNat) nz) b2].getD zz Rw.z))),some (.row 203 20 ((z.1++[TR (c5.getD (((z.2:Int)).toNat) nz) b1,TS (c5.getD (((z.2:Int)).toNat) nz) b2]).length) 0 (fun zz=>BG ((z.1++[TR (c5.getD (((z.2:Int)).toNat) nz) b1,TS (c5.getD (((z.2:Int)).toNat) nz) b2]).getD zz Rw.z)))]) (m:=[0,5]) A.mem.len rfl rfl) b hb)) (hA.go A.mix fun b hb=>A.keys_own b ((CB (H:=[some (.lst 2 5 (fun zz=>JU (c5.getD zz nz))),none,some (.blk [.str ((c5.getD (((z.2:Int)).toNat) nz).1),.int .i64 ((c5.getD (((z.2:Int)).toNat) nz).2)]),some (.blk [.int .i64 3,.z9,.z9,.z9,.z9,.z9,.z9,.z9,.z9,.int .i64 ((c5.getD (((z.2:Int)).toNat) nz).2),.bool false,.bool false,.bool false,.z9,.z9,.z9,.bool false]),some (.lst 20 ([TR (c5.getD (((z.2:Int)).toNat) nz) b1,TS (c5.getD (((z.2:Int)).toNat) nz) b2].length) (fun zz=>BG ([TR (c5.getD (((z.2:Int)).toNat) nz) b1,TS (c5.getD (((z.2:Int)).toNat) nz) b2].getD zz Rw.z))),some (.row 203 20 ((z.1++[TR (c5.getD (((z.2:Int)).toNat) nz) b1,TS (c5.getD (((z.2:Int)).toNat) nz) b2]).length) 0 (fun zz=>BG ((z.1++[TR (c5.getD (((z.2:Int)).toNat) nz) b1,TS (c5.getD (((z.2:Int)).toNat) nz) b2]).getD zz Rw.z)))]) (m:=[0,5]) A.mem.len rfl rfl) b hb))),((B.trans A).cut [0,2,12,13,14] rfl).mv 0 [0,5] rfl rfl rfl rfl (by simp only [α7]at h0;omega)⟩)
   (fun h1 A=>N9 10 A rfl rfl fun A=>(have e5:z.2=5:=(by have:=hJ.le;omega);have e:z.1.length=10:=(by have:=hJ.len;omega);match A.giveRow 1 0 (by omega) rfl rfl rfl with|⟨b,cp,A2,hG,ho,hk⟩=>JH (J:=fun x w w'=>∃(L:List Rw) (b cp:Nat),x=.sla (some ⟨b,0,none⟩) 10 cp∧(L.map tm=MQ∧RowsIn w.heap.size L w' [b])∧w.heap.size≤b∧Cb 203 20 10 (fun zz=>BG (L.getD zz Rw.z)) b cp w') hX (B.trans A2) (fun i e he=>CW he) rfl rfl rfl rfl ⟨z.1,b,cp,(by show SV.sla _ z.1.length cp=_;rw [e]),⟨(by have h2:=hJ.tm;rw [e5]at h2;exact h2),(RowsIn.ok _ _ _ _ hJ.rw A.mix fun b2 hb=>by have:b2=b:=(by simpa using hb);rw [this];exact ho)⟩,IS B (fun i e he=>CW he) ho,(by rw [←e];exact hG)⟩))
end Go.Proofs.YtbbdanhpphlbpaaGreatDoor.Ar
namespace Go.Proofs.YtbbdanhpphlbpaaGreatDoor.Ar
open Go.RowKit
set_option simprocs false
abbrev sz:List UInt8×Bool×Bool:=([],false,false)
def Na (x:List UInt8×Bool×Bool):List SV:=[.str x.1,.bool x.2.1,.bool x.2.2]
theorem fY:(∀x,(Na x).length=3)∧(∀x,Hf 0 (Na x)=true)∧(∀x,∃vs,Al [] (Na x)=some vs):=⟨fun _=>rfl,fun _=>rfl,fun _=>⟨_,rfl⟩⟩
def a2:List (List UInt8×Int):=[([83,87,80],6),([76,68,65,68,68],1)]
def s4:List (List UInt8×Bool×Bool):=[([],false,false),([65],true,false),([76],false,true),([65,76],true,true)]
theorem Nb:∀k,(a2.getD k nz).1.length≤100
 |0=>by decide
 |1=>by decide
 |k+2=>by simp [a2,List.getD]
theorem Nc:∀k,(s4.getD k sz).1.length≤100
 |0=>by decide
 |1=>by decide
 |2=>by decide
 |3=>by decide
 |k+4=>by simp [s4,List.getD]
def WK (x:List UInt8×Int)(y:List UInt8×Bool×Bool):In:=⟨6,0,0,0,0,0,0,0,0,x.2,y.2.1,false,y.2.2,0,0,0,false⟩
abbrev TT (x:List UInt8×Int)(y:List UInt8×Bool×Bool)(b1:Nat):Rw:=⟨(x.1++y.1)++[42],[],WK x y,some ⟨b1,0,none⟩,[2,1,6],3⟩
def MR:List (List UInt8×List UInt8×In×List Int):=a2.flatMap fun x=>s4.map fun y=>((x.1++y.1)++[42],[],WK x y,[2,1,6])
structure AA (lo n:Nat)(L:List Rw)(w:World)(ks:List Nat):Prop where
 tm:L.map tm=MR.take n
 rw:RowsIn lo L w ks
theorem AA.len {lo n:Nat}{L:List Rw}{w:World}{ks:List Nat}(h:AA lo n L w ks):L.length≤8∧(n≤8→L.length=n):=by
 have h1:=congrArg List.length h.tm
 rw [δ2,δ8]at h1
 have h2:MR.length=8:=by decide
 omega
theorem AA.nx {lo b1 k j:Nat}{L:List Rw}{w w1:World}{ks ks1:List Nat}(h:AA lo (4*k+j) L w ks)(hk:k<2)(hj:j<4)(hr:RowsIn lo L w1 ks1)(hA:Acc lo [(b1,[.int .i64 2,.int .i64 1,.int .i64 6])] w1 ks1):AA lo (4*k+(j+1)) (L++[TT (a2.getD ((k:Int)).toNat nz) (s4.getD ((j:Int)).toNat sz) b1]) w1 ks1:=by
 refine⟨?_,fun r Nm=>?_⟩
 ·rw [ζ5,h.tm,β5,β5]
  have q1:k=0∨k=1:=by omega
  have q2:j=0∨j=1∨j=2∨j=3:=by omega
  rcases q1 with e|e<;>rcases q2 with e2|e2|e2|e2<;>rw [e,e2]<;>rfl
 ·rcases ζ6.1 Nm with h1|h1
  ·exact hr r h1
  ·simp only [ζ9,ι1,μ9]at h1
   subst h1
   exact BY (cs:=[]) [2,1,6] hA ε2
theorem gI:Ly Tryz.prog 199 [] [] (fun x w w'=>∃(L:List Rw) (b cp:Nat),x=.sla (some ⟨b,0,none⟩) 8 cp∧(L.map tm=MR∧RowsIn w.heap.size L w' [b])∧w.heap.size≤b∧Cb 203 20 8 (fun zz=>BG (L.getD zz Rw.z)) b cp w'):=
 EI (n:=51) (by kernel_rfl) Tryz.func199 rfl rfl rfl fun G w a h0 A=>N9 10 A rfl rfl fun A=>have A:=A.asT nz JU 2 O3.1 O3.2.1 O3.2.2 a2 0 rfl;N9 6 A rfl rfl fun A=>have A:=Ai A 12 (.agg [.str [],.bool false,.bool false]) rfl (fun _=>rfl);N9 1 A rfl rfl fun A=>have A:=Ai A 13 (.agg [.str [65],.bool true,.bool false]) rfl (fun _=>rfl);N9 1 A rfl rfl fun A=>have A:=Ai A 14 (.agg [.str [76],.bool false,.bool true]) rfl (fun _=>rfl);N9 1 A rfl rfl fun A=>have A:=Ai A 15 (.agg [.str [65,76],.bool true,.bool true]) rfl (fun _=>rfl);N9 1 A rfl rfl fun A=>have A:=A.asT sz Na 3 fY.1 fY.2.1 fY.2.2 s4 1 rfl;N9 17 A rfl rfl fun A=>have A:=A.nilRow 3 203 20 (fun zz=>BG (([]:List Rw).getD zz Rw.z)) rfl (fun z=>⟨_,rfl,rfl⟩);Gm (fun(z:List Rw×Nat)=>[(0,.sla none 0 0),(2,.sl 1 4 4),(3,.sl 2 z.1.length 0),(17,.sl 0 2 2),(18,.int .i64 ((2:Nat):Int)),(19,.int .i64 (z.2:Int))]) (fun(z:List Rw×Nat)=>[some (.lst 2 2 (fun zz=>JU (a2.getD zz nz))),some (.lst 3 4 (fun zz=>Na (s4.getD zz sz))),some (.row 203 20 z.1.length 0 (fun zz=>BG (z.1.getD zz Rw.z)))]) (fun z w1 ks1=>z.2≤2∧AA w.heap.size (4*z.2) z.1 w1 ks1) (fun z=>2 - z.2) ([],0) (A.cut [0,2,3,17,18,19] rfl) ⟨by decide,⟨rfl,fun r hr=>by cases hr⟩⟩ fun z G1 a1 w1 hJ hg A B=>have Nu:=hJ.1;have hR:=hJ.2.rw;
 N9 6 A rfl rfl fun A=>Aq 20 A rfl
   (fun h1 A=>N9 14 A rfl (Aj (by omega)<|Aj (by omega)<|Ah) fun A=>N9 7 A rfl rfl fun A=>have hR:=RowsIn.ok _ _ _ _ hR A.mix A.keys_own;Gm (fun(y:List Rw×Nat)=>[(0,.sla none 0 0),(2,.sl 1 4 4),(3,.sl 2 y.1.length 0),(5,.ptr 3 0),(17,.sl 0 2 2),(18,.int .i64 ((2:Nat):Int)),(19,.int .i64 (z.2:Int)),(23,.sl 1 4 4),(24,.int .i64 ((4:Nat):Int)),(25,.int .i64 (y.2:Int))]) (fun(y:List Rw×Nat)=>[some (.lst 2 2 (fun zz=>JU (a2.getD zz nz))),some (.lst 3 4 (fun zz=>Na (s4.getD zz sz))),some (.row 203 20 y.1.length 0 (fun zz=>BG (y.1.getD zz Rw.z))),some (.blk [.str ((a2.getD (((z.2:Int)).toNat) nz).1),.int .i64 ((a2.getD (((z.2:Int)).toNat) nz).2)])]) (fun y w1 ks1=>y.2≤4∧AA w.heap.size (4*z.2+y.2) y.1 w1 ks1) (fun y=>4 - y.2) (z.1,0) ((B.trans A).cut [0,2,3,5,17,18,19,23,24,25] rfl) ⟨β8 4,⟨hJ.2.tm,hR⟩⟩ fun y G1 a1 w1 hJ hg A B=>have hA:Acc w.heap.size [] w1 _:=Acc.nil;have hR:=hJ.2.rw;
 N9 6 A rfl rfl fun A=>Aq 26 A rfl
     (fun h2 A=>N9 14 A rfl (Aj (by omega)<|Aj (by omega)<|Ah) fun A=>N9 8 A rfl rfl fun A=>have A:=Ai A 35 (.agg [.int .i64 6,.z9,.z9,.z9,.z9,.z9,.z9,.z9,.z9,.int .i64 ((a2.getD (((z.2:Int)).toNat) nz).2),.bool ((s4.getD (((y.2:Int)).toNat) sz).2.1),.bool false,.bool ((s4.getD (((y.2:Int)).toNat) sz).2.2),.z9,.z9,.z9,.bool false]) rfl (fun _=>rfl);N9 13 A rfl (Aj (by have q:=Nb ((z.2:Int)).toNat;have q2:=Nc ((y.2:Int)).toNat;(try simp only [α4,α5,α7]);omega)<|Aj (by have q:=Nb ((z.2:Int)).toNat;have q2:=Nc ((y.2:Int)).toNat;(try simp only [α4,α5,α7]);omega)<|Ah) fun A=>Lc [.int .i64 2,.int .i64 1,.int .i64 6] (X:=⟨_,true⟩) hX RowsIn.ok B hA hR A rfl rfl rfl rfl fun b1 B hA hR A=>
 N9 2 A rfl rfl fun A=>have A:=A.asT Rw.z BG 20 ID.1 ID.2.1 ID.2.2 [TT (a2.getD (((z.2:Int)).toNat) nz) (s4.getD (((y.2:Int)).toNat) sz) b1] 6 rfl;A9 A rfl (HT hX ((y.1++[TT (a2.getD (((z.2:Int)).toNat) nz) (s4.getD (((y.2:Int)).toNat) sz) b1]).length) (fun zz=>BG ((y.1++[TT (a2.getD (((z.2:Int)).toNat) nz) (s4.getD (((y.2:Int)).toNat) sz) b1]).getD zz Rw.z)) rfl rfl rfl rfl (β7 _) (by have:=hJ.2.len;have:=hJ.1;omega) (by decide) α4 (fun k hk=>by show BG _=BG _;rw [BX hk]) (fun k hk=>by show BG _=BG _;rw [CV]) (fun z=>⟨_,rfl,rfl⟩) (fun k hk=>⟨_,rfl,Ah⟩)) fun A=>
 N9 8 A rfl (Aj (by omega)<|Ah) fun A=>⟨(y.1++[TT (a2.getD (((z.2:Int)).toNat) nz) (s4.getD (((y.2:Int)).toNat) sz) b1],y.2+1),_,(by have:=h2;show _ - _<_ - _;omega),⟨by have:=h2;show y.2+1≤4;omega,hJ.2.nx (by omega) (by omega) (RowsIn.ok _ _ _ _ hR A.mix fun b hb=>A.keys_own b ((CB (H:=[some (.lst 2 2 (fun zz=>JU (a2.getD zz nz))),some (.lst 3 4 (fun zz=>Na (s4.getD zz sz))),none,some (.blk [.str ((a2.getD (((z.2:Int)).toNat) nz).1),.int .i64 ((a2.getD (((z.2:Int)).toNat) nz).2)]),some (.blk [.str ((s4.getD (((y.2:Int)).toNat) sz).1),.bool ((s4.getD (((y.2:Int)).toNat) sz).2.1),.bool ((s4.getD (((y.2:Int)).toNat) sz).2.2)]),some (.blk [.int .i64 6,.z9,.z9,.z9,.z9,.z9,.z9,.z9,.z9,.int .i64 ((a2.getD (((z.2:Int)).toNat) nz).2),.bool ((s4.getD (((y.2:Int)).toNat) sz).2.1),.bool false,.bool ((s4.getD (((y.2:Int)).toNat) sz).2.2),.z9,.z9,.z9,.bool false]),some (.lst 20 ([TT (a2.getD (((z.2:Int)).toNat) nz) (s4.getD (((y.2:Int)).toNat) sz) b1].length) (fun zz=>BG ([TT (a2.getD (((z.2:Int)).toNat) nz) (s4.getD (((y.2:Int)).toNat) sz) b1].getD zz Rw.z))),some (.row 203 20 ((y.1++[TT (a2.getD (((z.2:Int)).toNat) nz) (s4.getD (((y.2:Int)).toNat) sz) b1]).length) 0 (fun zz=>BG ((y.1++[TT (a2.getD (((z.2:Int)).toNat) nz) (s4.getD (((y.2:Int)).toNat) sz) b1]).getD zz Rw.z)))]) (m:=[0,1,7,3]) A.mem.len rfl rfl) b hb)) (hA.go A.mix fun b hb=>A.keys_own b ((CB (H:=[some (.lst 2 2 (fun zz=>JU (a2.getD zz nz))),some (.lst 3 4 (fun zz=>Na (s4.getD zz sz))),none,some (.blk [.str ((a2.getD (((z.2:Int)).toNat) nz).1),.int .i64 ((a2.getD (((z.2:Int)).toNat) nz).2)]),some (.blk [.str ((s4.getD (((y.2:Int)).toNat) sz).1),.bool ((s4.getD (((y.2:Int)).toNat) sz).2.1),.bool ((s4.getD (((y.2:Int)).toNat) sz).2.2)]),some (.blk [.int .i64 6,.z9,.z9,.z9,.z9,.z9,.z9,.z9,.z9,.int .i64 ((a2.getD (((z.2:Int)).toNat) nz).2),.bool ((s4.getD (((y.2:Int)).toNat) sz).2.1),.bool false,.bool ((s4.getD (((y.2:Int)).toNat) sz).2.2),.z9,.z9,.z9,.bool false]),some (.lst 20 ([TT (a2.getD (((z.2:Int)).toNat) nz) (s4.getD (((y.2:Int)).toNat) sz) b1].length) (fun zz=>BG ([TT (a2.getD (((z.2:Int)).toNat) nz) (s4.getD (((y.2:Int)).toNat) sz) b1].getD zz Rw.z))),some (.row 203 20 ((y.1++[TT (a2.getD (((z.2:Int)).toNat) nz) (s4.getD (((y.2:Int)).toNat) sz) b1]).length) 0 (fun zz=>BG ((y.1++[TT (a2.getD (((z.2:Int)).toNat) nz) (s4.getD (((y.2:Int)).toNat) sz) b1]).getD zz Rw.z)))]) (m:=[0,1,7,3]) A.mem.len rfl rfl) b hb))⟩,((B.trans A).cut [0,2,3,5,17,18,19,23,24,25] rfl).mv 0 [0,1,7,3] rfl rfl rfl rfl (by simp only [α7]at h0;omega)⟩)
     (fun h2 A=>N9 8 A rfl (Aj (by omega)<|Ah) fun A=>⟨(y.1,z.2+1),_,(by have:=h1;show _ - _<_ - _;omega),⟨by have:=h1;show z.2+1≤2;omega,⟨(by have q:=hJ.2.tm;have q1:=hJ.1;rw [show 4*z.2+y.2=4*(z.2+1) by omega]at q;exact q),RowsIn.ok _ _ _ _ hJ.2.rw A.mix fun b hb=>A.keys_own b ((CB (H:=[some (.lst 2 2 (fun zz=>JU (a2.getD zz nz))),some (.lst 3 4 (fun zz=>Na (s4.getD zz sz))),some (.row 203 20 y.1.length 0 (fun zz=>BG (y.1.getD zz Rw.z))),some (.blk [.str ((a2.getD (((z.2:Int)).toNat) nz).1),.int .i64 ((a2.getD (((z.2:Int)).toNat) nz).2)])]) (m:=[0,1,2]) A.mem.len rfl rfl) b hb)⟩⟩,((B.trans A).cut [0,2,3,17,18,19] rfl).mv 0 [0,1,2] rfl rfl rfl rfl (by simp only [α7]at h0;omega)⟩))
   (fun h1 A=>N9 10 A rfl rfl fun A=>(have e5:z.2=2:=(by have:=hJ.1;omega);have e:z.1.length=8:=(by have:=hJ.2.len;omega);match A.giveRow 2 0 (by omega) rfl rfl rfl with|⟨b,cp,A2,hG,ho,hk⟩=>JH (J:=fun x w w'=>∃(L:List Rw) (b cp:Nat),x=.sla (some ⟨b,0,none⟩) 8 cp∧(L.map tm=MR∧RowsIn w.heap.size L w' [b])∧w.heap.size≤b∧Cb 203 20 8 (fun zz=>BG (L.getD zz Rw.z)) b cp w') hX (B.trans A2) (fun i e he=>CW he) rfl rfl rfl rfl ⟨z.1,b,cp,(by show SV.sla _ z.1.length cp=_;rw [e]),⟨(by have h2:=hJ.2.tm;rw [e5]at h2;exact h2),(RowsIn.ok _ _ _ _ hJ.2.rw A.mix fun b2 hb=>by have:b2=b:=(by simpa using hb);rw [this];exact ho)⟩,IS B (fun i e he=>CW he) ho,(by rw [←e];exact hG)⟩))
end Go.Proofs.YtbbdanhpphlbpaaGreatDoor.Ar
namespace Go.Proofs.YtbbdanhpphlbpaaGreatDoor.Ar
open Go.RowKit
set_option simprocs false
abbrev fz:List UInt8×Int×Int:=([],0,0)
def gJ (x:List UInt8×Int×Int):List SV:=[.str x.1,.int .i64 x.2.1,.int .i64 x.2.2]
theorem vI:(∀x,(gJ x).length=3)∧(∀x,Hf 0 (gJ x)=true)∧(∀x,∃vs,Al [] (gJ x)=some vs):=⟨fun _=>rfl,fun _=>rfl,fun _=>⟨_,rfl⟩⟩
def f3:List (List UInt8×Int×Int):=[([83,89],3,3),([76,68],1,3),([83,84],2,2)]
def oX (x:List UInt8×Int×Int):In:=⟨7,0,0,0,0,0,0,0,0,0,false,false,false,x.2.1,x.2.2,0,false⟩
abbrev TU (x:List UInt8×Int×Int)(b1:Nat):Rw:=⟨[68,77,66],x.1,oX x,some ⟨b1,0,none⟩,[10],1⟩
def TV:List (List UInt8×List UInt8×In×List Int):=f3.map fun x=>([68,77,66],x.1,oX x,[10])
structure AF (lo:Nat)(z:List Rw×Nat)(w:World)(ks:List Nat):Prop where
 le:z.2≤3
 tm:z.1.map tm=TV.take z.2
 rw:RowsIn lo z.1 w ks
theorem AF.len {lo:Nat}{z:List Rw×Nat}{w:World}{ks:List Nat}(h:AF lo z w ks):z.1.length=z.2:=by
 have h1:=congrArg List.length h.tm
 rw [δ2,δ8]at h1
 have h2:TV.length=3:=by decide
 have:=h.le
 omega
theorem AF.nx {lo b1:Nat}{z:List Rw×Nat}{w w1:World}{ks ks1:List Nat}{l:List (Nat×List SV)}(h:AF lo z w ks)(hk:(z.2:Int)<3)(hr:RowsIn lo z.1 w1 ks1)(hA:Acc lo [(b1,[.int .i64 10])] w1 ks1):AF lo (z.1++[TU (f3.getD ((z.2:Int)).toNat fz) b1],z.2+1) w1 ks1:=by
 refine⟨by have:=h.le;show z.2+1≤3;omega,?_,fun r Nm=>?_⟩
 ·show List.map _ (z.1++_)=_
  rw [ζ5,h.tm,β5]
  have:z.2=0∨z.2=1∨z.2=2:=by omega
  rcases this with e|e|e<;>rw [e]<;>rfl
 ·rcases ζ6.1 Nm with h1|h1
  ·exact hr r h1
  ·simp only [ζ9,ι1,μ9]at h1
   subst h1
   exact BY (cs:=[]) [10] hA ε2
theorem oY:Ly Tryz.prog 200 [] [] (fun x w w'=>∃(L:List Rw) (b cp:Nat),x=.sla (some ⟨b,0,none⟩) 3 cp∧(L.map tm=TV∧RowsIn w.heap.size L w' [b])∧w.heap.size≤b∧Cb 203 20 3 (fun zz=>BG (L.getD zz Rw.z)) b cp w'):=
 EI (n:=31) (by kernel_rfl) Tryz.func200 rfl rfl rfl fun G w a h0 A=>N9 11 A rfl rfl fun A=>have A:=A.asT fz gJ 3 vI.1 vI.2.1 vI.2.2 f3 0 rfl;N9 17 A rfl rfl fun A=>have A:=A.nilRow 2 203 20 (fun zz=>BG (([]:List Rw).getD zz Rw.z)) rfl (fun z=>⟨_,rfl,rfl⟩);Gm (fun(z:List Rw×Nat)=>[(0,.sla none 0 0),(2,.sl 1 z.1.length 0),(10,.sl 0 3 3),(11,.int .i64 ((3:Nat):Int)),(12,.int .i64 (z.2:Int))]) (fun(z:List Rw×Nat)=>[some (.lst 3 3 (fun zz=>gJ (f3.getD zz fz))),some (.row 203 20 z.1.length 0 (fun zz=>BG (z.1.getD zz Rw.z)))]) (fun z w1 ks1=>AF w.heap.size z w1 ks1) (fun z=>3 - z.2) ([],0) (A.cut [0,2,10,11,12] rfl) ⟨by decide,rfl,fun r hr=>by cases hr⟩ fun z G1 a1 w1 hJ hg A B=>have hA:Acc w.heap.size [] w1 _:=Acc.nil;have hR:=hJ.rw;
 N9 6 A rfl rfl fun A=>Aq 13 A rfl
   (fun h1 A=>N9 14 A rfl (Aj (by omega)<|Aj (by omega)<|Ah) fun A=>N9 6 A rfl rfl fun A=>have A:=Ai A 20 (.agg [.int .i64 7,.z9,.z9,.z9,.z9,.z9,.z9,.z9,.z9,.z9,.bool false,.bool false,.bool false,.int .i64 ((f3.getD (((z.2:Int)).toNat) fz).2.1),.int .i64 ((f3.getD (((z.2:Int)).toNat) fz).2.2),.z9,.bool false]) rfl (fun _=>rfl);N9 9 A rfl rfl fun A=>Lc [.int .i64 10] (X:=⟨_,true⟩) hX RowsIn.ok B hA hR A rfl rfl rfl rfl fun b1 B hA hR A=>
 N9 2 A rfl rfl fun A=>have A:=A.asT Rw.z BG 20 ID.1 ID.2.1 ID.2.2 [TU (f3.getD (((z.2:Int)).toNat) fz) b1] 4 rfl;A9 A rfl (HT hX ((z.1++[TU (f3.getD (((z.2:Int)).toNat) fz) b1]).length) (fun zz=>BG ((z.1++[TU (f3.getD (((z.2:Int)).toNat) fz) b1]).getD zz Rw.z)) rfl rfl rfl rfl (β7 _) (by have:=hJ.len;have:=hJ.le;omega) (by decide) α4 (fun k hk=>by show BG _=BG _;rw [BX hk]) (fun k hk=>by show BG _=BG _;rw [CV]) (fun z=>⟨_,rfl,rfl⟩) (fun k hk=>⟨_,rfl,Ah⟩)) fun A=>
 N9 8 A rfl (Aj (by omega)<|Ah) fun A=>⟨(z.1++[TU (f3.getD (((z.2:Int)).toNat) fz) b1],z.2+1),_,(by have:=h1;show _ - _<_ - _;omega),(hJ.nx (l:=[]) h1 (RowsIn.ok _ _ _ _ hR A.mix fun b hb=>A.keys_own b ((CB (H:=[some (.lst 3 3 (fun zz=>gJ (f3.getD zz fz))),none,some (.blk [.str ((f3.getD (((z.2:Int)).toNat) fz).1),.int .i64 ((f3.getD (((z.2:Int)).toNat) fz).2.1),.int .i64 ((f3.getD (((z.2:Int)).toNat) fz).2.2)]),some (.blk [.int .i64 7,.z9,.z9,.z9,.z9,.z9,.z9,.z9,.z9,.z9,.bool false,.bool false,.bool false,.int .i64 ((f3.getD (((z.2:Int)).toNat) fz).2.1),.int .i64 ((f3.getD (((z.2:Int)).toNat) fz).2.2),.z9,.bool false]),some (.lst 20 ([TU (f3.getD (((z.2:Int)).toNat) fz) b1].length) (fun zz=>BG ([TU (f3.getD (((z.2:Int)).toNat) fz) b1].getD zz Rw.z))),some (.row 203 20 ((z.1++[TU (f3.getD (((z.2:Int)).toNat) fz) b1]).length) 0 (fun zz=>BG ((z.1++[TU (f3.getD (((z.2:Int)).toNat) fz) b1]).getD zz Rw.z)))]) (m:=[0,5]) A.mem.len rfl rfl) b hb)) (hA.go A.mix fun b hb=>A.keys_own b ((CB (H:=[some (.lst 3 3 (fun zz=>gJ (f3.getD zz fz))),none,some (.blk [.str ((f3.getD (((z.2:Int)).toNat) fz).1),.int .i64 ((f3.getD (((z.2:Int)).toNat) fz).2.1),.int .i64 ((f3.getD (((z.2:Int)).toNat) fz).2.2)]),some (.blk [.int .i64 7,.z9,.z9,.z9,.z9,.z9,.z9,.z9,.z9,.z9,.bool false,.bool false,.bool false,.int .i64 ((f3.getD (((z.2:Int)).toNat) fz).2.1),.int .i64 ((f3.getD (((z.2:Int)).toNat) fz).2.2),.z9,.bool false]),some (.lst 20 ([TU (f3.getD (((z.2:Int)).toNat) fz) b1].length) (fun zz=>BG ([TU (f3.getD (((z.2:Int)).toNat) fz) b1].getD zz Rw.z))),some (.row 203 20 ((z.1++[TU (f3.getD (((z.2:Int)).toNat) fz) b1]).length) 0 (fun zz=>BG ((z.1++[TU (f3.getD (((z.2:Int)).toNat) fz) b1]).getD zz Rw.z)))]) (m:=[0,5]) A.mem.len rfl rfl) b hb))),((B.trans A).cut [0,2,10,11,12] rfl).mv 0 [0,5] rfl rfl rfl rfl (by simp only [α7]at h0;omega)⟩)
   (fun h1 A=>N9 10 A rfl rfl fun A=>(have e5:z.2=3:=(by have:=hJ.le;omega);have e:z.1.length=3:=(by have:=hJ.len;omega);match A.giveRow 1 0 (by omega) rfl rfl rfl with|⟨b,cp,A2,hG,ho,hk⟩=>JH (J:=fun x w w'=>∃(L:List Rw) (b cp:Nat),x=.sla (some ⟨b,0,none⟩) 3 cp∧(L.map tm=TV∧RowsIn w.heap.size L w' [b])∧w.heap.size≤b∧Cb 203 20 3 (fun zz=>BG (L.getD zz Rw.z)) b cp w') hX (B.trans A2) (fun i e he=>CW he) rfl rfl rfl rfl ⟨z.1,b,cp,(by show SV.sla _ z.1.length cp=_;rw [e]),⟨(by have h2:=hJ.tm;rw [e5]at h2;exact h2),(RowsIn.ok _ _ _ _ hJ.rw A.mix fun b2 hb=>by have:b2=b:=(by simpa using hb);rw [this];exact ho)⟩,IS B (fun i e he=>CW he) ho,(by rw [←e];exact hG)⟩))
end Go.Proofs.YtbbdanhpphlbpaaGreatDoor.Ar
namespace Go.Proofs.YtbbdanhpphlbpaaGreatDoor.Ar
open Go.RowKit
set_option simprocs false
abbrev Fo (b1 b2 b3:Nat):List (Nat×List SV):=[(b3,[.str [76,68,82,42],.str [],.int .i64 4,.z9,.z9,.z9,.z9,.z9,.z9,.z9,.z9,.z9,.ff,.ff,.ff,.z9,.z9,.z9,.ff,.sla (some ⟨b1,0,none⟩) 2 2,.str [76,68,65,82,42],.str [],.int .i64 4,.z9,.z9,.z9,.z9,.z9,.z9,.z9,.z9,.z9,.tt,.ff,.ff,.z9,.z9,.z9,.ff,.sla (some ⟨b1,0,none⟩) 2 2,.str [76,68,65,80,82,42],.str [],.int .i64 4,.z9,.z9,.z9,.z9,.z9,.z9,.z9,.z9,.z9,.ff,.tt,.ff,.z9,.z9,.z9,.ff,.sla (some ⟨b1,0,none⟩) 2 2,.str [83,84,82,42],.str [],.int .i64 5,.z9,.z9,.z9,.z9,.z9,.z9,.z9,.z9,.z9,.ff,.ff,.ff,.z9,.z9,.z9,.ff,.sla (some ⟨b2,0,none⟩) 2 2,.str [83,84,76,82,42],.str [],.int .i64 5,.z9,.z9,.z9,.z9,.z9,.z9,.z9,.z9,.z9,.ff,.ff,.tt,.z9,.z9,.z9,.ff,.sla (some ⟨b2,0,none⟩) 2 2]),(b2,[.int .i64 2,.int .i64 6]),(b1,[.int .i64 1,.int .i64 6])]
theorem oZ:Ly Tryz.prog 198 [] [] (fun x w w'=>∃b1 b2 b3:Nat,x=.sla (some ⟨b3,0,none⟩) 5 5∧Acc w.heap.size (Fo b1 b2 b3) w' []):=
 EI (n:=21) (by kernel_rfl) Tryz.func198 rfl rfl rfl fun G w a h0 A=>have B:=A;have hA:Acc w.heap.size [] w _:=Acc.nil;N9 7 A rfl rfl fun A=>Dw [.int .i64 1,.int .i64 6] (X:=⟨_,true⟩) hX B hA A rfl rfl rfl rfl fun b1 B hA A=>
 Dw [.int .i64 2,.int .i64 6] (X:=⟨_,true⟩) hX B hA A rfl rfl rfl rfl fun b2 B hA A=>
 N9 21 A rfl rfl fun A=>Dw [.str [76,68,82,42],.str [],.int .i64 4,.z9,.z9,.z9,.z9,.z9,.z9,.z9,.z9,.z9,.ff,.ff,.ff,.z9,.z9,.z9,.ff,.sla (some ⟨b1,0,none⟩) 2 2,.str [76,68,65,82,42],.str [],.int .i64 4,.z9,.z9,.z9,.z9,.z9,.z9,.z9,.z9,.z9,.tt,.ff,.ff,.z9,.z9,.z9,.ff,.sla (some ⟨b1,0,none⟩) 2 2,.str [76,68,65,80,82,42],.str [],.int .i64 4,.z9,.z9,.z9,.z9,.z9,.z9,.z9,.z9,.z9,.ff,.tt,.ff,.z9,.z9,.z9,.ff,.sla (some ⟨b1,0,none⟩) 2 2,.str [83,84,82,42],.str [],.int .i64 5,.z9,.z9,.z9,.z9,.z9,.z9,.z9,.z9,.z9,.ff,.ff,.ff,.z9,.z9,.z9,.ff,.sla (some ⟨b2,0,none⟩) 2 2,.str [83,84,76,82,42],.str [],.int .i64 5,.z9,.z9,.z9,.z9,.z9,.z9,.z9,.z9,.z9,.ff,.ff,.tt,.z9,.z9,.z9,.ff,.sla (some ⟨b2,0,none⟩) 2 2] (X:=⟨_,true⟩) hX B hA A rfl rfl rfl rfl fun b3 B hA A=>
 N9 4 A rfl rfl fun A=>JH (J:=fun x w w'=>∃b1 b2 b3:Nat,x=.sla (some ⟨b3,0,none⟩) 5 5∧Acc w.heap.size (Fo b1 b2 b3) w' []) hX (B.trans A) (fun i e he=>CW he) rfl rfl rfl rfl ⟨b1,b2,b3,rfl,(hA.now A).bare⟩
abbrev G5 (b1 b2 b3 b4 b5:Nat):List (Nat×List SV):=[(b5,[.str [77,79,86],.str [],.int .i64 1,.z9,.z9,.z9,.z9,.z9,.z9,.z9,.z9,.z9,.ff,.ff,.ff,.z9,.z9,.z9,.ff,.sla (some ⟨b1,0,none⟩) 2 2,.str [77,79,86],.str [],.int .i64 2,.z9,.z9,.z9,.z9,.z9,.z9,.z9,.z9,.z9,.ff,.ff,.ff,.z9,.z9,.z9,.ff,.sla (some ⟨b2,0,none⟩) 2 2,.str [73,83,66],.str [],.int .i64 8,.z9,.z9,.z9,.z9,.z9,.z9,.z9,.z9,.z9,.ff,.ff,.ff,.z9,.z9,.z9,.ff,.sla none 0 0,.str [67,66,90],.str [],.int .i64 9,.z9,.z9,.z9,.z9,.z9,.z9,.z9,.z9,.z9,.ff,.ff,.ff,.z9,.z9,.z9,.tt,.sla (some ⟨b3,0,none⟩) 2 2,.str [67,66,78,90],.str [],.int .i64 9,.z9,.z9,.z9,.z9,.z9,.z9,.z9,.z9,.z9,.ff,.ff,.ff,.z9,.z9,.z9,.ff,.sla (some ⟨b4,0,none⟩) 2 2]),(b4,[.int .i64 2,.int .i64 7]),(b3,[.int .i64 2,.int .i64 7]),(b2,[.int .i64 1,.int .i64 2]),(b1,[.int .i64 1,.int .i64 5])]
theorem o6:Ly Tryz.prog 201 [] [] (fun x w w'=>∃b1 b2 b3 b4 b5:Nat,x=.sla (some ⟨b5,0,none⟩) 5 5∧Acc w.heap.size (G5 b1 b2 b3 b4 b5) w' []):=
 EI (n:=16) (by kernel_rfl) Tryz.func201 rfl rfl rfl fun G w a h0 A=>have B:=A;have hA:Acc w.heap.size [] w _:=Acc.nil;N9 8 A rfl rfl fun A=>Dw [.int .i64 1,.int .i64 5] (X:=⟨_,true⟩) hX B hA A rfl rfl rfl rfl fun b1 B hA A=>
 N9 2 A rfl rfl fun A=>Dw [.int .i64 1,.int .i64 2] (X:=⟨_,true⟩) hX B hA A rfl rfl rfl rfl fun b2 B hA A=>
 N9 4 A rfl rfl fun A=>Dw [.int .i64 2,.int .i64 7] (X:=⟨_,true⟩) hX B hA A rfl rfl rfl rfl fun b3 B hA A=>
 N9 2 A rfl rfl fun A=>Dw [.int .i64 2,.int .i64 7] (X:=⟨_,true⟩) hX B hA A rfl rfl rfl rfl fun b4 B hA A=>
 N9 1 A rfl rfl fun A=>Dw [.str [77,79,86],.str [],.int .i64 1,.z9,.z9,.z9,.z9,.z9,.z9,.z9,.z9,.z9,.ff,.ff,.ff,.z9,.z9,.z9,.ff,.sla (some ⟨b1,0,none⟩) 2 2,.str [77,79,86],.str [],.int .i64 2,.z9,.z9,.z9,.z9,.z9,.z9,.z9,.z9,.z9,.ff,.ff,.ff,.z9,.z9,.z9,.ff,.sla (some ⟨b2,0,none⟩) 2 2,.str [73,83,66],.str [],.int .i64 8,.z9,.z9,.z9,.z9,.z9,.z9,.z9,.z9,.z9,.ff,.ff,.ff,.z9,.z9,.z9,.ff,.sla none 0 0,.str [67,66,90],.str [],.int .i64 9,.z9,.z9,.z9,.z9,.z9,.z9,.z9,.z9,.z9,.ff,.ff,.ff,.z9,.z9,.z9,.tt,.sla (some ⟨b3,0,none⟩) 2 2,.str [67,66,78,90],.str [],.int .i64 9,.z9,.z9,.z9,.z9,.z9,.z9,.z9,.z9,.z9,.ff,.ff,.ff,.z9,.z9,.z9,.ff,.sla (some ⟨b4,0,none⟩) 2 2] (X:=⟨_,true⟩) hX B hA A rfl rfl rfl rfl fun b5 B hA A=>
 N9 4 A rfl rfl fun A=>JH (J:=fun x w w'=>∃b1 b2 b3 b4 b5:Nat,x=.sla (some ⟨b5,0,none⟩) 5 5∧Acc w.heap.size (G5 b1 b2 b3 b4 b5) w' []) hX (B.trans A) (fun i e he=>CW he) rfl rfl rfl rfl ⟨b1,b2,b3,b4,b5,rfl,(hA.now A).bare⟩
end Go.Proofs.YtbbdanhpphlbpaaGreatDoor.Ar
namespace Go.Proofs.YtbbdanhpphlbpaaGreatDoor.Ar
open Go.RowKit
set_option simprocs false
def Fp (b1 b2:Nat):List Rw:=[⟨[76,68,82,42],[],⟨4,0,0,0,0,0,0,0,0,0,false,false,false,0,0,0,false⟩,some ⟨b1,0,none⟩,[1,6],2⟩,⟨[76,68,65,82,42],[],⟨4,0,0,0,0,0,0,0,0,0,true,false,false,0,0,0,false⟩,some ⟨b1,0,none⟩,[1,6],2⟩,⟨[76,68,65,80,82,42],[],⟨4,0,0,0,0,0,0,0,0,0,false,true,false,0,0,0,false⟩,some ⟨b1,0,none⟩,[1,6],2⟩,⟨[83,84,82,42],[],⟨5,0,0,0,0,0,0,0,0,0,false,false,false,0,0,0,false⟩,some ⟨b2,0,none⟩,[2,6],2⟩,⟨[83,84,76,82,42],[],⟨5,0,0,0,0,0,0,0,0,0,false,false,true,0,0,0,false⟩,some ⟨b2,0,none⟩,[2,6],2⟩]
def o7:List (List UInt8×List UInt8×In×List Int):=[([76,68,82,42],[],⟨4,0,0,0,0,0,0,0,0,0,false,false,false,0,0,0,false⟩,[1,6]),([76,68,65,82,42],[],⟨4,0,0,0,0,0,0,0,0,0,true,false,false,0,0,0,false⟩,[1,6]),([76,68,65,80,82,42],[],⟨4,0,0,0,0,0,0,0,0,0,false,true,false,0,0,0,false⟩,[1,6]),([83,84,82,42],[],⟨5,0,0,0,0,0,0,0,0,0,false,false,false,0,0,0,false⟩,[2,6]),([83,84,76,82,42],[],⟨5,0,0,0,0,0,0,0,0,0,false,false,true,0,0,0,false⟩,[2,6])]
theorem TW {b1 b2 b3 lo lo2:Nat}{w:World}{ks:List Nat}(h:Acc lo (Fo b1 b2 b3) w ks)(Dl:lo2≤lo):RowsIn lo2 (Fp b1 b2) w ks:=by
 intro r hr
 unfold Fp at hr
 simp only [ζ9,ι1,μ9]at hr
 rcases hr with rfl|rfl|rfl|rfl|rfl
 ·have q:=BY (b:=b1) (cs:=[]) [1,6] h (by show _∈Fo b1 b2 b3;unfold Fo;simp);exact⟨q.1,fun z hz=>β4 Dl (q.2 z hz)⟩
 ·have q:=BY (b:=b1) (cs:=[]) [1,6] h (by show _∈Fo b1 b2 b3;unfold Fo;simp);exact⟨q.1,fun z hz=>β4 Dl (q.2 z hz)⟩
 ·have q:=BY (b:=b1) (cs:=[]) [1,6] h (by show _∈Fo b1 b2 b3;unfold Fo;simp);exact⟨q.1,fun z hz=>β4 Dl (q.2 z hz)⟩
 ·have q:=BY (b:=b2) (cs:=[]) [2,6] h (by show _∈Fo b1 b2 b3;unfold Fo;simp);exact⟨q.1,fun z hz=>β4 Dl (q.2 z hz)⟩
 ·have q:=BY (b:=b2) (cs:=[]) [2,6] h (by show _∈Fo b1 b2 b3;unfold Fo;simp);exact⟨q.1,fun z hz=>β4 Dl (q.2 z hz)⟩
theorem WT (b1 b2 b3:Nat):Al [] ((Fp b1 b2).flatMap BG)=Al [] [.str [76,68,82,42],.str [],.int .i64 4,.z9,.z9,.z9,.z9,.z9,.z9,.z9,.z9,.z9,.ff,.ff,.ff,.z9,.z9,.z9,.ff,.sla (some ⟨b1,0,none⟩) 2 2,.str [76,68,65,82,42],.str [],.int .i64 4,.z9,.z9,.z9,.z9,.z9,.z9,.z9,.z9,.z9,.tt,.ff,.ff,.z9,.z9,.z9,.ff,.sla (some ⟨b1,0,none⟩) 2 2,.str [76,68,65,80,82,42],.str [],.int .i64 4,.z9,.z9,.z9,.z9,.z9,.z9,.z9,.z9,.z9,.ff,.tt,.ff,.z9,.z9,.z9,.ff,.sla (some ⟨b1,0,none⟩) 2 2,.str [83,84,82,42],.str [],.int .i64 5,.z9,.z9,.z9,.z9,.z9,.z9,.z9,.z9,.z9,.ff,.ff,.ff,.z9,.z9,.z9,.ff,.sla (some ⟨b2,0,none⟩) 2 2,.str [83,84,76,82,42],.str [],.int .i64 5,.z9,.z9,.z9,.z9,.z9,.z9,.z9,.z9,.z9,.ff,.ff,.tt,.z9,.z9,.z9,.ff,.sla (some ⟨b2,0,none⟩) 2 2]:=by rfl
section
variable {n:Nat}{ks:List Nat}{G0:Gr}{w0:World}{T:List (Nat×SV)}{H:Hp}{G:Gr}{a:Act}{w:World}{Q:Exit→Act→World→Prop}{K:List Fr}{ops:Array Oper}{o:Oper}{rest:List Oper}
theorem Yu (A:Sy n T H ks G0 w0 G a w) (h1:B6 n ops T o=some (198,[]))
  (k:∀b1 b2 b3 vs a' w',Al [] ((Fp b1 b2).flatMap BG)=some vs→Kk b3 0 vs w' (keys H G)→RowsIn w.heap.size (Fp b1 b2) w' (keys H G)→Sy n (Bh T o.dst (.sla (some ⟨b3,0,none⟩) 5 5)) H ks G0 w0 G a' w'→Goal Tryz.prog Q K (.ops ops rest) a' w'):Goal Tryz.prog Q K (.ops ops (o::rest)) a w:=by
 refine OR [] oZ A h1 rfl rfl rfl rfl fun x a' w' hJ hk A'=>?_
 obtain⟨b1,b2,b3,rfl,hA⟩:=hJ
 have hA:=Is hA hk
 obtain⟨_,vs,q1,q2⟩:=hA _ ε2
 exact k b1 b2 b3 vs a' w' ((WT b1 b2 b3).trans q1) q2 (TW hA (β7 _)) A'
end
def Hl (b1 b2 b3 b4:Nat):List Rw:=[⟨[77,79,86],[],⟨1,0,0,0,0,0,0,0,0,0,false,false,false,0,0,0,false⟩,some ⟨b1,0,none⟩,[1,5],2⟩,⟨[77,79,86],[],⟨2,0,0,0,0,0,0,0,0,0,false,false,false,0,0,0,false⟩,some ⟨b2,0,none⟩,[1,2],2⟩,⟨[73,83,66],[],⟨8,0,0,0,0,0,0,0,0,0,false,false,false,0,0,0,false⟩,none,[],0⟩,⟨[67,66,90],[],⟨9,0,0,0,0,0,0,0,0,0,false,false,false,0,0,0,true⟩,some ⟨b3,0,none⟩,[2,7],2⟩,⟨[67,66,78,90],[],⟨9,0,0,0,0,0,0,0,0,0,false,false,false,0,0,0,false⟩,some ⟨b4,0,none⟩,[2,7],2⟩]
def o8:List (List UInt8×List UInt8×In×List Int):=[([77,79,86],[],⟨1,0,0,0,0,0,0,0,0,0,false,false,false,0,0,0,false⟩,[1,5]),([77,79,86],[],⟨2,0,0,0,0,0,0,0,0,0,false,false,false,0,0,0,false⟩,[1,2]),([73,83,66],[],⟨8,0,0,0,0,0,0,0,0,0,false,false,false,0,0,0,false⟩,[]),([67,66,90],[],⟨9,0,0,0,0,0,0,0,0,0,false,false,false,0,0,0,true⟩,[2,7]),([67,66,78,90],[],⟨9,0,0,0,0,0,0,0,0,0,false,false,false,0,0,0,false⟩,[2,7])]
theorem TX {b1 b2 b3 b4 b5 lo lo2:Nat}{w:World}{ks:List Nat}(h:Acc lo (G5 b1 b2 b3 b4 b5) w ks)(Dl:lo2≤lo):RowsIn lo2 (Hl b1 b2 b3 b4) w ks:=by
 intro r hr
 unfold Hl at hr
 simp only [ζ9,ι1,μ9]at hr
 rcases hr with rfl|rfl|rfl|rfl|rfl
 ·have q:=BY (b:=b1) (cs:=[]) [1,5] h (by show _∈G5 b1 b2 b3 b4 b5;unfold G5;simp);exact⟨q.1,fun z hz=>β4 Dl (q.2 z hz)⟩
 ·have q:=BY (b:=b2) (cs:=[]) [1,2] h (by show _∈G5 b1 b2 b3 b4 b5;unfold G5;simp);exact⟨q.1,fun z hz=>β4 Dl (q.2 z hz)⟩
 ·exact⟨.inl ⟨rfl,rfl⟩,fun q hq=>by cases hq⟩
 ·have q:=BY (b:=b3) (cs:=[]) [2,7] h (by show _∈G5 b1 b2 b3 b4 b5;unfold G5;simp);exact⟨q.1,fun z hz=>β4 Dl (q.2 z hz)⟩
 ·have q:=BY (b:=b4) (cs:=[]) [2,7] h (by show _∈G5 b1 b2 b3 b4 b5;unfold G5;simp);exact⟨q.1,fun z hz=>β4 Dl (q.2 z hz)⟩
theorem WU (b1 b2 b3 b4 b5:Nat):Al [] ((Hl b1 b2 b3 b4).flatMap BG)=Al [] [.str [77,79,86],.str [],.int .i64 1,.z9,.z9,.z9,.z9,.z9,.z9,.z9,.z9,.z9,.ff,.ff,.ff,.z9,.z9,.z9,.ff,.sla (some ⟨b1,0,none⟩) 2 2,.str [77,79,86],.str [],.int .i64 2,.z9,.z9,.z9,.z9,.z9,.z9,.z9,.z9,.z9,.ff,.ff,.ff,.z9,.z9,.z9,.ff,.sla (some ⟨b2,0,none⟩) 2 2,.str [73,83,66],.str [],.int .i64 8,.z9,.z9,.z9,.z9,.z9,.z9,.z9,.z9,.z9,.ff,.ff,.ff,.z9,.z9,.z9,.ff,.sla none 0 0,.str [67,66,90],.str [],.int .i64 9,.z9,.z9,.z9,.z9,.z9,.z9,.z9,.z9,.z9,.ff,.ff,.ff,.z9,.z9,.z9,.tt,.sla (some ⟨b3,0,none⟩) 2 2,.str [67,66,78,90],.str [],.int .i64 9,.z9,.z9,.z9,.z9,.z9,.z9,.z9,.z9,.z9,.ff,.ff,.ff,.z9,.z9,.z9,.ff,.sla (some ⟨b4,0,none⟩) 2 2]:=by rfl
section
variable {n:Nat}{ks:List Nat}{G0:Gr}{w0:World}{T:List (Nat×SV)}{H:Hp}{G:Gr}{a:Act}{w:World}{Q:Exit→Act→World→Prop}{K:List Fr}{ops:Array Oper}{o:Oper}{rest:List Oper}
theorem Yv (A:Sy n T H ks G0 w0 G a w) (h1:B6 n ops T o=some (201,[]))
  (k:∀b1 b2 b3 b4 b5 vs a' w',Al [] ((Hl b1 b2 b3 b4).flatMap BG)=some vs→Kk b5 0 vs w' (keys H G)→RowsIn w.heap.size (Hl b1 b2 b3 b4) w' (keys H G)→Sy n (Bh T o.dst (.sla (some ⟨b5,0,none⟩) 5 5)) H ks G0 w0 G a' w'→Goal Tryz.prog Q K (.ops ops rest) a' w'):Goal Tryz.prog Q K (.ops ops (o::rest)) a w:=by
 refine OR [] o6 A h1 rfl rfl rfl rfl fun x a' w' hJ hk A'=>?_
 obtain⟨b1,b2,b3,b4,b5,rfl,hA⟩:=hJ
 have hA:=Is hA hk
 obtain⟨_,vs,q1,q2⟩:=hA _ ε2
 exact k b1 b2 b3 b4 b5 vs a' w' ((WU b1 b2 b3 b4 b5).trans q1) q2 (TX hA (β7 _)) A'
end
def JV:List (List UInt8×List UInt8×In×List Int):=(((MQ++o7)++MR)++TV)++o8
theorem LF:Ly Tryz.prog 148 [] [] (fun x w w'=>∃(L:List Rw) (b cp:Nat),x=.agg [.str [88,48],.str [88,49],.str [88,50],.str [88,51],.str [88,52],.str [88,53],.str [88,54],.str [88,55],.str [66],.str [72],.str [87],.str [],.str [35],.str [],.str [],.str [],.sla (some ⟨b,0,none⟩) 31 cp]∧(L.map tm=JV∧RowsIn w.heap.size L w' [b])∧w.heap.size≤b∧Cb 203 20 31 (fun zz=>BG (L.getD zz Rw.z)) b cp w'):=
 EI (n:=11) (by kernel_rfl) Tryz.func148 rfl rfl rfl fun G w a h0 A=>N9 7 A rfl rfl fun A=>C9 [] (gG) A rfl fun A=>N9 1 A rfl rfl fun A=>have hz:=A.mix.size;HH (t:=3) (F:=fun(L:List Rw) zz=>BG (L.getD zz Rw.z)) (R:=fun L b w w'=>L.map tm=MQ∧RowsIn w.heap.size L w' [b]) gH A rfl rfl fun L1 e1 cp1 a1_ w1 G1 jM Dl hk A=>have l1:L1.length=10:=(by have q:=congrArg List.length jM.1;rw [δ2]at q;exact q);have hI:=(Bi jM.2 hk).mono hz;have B:=A;have A:=B.base;
 have hz:=β4 B.mix.size A.mix.size;Yu A rfl fun p1 p2 p3 vp a2_ w2 hv hL hO A=>have hI:=(RowsIn.ok _ _ _ _ hI A.mix A.keys_own).app (hO.mono hz);have lx2:(Fp p1 p2).length=5:=rfl;have l12:(L1++(Fp p1 p2)).length=15:=(by rw [α4,l1,lx2]);have B:=B.trans A;have A:=A.base;have A:=A.adoptL Rw.z BG 20 ID.1 ID.2.1 ID.2.2 (Fp p1 p2) hL hv 4 rfl;
 have hz:=β4 B.mix.size A.mix.size;HH (t:=5) (F:=fun(L:List Rw) zz=>BG (L.getD zz Rw.z)) (R:=fun L b w w'=>L.map tm=MR∧RowsIn w.heap.size L w' [b]) gI A rfl rfl fun L3 e3 cp3 a3_ w3 G3 xV Dl hk A=>have lx3:L3.length=8:=(by have q:=congrArg List.length xV.1;rw [δ2]at q;exact q);have CT:=(Bi xV.2 hk).mono hz;have hI:=(RowsIn.ok _ _ _ _ hI A.mix A.keys_own).app CT;have l13:((L1++(Fp p1 p2))++L3).length=23:=(by rw [α4,l12,lx3]);have B:=B.trans A;have A:=A.base;
 have hz:=β4 B.mix.size A.mix.size;HH (t:=6) (F:=fun(L:List Rw) zz=>BG (L.getD zz Rw.z)) (R:=fun L b w w'=>L.map tm=TV∧RowsIn w.heap.size L w' [b]) oY A rfl rfl fun L4 e4 cp4 a4_ w4 G4 xW Dl hk A=>have lx4:L4.length=3:=(by have q:=congrArg List.length xW.1;rw [δ2]at q;exact q);have CT:=(Bi xW.2 hk).mono hz;have hI:=(RowsIn.ok _ _ _ _ hI A.mix A.keys_own).app CT;have l14:(((L1++(Fp p1 p2))++L3)++L4).length=26:=(by rw [α4,l13,lx4]);have B:=B.trans A;have A:=A.base;
 have hz:=β4 B.mix.size A.mix.size;Yv A rfl fun q1 q2 q3 q4 q5 vq a5_ w5 hv hL hO A=>have hI:=(RowsIn.ok _ _ _ _ hI A.mix A.keys_own).app (hO.mono hz);have lx5:(Hl q1 q2 q3 q4).length=5:=rfl;have l15:((((L1++(Fp p1 p2))++L3)++L4)++(Hl q1 q2 q3 q4)).length=31:=(by rw [α4,l14,lx5]);have B:=B.trans A;have A:=A.base;have A:=A.adoptL Rw.z BG 20 ID.1 ID.2.1 ID.2.2 (Hl q1 q2 q3 q4) hL hv 7 rfl;
 N9 1 A rfl rfl fun A=>have A:=A.freeze 1 rfl;have A:=A.freeze 3 rfl;have A:=A.freeze 4 rfl;C9 [6,1,2,3,4,5] (WS L1 (Fp p1 p2) L3 L4 (Hl q1 q2 q3 q4) 0 5 0 0 5 l1 l12 l13 l14) A rfl fun A=>match A.giveRow 7 9 (by decide) rfl rfl rfl with|⟨b,cp,A2,hG,ho,rD⟩=>(have h1:=RowsIn.ok _ _ _ _ hI A2.mix A2.keys_own;have h2:=RowsIn.ok _ _ _ [b] hI A2.mix (fun b2 hb=>by have:b2=b:=(by simpa using hb);rw [this];exact ho);have ZN:=IS B (fun i e he=>CW he) ho;have B:=B.trans A2;have A:=A2.base;
 N9 5 A rfl rfl fun A=>JH (J:=fun x w w'=>∃(L:List Rw) (b cp:Nat),x=.agg [.str [88,48],.str [88,49],.str [88,50],.str [88,51],.str [88,52],.str [88,53],.str [88,54],.str [88,55],.str [66],.str [72],.str [87],.str [],.str [35],.str [],.str [],.str [],.sla (some ⟨b,0,none⟩) 31 cp]∧(L.map tm=JV∧RowsIn w.heap.size L w' [b])∧w.heap.size≤b∧Cb 203 20 31 (fun zz=>BG (L.getD zz Rw.z)) b cp w') hX (B.trans A) (fun i e he=>CW he) rfl rfl rfl rfl ⟨((((L1++(Fp p1 p2))++L3)++L4)++(Hl q1 q2 q3 q4)),b,cp,rfl,⟨by rw [ζ5,ζ5,ζ5,ζ5,jM.1,xV.1,xW.1];rfl,h1.one h2 A.mix⟩,ZN,hG.mix A.mix rD⟩)
end Go.Proofs.YtbbdanhpphlbpaaGreatDoor.Ar
namespace Go.Proofs.YtbbdanhpphlbpaaGreatDoor
end Go.Proofs.YtbbdanhpphlbpaaGreatDoor
namespace Go.Proofs.YtbbdanhpphlbpaaGreatDoor.Ar
open Go.RowKit
set_option simprocs false
def E7:Lg:=⟨[88,48],[88,49],[88,50],[88,51],[88,52],[88,53],[88,54],[88,55],[66],[72],[87],[],[35],[],[],[]⟩
def QD:List Rw:=JV.map Yl
theorem WV {L:List Rw}{i:In}{lb:List UInt8}(h:L.map tm=JV):Dg E7 L i lb=Dg E7 QD i lb:=by
 have:=QB (g:=E7) (L:=L) (i:=i) (lb:=lb)
 rw [WG h]at this
 exact this.symm
theorem gK:j7 E7:=by
 refine⟨⟨fun r=>?_,by decide⟩,fun k=>?_,by decide,by decide,by decide⟩
 ·unfold GH
  split
  ·exact β8 _
  ·next h=>
   have:(r).toNat=0∨(r).toNat=1∨(r).toNat=2∨(r).toNat=3∨(r).toNat=4∨(r).toNat=5∨(r).toNat=6∨(r).toNat=7:=by
    simp only [β9,δ5]at h;omega
   rcases this with e|e|e|e|e|e|e|e<;>rw [e]<;>decide
 ·by_cases h:k<4
  ·have:k=0∨k=1∨k=2∨k=3:=by omega
   rcases this with rfl|rfl|rfl|rfl<;>decide
  ·rw [α6,γ4 (by simpa using h)];decide
theorem WW {L:List Rw}{i:In}{lb:List UInt8}(hi:aO i)(hl:lb.length≤100000)(hm:L.map tm=JV):Lj E7 L i lb:=WO hm gK (by decide+kernel) (by decide+kernel) hi hl
theorem Yw (i:In)(lb:List UInt8)(os:List (Nat×Obj))(hM:LR os)(hT:NU os)(hE:MF os)(hp:∀L:List Rw,L.map tm=JV→Lj E7 L i lb):CE (Gl os) Tryz.prog 116 [.agg (A5 i),.str lb] [] (Rt (.tup [.str ((Dg E7 QD i lb).1),.int .i64 ((Dg E7 QD i lb).2)]) []):=
 BB (n:=12) (by kernel_rfl) Tryz.func116 rfl rfl rfl fun G w a h0 hI A=>N9 8 A rfl rfl fun A=>NC 8 By rfl A fun{w2} A=>KE (fun(tail:∀(L:List Rw) {G1:Gr} {a1:Act} {w1:World},L.map tm=JV→L.length=31→FU os L w1 (keys [some (.blk (A5 i)),some (FT L)] G1)→Sy 12 [(6,.agg [.str [88,48],.str [88,49],.str [88,50],.str [88,51],.str [88,52],.str [88,53],.str [88,54],.str [88,55],.str [66],.str [72],.str [87],.str [],.str [35],.str [],.str [],.str [],.sl 1 L.length 0]),(7,.agg (A5 i)),(8,.str lb)] [some (.blk (A5 i)),some (FT L)] (keys [] G) G w G1 a1 w1→wpAny Tryz.prog .any _ _ _ _ a1 w1)=>Aw (rs:=[0,1,2]) (by kernel_rfl) (by decide) (Cc ⟨DC (t:=6) (l:=[.str [88,48],.str [88,49],.str [88,50],.str [88,51],.str [88,52],.str [88,53],.str [88,54],.str [88,55],.str [66],.str [72],.str [87],.str [],.str [35],.str [],.str [],.str []]) (F:=fun(L:List Rw) zz=>BG (L.getD zz Rw.z)) (R:=fun L b w w'=>L.map tm=JV∧RowsIn w.heap.size L w' [b]) rfl LF A rfl rfl fun L b cp a1 w1 G1 hR Dl Iw A=>have Br:L.length=31:=(by have q:=congrArg List.length hR.1;rw [δ2]at q;exact q.trans (by decide+kernel));have Ix:=Bi hR.2 Iw;have B0:=A;have A:=A.base;have A:=A.rowAs 1 L.length (fun zz=>BG (L.getD zz Rw.z)) rfl Br (fun _ _=>rfl) (fun z=>⟨_,rfl,rfl⟩);have A:=A.say 6 (.agg [.str [88,48],.str [88,49],.str [88,50],.str [88,51],.str [88,52],.str [88,53],.str [88,54],.str [88,55],.str [66],.str [72],.str [87],.str [],.str [35],.str [],.str [],.str [],.sl 1 L.length 0]) rfl (by rw [Br]<;>rfl);have A:=A.freeze 1 rfl;have Iy:=RowsIn.ok.now A Ix;have B:=B0.trans A;have A:=A.base;have CT:FU os L _ _:=⟨fun r hr=>(Iy r hr).1,Gl.ok.now B hI⟩;Aw (rs:=[1,2]) (by kernel_rfl) (by decide) (Cc ⟨Da (.agg (A5 i)) rfl A rfl rfl fun A=>Aw (rs:=[2]) (by kernel_rfl) (by decide) (Cc ⟨Da (.str lb) rfl A rfl rfl fun A=>tail L hR.1 Br (FU.ok.now A CT) ((B.trans A).cut [6,7,8] rfl),
    (DF)⟩),
   (Cc ⟨Da (.str lb) rfl A rfl rfl fun A=>Aw (rs:=[1]) (by kernel_rfl) (by decide) (Cc ⟨Da (.agg (A5 i)) rfl A rfl rfl fun A=>tail L hR.1 Br (FU.ok.now A CT) ((B.trans A).cut [6,7,8] rfl),
    (DF)⟩),
   (DF)⟩)⟩),
  (Cc ⟨Da (.agg (A5 i)) rfl A rfl rfl fun A=>Aw (rs:=[0,2]) (by kernel_rfl) (by decide) (Cc ⟨DC (t:=6) (l:=[.str [88,48],.str [88,49],.str [88,50],.str [88,51],.str [88,52],.str [88,53],.str [88,54],.str [88,55],.str [66],.str [72],.str [87],.str [],.str [35],.str [],.str [],.str []]) (F:=fun(L:List Rw) zz=>BG (L.getD zz Rw.z)) (R:=fun L b w w'=>L.map tm=JV∧RowsIn w.heap.size L w' [b]) rfl LF A rfl rfl fun L b cp a1 w1 G1 hR Dl Iw A=>have Br:L.length=31:=(by have q:=congrArg List.length hR.1;rw [δ2]at q;exact q.trans (by decide+kernel));have Ix:=Bi hR.2 Iw;have B0:=A;have A:=A.base;have A:=A.rowAs 1 L.length (fun zz=>BG (L.getD zz Rw.z)) rfl Br (fun _ _=>rfl) (fun z=>⟨_,rfl,rfl⟩);have A:=A.say 6 (.agg [.str [88,48],.str [88,49],.str [88,50],.str [88,51],.str [88,52],.str [88,53],.str [88,54],.str [88,55],.str [66],.str [72],.str [87],.str [],.str [35],.str [],.str [],.str [],.sl 1 L.length 0]) rfl (by rw [Br]<;>rfl);have A:=A.freeze 1 rfl;have Iy:=RowsIn.ok.now A Ix;have B:=B0.trans A;have A:=A.base;have CT:FU os L _ _:=⟨fun r hr=>(Iy r hr).1,Gl.ok.now B hI⟩;Aw (rs:=[2]) (by kernel_rfl) (by decide) (Cc ⟨Da (.str lb) rfl A rfl rfl fun A=>tail L hR.1 Br (FU.ok.now A CT) ((B.trans A).cut [6,7,8] rfl),
    (DF)⟩),
   (Cc ⟨Da (.str lb) rfl A rfl rfl fun A=>Aw (rs:=[0]) (by kernel_rfl) (by decide) (Cc ⟨DC (t:=6) (l:=[.str [88,48],.str [88,49],.str [88,50],.str [88,51],.str [88,52],.str [88,53],.str [88,54],.str [88,55],.str [66],.str [72],.str [87],.str [],.str [35],.str [],.str [],.str []]) (F:=fun(L:List Rw) zz=>BG (L.getD zz Rw.z)) (R:=fun L b w w'=>L.map tm=JV∧RowsIn w.heap.size L w' [b]) rfl LF A rfl rfl fun L b cp a1 w1 G1 hR Dl Iw A=>have Br:L.length=31:=(by have q:=congrArg List.length hR.1;rw [δ2]at q;exact q.trans (by decide+kernel));have Ix:=Bi hR.2 Iw;have B0:=A;have A:=A.base;have A:=A.rowAs 1 L.length (fun zz=>BG (L.getD zz Rw.z)) rfl Br (fun _ _=>rfl) (fun z=>⟨_,rfl,rfl⟩);have A:=A.say 6 (.agg [.str [88,48],.str [88,49],.str [88,50],.str [88,51],.str [88,52],.str [88,53],.str [88,54],.str [88,55],.str [66],.str [72],.str [87],.str [],.str [35],.str [],.str [],.str [],.sl 1 L.length 0]) rfl (by rw [Br]<;>rfl);have A:=A.freeze 1 rfl;have Iy:=RowsIn.ok.now A Ix;have B:=B0.trans A;have A:=A.base;have CT:FU os L _ _:=⟨fun r hr=>(Iy r hr).1,Gl.ok.now B hI⟩;tail L hR.1 Br (FU.ok.now A CT) ((B.trans A).cut [6,7,8] rfl),
    (DF)⟩),
   (DF)⟩)⟩),
  (Cc ⟨Da (.str lb) rfl A rfl rfl fun A=>Aw (rs:=[0,1]) (by kernel_rfl) (by decide) (Cc ⟨DC (t:=6) (l:=[.str [88,48],.str [88,49],.str [88,50],.str [88,51],.str [88,52],.str [88,53],.str [88,54],.str [88,55],.str [66],.str [72],.str [87],.str [],.str [35],.str [],.str [],.str []]) (F:=fun(L:List Rw) zz=>BG (L.getD zz Rw.z)) (R:=fun L b w w'=>L.map tm=JV∧RowsIn w.heap.size L w' [b]) rfl LF A rfl rfl fun L b cp a1 w1 G1 hR Dl Iw A=>have Br:L.length=31:=(by have q:=congrArg List.length hR.1;rw [δ2]at q;exact q.trans (by decide+kernel));have Ix:=Bi hR.2 Iw;have B0:=A;have A:=A.base;have A:=A.rowAs 1 L.length (fun zz=>BG (L.getD zz Rw.z)) rfl Br (fun _ _=>rfl) (fun z=>⟨_,rfl,rfl⟩);have A:=A.say 6 (.agg [.str [88,48],.str [88,49],.str [88,50],.str [88,51],.str [88,52],.str [88,53],.str [88,54],.str [88,55],.str [66],.str [72],.str [87],.str [],.str [35],.str [],.str [],.str [],.sl 1 L.length 0]) rfl (by rw [Br]<;>rfl);have A:=A.freeze 1 rfl;have Iy:=RowsIn.ok.now A Ix;have B:=B0.trans A;have A:=A.base;have CT:FU os L _ _:=⟨fun r hr=>(Iy r hr).1,Gl.ok.now B hI⟩;Aw (rs:=[1]) (by kernel_rfl) (by decide) (Cc ⟨Da (.agg (A5 i)) rfl A rfl rfl fun A=>tail L hR.1 Br (FU.ok.now A CT) ((B.trans A).cut [6,7,8] rfl),
    (DF)⟩),
   (Cc ⟨Da (.agg (A5 i)) rfl A rfl rfl fun A=>Aw (rs:=[0]) (by kernel_rfl) (by decide) (Cc ⟨DC (t:=6) (l:=[.str [88,48],.str [88,49],.str [88,50],.str [88,51],.str [88,52],.str [88,53],.str [88,54],.str [88,55],.str [66],.str [72],.str [87],.str [],.str [35],.str [],.str [],.str []]) (F:=fun(L:List Rw) zz=>BG (L.getD zz Rw.z)) (R:=fun L b w w'=>L.map tm=JV∧RowsIn w.heap.size L w' [b]) rfl LF A rfl rfl fun L b cp a1 w1 G1 hR Dl Iw A=>have Br:L.length=31:=(by have q:=congrArg List.length hR.1;rw [δ2]at q;exact q.trans (by decide+kernel));have Ix:=Bi hR.2 Iw;have B0:=A;have A:=A.base;have A:=A.rowAs 1 L.length (fun zz=>BG (L.getD zz Rw.z)) rfl Br (fun _ _=>rfl) (fun z=>⟨_,rfl,rfl⟩);have A:=A.say 6 (.agg [.str [88,48],.str [88,49],.str [88,50],.str [88,51],.str [88,52],.str [88,53],.str [88,54],.str [88,55],.str [66],.str [72],.str [87],.str [],.str [35],.str [],.str [],.str [],.sl 1 L.length 0]) rfl (by rw [Br]<;>rfl);have A:=A.freeze 1 rfl;have Iy:=RowsIn.ok.now A Ix;have B:=B0.trans A;have A:=A.base;have CT:FU os L _ _:=⟨fun r hr=>(Iy r hr).1,Gl.ok.now B hI⟩;tail L hR.1 Br (FU.ok.now A CT) ((B.trans A).cut [6,7,8] rfl),
    (DF)⟩),
   (DF)⟩)⟩),
  (DF)⟩)⟩)⟩)) (fun L {G1 a1 w1} rE Br CT A=>have hR:L.map tm=JV∧True:=⟨rE,trivial⟩;have B:=A;have A:=B.base;Aw (rs:=[3]) (by kernel_rfl) (by decide) (Cc ⟨Em (x:=.tup [.str ((Dg E7 L i lb).1),.int .i64 ((Dg E7 L i lb).2)]) (H':=[some (.blk (A5 i)),some (FT L)]) rfl A rfl (De [1] FU.ok CT (NX E7 L 0 i lb os hM hT hE (hp L hR.1)) rfl rfl rfl rfl rfl rfl rfl) fun A=>Aw (rs:=[4,5]) (by kernel_rfl) (by decide) (Cc ⟨Da (.str ((Dg E7 L i lb).1)) rfl A rfl rfl fun A=>Aw (rs:=[5]) (by kernel_rfl) (by decide) (Cc ⟨Da (.int .i64 ((Dg E7 L i lb).2)) rfl A rfl rfl fun A=>Aw (rs:=[6]) (by kernel_rfl) (by decide) (Cc ⟨Da (.str ((Dg E7 L i lb).1)) rfl A rfl rfl fun A=>Aw (rs:=[7]) (by kernel_rfl) (by decide) (Cc ⟨Da (.int .i64 ((Dg E7 L i lb).2)) rfl A rfl rfl fun A=>El (by kernel_rfl) (N9 2 A rfl rfl fun A=>R9 (B.trans A) rfl h0 rfl (by rw [←WV hR.1]<;>rfl) rfl),
      (DF)⟩),
     (DF)⟩),
    (DF)⟩),
   (Cc ⟨Da (.int .i64 ((Dg E7 L i lb).2)) rfl A rfl rfl fun A=>Aw (rs:=[4]) (by kernel_rfl) (by decide) (Cc ⟨Da (.str ((Dg E7 L i lb).1)) rfl A rfl rfl fun A=>Aw (rs:=[6]) (by kernel_rfl) (by decide) (Cc ⟨Da (.str ((Dg E7 L i lb).1)) rfl A rfl rfl fun A=>Aw (rs:=[7]) (by kernel_rfl) (by decide) (Cc ⟨Da (.int .i64 ((Dg E7 L i lb).2)) rfl A rfl rfl fun A=>El (by kernel_rfl) (N9 2 A rfl rfl fun A=>R9 (B.trans A) rfl h0 rfl (by rw [←WV hR.1]<;>rfl) rfl),
      (DF)⟩),
     (DF)⟩),
    (DF)⟩),
   (DF)⟩)⟩),
  (DF)⟩))
end Go.Proofs.YtbbdanhpphlbpaaGreatDoor.Ar
namespace Go.Proofs.YtbbdanhpphlbpaaGreatDoor
open Go.RowKit
set_option simprocs false
def E8 (k:Int):List UInt8:=[76]++Lib.itoa k
theorem WX (k:Int)(h1: -9223372036854775808≤k)(h2:k≤9223372036854775807):(E8 k).length≤22:=by
 have:=Lib.itoa_length_le k h1 h2
 unfold E8;rw [α4];show 1+_≤_;omega
def GC (os:List (Nat×Obj))(cs:List Ak):Ef:=fun w ks=>Gl os w ks∧An cs w ks
theorem GC.ok {os:List (Nat×Obj)}{cs:List Ak}:Ef.OK (GC os cs):=fun w ks w' ks' h m hk=>⟨Gl.ok _ _ _ _ h.1 m hk,An.ok _ _ _ _ h.2 m hk⟩
def Yx (i:In):Prop:=aO i∧ -9223372036854775808≤i.to_∧i.to_≤9223372036854775807
def Dc (pe:In→Int)(cs:List Ak):Bool:=cs.all fun c=>c.l.all fun i=>pe i==0
structure Q1 (pe:In→Int)(cs:List Ak)(i:Nat):Prop where
 le:i≤cs.length
 ok:∀j,j<i→((cs.getD j Ak.z).l.all fun i=>pe i==0)=true
structure Q2 (pe:In→Int)(c:Ak)(k:Nat):Prop where
 le:k≤c.l.length
 ok:∀j,j<k→pe (c.l.getD j In.z)=0
section
variable {pe:In→Int}{cs:List Ak}{c:Ak}{i k:Nat}
theorem MS (h:(k:Int)<((c.l.length:Nat):Int)):c.l.getD ((k:Int)).toNat In.z∈c.l:=by
 rw [β5,α6,β0 (by omega)];exact η9 _
theorem MT (h:(i:Int)<((cs.length:Nat):Int)):cs.getD ((i:Int)).toNat Ak.z∈cs:=by
 rw [β5,α6,β0 (by omega)];exact η9 _
theorem Q2.i0:Q2 pe c 0:=⟨β8 _,fun j hj=>by omega⟩
theorem Q2.nx (h:Q2 pe c k)(h1:(k:Int)<((c.l.length:Nat):Int))(h2:pe (c.l.getD ((k:Int)).toNat In.z)=0):Q2 pe c (k+1):=⟨by omega,fun j hj=>by
 by_cases e:j=k
 ·subst e;rw [β5]at h2;exact h2
 ·exact h.ok j (by omega)⟩
theorem Q2.good (h:Q2 pe c k)(h1:¬(k:Int)<((c.l.length:Nat):Int)):(c.l.all fun i=>pe i==0)=true:=by
 rw [δ7]
 intro i hi
 obtain⟨j,hj,rfl⟩:=ρ4.1 hi
 have:=h.ok j (by omega)
 rw [α6,β0 hj]at this
 exact ε4.2 this
theorem Q1.i0:Q1 pe cs 0:=⟨β8 _,fun j hj=>by omega⟩
theorem Q1.nx (h:Q1 pe cs i)(h1:(i:Int)<((cs.length:Nat):Int))(h2:((cs.getD ((i:Int)).toNat Ak.z).l.all fun i=>pe i==0)=true):Q1 pe cs (i+1):=⟨by omega,fun j hj=>by
 by_cases e:j=i
 ·subst e;rw [β5]at h2;exact h2
 ·exact h.ok j (by omega)⟩
theorem Q1.good (h:Q1 pe cs i)(h1:¬(i:Int)<((cs.length:Nat):Int)):Dc pe cs=true:=by
 unfold Dc
 rw [δ7]
 intro c hc
 obtain⟨j,hj,rfl⟩:=ρ4.1 hc
 have:=h.ok j (by omega)
 rw [α6,β0 hj]at this
 exact this
theorem TY (h1:(i:Int)<((cs.length:Nat):Int))(h2:(k:Int)<(((cs.getD ((i:Int)).toNat Ak.z).l.length:Nat):Int))(h3:pe ((cs.getD ((i:Int)).toNat Ak.z).l.getD ((k:Int)).toNat In.z)≠0):Dc pe cs=false:=by
 cases hq:Dc pe cs with
 |false=>rfl
 |true=>
  unfold Dc at hq
  have e1:=δ7.1 hq _ (MT h1)
  have e2:=δ7.1 e1 _ (MS h2)
  exact absurd (ν4 e2) h3
end
theorem vJ (k:Int)(os:List (Nat×Obj))(hM:LR os)(hT:NU os)(hE:MF os)(h1: -9223372036854775808≤k)(h2:k≤9223372036854775807):CE (Gl os) Tryz.prog 84 [.int .i64 k] [] (Rt (.str (E8 k)) []):=
 BB (n:=6) (by kernel_rfl) Tryz.func84 rfl rfl rfl fun G w a h0 hI A=>N9 8 A rfl rfl fun A=>I9 [] Gl.ok hI (P6 k os hM hT h1 h2) A rfl fun A=>N9 5 A rfl (Aj (by have:=Lib.itoa_length_le k h1 h2;(try simp only [α4,α5,α7]);omega)<|Ah) fun A=>R9 A rfl h0 rfl rfl rfl
theorem H8 (cs:List Ak)(cx:Nat)(tt:List UInt8)(f1 fp f3:Nat)(pt:In→List UInt8→List UInt8)(pe:In→List UInt8→Int)(os:List (Nat×Obj))(hM:LR os)(hT:NU os)(hE:MF os)(hp:∀(i:In) (lb:List UInt8),aO i→lb.length≤100000→CE (Gl os) Tryz.prog fp [.agg (C3 i),.str lb] [] (Rt (.tup [.str (pt i lb),.int .i64 (pe i lb)]) []))(hs:∀c∈cs,c.l.length≤9223372036854775807)(hn:cs.length≤9223372036854775807)(hR:∀c∈cs,∀i∈c.l,Yx i):CE (GC os cs) Tryz.prog 49 [.agg [.str tt,.fn f1 [],.fn fp [],.fn f3 []],.sl 0 cs.length cx] [some (Bc cs)] (Rt (.bool (Dc (fun i=>pe i (E8 i.to_)) cs)) [some (Bc cs)]):=
 BB (n:=37) (by kernel_rfl) Tryz.func49 rfl rfl rfl fun G w a h0 hI A=>N9 15 A rfl rfl fun A=>B7 (fun(i:Nat)=>[(2,.ptr 1 0),(4,.ff),(11,.sl 0 cs.length cx),(12,.int .i64 ((cs.length:Nat):Int)),(13,.int .i64 (i:Int))]) (fun(i:Nat)=>[some (Bc cs),some (.blk [.str tt,.fn f1 [],.fn fp [],.fn f3 []])]) (fun(i:Nat)=>Q1 (fun i=>pe i (E8 i.to_)) cs i) (fun(i:Nat)=>cs.length - i) 0 Q1.i0 ((A.cut [2,4,11,12,13] rfl).trunc 2 rfl rfl rfl (Cj h0 rfl)) fun i hJ {G a w} A=>N9 6 A rfl rfl fun A=>Aq 14 A rfl
   (fun h1 A=>N9 13 A rfl (Aj (by(try have hy:=Cx hs ((i:Int)).toNat);(try have:=hK.le);(try have:=hJ.le);omega)<|Aj (by(try have hy:=Cx hs ((i:Int)).toNat);(try have:=hK.le);(try have:=hJ.le);omega)<|Ah) fun A=>N9 7 A rfl rfl fun A=>B7 (fun(k:Nat)=>[(2,.ptr 1 0),(4,.ff),(11,.sl 0 cs.length cx),(12,.int .i64 ((cs.length:Nat):Int)),(13,.int .i64 (i:Int)),(17,.sla ((cs.getD (((i:Int)).toNat) Ak.z).ao) ((cs.getD (((i:Int)).toNat) Ak.z).l.length) ((cs.getD (((i:Int)).toNat) Ak.z).cp)),(18,.int .i64 (((cs.getD (((i:Int)).toNat) Ak.z).l.length:Nat):Int)),(19,.int .i64 (k:Int))]) (fun(k:Nat)=>[some (Bc cs),some (.blk [.str tt,.fn f1 [],.fn fp [],.fn f3 []])]) (fun(k:Nat)=>Q2 (fun i=>pe i (E8 i.to_)) (cs.getD ((i:Int)).toNat Ak.z) k) (fun(k:Nat)=>(cs.getD ((i:Int)).toNat Ak.z).l.length - k) 0 Q2.i0 ((A.cut [2,4,11,12,13,17,18,19] rfl).trunc 2 rfl rfl rfl (Cj h0 rfl)) fun k hK {G a w} A=>N9 6 A rfl rfl fun A=>Aq 20 A rfl
     (fun h2 A=>N9 7 A rfl rfl fun A=>Pf (ao:=(cs.getD (((i:Int)).toNat) Ak.z).ao) (s:=17) (m:=(cs.getD (((i:Int)).toNat) Ak.z).l.length) (f:=fun zz=>C3 ((cs.getD (((i:Int)).toNat) Ak.z).l.getD zz In.z)) hX 21 17 (hI.2.at (by omega)) (by omega) A rfl rfl rfl rfl rfl rfl (Aj (by(try have hy:=Cx hs ((i:Int)).toNat);(try have:=hK.le);(try have:=hJ.le);omega)<|Ah) fun A=>N9 6 A rfl (Aj (by(try have hy:=Cx hs ((i:Int)).toNat);(try have:=hK.le);(try have:=hJ.le);omega)<|Ah) fun A=>JO By [.ptr 1 2,.fn fp [],.agg (A5 ((cs.getD (((i:Int)).toNat) Ak.z).l.getD (((k:Int)).toNat) In.z)),.ptr 3 15,.int .i64 (((cs.getD (((i:Int)).toNat) Ak.z).l.getD (((k:Int)).toNat) In.z).to_),.str (E8 (((cs.getD (((i:Int)).toNat) Ak.z).l.getD (((k:Int)).toNat) In.z).to_)),.tup [.str (pt ((cs.getD (((i:Int)).toNat) Ak.z).l.getD (((k:Int)).toNat) In.z) (E8 (((cs.getD (((i:Int)).toNat) Ak.z).l.getD (((k:Int)).toNat) In.z).to_))),.int .i64 (pe ((cs.getD (((i:Int)).toNat) Ak.z).l.getD (((k:Int)).toNat) In.z) (E8 (((cs.getD (((i:Int)).toNat) Ak.z).l.getD (((k:Int)).toNat) In.z).to_)))],.tup [.str (pt ((cs.getD (((i:Int)).toNat) Ak.z).l.getD (((k:Int)).toNat) In.z) (E8 (((cs.getD (((i:Int)).toNat) Ak.z).l.getD (((k:Int)).toNat) In.z).to_))),.int .i64 (pe ((cs.getD (((i:Int)).toNat) Ak.z).l.getD (((k:Int)).toNat) In.z) (E8 (((cs.getD (((i:Int)).toNat) Ak.z).l.getD (((k:Int)).toNat) In.z).to_)))],.str (pt ((cs.getD (((i:Int)).toNat) Ak.z).l.getD (((k:Int)).toNat) In.z) (E8 (((cs.getD (((i:Int)).toNat) Ak.z).l.getD (((k:Int)).toNat) In.z).to_))),.int .i64 (pe ((cs.getD (((i:Int)).toNat) Ak.z).l.getD (((k:Int)).toNat) In.z) (E8 (((cs.getD (((i:Int)).toNat) Ak.z).l.getD (((k:Int)).toNat) In.z).to_))),.str (pt ((cs.getD (((i:Int)).toNat) Ak.z).l.getD (((k:Int)).toNat) In.z) (E8 (((cs.getD (((i:Int)).toNat) Ak.z).l.getD (((k:Int)).toNat) In.z).to_))),.int .i64 (pe ((cs.getD (((i:Int)).toNat) Ak.z).l.getD (((k:Int)).toNat) In.z) (E8 (((cs.getD (((i:Int)).toNat) Ak.z).l.getD (((k:Int)).toNat) In.z).to_)))] [] [] 0 [([],[],[some (Bc cs),some (.blk [.str tt,.fn f1 [],.fn fp [],.fn f3 []]),some (.lst 17 ((cs.getD (((i:Int)).toNat) Ak.z).l.length) (fun zz=>C3 ((cs.getD (((i:Int)).toNat) Ak.z).l.getD zz In.z))),some (.blk (A5 ((cs.getD (((i:Int)).toNat) Ak.z).l.getD (((k:Int)).toNat) In.z)))])] [[true,true,true,true,true,true,true,true,true,true,true,true]] A rfl rfl rfl rfl (by kernel_rfl) rfl (by kernel_rfl) ⟨⟨Ao 0 rfl rfl,⟨Ao 0 rfl rfl,⟨Ao 0 rfl rfl,⟨Ao 0 rfl rfl,⟨Ao 0 rfl rfl,⟨CF 0 rfl (De [] GC.ok hI (CE.mono (vJ (((cs.getD (((i:Int)).toNat) Ak.z).l.getD (((k:Int)).toNat) In.z).to_) os hM hT hE (hR _ (MT h1) _ (MS h2)).2.1 (hR _ (MT h1) _ (MS h2)).2.2) fun _ _ q=>q.1) rfl rfl rfl rfl rfl rfl rfl),⟨CF 0 rfl (De [] GC.ok hI (CE.mono (hp ((cs.getD (((i:Int)).toNat) Ak.z).l.getD (((k:Int)).toNat) In.z) (E8 (((cs.getD (((i:Int)).toNat) Ak.z).l.getD (((k:Int)).toNat) In.z).to_)) (hR _ (MT h1) _ (MS h2)).1 (β4 (WX _ (hR _ (MT h1) _ (MS h2)).2.1 (hR _ (MT h1) _ (MS h2)).2.2) (by decide))) fun _ _ q=>q.1) rfl rfl rfl rfl rfl rfl rfl),⟨Ao 0 rfl rfl,⟨Ao 0 rfl rfl,⟨Ao 0 rfl rfl,⟨Ao 0 rfl rfl,⟨Ao 0 rfl rfl,trivial⟩⟩⟩⟩⟩⟩⟩⟩⟩⟩⟩⟩,trivial⟩ fun A=>N9 7 A rfl rfl fun A=>EZ 34 A rfl
      (fun h3 A=>N9 7 A rfl rfl fun A=>R9 A rfl h0 rfl (by rw [TY (pe:=(fun i=>pe i (E8 i.to_))) h1 h2 h3];rfl) rfl)
      (fun h3 A=>N9 8 A rfl (Aj (by(try have hy:=Cx hs ((i:Int)).toNat);(try have:=hK.le);(try have:=hJ.le);omega)<|Ah) fun A=>⟨k+1,_,(by omega),(hK.nx h2 h3),((A.cut [2,4,11,12,13,17,18,19] rfl).trunc 2 rfl rfl rfl (Cj h0 rfl))⟩))
     (fun h2 A=>N9 8 A rfl (Aj (by(try have hy:=Cx hs ((i:Int)).toNat);(try have:=hK.le);(try have:=hJ.le);omega)<|Ah) fun A=>⟨i+1,_,(by omega),(hJ.nx h1 (hK.good h2)),((A.cut [2,4,11,12,13] rfl).trunc 2 rfl rfl rfl (Cj h0 rfl))⟩))
   (fun h1 A=>N9 9 A rfl rfl fun A=>R9 A rfl h0 rfl (by rw [hJ.good h1];rfl) rfl)
theorem QE:Fn Tryz.prog 80 [] [] (Rt (.sl 0 3 3) [some (.blk [.str [88,56,54],.fn 109 [],.fn 110 [],.fn 111 [],.str [82,73,83,67,86],.fn 112 [],.fn 113 [],.fn 114 [],.str [65,82,77],.fn 115 [],.fn 116 [],.fn 117 []])]):=
 Am (n:=5) (by kernel_rfl) Tryz.func80 rfl rfl rfl fun G w a h0 A=>N9 15 A rfl rfl fun A=>Ns hX [0] A ⟨rfl,rfl⟩ rfl rfl rfl rfl rfl rfl rfl rfl h0
theorem Yy:Fn Tryz.prog 46 [.int .i64 1] [] (Rt (.tup [.agg [.str [88,56,54],.fn 109 [],.fn 110 [],.fn 111 []],.tt]) []):=
 Am (n:=16) (by kernel_rfl) Tryz.func46 rfl rfl rfl fun G w a h0 A=>N9 17 A rfl rfl fun A=>fork 9 A rfl
  (fun h1 A=>absurd h1 (by decide))
  (fun h1 A=>N9 5 A rfl rfl fun A=>C9 [] QE A rfl fun A=>N9 2 A rfl (Aj (by decide)<|Ah) fun A=>have A:=Ai A 13 (.int .i64 0) rfl (fun _=>rfl);N9 1 A rfl (Aj (by decide)<|Ah) fun A=>have A:=Ai A 14 (.ptr 1 0) rfl (Cy 0 rfl);N9 6 A rfl rfl fun A=>R9 A rfl h0 rfl rfl rfl)
theorem Yz:Fn Tryz.prog 46 [.int .i64 2] [] (Rt (.tup [.agg [.str [82,73,83,67,86],.fn 112 [],.fn 113 [],.fn 114 []],.tt]) []):=
 Am (n:=16) (by kernel_rfl) Tryz.func46 rfl rfl rfl fun G w a h0 A=>N9 17 A rfl rfl fun A=>fork 9 A rfl
  (fun h1 A=>absurd h1 (by decide))
  (fun h1 A=>N9 5 A rfl rfl fun A=>C9 [] QE A rfl fun A=>N9 2 A rfl (Aj (by decide)<|Ah) fun A=>have A:=Ai A 13 (.int .i64 1) rfl (fun _=>rfl);N9 1 A rfl (Aj (by decide)<|Ah) fun A=>have A:=Ai A 14 (.ptr 1 4) rfl (Cy 1 rfl);N9 6 A rfl rfl fun A=>R9 A rfl h0 rfl rfl rfl)
theorem Y0:Fn Tryz.prog 46 [.int .i64 3] [] (Rt (.tup [.agg [.str [65,82,77],.fn 115 [],.fn 116 [],.fn 117 []],.tt]) []):=
 Am (n:=16) (by kernel_rfl) Tryz.func46 rfl rfl rfl fun G w a h0 A=>N9 17 A rfl rfl fun A=>fork 9 A rfl
  (fun h1 A=>absurd h1 (by decide))
  (fun h1 A=>N9 5 A rfl rfl fun A=>C9 [] QE A rfl fun A=>N9 2 A rfl (Aj (by decide)<|Ah) fun A=>have A:=Ai A 13 (.int .i64 2) rfl (fun _=>rfl);N9 1 A rfl (Aj (by decide)<|Ah) fun A=>have A:=Ai A 14 (.ptr 1 8) rfl (Cy 2 rfl);N9 6 A rfl rfl fun A=>R9 A rfl h0 rfl rfl rfl)
theorem Y1 (ar:Int)(ha:¬(1≤ar∧ar≤3)):Fn Tryz.prog 46 [.int .i64 ar] [] (Rt (.tup [.agg [.str [],.v .nilFunc,.v .nilFunc,.v .nilFunc],.ff]) []):=
 Am (n:=16) (by kernel_rfl) Tryz.func46 rfl rfl rfl fun G w a h0 A=>N9 17 A rfl rfl fun A=>fork 9 A rfl
  (fun h1 A=>N9 9 A rfl rfl fun A=>R9 A rfl h0 rfl rfl rfl)
  (fun h1 A=>absurd h1 (by simp only [δ6,δ9];omega))
def MU (qu:Int):List UInt8:=if qu=1 then [101,120,105,115,116,115]else if qu=2 then [126,32,101,120,105,115,116,115]else if qu=3 then [102,111,114,97,108,108]else []
theorem WY (qu:Int):Fn Tryz.prog 50 [.int .i64 qu] [] (Rt (.str (MU qu)) []):=
 Am (n:=10) (by kernel_rfl) Tryz.func50 rfl rfl rfl fun G w a h0 A=>N9 18 A rfl rfl fun A=>Au 4 A rfl
  (fun h1 A=>N9 7 A rfl rfl fun A=>R9 A rfl h0 rfl (by simp only [BA,nb,CK,CC,MU,if_pos h1]) rfl)
  (fun h1 A=>N9 7 A rfl rfl fun A=>Au 6 A rfl
   (fun h2 A=>N9 7 A rfl rfl fun A=>R9 A rfl h0 rfl (by simp only [BA,nb,CK,CC,MU,if_neg (h1),if_pos h2]) rfl)
   (fun h2 A=>N9 7 A rfl rfl fun A=>Au 8 A rfl
    (fun h3 A=>N9 7 A rfl rfl fun A=>R9 A rfl h0 rfl (by simp only [BA,nb,CK,CC,MU,if_neg (h1),if_neg (h2),if_pos h3]) rfl)
    (fun h3 A=>N9 10 A rfl rfl fun A=>R9 A rfl h0 rfl (by simp only [BA,nb,CK,CC,MU,if_neg (h1),if_neg (h2),if_neg (h3)]) rfl)))
end Go.Proofs.YtbbdanhpphlbpaaGreatDoor
namespace Go.Proofs.YtbbdanhpphlbpaaGreatDoor
open Go.RowKit
section
variable {P:Program}{n:Nat}{ks:List Nat}{G0:Gr}{w0:World}{T:List (Nat×SV)}{H:Hp}{G:Gr}{a:Act}{w w':World}{ops:Array Oper}{o:Oper}{rest:List Oper}{Q:Exit→Act→World→Prop}{K:List Fr}
end
def gL (ao:Option Addr)(l:List Int)(w:World)(ks:List Nat):Prop:=
 l=[]∨∃b o,ao=some ⟨b,o,none⟩∧b<w.heap.size∧ks.contains b=false∧w.rangeAt b o (l.map (Value.int .i64))
theorem gL.go {ao:Option Addr}{l:List Int}{w w':World}{ks ks':List Nat}(h:gL ao l w ks)(m:DO ks w w')(hk:∀b,ks'.contains b=true→ks.contains b=true∨w.heap.size≤b):gL ao l w' ks':=by
 rcases h with h|⟨b,o,h1,h2,h3,h4⟩
 ·exact .inl h
 ·refine .inr ⟨b,o,h1,ζ2 h2 m.size,?_,FY h4 m h2 h3⟩
  cases hc:ks'.contains b with
  |false=>rfl
  |true=>
   rcases hk b hc with h|h
   ·rw [h]at h3;cases h3
   ·omega
section
variable {P:Program}{Y:Tb}{n:Nat}{ks:List Nat}{G0:Gr}{w0:World}{T:List (Nat×SV)}{H:Hp}{ops:Array Oper}{o:Oper}{rest:List Oper}{Q:Exit→Act→World→Prop}{K:List Fr}
end
section
variable {P:Program}{n:Nat}{ks:List Nat}{G0:Gr}{w0:World}{T:List (Nat×SV)}{H:Hp}{ops:Array Oper}{o:Oper}
theorem gM {x y:Operand}{t e m s i q k:Nat}{cs:List SV}{p2:Nat}(CJ:o.op=.slice t x (some y) none none)(hg:BE ops T o.guard=some .run)(hx:Db T x=some (.ptr i q))(hy:Db T y=some (.int .i64 (k:Int)))(hb:H[i]?=some (some (.blk cs)))(ht:Ny P t m e s=true)(hk:k≤m)(h2:(if m=k then q else q+k*s)=p2):
  Bd P n ops ks G0 w0 T H o (.sp (.ptr i p2) (m - k) (m - k)) H:=fun G a w A=>by
 subst h2
 have hw:=BQ (gd:=none) A hg
 obtain⟨d,op,ty,pos,af,gd⟩:=o
 simp only at CJ
 subst CJ
 have CH:=A.ev hx
 have Dp:=A.ev hy
 obtain⟨L,vs,hL,_,_⟩:=A.mem.ent i _ hb
 have hG:G[i]?=some (some L):=by
  cases hq:G[i]? with
  |none=>rw [hq]at hL;cases hL
  |some p=>rw [hq]at hL;simp at hL;rw [hL]
 unfold den at CH Dp
 rw [hG]at CH
 simp only [β2]at CH Dp
 obtain⟨hu,FL⟩:=Dq ht
 refine A6 (v:=.slice (some ⟨L.b,L.pre.length+(if m=k then q else q+k*s),none⟩) (m - k) (m - k)) (w':=w) hw ?_ ⟨[],?_,by simpa using A.ms⟩
 ·have Tm:(Instr.sliceBounds false m m (some (.int .i64 (k:Int))) none none).run P w=.ok (k,m,m) w:=by
   simp [Instr.sliceBounds,ν0 (P:=P) w .i64 (k:Int) m _ (by omega) (by omega)]
  unfold execOp
  simp only [←CH,←Dp,δ4,μ4,Instr.sliceAt,γ3,ε6 hu,Instr.sureAddr,γ6,Tm,β1,Dz FL]
  by_cases hc:m=k
  ·simp [hc]
  ·simp [hc,η3,θ4]
 ·rw [ε9]
  unfold den
  have:den G (.ptr i (if m=k then q else q+k*s))=some (.pointer (some ⟨L.b,L.pre.length+(if m=k then q else q+k*s),none⟩)):=by unfold den;rw [hG]
  rw [this];rfl
end
end Go.Proofs.YtbbdanhpphlbpaaGreatDoor
namespace Go.Proofs.YtbbdanhpphlbpaaGreatDoor
open Go.RowKit
set_option simprocs false
def WZ (r:Nat→Int):Nat→Bool
 |0=>((r 0==0)&&((r 1==0)&&((r 2==0)&&((r 3==0)&&((r 4==0)&&((r 5==0)&&((r 6==0)&&(r 7==0))))))))
 |1=>((r 8==0)&&((r 9==0)&&((r 10==0)&&((r 11==0)&&((r 12==0)&&((r 13==0)&&((r 14==0)&&(r 15==0))))))))
 |_=>((r 16==0)&&((r 17==0)&&((r 18==0)&&((r 19==0)&&((r 20==0)&&((r 21==0)&&((r 22==0)&&(r 23==0))))))))
def H9 (r:Nat→Int)(k:Nat):Bool:=(List.range (3 - k)).any fun j=> !(WZ r (k+j))
structure TZ (r:Nat→Int)(k j:Nat):Prop where
 le:j≤3 - k
 ok:∀q,q<j→WZ r (k+q)=true
theorem TZ.i0 {r:Nat→Int}{k:Nat}:TZ r k 0:=⟨β8 _,fun q hq=>by omega⟩
theorem TZ.nx {r:Nat→Int}{k j:Nat}(h:TZ r k j)(h1:j<3 - k)(h2:(!(WZ r (k+j)))=false):TZ r k (j+1):=⟨by omega,fun q hq=>by
 by_cases e:q=j
 ·subst e;cases hz:WZ r (k+q)with
  |true=>rfl
  |false=>rw [hz]at h2;cases h2
 ·exact h.ok q (by omega)⟩
theorem TZ.good {r:Nat→Int}{k j:Nat}(h:TZ r k j)(h1:¬j<3 - k):H9 r k=false:=by
 unfold H9
 rw [List.any_eq_false]
 intro q hq
 have:=h.ok q (by have:=ε8.1 hq;omega)
 rw [this];decide
theorem LG {r:Nat→Int}{k j:Nat}(h1:j<3 - k)(h2:(!(WZ r (k+j)))=true):H9 r k=true:=by
 unfold H9
 rw [μ0]
 exact⟨j,ε8.2 h1,h2⟩
theorem gN (ar:Int)(nm:List UInt8)(mi r:Nat→Int)(cs:List Ak)(cx:Nat)(qu:Int)(kd:List Cn)(ck:Nat)(hk:cs.length=1):Fn Tryz.prog 52 [.agg (CY ar nm mi r cs cx qu kd ck)] [some (Bc cs),some (Bu kd)] (Rt (.bool (H9 r 1)) [some (Bc cs),some (Bu kd)]):=
 Am (n:=19) (by kernel_rfl) Tryz.func52 rfl rfl rfl fun G w a h0 A=>N9 13 A rfl rfl fun A=>have A:=Ai A 8 (.int .i64 1) rfl (fun _=>by rw [hk];rfl);A9 A rfl (gM (m:=3) (s:=8) (e:=23) (k:=1) rfl rfl rfl rfl rfl (by kernel_rfl) (by decide) rfl) fun A=>N9 5 A rfl rfl fun A=>B7 (fun(j:Nat)=>[(2,.ff),(9,.sp (.ptr 2 13) 2 2),(10,.int .i64 ((2:Nat):Int)),(11,.int .i64 (j:Int))]) (fun(j:Nat)=>[some (Bc cs),some (Bu kd),some (.blk (CY ar nm mi r cs cx qu kd ck))]) (fun(j:Nat)=>TZ r 1 j) (fun(j:Nat)=>2 - j) 0 TZ.i0 ((A.cut [2,9,10,11] rfl).trunc 3 rfl rfl rfl (Cj h0 rfl)) fun j hJ {G a w} A=>N9 6 A rfl rfl fun A=>Aq 12 A rfl
   (fun h1 A=>N9 7 A rfl rfl fun A=>Decidable.byCases (p:=j=0) (fun e0=>have A:=A.say 11 (.int .i64 0) rfl (by rw [e0];rfl);N9 1 A rfl (Aj (by(try have:=hJ.le);omega)<|Ah) fun A=>have A:=Ai A 13 (.ptr 2 13) rfl (Cy 0 rfl);N9 12 A rfl rfl fun A=>fork 17 A rfl
     (fun h2 A=>N9 7 A rfl rfl fun A=>R9 A rfl h0 rfl (by rw [LG (k:=1) (j:=0) (by decide) h2];rfl) rfl)
     (fun h2 A=>N9 8 A rfl (Aj (by(try have:=hJ.le);omega)<|Ah) fun A=>⟨j+1,_,(by omega),(hJ.nx (by omega) (by rw [e0];exact h2)),((A.cut [2,9,10,11] rfl).trunc 3 rfl rfl rfl (Cj h0 rfl)).sayT (by rw [e0];rfl)⟩)) fun ne0=>(have e1:j=1:=(by omega);have A:=A.say 11 (.int .i64 1) rfl (by rw [e1];rfl);N9 1 A rfl (Aj (by(try have:=hJ.le);omega)<|Ah) fun A=>have A:=Ai A 13 (.ptr 2 21) rfl (Cy 1 rfl);N9 12 A rfl rfl fun A=>fork 17 A rfl
     (fun h3 A=>N9 7 A rfl rfl fun A=>R9 A rfl h0 rfl (by rw [LG (k:=1) (j:=1) (by decide) h3];rfl) rfl)
     (fun h3 A=>N9 8 A rfl (Aj (by(try have:=hJ.le);omega)<|Ah) fun A=>⟨j+1,_,(by omega),(hJ.nx (by omega) (by rw [e1];exact h3)),((A.cut [2,9,10,11] rfl).trunc 3 rfl rfl rfl (Cj h0 rfl)).sayT (by rw [e1];rfl)⟩)))
   (fun h1 A=>N9 9 A rfl rfl fun A=>R9 A rfl h0 rfl (by rw [hJ.good (by omega)];rfl) rfl)
theorem gO (ar:Int)(nm:List UInt8)(mi r:Nat→Int)(cs:List Ak)(cx:Nat)(qu:Int)(kd:List Cn)(ck:Nat)(hk:cs.length=2):Fn Tryz.prog 52 [.agg (CY ar nm mi r cs cx qu kd ck)] [some (Bc cs),some (Bu kd)] (Rt (.bool (H9 r 2)) [some (Bc cs),some (Bu kd)]):=
 Am (n:=19) (by kernel_rfl) Tryz.func52 rfl rfl rfl fun G w a h0 A=>N9 13 A rfl rfl fun A=>have A:=Ai A 8 (.int .i64 2) rfl (fun _=>by rw [hk];rfl);A9 A rfl (gM (m:=3) (s:=8) (e:=23) (k:=2) rfl rfl rfl rfl rfl (by kernel_rfl) (by decide) rfl) fun A=>N9 5 A rfl rfl fun A=>B7 (fun(j:Nat)=>[(2,.ff),(9,.sp (.ptr 2 21) 1 1),(10,.int .i64 ((1:Nat):Int)),(11,.int .i64 (j:Int))]) (fun(j:Nat)=>[some (Bc cs),some (Bu kd),some (.blk (CY ar nm mi r cs cx qu kd ck))]) (fun(j:Nat)=>TZ r 2 j) (fun(j:Nat)=>1 - j) 0 TZ.i0 ((A.cut [2,9,10,11] rfl).trunc 3 rfl rfl rfl (Cj h0 rfl)) fun j hJ {G a w} A=>N9 6 A rfl rfl fun A=>Aq 12 A rfl
   (fun h1 A=>N9 7 A rfl rfl fun A=>(have e0:j=0:=(by omega);have A:=A.say 11 (.int .i64 0) rfl (by rw [e0];rfl);N9 1 A rfl (Aj (by(try have:=hJ.le);omega)<|Ah) fun A=>have A:=Ai A 13 (.ptr 2 21) rfl (Cy 0 rfl);N9 12 A rfl rfl fun A=>fork 17 A rfl
     (fun h2 A=>N9 7 A rfl rfl fun A=>R9 A rfl h0 rfl (by rw [LG (k:=2) (j:=0) (by decide) h2];rfl) rfl)
     (fun h2 A=>N9 8 A rfl (Aj (by(try have:=hJ.le);omega)<|Ah) fun A=>⟨j+1,_,(by omega),(hJ.nx (by omega) (by rw [e0];exact h2)),((A.cut [2,9,10,11] rfl).trunc 3 rfl rfl rfl (Cj h0 rfl)).sayT (by rw [e0];rfl)⟩)))
   (fun h1 A=>N9 9 A rfl rfl fun A=>R9 A rfl h0 rfl (by rw [hJ.good (by omega)];rfl) rfl)
theorem gP (ar:Int)(nm:List UInt8)(mi r:Nat→Int)(cs:List Ak)(cx:Nat)(qu:Int)(kd:List Cn)(ck:Nat)(hk:cs.length=3):Fn Tryz.prog 52 [.agg (CY ar nm mi r cs cx qu kd ck)] [some (Bc cs),some (Bu kd)] (Rt (.bool (H9 r 3)) [some (Bc cs),some (Bu kd)]):=
 Am (n:=19) (by kernel_rfl) Tryz.func52 rfl rfl rfl fun G w a h0 A=>N9 13 A rfl rfl fun A=>have A:=Ai A 8 (.int .i64 3) rfl (fun _=>by rw [hk];rfl);A9 A rfl (gM (m:=3) (s:=8) (e:=23) (k:=3) rfl rfl rfl rfl rfl (by kernel_rfl) (by decide) rfl) fun A=>N9 5 A rfl rfl fun A=>B7 (fun(j:Nat)=>[(2,.ff),(9,.sp (.ptr 2 5) 0 0),(10,.int .i64 ((0:Nat):Int)),(11,.int .i64 (j:Int))]) (fun(j:Nat)=>[some (Bc cs),some (Bu kd),some (.blk (CY ar nm mi r cs cx qu kd ck))]) (fun(j:Nat)=>TZ r 3 j) (fun(j:Nat)=>0 - j) 0 TZ.i0 ((A.cut [2,9,10,11] rfl).trunc 3 rfl rfl rfl (Cj h0 rfl)) fun j hJ {G a w} A=>N9 6 A rfl rfl fun A=>Aq 12 A rfl
   (fun h1 A=>N9 7 A rfl rfl fun A=>absurd h1 (by omega))
   (fun h1 A=>N9 9 A rfl rfl fun A=>R9 A rfl h0 rfl (by rw [hJ.good (by omega)];rfl) rfl)
theorem gQ (p q:Int):Fn Tryz.prog 126 [.int .i64 p,.int .i64 q] [] (Rt (.bool ((decide (0≤p))&&(decide (p<q)))) []):=
 Am (n:=12) (by kernel_rfl) Tryz.func126 rfl rfl rfl fun G w a h0 A=>N9 18 A rfl rfl fun A=>R9 A rfl h0 rfl rfl rfl
def Nf (kd th rg lc vl:Int):Bool:=if kd=1 then if((decide (0≤th))&&(decide (th<3)))=true then((decide (0≤rg))&&(decide (rg<8)))&&(lc==0)else false else if kd=2 then(((decide (0≤lc))&&(decide (lc<3)))&&(th==0))&&(rg==0)else if kd=3 then((kd==kd)&&((th==0)&&((rg==0)&&((lc==0)&&(vl==0)))))else if kd=4 then((kd==kd)&&((th==0)&&((rg==0)&&((lc==0)&&(vl==0)))))else if kd=5 then((kd==kd)&&((th==0)&&((rg==0)&&((lc==0)&&(vl==0)))))else false
theorem vK (kd th rg lc vl:Int):Fn Tryz.prog 85 [.agg [.int .i64 kd,.int .i64 th,.int .i64 rg,.int .i64 lc,.int .i64 vl]] [] (Rt (.bool (Nf kd th rg lc vl)) []):=
 Am (n:=44) (by kernel_rfl) Tryz.func85 rfl rfl rfl fun G w a h0 A=>N9 20 A rfl rfl fun A=>Au 5 A rfl
  (fun h1 A=>N9 5 A rfl rfl fun A=>C9 [] (gQ th 3) A rfl fun A=>N9 1 A rfl rfl fun A=>fork 10 A rfl
   (fun h2 A=>N9 2 A rfl rfl fun A=>C9 [] (gQ rg 8) A rfl fun A=>N9 10 A rfl rfl fun A=>R9 A rfl h0 rfl (by simp only [BA,nb,CK,CC,Nf,if_pos h1,if_pos h2]) rfl)
   (fun h2 A=>N9 13 A rfl rfl fun A=>R9 A rfl h0 rfl (by simp only [BA,nb,CK,CC,Nf,if_pos h1,if_neg (α8 h2)]) rfl))
  (fun h1 A=>N9 7 A rfl rfl fun A=>Au 20 A rfl
   (fun h3 A=>N9 5 A rfl rfl fun A=>C9 [] (gQ lc 3) A rfl fun A=>N9 14 A rfl rfl fun A=>R9 A rfl h0 rfl (by simp only [BA,nb,CK,CC,Nf,if_neg (h1),if_pos h3]) rfl)
   (fun h3 A=>N9 8 A rfl rfl fun A=>Au 35 A rfl
    (fun h4 A=>N9 15 A rfl rfl fun A=>R9 A rfl h0 rfl (by simp only [BA,nb,CK,CC,Nf,if_neg (h1),if_neg (h3),if_pos h4]) rfl)
    (fun h4 A=>N9 7 A rfl rfl fun A=>Au 35 A rfl
     (fun h5 A=>N9 15 A rfl rfl fun A=>R9 A rfl h0 rfl (by simp only [BA,nb,CK,CC,Nf,if_neg (h1),if_neg (h3),if_neg (h4),if_pos h5]) rfl)
     (fun h5 A=>N9 6 A rfl rfl fun A=>Au 35 A rfl
      (fun h6 A=>N9 12 A rfl rfl fun A=>R9 A rfl h0 rfl (by simp only [BA,nb,CK,CC,Nf,if_neg (h1),if_neg (h3),if_neg (h4),if_neg (h5),if_pos h6]) rfl)
      (fun h6 A=>N9 10 A rfl rfl fun A=>R9 A rfl h0 rfl (by simp only [BA,nb,CK,CC,Nf,if_neg (h1),if_neg (h3),if_neg (h4),if_neg (h5),if_neg (h6)]) rfl)))))
def HX (kd:Int):Int:=if kd=3 then 1 else if kd=4 then 2 else if kd=5 then 2 else 0
theorem o9 (kd:Int):Fn Tryz.prog 86 [.int .i64 kd] [] (Rt (.int .i64 (HX kd)) []):=
 Am (n:=9) (by kernel_rfl) Tryz.func86 rfl rfl rfl fun G w a h0 A=>N9 18 A rfl rfl fun A=>Au 4 A rfl
  (fun h1 A=>N9 7 A rfl rfl fun A=>R9 A rfl h0 rfl (by simp only [BA,nb,CK,CC,HX,if_pos h1]) rfl)
  (fun h1 A=>N9 8 A rfl rfl fun A=>Au 6 A rfl
   (fun h2 A=>N9 10 A rfl rfl fun A=>R9 A rfl h0 rfl (by simp only [BA,nb,CK,CC,HX,if_neg (h1),if_pos h2]) rfl)
   (fun h2 A=>N9 6 A rfl rfl fun A=>Au 6 A rfl
    (fun h3 A=>N9 7 A rfl rfl fun A=>R9 A rfl h0 rfl (by simp only [BA,nb,CK,CC,HX,if_neg (h1),if_neg (h2),if_pos h3]) rfl)
    (fun h3 A=>N9 10 A rfl rfl fun A=>R9 A rfl h0 rfl (by simp only [BA,nb,CK,CC,HX,if_neg (h1),if_neg (h2),if_neg (h3)]) rfl)))
def QF (c:Cn):Bool:=Nf c.k c.t c.r c.l c.v
def Wa:List Cn→Int→Bool
 | [],h=>h==1
 |c::l,h=>if QF c=false∨h<HX c.k then false else Wa l (h+(1 - HX c.k))
def O6 (l:List Cn):Bool:=if((l.length:Nat):Int)>32 then false else Wa l 0
theorem HQ (k:Int):0≤HX k∧HX k≤2:=by unfold HX;split<;>(try split)<;>(try split)<;>omega
structure QG (kd:List Cn)(i:Nat)(h:Int):Prop where
 le:i≤kd.length
 h0:0≤h
 h1:h≤i
 eq:Wa kd 0=Wa (kd.drop i) h
section
variable {kd:List Cn}{i:Nat}{h:Int}
theorem QG.i0:QG kd 0 0:=⟨β8 _,by omega,by omega,by rw [ζ8]⟩
theorem QG.at (hI:QG kd i h)(h1:(i:Int)<((kd.length:Nat):Int)):Wa kd 0=if QF (kd.getD ((i:Int)).toNat Cn.z)=false∨h<HX (kd.getD ((i:Int)).toNat Cn.z).k then false else Wa (kd.drop (i+1)) (h+(1 - HX (kd.getD ((i:Int)).toNat Cn.z).k)):=by
 have hi:i<kd.length:=by omega
 have e:(kd.getD ((i:Int)).toNat Cn.z)=kd[i]:=by rw [β5,α6,β0 hi];rfl
 rw [hI.eq,η2 hi,Wa,e]
theorem QG.b1 (hI:QG kd i h)(h1:(i:Int)<((kd.length:Nat):Int))(h2:(!(QF (kd.getD ((i:Int)).toNat Cn.z)))=true):Wa kd 0=false:=by
 rw [hI.at h1,if_pos (.inl (by cases hq:QF (kd.getD ((i:Int)).toNat Cn.z);rfl;rw [hq]at h2;cases h2))]
theorem QG.b2 (hI:QG kd i h)(h1:(i:Int)<((kd.length:Nat):Int))(h2:h<HX (kd.getD ((i:Int)).toNat Cn.z).k):Wa kd 0=false:=by rw [hI.at h1,if_pos (.inr h2)]
theorem QG.nx (hI:QG kd i h)(h1:(i:Int)<((kd.length:Nat):Int))(h2:(!(QF (kd.getD ((i:Int)).toNat Cn.z)))=false)(h3:¬h<HX (kd.getD ((i:Int)).toNat Cn.z).k):QG kd (i+1) (h+(1 - HX (kd.getD ((i:Int)).toNat Cn.z).k)):=by
 have hn:QF (kd.getD ((i:Int)).toNat Cn.z)=true:=by cases hq:QF (kd.getD ((i:Int)).toNat Cn.z);(rw [hq]at h2;cases h2);rfl
 have hp:=HQ (kd.getD ((i:Int)).toNat Cn.z).k
 have k0:=hI.h0;have k1:=hI.h1
 refine⟨by omega,by omega,by omega,?_⟩
 rw [hI.at h1,if_neg (by rintro (e|e);rw [hn]at e;cases e;exact h3 e)]
theorem QG.fi (hI:QG kd i h)(h1:¬(i:Int)<((kd.length:Nat):Int)):Wa kd 0=(h==1):=by
 rw [hI.eq,ι0 (by omega),Wa]
end
theorem Ng (kd:List Cn)(ck:Nat):Fn Tryz.prog 51 [.sl 0 kd.length ck] [some (Bu kd)] (Rt (.bool (O6 kd)) [some (Bu kd)]):=
 Am (n:=34) (by kernel_rfl) Tryz.func51 rfl rfl rfl fun G w a h0 A=>N9 13 A rfl rfl fun A=>Aq 8 A rfl
  (fun h1 A=>N9 7 A rfl rfl fun A=>R9 A rfl h0 rfl (by unfold O6;rw [if_pos h1];rfl) rfl)
  (fun h1 A=>N9 17 A rfl rfl fun A=>ON (fun(i:Nat) (h:Int)=>[(2,.ff),(3,.int .i64 h),(9,.sl 0 kd.length ck),(10,.int .i64 ((kd.length:Nat):Int)),(11,.int .i64 (i:Int))]) (fun(i:Nat) (h:Int)=>[some (Bu kd)]) (fun(i:Nat) (h:Int)=>QG kd i h) (fun(i:Nat) (h:Int)=>kd.length - i) 0 0 QG.i0 ((A.cut [2,3,9,10,11] rfl).trunc 1 rfl rfl rfl (Cj h0 rfl)) fun i h hJ {G a w} A=>N9 6 A rfl rfl fun A=>Aq 12 A rfl
    (fun h2 A=>N9 15 A rfl (Aj (by(try have hp:=HQ (kd.getD ((i:Int)).toNat Cn.z).k);(try have:=hJ.le);(try have:=hJ.h0);(try have:=hJ.h1);omega)<|Aj (by(try have hp:=HQ (kd.getD ((i:Int)).toNat Cn.z).k);(try have:=hJ.le);(try have:=hJ.h0);(try have:=hJ.h1);omega)<|Ah) fun A=>N9 2 A rfl rfl fun A=>C9 [] (vK (kd.getD (((i:Int)).toNat) Cn.z).k (kd.getD (((i:Int)).toNat) Cn.z).t (kd.getD (((i:Int)).toNat) Cn.z).r (kd.getD (((i:Int)).toNat) Cn.z).l (kd.getD (((i:Int)).toNat) Cn.z).v) A rfl fun A=>N9 2 A rfl rfl fun A=>fork 18 A rfl
     (fun h3 A=>N9 15 A rfl rfl fun A=>R9 A rfl h0 rfl (by unfold O6;rw [if_neg h1,hJ.b1 h2 h3];rfl) rfl)
     (fun h3 A=>N9 3 A rfl rfl fun A=>C9 [] (o9 ((kd.getD (((i:Int)).toNat) Cn.z).k)) A rfl fun A=>N9 4 A rfl rfl fun A=>Aq 24 A rfl
      (fun h4 A=>N9 7 A rfl rfl fun A=>R9 A rfl h0 rfl (by unfold O6;rw [if_neg h1,hJ.b2 h2 h4];rfl) rfl)
      (fun h4 A=>N9 7 A rfl rfl fun A=>C9 [] (o9 ((kd.getD (((i:Int)).toNat) Cn.z).k)) A rfl fun A=>N9 6 A rfl (Aj (by(try have hp:=HQ (kd.getD ((i:Int)).toNat Cn.z).k);(try have:=hJ.le);(try have:=hJ.h0);(try have:=hJ.h1);omega)<|Aj (by(try have hp:=HQ (kd.getD ((i:Int)).toNat Cn.z).k);(try have:=hJ.le);(try have:=hJ.h0);(try have:=hJ.h1);omega)<|Ah) fun A=>N9 4 A rfl (Aj (by(try have hp:=HQ (kd.getD ((i:Int)).toNat Cn.z).k);(try have:=hJ.le);(try have:=hJ.h0);(try have:=hJ.h1);omega)<|Ah) fun A=>⟨i+1,h+(1 - HX (kd.getD ((i:Int)).toNat Cn.z).k),_,(by omega),(hJ.nx h2 h3 h4),((A.cut [2,3,9,10,11] rfl).trunc 1 rfl rfl rfl (Cj h0 rfl))⟩)))
    (fun h2 A=>N9 11 A rfl rfl fun A=>R9 A rfl h0 rfl (by unfold O6;rw [if_neg h1,hJ.fi h2];rfl) rfl))
theorem QH (ar:Int)(nm:List UInt8)(mi r:Nat→Int)(cs:List Ak)(cx:Nat)(qu:Int)(kd:List Cn)(ck:Nat)(h:1≤cs.length∧cs.length≤3):Fn Tryz.prog 52 [.agg (CY ar nm mi r cs cx qu kd ck)] [some (Bc cs),some (Bu kd)] (Rt (.bool (H9 r cs.length)) [some (Bc cs),some (Bu kd)]):=by
 have e:cs.length=1∨cs.length=2∨cs.length=3:=by omega
 rcases e with e|e|e
 ·have:=gN ar nm mi r cs cx qu kd ck e
  rw [show H9 r cs.length=H9 r 1 by rw [e]]
  exact this
 ·have:=gO ar nm mi r cs cx qu kd ck e
  rw [show H9 r cs.length=H9 r 2 by rw [e]]
  exact this
 ·have:=gP ar nm mi r cs cx qu kd ck e
  rw [show H9 r cs.length=H9 r 3 by rw [e]]
  exact this
theorem QI {cs:List Ak}(h:M2 cs=0):1≤cs.length∧cs.length≤3:=by
 unfold M2 at h
 split at h
 ·cases h
 ·next hh=>simp only [β9,δ5]at hh;omega
def D9 (pe:In→Int)(nm:List UInt8)(cs:List Ak)(qu:Int)(kd:List Cn)(r:Nat→Int):Int:=
 if(nm.length:Int)>16 then 40 else if Dx nm=false then 40 else if M2 cs≠0 then M2 cs else if Dc pe cs=false then 36 else
 if MU qu=[]then 22 else if O6 kd=false then 22 else if H9 r cs.length=true then 1 else 0
theorem Ta (nm:List UInt8) (mi r:Nat→Int) (cs:List Ak) (cx:Nat) (qu:Int) (kd:List Cn) (ck:Nat) (os:List (Nat×Obj)) (hM:LR os) (hT:NU os) (hE:MF os) (hs:∀c∈cs,c.l.length≤9223372036854775807) (hR:∀c∈cs,∀i∈c.l,Yx i) (hn:cs.length≤9223372036854775807):CE (GC os cs) Tryz.prog 9 [.agg (FS 1 nm mi r (.sl 0 cs.length cx) qu (.sl 1 kd.length ck))] [some (Bc cs),some (Bu kd)] (Rt (.int .i64 (D9 (fun i=>(fun(i:In) (lb:List UInt8)=>(Dg Ep QA i lb).2) i (E8 i.to_)) nm cs qu kd r)) [some (Bc cs),some (Bu kd)]):=
 BB (n:=53) (by kernel_rfl) Tryz.func9 rfl rfl rfl fun G w a h0 hI A=>N9 10 A rfl rfl fun A=>C9 [] Yy A rfl fun A=>N9 26 A rfl rfl fun A=>Aq 20 A rfl
  (fun h1 A=>N9 14 A rfl rfl fun A=>R9 A rfl h0 rfl (by unfold D9;rw [if_pos h1];rfl) rfl)
  (fun h1 A=>N9 2 A rfl rfl fun A=>I9 [] GC.ok hI (CE.mono (KH nm os hM hE) fun _ _ q=>q.1) A rfl fun A=>N9 4 A rfl rfl fun A=>fork 25 A rfl
   (fun h2 A=>N9 7 A rfl rfl fun A=>R9 A rfl h0 rfl (by unfold D9;rw [if_neg h1];rw [if_pos (by revert h2;cases Dx nm<;>simp)];rfl) rfl)
   (fun h2 A=>N9 8 A rfl rfl fun A=>I9 [0] GC.ok hI (CE.mono (KA cs cx hs (fun h8 h3=>Xu cs cx (fun c hc=>β4 (IY h8 c hc) (by decide)) (by omega))) fun _ _ q=>q.2) A rfl fun A=>N9 15 A rfl rfl fun A=>EZ 34 A rfl
    (fun h3 A=>N9 8 A rfl rfl fun A=>R9 A rfl h0 rfl (by unfold D9;rw [if_neg h1];rw [if_neg (by revert h2;cases Dx nm<;>simp)];rw [if_pos h3];rfl) rfl)
    (fun h3 A=>N9 9 A rfl rfl fun A=>I9 [0] GC.ok hI (H8 cs cx [88,56,54] 109 110 111 (fun i lb=>(Dg Ep QA i lb).1) (fun i lb=>(Dg Ep QA i lb).2) os hM hT hE (fun i lb hi hl=>Yo i lb os hM hT hE (fun L hL=>WQ hi hl hL)) hs hn hR) A rfl fun A=>N9 3 A rfl rfl fun A=>fork 40 A rfl
     (fun h4 A=>N9 7 A rfl rfl fun A=>R9 A rfl h0 rfl (by unfold D9;rw [if_neg h1];rw [if_neg (by revert h2;cases Dx nm<;>simp)];rw [if_neg (η6 h3)];rw [if_pos (by revert h4;cases Dc _ cs<;>simp)];rfl) rfl)
     (fun h4 A=>N9 8 A rfl rfl fun A=>C9 [] (WY qu) A rfl fun A=>N9 2 A rfl rfl fun A=>Au 45 A rfl
      (fun h5 A=>N9 14 A rfl rfl fun A=>R9 A rfl h0 rfl (by unfold D9;rw [if_neg h1];rw [if_neg (by revert h2;cases Dx nm<;>simp)];rw [if_neg (η6 h3)];rw [if_neg (by revert h4;cases Dc _ cs<;>simp)];rw [if_pos h5];rfl) rfl)
      (fun h5 A=>N9 2 A rfl rfl fun A=>C9 [1] (Ng kd ck) A rfl fun A=>N9 4 A rfl rfl fun A=>fork 50 A rfl
       (fun h6 A=>N9 7 A rfl rfl fun A=>R9 A rfl h0 rfl (by unfold D9;rw [if_neg h1];rw [if_neg (by revert h2;cases Dx nm<;>simp)];rw [if_neg (η6 h3)];rw [if_neg (by revert h4;cases Dc _ cs<;>simp)];rw [if_neg h5];rw [if_pos (by revert h6;cases O6 kd<;>simp)];rfl) rfl)
       (fun h6 A=>N9 7 A rfl rfl fun A=>C9 [0,1] (QH 1 nm mi r cs cx qu kd ck (QI h3)) A rfl fun A=>N9 2 A rfl rfl fun A=>fork 52 A rfl
        (fun h7 A=>N9 7 A rfl rfl fun A=>R9 A rfl h0 rfl (by unfold D9;rw [if_neg h1];rw [if_neg (by revert h2;cases Dx nm<;>simp)];rw [if_neg (η6 h3)];rw [if_neg (by revert h4;cases Dc _ cs<;>simp)];rw [if_neg h5];rw [if_neg (by revert h6;cases O6 kd<;>simp)];rw [if_pos h7];rfl) rfl)
        (fun h7 A=>N9 9 A rfl rfl fun A=>R9 A rfl h0 rfl (by unfold D9;rw [if_neg h1];rw [if_neg (by revert h2;cases Dx nm<;>simp)];rw [if_neg (η6 h3)];rw [if_neg (by revert h4;cases Dc _ cs<;>simp)];rw [if_neg h5];rw [if_neg (by revert h6;cases O6 kd<;>simp)];rw [if_neg (by rw [h7];decide)];rfl) rfl)))))))
theorem Tc (nm:List UInt8) (mi r:Nat→Int) (cs:List Ak) (cx:Nat) (qu:Int) (kd:List Cn) (ck:Nat) (os:List (Nat×Obj)) (hM:LR os) (hT:NU os) (hE:MF os) (hs:∀c∈cs,c.l.length≤9223372036854775807) (hR:∀c∈cs,∀i∈c.l,Yx i) (hn:cs.length≤9223372036854775807):CE (GC os cs) Tryz.prog 9 [.agg (FS 2 nm mi r (.sl 0 cs.length cx) qu (.sl 1 kd.length ck))] [some (Bc cs),some (Bu kd)] (Rt (.int .i64 (D9 (fun i=>(fun(i:In) (lb:List UInt8)=>(Dg Ck H7 i lb).2) i (E8 i.to_)) nm cs qu kd r)) [some (Bc cs),some (Bu kd)]):=
 BB (n:=53) (by kernel_rfl) Tryz.func9 rfl rfl rfl fun G w a h0 hI A=>N9 10 A rfl rfl fun A=>C9 [] Yz A rfl fun A=>N9 26 A rfl rfl fun A=>Aq 20 A rfl
  (fun h1 A=>N9 14 A rfl rfl fun A=>R9 A rfl h0 rfl (by unfold D9;rw [if_pos h1];rfl) rfl)
  (fun h1 A=>N9 2 A rfl rfl fun A=>I9 [] GC.ok hI (CE.mono (KH nm os hM hE) fun _ _ q=>q.1) A rfl fun A=>N9 4 A rfl rfl fun A=>fork 25 A rfl
   (fun h2 A=>N9 7 A rfl rfl fun A=>R9 A rfl h0 rfl (by unfold D9;rw [if_neg h1];rw [if_pos (by revert h2;cases Dx nm<;>simp)];rfl) rfl)
   (fun h2 A=>N9 8 A rfl rfl fun A=>I9 [0] GC.ok hI (CE.mono (KA cs cx hs (fun h8 h3=>Xu cs cx (fun c hc=>β4 (IY h8 c hc) (by decide)) (by omega))) fun _ _ q=>q.2) A rfl fun A=>N9 15 A rfl rfl fun A=>EZ 34 A rfl
    (fun h3 A=>N9 8 A rfl rfl fun A=>R9 A rfl h0 rfl (by unfold D9;rw [if_neg h1];rw [if_neg (by revert h2;cases Dx nm<;>simp)];rw [if_pos h3];rfl) rfl)
    (fun h3 A=>N9 9 A rfl rfl fun A=>I9 [0] GC.ok hI (H8 cs cx [82,73,83,67,86] 112 113 114 (fun i lb=>(Dg Ck H7 i lb).1) (fun i lb=>(Dg Ck H7 i lb).2) os hM hT hE (fun i lb hi hl=>Yt i lb os hM hT hE (fun L hL=>QC hi hl hL)) hs hn hR) A rfl fun A=>N9 3 A rfl rfl fun A=>fork 40 A rfl
     (fun h4 A=>N9 7 A rfl rfl fun A=>R9 A rfl h0 rfl (by unfold D9;rw [if_neg h1];rw [if_neg (by revert h2;cases Dx nm<;>simp)];rw [if_neg (η6 h3)];rw [if_pos (by revert h4;cases Dc _ cs<;>simp)];rfl) rfl)
     (fun h4 A=>N9 8 A rfl rfl fun A=>C9 [] (WY qu) A rfl fun A=>N9 2 A rfl rfl fun A=>Au 45 A rfl
      (fun h5 A=>N9 14 A rfl rfl fun A=>R9 A rfl h0 rfl (by unfold D9;rw [if_neg h1];rw [if_neg (by revert h2;cases Dx nm<;>simp)];rw [if_neg (η6 h3)];rw [if_neg (by revert h4;cases Dc _ cs<;>simp)];rw [if_pos h5];rfl) rfl)
      (fun h5 A=>N9 2 A rfl rfl fun A=>C9 [1] (Ng kd ck) A rfl fun A=>N9 4 A rfl rfl fun A=>fork 50 A rfl
       (fun h6 A=>N9 7 A rfl rfl fun A=>R9 A rfl h0 rfl (by unfold D9;rw [if_neg h1];rw [if_neg (by revert h2;cases Dx nm<;>simp)];rw [if_neg (η6 h3)];rw [if_neg (by revert h4;cases Dc _ cs<;>simp)];rw [if_neg h5];rw [if_pos (by revert h6;cases O6 kd<;>simp)];rfl) rfl)
       (fun h6 A=>N9 7 A rfl rfl fun A=>C9 [0,1] (QH 2 nm mi r cs cx qu kd ck (QI h3)) A rfl fun A=>N9 2 A rfl rfl fun A=>fork 52 A rfl
        (fun h7 A=>N9 7 A rfl rfl fun A=>R9 A rfl h0 rfl (by unfold D9;rw [if_neg h1];rw [if_neg (by revert h2;cases Dx nm<;>simp)];rw [if_neg (η6 h3)];rw [if_neg (by revert h4;cases Dc _ cs<;>simp)];rw [if_neg h5];rw [if_neg (by revert h6;cases O6 kd<;>simp)];rw [if_pos h7];rfl) rfl)
        (fun h7 A=>N9 9 A rfl rfl fun A=>R9 A rfl h0 rfl (by unfold D9;rw [if_neg h1];rw [if_neg (by revert h2;cases Dx nm<;>simp)];rw [if_neg (η6 h3)];rw [if_neg (by revert h4;cases Dc _ cs<;>simp)];rw [if_neg h5];rw [if_neg (by revert h6;cases O6 kd<;>simp)];rw [if_neg (by rw [h7];decide)];rfl) rfl)))))))
theorem Td (nm:List UInt8) (mi r:Nat→Int) (cs:List Ak) (cx:Nat) (qu:Int) (kd:List Cn) (ck:Nat) (os:List (Nat×Obj)) (hM:LR os) (hT:NU os) (hE:MF os) (hs:∀c∈cs,c.l.length≤9223372036854775807) (hR:∀c∈cs,∀i∈c.l,Yx i) (hn:cs.length≤9223372036854775807):CE (GC os cs) Tryz.prog 9 [.agg (FS 3 nm mi r (.sl 0 cs.length cx) qu (.sl 1 kd.length ck))] [some (Bc cs),some (Bu kd)] (Rt (.int .i64 (D9 (fun i=>(fun(i:In) (lb:List UInt8)=>(Dg Ar.E7 Ar.QD i lb).2) i (E8 i.to_)) nm cs qu kd r)) [some (Bc cs),some (Bu kd)]):=
 BB (n:=53) (by kernel_rfl) Tryz.func9 rfl rfl rfl fun G w a h0 hI A=>N9 10 A rfl rfl fun A=>C9 [] Y0 A rfl fun A=>N9 26 A rfl rfl fun A=>Aq 20 A rfl
  (fun h1 A=>N9 14 A rfl rfl fun A=>R9 A rfl h0 rfl (by unfold D9;rw [if_pos h1];rfl) rfl)
  (fun h1 A=>N9 2 A rfl rfl fun A=>I9 [] GC.ok hI (CE.mono (KH nm os hM hE) fun _ _ q=>q.1) A rfl fun A=>N9 4 A rfl rfl fun A=>fork 25 A rfl
   (fun h2 A=>N9 7 A rfl rfl fun A=>R9 A rfl h0 rfl (by unfold D9;rw [if_neg h1];rw [if_pos (by revert h2;cases Dx nm<;>simp)];rfl) rfl)
   (fun h2 A=>N9 8 A rfl rfl fun A=>I9 [0] GC.ok hI (CE.mono (KA cs cx hs (fun h8 h3=>Xu cs cx (fun c hc=>β4 (IY h8 c hc) (by decide)) (by omega))) fun _ _ q=>q.2) A rfl fun A=>N9 15 A rfl rfl fun A=>EZ 34 A rfl
    (fun h3 A=>N9 8 A rfl rfl fun A=>R9 A rfl h0 rfl (by unfold D9;rw [if_neg h1];rw [if_neg (by revert h2;cases Dx nm<;>simp)];rw [if_pos h3];rfl) rfl)
    (fun h3 A=>N9 9 A rfl rfl fun A=>I9 [0] GC.ok hI (H8 cs cx [65,82,77] 115 116 117 (fun i lb=>(Dg Ar.E7 Ar.QD i lb).1) (fun i lb=>(Dg Ar.E7 Ar.QD i lb).2) os hM hT hE (fun i lb hi hl=>Ar.Yw i lb os hM hT hE (fun L hL=>Ar.WW hi hl hL)) hs hn hR) A rfl fun A=>N9 3 A rfl rfl fun A=>fork 40 A rfl
     (fun h4 A=>N9 7 A rfl rfl fun A=>R9 A rfl h0 rfl (by unfold D9;rw [if_neg h1];rw [if_neg (by revert h2;cases Dx nm<;>simp)];rw [if_neg (η6 h3)];rw [if_pos (by revert h4;cases Dc _ cs<;>simp)];rfl) rfl)
     (fun h4 A=>N9 8 A rfl rfl fun A=>C9 [] (WY qu) A rfl fun A=>N9 2 A rfl rfl fun A=>Au 45 A rfl
      (fun h5 A=>N9 14 A rfl rfl fun A=>R9 A rfl h0 rfl (by unfold D9;rw [if_neg h1];rw [if_neg (by revert h2;cases Dx nm<;>simp)];rw [if_neg (η6 h3)];rw [if_neg (by revert h4;cases Dc _ cs<;>simp)];rw [if_pos h5];rfl) rfl)
      (fun h5 A=>N9 2 A rfl rfl fun A=>C9 [1] (Ng kd ck) A rfl fun A=>N9 4 A rfl rfl fun A=>fork 50 A rfl
       (fun h6 A=>N9 7 A rfl rfl fun A=>R9 A rfl h0 rfl (by unfold D9;rw [if_neg h1];rw [if_neg (by revert h2;cases Dx nm<;>simp)];rw [if_neg (η6 h3)];rw [if_neg (by revert h4;cases Dc _ cs<;>simp)];rw [if_neg h5];rw [if_pos (by revert h6;cases O6 kd<;>simp)];rfl) rfl)
       (fun h6 A=>N9 7 A rfl rfl fun A=>C9 [0,1] (QH 3 nm mi r cs cx qu kd ck (QI h3)) A rfl fun A=>N9 2 A rfl rfl fun A=>fork 52 A rfl
        (fun h7 A=>N9 7 A rfl rfl fun A=>R9 A rfl h0 rfl (by unfold D9;rw [if_neg h1];rw [if_neg (by revert h2;cases Dx nm<;>simp)];rw [if_neg (η6 h3)];rw [if_neg (by revert h4;cases Dc _ cs<;>simp)];rw [if_neg h5];rw [if_neg (by revert h6;cases O6 kd<;>simp)];rw [if_pos h7];rfl) rfl)
        (fun h7 A=>N9 9 A rfl rfl fun A=>R9 A rfl h0 rfl (by unfold D9;rw [if_neg h1];rw [if_neg (by revert h2;cases Dx nm<;>simp)];rw [if_neg (η6 h3)];rw [if_neg (by revert h4;cases Dc _ cs<;>simp)];rw [if_neg h5];rw [if_neg (by revert h6;cases O6 kd<;>simp)];rw [if_neg (by rw [h7];decide)];rfl) rfl)))))))
theorem Te (ar:Int)(nm:List UInt8)(mi r:Nat→Int)(cs:List Ak)(cx:Nat)(qu:Int)(kd:List Cn)(ck:Nat)(ha:¬(1≤ar∧ar≤3)):Fn Tryz.prog 9 [.agg (CY ar nm mi r cs cx qu kd ck)] [some (Bc cs),some (Bu kd)] (Rt (.int .i64 36) [some (Bc cs),some (Bu kd)]):=
 Am (n:=53) (by kernel_rfl) Tryz.func9 rfl rfl rfl fun G w a h0 A=>N9 10 A rfl rfl fun A=>C9 [] (Y1 ar ha) A rfl fun A=>N9 10 A rfl rfl fun A=>N9 12 A rfl rfl fun A=>R9 A rfl h0 rfl rfl rfl
end Go.Proofs.YtbbdanhpphlbpaaGreatDoor
namespace Go.Proofs.YtbbdanhpphlbpaaGreatDoor
open Go.ChangeShapes Go.WideShapes Go.ChangeAt Go.RowKit Go.Deep
theorem Wb {n:Int}(h:(Lit.int .i64 n).wf=true): -9223372036854775808≤n∧n≤9223372036854775807:=by
 have h':(decide ((IntKind.i64).min≤n)&&decide (n≤(IntKind.i64).max))=true:=h
 rw [α3,δ5,δ5,show(IntKind.i64).min= -9223372036854775808 from rfl,show(IntKind.i64).max=9223372036854775807 from rfl]at h'
 exact h'
def pA (i:In):Array Value:= #[.int .i64 i.op,.int .i64 i.dst,.int .i64 i.ra,.int .i64 i.rb,.int .i64 i.imm,.int .i64 i.loc,.int .i64 i.off,.int .i64 i.ix,.int .i64 i.sz,.int .i64 i.fn,.bool i.acq,.bool i.weak,.bool i.rel,.int .i64 i.pred,.int .i64 i.succ,.int .i64 i.to_,.bool i.zero]
def sH (i:In):List Value:=(pA i).toList
def Y2 (k:Nat):Nat:=if k==10||k==11||k==12||k==16 then 4 else 3
def Wc (P:Program):Option (Array Field):=match P.underlying 63 with|some (.struct fs)=>some fs|_=>none
def aP (P:Program):Bool:=match Wc P with|some fs=>(List.range 17).all (fun k=>match fs[k]? with|some f=>f.offset==k&&f.type==Y2 k|none=>false)|none=>false
theorem QJ:aP Tryz.prog=true:=by kernel_rfl
theorem QK:∃fs:Array Field,Tryz.prog.underlying 63=some (.struct fs)∧∀k,k<17→∃f,fs[k]?=some f∧f.offset=k∧f.type=Y2 k:=by
 have h:=QJ
 unfold aP at h
 cases hq:Wc Tryz.prog with
 |none=>simp [hq]at h
 | some fs=>
  rw [hq]at h
  refine⟨fs,?_,fun k hk=>?_⟩
  ·unfold Wc at hq
   split at hq
   ·rename_i fs' he;rw [he];cases hq;rfl
   ·cases hq
  ·have h1:=δ7.1 h k (ε8.2 hk)
   cases hf:fs[k]? with
   |none=>simp [hf]at h1
   |some f=>rw [hf]at h1;simp only [α3,ε4]at h1;exact⟨f,rfl,h1.1,h1.2⟩
theorem Tf:Tryz.prog.cellsOf 3=1:=by kernel_rfl
theorem QL:Tryz.prog.cellsOf 4=1:=by kernel_rfl
theorem take_one {l:List Value}{k:Nat}{v:Value}(h:(l.drop k).take 1=[v]):l[k]?=some v:=by
 have:=congrArg (fun l=>l[0]?) h
 simpa using this
section
variable {H:Type}{enc:TypeId×Value→H}{W:World}{base:Nat}{spare:Nat→Bool}{held:Bool}{base':Nat}
theorem We (cs:List Value)(n:Nat)(x:DataW H×List MemPlace)(h:DataW.trod enc Tryz.prog W base' spare held n 63 cs=some x)(hl:cs.length=17):∃i:In,cs=sH i∧Yx i:=by
 obtain⟨fs,hu,zO⟩:=QK
 obtain⟨xs,n,_,_,_,hlen,hx⟩:=τ1 hu h
 have int:∀k,k<17→Y2 k=3→∃m:Int,cs[k]?=some (.int .i64 m)∧ -9223372036854775808≤m∧m≤9223372036854775807:=fun k hk ht=>by
  obtain⟨f,SN,ho,jN⟩:=zO k hk
  have h1:=hx k f SN
  have hl:=(ε3.1 SN).1
  rw [ho,jN,ht,Tf,β0 (by omega)]at h1
  obtain⟨m,h2,_,h3⟩:=υ7 Tryz.underlying3 h1
  exact⟨m,take_one h2,Wb h3⟩
 have bool:∀k,k<17→Y2 k=4→∃b:Bool,cs[k]?=some (.bool b):=fun k hk ht=>by
  obtain⟨f,SN,ho,jN⟩:=zO k hk
  have h1:=hx k f SN
  have hl:=(ε3.1 SN).1
  rw [ho,jN,ht,QL,β0 (by omega)]at h1
  obtain⟨m,h2,_⟩:=DataW.trod_bool Tryz.underlying4 h1
  exact⟨m,take_one h2⟩
 obtain⟨c0,h0,w0⟩:=int 0 (by decide) rfl
 obtain⟨c1,h1,w1⟩:=int 1 (by decide) rfl
 obtain⟨c2,h2,w2⟩:=int 2 (by decide) rfl
 obtain⟨c3,h3,w3⟩:=int 3 (by decide) rfl
 obtain⟨c4,h4,w4⟩:=int 4 (by decide) rfl
 obtain⟨c5,h5,w5⟩:=int 5 (by decide) rfl
 obtain⟨c6,h6,w6⟩:=int 6 (by decide) rfl
 obtain⟨c7,h7,w7⟩:=int 7 (by decide) rfl
 obtain⟨c8,h8,w8⟩:=int 8 (by decide) rfl
 obtain⟨c9,h9,w9⟩:=int 9 (by decide) rfl
 obtain⟨c10,GL⟩:=bool 10 (by decide) rfl
 obtain⟨c11,Fv⟩:=bool 11 (by decide) rfl
 obtain⟨c12,No⟩:=bool 12 (by decide) rfl
 obtain⟨c13,Ll,w13⟩:=int 13 (by decide) rfl
 obtain⟨c14,Qe,w14⟩:=int 14 (by decide) rfl
 obtain⟨c15,SH,w15⟩:=int 15 (by decide) rfl
 obtain⟨c16,Tp⟩:=bool 16 (by decide) rfl
 refine⟨⟨c0,c1,c2,c3,c4,c5,c6,c7,c8,c9,c10,c11,c12,c13,c14,c15,c16⟩,?_,⟨w4,w6⟩,w15⟩
 apply θ5
 intro k
 by_cases hk:k<17
 ·have:k=0∨k=1∨k=2∨k=3∨k=4∨k=5∨k=6∨k=7∨k=8∨k=9∨k=10∨k=11∨k=12∨k=13∨k=14∨k=15∨k=16:=by omega
  rcases this with rfl|rfl|rfl|rfl|rfl|rfl|rfl|rfl|rfl|rfl|rfl|rfl|rfl|rfl|rfl|rfl|rfl
  ·exact h0
  ·exact h1
  ·exact h2
  ·exact h3
  ·exact h4
  ·exact h5
  ·exact h6
  ·exact h7
  ·exact h8
  ·exact h9
  ·exact GL
  ·exact Fv
  ·exact No
  ·exact Ll
  ·exact Qe
  ·exact SH
  ·exact Tp
 ·rw [γ4 (by omega),γ4 (by simp [sH,pA];omega)]
theorem Jn {P:Program}{e:Nat}{d:DataW H}:∀{l:List (DataW H)},d∈l→(DataW.weightsAll P e l).all (·≤reachBytes)=true→(d.weights P e).all (·≤reachBytes)=true
 | [],h,_=>by cases h
 |x::l,h,hw=>by
  unfold DataW.weightsAll at hw
  rw [ξ4,α3]at hw
  rcases ζ9.1 h with rfl|h
  ·exact hw.1
  ·exact Jn h hw.2
theorem It {P:Program}{t:Nat}{d:DataW H}:∀{ts:List Nat} {l:List (DataW H)} {i:Nat},ts[i]?=some t→l[i]?=some d→(DataW.weightsEach P ts l).all (·≤reachBytes)=true→(d.weights P t).all (·≤reachBytes)=true
 | [],_,_,h,_,_=>by simp at h
 |_::_,[],_,_,h,_=>by simp at h
 |t'::ts,x::l,i,h1,h2,hw=>by
  unfold DataW.weightsEach at hw
  rw [ξ4,α3]at hw
  cases i with
  |zero=>simp at h1 h2;subst h1;subst h2;exact hw.1
  |succ i=>exact It (by simpa using h1) (by simpa using h2) hw.2
theorem GJ {α:Type} [Inhabited α] {en:α→List Value} {Q:α→Prop} {t e s fuel:Nat} {cells:List Value} {x:DataW H×List MemPlace} (ht:Tryz.prog.underlying t=some (.slice e)) (hc:Tryz.prog.cellsOf e=s) (h0:0<s)
  (QZ:∀cs n x,DataW.trod enc Tryz.prog W base' spare held n e cs=some x→cs.length=s→(x.1.weights Tryz.prog e).all (·≤reachBytes)=true→∃y:α,cs=en y∧Q y)
  (hf:DataW.trod enc Tryz.prog W base' spare held fuel t cells=some x) (AP:(x.1.weights Tryz.prog t).all (·≤reachBytes)=true):
  ∃(ao:Option Addr) (l:List α) (cap:Nat),cells=[.slice ao l.length cap]∧(l.length≤9223372036854775807∧l.length*Tryz.prog.bytesOf e≤reachBytes)∧Sl en s W.heap.size W (.slice ao l.length cap) l∧∀y∈l,Q y:=by
 rcases open_slice ht hf with⟨Ab,_⟩|⟨a,len0,cap0,m,n,D,Pl,Ab,hb,hl,hm,wK,rF,hx⟩
 ·exact⟨none,[],0,Ab,by simp,Sl.nil,fun y hy=>by cases hy⟩
 ·have yZ:len0≤m:=by rw [wK];split<;>omega
  have p6:maxLen=9223372036854775807:=rfl
  rw [rF]at AP
  unfold DataW.weights at AP
  rw [ht]at AP
  simp only [List.all_cons,ξ4,α3,δ5,δ2,List.length_range]at AP
  have ZN:len0*Tryz.prog.bytesOf e≤reachBytes:=β4 (θ6 _ (υ0 _ _)) AP.1
  rw [hc]at hx
  obtain⟨Y,hY⟩:=choose_lt (α:=α) (n:=len0) (p:=fun i y=>Q y∧(en y).length=s∧∀k,k<s→W.cell? ((a.add (i*s)).add k)=(en y)[k]?) (fun i hi=>by
   obtain⟨cs',h1,h2⟩:=hx i (by omega)
   obtain⟨_,hlen,FM⟩:=World.cells?_some h1
   obtain⟨y,rfl,hq⟩:=QZ cs' n _ h2 hlen (Jn (l:=(List.range len0).map D) (List.mem_map.2 ⟨i,ε8.2 hi,rfl⟩) AP.2.1)
   exact⟨y,hq,hlen,FM⟩)
  have hlen:((List.range len0).map Y).length=len0:=by simp
  refine⟨some a,(List.range len0).map Y,cap0,by rw [hlen];exact Ab,by rw [hlen];exact⟨by omega,ZN⟩,⟨some a,cap0,by rw [hlen],by rw [hlen];exact hl,fun j x hj=>?_⟩,fun y hy=>?_⟩
  ·have SF:j<len0:=by have:=(α0.1 hj).1;simpa using this
   have rF:x=Y j:=by simp [SF]at hj;exact hj.symm
   subst rF
   obtain⟨_,iP,FM⟩:=hY j SF
   obtain⟨b,o,spot⟩:=a
   obtain⟨_,hy0,jO⟩:=hY 0 (by omega)
   have T8:=jO 0 h0
   rw [β0 (by omega)]at T8
   have rG:spot=none:=by simpa [Addr.add]using World.cell?_spot T8
   subst rG
   refine⟨b,o,rfl,?_,fun k u hu=>?_⟩
   ·have:=World.block_lt_of_cell? W _ T8
    rw [η3,η3]at this
    exact this
   ·have hk:k<s:=by have:=(α0.1 hu).1;omega
    have:=FM k hk
    rw [hu,η3,η3]at this
    exact this
  ·obtain⟨i,hi,rfl⟩:=List.mem_map.1 hy
   exact(hY i (by simpa using hi)).1
def vL (c:Ak):List Value:=[.slice c.ao c.l.length c.cp]
instance:Inhabited Ak:=⟨Ak.z⟩
instance:Inhabited In:=⟨In.z⟩
structure pB (W:World)(c:Ak):Prop where
 sl:Sl sH 17 W.heap.size W (.slice c.ao c.l.length c.cp) c.l
 le:c.l.length≤9223372036854775807
 wl:c.l.length*120≤reachBytes
 ok:∀i∈c.l,Yx i
theorem Wf (cs:List Value)(n:Nat)(x:DataW H×List MemPlace)(h:DataW.trod enc Tryz.prog W base' spare held n 64 cs=some x)(hl:cs.length=1)(AP:(x.1.weights Tryz.prog 64).all (·≤reachBytes)=true):∃c:Ak,cs=vL c∧pB W c:=by
 obtain⟨ao,l,cap,h1,h2,h3,h4⟩:=GJ (t:=64) (e:=63) (s:=17) (by kernel_rfl) (by kernel_rfl) (by omega) (fun cs n x h hl _=>We cs n x h hl) h AP
 rw [show Tryz.prog.bytesOf 63=120 by kernel_rfl]at h2
 exact⟨⟨ao,l,cap⟩,h1,h3,h2.1,h2.2,h4⟩
def AI (enc:TypeId×Value→H)(W:World)(base':Nat)(spare:Nat→Bool)(held:Bool)(t s:Nat):Prop:=Tryz.prog.cellsOf t=s∧∀(cs:List Value) (n:Nat) (x:DataW H×List MemPlace),DataW.trod enc Tryz.prog W base' spare held n t cs=some x→∀k,k<s→∃m:Int,cs[k]?=some (.int .i64 m)∧ -9223372036854775808≤m∧m≤9223372036854775807
theorem AI.int:AI enc W base' spare held 3 1:=⟨by kernel_rfl,fun cs n x h k hk=>by
 obtain⟨m,h2,_,h3⟩:=υ7 Tryz.underlying3 h
 obtain rfl:k=0:=by omega
 exact⟨m,by rw [h2];rfl,Wb h3⟩⟩
theorem QM {cs:List Value}{o s j:Nat}(hj:j<s):((cs.drop o).take s)[j]?=cs[o+j]?:=by
 rw [γ1 hj,η1]
theorem AI.arr {t n e s:Nat}(ht:Tryz.prog.underlying t=some (.array n e))(hc:Tryz.prog.cellsOf t=n*s)(h0:0<s)(he:AI enc W base' spare held e s):AI enc W base' spare held t (n*s):=⟨hc,fun cs f x h k hk=>by
 obtain⟨xs,m,_,_,_,iO,hx⟩:=DataW.trod_array ht h
 have hi:k / s<n:=(Nat.div_lt_iff_lt_mul h0).2 hk
 have h1:=hx (k / s) hi
 rw [he.1,β0 (by omega)]at h1
 obtain⟨z,h2,h3⟩:=he.2 _ _ _ h1 (k % s) (υ8 _ h0)
 rw [QM (υ8 _ h0)]at h2
 have e:k / s*s+k % s=k:=by rw [Nat.mul_comm];exact Nat.div_add_mod k s
 rw [e]at h2
 exact⟨z,h2,h3⟩⟩
def MV (P:Program)(t i:Nat):Option (Nat×Nat):=match P.underlying t with|some (.struct fs)=>(fs[i]?).map fun f=>(f.offset,f.type)|_=>none
theorem yW {t i o u fuel:Nat}{cs:List Value}{x:DataW H×List MemPlace}(h:DataW.trod enc Tryz.prog W base' spare held fuel t cs=some x)(h1:MV Tryz.prog t i=some (o,u)):∃n z,DataW.trod enc Tryz.prog W base' spare held n u ((cs.drop o).take (Tryz.prog.cellsOf u))=some z:=by
 unfold MV at h1
 split at h1
 ·next fs hu=>
  obtain⟨xs,m,_,_,_,iO,hx⟩:=τ1 hu h
  obtain⟨f,SN,iQ⟩:=γ9.1 h1
  cases iQ
  have h5:=hx i f SN
  have XR:=(ε3.1 SN).1
  rw [β0 (by omega)]at h5
  exact⟨m,_,h5⟩
 ·cases h1
theorem AI.str {t s:Nat}(hc:Tryz.prog.cellsOf t=s)(hf:∀k,k<s→∃i o u z,MV Tryz.prog t i=some (o,u)∧AI enc W base' spare held u z∧o≤k∧k<o+z):AI enc W base' spare held t s:=⟨hc,fun cs n x h k hk=>by
 obtain⟨i,o,u,z,h1,h2,h3,h4⟩:=hf k hk
 obtain⟨m,z',h5⟩:=yW h h1
 rw [h2.1]at h5
 obtain⟨q,h6,h7⟩:=h2.2 _ _ _ h5 (k - o) (by omega)
 rw [QM (by omega),show o+(k - o)=k by omega]at h6
 exact⟨q,h6,h7⟩⟩
theorem AI.cond:AI enc W base' spare held 66 5:=by
 refine AI.str (by kernel_rfl) fun k hk=>?_
 have:k=0∨k=1∨k=2∨k=3∨k=4:=by omega
 rcases this with rfl|rfl|rfl|rfl|rfl
 ·exact⟨0,0,3,1,by kernel_rfl,AI.int,by omega,by omega⟩
 ·exact⟨1,1,3,1,by kernel_rfl,AI.int,by omega,by omega⟩
 ·exact⟨2,2,3,1,by kernel_rfl,AI.int,by omega,by omega⟩
 ·exact⟨3,3,3,1,by kernel_rfl,AI.int,by omega,by omega⟩
 ·exact⟨4,4,3,1,by kernel_rfl,AI.int,by omega,by omega⟩
def vM (c:Cn):List Value:=[.int .i64 c.k,.int .i64 c.t,.int .i64 c.r,.int .i64 c.l,.int .i64 c.v]
def yX (c:Cn):Prop:= -9223372036854775808≤c.v∧c.v≤9223372036854775807
instance:Inhabited Cn:=⟨Cn.z⟩
theorem Wg (cs:List Value)(n:Nat)(x:DataW H×List MemPlace)(h:DataW.trod enc Tryz.prog W base' spare held n 66 cs=some x)(hl:cs.length=5):∃y:Cn,cs=vM y∧yX y:=by
 have A:=AI.cond.2 cs n x h
 obtain⟨a,ha,_⟩:=A 0 (by omega)
 obtain⟨b,hb,_⟩:=A 1 (by omega)
 obtain⟨c,hc,_⟩:=A 2 (by omega)
 obtain⟨d,hd,_⟩:=A 3 (by omega)
 obtain⟨e,he,h5⟩:=A 4 (by omega)
 refine⟨⟨a,b,c,d,e⟩,?_,h5⟩
 match cs,hl,ha,hb,hc,hd,he with
 | [u0,u1,u2,u3,u4],_,ha,hb,hc,hd,he=>simp at ha hb hc hd he;subst ha hb hc hd he;rfl
theorem gR {t i o u fuel:Nat}{cs:List Value}{x:DataW H×List MemPlace}(h:DataW.trod enc Tryz.prog W base' spare held fuel t cs=some x)(AP:(x.1.weights Tryz.prog t).all (·≤reachBytes)=true)(h1:MV Tryz.prog t i=some (o,u)):∃n z,DataW.trod enc Tryz.prog W base' spare held n u ((cs.drop o).take (Tryz.prog.cellsOf u))=some z∧(z.1.weights Tryz.prog u).all (·≤reachBytes)=true:=by
 unfold MV at h1
 split at h1
 ·next fs hu=>
  obtain⟨xs,m,_,rF,_,iO,hx⟩:=τ1 hu h
  obtain⟨f,SN,iQ⟩:=γ9.1 h1
  cases iQ
  have h5:=hx i f SN
  have XR:=(ε3.1 SN).1
  rw [β0 (by omega)]at h5
  refine⟨m,_,h5,?_⟩
  rw [rF]at AP
  unfold DataW.weights at AP
  rw [hu]at AP
  exact It (i:=i) (by rw [μ6];simp [SN]) (by rw [μ6,β0 (by omega)];rfl) AP
 ·cases h1
structure Ts where (ar:Int) (nm:List UInt8) (mi r:Nat→Int) (bo:BO) (cs:List Ak) (cx:Nat) (qu:Int) (co:BO) (kd:List Cn) (ck:Nat)
def aQ (y:Ts):List Value:=[.int .i64 y.ar,.string (S y.nm),.int .i64 (y.mi 0),.int .i64 (y.mi 1),.int .i64 (y.mi 2),.int .i64 (y.r 0),.int .i64 (y.r 1),.int .i64 (y.r 2),.int .i64 (y.r 3),.int .i64 (y.r 4),.int .i64 (y.r 5),.int .i64 (y.r 6),.int .i64 (y.r 7),.int .i64 (y.r 8),.int .i64 (y.r 9),.int .i64 (y.r 10),.int .i64 (y.r 11),.int .i64 (y.r 12),.int .i64 (y.r 13),.int .i64 (y.r 14),.int .i64 (y.r 15),.int .i64 (y.r 16),.int .i64 (y.r 17),.int .i64 (y.r 18),.int .i64 (y.r 19),.int .i64 (y.r 20),.int .i64 (y.r 21),.int .i64 (y.r 22),.int .i64 (y.r 23),.slice (IW y.bo) y.cs.length y.cx,.int .i64 y.qu,.slice (IW y.co) y.kd.length y.ck]
structure O7 (W:World)(y:Ts):Prop where
 codes:Sl vL 1 W.heap.size W (.slice (IW y.bo) y.cs.length y.cx) y.cs
 conds:Sl vM 5 W.heap.size W (.slice (IW y.co) y.kd.length y.ck) y.kd
 code:∀c∈y.cs,pB W c
 cond:∀c∈y.kd,yX c
 le:y.cs.length≤9223372036854775807
 lk:y.kd.length≤9223372036854775807
 ln:y.nm.length≤9223372036854775807
 wc:y.cs.length*24≤reachBytes
 wk:y.kd.length*40≤reachBytes
 wn:y.nm.length≤reachBytes
 ar: -9223372036854775808≤y.ar∧y.ar≤9223372036854775807
 qu: -9223372036854775808≤y.qu∧y.qu≤9223372036854775807
 mi:∀k,k<3→ -9223372036854775808≤y.mi k∧y.mi k≤9223372036854775807
 r:∀k,k<24→ -9223372036854775808≤y.r k∧y.r k≤9223372036854775807
def vN:List Nat:=[3,9,3,3,3,3,3,3,3,3,3,3,3,3,3,3,3,3,3,3,3,3,3,3,3,3,3,3,3,25,3,26]
theorem Wh:Tryz.prog.cellTypes Tryz.prog.depth 28=some vN:=by kernel_rfl
theorem LH {t e n cap:Nat}{ao:Option Addr}(ht:Tryz.prog.underlying t=some (.slice e))(hv:Cell.okWide Tryz.prog W .any base t (.slice ao n cap)):∃bo:BO,ao=IW bo:=by
 cases ao with
 |none=>exact⟨none,rfl⟩
 |some a=>
  simp only [Cell.okWide,ht,Cell.ok]at hv
  obtain⟨b,o,s⟩:=a
  have:s=none:=hv.2.2.2.1
  subst this
  exact⟨some (b,o),rfl⟩
def isStr (P:Program)(t:Nat):Bool:=match P.underlying t with|some (.struct _)=>true|_=>false
theorem gS {t:Nat}(h:isStr Tryz.prog t=true):∃fs,Tryz.prog.underlying t=some (.struct fs):=by
 unfold isStr at h
 split at h
 ·next fs he=>exact⟨fs,he⟩
 ·cases h
theorem Tg {v:Value}{d:DataW H}{ps:List MemPlace}(hv:Value.okWide Tryz.prog W .any base 28 v)(h:DataW.Trod enc Tryz.prog W base' spare held 28 v d ps)(AP:(d.weights Tryz.prog 28).all (·≤reachBytes)=true):∃y:Ts,v=.agg (aQ y).toArray∧O7 W y:=by
 obtain⟨fs,hu⟩:=gS (t:=28) (by kernel_rfl)
 simp only [Value.okWide,hu]at hv
 obtain⟨ca,rfl,FL,ts,PF,_,Df⟩:=hv
 rw [Wh]at PF
 cases PF
 rw [show Tryz.prog.cellsOf 28=32 by kernel_rfl]at FL
 obtain⟨fuel,hf⟩:=h
 have W9:∀k:Nat,ca[k]?=ca.toList[k]?:=fun k=>by simp
 have hf:DataW.trod enc Tryz.prog W base' spare held fuel 28 ca.toList=some (d,ps):=by simpa [Value.cells]using hf
 have hl:ca.toList.length=32:=by simpa using FL
 have one:∀(i o u s:Nat),MV Tryz.prog 28 i=some (o,u)→AI enc W base' spare held u s→∀k,k<s→∃m:Int,ca.toList[o+k]?=some (.int .i64 m)∧ -9223372036854775808≤m∧m≤9223372036854775807:=fun i o u s h1 h2 k hk=>by
  obtain⟨n,z,h3⟩:=yW hf h1
  rw [h2.1]at h3
  obtain⟨m,h4,h5⟩:=h2.2 _ _ _ h3 k hk
  rw [QM hk]at h4
  exact⟨m,h4,h5⟩
 obtain⟨ar,h0,har⟩:=one 0 0 3 1 (by kernel_rfl) AI.int 0 (by decide)
 obtain⟨qu,h30,sQ⟩:=one 5 30 3 1 (by kernel_rfl) AI.int 0 (by decide)
 obtain⟨mi,kF⟩:=choose_lt (α:=Int) (n:=3) (one 2 2 22 3 (by kernel_rfl) (AI.arr (n:=3) (s:=1) (e:=3) (by kernel_rfl) (by kernel_rfl) (by decide) AI.int))
 obtain⟨r,hr⟩:=choose_lt (α:=Int) (n:=24) (one 3 5 24 24 (by kernel_rfl) (AI.arr (n:=3) (s:=8) (e:=23) (by kernel_rfl) (by kernel_rfl) (by decide) (AI.arr (n:=8) (s:=1) (e:=3) (by kernel_rfl) (by kernel_rfl) (by decide) AI.int)))
 obtain⟨n1,z1,hn,XE⟩:=gR hf AP (i:=1) (o:=1) (u:=9) (by kernel_rfl)
 obtain⟨nm,qZ,wQ,jI⟩:=DataW.trod_string (by kernel_rfl) hn
 rw [show Tryz.prog.cellsOf 9=1 by kernel_rfl]at qZ
 have h1:=take_one qZ
 obtain⟨n2,z2,hc,hwc⟩:=gR hf AP (i:=4) (o:=29) (u:=25) (by kernel_rfl)
 obtain⟨ao,cs,cx,jA,hle,Qa,EO⟩:=GJ (t:=25) (e:=64) (s:=1) (by kernel_rfl) (by kernel_rfl) (by omega) Wf hc hwc
 rw [show Tryz.prog.cellsOf 25=1 by kernel_rfl]at jA
 have zP:=take_one jA
 obtain⟨n3,z3,hk,hwk⟩:=gR hf AP (i:=6) (o:=31) (u:=26) (by kernel_rfl)
 obtain⟨ao',kd,ck,PM,xX,hsk,hkd⟩:=GJ (t:=26) (e:=66) (s:=5) (by kernel_rfl) (by kernel_rfl) (by omega) (fun cs n x h hl _=>Wg cs n x h hl) hk hwk
 rw [show Tryz.prog.bytesOf 64=24 by kernel_rfl]at hle
 rw [show Tryz.prog.bytesOf 66=40 by kernel_rfl]at xX
 rw [wQ]at XE
 rw [show Tryz.prog.cellsOf 26=1 by kernel_rfl]at PM
 have zQ:=take_one PM
 obtain⟨u,hu1,hu2⟩:=Df 29 _ ((W9 29).trans zP)
 cases hu1
 obtain⟨bo,rfl⟩:=LH (e:=64) (by kernel_rfl) hu2
 obtain⟨u,hu3,hu4⟩:=Df 31 _ ((W9 31).trans zQ)
 cases hu3
 obtain⟨co,rfl⟩:=LH (e:=66) (by kernel_rfl) hu4
 refine⟨⟨ar,nm.data.toList,mi,r,bo,cs,cx,qu,co,kd,ck⟩,?_,Qa,hsk,EO,hkd,hle.1,xX.1,?_,hle.2,xX.2,(by unfold DataW.weights at XE;simpa using XE),har,sQ,fun k hk=>(kF k hk).2,fun k hk=>(hr k hk).2⟩
 ·have e:ca.toList=aQ ⟨ar,nm.data.toList,mi,r,bo,cs,cx,qu,co,kd,ck⟩:=by
   apply θ5
   intro k
   by_cases hk:k<32
   ·have:k=0∨k=1∨k=2∨k=3∨k=4∨k=5∨k=6∨k=7∨k=8∨k=9∨k=10∨k=11∨k=12∨k=13∨k=14∨k=15∨k=16∨k=17∨k=18∨k=19∨k=20∨k=21∨k=22∨k=23∨k=24∨k=25∨k=26∨k=27∨k=28∨k=29∨k=30∨k=31:=by omega
    rcases this with rfl|rfl|rfl|rfl|rfl|rfl|rfl|rfl|rfl|rfl|rfl|rfl|rfl|rfl|rfl|rfl|rfl|rfl|rfl|rfl|rfl|rfl|rfl|rfl|rfl|rfl|rfl|rfl|rfl|rfl|rfl|rfl
    ·exact h0
    ·exact h1
    ·exact(kF 0 (by decide)).1
    ·exact(kF 1 (by decide)).1
    ·exact(kF 2 (by decide)).1
    ·exact(hr 0 (by decide)).1
    ·exact(hr 1 (by decide)).1
    ·exact(hr 2 (by decide)).1
    ·exact(hr 3 (by decide)).1
    ·exact(hr 4 (by decide)).1
    ·exact(hr 5 (by decide)).1
    ·exact(hr 6 (by decide)).1
    ·exact(hr 7 (by decide)).1
    ·exact(hr 8 (by decide)).1
    ·exact(hr 9 (by decide)).1
    ·exact(hr 10 (by decide)).1
    ·exact(hr 11 (by decide)).1
    ·exact(hr 12 (by decide)).1
    ·exact(hr 13 (by decide)).1
    ·exact(hr 14 (by decide)).1
    ·exact(hr 15 (by decide)).1
    ·exact(hr 16 (by decide)).1
    ·exact(hr 17 (by decide)).1
    ·exact(hr 18 (by decide)).1
    ·exact(hr 19 (by decide)).1
    ·exact(hr 20 (by decide)).1
    ·exact(hr 21 (by decide)).1
    ·exact(hr 22 (by decide)).1
    ·exact(hr 23 (by decide)).1
    ·exact zP
    ·exact h30
    ·exact zQ
   ·rw [γ4 (by omega),γ4 (by simp [aQ];omega)]
  rw [←e]
 ·have p6:maxLen=9223372036854775807:=rfl
  show nm.data.toList.length≤_
  have e2:nm.data.toList.length=nm.size:=Array.length_toList
  rw [e2]
  exact jI
end
end Go.Proofs.YtbbdanhpphlbpaaGreatDoor
namespace Go.Proofs.YtbbdanhpphlbpaaGreatDoor
open Go.ChangeShapes Go.WideShapes Go.ChangeAt Go.RowKit
def pC (y:Ts):SV:=.agg (FS y.ar y.nm y.mi y.r (.sl 0 y.cs.length y.cx) y.qu (.sl 1 y.kd.length y.ck))
def QN (y:Ts):Hp:=[some (.lst 1 y.cs.length (fun zz=>JL (y.cs.getD zz Ak.z))),some (.lst 5 y.kd.length (fun zz=>cc (y.kd.getD zz Cn.z)))]
def Nt (y:Ts):Gr:=[Eg y.bo,Eg y.co]
section
variable {W:World}{y:Ts}
theorem aR (h:O7 W y):den (Nt y) (.sl 0 y.cs.length y.cx)=some (.slice (IW y.bo) y.cs.length y.cx)∧BK (Nt y) W (Eg y.bo) (.lst 1 y.cs.length (fun zz=>JL (y.cs.getD zz Ak.z))):=
 (P9 (bo:=y.bo) (enc:=vL) (f:=fun zz=>JL (y.cs.getD zz Ak.z)) h.codes (β7 _) (fun k x hx=>by show Al [] (JL (y.cs.getD k Ak.z))=_;rw [α6,hx];rfl) (fun k=>⟨_,rfl⟩)).2 [] [Eg y.co]
theorem aS (h:O7 W y):den (Nt y) (.sl 1 y.kd.length y.ck)=some (.slice (IW y.co) y.kd.length y.ck)∧BK (Nt y) W (Eg y.co) (.lst 5 y.kd.length (fun zz=>cc (y.kd.getD zz Cn.z))):=
 (P9 (bo:=y.co) (enc:=vM) (f:=fun zz=>cc (y.kd.getD zz Cn.z)) h.conds (β7 _) (fun k x hx=>by show Al [] (cc (y.kd.getD k Cn.z))=_;rw [α6,hx];rfl) (fun k=>⟨_,rfl⟩)).2 [Eg y.bo] []
theorem Wi:∀(i:Nat) (e:Bo),(QN y)[i]?=some (some e)→e.mut=false:=fun i e he=>by
 match i,he with
 |0,he=>cases he;rfl
 |1,he=>cases he;rfl
 |n+2,he=>simp [QN]at he
theorem gT (h:O7 W y):Mem (QN y) (Nt y) W:=⟨rfl,fun i e he=>by
  match i,he with
  |0,he=>cases he;exact(aR h).2
  |1,he=>cases he;exact(aS h).2
  |n+2,he=>simp [QN]at he,fun i j e f L M _ hi _ hm _ _ _=>by rw [Wi i e hi]at hm;cases hm⟩
theorem gU (h:O7 W y):Al (Nt y) [pC y]=some [.agg (aQ y).toArray]:=by
 have e1:=(aR h).1
 have e2:=(aS h).1
 generalize Nt y=G at e1 e2
 unfold pC aQ
 simp only [Al,den,δ4]at e1 e2⊢
 rw [e1,e2]
 rfl
theorem Wj (h:O7 W y){ks:List Nat}(hk:∀b,ks.contains b=false):An y.cs W ks:=fun c hc=>by
 obtain⟨ao,cap,hv,QV,he⟩:=(h.code c hc).sl
 injection hv with q1 q2 q3
 refine⟨fun k=>⟨_,rfl⟩,?_⟩
 by_cases h0:c.l.length=0
 ·exact .inl h0
 ·obtain⟨b,o,e,hb,_⟩:=he 0 c.l[0] (β0 (by omega))
  refine .inr ⟨b,o,q1.trans e,hb,hk b,fun k sL=>?_⟩
  obtain⟨b',o',e',_,hr⟩:=he k c.l[k] (β0 sL)
  rw [e]at e'
  cases e'
  exact⟨sH c.l[k],(by show Al [] (C3 (c.l.getD k In.z))=_;rw [α6,β0 sL];rfl),hr⟩
theorem Y3 (h:Lib.TabIs Tryz.prog W "internal/strconv.uint64pow10" .u64 Lib.pow10Tab):∃(g:Nat) (o:Obj),W.heap[g]?=some o∧∀w:World,w.heap[g]?=some o→Lib.TabIs Tryz.prog w "internal/strconv.uint64pow10" .u64 Lib.pow10Tab:=by
 unfold Lib.TabIs World.var? at h
 cases hg:Tryz.prog.globalNamed "internal/strconv.uint64pow10" with
 |none=>rw [hg]at h;simp at h
 | some g=>
  rw [hg]at h
  cases ho:W.heap[g]? with
  |none=>simp [ho]at h
  |some o=>
   refine⟨g,o,ho,fun w hw=>?_⟩
   unfold Lib.TabIs World.var?
   rw [hg]
   simp only [π5,ho,hw]at h⊢
   exact h
theorem Iu {b k:Nat}{v:Value}(h:W.cell? ⟨b,k,none⟩=some v):∃o,W.heap[b]?=some o∧∀w:World,w.heap[b]?=some o→w.cell? ⟨b,k,none⟩=some v:=by
 cases ho:W.heap[b]? with
 |none=>unfold World.cell? at h;simp [ho]at h
 |some o=>
  refine⟨o,rfl,fun w hw=>?_⟩
  unfold World.cell? at h⊢
  simp only [ho,hw]at h⊢
  exact h
end
end Go.Proofs.YtbbdanhpphlbpaaGreatDoor
namespace Go.Proofs.YtbbdanhpphlbpaaGreatDoor.Mc
open Go.RowKit
def prX (ar:Int):In→Int:=fun i=>if ar=1 then(Dg Ep QA i (E8 i.to_)).2 else if ar=2 then(Dg Ck H7 i (E8 i.to_)).2 else(Dg Ar.E7 Ar.QD i (E8 i.to_)).2
def Wk (ar:Int)(nm:List UInt8)(cs:List Ak)(qu:Int)(kd:List Cn)(r:Nat→Int):Int:=if 1≤ar∧ar≤3 then D9 (prX ar) nm cs qu kd r else 36
theorem Ti (ar:Int)(nm:List UInt8)(mi r:Nat→Int)(cs:List Ak)(cx:Nat)(qu:Int)(kd:List Cn)(ck:Nat)(os:List (Nat×Obj))(hM:LR os)(hT:NU os)(hE:MF os)(hs:∀c∈cs,c.l.length≤9223372036854775807)(hR:∀c∈cs,∀i∈c.l,Yx i)(hn:cs.length≤9223372036854775807):CE (GC os cs) Tryz.prog 9 [.agg (CY ar nm mi r cs cx qu kd ck)] [some (Bc cs),some (Bu kd)] (Rt (.int .i64 (Wk ar nm cs qu kd r)) [some (Bc cs),some (Bu kd)]):=by
 by_cases h:1≤ar∧ar≤3
 ·have hc:ar=1∨ar=2∨ar=3:=by omega
  unfold Wk
  rw [if_pos h]
  rcases hc with rfl|rfl|rfl
  ·exact Ta nm mi r cs cx qu kd ck os hM hT hE hs hR hn
  ·exact Tc nm mi r cs cx qu kd ck os hM hT hE hs hR hn
  ·exact Td nm mi r cs cx qu kd ck os hM hT hE hs hR hn
 ·unfold Wk
  rw [if_neg h]
  exact(Te ar nm mi r cs cx qu kd ck h).toI
theorem vO {ar:Int}{nm:List UInt8}{cs:List Ak}{qu:Int}{kd:List Cn}{r:Nat→Int}(h:Wk ar nm cs qu kd r=0):M2 cs=0∧kd.length≤32:=by
 unfold Wk at h
 split at h
 ·unfold D9 at h
  split at h
  ·omega
  split at h
  ·omega
  split at h
  ·next hh=>exact absurd h hh
  ·next hh=>
   refine⟨Decidable.not_not.1 hh,?_⟩
   split at h
   ·omega
   split at h
   ·omega
   split at h
   ·omega
   ·next hr=>
    have hr:O6 kd=true:=by simpa using hr
    unfold O6 at hr
    split at hr
    ·cases hr
    ·omega
 ·omega
section
variable {W:World}{y:Ts}
theorem pD {G:Gr}{p:Option Loc}{s n:Nat}{f:Nat→List SV}(h:BK [] W p (.lst s n f)):BK G W p (.lst s n f):=h
end
end Go.Proofs.YtbbdanhpphlbpaaGreatDoor.Mc
namespace Go.Proofs.YtbbdanhpphlbpaaGreatDoor.Mc
open Go.RowKit
set_option simprocs false
theorem pE {cs cs':List Ak}(hl:cs'.length=cs.length)(he:∀k,k<cs.length→(cs'.getD k Ak.z).l=(cs.getD k Ak.z).l):∀k,(cs'.getD k Ak.z).l=(cs.getD k Ak.z).l:=fun k=>by
 by_cases hk:k<cs.length
 ·exact he k hk
 ·rw [α6,α6,γ4 (by omega),γ4 (by omega)]
theorem pF {cs cs':List Ak}(hl:cs'.length=cs.length)(he:∀k,k<cs.length→(cs'.getD k Ak.z).l=(cs.getD k Ak.z).l):cs'.map (·.l)=cs.map (·.l):=by
 refine τ7 (by simp [hl]) fun k h1 h2=>?_
 rw [δ2]at h1 h2
 have:=he k h2
 rw [α6,α6,β0 h1,β0 h2]at this
 simpa using this
theorem Wl {c d:Ak}(h:c.l=d.l):GR c=GR d:=by unfold GR;rw [h]
theorem aT {cs cs':List Ak}(h:cs'.map (·.l)=cs.map (·.l))(p:In→Bool):IZ p cs'=IZ p cs:=by
 unfold IZ
 have e:∀x:List Ak,(x.map fun c=>Fc p c.l)=(x.map (·.l)).map (Fc p):=fun x=>by rw [υ3];rfl
 rw [e,e,h]
theorem pG {cs cs':List Ak}(hl:cs'.length=cs.length)(he:∀k,k<cs.length→(cs'.getD k Ak.z).l=(cs.getD k Ak.z).l)(h:M2 cs=0):M2 cs'=0:=by
 have hA:=pE hl he
 have hm:=pF hl he
 have e1:IX cs'=IX cs:=by unfold IX;rw [hl];congr 1;funext k;rw [hA k]
 have e2:JM cs'=JM cs:=by unfold JM;rw [hl];congr 1;funext k;rw [Wl (hA k)]
 have e3:Ia cs'=Ia cs:=by unfold Ia;rw [aT hm,aT hm]
 unfold M2 at h⊢
 rw [hl,e1,e2,e3]
 revert h
 split
 ·exact id
 ·split
  ·exact id
  ·split
   ·next k _=>rw [Wl (hA k),hA k];exact id
   ·exact id
structure VP (cs cs2:List Ak)(z:List Tr)(ra:Option Addr)(nn mx N:Nat)(v:Nat×List Th×List Tr×Rg)(w:World)(ks:List Nat):Prop where
 le:v.1≤mx
 ok:BR cs2 v.2.1 nn
 rd:RD cs v.2.1 v.2.2.1 z ra nn N w ks
 mr:∀k,k<3→inr (v.2.2.2 k)
theorem Ok.le {cs:List Ak}{N N':Nat}{w:World}{ks:List Nat}(h:Ok cs N w ks)(hn:N'≤N):Ok cs N' w ks:=fun ks' hk=>h ks' fun b hb=>(hk b hb).elim (fun q=>.inl (by omega)) .inr
theorem pH {a b:Int}(h:(!(a==0)||decide (b>60))=false):a=0∧b≤60:=by
 simp at h;omega
theorem pI {cs cs2:List Ak}{ts:List Th}{th:Int}{m:Rg}(he:(cs2.getD th.toNat Ak.z).l=(cs.getD th.toNat Ak.z).l):CR cs ts th (Iz m (ts.getD th.toNat Th.z).r ((cs.getD th.toNat Ak.z).l.getD ((((ts.getD th.toNat Th.z).at_:Nat):Int)).toNat In.z))=CR cs2 ts th (Iz m (ts.getD th.toNat Th.z).r ((cs2.getD th.toNat Ak.z).l.getD ((((ts.getD th.toNat Th.z).at_:Nat):Int)).toNat In.z)):=by
 unfold CR;rw [he]
theorem RD.as {cs:List Ak}{ts ts':List Th}{tr z:List Tr}{ra:Option Addr}{nn N:Nat}{w:World}{ks:List Nat}(h:RD cs ts tr z ra nn N w ks)(e:ts=ts'):RD cs ts' tr z ra nn N w ks:=e▸h
theorem RD.take {cs:List Ak}{ts:List Th}{tr z:List Tr}{ra:Option Addr}{nn N:Nat}{w:World}{H:Hp}{G:Gr}(k:Nat)(h:RD cs ts tr z ra nn N w (keys H G)):RD cs ts tr z ra nn N w (keys (H.take k) (G.take k)):=RD.ok _ _ _ _ h (DO.refl _ _) (fun b hb=>.inl (by
 obtain⟨i,e,L,h1,h2,h3,h4⟩:=mem_keys.1 hb
 rw [σ5]at h1 h3
 split at h1
 ·next hi=>rw [if_pos hi]at h3;exact mem_keys.2 ⟨i,e,L,h1,h2,h3,h4⟩
 ·cases h1))
theorem aU {cs:List Ak}{ts:List Th}{nn:Nat}(hC:BR cs ts nn){q:Int}(hq:0≤q∧q<(((Ce cs ts nn).length:Nat):Int)):∃t:Nat,t<nn∧(Ce cs ts nn).getD q.toNat (0,0,0)=(2,(t:Int),((ts.getD t Th.z).at_:Int))∧(ts.getD t Th.z).at_<(cs.getD t Ak.z).l.length:=by
 obtain⟨t,h1,h2,h3⟩:=VA (cs:=cs) (ts:=ts) (n:=nn) (k:=q.toNat) (by omega)
 have:=hC.a t (by have:=hC.m;omega)
 exact⟨t,h1,h2,by omega⟩
end Go.Proofs.YtbbdanhpphlbpaaGreatDoor.Mc
namespace Go.Proofs.YtbbdanhpphlbpaaGreatDoor.Mc
open Go.ChangeShapes Go.WideShapes Go.ChangeAt Go.RowKit Go.Deep
def j8 (a:Int):List Value:=[.int .i64 a]
section
variable {H:Type}{enc:TypeId×Value→H}{W:World}{base:Nat}{spare:Nat→Bool}{held:Bool}{base':Nat}
theorem Wm (cs:List Value)(n:Nat)(x:DataW H×List MemPlace)(h:DataW.trod enc Tryz.prog W base' spare held n 3 cs=some x)(hl:cs.length=1):∃y:Int,cs=j8 y∧True:=by
 obtain⟨m,h2,_,_⟩:=υ7 Tryz.underlying3 h
 exact⟨m,h2,trivial⟩
theorem Wn {t e n cap:Nat}{ao:Option Addr}(ht:Tryz.prog.underlying t=some (.slice e))(hv:Value.okWide Tryz.prog W .any base t (.slice ao n cap)):∃bo:BO,ao=IW bo:=by
 cases ao with
 |none=>exact⟨none,rfl⟩
 |some a=>
  unfold Value.okWide at hv
  rw [ht]at hv
  simp only [Cell.okWide,ht,Cell.ok]at hv
  obtain⟨b,o,s⟩:=a
  have:s=none:=hv.2.2.2.1
  subst this
  exact⟨some (b,o),rfl⟩
theorem MW {v:Value}{d:DataW H}{ps:List MemPlace}(hv:Value.okWide Tryz.prog W .any base 29 v)(h:DataW.Trod enc Tryz.prog W base' spare held 29 v d ps)(AP:(d.weights Tryz.prog 29).all (·≤reachBytes)=true):∃(bo:BO) (l:List Int) (cap:Nat),v=.slice (IW bo) l.length cap∧l.length*8≤reachBytes∧Sl j8 1 W.heap.size W (.slice (IW bo) l.length cap) l:=by
 obtain⟨fuel,hf⟩:=h
 obtain⟨ao,l,cap,h1,h2,h3,_⟩:=GJ (α:=Int) (en:=j8) (Q:=fun _=>True) (t:=29) (e:=3) (s:=1) (by kernel_rfl) (by kernel_rfl) (by omega) (fun cs n x h hl _=>Wm cs n x h hl) hf AP
 rw [show Tryz.prog.bytesOf 3=8 by kernel_rfl]at h2
 have hu:Tryz.prog.underlying 29=some (.slice 3):=by kernel_rfl
 obtain⟨a0,len0,cap0,rfl⟩:=okWide_slice hu hv
 simp [Value.cells]at h1
 obtain⟨rfl,rfl,rfl⟩:=h1
 obtain⟨bo,rfl⟩:=Wn (t:=29) (e:=3) hu hv
 exact⟨bo,l,_,rfl,h2.2,h3⟩
end
theorem R4 {bo:BO}{n cap:Nat}{w:World}{l:List Int}(h:Sl j8 1 w.heap.size w (.slice (IW bo) n cap) l):n=l.length∧∀(G F:Gr),den (G++Eg bo::F) (.sl G.length l.length cap)=some (.slice (IW bo) n cap)∧BK (G++Eg bo::F) w (Eg bo) (.lst 1 l.length (fun j=>[.int .i64 (l.getD j 0)])):=P9 (f:=fun j=>[.int .i64 (l.getD j 0)]) h (β7 _) (fun k x hx=>by show Al [] [SV.int .i64 (l.getD k 0)]=_;rw [α6,hx];rfl) (fun k=>⟨_,rfl⟩)
end Go.Proofs.YtbbdanhpphlbpaaGreatDoor.Mc
namespace Go.Proofs.YtbbdanhpphlbpaaGreatDoor.Mc
open Go.RowKit
section
variable {W:World}{y:Ts}
theorem Wo (h:∀i:Nat,i<64→W.cell? ⟨3,i,none⟩=some (.int .u8 (U0.getD i 0))):∃o,W.heap[3]?=some o∧∀w:World,w.heap[3]?=some o→∀i:Nat,i<64→w.cell? ⟨3,i,none⟩=some (.int .u8 (U0.getD i 0)):=by
 obtain⟨o,k,_⟩:=Iu (h 0 (by decide))
 refine⟨o,k,fun w hw i hi=>?_⟩
 obtain⟨o',k',c'⟩:=Iu (h i hi)
 cases k.symm.trans k'
 exact c' w hw
theorem Y4 {w:World}{ks:List Nat}{o:Obj}(h:w.heap[3]?=some o)(hk:ks.contains 3=false)(hc:∀i:Nat,i<64→w.cell? ⟨3,i,none⟩=some (.int .u8 (U0.getD i 0))):JP w ks:=by
 have Bn:3<w.heap.size:=(ε3.1 h).1
 refine⟨fun k=>⟨_,rfl⟩,.inr ⟨3,0,rfl,Bn,hk,fun k EC=>⟨[.int .u8 (U0.getD k 0)],rfl,fun q v hq=>?_⟩⟩⟩
 match q,hq with
 |0,hq=>
  simp only [ν1,β2]at hq
  subst hq
  have:=hc k EC
  simpa using this
 |q+1,hq=>simp at hq
theorem Tj {f:Nat} {x:SV} {v:Value} {ex:List SV} {Hx:Hp} {Gx:Gr} {vx:List Value} (hx:∀G:Gr,den G x=some v) (hO:O7 W y) (hT0:Lib.TabIs Tryz.prog W "internal/strconv.uint64pow10" .u64 Lib.pow10Tab) (m0:Int) (hm:W.cell? ⟨0,0,none⟩=some (.int .i64 m0)) (ev:Value) (he:W.cell? ⟨4,0,none⟩=some ev) (Ac:ev=.nilIface∨∃te pe,ev=.iface te pe)
  (Ad:∀i:Nat,i<64→W.cell? ⟨3,i,none⟩=some (.int .u8 (U0.getD i 0))) (hlen:Hx.length=Gx.length) (zR:∀(i:Nat) (e:Bo),Hx[i]?=some (some e)→∃s n f,e=.lst s n f∧BK [] W ((Gx[i]?).getD none) (.lst s n f)) (hdx:Al (Nt y++Gx) ex=some vx)
  (h:∀(os:List (Nat×Obj)) (hM:∀w ks,Gl os w ks→∃m,w.cell? ⟨0,0,none⟩=some (.int .i64 m)) (hT:∀w ks,Gl os w ks→Lib.TabIs Tryz.prog w "internal/strconv.uint64pow10" .u64 Lib.pow10Tab) (hE:∀w ks,Gl os w ks→∃ev,w.cell? ⟨4,0,none⟩=some ev∧(ev=.nilIface∨∃te pe,ev=.iface te pe)) (hD:∀w ks,Gl os w ks→JP w ks),CE (GC os y.cs) Tryz.prog f (pC y::ex) (QN y++Hx) (Rt x (QN y++Hx))):Calls Tryz.prog f (.agg (aQ y).toArray::vx).toArray W fun e W'=>e=.returned v∧CI W W':=by
 have Ma:(QN y).length=(Nt y).length:=rfl
 have SG:∀(i:Nat) (e:Bo),(QN y++Hx)[i]?=some (some e)→e.mut=false:=fun i e hi=>by
  by_cases q:i<(QN y).length
  ·rw [α1 q]at hi;exact Wi i e hi
  ·rw [α2 (by omega)]at hi
   obtain⟨s,n,f,rfl,_⟩:=zR _ e hi
   rfl
 have xY:Mem (QN y++Hx) (Nt y++Gx) W:=by
  refine V7 (by rw [α4,α4,Ma,hlen]) fun i e hi=>⟨SG i e hi,?_⟩
  by_cases q:i<(QN y).length
  ·rw [α1 q]at hi
   rw [α1 (by omega)]
   have:=((gT hO).ent i e hi).more Gx
   exact this
  ·rw [α2 (by omega)]at hi
   rw [α2 (by omega),←Ma]
   obtain⟨s,n,f,rfl,h2⟩:=zR _ e hi
   exact pD h2
 obtain⟨g5,o5,k5,c5⟩:=Y3 hT0
 obtain⟨o3,k3,c3⟩:=Wo Ad
 obtain⟨o0,k0,c0⟩:=Iu hm
 obtain⟨o1,k1,c1⟩:=Iu he
 have hk:∀k,(keys (QN y++Hx) (Nt y++Gx)).contains k=false:=fun k=>Zj SG k
 have xJ:∀k,(keys (QN y) (Nt y)).contains k=false:=fun k=>Zj Wi k
 have hG:Gl [(0,o0),(4,o1),(g5,o5),(3,o3)] W (keys (QN y++Hx) (Nt y++Gx)):=fun p hp=>by
  simp only [ζ9,υ1,μ9]at hp
  rcases hp with rfl|rfl|rfl|rfl
  ·exact⟨k0,hk _⟩
  ·exact⟨k1,hk _⟩
  ·exact⟨k5,hk _⟩
  ·exact⟨k3,hk _⟩
 have jP:An y.cs W (keys (QN y++Hx) (Nt y++Gx)):=An.ok _ _ _ _ (Wj hO xJ) (DO.refl _ _) (fun b hb=>by rw [hk b]at hb;cases hb)
 have hf:=h [(0,o0),(4,o1),(g5,o5),(3,o3)] (fun w ks hg=>⟨m0,c0 w (hg (0,o0) (by simp)).1⟩) (fun w ks hg=>c5 w (hg (g5,o5) (by simp)).1) (fun w ks hg=>⟨ev,c1 w (hg (4,o1) (by simp)).1,Ac⟩) (fun w ks hg=>Y4 (hg (3,o3) (by simp)).1 (hg (3,o3) (by simp)).2 (c3 w (hg (3,o3) (by simp)).1))
 have IB:Al (Nt y++Gx) (pC y::ex)=some (.agg (aQ y).toArray::vx):=by
  have h1:=BT Gx [pC y] (gU hO)
  obtain⟨v1,ws,e1,e2,e3⟩:=Bg h1
  cases e2
  cases e3
  exact Bb e1 hdx
 refine ν6 (hf.2 (Nt y++Gx) W _ xY ⟨hG,jP⟩ IB) fun e W' hp=>?_
 obtain⟨v',F,h1,h2,_,h4⟩:=Yg hp SG
 rw [hx]at h1
 cases h1
 exact⟨h2,h4⟩
end
end Go.Proofs.YtbbdanhpphlbpaaGreatDoor.Mc
namespace Go.Proofs.YtbbdanhpphlbpaaGreatDoor
open Go.RowKit
def Wp (q t:Nat)(G:Gr):Prop:=∃L,G[q]?=some (some L)∧L.t=t
theorem Wp.pre {q t:Nat}{G0 G:Gr}(h:Wp q t G0)(hp:∃F,G=G0++F):Wp q t G:=by
 obtain⟨L,h1,h2⟩:=h
 obtain⟨F,rfl⟩:=hp
 exact⟨L,by rw [α1 (α0.1 h1).1];exact h1,h2⟩
abbrev MX (l:List UInt8):Nat→List SV:=fun j=>[.int .u8 ((((l.getD j 0).toNat:Nat)):Int)]
theorem KK (l:List UInt8):∀k,∃vs,Al [] (MX l k)=some vs∧vs.length=1:=fun k=>⟨_,rfl,rfl⟩
theorem R5 (l:List UInt8):CX (MX l) l.length=some (Lib.byteCells l):=by
 have h:∀n,n≤l.length→CX (MX l) n=some (Lib.byteCells (l.take n)):=by
  intro n hn
  induction n with
  |zero=>simp [CX,Lib.byteCells]
  | succ n ih=>
   unfold CX
   rw [ih (by omega)]
   have e:l.take (n+1)=l.take n++[l.getD n 0]:=by
    rw [ξ9,α6,β0 (by omega)];rfl
   rw [e]
   simp [Al,den,Lib.byteCells,MX]
 have:=h l.length (β7 _)
 rwa [π6]at this
section
variable {P:Program}{X:Tx}{Y:Tb}{n:Nat}{ks:List Nat}{G0:Gr}{w0:World}{T:List (Nat×SV)}{H:Hp}{G:Gr}{a:Act}{w w':World}{Q:Exit→Act→World→Prop}{K:List Fr}{pos:Pos}{ops:Array Oper}{o:Oper}{rest:List Oper}
theorem vP {t:Nat} {cs:List SV} (hX:X.ok P=true) (A:Sy n T H ks G0 w0 G a w) (h:Tv X T H none o.op=some (.new t (.blk cs) (.ptr H.length 0))) (hg:BE ops T o.guard=some .run) (hd:DD n o.dst=true)
  (k:∀{G a w},Wp H.length t G→Sy n (Bh T o.dst (.ptr H.length 0)) (H++[some (.blk cs)]) ks G0 w0 G a w→Goal P Q K (.ops ops rest) a w):Goal P Q K (.ops ops (o::rest)) a w:=by
 refine Cm (Q:=Fz P Q K) ?_
 refine IM hX A h (BQ (gd:=none) A hg) fun g w' v wV SD SE QY hv=>?_
 have LN:(G++[some (⟨g,[],[],t⟩:Loc)])[H.length]?=some (some ⟨g,[],[],t⟩):=by rw [α2 (by rw [A.mem.len];exact β7 _),A.mem.len];simp
 exact k ⟨_,LN,rfl⟩ (Sy.put (A.newBlk wV SD SE QY) hd hv)
theorem Sy.rowMoveB (A:Sy n T H ks G0 w0 G a w) {i e s m c m' c':Nat} {f f':Nat→List SV} {xs':List Value} {p':Option Loc} (hi:H[i]?=some (some (.row e s m c f))) (DN:DO ks w0 w') (rH:∀(j:Nat) (x:Bo),j≠i→H[j]?=some (some x)→BK G w' ((G[j]?).getD none) x)
  (EA:w'.ownsRow 0 e s (.slice (p'.map fun L=>⟨L.b,L.pre.length,none⟩) m' (c'+rm p')) m' xs') (AM:∀L,p'=some L→L.pre=[]) (iX:∀L,p'=some L→w0.heap.size≤L.b) (rI:∀(j:Nat) (x:Bo) (M L:Loc),j≠i→H[j]?=some (some x)→G[j]?=some (some M)→¬x.empty→p'=some L→M.b≠L.b)
  (hf:CX f' m'=some xs') (CD:∀k,∃vs,Al [] (f' k)=some vs∧vs.length=s):Sy n T (Cd H i none++[some (.row e s m' c' f')]) ks G0 w0 (G++[p']) a w':=by
 have hlen:=A.mem.len
 have G6:i<H.length:=(α0.1 hi).1
 have Qa:(Cd H i none).length=H.length:=by rw [BJ];simp
 have hold:∀(j:Nat) (x:Bo),(Cd H i none++[some (.row e s m' c' f')])[j]?=some (some x)→(j≠i∧H[j]?=some (some x)∧j<H.length)∨(j=H.length∧x=.row e s m' c' f'):=by
  intro j x h
  by_cases hj:j<H.length
  ·rw [α1 (by omega),BJ]at h
   by_cases Fu:j=i
   ·subst Fu;rw [γ7 G6]at h;cases h
   ·rw [γ0 (ζ1 Fu)]at h;exact .inl ⟨Fu,h,hj⟩
  ·rw [α2 (by omega),Qa]at h
   have:j - H.length=0:=by
    cases hq:j - H.length with
    |zero=>rfl
    |succ k=>rw [hq]at h;simp at h
   rw [this]at h
   simp at h
   exact .inr ⟨by omega,h.symm⟩
 have hG:∀j,j<H.length→(G++[p'])[j]?=G[j]?:=fun j hj=>α1 (by omega)
 have ZH:(G++[p'])[H.length]?=some p':=by rw [α2 (by omega),hlen];simp
 refine⟨A.size,A.defers,fun t x hx=>BF _ x (A.get t x hx),⟨by simp [Qa,hlen],?_,?_⟩,?_,?_,DN⟩
 ·intro j x h
  rcases hold j x h with⟨h1,h2,h3⟩|⟨rfl,rfl⟩
  ·rw [hG j h3];exact(rH j x h1 h2).more _
  ·rw [ZH];exact⟨CD,AM,xs',hf,EA⟩
 ·intro j k x y L M HY h1 h2 h3 h4 h5 h6
  rcases hold j x h1 with⟨a1,a2,a3⟩|⟨rfl,rfl⟩
  ·rw [hG j a3]at h4
   rcases hold k y h2 with⟨b1,b2,b3⟩|⟨rfl,rfl⟩
   ·rw [hG k b3]at h5;exact A.mem.sep j k x y L M HY a2 b2 h3 h4 h5 h6
   ·rw [ZH]at h5
    cases h5
    exact rI j x L M a1 a2 h4 (Bf h3) rfl
  ·rw [ZH]at h4
   cases h4
   rcases hold k y h2 with⟨b1,b2,b3⟩|⟨rfl,rfl⟩
   ·rw [hG k b3]at h5
    exact fun z=>rI k y M L b1 b2 h5 h6 rfl z.symm
   ·exact absurd rfl HY
 ·obtain⟨F,hF⟩:=A.pre;exact⟨F++[p'],by rw [hF,γ2]⟩
 ·intro j x L h1 h2 h3
  rcases hold j x h1 with⟨a1,a2,a3⟩|⟨rfl,rfl⟩
  ·rw [hG j a3]at h3;exact A.own j x L a2 h2 h3
  ·rw [ZH]at h3;cases h3;exact .inr (iX L rfl)
theorem gV {f i m u:Nat} {x:Int} {l dl:List UInt8} (Ca:F3 P f=some (false,false)) (A:Sy n T H ks G0 w0 G a w)
  (rJ:∀(sv:Value) (xs:List Value),w.ownsRow w0.heap.size u 1 sv m xs→Calls P f #[sv,.int .i64 x,.int .i64 10] w fun e w'=>∃v',e=.returned v'∧w'.ownsRow w0.heap.size u 1 v' (m+dl.length) (xs++Lib.byteCells dl)∧Below w0.heap.size w w'∧Lib.OthersKept u none w w')
  (h1:B6 n ops T o=some (f,[.sl i m 0,.int .i64 x,.int .i64 10])) (hi:lg H i=some (some (.row u 1 m 0 (MX l)))) (hm:m=l.length) (Tq:∀b,ks.contains b=true→b<w0.heap.size) (Df:∀L,G[i]?=some (some L)→w0.heap.size≤L.b)
  (rK:∀(j:Nat) (y:Bo) (M:Loc),j≠i→H[j]?=some (some y)→G[j]?=some (some M)→M.b<w0.heap.size∨((∃cs,y=.blk cs)∧M.t≠u))
  (k:∀{G' a w},(∃F,G'=G++F)→Sy n (Bh T o.dst (.sl H.length (m+dl.length) 0)) (Cd H i none++[some (.row u 1 (m+dl.length) 0 (MX (l++dl)))]) ks G0 w0 G' a w→Goal P Q K (.ops ops rest) a w):Goal P Q K (.ops ops (o::rest)) a w:=by
 subst hm
 obtain⟨hd,us,hu,I2⟩:=Ci (P:=P) (ops:=ops) A h1 Ca
 rw [BI]at hi
 obtain⟨r1,r2,xs,r3,r4⟩:=A.mem.ent i _ hi
 obtain⟨q,hq⟩:∃q,G[i]?=some q:=by
  have:i<G.length:=by rw [←A.mem.len];exact(α0.1 hi).1
  exact⟨G[i],by simp [this]⟩
 rw [hq]at r2 r4
 simp only [γ8]at r2 r4
 rw [R5]at r3
 cases r3
 have Y9:us=[.slice (q.map fun L=>⟨L.b,L.pre.length,none⟩) l.length (0+rm q),.int .i64 x,.int .i64 10]:=by
  have:Al G [.sl i l.length 0,.int .i64 x,.int .i64 10]=some [.slice (q.map fun L=>⟨L.b,L.pre.length,none⟩) l.length (0+rm q),.int .i64 x,.int .i64 10]:=by
   refine Bb ?_ rfl
   unfold den
   rw [hq]
  rw [this]at hu
  exact(β6 hu).symm
 subst Y9
 have EA:w.ownsRow w0.heap.size u 1 (.slice (q.map fun L=>⟨L.b,L.pre.length,none⟩) l.length (0+rm q)) l.length (Lib.byteCells l):=by
  refine⟨r4.1,?_⟩
  rcases r4.2 with h|⟨g,cap,cur,e1,_,e3⟩
  ·exact .inl h
  ·refine .inr ⟨g,cap,cur,e1,?_,e3⟩
   cases q with
   |none=>cases e1
   | some L=>
    have hb:L.b=g:=by
     simp only [δ4,ι2,β2,κ9]at e1
     exact e1.1.1
    rw [←hb];exact Df L hq
 refine Cm (Q:=Fz P Q K) (I2 (rJ _ _ EA) fun e w' he=>?_)
 obtain⟨v',rfl,Md,XJ,AW⟩:=he
 let ks5:List Nat:=(List.range w.heap.size).filter fun k=>decide (w0.heap.size≤k)&&(match w.heap[k]? with|some (.cells _ e _)=>e==u|_=>false)
 have T5:DO ks5 w w':=⟨XJ.os,XJ.tape,XJ.output,XJ.size,fun k hk hc=>by
  by_cases hkB:k<w0.heap.size
  ·exact XJ.block k hkB
  ·cases ho:w.heap[k]? with
   |none=>rw [Array.getElem?_eq_none_iff]at ho;omega
   | some ob=>
    refine AW k ob ho (by simp) fun c fz e=>?_
    subst e
    have:ks5.contains k=true:=by
     simp only [ks5,ε5,ι7,ε8]
     refine⟨hk,?_⟩
     rw [ho]
     simp
     omega
    rw [this]at hc;cases hc⟩
 have T4:∀(j:Nat) (y:Bo) (M:Loc),j≠i→H[j]?=some (some y)→G[j]?=some (some M)→ks5.contains M.b=false:=fun j y M hj hy hM=>by
  cases hc:ks5.contains M.b with
  |false=>rfl
  | true=>
   simp only [ks5,ε5,ι7,ε8,α3,δ5]at hc
   rcases rK j y M hj hy hM with h|⟨⟨cs,rfl⟩,ht⟩
   ·omega
   ·obtain⟨L,vs,p1,p2,p3⟩:=A.mem.ent j _ hy
    rw [hM]at p1
    simp only [γ8,β2]at p1
    subst p1
    have p3':w.heap[M.b]?=some (.cells (M.pre++vs++M.post).toArray M.t (0,0)):=p3
    rw [p3']at hc
    simp at hc
    exact absurd hc.2.2 ht
 have hB:∀(p:Option Loc),(∀L,p=some L→L.pre=[])→w'.ownsRow w0.heap.size u 1 (.slice (p.map fun L=>⟨L.b,L.pre.length,none⟩) (l.length+dl.length) (0+rm p)) (l.length+dl.length) (Lib.byteCells l++Lib.byteCells dl)→∀L,p=some L→w0.heap.size≤L.b∧∃cur,w'.heap[L.b]?=some (.cells cur u (0,0)):=fun p _ h L hL=>by
  subst hL
  rcases h.2 with⟨e1,_⟩|⟨g,cap,cur,e1,e2,e3,_⟩
  ·cases e1
  ·have hb:L.b=g:=by
    simp only [δ4,ι2,β2,κ9]at e1
    exact e1.1.1
   rw [hb];exact⟨e2,cur,e3⟩
 obtain⟨p',o1,o2,o3⟩:=HA (w:=w') (e:=u) (s:=1) (n:=l.length+dl.length) (v:=v') (xs:=Lib.byteCells l++Lib.byteCells dl) ⟨Md.1,by
  rcases Md.2 with h|⟨g,cap,cur,e1,e2,e3⟩
  ·exact .inl h
  ·exact .inr ⟨g,cap,cur,e1,β8 _,e3⟩⟩
 rw [o1]at Md
 have bD:=hB p' o2 Md
 have Mb:CX (MX (l++dl)) (l.length+dl.length)=some (Lib.byteCells l++Lib.byteCells dl):=by
  have:=R5 (l++dl)
  rw [α4]at this
  rw [this]
  simp [Lib.byteCells]
 have A2:=A.rowMoveB (w':=w') (p':=p') (m':=l.length+dl.length) (c':=0) (f':=MX (l++dl)) hi (A.mix.mix T5 fun b hb hc=>by
   cases hz:ks5.contains b with
   |false=>rfl
   |true=>
    simp only [ks5,ε5,ι7,ε8,α3,δ5]at hz
    omega)
  (fun j y hj hy=>(A.mem.ent j y hy).mix T5 fun _ M hM=>T4 j y M hj hy (DS hM))
  ⟨Md.1,by
   rcases Md.2 with h|⟨g,cap,cur,e1,e2,e3⟩
   ·exact .inl h
   ·exact .inr ⟨g,cap,cur,e1,β8 _,e3⟩⟩ o2 (fun L hL=>(bD L hL).1)
  (fun j y M L hj hy hM Ch hL qU=>by
   obtain⟨h3,cur,h4⟩:=bD L hL
   rcases rK j y M hj hy hM with h|⟨⟨cs,rfl⟩,ht⟩
   ·omega
   ·obtain⟨L2,vs,q1,q2,q3⟩:=(A.mem.ent j _ hy).mix T5 fun _ M hM=>T4 j _ M hj hy (DS hM)
    rw [hM]at q1
    simp only [γ8,β2]at q1
    subst q1
    have q3':w'.heap[M.b]?=some (.cells (M.pre++vs++M.post).toArray M.t (0,0)):=q3
    rw [qU,h4]at q3'
    simp at q3'
    exact ht q3'.2.symm) Mb (KK _)
 refine⟨v',rfl,k ⟨[p'],rfl⟩ (Sy.put A2 hd ?_)⟩
 unfold den
 rw [α2 (by rw [A.mem.len];exact β7 _),A.mem.len]
 simp [o1]
theorem Wq {x:Operand}{s t e i m u:Nat}{l:List UInt8}(hg:BE ops T o.guard=some .run)(CJ:o.op=.convert s t x)(hx:Db T x=some (.sl i m 0))(hH:lg H i=some (some (.row u 1 m 0 (MX l))))(hm:m=l.length)(h0:0<m)(hs:P.underlying s=some (.slice e))(he:P.underlying e=some (.int .u8))(ht:P.underlying t=some .string):Bd P n ops ks G0 w0 T H o (.str l) H:=fun G a w A=>by
 have hw:=BQ (gd:=none) A hg
 obtain⟨ds,op,ty,ps,af,gd⟩:=o
 simp only at CJ
 subst CJ
 subst hm
 have h1:=A.ev hx
 rw [BI]at hH
 have Ca:=A.mem.ent i _ hH
 obtain⟨L,_,q1,_⟩:=DP Ca (k:=0) h0
 have Fq:G[i]?=some (some L):=by
  cases hq:G[i]? with
  |none=>rw [hq]at q1;cases q1
  |some p=>rw [hq]at q1;simp only [γ8]at q1;rw [q1]
 unfold den at h1
 rw [Fq]at h1
 have h1:=(β6 h1).symm
 have FL:(S l).size=l.length:=DV l
 refine A6 (w':=w) hw ?_ ⟨[],rfl,by rw [ε9];exact A.ms⟩
 have hr:=Lib.run_convert_whole (P:=P) w s e t hs he ht L.b L.pre.length (S l) (fun k hk=>by
  rw [FL]at hk
  obtain⟨L',vs,r1,r2,_,r4⟩:=DP Ca (k:=k) hk
  rw [q1]at r1
  cases r1
  cases r2
  have:=r4 0 _ rfl
  rw [Nat.mul_one,θ8]at this
  rw [this]
  rw [α6,β0 hk]
  rfl) (0+rm (some L))
 rw [FL]at hr
 unfold execOp
 simp only [δ4]at h1
 simp only [h1,γ3,hr,β1,γ6]
end
end Go.Proofs.YtbbdanhpphlbpaaGreatDoor
namespace Go.Proofs.YtbbdanhpphlbpaaGreatDoor
open Go.Shelf Go.RowKit
def Nh:Go.Shelf.Ren:=⟨fun|129=>241|176=>103|249=>137|283=>210|284=>211|285=>212|286=>213|288=>177|317=>240|318=>242|319=>243|320=>179|337=>214|338=>215|n=>n,fun|0=>0|2=>2|3=>3|4=>4|5=>5|9=>9|20=>20|37=>152|46=>188|51=>226|53=>185|171=>220|173=>223|212=>260|213=>261|232=>262|233=>263|n=>n,fun|17=>1|18=>2|19=>3|n=>n⟩
theorem Wr:Go.Proofs.LaysM.n176 Tryz.prog Nh:={
 mixed:=by kernel_rfl
 f129:=Tryz.func241.trans (congrArg some (by kernel_rfl))
 f176:=Tryz.func103.trans (congrArg some (by kernel_rfl))
 f249:=Tryz.func137.trans (congrArg some (by kernel_rfl))
 f283:=Tryz.func210.trans (congrArg some (by kernel_rfl))
 f284:=Tryz.func211.trans (congrArg some (by kernel_rfl))
 f285:=Tryz.func212.trans (congrArg some (by kernel_rfl))
 f286:=Tryz.func213.trans (congrArg some (by kernel_rfl))
 f288:=Tryz.func177.trans (congrArg some (by kernel_rfl))
 f317:=Tryz.func240.trans (congrArg some (by kernel_rfl))
 f318:=Tryz.func242.trans (congrArg some (by kernel_rfl))
 f319:=Tryz.func243.trans (congrArg some (by kernel_rfl))
 f320:=Tryz.func179.trans (congrArg some (by kernel_rfl))
 f337:=Tryz.func214.trans (congrArg some (by kernel_rfl))
 f338:=Tryz.func215.trans (congrArg some (by kernel_rfl))
 t0:=Tryz.underlying0
 a0:=Tryz.isAgg0
 z0:=Tryz.sizeOf0
 v0:=Tryz.zeroValue0
 t2:=Tryz.underlying2
 a2:=Tryz.isAgg2
 z2:=Tryz.sizeOf2
 v2:=Tryz.zeroValue2
 t3:=Tryz.underlying3
 a3:=Tryz.isAgg3
 z3:=Tryz.sizeOf3
 v3:=Tryz.zeroValue3
 t4:=Tryz.underlying4
 a4:=Tryz.isAgg4
 z4:=Tryz.sizeOf4
 v4:=Tryz.zeroValue4
 t5:=Tryz.underlying5
 a5:=Tryz.isAgg5
 z5:=Tryz.sizeOf5
 v5:=Tryz.zeroValue5
 t9:=Tryz.underlying9
 a9:=Tryz.isAgg9
 z9:=Tryz.sizeOf9
 v9:=Tryz.zeroValue9
 t20:=Tryz.underlying20
 a20:=Tryz.isAgg20
 z20:=Tryz.sizeOf20
 v20:=Tryz.zeroValue20
 t37:=Tryz.underlying152
 a37:=Tryz.isAgg152
 z37:=Tryz.sizeOf152
 v37:=Tryz.zeroValue152
 t46:=Tryz.underlying188
 a46:=Tryz.isAgg188
 z46:=Tryz.sizeOf188
 v46:=Tryz.zeroValue188
 t51:=Tryz.underlying226
 a51:=Tryz.isAgg226
 z51:=Tryz.sizeOf226
 v51:=Tryz.zeroValue226
 t53:=Tryz.underlying185
 a53:=Tryz.isAgg185
 z53:=Tryz.sizeOf185
 v53:=Tryz.zeroValue185
 t171:=Tryz.underlying220
 a171:=Tryz.isAgg220
 z171:=Tryz.sizeOf220
 v171:=Tryz.zeroValue220
 t173:=Tryz.underlying223
 a173:=Tryz.isAgg223
 z173:=Tryz.sizeOf223
 v173:=Tryz.zeroValue223
 t212:=Tryz.underlying260
 a212:=Tryz.isAgg260
 z212:=Tryz.sizeOf260
 v212:=Tryz.zeroValue260
 t213:=Tryz.underlying261
 a213:=Tryz.isAgg261
 z213:=Tryz.sizeOf261
 t232:=Tryz.underlying262
 a232:=Tryz.isAgg262
 z232:=Tryz.sizeOf262
 v232:=Tryz.zeroValue262
 t233:=Tryz.underlying263
 a233:=Tryz.isAgg263
 z233:=Tryz.sizeOf263
 v233:=Tryz.zeroValue263
 g17:=by kernel_rfl
 g18:=by kernel_rfl
 g19:=by kernel_rfl
 i0:=by kernel_rfl
 i2:=by kernel_rfl
 i3:=by kernel_rfl
 i4:=by kernel_rfl
 i5:=by kernel_rfl
 i9:=by kernel_rfl
 i20:=by kernel_rfl
 i37:=by kernel_rfl
 i46:=by kernel_rfl
 i51:=by kernel_rfl
 i53:=by kernel_rfl
 i171:=by kernel_rfl
 i173:=by kernel_rfl
 i212:=by kernel_rfl
 i232:=by kernel_rfl
 i233:=by kernel_rfl
 m17:=by kernel_rfl
 m18:=by kernel_rfl
 m19:=by kernel_rfl}
theorem LI (B n:Nat)(i:Int)(h0: -9223372036854775808≤i)(h1:i≤9223372036854775807)(sv:Value)(xs:List Value)(w:World)(EA:w.ownsRow B 5 1 sv n xs)(hBw:B≤w.heap.size)(xZ:n+21≤140737488355328)(J4:Lib.TabBelow Tryz.prog B w "internal/strconv.uint64pow10" .u64 Lib.pow10Tab):Calls Tryz.prog 103 #[sv,.int .i64 i,.int .i64 10] w fun e w'=>∃v',e=.returned v'∧w'.ownsRow B 5 1 v' (n+(Lib.itoa i).length) (xs++Lib.byteCells (Lib.itoa i))∧Below B w w'∧Lib.OthersKept 5 none w w':=
 Any.strconv_AppendInt_10 Wr B n i h0 h1 sv xs w EA hBw xZ J4
end Go.Proofs.YtbbdanhpphlbpaaGreatDoor
namespace Go.Proofs.YtbbdanhpphlbpaaGreatDoor.Mc
open Go.RowKit
set_option simprocs false
def LJ (s:Th):Nat→List UInt8
 |0=>[]
 |k+1=>LJ s k++(32::Lib.itoa (s.r k))
def mk1 (s:Th):List UInt8:=Lib.itoa ((s.at_:Nat):Int)++LJ s 8++[59]
def Ei (ts:List Th):Nat→List UInt8
 |0=>[]
 |i+1=>Ei ts i++mk1 (ts.getD i Th.z)
def GK (s:Th):Prop:=∀k,k<8→ -9223372036854775808≤s.r k∧s.r k≤9223372036854775807
theorem Iv {s:Th}(h:GK s):∀k,k≤8→(LJ s k).length≤22*k
 |0,_=>β7 _
 |k+1,hk=>by
  have h1:=Iv h k (by omega)
  have h2:=Lib.itoa_length_le (s.r k) (h k (by omega)).1 (h k (by omega)).2
  show(LJ s k++(32::Lib.itoa (s.r k))).length≤_
  rw [α4,α5];omega
theorem Yk {P:Program}{w0 w:World}{name:String}{k:IntKind}{zs:List Int}(h0:Lib.TabIs P w0 name k zs)(h:Lib.TabIs P w name k zs):Lib.TabBelow P w0.heap.size w name k zs:=fun w' hb=>by
 unfold Lib.TabIs World.var? at*
 cases hg:P.globalNamed name with
 |none=>rw [hg]at h0;cases h0
 | some g=>
  simp only [hg,π5]at h h0⊢
  have Bn:g<w0.heap.size:=by
   rcases Nat.lt_or_ge g w0.heap.size with h'|h'
   ·exact h'
   ·rw [Array.getElem?_eq_none h']at h0;cases h0
  rw [hb.block g Bn]
  exact h
theorem O3 {q t u:Nat}{G:Gr}{M:Loc}(h:Wp q t G)(hM:G[q]?=some (some M))(Ch:t≠u):M.t≠u:=by
 obtain⟨L,h1,h2⟩:=h
 rw [hM]at h1;cases h1
 rw [h2];exact Ch
section
variable {n:Nat}{T:List (Nat×SV)}{H H0:Hp}{G0:Gr}{w0:World}{G:Gr}{a:Act}{w:World}
theorem gW (hM:Mem H0 G0 w0):∀b,(keys H0 G0).contains b=true→b<w0.heap.size:=fun b hb=>by
 obtain⟨i,e,L,q1,q2,q3,q4⟩:=mem_keys.1 hb
 have:=hM.ent i e q1
 rw [q3]at this
 rw [←q4];exact BK.lt this (Bf q2)
theorem QO {e:Bo}(A:Sy n T H (keys H0 G0) G0 w0 G a w)(j:Nat)(hm:Mem H0 G0 w0)(h0:H0[j]?=some (some e))(QY:e.mut=true){M:Loc}(hM:G[j]?=some (some M)):M.b<w0.heap.size:=by
 obtain⟨F,hF⟩:=A.pre
 have Bn:j<G0.length:=by rw [←hm.len];exact(α0.1 h0).1
 rw [hF,α1 Bn]at hM
 have:=hm.ent j e h0
 rw [hM]at this
 exact BK.lt this (Bf QY)
theorem gX (A:Sy n T H (keys H0 G0) G0 w0 G a w)(i:Nat){en:Bo}(hi:lg H i=some (some en))(QY:en.mut=true)(hk:∀(j:Nat) (e:Bo),H0[j]?=some (some e)→j≠i∧∃e',H[j]?=some (some e')∧¬e'.empty):∀L,G[i]?=some (some L)→w0.heap.size≤L.b:=fun L hL=>by
 rw [BI]at hi
 refine(A.own i en L hi QY hL).resolve_left fun hc=>?_
 obtain⟨j,e,M,q1,q2,q3,q4⟩:=mem_keys.1 hc
 obtain⟨hj,e',h1,h2⟩:=hk j e q1
 obtain⟨F,hF⟩:=A.pre
 have hM:G[j]?=some (some M):=by rw [hF,α1 (α0.1 q3).1];exact q3
 exact A.mem.sep i j en e' L M (ζ1 hj) hi h1 QY hL hM h2 q4.symm
end
theorem Ni {n:Nat}{T:List (Nat×SV)}{H:Hp}{ks:List Nat}{G0:Gr}{w0:World}{G:Gr}{a:Act}{w:World}(A:Sy n T H ks G0 w0 G a w)(q t:Nat){l l':List UInt8}{m:Nat}(e:l=l')(hi:lg H q=some (some (.row 5 1 m 0 (MX l))))(ht:look T t=some (.sl q m 0))(hm:m=l.length):Sy n ((t,.sl q l'.length 0)::T) (Cd H q (some (.row 5 1 l'.length 0 (MX l')))) ks G0 w0 G a w:=by
 subst e
 subst hm
 exact(A.rowAs q l.length (MX l) hi rfl (fun _ _=>rfl) (KK l)).say t (.sl q l.length 0) ht rfl
theorem rg8 {r:Rg}{k:Nat}(h:k<8):[r 0,r 1,r 2,r 3,r 4,r 5,r 6,r 7].getD ((k:Int)).toNat 0=r k:=by
 rw [β5]
 match k,h with
 |0,_=>rfl
 |1,_=>rfl
 |2,_=>rfl
 |3,_=>rfl
 |4,_=>rfl
 |5,_=>rfl
 |6,_=>rfl
 |7,_=>rfl
theorem Ws {l:List UInt8}{m:Nat}{b:UInt8}(h:m=l.length):(l++[b]).getD m 0=b:=by subst h;exact EH
theorem HR {ts:List Th}{nn:Nat}(hR:∀i,i<nn→GK (ts.getD i Th.z)∧(ts.getD i Th.z).at_≤1000):∀i,i≤nn→(Ei ts i).length≤220*i
 |0,_=>β7 _
 |i+1,hi=>by
  have h1:=HR hR i (by omega)
  obtain⟨h2,h3⟩:=hR i (by omega)
  have h4:=Iv h2 8 (β7 _)
  have h5:=Lib.itoa_length_le (((ts.getD i Th.z).at_:Nat):Int) (by omega) (by omega)
  show(Ei ts i++(Lib.itoa (((ts.getD i Th.z).at_:Nat):Int)++LJ (ts.getD i Th.z) 8++[59])).length≤_
  simp only [α4,α5,α7]
  omega
theorem Y5 {ts:List Th}:∀{i:Nat},0<i→0<(Ei ts i).length
 |i+1,_=>by
  show 0<(Ei ts i++(_++[59])).length
  simp only [α4,α5,α7]
  omega
theorem gY {s:Th}{a b:List UInt8}{k:Nat}:a++(b++LJ s k)++[32]++Lib.itoa (s.r k)=a++(b++LJ s (k+1)):=by
 show _=a++(b++(LJ s k++(32::Lib.itoa (s.r k))))
 simp [γ2]
theorem gZ {ts:List Th}{i k:Nat}(hk:k=8):Ei ts i++(Lib.itoa (((ts.getD ((i:Nat):Int).toNat Th.z).at_:Nat):Int)++LJ (ts.getD ((i:Nat):Int).toNat Th.z) k)++[59]=Ei ts (i+1):=by
 subst hk
 show _=Ei ts i++(Lib.itoa (((ts.getD i Th.z).at_:Nat):Int)++LJ (ts.getD i Th.z) 8++[59])
 rw [β5,γ2]
theorem hQ (cs:List Ak)(ts:List Th)(nn:Nat)(hR:∀i,i<nn→GK (ts.getD i Th.z)∧(ts.getD i Th.z).at_≤1000)(T9:0<nn)(h3n:nn≤3)(os:List (Nat×Obj))(hT:NU os):CE (Gl os) Tryz.prog 66 [.ptr 0 0] [some (.blk [.sl 1 nn 0]),some (Ay cs ts nn)] (Rt (.str (Ei ts nn)) [some (.blk [.sl 1 nn 0]),some (Ay cs ts nn)]):=
 BB (n:=39) (by kernel_rfl) Tryz.func66 rfl rfl rfl fun G w a h0 hI A=>have G7:=A.mem;N9 22 A rfl rfl fun A=>have A:=A.nilRow 3 5 1 (MX []) rfl (KK _);B7 (fun(i:Nat)=>[(2,.str []),(3,.sl 2 ((Ei ts i).length) 0),(11,.sl 1 nn 0),(12,.int .i64 ((nn:Nat):Int)),(13,.int .i64 (i:Int))]) (fun(i:Nat)=>[some (.blk [.sl 1 nn 0]),some (Ay cs ts nn),some (.row 5 1 ((Ei ts i).length) 0 (MX (Ei ts i)))]) (fun(i:Nat)=>i≤nn) (fun(i:Nat)=>nn - i) 0 (β8 _) ((A.cut [2,3,11,12,13] rfl).trunc 3 rfl rfl rfl (Cj h0 rfl)) fun i hJ {G a w} A=>N9 6 A rfl rfl fun A=>Aq 14 A rfl
   (fun h1 A=>N9 9 A rfl (Aj (by omega)<|Aj (by omega)<|Ah) fun A=>vP (X:=⟨_,true⟩) hX A rfl rfl rfl fun jN A=>have B:=A;have A:=B.base;N9 8 A rfl rfl fun A=>have jN:=jN.pre A.pre;have A:=B.trans A;gV (l:=Ei ts i) (dl:=Lib.itoa (((ts.getD (((i:Int)).toNat) Th.z).at_:Nat):Int)) (by kernel_rfl) A (fun sv xs ho=>LI _ _ _ (show -9223372036854775808≤(((ts.getD (i:Int).toNat Th.z).at_:Nat):Int)∧(((ts.getD (i:Int).toNat Th.z).at_:Nat):Int)≤9223372036854775807 from(by have hS:GK (ts.getD (i:Int).toNat Th.z)∧(ts.getD (i:Int).toNat Th.z).at_≤1000:=hR i (by omega);have:=hS.2;omega)).1 (show -9223372036854775808≤(((ts.getD (i:Int).toNat Th.z).at_:Nat):Int)∧(((ts.getD (i:Int).toNat Th.z).at_:Nat):Int)≤9223372036854775807 from(by have hS:GK (ts.getD (i:Int).toNat Th.z)∧(ts.getD (i:Int).toNat Th.z).at_≤1000:=hR i (by omega);have:=hS.2;omega)).2 sv xs _ ho A.mix.size (by have hS:GK (ts.getD (i:Int).toNat Th.z)∧(ts.getD (i:Int).toNat Th.z).at_≤1000:=hR i (by omega);have Nq:=HR hR i (by omega);have Ma:=Lib.itoa_length_le (((ts.getD (i:Int).toNat Th.z).at_:Nat):Int) (by have:=hS.2;omega) (by have:=hS.2;omega);simp only [α4,α5,α7]at*;omega) (Yk (hT _ _ hI) (hT _ _ (Gl.ok.now A hI)))) rfl rfl (by simp<;>omega) (gW G7) (gX A 2 rfl rfl (fun j e h=>by match j,h with|0,h=>exact⟨by decide,_,rfl,fun h=>h⟩|1,h=>exact⟨by decide,_,rfl,fun h=>h⟩|j+2,h=>cases h)) (fun j y M hj hy hM=>by match j,hj,hy,hM with|0,hj,hy,hM=>exact .inl (QO A 0 G7 rfl rfl hM)|1,hj,hy,hM=>exact .inl (QO A 1 G7 rfl rfl hM)|2,hj,hy,hM=>exact absurd rfl hj|3,hj,hy,hM=>cases hy;exact .inr ⟨⟨_,rfl⟩,O3 jN hM (by decide)⟩|j+4,hj,hy,hM=>cases hy) fun _ A=>N9 12 A rfl rfl fun A=>have A:=Ni A 4 3 (l:=Ei ts i++Lib.itoa (((ts.getD (((i:Int)).toNat) Th.z).at_:Nat):Int)) (l':=Ei ts i++(Lib.itoa (((ts.getD (i:Int).toNat Th.z).at_:Nat):Int)++LJ (ts.getD (i:Int).toNat Th.z) 0)) (by show _=_++(_++[]);rw [ε9]) rfl rfl (by simp only [α4]);B7 (fun(k:Nat)=>[(2,.str []),(3,.sl 2 ((Ei ts i++(Lib.itoa (((ts.getD (i:Int).toNat Th.z).at_:Nat):Int)++LJ (ts.getD (i:Int).toNat Th.z) k)).length) 0),(11,.sl 1 nn 0),(12,.int .i64 ((nn:Nat):Int)),(13,.int .i64 (i:Int)),(22,.agg [.int .i64 ((ts.getD (((i:Int)).toNat) Th.z).r 0),.int .i64 ((ts.getD (((i:Int)).toNat) Th.z).r 1),.int .i64 ((ts.getD (((i:Int)).toNat) Th.z).r 2),.int .i64 ((ts.getD (((i:Int)).toNat) Th.z).r 3),.int .i64 ((ts.getD (((i:Int)).toNat) Th.z).r 4),.int .i64 ((ts.getD (((i:Int)).toNat) Th.z).r 5),.int .i64 ((ts.getD (((i:Int)).toNat) Th.z).r 6),.int .i64 ((ts.getD (((i:Int)).toNat) Th.z).r 7)]),(23,.int .i64 (k:Int))]) (fun(k:Nat)=>[some (.blk [.sl 1 nn 0]),some (Ay cs ts nn),some (.row 5 1 ((Ei ts i++(Lib.itoa (((ts.getD (i:Int).toNat Th.z).at_:Nat):Int)++LJ (ts.getD (i:Int).toNat Th.z) k)).length) 0 (MX (Ei ts i++(Lib.itoa (((ts.getD (i:Int).toNat Th.z).at_:Nat):Int)++LJ (ts.getD (i:Int).toNat Th.z) k))))]) (fun(k:Nat)=>k≤8) (fun(k:Nat)=>8 - k) 0 (β8 _) ((A.cut [2,3,11,12,13,22,23] rfl).mv 2 [4] rfl rfl rfl rfl (by simp only [α5,α7]at h0;omega)) fun k hK {G a w} A=>N9 6 A rfl rfl fun A=>Aq 24 A rfl
     (fun h2 A=>N9 8 A rfl (Aj (by omega)<|Ah) fun A=>have A:=Ai A 25 (.int .i64 ((ts.getD (i:Int).toNat Th.z).r k)) rfl (fun _=>by rw [rg8 (by omega)]);N9 7 A rfl rfl fun A=>OP hX ((Ei ts i++(Lib.itoa (((ts.getD (i:Int).toNat Th.z).at_:Nat):Int)++LJ (ts.getD (i:Int).toNat Th.z) k)).length+1) (MX (Ei ts i++(Lib.itoa (((ts.getD (i:Int).toNat Th.z).at_:Nat):Int)++LJ (ts.getD (i:Int).toNat Th.z) k)++[32])) A rfl rfl rfl rfl (by have hS:GK (ts.getD (i:Int).toNat Th.z)∧(ts.getD (i:Int).toNat Th.z).at_≤1000:=hR i (by omega);have Nq:=HR hR i (by omega);have Ma:=Lib.itoa_length_le (((ts.getD (i:Int).toNat Th.z).at_:Nat):Int) (by have:=hS.2;omega) (by have:=hS.2;omega);have zT:=Iv (s:=(ts.getD (i:Int).toNat Th.z)) hS.1 k (by omega);simp only [α4,α5,α7]at*;omega) rfl (fun k hk=>by show [SV.int .u8 _]=[SV.int .u8 _];rw [BX (by first|exact hk|(simp only [α4,α5,α7];omega))]) (by show [SV.int .u8 _]=_;rw [Ws (by first|rfl|(simp only [α4,α5,α7]<;>omega))]<;>rfl) (fun z=>⟨_,rfl,rfl⟩) fun A=>have A:=A.hide 3;N9 6 A rfl rfl fun A=>gV (l:=Ei ts i++(Lib.itoa (((ts.getD (i:Int).toNat Th.z).at_:Nat):Int)++LJ (ts.getD (i:Int).toNat Th.z) k)++[32]) (dl:=Lib.itoa ((ts.getD (i:Int).toNat Th.z).r k)) (by kernel_rfl) A (fun sv xs ho=>LI _ _ _ ((hR i (by omega)).1 k (by omega)).1 ((hR i (by omega)).1 k (by omega)).2 sv xs _ ho A.mix.size (by have hS:GK (ts.getD (i:Int).toNat Th.z)∧(ts.getD (i:Int).toNat Th.z).at_≤1000:=hR i (by omega);have Nq:=HR hR i (by omega);have Ma:=Lib.itoa_length_le (((ts.getD (i:Int).toNat Th.z).at_:Nat):Int) (by have:=hS.2;omega) (by have:=hS.2;omega);have zT:=Iv (s:=(ts.getD (i:Int).toNat Th.z)) hS.1 k (by omega);simp only [α4,α5,α7]at*;omega) (Yk (hT _ _ hI) (hT _ _ (Gl.ok.now A hI)))) rfl rfl (by simp<;>omega) (gW G7) (gX A 4 rfl rfl (fun j e h=>by match j,h with|0,h=>exact⟨by decide,_,rfl,fun h=>h⟩|1,h=>exact⟨by decide,_,rfl,fun h=>h⟩|j+2,h=>cases h)) (fun j y M hj hy hM=>by match j,hj,hy,hM with|0,hj,hy,hM=>exact .inl (QO A 0 G7 rfl rfl hM)|1,hj,hy,hM=>exact .inl (QO A 1 G7 rfl rfl hM)|2,hj,hy,hM=>cases hy|3,hj,hy,hM=>cases hy|4,hj,hy,hM=>exact absurd rfl hj|j+5,hj,hy,hM=>cases hy) fun _ A=>N9 8 A rfl (Aj (by omega)<|Ah) fun A=>⟨k+1,_,(by omega),(by omega),(((Ni A 5 3 (l:=Ei ts i++(Lib.itoa (((ts.getD (i:Int).toNat Th.z).at_:Nat):Int)++LJ (ts.getD (i:Int).toNat Th.z) k)++[32]++Lib.itoa ((ts.getD (i:Int).toNat Th.z).r k)) (l':=Ei ts i++(Lib.itoa (((ts.getD (i:Int).toNat Th.z).at_:Nat):Int)++LJ (ts.getD (i:Int).toNat Th.z) (k+1))) gY rfl rfl (by simp<;>omega)).cut [2,3,11,12,13,22,23] rfl).mv 2 [5] rfl rfl rfl rfl (by simp only [α5,α7]at h0;omega)).sayT (by rfl)⟩)
     (fun h2 A=>N9 6 A rfl rfl fun A=>OP hX ((Ei ts i++(Lib.itoa (((ts.getD (i:Int).toNat Th.z).at_:Nat):Int)++LJ (ts.getD (i:Int).toNat Th.z) k)).length+1) (MX (Ei ts i++(Lib.itoa (((ts.getD (i:Int).toNat Th.z).at_:Nat):Int)++LJ (ts.getD (i:Int).toNat Th.z) k)++[59])) A rfl rfl rfl rfl (by have hS:GK (ts.getD (i:Int).toNat Th.z)∧(ts.getD (i:Int).toNat Th.z).at_≤1000:=hR i (by omega);have Nq:=HR hR i (by omega);have Ma:=Lib.itoa_length_le (((ts.getD (i:Int).toNat Th.z).at_:Nat):Int) (by have:=hS.2;omega) (by have:=hS.2;omega);have zT:=Iv (s:=(ts.getD (i:Int).toNat Th.z)) hS.1 k (by omega);simp only [α4,α5,α7]at*;omega) rfl (fun k hk=>by show [SV.int .u8 _]=[SV.int .u8 _];rw [BX (by first|exact hk|(simp only [α4,α5,α7];omega))]) (by show [SV.int .u8 _]=_;rw [Ws (by first|rfl|(simp only [α4,α5,α7]<;>omega))]<;>rfl) (fun z=>⟨_,rfl,rfl⟩) fun A=>have A:=A.hide 3;N9 8 A rfl (Aj (by omega)<|Ah) fun A=>⟨i+1,_,(by omega),(by omega),(((Ni A 4 3 (l:=Ei ts i++(Lib.itoa (((ts.getD (i:Int).toNat Th.z).at_:Nat):Int)++LJ (ts.getD (i:Int).toNat Th.z) k)++[59]) (l':=Ei ts (i+1)) (gZ (by omega)) rfl rfl (by simp<;>omega)).cut [2,3,11,12,13] rfl).mv 2 [4] rfl rfl rfl rfl (by simp only [α5,α7]at h0;omega)).sayT (by rfl)⟩))
   (fun h1 A=>N9 6 A rfl rfl fun A=>A9 A rfl (Wq (e:=5) rfl rfl rfl rfl (by rfl) (Y5 (by omega)) (by kernel_rfl) (by kernel_rfl) (by kernel_rfl)) fun A=>N9 4 A rfl rfl fun A=>R9 A rfl h0 rfl (by rw [show nn=i from(by omega)]<;>rfl) rfl)
end Go.Proofs.YtbbdanhpphlbpaaGreatDoor.Mc
namespace Go.Proofs.YtbbdanhpphlbpaaGreatDoor.Mc
open Go.RowKit
set_option simprocs false
def LK (m:Rg):Nat→List UInt8
 |0=>[]
 |k+1=>LK m k++(Lib.itoa (m k)++[32])
theorem KL {m:Rg}(h:∀k,k<3→inr (m k)):∀k,k≤3→(LK m k).length≤22*k
 |0,_=>β7 _
 |k+1,hk=>by
  have h1:=KL h k (by omega)
  have h2:=Lib.itoa_length_le (m k) (h k (by omega)).1 (h k (by omega)).2
  show(LK m k++(Lib.itoa (m k)++[32])).length≤_
  simp only [α4,α5,α7];omega
theorem Y6 {m:Rg}:∀{k:Nat},0<k→0<(LK m k).length
 |k+1,_=>by
  show 0<(LK m k++(_++[32])).length
  simp only [α4,α5,α7];omega
theorem iA {m:Rg}{k:Nat}:LK m k++Lib.itoa (m k)++[32]=LK m (k+1):=by
 show _=LK m k++(Lib.itoa (m k)++[32])
 rw [γ2]
theorem iB (m:Nat→Int)(cs:List Ak)(ts:List Th)(nn:Nat)(hm:∀k,k<3→inr (m k))(os:List (Nat×Obj))(hT:NU os):CE (Gl os) Tryz.prog 67 [.ptr 0 1] [some (.blk (Bt 1 m)),some (.blk [.sl 2 nn 0]),some (Ay cs ts nn)] (Rt (.str (LK m 3)) [some (.blk (Bt 1 m)),some (.blk [.sl 2 nn 0]),some (Ay cs ts nn)]):=
 BB (n:=21) (by kernel_rfl) Tryz.func67 rfl rfl rfl fun G w a h0 hI A=>have G7:=A.mem;N9 18 A rfl rfl fun A=>have A:=A.nilRow 3 5 1 (MX []) rfl (KK _);B7 (fun(k:Nat)=>[(2,.str []),(3,.sl 3 ((LK m k).length) 0),(6,.ptr 0 1),(7,.int .i64 (k:Int))]) (fun(k:Nat)=>[some (.blk (Bt 1 m)),some (.blk [.sl 2 nn 0]),some (Ay cs ts nn),some (.row 5 1 ((LK m k).length) 0 (MX (LK m k)))]) (fun(k:Nat)=>k≤3) (fun(k:Nat)=>3 - k) 0 (β8 _) ((A.cut [2,3,6,7] rfl).trunc 4 rfl rfl rfl (Cj h0 rfl)) fun k hK {G a w} A=>N9 6 A rfl rfl fun A=>Aq 8 A rfl
   (fun h1 A=>N9 9 A rfl (Aj (by omega)<|Ah) fun A=>A9 A rfl (Kx (v:=fun k=>.int .i64 (m k)) hX rfl rfl rfl rfl rfl rfl rfl (by omega) (fun k hk=>match k,hk with|0,_=>rfl|1,_=>rfl|2,_=>rfl)) fun A=>N9 7 A rfl rfl fun A=>gV (l:=LK m k) (dl:=Lib.itoa (m k)) (by kernel_rfl) A (fun sv xs ho=>LI _ _ _ (hm k (by omega)).1 (hm k (by omega)).2 sv xs _ ho A.mix.size (by have:=KL hm k (by omega);simp only [α4,α5,α7]at*;omega) (Yk (hT _ _ hI) (hT _ _ (Gl.ok.now A hI)))) rfl rfl (by simp<;>omega) (gW G7) (gX A 3 rfl rfl (fun j e h=>by match j,h with|0,h=>exact⟨by decide,_,rfl,fun h=>h⟩|1,h=>exact⟨by decide,_,rfl,fun h=>h⟩|2,h=>exact⟨by decide,_,rfl,fun h=>h⟩|j+3,h=>cases h)) (fun j y M hj hy hM=>by match j,hj,hy,hM with|0,hj,hy,hM=>exact .inl (QO A 0 G7 rfl rfl hM)|1,hj,hy,hM=>exact .inl (QO A 1 G7 rfl rfl hM)|2,hj,hy,hM=>exact .inl (QO A 2 G7 rfl rfl hM)|3,hj,hy,hM=>exact absurd rfl hj|j+4,hj,hy,hM=>cases hy) fun _ A=>N9 6 A rfl rfl fun A=>OP hX ((LK m k).length+(Lib.itoa (m k)).length+1) (MX (LK m k++Lib.itoa (m k)++[32])) A rfl rfl rfl rfl (by have:=KL hm k (by omega);have:=Lib.itoa_length_le (m k) (hm k (by omega)).1 (hm k (by omega)).2;simp only [α4,α5,α7]at*;omega) rfl (fun k hk=>by show [SV.int .u8 _]=[SV.int .u8 _];rw [BX (by first|exact hk|(simp only [α4,α5,α7];omega))]) (by show [SV.int .u8 _]=_;rw [Ws (by first|rfl|(simp only [α4,α5,α7]<;>omega))]<;>rfl) (fun z=>⟨_,rfl,rfl⟩) fun A=>have A:=A.hide 5;N9 8 A rfl (Aj (by omega)<|Ah) fun A=>⟨k+1,_,(by omega),(by omega),(((Ni A 6 3 (l:=LK m k++Lib.itoa (m k)++[32]) (l':=LK m (k+1)) iA rfl rfl (by simp<;>omega)).cut [2,3,6,7] rfl).mv 3 [6] rfl rfl rfl rfl (by simp only [α5,α7]at h0;omega)).sayT (by rfl)⟩)
   (fun h1 A=>N9 6 A rfl rfl fun A=>A9 A rfl (Wq (e:=5) rfl rfl rfl rfl (by rfl) (Y6 (by omega)) (by kernel_rfl) (by kernel_rfl) (by kernel_rfl)) fun A=>N9 4 A rfl rfl fun A=>R9 A rfl h0 rfl (by rw [show k=3 from(by omega)]<;>rfl) rfl)
theorem Y7 (m:Nat→Int)(cs:List Ak)(ts:List Th)(nn:Nat)(hR:∀i,i<nn→GK (ts.getD i Th.z)∧(ts.getD i Th.z).at_≤1000)(T9:0<nn)(EP:nn≤3)(hm:∀k,k<3→inr (m k))(os:List (Nat×Obj))(hT:NU os):CE (Gl os) Tryz.prog 19 [.ptr 0 0] [some (.blk (Bt 1 m)),some (.blk [.sl 2 nn 0]),some (Ay cs ts nn)] (Rt (.str (Ei ts nn++LK m 3)) [some (.blk (Bt 1 m)),some (.blk [.sl 2 nn 0]),some (Ay cs ts nn)]):=
 BB (n:=13) (by kernel_rfl) Tryz.func19 rfl rfl rfl fun G w a h0 hI A=>N9 6 A rfl rfl fun A=>Ba hX By [] [(4,.str (Ei ts nn),[some (.blk (Bt 1 m)),some (.blk [.sl 2 nn 0]),some (Ay cs ts nn)]),(8,.str (LK m 3),[some (.blk (Bt 1 m)),some (.blk [.sl 2 nn 0]),some (Ay cs ts nn)])] A rfl (Aj (by have q1:=HR hR nn (β7 _);have q2:=KL hm 3 (β7 _);omega)<|Ah) rfl rfl (by kernel_rfl) ⟨De [1,2] Gl.ok hI (hQ cs ts nn hR T9 EP os hT) rfl rfl rfl rfl rfl rfl rfl,⟨De [0,1,2] Gl.ok hI (iB m cs ts nn hm os hT) rfl rfl rfl rfl rfl rfl rfl,trivial⟩⟩ trivial fun A=>N9 2 A rfl rfl fun A=>R9 A rfl h0 rfl rfl rfl
end Go.Proofs.YtbbdanhpphlbpaaGreatDoor.Mc
namespace Go.Proofs.YtbbdanhpphlbpaaGreatDoor
open Go.RowKit
section
variable {P:Program}{n:Nat}{ks:List Nat}{G0:Gr}{w0:World}{T:List (Nat×SV)}{H:Hp}{G:Gr}{a:Act}{w:World}{ops:Array Oper}{o:Oper}{rest:List Oper}{Q:Exit→Act→World→Prop}{K:List Fr}{I:Ef}
theorem leq {q:Nat}(h:H.length=G.length)(hb:Nat.ble q H.length=true):q≤G.length:=h▸ε1 hb
def Tl (P:Program)(t:Nat)(nm:String)(f:Nat):Prop:=∀(p:Option Addr) (w:World),(method (P.types.size+Made.depth) t (.pointer p) nm).run P w=.ok (f,.pointer p) w
abbrev pJ (t:Nat)(L:Loc):SV:=.v (.iface t (.pointer (some ⟨L.b,L.pre.length,none⟩)))
theorem pK (A:Sy n T H ks G0 w0 G a w){x:Operand}{nm:String}{args:Array Operand}{ats:Array TypeId}{f t i:Nat}{L:Loc}{az:List SV}(CJ:o.op=.call {callee:=.invoke x nm,args:=args,argTypes:=ats})(hd:DD n o.dst=true)(hg:BE ops T o.guard=some .run)(hx:Db T x=some (pJ t L))(hi:G[i]?=some (some L))(hm:Tl P t nm f)(Ca:F3 P f=some (false,false))(hs:N5 none T args.toList=some (az,[])):PX P n ops o f (.ptr i 0::az) G a w:=by
 obtain⟨us,h4,h5⟩:=IK A hs
 have h6:=h5 Ah (fun g hg=>by cases hg)
 have h1:=A.ev hx
 simp only [den,β2]at h1
 refine⟨hd,.pointer (some ⟨L.b,L.pre.length,none⟩)::us,Bb (by unfold den;rw [hi];rfl) h4,fun{R K} hc hk=>?_⟩
 have hw:=BQ (gd:=none) A hg
 obtain⟨d,op,ty,pos,af,gd⟩:=o
 simp only at CJ
 subst CJ
 refine KQ hw ?_ hc hk
 have ha:args.map a.eval=us.toArray:=by rw [←h6];apply μ1;simp
 unfold execOp
 simp only [resolve,ha,γ3,γ6,β1,invoke]
 rw [←h1]
 have he:(#[Value.iface t (.pointer (some ⟨L.b,L.pre.length,none⟩))]++us.toArray).extract 1 (#[Value.iface t (.pointer (some ⟨L.b,L.pre.length,none⟩))]++us.toArray).size=us.toArray:=by apply μ1;simp
 have h0:(#[Value.iface t (.pointer (some ⟨L.b,L.pre.length,none⟩))]++us.toArray)[0]?=some (.iface t (.pointer (some ⟨L.b,L.pre.length,none⟩))):=by simp
 rw [h0]
 simp only [he]
 unfold callMethod
 simp only [γ3,program,Sem.run,β1]
 erw [hm]
 simp only [β1]
 erw [enters Ca]
 congr 2
 apply μ1;simp
theorem QP {f:Nat} {args az:List SV} {H' H2 l l2:Hp} {x y:SV} (m:List Nat) (hf:Sb P f args H' (Rt x H2) (BW m G) w ks w0) (A:Sy n T H ks G0 w0 G a w) (hc:PX P n ops o f az G a w) (h2:EB m args=some az) (h3:DE m H'=some l) (h4:DA H m=some l) (h5:Jt m=true)
  (h6:Dv (m++Bj H.length (H2.length - m.length)) x=some y) (h7:DE (m++Bj H.length (H2.length - m.length)) H2=some l2) (hk:∀{G a w},Sy n (Bh T o.dst y) (CU H m l2) ks G0 w0 G a w→Goal P Q K (.ops ops rest) a w):Goal P Q K (.ops ops (o::rest)) a w:=by
 have hd:=hc.1
 refine Cm (FX (Kc (R2:=fun z H3=>z=y∧H3=CU H m l2) m A hf hc h2 h3 h4 h5 fun x' H' ⟨e1,e2⟩=>by subst e1;subst e2;exact⟨y,l2,h6,h7,rfl,rfl⟩) ?_)
 rintro v w' ⟨z,H3,F,⟨rfl,rfl⟩,g2,g3⟩
 exact hk (Sy.put g3 hd g2)
theorem LL {f t:Nat} {args az:List SV} {H' H2 l l2:Hp} {x y:SV} {xo:Operand} {nm:String} {ar:Array Operand} {ats:Array TypeId} {L:Loc} (i:Nat) (m:List Nat) (hI:I.OK) (h0:I w0 ks) (hf:CE I P f args H' (Rt x H2)) (A:Sy n T H ks G0 w0 G a w) (CJ:o.op=.call {callee:=.invoke xo nm,args:=ar,argTypes:=ats}) (hd:DD n o.dst=true) (hg:BE ops T o.guard=some .run) (hx:Db T xo=some (pJ t L)) (hi:G0[i]?=some (some L)) (hm:Tl P t nm f) (hs:N5 none T ar.toList=some (az,[])) (h2:EB m args=some (.ptr i 0::az)) (h3:DE m H'=some l) (h4:DA H m=some l) (h5:Jt m=true)
  (h6:Dv (m++Bj H.length (H2.length - m.length)) x=some y) (h7:DE (m++Bj H.length (H2.length - m.length)) H2=some l2) (hk:∀{G a w},Sy n (Bh T o.dst y) (CU H m l2) ks G0 w0 G a w→Goal P Q K (.ops ops rest) a w):Goal P Q K (.ops ops (o::rest)) a w:=by
 obtain⟨F,hF⟩:=A.pre
 have xA:G[i]?=some (some L):=by rw [hF,α1 (α0.1 hi).1];exact hi
 exact QP m (hf.at hI h0 A.mix) A (pK A CJ hd hg hx xA hm hf.1 hs) h2 h3 h4 h5 h6 h7 hk
theorem vQ {x:Operand}{t p:Nat}{L:Loc}(hg:BE ops T o.guard=some .run)(CJ:o.op=.makeInterface t x)(hx:Db T x=some (.ptr p 0))(hp:G0[p]?=some (some L))(ht:RJ P t=true):Bd P n ops ks G0 w0 T H o (pJ t L) H:=fun G a w A=>by
 have hw:=BQ (gd:=none) A hg
 obtain⟨d,op,ty,ps,af,gd⟩:=o
 simp only at CJ
 subst CJ
 have h1:=A.ev hx
 obtain⟨F,hF⟩:=A.pre
 have h2:den G (.ptr p 0)=some (.pointer (some ⟨L.b,L.pre.length,none⟩)):=by
  unfold den
  rw [hF,α1 (α0.1 hp).1,hp];rfl
 rw [h2]at h1
 exact RK hw (β6 h1).symm ht ⟨[],rfl,by rw [ε9];exact A.ms⟩
def vR (R:Act→World→Prop):Exit→Act→World→Prop
 | .normal=>R
 |_=>fun _ _=>False
theorem Wt (h:Goal P Q K (.ops ops rest) a w):wpAny P .any #[o] (vR (wpList P ops (Fz P Q K) rest)) 0 (#[false].setIfInBounds 0 true) a w:=⟨rfl,h⟩
theorem vS (hg:o.guard=none)(h:wpOp P #[o] (vR (wpList P ops (Fz P Q K) rest)) 0 (wpAny P .any #[o] (vR (wpList P ops (Fz P Q K) rest)) 0 (#[false].setIfInBounds 0 true)) a w):Goal P Q K (.ops ops (o::rest)) a w:=by
 unfold wpOp at h
 simp only [π2,ν1,wn hg,υ9]at h
 rcases h with h|⟨_,a',w',hf⟩
 ·refine wpList_step fun K' x3=>?_
  rw [if_pos (wn hg)]
  unfold Oper.wp at*
  generalize (execOp a.eval o).run P w=r at*
  cases r with
  | ok n w'=>
   cases n<;>simp only [Oper.upon]at h⊢<;>first
    |exact x3 _ _ h.2
    |exact ν6 h (fun e w'' he=>by cases e<;>first|exact x3 _ _ he.2|exact he.elim|(obtain⟨_,_,hf⟩:=he;exact hf.elim))
    |exact Rows.mono h (fun _ _ he=>x3 _ _ he.2)
  |halt x w'=>cases x<;>simp only [Oper.upon]at h<;>exact h.elim
 ·exact hf.elim
theorem Sy.locAt (A:Sy n T H ks G0 w0 G a w){p:Nat}{cs:List SV}(hp:lg H p=some (some (.blk cs))):∃L,G[p]?=some (some L):=by
 rw [BI]at hp
 obtain⟨L,vs,p1,_,_⟩:=A.mem.ent p _ hp
 refine⟨L,?_⟩
 cases hz:G[p]? with
 |none=>rw [hz]at p1;cases p1
 |some z=>rw [hz]at p1;simp only [γ8]at p1;rw [p1]
theorem Sy.loc_now (A:Sy n T H ks G0 w0 G a w){p:Nat}{L:Loc}(h:G0[p]?=some (some L)):G[p]?=some (some L):=by
 obtain⟨F,hF⟩:=A.pre
 rw [hF,α1 (α0.1 h).1];exact h
def vT {β:Type}(y:β→SV)(Hb:β→Hp)(J:β→Gr→World→Prop)(q:Nat)(ks:List Nat)(G0:Gr)(w0:World)(Gc:Gr)(e:Ending)(w':World):Prop:=∃b G' v,J b G' w'∧den G' (y b)=some v∧e=.returned v∧Ms (Hb b) ks G0 w0 G' w'∧G'.take q=Gc.take q
theorem QR {β:Type} (y:β→SV) (Hb:β→Hp) (J:β→Gr→World→Prop) (q:Nat) {f nf:Nat} {fn:Func} {c:Code} {az:List SV} (A:Sy n T H ks G0 w0 G a w) (KO:lA q T=true) (h1:B6 n ops T o=some (f,az)) (Ca:F3 P f=some (false,false)) (hf:P.funcs[f]?=some fn) (hb:fn.body=some c) (hn:fn.ntmps=nf) (hl:Nat.ble az.length nf=true)
  (rL:∀Gc a',G=Gc→Sy nf (Mt az 0) H ks G0 w0 Gc a' w→Goal P (bodyPost P fn (vT y Hb J q ks G0 w0 G)) [] (.code c) a' w)
  (k:∀b G' a w',J b G' w'→G'.take q=G.take q→Sy n (Bh T o.dst (y b)) (Hb b) ks G0 w0 G' a w'→Goal P Q K (.ops ops rest) a w'):Goal P Q K (.ops ops (o::rest)) a w:=by
 obtain⟨hd,vs,hv,I2⟩:=Ci (P:=P) (ops:=ops) A h1 Ca
 refine Cm (I2 (R:=vT y Hb J q ks G0 w0 G) (K:=fun v w'=>wpList P ops (Fz P Q K) rest (a.put o.dst v) w') (ξ6 hf hb (rL G _ rfl ⟨?_,rfl,fun t x hx=>?_,A.mem,A.pre,A.own,A.mix⟩)) ?_)
 ·have:=Be hv
  have:=ε1 hl
  simp [hn];omega
 ·obtain⟨_,h2⟩:=EF hx
  simp only [ν9]at h2
  obtain⟨v,h3,h4⟩:=C5 hv h2
  have Bn:t<vs.length:=(α0.1 h3).1
  rw [h4]
  simp [β3,ι4,Bn]at h3⊢
  exact h3.symm
 ·rintro e w' ⟨b,G',v,hJ,hx,rfl,hM,hq⟩
  refine⟨v,rfl,k b G' _ w' hJ hq (Sy.put (hM.sy A.size A.defers fun t z hz=>?_) hd hx)⟩
  have hi:=PY KO hz
  rw [←DZ z hi,hq,DZ z hi]
  exact A.get t z hz
theorem R6 {β:Type}{Y:Tb}{fn:Func}{y:β→SV}{Hb:β→Hp}{J:β→Gr→World→Prop}{q:Nat}{Gc:Gr}(b:β)(hX:Y.ok P=true){r:List SV}{rv:List ResultVar}(A:Sy n T H ks G0 w0 G a w)(hr:fn.results.toList=rv)(hv:JE ⟨Y,false⟩ T H rv=some r)(hy:BA r=y b)(hH:H=Hb b)(hJ:J b G w)(hq:G.take q=Gc.take q):bodyPost P fn (vT y Hb J q ks G0 w0 Gc) .ret a w:=by
 obtain⟨v,Y8,XQ⟩:=G9 (X:=⟨Y,false⟩) (fn:=fn) hX A hr hv hy
 subst hH
 exact⟨A.defers,v,XQ,b,G,v,hJ,Y8,rfl,A.ms,hq⟩
theorem Sy.take_base (A:Sy n T H ks G0 w0 G a w){q:Nat}(h:q≤G0.length):G.take q=G0.take q:=by
 obtain⟨F,hF⟩:=A.pre
 rw [hF,ι3 h]
theorem iC {Tw:List (Nat×SV)}{x:SV}{H':Hp}{rs:List Nat}(h:Bd P n ops ks G0 w0 Tw H o x H')(hr:((List.range H'.length).all fun i=>Nat.blt i H.length||rs.contains i)=true):OW P n ops ks G0 w0 Tw H o x H' rs:=by
 intro G a w A
 refine FX (h G a w A) fun v w' ⟨F,h1,h2⟩=>⟨G++F,fun i hi=>?_,h1,h2⟩
 have e1:=h2.mem.len
 have e2:=A.mem.len
 by_cases hl:i<G.length
 ·exact α1 hl
 ·rw [γ4 (Nat.not_lt.1 hl)]
  refine γ4 (Nat.not_lt.1 fun hq=>hi ?_)
  have:=δ7.1 hr i (ε8.2 (by omega))
  rw [β9,μ7,ε5]at this
  exact this.resolve_left (by omega)
end
end Go.Proofs.YtbbdanhpphlbpaaGreatDoor
namespace Go.Proofs.YtbbdanhpphlbpaaGreatDoor.Mc
open Go.RowKit
theorem Wu (w:World):CallsD Tryz.prog 105 #[] .returning w fun e u' w'=>e=.returned (.tuple #[])∧u'=.returning∧w'=w:=by
 refine callsD_of_wpS Tryz.func105 rfl fun c₀ cs hu=>?_
 apply wpS_region
 simp [wpOpsS,go_sem,recoverD,hu,Tryz.ntmps105]
 cases c₀
 simp_all [bodyPostS,results,Tryz.results105]
theorem pL:Tl Tryz.prog 33 "Key" 19:=fun p w=>by kernel_rfl
theorem Wv:Tl Tryz.prog 33 "Moves" 21:=fun p w=>by kernel_rfl
theorem pM:Tl Tryz.prog 33 "Done" 22:=fun p w=>by kernel_rfl
theorem pO:Tl Tryz.prog 33 "Outcome" 23:=fun p w=>by kernel_rfl
theorem R7 {H' H2:Hp}{i:Int}{b:Bool}{y:SV}{L:Loc}{Gp:Gr}{w w0:World}{ks:List Nat}(hf:Sb Tryz.prog 15 [.ptr 0 0,.int .i64 i] H' (Rt y H2) Gp w ks w0)(hL:Gp[0]?=some (some L))(hy:∀G,den G y=some (.bool b)):Sb Tryz.prog 71 [pJ 33 L,.int .i64 i] H' (Rt y H2) Gp w ks w0:=
 ⟨by kernel_rfl,fun vs hM EA hv=>by
  cases hv
  have hc:=hf.2 [.pointer (some ⟨L.b,L.pre.length,none⟩),.int .i64 i] hM EA (Bb (by unfold den;rw [hL];rfl) rfl)
  have hm:∀w:World,(method 422 33 (.pointer (some ⟨L.b,L.pre.length,none⟩)) "Do").run Tryz.prog w=.ok (15,.pointer (some ⟨L.b,L.pre.length,none⟩)) w:=fun w=>by kernel_rfl
  go_enter_defers Tryz.func71,Tryz.ntmps71
  go_wp2_with (go_at_call 15;refine hc.mono ?_;rintro e w' ⟨x,H3,F,v,⟨rfl,rfl⟩,d1,rfl,h2⟩;rw [hy]at d1;cases d1)
  refine leaves_cons (f:=105) (args:= #[]) (by simp) (by simp [go_sem]) ?_
  refine(Wu _).mono ?_
  rintro e u' w'' ⟨rfl,rfl,rfl⟩
  simp [Leaves,settle,results,Tryz.results71,go_sem]
  exact⟨_,_,F,_,⟨rfl,rfl⟩,hy _,rfl,h2⟩⟩
end Go.Proofs.YtbbdanhpphlbpaaGreatDoor.Mc
namespace Go.Proofs.YtbbdanhpphlbpaaGreatDoor.Mc
open Go.RowKit
set_option simprocs false
def Ww (x:Int):Int:=IntKind.wrap .i64 ((((BitVec.ofInt (IntKind.bits .i64) x)&&&(BitVec.ofInt (IntKind.bits .i64) 1)).toNat:Nat):Int)
theorem iD (iv:Value)(S:List Int)(n c:Nat)(hn:n≤1000000):Fn Tryz.prog 25 [.v iv,.sl 0 n c] [some (.lst 1 n (fun j=>[.int .i64 (S.getD j 0)]))] (Rt (.sl 1 n 0) [some (.lst 1 n (fun j=>[.int .i64 (S.getD j 0)])),some (.row 3 1 n 0 (fun j=>[.int .i64 (Ww (S.getD j 0))]))]):=
 Am (n:=22) (by kernel_rfl) Tryz.func25 rfl rfl rfl fun G w a h0 A=>N9 17 A rfl rfl fun A=>have A:=A.nilRow 5 3 1 (fun j=>[.int .i64 (Ww (S.getD j 0))]) rfl (fun z=>⟨_,rfl,rfl⟩);B7 (fun(k:Nat)=>[(1,.sl 0 n c),(4,.sla none 0 0),(5,.sl 1 k 0),(6,.int .i64 (k:Int))]) (fun(k:Nat)=>[some (.lst 1 n (fun j=>[.int .i64 (S.getD j 0)])),some (.row 3 1 k 0 (fun j=>[.int .i64 (Ww (S.getD j 0))]))]) (fun(k:Nat)=>k≤n) (fun(k:Nat)=>n - k) 0 (β8 _) ((A.cut [1,4,5,6] rfl).trunc 2 rfl rfl rfl (Cj h0 rfl)) fun k hK {G a w} A=>N9 9 A rfl rfl fun A=>Aq 10 A rfl
   (fun h1 A=>N9 13 A rfl (Aj (by omega)<|Aj (by omega)<|Ah) fun A=>OP hX (k+1) (fun j=>[.int .i64 (Ww (S.getD j 0))]) A rfl rfl rfl rfl (by omega) rfl (fun q hq=>rfl) (by show [SV.int .i64 _]=_;rw [β5];rfl) (fun z=>⟨_,rfl,rfl⟩) fun A=>N9 9 A rfl (Aj (by omega)<|Ah) fun A=>⟨k+1,_,(by omega),(by omega),((A.cut [1,4,5,6] rfl).mv 1 [3] rfl rfl rfl rfl (by simp only [α5,α7]at h0;omega)).sayT (by rfl)⟩)
   (fun h1 A=>N9 10 A rfl rfl fun A=>(by obtain rfl:k=n:=(by omega);exact Ns hX [1] A ⟨rfl,rfl⟩ rfl rfl rfl rfl rfl rfl rfl rfl h0))
end Go.Proofs.YtbbdanhpphlbpaaGreatDoor.Mc
namespace Go.Proofs.YtbbdanhpphlbpaaGreatDoor.Mc
open Go.RowKit
theorem O8 (x:Int): -9223372036854775808≤IntKind.wrap .i64 x∧IntKind.wrap .i64 x≤9223372036854775807:=by
 simp only [IntKind.wrap,IntKind.signed,IntKind.bits];simp;omega
theorem Wx (f a b:Int): -9223372036854775808≤Fg f a b∧Fg f a b≤9223372036854775807:=by
 unfold Fg
 repeat' split
 all_goals first|exact O8 _|decide
theorem Wy (v s:Int): -9223372036854775808≤Bz v s∧Bz v s≤9223372036854775807:=by
 unfold Bz
 split
 ·decide
 ·exact O8 _
theorem Nj {r:Rg}{j:Nat}{x:Int}(h:∀k,k<8→ -9223372036854775808≤r k∧r k≤9223372036854775807)(hx: -9223372036854775808≤x∧x≤9223372036854775807):∀k,k<8→ -9223372036854775808≤Bk r j x k∧Bk r j x k≤9223372036854775807:=fun k hk=>by
 unfold Bk
 split
 ·exact hx
 ·exact h k hk
def Wz (l:List In):Prop:=∀k,k<l.length→ -9223372036854775808≤(l.getD k In.z).imm∧(l.getD k In.z).imm≤9223372036854775807
theorem iE {l:List In}(hi:Wz l)(hc:Fs l){s:Th}(h:GK s)(hk:s.at_<l.length){a:Nat}:GK ⟨a,HI s.r (l.getD s.at_ In.z)⟩:=by
 have hS:=hc.snd hk
 show∀k,k<8→ -9223372036854775808≤HI s.r (l.getD s.at_ In.z) k∧HI s.r (l.getD s.at_ In.z) k≤9223372036854775807
 unfold HI
 split
 ·exact Nj h (hi _ hk)
 ·split
  ·next h2=>exact Nj h (h _ (by have:=hS.a (.inl h2);omega))
  ·split
   ·exact Nj h (Wx _ _ _)
   ·exact h
theorem Nk {l:List In}(hi:Wz l)(hc:Fs l):∀(f:Nat) (s:Th),GK s→GK (GS l f s)
 |0,s,h=>h
 |f+1,s,h=>by
  show GK (if s.at_<l.length∧HU (l.getD s.at_ In.z)=false then _ else s)
  split
  ·next hs=>exact Nk hi hc f _ (iE hi hc h hs.1)
  ·exact h
theorem iF {l:List In}(hi:Wz l)(hc:Fs l){s:Th}(h:GK s)(hle:s.at_≤l.length)(old:Int):GK (Sm l s old):=by
 unfold Sm
 split
 ·exact h
 ·refine Nk hi hc _ _ ?_
  show∀k,k<8→ -9223372036854775808≤IC s.r (l.getD s.at_ In.z) old k∧IC s.r (l.getD s.at_ In.z) old k≤9223372036854775807
  unfold IC
  split
  ·exact Nj h (Wy _ _)
  ·exact h
structure CG (cs:List Ak)(nn:Nat)(ts:List Th):Prop where
 ok:BR cs ts nn
 im:∀k,k<nn→Wz (cs.getD k Ak.z).l
 rg:∀k,k<nn→GK (ts.getD k Th.z)
theorem CG.mk_ {cs:List Ak}{nn:Nat}{ts:List Th}(h:CG cs nn ts):∀i,i<nn→GK (ts.getD i Th.z)∧(ts.getD i Th.z).at_≤1000:=fun i hi=>by
 have hm:=h.ok.m
 have h1:=h.ok.a i (by omega)
 have h2:=(h.ok.r i (by omega)).n
 exact⟨h.rg i hi,by omega⟩
theorem CG.set {cs:List Ak}{nn:Nat}{ts:List Th}(h:CG cs nn ts){j:Int}(hj:0≤j∧j<((nn:Nat):Int))(old:Int):CG cs nn (CR cs ts j old):=by
 have hm:=h.ok.m
 have hn:=h.ok.n
 refine⟨h.ok.set hj old,h.im,fun k hk=>?_⟩
 unfold CR
 by_cases e:k=j.toNat
 ·subst e
  rw [Jc (by omega)]
  exact iF (h.im _ (by omega)) (h.ok.r _ (by omega)) (h.rg _ hk) (h.ok.a _ (by omega)) old
 ·rw [RV e];exact h.rg k hk
theorem W0 {α:Type}{l:List α}{k:Nat}{d:α}(h:k<l.length):l.getD k d∈l:=by rw [α6,β0 h];exact η9 h
theorem iG {cs cs':List Ak}{rg:Nat→Rg}(AW:BR cs' (BU cs rg) cs.length)(he:∀k,k<cs.length→(cs'.getD k Ak.z).l=(cs.getD k Ak.z).l)(hi:∀c∈cs,∀i∈c.l,Yx i)(hr:∀k,k<cs.length→∀j,j<8→ -9223372036854775808≤rg k j∧rg k j≤9223372036854775807):CG cs' cs.length (BU cs rg):=by
 have hm:=AW.m
 have hI:∀k,k<cs.length→Wz (cs.getD k Ak.z).l:=fun k hk j hj=>by
  exact(hi _ (W0 hk) _ (W0 hj)).1.im
 refine⟨AW,fun k hk=>by rw [he k hk];exact hI k hk,fun k hk=>?_⟩
 rw [Ic hk]
 exact Nk (hI k hk) (by have:=AW.r k (by omega);rw [he k hk]at this;exact this) _ _ (hr k hk)
def dv (l:List UInt8):Nat:=l.foldl (fun a c=>a*10+(c.toNat - 48)) 0
theorem W1 (u:Nat):∀c∈Lib.decDigits u,48≤c.toNat∧c.toNat≤57:=by
 induction u using Nat.strongRecOn with
 | _ u ih=>
  intro c hc
  rw [Lib.decDigits]at hc
  split at hc
  ·rw [η5]at hc;subst hc
   have:(UInt8.ofNat (48+u)).toNat=(48+u) % 256:=ξ5
   omega
  ·next h=>
   rcases ζ6.1 hc with hc|hc
   ·exact ih (u / 10) (by omega) c hc
   ·rw [η5]at hc;subst hc
    have:(UInt8.ofNat (48+u % 10)).toNat=(48+u % 10) % 256:=ξ5
    omega
theorem Nl (u:Nat):dv (Lib.decDigits u)=u:=by
 induction u using Nat.strongRecOn with
 | _ u ih=>
  rw [Lib.decDigits]
  split
  ·have:(UInt8.ofNat (48+u)).toNat=(48+u) % 256:=ξ5
   simp only [dv,μ5,List.foldl_nil]
   omega
  ·next h=>
   have h1:=ih (u / 10) (by omega)
   have:(UInt8.ofNat (48+u % 10)).toNat=(48+u % 10) % 256:=ξ5
   unfold dv at h1⊢
   rw [List.foldl_append,h1]
   simp only [μ5,List.foldl_nil]
   omega
theorem W2 (a:Int):∀c∈Lib.itoa a,c≠32∧c≠59:=fun c hc=>by
 have h:c=45∨(48≤c.toNat∧c.toNat≤57):=by
  unfold Lib.itoa at hc
  split at hc
  ·rcases ζ9.1 hc with h|h
   ·exact .inl h
   ·exact .inr (W1 _ _ h)
  ·exact .inr (W1 _ _ hc)
 rcases h with h|h
 ·subst h;decide
 ·constructor
  ·intro e;subst e;revert h;decide
  ·intro e;subst e;revert h;decide
theorem W3 (u:Nat)(l:List UInt8):Lib.decDigits u≠45::l:=fun h=>by
 have:=W1 u 45 (by rw [h];exact ε2)
 revert this;decide
theorem DM {a b:Int}(h:Lib.itoa a=Lib.itoa b):a=b:=by
 unfold Lib.itoa at h
 split at h<;>split at h
 ·injection h with _ h
  have:=congrArg dv h
  rw [Nl,Nl]at this
  omega
 ·exact absurd h.symm (W3 _ _)
 ·exact absurd h (W3 _ _)
 ·have:=congrArg dv h
  rw [Nl,Nl]at this
  omega
def O9:List (List UInt8×UInt8)→List UInt8
 | []=>[]
 |p::r=>p.1++p.2::O9 r
theorem KM:∀a b,O9 (a++b)=O9 a++O9 b
 | [],b=>rfl
 |p::r,b=>by show p.1++p.2::O9 (r++b)=(p.1++p.2::O9 r)++O9 b;rw [KM r b,γ2];rfl
def Wd (p:List UInt8×UInt8):Prop:=(∀c∈p.1,c≠32∧c≠59)∧(p.2=32∨p.2=59)
theorem R8:∀{a b x y:List UInt8} {c d:UInt8},Wd (a,c)→Wd (b,d)→a++c::x=b++d::y→a=b∧c=d∧x=y
 | [],[],x,y,c,d,_,_,h=>by injection h with h1 h2;exact⟨rfl,h1,h2⟩
 | [],q::b,x,y,c,d,ha,hb,h=>by
  injection h with h1 h2
  have:=hb.1 q ε2
  rcases ha.2 with e|e
  ·exact absurd (h1.symm.trans e) this.1
  ·exact absurd (h1.symm.trans e) this.2
 |q::a,[],x,y,c,d,ha,hb,h=>by
  injection h with h1 h2
  have:=ha.1 q ε2
  rcases hb.2 with e|e
  ·exact absurd (h1.trans e) this.1
  ·exact absurd (h1.trans e) this.2
 |q::a,p::b,x,y,c,d,ha,hb,h=>by
  injection h with h1 h2
  obtain⟨e1,e2,e3⟩:=R8 (a:=a) (b:=b) ⟨fun z hz=>ha.1 z (ζ7 _ hz),ha.2⟩ ⟨fun z hz=>hb.1 z (ζ7 _ hz),hb.2⟩ h2
  exact⟨by rw [h1,e1],e2,e3⟩
theorem SA:∀{L M:List (List UInt8×UInt8)},(∀p∈L,Wd p)→(∀p∈M,Wd p)→O9 L=O9 M→L=M
 | [],[],_,_,_=>rfl
 | [],p::M,_,_,h=>by have:=congrArg List.length h;simp [O9]at this
 |p::L,[],_,_,h=>by have:=congrArg List.length h;simp [O9]at this
 |p::L,q::M,h1,h2,h=>by
  obtain⟨e1,e2,e3⟩:=R8 (a:=p.1) (b:=q.1) (h1 p ε2) (h2 q ε2) h
  rw [SA (fun z hz=>h1 z (ζ7 _ hz)) (fun z hz=>h2 z (ζ7 _ hz)) e3,show p=q from Prod.ext e1 e2]
def w1 (s:Th):List (List UInt8×UInt8):=[(Lib.itoa ((s.at_:Nat):Int),32),(Lib.itoa (s.r 0),32),(Lib.itoa (s.r 1),32),(Lib.itoa (s.r 2),32),(Lib.itoa (s.r 3),32),(Lib.itoa (s.r 4),32),(Lib.itoa (s.r 5),32),(Lib.itoa (s.r 6),32),(Lib.itoa (s.r 7),59)]
theorem pP (a:Int):Wd (Lib.itoa a,32):=⟨fun c hc=>W2 a c hc,.inl rfl⟩
theorem vU (a:Int):Wd (Lib.itoa a,59):=⟨fun c hc=>W2 a c hc,.inr rfl⟩
theorem pQ (s:Th):∀p∈w1 s,Wd p:=fun p hp=>by
 simp only [w1,ζ9,υ1,μ9]at hp
 rcases hp with h|h|h|h|h|h|h|h|h<;>subst h<;>first|exact pP _|exact vU _
theorem pR (s:Th):mk1 s=O9 (w1 s):=by
 simp [mk1,LJ,w1,O9,γ2]
def wN (ts:List Th):Nat→List (List UInt8×UInt8)
 |0=>[]
 |i+1=>wN ts i++w1 (ts.getD i Th.z)
theorem QS (ts us:List Th):∀i,(wN ts i).length=(wN us i).length
 |0=>rfl
 |i+1=>by show(wN ts i++w1 _).length=(wN us i++w1 _).length;rw [α4,α4,QS ts us i];rfl
theorem W4 (ts:List Th):∀i,∀p∈wN ts i,Wd p
 |0,p,h=>by cases h
 |i+1,p,h=>(ζ6.1 h).elim (W4 ts i p) (pQ _ p)
theorem W5 (ts:List Th):∀i,Ei ts i=O9 (wN ts i)
 |0=>rfl
 |i+1=>by show Ei ts i++mk1 _=O9 (wN ts i++w1 _);rw [KM,W5 ts i,pR]
def LM (s t:Th):Nat→Bool
 |0=>(((s.at_:Nat):Int)==((t.at_:Nat):Int))
 |k+1=>LM s t k&&(s.r k==t.r k)
def aV (us ts:List Th):Nat→Bool
 |0=>true
 |i+1=>aV us ts i&&LM (us.getD i Th.z) (ts.getD i Th.z) 8
theorem iH {s t:Th}(h:LM s t 8=true):w1 s=w1 t:=by
 simp only [LM,α3,ε4]at h
 obtain⟨⟨⟨⟨⟨⟨⟨⟨h0,h1⟩,h2⟩,h3⟩,h4⟩,h5⟩,h6⟩,h7⟩,h8⟩:=h
 unfold w1
 rw [h0,h1,h2,h3,h4,h5,h6,h7,h8]
theorem iI {s t:Th}(h:w1 s=w1 t):LM s t 8=true:=by
 unfold w1 at h
 simp only [θ2,κ0,and_true]at h
 obtain⟨h0,h1,h2,h3,h4,h5,h6,h7,h8⟩:=h
 simp only [LM,α3,ε4]
 exact⟨⟨⟨⟨⟨⟨⟨⟨DM h0,DM h1⟩,DM h2⟩,DM h3⟩,DM h4⟩,DM h5⟩,DM h6⟩,DM h7⟩,DM h8⟩
theorem W6 {us ts:List Th}:∀i,aV us ts i=true↔wN us i=wN ts i
 |0=>⟨fun _=>rfl,fun _=>rfl⟩
 | i+1=>by
  have ih:=W6 (us:=us) (ts:=ts) i
  show(aV us ts i&&LM _ _ 8)=true↔wN us i++w1 _=wN ts i++w1 _
  rw [α3]
  constructor
  ·rintro ⟨h1,h2⟩;rw [ih.1 h1,iH h2]
  ·intro h
   obtain⟨h1,h2⟩:=ξ2 h (QS us ts i)
   exact⟨ih.2 h1,iI h2⟩
end Go.Proofs.YtbbdanhpphlbpaaGreatDoor.Mc
namespace Go.Proofs.YtbbdanhpphlbpaaGreatDoor.Mc
open Go.RowKit
def wY (m:Rg):List (List UInt8×UInt8):=[(Lib.itoa (m 0),32),(Lib.itoa (m 1),32),(Lib.itoa (m 2),32)]
theorem aW (m:Rg):LK m 3=O9 (wY m):=by simp [LK,O9,wY,γ2]
theorem aX (m:Rg):∀p∈wY m,Wd p:=fun p hp=>by
 simp only [wY,ζ9,υ1,μ9]at hp
 rcases hp with rfl|rfl|rfl<;>exact pP _
theorem iJ {us ts:List Th}{n:Nat}{a b:Rg}(h:Ei us n++LK a 3=Ei ts n++LK b 3):aV us ts n=true∧a 0=b 0∧a 1=b 1∧a 2=b 2:=by
 rw [W5,W5,aW,aW,←KM,←KM]at h
 have e:=SA (fun p hp=>(ζ6.1 hp).elim (W4 us n p) (aX a p)) (fun p hp=>(ζ6.1 hp).elim (W4 ts n p) (aX b p)) h
 obtain⟨e1,e2⟩:=ξ2 e (QS us ts n)
 simp only [wY,θ2,κ0,and_true]at e2
 exact⟨(W6 n).2 e1,DM e2.1,DM e2.2.1,DM e2.2.2⟩
theorem QT {us ts:List Th}:∀{n:Nat},aV us ts n=true→∀i,i<n→LM (us.getD i Th.z) (ts.getD i Th.z) 8=true
 |0,_,i,hi=>absurd hi (ξ3 _)
 |n+1,h,i,hi=>by
  have h':(aV us ts n&&LM (us.getD n Th.z) (ts.getD n Th.z) 8)=true:=h
  rw [α3]at h'
  by_cases e:i=n
  ·subst e;exact h'.2
  ·exact QT h'.1 i (by omega)
theorem QU {s t:Th}:∀{k:Nat},LM s t k=true→s.at_=t.at_∧∀j,j<k→s.r j=t.r j
 |0,h=>by
  have h':(((s.at_:Nat):Int)==((t.at_:Nat):Int))=true:=h
  exact⟨by have:=ν4 h';omega,fun j hj=>absurd hj (ξ3 _)⟩
 |k+1,h=>by
  have h':(LM s t k&&(s.r k==t.r k))=true:=h
  rw [α3]at h'
  obtain⟨h1,h2⟩:=QU h'.1
  refine⟨h1,fun j hj=>?_⟩
  by_cases e:j=k
  ·subst e;exact ν4 h'.2
  ·exact h2 j (by omega)
theorem SB {cs:List Ak}{us ts:List Th}{n:Nat}(h:aV us ts n=true):∀k,k≤n→Ce cs us k=Ce cs ts k
 |0,_=>rfl
 |k+1,hk=>by
  have e:(us.getD (((k:Nat):Int).toNat) Th.z).at_=(ts.getD (((k:Nat):Int).toNat) Th.z).at_:=(QU (QT h k (by omega))).1
  unfold Ce
  rw [SB h k (by omega),e]
theorem iK {us ts:List Th}{n:Nat}{a b:Rg}(h:aV us ts n=true)(hn:n≤3)(h0:a 0=b 0)(h1:a 1=b 1)(h2:a 2=b 2):HW (Jf (GD us) n) a=HW (Jf (GD ts) n) b:=by
 have hr:∀j,j<24→Jf (GD us) n j=Jf (GD ts) n j:=fun j hj=>by
  unfold Jf
  split
  ·next hc=>
   unfold GD
   exact(QU (QT h (j / 8) (by omega))).2 (j % 8) (by omega)
  ·rfl
 unfold HW
 rw [h0,h1,h2]
 simp only [hr 0 (by decide),hr 1 (by decide),hr 2 (by decide),hr 3 (by decide),hr 4 (by decide),hr 5 (by decide),hr 6 (by decide),hr 7 (by decide),hr 8 (by decide),hr 9 (by decide),hr 10 (by decide),hr 11 (by decide),hr 12 (by decide),hr 13 (by decide),hr 14 (by decide),hr 15 (by decide),hr 16 (by decide),hr 17 (by decide),hr 18 (by decide),hr 19 (by decide),hr 20 (by decide),hr 21 (by decide),hr 22 (by decide),hr 23 (by decide)]
theorem aY {α:Type}{q:Nat}{G Gd:List α}(h:G.take q=Gd.take q):(G.take q).take q=Gd.take q:=by rw [υ6,Nat.min_self];exact h
end Go.Proofs.YtbbdanhpphlbpaaGreatDoor.Mc
