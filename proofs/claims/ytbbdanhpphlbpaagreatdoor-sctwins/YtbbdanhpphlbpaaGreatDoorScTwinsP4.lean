/- ScTwins, part 4: the engine, contracts, theory. -/
import Derived.Test.YtbbdanhpphlbpaaGreatDoorScTwinsP3
import Derived.WalkKit
import Derived.Shelf.Small.Strs
import Derived.Shelf.Strings.Search3
import Derived.Lib.IndexMore
set_option linter.unusedVariables false
set_option linter.unusedSimpArgs false
set_option linter.unusedSectionVars false
set_option maxRecDepth 100000
set_option maxHeartbeats 2000000
namespace Go.Proofs.YtbbdanhpphlbpaaGreatDoor.Mc
open Go.RowKit
set_option simprocs false
abbrev Mv:Type:=Int×Int×Int
abbrev dK (v:Mv):List SV:=[.int .i64 v.1,.int .i64 v.2.1,.int .i64 v.2.2,.z9]
abbrev GU (l:List Mv):Nat→List SV:=fun zz=>dK (l.getD zz (0,0,0))
abbrev _root_.Go.Proofs.YtbbdanhpphlbpaaGreatDoor.BZ (ts:List Th)(k:Int):Th:=ts.getD ((k).toNat) Th.z
def Ce (cs:List Ak)(ts:List Th):Nat→List Mv
 |0=>[]
 |k+1=>Ce cs ts k++(if(((BZ ts (k:Int)).at_:Nat):Int)=(((cs.getD (((k:Int)).toNat) Ak.z).l.length:Nat):Int)then []else [(2,(k:Int),(((BZ ts (k:Int)).at_:Nat):Int))])
theorem HL (cs:List Ak)(ts:List Th):∀k,(Ce cs ts k).length≤k
 |0=>β7 _
 |k+1=>by
  have h:=HL cs ts k
  unfold Ce
  rw [α4]
  split<;>simp<;>omega
theorem VA {cs:List Ak}{ts:List Th}:∀{n k:Nat},k<(Ce cs ts n).length→∃t:Nat,t<n∧(Ce cs ts n).getD k (0,0,0)=(2,(t:Int),((ts.getD t Th.z).at_:Int))∧(ts.getD t Th.z).at_≠(cs.getD t Ak.z).l.length
 |0,k,h=>by cases h
 | n+1,k,h=>by
  unfold Ce at h⊢
  by_cases hk:k<(Ce cs ts n).length
  ·obtain⟨t,h1,h2,h3⟩:=VA hk
   exact⟨t,by omega,by rw [α6,α1 hk,←α6];exact h2,h3⟩
  ·by_cases e:(((BZ ts (n:Int)).at_:Nat):Int)=(((cs.getD (((n:Int)).toNat) Ak.z).l.length:Nat):Int)
   ·rw [if_pos e,ε9]at h;exact absurd h hk
   ·rw [if_neg e,α4]at h
    refine⟨n,by omega,?_,fun h2=>e (congrArg (fun z:Nat=>(z:Int)) h2)⟩
    have:k=(Ce cs ts n).length:=by simp at h;omega
    subst this
    rw [if_neg e]
    simp [List.getD]
theorem Zq {l:List Mv}{x:Mv}{k:Nat}(h:k<l.length):(l++[x]).getD k (0,0,0)=l.getD k (0,0,0):=by simp [List.getD,α1 h]
theorem uE (l:List Mv)(x:Mv):(l++[x]).length=l.length+1:=by simp
theorem yJ (q:Nat)(l:List Mv)(x:Mv):SV.sl q (l.length+1) 0=SV.sl q (l++[x]).length 0:=by rw [uE]
theorem Zr {l:List Mv}{x:Mv}:(l++[x]).getD l.length (0,0,0)=x:=by simp [List.getD]
theorem _root_.Go.Proofs.YtbbdanhpphlbpaaGreatDoor.Sy.mvA {n:Nat}{ks:List Nat}{G0:Gr}{w0:World}{T:List (Nat×SV)}{H:Hp}{G:Gr}{a:Act}{w:World}{E:Nat}(q t:Nat){l l':List Mv}(e:l'=l)(A:Sy n T H ks G0 w0 G a w)(hq:lg H q=some (some (.row E 4 l.length 0 (GU l))))(ht:look T t=some (.sl q l.length 0)):Sy n ((t,.sl q l'.length 0)::T) (Cd H q (some (.row E 4 l'.length 0 (GU l')))) ks G0 w0 G a w:=by
 subst e
 have hs:Cd H q (some (.row E 4 l'.length 0 (GU l')))=H:=by
  rw [BI]at hq
  rw [BJ]
  apply θ5
  intro j
  by_cases hj:j=q
  ·subst hj;rw [γ7 (α0.1 hq).1,hq]
  ·rw [γ0 (ζ1 hj)]
 rw [hs]
 exact A.say t _ ht rfl
abbrev _root_.Go.Proofs.YtbbdanhpphlbpaaGreatDoor.Bt (i:Nat)(m:Nat→Int):List SV:=[.ptr i 0,.int .i64 (m 0),.int .i64 (m 1),.int .i64 (m 2)]
theorem XN (m:Nat→Int)(cs:List Ak)(ts:List Th)(nn:Nat)(hC:BR cs ts nn)(EP:nn≤3):CE (An cs) Tryz.prog 21 [.ptr 0 0] [some (.blk (Bt 1 m)),some (.blk [.sl 2 nn 0]),some (Ay cs ts nn)] (Rt (.sl 3 ((Ce cs ts nn).length) 0) [some (.blk (Bt 1 m)),some (.blk [.sl 2 nn 0]),some (Ay cs ts nn),some (.row 44 4 ((Ce cs ts nn).length) 0 (GU (Ce cs ts nn)))]):=
 BB (n:=38) (by kernel_rfl) Tryz.func21 rfl rfl rfl fun G w a h0 hI A=>N9 12 A rfl rfl fun A=>have A:=A.nilRow 3 44 4 (GU []) rfl (fun z=>⟨_,rfl,rfl⟩);N9 5 A rfl rfl fun A=>C9 [1,2] (MB cs ts nn) A rfl fun A=>N9 4 A rfl rfl fun A=>B7 (fun(k:Nat)=>[(0,.ptr 0 0),(2,.sla none 0 0),(3,.sl 3 ((Ce cs ts k).length) 0),(11,.int .i64 ((nn:Nat):Int)),(12,.int .i64 (k:Int))]) (fun(k:Nat)=>[some (.blk (Bt 1 m)),some (.blk [.sl 2 nn 0]),some (Ay cs ts nn),some (.row 44 4 ((Ce cs ts k).length) 0 (GU (Ce cs ts k)))]) (fun(k:Nat)=>k≤nn) (fun(k:Nat)=>nn - k) 0 (β8 _) ((A.cut [0,2,3,11,12] rfl).trunc 4 rfl rfl rfl (Cj h0 rfl)) fun k hK {G a w} A=>N9 6 A rfl rfl fun A=>Aq 13 A rfl
   (fun h1 A=>N9 18 A rfl rfl fun A=>I9 [1,2] An.ok hI (Ku cs ts nn (k:Int) hC (by omega)) A rfl fun A=>N9 13 A rfl rfl fun A=>EZ 24 A rfl
    (fun h2 A=>N9 9 A rfl rfl fun A=>C9 [1,2] (Zi cs ts nn (k:Int) (by omega)) A rfl fun A=>N9 2 A rfl rfl fun A=>OP hX ((Ce cs ts k).length+1) (GU ((Ce cs ts k)++[(2,(k:Int),(((BZ ts (k:Int)).at_:Nat):Int))])) A rfl rfl rfl rfl (by have:=HL cs ts k;first|omega|(simp only [α4,α5,α7];omega)) rfl (fun q hq=>by show dK _=dK _;rw [Zq hq]) (by show dK _=_;rw [Zr]) (fun z=>⟨_,rfl,rfl⟩) fun A=>have A:=(A.rowAs 6 (((Ce cs ts k)++[(2,(k:Int),(((BZ ts (k:Int)).at_:Nat):Int))]).length) (GU ((Ce cs ts k)++[(2,(k:Int),(((BZ ts (k:Int)).at_:Nat):Int))])) rfl (uE _ _) (fun q hq=>rfl) (fun z=>⟨_,rfl,rfl⟩)).say 35 (.sl 6 (((Ce cs ts k)++[(2,(k:Int),(((BZ ts (k:Int)).at_:Nat):Int))]).length) 0) rfl (yJ _ _ _);N9 8 A rfl (Aj (by omega)<|Ah) fun A=>⟨k+1,_,(by omega),(by omega),(((Sy.mvA 6 3 (show(Ce cs ts (k+1))=((Ce cs ts k)++[(2,(k:Int),(((BZ ts (k:Int)).at_:Nat):Int))]) by show _++_=_;rw [if_neg h2]) A rfl rfl).cut [0,2,3,11,12] rfl).mv 3 [6] rfl rfl rfl rfl (by simp only [α5,α7]at h0;omega)).sayT (by rfl)⟩)
    (fun h2 A=>N9 8 A rfl (Aj (by omega)<|Ah) fun A=>⟨k+1,_,(by omega),(by omega),(((Sy.mvA 3 3 (show(Ce cs ts (k+1))=(Ce cs ts k) by show _++_=_;rw [if_pos h2];simp only [ε9]) A rfl rfl).cut [0,2,3,11,12] rfl).trunc 4 rfl rfl rfl (Cj h0 rfl)).sayT (by rfl)⟩))
   (fun h1 A=>N9 4 A rfl rfl fun A=>have I1:k=nn:=(by omega);have A:=Sy.mvA 3 3 (l':=Ce cs ts nn) (by rw [I1]) A rfl rfl;N9 6 A rfl rfl fun A=>Ns hX [3] A ⟨rfl,rfl⟩ rfl rfl rfl rfl rfl rfl rfl rfl h0)
theorem dL (m:Nat→Int)(cs:List Ak)(ts:List Th)(nn:Nat)(q:Int)(hq:0≤q∧q<3):Fn Tryz.prog 44 [.ptr 0 0,.int .i64 q] [some (.blk (Bt 1 m)),some (.blk [.sl 2 nn 0]),some (Ay cs ts nn)] (Rt (.int .i64 (m (q).toNat)) [some (.blk (Bt 1 m)),some (.blk [.sl 2 nn 0]),some (Ay cs ts nn)]):=
 Am (n:=10) (by kernel_rfl) Tryz.func44 rfl rfl rfl fun G w a h0 A=>N9 11 A rfl rfl fun A=>A9 A rfl (X7 (l:=[.ptr 1 0]) (r:=[]) (I:=fun _ _=>True) (fun _ _ _ _ _ _ _=>trivial) trivial (mF m q hq).toI rfl rfl rfl rfl rfl) fun A=>N9 4 A rfl rfl fun A=>R9 A rfl h0 rfl rfl rfl
theorem Zs (m:Nat→Int)(cs:List Ak)(ts:List Th)(nn:Nat)(q:Int)(hq:¬(0≤q∧q<3)):Fn Tryz.prog 44 [.ptr 0 0,.int .i64 q] [some (.blk (Bt 1 m)),some (.blk [.sl 2 nn 0]),some (Ay cs ts nn)] (Rt (.int .i64 0) [some (.blk (Bt 1 m)),some (.blk [.sl 2 nn 0]),some (Ay cs ts nn)]):=
 Am (n:=10) (by kernel_rfl) Tryz.func44 rfl rfl rfl fun G w a h0 A=>N9 11 A rfl rfl fun A=>A9 A rfl (X7 (l:=[.ptr 1 0]) (r:=[]) (I:=fun _ _=>True) (fun _ _ _ _ _ _ _=>trivial) trivial (mH m q hq).toI rfl rfl rfl rfl rfl) fun A=>N9 4 A rfl rfl fun A=>R9 A rfl h0 rfl rfl rfl
end Go.Proofs.YtbbdanhpphlbpaaGreatDoor.Mc
namespace Go.Proofs.YtbbdanhpphlbpaaGreatDoor
open Go.RowKit
abbrev HW (f m:Rg):List SV:=[.int .i64 (f 0),.int .i64 (f 1),.int .i64 (f 2),.int .i64 (f 3),.int .i64 (f 4),.int .i64 (f 5),.int .i64 (f 6),.int .i64 (f 7),.int .i64 (f 8),.int .i64 (f 9),.int .i64 (f 10),.int .i64 (f 11),.int .i64 (f 12),.int .i64 (f 13),.int .i64 (f 14),.int .i64 (f 15),.int .i64 (f 16),.int .i64 (f 17),.int .i64 (f 18),.int .i64 (f 19),.int .i64 (f 20),.int .i64 (f 21),.int .i64 (f 22),.int .i64 (f 23),.int .i64 (m 0),.int .i64 (m 1),.int .i64 (m 2)]
abbrev rZ (r:Rg):List SV:=[.int .i64 (r 0),.int .i64 (r 1),.int .i64 (r 2),.int .i64 (r 3),.int .i64 (r 4),.int .i64 (r 5),.int .i64 (r 6),.int .i64 (r 7)]
def VB (f:Rg)(t:Nat)(r:Rg):Rg:=fun j=>if 8*t≤j∧j<8*t+8 then r (j - 8*t)else f j
theorem dM {p p':SV}{s m k:Nat}{j:Int}{G:Gr}(h:den G p=den G p'):den G (.ix p s m j k)=den G (.ix p' s m j k):=by
 unfold den;rw [h]
theorem mM {i q a b:Nat}(h:8*a+b=q){G:Gr}:den G (.ix (.ix (.ptr i 0) 8 3 (a:Int) 0) 1 8 (b:Int) 0)=den G (.ptr i q):=by
 rw [dM (Cy (q:=8*a) a (by omega) G)]
 exact Cy b (by omega) G
section
variable {P:Program}{Y:Tb}{n:Nat}{ks:List Nat}{G0:Gr}{w0:World}{T:List (Nat×SV)}{H:Hp}{G:Gr}{a:Act}{w:World}{ops:Array Oper}{o:Oper}
theorem uF {x y:Operand}{ty i:Nat}{t j v:Int}{f m:Rg}{ti:TI}(hX:Y.ok P=true)(CJ:o.op=.store ty x y)(hg:BE ops T o.guard=some .run)(hx:Db T x=some (.ix (.ix (.ptr i 0) 8 3 t 0) 1 8 j 0))(hy:Db T y=some (.int .i64 v))(hH:lg H i=some (some (.blk (HW f m))))(HZ:Y.get ty=some ti)(Df:ti.row=none)(CA:ti.one=true)(ht:0≤t∧t<3)(hj:0≤j∧j<8):
  Bd P n ops ks G0 w0 T H o (.tup []) (Cd H i (some (.blk (HW (Bk f (8*t.toNat+j.toNat) v) m)))):=fun G a w A=>by
 have hw:=BQ (gd:=none) A hg
 obtain⟨d,op,ty',pos,af,gd⟩:=o
 simp only at CJ
 subst CJ
 have CH:=A.ev hx
 have Dp:=A.ev hy
 have key:∀p k:Nat,t=(p:Int)→j=(k:Int)→(∀q:List SV,sp (8*p+k) (HW f m) [.int .i64 v]=some q→q=HW (Bk f (8*t.toNat+j.toNat) v) m)→(∃q,sp (8*p+k) (HW f m) [.int .i64 v]=some q)→Bq P ops {dst:=d,op:=.store ty x y,type:=ty',pos:=pos,after:=af,guard:=gd} a w fun v' w'=>∃F,den (G++F) (.tup [])=some v'∧Ms (Cd H i (some (.blk (HW (Bk f (8*t.toNat+j.toNat) v) m)))) ks G0 w0 (G++F) w':=by
  intro p k hp hk hr ⟨q,hq⟩
  have e:=hr q hq
  rw [hp,hk,mM rfl]at CH
  have hs:Do ⟨Y,true⟩ H ty (.ptr i (8*p+k)) (.int .i64 v)=some (i,q,[]):=by
   have ht:Tx.get ⟨Y,true⟩ ty=some ti:=HZ
   simp only [Do,hH,ht,Df,CA,hq]
   rfl
  refine EE (X:=⟨Y,true⟩) hX A hs Ah CH Dp rfl rfl hw fun cs L vs' w' a1 a2 a3 a4 a5=>⟨[],rfl,?_⟩
  subst e
  simpa using (A.turn a1 a2 a3 a4 a5).ms
 have l8:j=0∨j=1∨j=2∨j=3∨j=4∨j=5∨j=6∨j=7:=by omega
 rcases jU ht with rfl|rfl|rfl
 ·rcases l8 with rfl|rfl|rfl|rfl|rfl|rfl|rfl|rfl
  ·exact key 0 0 rfl rfl (fun q h=>(β6 h).symm) ⟨_,rfl⟩
  ·exact key 0 1 rfl rfl (fun q h=>(β6 h).symm) ⟨_,rfl⟩
  ·exact key 0 2 rfl rfl (fun q h=>(β6 h).symm) ⟨_,rfl⟩
  ·exact key 0 3 rfl rfl (fun q h=>(β6 h).symm) ⟨_,rfl⟩
  ·exact key 0 4 rfl rfl (fun q h=>(β6 h).symm) ⟨_,rfl⟩
  ·exact key 0 5 rfl rfl (fun q h=>(β6 h).symm) ⟨_,rfl⟩
  ·exact key 0 6 rfl rfl (fun q h=>(β6 h).symm) ⟨_,rfl⟩
  ·exact key 0 7 rfl rfl (fun q h=>(β6 h).symm) ⟨_,rfl⟩
 ·rcases l8 with rfl|rfl|rfl|rfl|rfl|rfl|rfl|rfl
  ·exact key 1 0 rfl rfl (fun q h=>(β6 h).symm) ⟨_,rfl⟩
  ·exact key 1 1 rfl rfl (fun q h=>(β6 h).symm) ⟨_,rfl⟩
  ·exact key 1 2 rfl rfl (fun q h=>(β6 h).symm) ⟨_,rfl⟩
  ·exact key 1 3 rfl rfl (fun q h=>(β6 h).symm) ⟨_,rfl⟩
  ·exact key 1 4 rfl rfl (fun q h=>(β6 h).symm) ⟨_,rfl⟩
  ·exact key 1 5 rfl rfl (fun q h=>(β6 h).symm) ⟨_,rfl⟩
  ·exact key 1 6 rfl rfl (fun q h=>(β6 h).symm) ⟨_,rfl⟩
  ·exact key 1 7 rfl rfl (fun q h=>(β6 h).symm) ⟨_,rfl⟩
 ·rcases l8 with rfl|rfl|rfl|rfl|rfl|rfl|rfl|rfl
  ·exact key 2 0 rfl rfl (fun q h=>(β6 h).symm) ⟨_,rfl⟩
  ·exact key 2 1 rfl rfl (fun q h=>(β6 h).symm) ⟨_,rfl⟩
  ·exact key 2 2 rfl rfl (fun q h=>(β6 h).symm) ⟨_,rfl⟩
  ·exact key 2 3 rfl rfl (fun q h=>(β6 h).symm) ⟨_,rfl⟩
  ·exact key 2 4 rfl rfl (fun q h=>(β6 h).symm) ⟨_,rfl⟩
  ·exact key 2 5 rfl rfl (fun q h=>(β6 h).symm) ⟨_,rfl⟩
  ·exact key 2 6 rfl rfl (fun q h=>(β6 h).symm) ⟨_,rfl⟩
  ·exact key 2 7 rfl rfl (fun q h=>(β6 h).symm) ⟨_,rfl⟩
theorem mN {x y:Operand}{ty i:Nat}{t:Int}{r f m:Rg}{ti:TI}(hX:Y.ok P=true)(CJ:o.op=.store ty x y)(hg:BE ops T o.guard=some .run)(hx:Db T x=some (.ix (.ptr i 0) 8 3 t 0))(hy:Db T y=some (.agg (rZ r)))(hH:lg H i=some (some (.blk (HW f m))))(HZ:Y.get ty=some ti)(Df:ti.row=some 8)(ht:0≤t∧t<3):
  Bd P n ops ks G0 w0 T H o (.tup []) (Cd H i (some (.blk (HW (VB f t.toNat r) m)))):=fun G a w A=>by
 have hw:=BQ (gd:=none) A hg
 obtain⟨d,op,ty',pos,af,gd⟩:=o
 simp only at CJ
 subst CJ
 have CH:=A.ev hx
 have Dp:=A.ev hy
 have key:∀p:Nat,t=(p:Int)→(∀q:List SV,sp (8*p) (HW f m) (rZ r)=some q→q=HW (VB f t.toNat r) m)→(∃q,sp (8*p) (HW f m) (rZ r)=some q)→Bq P ops {dst:=d,op:=.store ty x y,type:=ty',pos:=pos,after:=af,guard:=gd} a w fun v' w'=>∃F,den (G++F) (.tup [])=some v'∧Ms (Cd H i (some (.blk (HW (VB f t.toNat r) m)))) ks G0 w0 (G++F) w':=by
  intro p hp hr ⟨q,hq⟩
  have e:=hr q hq
  rw [hp,Cy (q:=8*p) p (by omega)]at CH
  have hs:Do ⟨Y,true⟩ H ty (.ptr i (8*p)) (.agg (rZ r))=some (i,q,[]):=by
   have ht:Tx.get ⟨Y,true⟩ ty=some ti:=HZ
   simp only [Do,hH,ht,Df,hq]
   rfl
  refine EE (X:=⟨Y,true⟩) hX A hs Ah CH Dp rfl rfl hw fun cs L vs' w' a1 a2 a3 a4 a5=>⟨[],rfl,?_⟩
  subst e
  simpa using (A.turn a1 a2 a3 a4 a5).ms
 rcases jU ht with rfl|rfl|rfl
 ·exact key 0 rfl (fun q h=>(β6 h).symm) ⟨_,rfl⟩
 ·exact key 1 rfl (fun q h=>(β6 h).symm) ⟨_,rfl⟩
 ·exact key 2 rfl (fun q h=>(β6 h).symm) ⟨_,rfl⟩
theorem Kx {x:Operand}{ty i q:Nat}{j:Int}{cs:List SV}{v:Nat→SV}{ti:TI}(hX:Y.ok P=true)(CJ:o.op=.load ty x)(hg:BE ops T o.guard=some .run)(hx:Db T x=some (.ix (.ptr i q) 1 3 j 0))(hH:lg H i=some (some (.blk cs)))(HZ:Y.get ty=some ti)(Df:ti.row=none)(CA:ti.one=true)(hj:0≤j∧j<3)(hc:∀k,k<3→lg cs (q+k)=some (v k)):
  Bd P n ops ks G0 w0 T H o (v j.toNat) H:=fun G a w A=>by
 have hw:=BQ (gd:=none) A hg
 obtain⟨d,op,ty',pos,af,gd⟩:=o
 simp only at CJ
 subst CJ
 have CH:=A.ev hx
 have key:∀k:Nat,j=(k:Int)→k<3→v j.toNat=v k→Bq P ops {dst:=d,op:=.load ty x,type:=ty',pos:=pos,after:=af,guard:=gd} a w fun v' w'=>∃F,den (G++F) (v j.toNat)=some v'∧Ms H ks G0 w0 (G++F) w':=by
  intro k hk h3 e
  have hr:=hc k h3
  rw [hk,Cy (q:=q+k) k (by omega)]at CH
  have hs:Ev ⟨Y,true⟩ H ty (.ptr i (q+k))=some (v k,[]):=by
   have ht:Tx.get ⟨Y,true⟩ ty=some ti:=HZ
   simp only [Ev,Gg,hH,LV,DX,ht,Df,CA,hr,θ3]
  obtain⟨z,hz,h3⟩:=FZ (X:=⟨Y,true⟩) (P:=P) (ops:=ops) (d:=d) (ty:=ty') (pos:=pos) (af:=af) (gd:=gd) (x:=x) hX A hs CH
  rw [e]
  exact h3 (fun p hp=>by cases hp) rfl hw _ ⟨[],by simpa using hz,by simpa using A.ms⟩
 rcases jU hj with rfl|rfl|rfl
 ·exact key 0 rfl (by decide) rfl
 ·exact key 1 rfl (by decide) rfl
 ·exact key 2 rfl (by decide) rfl
theorem uG {x y:Operand}{ty i q:Nat}{j v:Int}{cs:List SV}{cs':Nat→List SV}{ti:TI}(hX:Y.ok P=true)(CJ:o.op=.store ty x y)(hg:BE ops T o.guard=some .run)(hx:Db T x=some (.ix (.ptr i q) 1 3 j 0))(hy:Db T y=some (.int .i64 v))(hH:lg H i=some (some (.blk cs)))(HZ:Y.get ty=some ti)(Df:ti.row=none)(CA:ti.one=true)(hj:0≤j∧j<3)(hc:∀k,k<3→sp (q+k) cs [.int .i64 v]=some (cs' k)){H':Hp}(ZG:Cd H i (some (.blk (cs' j.toNat)))=H'):
  Bd P n ops ks G0 w0 T H o (.tup []) H':=fun G a w A=>by
 subst ZG
 have hw:=BQ (gd:=none) A hg
 obtain⟨d,op,ty',pos,af,gd⟩:=o
 simp only at CJ
 subst CJ
 have CH:=A.ev hx
 have Dp:=A.ev hy
 have key:∀k:Nat,j=(k:Int)→k<3→cs' j.toNat=cs' k→Bq P ops {dst:=d,op:=.store ty x y,type:=ty',pos:=pos,after:=af,guard:=gd} a w fun v' w'=>∃F,den (G++F) (.tup [])=some v'∧Ms (Cd H i (some (.blk (cs' j.toNat)))) ks G0 w0 (G++F) w':=by
  intro k hk h3 e
  have hr:=hc k h3
  rw [hk,Cy (q:=q+k) k (by omega)]at CH
  have hs:Do ⟨Y,true⟩ H ty (.ptr i (q+k)) (.int .i64 v)=some (i,cs' k,[]):=by
   have ht:Tx.get ⟨Y,true⟩ ty=some ti:=HZ
   simp only [Do,hH,ht,Df,CA,hr]
   rfl
  rw [e]
  refine EE (X:=⟨Y,true⟩) hX A hs Ah CH Dp rfl rfl hw fun cs L vs' w' a1 a2 a3 a4 a5=>⟨[],rfl,?_⟩
  simpa using (A.turn a1 a2 a3 a4 a5).ms
 rcases jU hj with rfl|rfl|rfl
 ·exact key 0 rfl (by decide) rfl
 ·exact key 1 rfl (by decide) rfl
 ·exact key 2 rfl (by decide) rfl
end
def Jf (R:Nat→Rg)(n:Nat):Rg:=fun j=>if j / 8<n then R (j / 8) (j % 8)else 0
def Su (R:Nat→Rg)(n k:Nat):Rg:=fun j=>if j / 8<n∨(j / 8=n∧j % 8<k)then R (j / 8) (j % 8)else 0
theorem mO (R:Nat→Rg)(n:Nat):Su R n 0=Jf R n:=by
 funext j;unfold Su Jf
 by_cases h:j / 8<n
 ·rw [if_pos h,if_pos (.inl h)]
 ·rw [if_neg h,if_neg (by omega)]
theorem mP (R:Nat→Rg)(n:Nat):Su R n 8=Jf R (n+1):=by
 funext j;unfold Su Jf
 by_cases h:j / 8<n+1
 ·rw [if_pos h,if_pos (by omega)]
 ·rw [if_neg h,if_neg (by omega)]
theorem dN (R:Nat→Rg)(n k:Nat)(hk:k<8):Bk (Su R n k) (8*n+k) (R n k)=Su R n (k+1):=by
 funext j;unfold Bk Su
 by_cases h:j=8*n+k
 ·subst h
  have h1:(8*n+k) / 8=n:=by omega
  have h2:(8*n+k) % 8=k:=by omega
  rw [if_pos rfl,if_pos (by omega),h1,h2]
 ·rw [if_neg h]
  by_cases h2:j / 8<n∨(j / 8=n∧j % 8<k)
  ·rw [if_pos h2,if_pos (by omega)]
  ·rw [if_neg h2,if_neg (by omega)]
theorem dO (R:Nat→Rg)(n:Nat):VB (Jf R n) n (R n)=Jf R (n+1):=by
 funext j;unfold VB Jf
 by_cases h:8*n≤j∧j<8*n+8
 ·have h1:j / 8=n:=by omega
  have h2:j % 8=j - 8*n:=by omega
  rw [if_pos h,if_pos (by omega),h1,h2]
 ·rw [if_neg h]
  by_cases h2:j / 8<n
  ·rw [if_pos h2,if_pos (by omega)]
  ·rw [if_neg h2,if_neg (by omega)]
end Go.Proofs.YtbbdanhpphlbpaaGreatDoor
namespace Go.Proofs.YtbbdanhpphlbpaaGreatDoor.Mc
open Go.RowKit
set_option simprocs false
theorem YC (cs:List Ak)(ts:List Th)(nn:Nat)(T9:0<nn)(xI:nn≤1000000):Fn Tryz.prog 102 [.sl 0 nn 0] [some (Ay cs ts nn)] (Rt (.sl 1 nn 0) [some (Ay cs ts nn),some (Ay cs ts nn)]):=
 Am (n:=8) (by kernel_rfl) Tryz.func102 rfl rfl rfl fun G w a h0 A=>N9 9 A rfl rfl fun A=>tN hX A rfl rfl T9 fun A=>N9 9 A rfl rfl fun A=>Xz hX nn (fun zz=>HJ (cs.getD zz Ak.z) (ts.getD zz Th.z)) A rfl rfl rfl rfl (β7 _) (by omega) xI (by omega) (fun k hk=>by omega) (fun k hk=>by show HJ _ _=HJ _ _;rw [ε0]) (fun z=>⟨_,rfl,rfl⟩) (fun k hk=>⟨_,rfl,Ah⟩) fun A=>N9 4 A rfl rfl fun A=>Ns hX [2] A ⟨rfl,rfl⟩ rfl rfl rfl rfl rfl rfl rfl rfl h0
theorem dP (cs:List Ak)(ts:List Th)(nn:Nat)(T9:0<nn)(xI:nn≤1000000):Fn Tryz.prog 65 [.ptr 0 0] [some (.blk [.sl 1 nn 0]),some (Ay cs ts nn)] (Rt (.ptr 2 0) [some (.blk [.sl 1 nn 0]),some (Ay cs ts nn),some (.blk [.sl 3 nn 0]),some (Ay cs ts nn)]):=
 Am (n:=10) (by kernel_rfl) Tryz.func65 rfl rfl rfl fun G w a h0 A=>N9 11 A rfl rfl fun A=>C9 [1] (YC cs ts nn T9 xI) A rfl fun A=>N9 6 A rfl rfl fun A=>Ns hX [3,2] (x:=.ptr 2 0) (H':=[some (.blk [.sl 1 nn 0]),some (Ay cs ts nn),some (.blk [.sl 3 nn 0]),some (Ay cs ts nn)]) A ⟨rfl,rfl⟩ rfl rfl rfl rfl rfl rfl rfl rfl h0
theorem dQ (cs:List Ak)(ts:List Th)(nn:Nat)(th g:Int)(Eb:0≤th∧th<((nn:Nat):Int))(hg:0≤g∧g<8):Fn Tryz.prog 41 [.ptr 0 0,.int .i64 th,.int .i64 g] [some (.blk [.sl 1 nn 0]),some (Ay cs ts nn)] (Rt (.int .i64 ([((ts.getD ((th).toNat) Th.z).r 0),((ts.getD ((th).toNat) Th.z).r 1),((ts.getD ((th).toNat) Th.z).r 2),((ts.getD ((th).toNat) Th.z).r 3),((ts.getD ((th).toNat) Th.z).r 4),((ts.getD ((th).toNat) Th.z).r 5),((ts.getD ((th).toNat) Th.z).r 6),((ts.getD ((th).toNat) Th.z).r 7)].getD (g).toNat 0)) [some (.blk [.sl 1 nn 0]),some (Ay cs ts nn)]):=
 Am (n:=21) (by kernel_rfl) Tryz.func41 rfl rfl rfl fun G w a h0 A=>N9 16 A rfl rfl fun A=>fork 12 A rfl
  (fun h1 A=>absurd h1 (by simp;omega))
  (fun h1 A=>N9 7 A rfl rfl fun A=>C9 [0,1] (Ux cs ts nn th Eb) A rfl fun A=>N9 1 A rfl rfl fun A=>A9 A rfl (lY rfl rfl rfl rfl (by omega)) fun A=>N9 7 A rfl (Aj (by omega)<|Aj (by omega)<|Aj (by omega)<|Aj (by omega)<|Aj (by omega)<|Ah) fun A=>R9 A rfl h0 rfl rfl rfl)
end Go.Proofs.YtbbdanhpphlbpaaGreatDoor.Mc
namespace Go.Proofs.YtbbdanhpphlbpaaGreatDoor.Mc
open Go.RowKit
set_option simprocs false
abbrev GD (ts:List Th):Nat→Rg:=fun k=>(ts.getD k Th.z).r
theorem uH {r:Rg}{g:Int}(h:0≤g∧g<8):[(r 0),(r 1),(r 2),(r 3),(r 4),(r 5),(r 6),(r 7)].getD g.toNat 0=r g.toNat:=by
 have:g=0∨g=1∨g=2∨g=3∨g=4∨g=5∨g=6∨g=7:=by omega
 rcases this with rfl|rfl|rfl|rfl|rfl|rfl|rfl|rfl<;>rfl
theorem dR (cs:List Ak)(ts:List Th)(nn:Nat)(th g:Int)(Eb:0≤th∧th<((nn:Nat):Int))(hg:0≤g∧g<8):Fn Tryz.prog 41 [.ptr 0 0,.int .i64 th,.int .i64 g] [some (.blk [.sl 1 nn 0]),some (Ay cs ts nn)] (Rt (.int .i64 (GD ts th.toNat g.toNat)) [some (.blk [.sl 1 nn 0]),some (Ay cs ts nn)]):=by
 have h:=dQ cs ts nn th g Eb hg
 rw [uH hg]at h
 exact h
theorem mQ (m:Nat→Int)(cs:List Ak)(ts:List Th)(nn:Nat)(EP:nn≤3):Fn Tryz.prog 70 [.ptr 0 1,.ptr 1 0] [some (.blk (Bt 1 m)),some (.blk [.sl 2 nn 0]),some (Ay cs ts nn)] (Rt (.agg (HW (Jf (GD ts) nn) m)) [some (.blk (Bt 1 m)),some (.blk [.sl 2 nn 0]),some (Ay cs ts nn)]):=
 Am (n:=32) (by kernel_rfl) Tryz.func70 rfl rfl rfl fun G w a h0 A=>N9 17 A rfl rfl fun A=>have A:=A.sayH (H':=[some (.blk (Bt 1 m)),some (.blk [.sl 2 nn 0]),some (Ay cs ts nn),some (.blk [.z9,.z9,.z9,.z9,.z9,.z9,.z9,.z9,.z9,.z9,.z9,.z9,.z9,.z9,.z9,.z9,.z9,.z9,.z9,.z9,.z9,.z9,.z9,.z9,.z9,.z9,.z9]),some (.blk (HW (Jf (GD ts) 0) m))]) (by rfl);N9 2 A rfl rfl fun A=>C9 [1,2] (MB cs ts nn) A rfl fun A=>N9 4 A rfl rfl fun A=>B7 (fun(k:Nat)=>[(1,.ptr 1 0),(4,.ptr 3 0),(5,.ptr 4 0),(13,.int .i64 ((nn:Nat):Int)),(14,.int .i64 (k:Int))]) (fun(k:Nat)=>[some (.blk (Bt 1 m)),some (.blk [.sl 2 nn 0]),some (Ay cs ts nn),some (.blk [.z9,.z9,.z9,.z9,.z9,.z9,.z9,.z9,.z9,.z9,.z9,.z9,.z9,.z9,.z9,.z9,.z9,.z9,.z9,.z9,.z9,.z9,.z9,.z9,.z9,.z9,.z9]),some (.blk (HW (Jf (GD ts) k) m))]) (fun(k:Nat)=>k≤nn) (fun(k:Nat)=>nn - k) 0 (β8 _) ((A.cut [1,4,5,13,14] rfl).trunc 5 rfl rfl rfl (Cj h0 rfl)) fun k hK {G a w} A=>N9 6 A rfl rfl fun A=>Aq 15 A rfl
   (fun h1 A=>N9 12 A rfl rfl fun A=>have A:=A.sayH (H':=[some (.blk (Bt 1 m)),some (.blk [.sl 2 nn 0]),some (Ay cs ts nn),some (.blk [.z9,.z9,.z9,.z9,.z9,.z9,.z9,.z9,.z9,.z9,.z9,.z9,.z9,.z9,.z9,.z9,.z9,.z9,.z9,.z9,.z9,.z9,.z9,.z9,.z9,.z9,.z9]),some (.blk (HW (Su (GD ts) k 0) m))]) (by rw [mO]);N9 5 A rfl rfl fun A=>B7 (fun(j:Nat)=>[(1,.ptr 1 0),(4,.ptr 3 0),(5,.ptr 4 0),(6,.int .i64 (k:Int)),(13,.int .i64 ((nn:Nat):Int)),(14,.int .i64 (k:Int)),(17,.int .i64 (j:Int))]) (fun(j:Nat)=>[some (.blk (Bt 1 m)),some (.blk [.sl 2 nn 0]),some (Ay cs ts nn),some (.blk [.z9,.z9,.z9,.z9,.z9,.z9,.z9,.z9,.z9,.z9,.z9,.z9,.z9,.z9,.z9,.z9,.z9,.z9,.z9,.z9,.z9,.z9,.z9,.z9,.z9,.z9,.z9]),some (.blk (HW (Su (GD ts) k j) m))]) (fun(j:Nat)=>j≤8) (fun(j:Nat)=>8 - j) 0 (β8 _) ((A.cut [1,4,5,6,13,14,17] rfl).trunc 5 rfl rfl rfl (Cj h0 rfl)) fun j hJ {G a w} A=>N9 6 A rfl rfl fun A=>Aq 18 A rfl
     (fun h2 A=>N9 11 A rfl rfl fun A=>Ba hX By [] [(5,.int .i64 (GD ts ((k:Int)).toNat ((j:Int)).toNat),[some (.blk (Bt 1 m)),some (.blk [.sl 2 nn 0]),some (Ay cs ts nn),some (.blk [.z9,.z9,.z9,.z9,.z9,.z9,.z9,.z9,.z9,.z9,.z9,.z9,.z9,.z9,.z9,.z9,.z9,.z9,.z9,.z9,.z9,.z9,.z9,.z9,.z9,.z9,.z9]),some (.blk (HW (Su (GD ts) k j) m))]),(9,.tup [],[some (.blk (Bt 1 m)),some (.blk [.sl 2 nn 0]),some (Ay cs ts nn),some (.blk [.z9,.z9,.z9,.z9,.z9,.z9,.z9,.z9,.z9,.z9,.z9,.z9,.z9,.z9,.z9,.z9,.z9,.z9,.z9,.z9,.z9,.z9,.z9,.z9,.z9,.z9,.z9]),some (.blk (HW (Bk (Su (GD ts) k j) (8*((k:Int)).toNat+((j:Int)).toNat) (GD ts ((k:Int)).toNat ((j:Int)).toNat)) m))])] A rfl (Aj (by omega)<|Aj (by omega)<|Aj (by omega)<|Aj (by omega)<|Ah) rfl rfl (by kernel_rfl) ⟨ED [1,2] (dR cs ts nn (k:Int) (j:Int) (by omega) (by omega)) rfl rfl rfl rfl rfl rfl rfl,⟨uF (i:=4) (f:=Su (GD ts) k j) (m:=m) hX rfl rfl rfl rfl rfl rfl rfl rfl (by omega) (by omega),trivial⟩⟩ trivial fun A=>N9 6 A rfl (Aj (by omega)<|Ah) fun A=>⟨j+1,_,(by omega),(by omega),(((A.sayH (H':=[some (.blk (Bt 1 m)),some (.blk [.sl 2 nn 0]),some (Ay cs ts nn),some (.blk [.z9,.z9,.z9,.z9,.z9,.z9,.z9,.z9,.z9,.z9,.z9,.z9,.z9,.z9,.z9,.z9,.z9,.z9,.z9,.z9,.z9,.z9,.z9,.z9,.z9,.z9,.z9]),some (.blk (HW (Su (GD ts) k (j+1)) m))]) (by rw [←dN (GD ts) k j (by omega)];rfl)).cut [1,4,5,6,13,14,17] rfl).trunc 5 rfl rfl rfl (Cj h0 rfl)).sayT (by rfl)⟩)
     (fun h2 A=>N9 4 A rfl rfl fun A=>have hj8:j=8:=(by omega);have A:=A.sayH (H':=[some (.blk (Bt 1 m)),some (.blk [.sl 2 nn 0]),some (Ay cs ts nn),some (.blk [.z9,.z9,.z9,.z9,.z9,.z9,.z9,.z9,.z9,.z9,.z9,.z9,.z9,.z9,.z9,.z9,.z9,.z9,.z9,.z9,.z9,.z9,.z9,.z9,.z9,.z9,.z9]),some (.blk (HW (Jf (GD ts) (k+1)) m))]) (by rw [hj8,mP]);N9 4 A rfl (Aj (by omega)<|Ah) fun A=>⟨k+1,_,(by omega),(by omega),((A.cut [1,4,5,13,14] rfl).trunc 5 rfl rfl rfl (Cj h0 rfl)).sayT (by rfl)⟩))
   (fun h1 A=>N9 4 A rfl rfl fun A=>have I1:k=nn:=(by omega);have A:=A.sayH (H':=[some (.blk (Bt 1 m)),some (.blk [.sl 2 nn 0]),some (Ay cs ts nn),some (.blk [.z9,.z9,.z9,.z9,.z9,.z9,.z9,.z9,.z9,.z9,.z9,.z9,.z9,.z9,.z9,.z9,.z9,.z9,.z9,.z9,.z9,.z9,.z9,.z9,.z9,.z9,.z9]),some (.blk (HW (Jf (GD ts) nn) m))]) (by rw [I1]);N9 6 A rfl rfl fun A=>R9 A rfl h0 rfl rfl rfl)
theorem VC (m:Nat→Int)(cs:List Ak)(ts:List Th)(nn:Nat)(EP:nn≤3):Fn Tryz.prog 23 [.ptr 0 0] [some (.blk (Bt 1 m)),some (.blk [.sl 2 nn 0]),some (Ay cs ts nn)] (Rt (.agg (HW (Jf (GD ts) nn) m)) [some (.blk (Bt 1 m)),some (.blk [.sl 2 nn 0]),some (Ay cs ts nn)]):=
 Am (n:=11) (by kernel_rfl) Tryz.func23 rfl rfl rfl fun G w a h0 A=>N9 6 A rfl rfl fun A=>Ba hX By [] [(7,.agg (HW (Jf (GD ts) nn) m),[some (.blk (Bt 1 m)),some (.blk [.sl 2 nn 0]),some (Ay cs ts nn),some (.blk [.z9,.z9,.z9,.z9,.z9,.z9,.z9,.z9,.z9,.z9,.z9,.z9,.z9,.z9,.z9,.z9,.z9,.z9,.z9,.z9,.z9,.z9,.z9,.z9,.z9,.z9,.z9])])] A rfl rfl rfl rfl (by kernel_rfl) ⟨ED [0,1,2] (mQ m cs ts nn EP) rfl rfl rfl rfl rfl rfl rfl,⟨trivial,trivial⟩⟩ trivial fun A=>N9 2 A rfl rfl fun A=>R9 A rfl h0 rfl rfl rfl
end Go.Proofs.YtbbdanhpphlbpaaGreatDoor.Mc
namespace Go.Proofs.YtbbdanhpphlbpaaGreatDoor.Mc
open Go.RowKit
set_option simprocs false
def TI (cs:List Ak):Ef:=fun w ks=>An cs w ks∧JP w ks
theorem TI.ok {cs:List Ak}:Ef.OK (TI cs):=fun w ks w' ks' h m hk=>⟨An.ok _ _ _ _ h.1 m hk,At.ok _ _ _ _ h.2 m hk⟩
abbrev _root_.Go.Proofs.YtbbdanhpphlbpaaGreatDoor.Ax (cs:List Ak)(ts:List Th)(k:Int):In:=(cs.getD ((k).toNat) Ak.z).l.getD ((((BZ ts k).at_:Nat):Int)).toNat In.z
theorem VD (cs:List Ak)(ts:List Th)(nn:Nat)(th lc o s:Int)(hC:BR cs ts nn)(Eb:0≤th∧th<((nn:Nat):Int))(h1:RS (Ax cs ts th)=lc)(h2:RT (BZ ts th).r (Ax cs ts th)=CS o s):CE (An cs) Tryz.prog 92 [.ptr 0 0,.int .i64 th] [some (.blk [.sl 1 nn 0]),some (Ay cs ts nn)] (Rt (.tup [.agg [.int .i64 lc,.int .i64 (CS o s)],.int .i64 (Gs (BZ ts th).r (Ax cs ts th)),.bool (C4 (Ax cs ts th))]) [some (.blk [.sl 1 nn 0]),some (Ay cs ts nn)]):=by
 have h:=RW cs ts nn th hC Eb
 rw [h1,h2]at h
 exact h
abbrev GZ (r:Rg)(i:In):Int:=A7 i.off (DT r i.ix 0) i.sz
theorem mR {p s:Int}(hs:s=1∨s=2∨s=4∨s=8)(h:0≤p∧p≤8 - s∧Int.tmod p s=0):OS p s:=by
 obtain⟨h1,h2,h3⟩:=h
 unfold OS
 rcases hs with rfl|rfl|rfl|rfl
 ·omega
 ·have:p=0∨p=1∨p=2∨p=3∨p=4∨p=5∨p=6:=by omega
  rcases this with rfl|rfl|rfl|rfl|rfl|rfl|rfl<;>first|(exact absurd h3 (by decide))|omega
 ·have:p=0∨p=1∨p=2∨p=3∨p=4:=by omega
  rcases this with rfl|rfl|rfl|rfl|rfl<;>first|(exact absurd h3 (by decide))|omega
 ·omega
theorem VE {o s:Int}(h:OS o s):A7 o 0 s=o:=by
 rcases h with⟨rfl,rfl⟩|⟨rfl,rfl⟩|⟨rfl,rfl⟩|⟨rfl,rfl⟩|⟨rfl,rfl⟩|⟨rfl,rfl⟩|⟨rfl,rfl⟩|⟨rfl,rfl⟩|⟨rfl,rfl⟩|⟨rfl,rfl⟩|⟨rfl,rfl⟩|⟨rfl,rfl⟩|⟨rfl,rfl⟩|⟨rfl,rfl⟩|⟨rfl,rfl⟩<;>decide+kernel
theorem Pw {i:In}(h:Sj i=true):0≤i.loc∧i.loc<3:=by
 unfold Sj CZ at h
 split at h
 ·split at h
  ·omega
  ·cases h
 ·cases h
theorem YD {i:In}(h:NA i=true)(ho:i.op=4∨i.op=5∨i.op=6):0≤i.loc∧i.loc<3:=by
 unfold NA B8 at h
 rw [if_neg (by omega),if_neg (by omega),if_neg (by omega)]at h
 rcases ho with ho|ho|ho
 ·rw [if_pos ho]at h
  split at h
  ·rw [α3]at h;exact Pw h.1
  ·cases h
 ·rw [if_neg (by omega),if_pos ho]at h
  split at h
  ·exact Pw h
  ·cases h
 ·rw [if_neg (by omega),if_neg (by omega),if_pos ho]at h
  split at h
  ·split at h
   ·rw [α3]at h;exact Pw h.1
   ·cases h
  ·cases h
theorem Fs.loc {l:List In}(h:Fs l){k:Nat}(hk:k<l.length)(ho:(l.getD k In.z).op=4∨(l.getD k In.z).op=5∨(l.getD k In.z).op=6):0≤(l.getD k In.z).loc∧(l.getD k In.z).loc<3:=YD (FH (h.r k hk)).1 ho
theorem Ez {r:Rg}{i:In}(hs:i.sz=1∨i.sz=2∨i.sz=4∨i.sz=8):OS (GZ r i) i.sz:=mR hs (U7 i.off (DT r i.ix 0) hs).2
theorem Rd {r:Rg}{i:In}(hm:C4 i=true)(hs:i.sz=1∨i.sz=2∨i.sz=4∨i.sz=8):RT r i=CS (GZ r i) i.sz:=by
 unfold RT CS
 rw [hm,VE (Ez hs)];rfl
theorem HM {i:In}(hm:C4 i=true):RS i=i.loc:=by unfold RS;rw [hm];rfl
theorem Ky {i:In}(hm:C4 i=true):i.op=4∨i.op=5∨i.op=6:=by unfold C4 at hm;simp at hm;omega
abbrev Re (i:In):Bool:=(i.op==5)||(i.op==6)
def Iz (m r:Rg)(i:In):Int:=if C4 i=true then BS (m i.loc.toNat) (GZ r i) i.sz else 0
def EU (m r:Rg)(i:In):Rg:=if C4 i=true then(if Re i=true then Bk m i.loc.toNat (Bm (m i.loc.toNat) (GZ r i) i.sz (HV i (BS (m i.loc.toNat) (GZ r i) i.sz) (Gs r i)))else m)else m
theorem uI (m:Nat→Int)(cs:List Ak)(ts:List Th)(nn:Nat)(th:Int)(hC:BR cs ts nn)(Eb:0≤th∧th<((nn:Nat):Int))(hm:C4 (Ax cs ts th)=false):CE (TI cs) Tryz.prog 59 [.ptr 0 0,.int .i64 th] [some (.blk (Bt 1 m)),some (.blk [.sl 2 nn 0]),some (Ay cs ts nn)] (Rt (.int .i64 0) [some (.blk (Bt 1 m)),some (.blk [.sl 2 nn 0]),some (Ay cs ts nn)]):=
 BB (n:=38) (by kernel_rfl) Tryz.func59 rfl rfl rfl fun G w a h0 hI A=>N9 12 A rfl rfl fun A=>I9 [1,2] An.ok hI.1 (RW cs ts nn th hC Eb) A rfl fun A=>N9 17 A rfl rfl fun A=>fork 21 A rfl
  (fun h1 A=>N9 7 A rfl rfl fun A=>R9 A rfl h0 rfl rfl rfl)
  (fun h1 A=>absurd h1 (by rw [hm];decide))
theorem uJ (m:Nat→Int)(cs:List Ak)(ts:List Th)(nn:Nat)(th lc o s:Int)(hC:BR cs ts nn)(Eb:0≤th∧th<((nn:Nat):Int))(hm:C4 (Ax cs ts th)=true)(kB:RS (Ax cs ts th)=lc)(pV:RT (BZ ts th).r (Ax cs ts th)=CS o s)(hl:0≤lc∧lc<3)(hO:OS o s)(hs:(Ax cs ts th).sz=1∨(Ax cs ts th).sz=2∨(Ax cs ts th).sz=4∨(Ax cs ts th).sz=8)(hw:Re (Ax cs ts th)=false):CE (TI cs) Tryz.prog 59 [.ptr 0 0,.int .i64 th] [some (.blk (Bt 1 m)),some (.blk [.sl 2 nn 0]),some (Ay cs ts nn)] (Rt (.int .i64 (BS (m lc.toNat) o s)) [some (.blk (Bt 1 m)),some (.blk [.sl 2 nn 0]),some (Ay cs ts nn)]):=
 BB (n:=38) (by kernel_rfl) Tryz.func59 rfl rfl rfl fun G w a h0 hI A=>N9 12 A rfl rfl fun A=>I9 [1,2] An.ok hI.1 (VD cs ts nn th lc o s hC Eb kB pV) A rfl fun A=>N9 17 A rfl rfl fun A=>fork 21 A rfl
  (fun h1 A=>absurd h1 (by rw [hm];decide))
  (fun h1 A=>N9 10 A rfl rfl fun A=>I9 [1,2] An.ok hI.1 (Ku cs ts nn th hC Eb) A rfl fun A=>N9 9 A rfl rfl fun A=>Ba hX By [] [(6,.int .i64 (BS (m lc.toNat) o s),[some (.blk (Bt 1 m)),some (.blk [.sl 2 nn 0]),some (Ay cs ts nn),some (.blk [.int .i64 lc,.int .i64 (CS o s)]),some (.blk (A5 (Ax cs ts th)))])] A rfl rfl rfl rfl (by kernel_rfl) ⟨X7 (l:=[.ptr 1 0]) (r:=[]) At.ok hI.2 (tZ m (Ax cs ts th) lc o s (Gs (BZ ts th).r (Ax cs ts th)) hl hO hs hw) rfl rfl rfl rfl rfl,trivial⟩ trivial fun A=>N9 2 A rfl rfl fun A=>R9 A rfl h0 rfl rfl rfl)
theorem uK (m:Nat→Int)(cs:List Ak)(ts:List Th)(nn:Nat)(th lc o s:Int)(hC:BR cs ts nn)(Eb:0≤th∧th<((nn:Nat):Int))(hm:C4 (Ax cs ts th)=true)(kB:RS (Ax cs ts th)=lc)(pV:RT (BZ ts th).r (Ax cs ts th)=CS o s)(hl:0≤lc∧lc<3)(hO:OS o s)(hs:(Ax cs ts th).sz=1∨(Ax cs ts th).sz=2∨(Ax cs ts th).sz=4∨(Ax cs ts th).sz=8)(hw:Re (Ax cs ts th)=true):CE (TI cs) Tryz.prog 59 [.ptr 0 0,.int .i64 th] [some (.blk (Bt 1 m)),some (.blk [.sl 2 nn 0]),some (Ay cs ts nn)] (Rt (.int .i64 (BS (m lc.toNat) o s)) [some (.blk [.ptr 1 0,.int .i64 ((Bk m lc.toNat (Bm (m lc.toNat) o s (HV (Ax cs ts th) (BS (m lc.toNat) o s) (Gs (BZ ts th).r (Ax cs ts th))))) 0),.int .i64 ((Bk m lc.toNat (Bm (m lc.toNat) o s (HV (Ax cs ts th) (BS (m lc.toNat) o s) (Gs (BZ ts th).r (Ax cs ts th))))) 1),.int .i64 ((Bk m lc.toNat (Bm (m lc.toNat) o s (HV (Ax cs ts th) (BS (m lc.toNat) o s) (Gs (BZ ts th).r (Ax cs ts th))))) 2)]),some (.blk [.sl 2 nn 0]),some (Ay cs ts nn)]):=
 BB (n:=38) (by kernel_rfl) Tryz.func59 rfl rfl rfl fun G w a h0 hI A=>N9 12 A rfl rfl fun A=>I9 [1,2] An.ok hI.1 (VD cs ts nn th lc o s hC Eb kB pV) A rfl fun A=>N9 17 A rfl rfl fun A=>fork 21 A rfl
  (fun h1 A=>absurd h1 (by rw [hm];decide))
  (fun h1 A=>N9 10 A rfl rfl fun A=>I9 [1,2] An.ok hI.1 (Ku cs ts nn th hC Eb) A rfl fun A=>N9 9 A rfl rfl fun A=>Ba hX By [] [(6,.int .i64 (BS (m lc.toNat) o s),[some (.blk [.ptr 1 0,.int .i64 ((Bk m lc.toNat (Bm (m lc.toNat) o s (HV (Ax cs ts th) (BS (m lc.toNat) o s) (Gs (BZ ts th).r (Ax cs ts th))))) 0),.int .i64 ((Bk m lc.toNat (Bm (m lc.toNat) o s (HV (Ax cs ts th) (BS (m lc.toNat) o s) (Gs (BZ ts th).r (Ax cs ts th))))) 1),.int .i64 ((Bk m lc.toNat (Bm (m lc.toNat) o s (HV (Ax cs ts th) (BS (m lc.toNat) o s) (Gs (BZ ts th).r (Ax cs ts th))))) 2)]),some (.blk [.sl 2 nn 0]),some (Ay cs ts nn),some (.blk [.int .i64 lc,.int .i64 (CS o s)]),some (.blk (A5 (Ax cs ts th)))])] A rfl rfl rfl rfl (by kernel_rfl) ⟨X7 (l:=[.ptr 1 0]) (r:=[]) At.ok hI.2 (uA m (Ax cs ts th) lc o s (Gs (BZ ts th).r (Ax cs ts th)) hl hO hs hw) rfl rfl rfl rfl rfl,trivial⟩ trivial fun A=>N9 2 A rfl rfl fun A=>R9 A rfl h0 rfl rfl rfl)
theorem to_ (m:Nat→Int)(cs:List Ak)(ts:List Th)(nn:Nat)(th:Int)(hC:BR cs ts nn)(Eb:0≤th∧th<((nn:Nat):Int))(LS:(BZ ts th).at_<(cs.getD ((th).toNat) Ak.z).l.length):CE (TI cs) Tryz.prog 59 [.ptr 0 0,.int .i64 th] [some (.blk (Bt 1 m)),some (.blk [.sl 2 nn 0]),some (Ay cs ts nn)] (Rt (.int .i64 (Iz m (BZ ts th).r (Ax cs ts th))) [some (.blk [.ptr 1 0,.int .i64 ((EU m (BZ ts th).r (Ax cs ts th)) 0),.int .i64 ((EU m (BZ ts th).r (Ax cs ts th)) 1),.int .i64 ((EU m (BZ ts th).r (Ax cs ts th)) 2)]),some (.blk [.sl 2 nn 0]),some (Ay cs ts nn)]):=by
 have Hn:=hC.r th.toNat (by have:=hC.m;omega)
 have kD:X0 (Ax cs ts th):=Hn.snd LS
 cases hm:C4 (Ax cs ts th)with
 |false=>
  have h:=uI m cs ts nn th hC Eb hm
  unfold Iz EU
  rw [if_neg (α8 hm),if_neg (α8 hm)]
  exact h
 | true=>
  have FL:=Hn.szs LS (Ky hm)
  have PE:0≤(Ax cs ts th).loc∧(Ax cs ts th).loc<3:=Hn.loc LS (Ky hm)
  cases hw:Re (Ax cs ts th)with
  |false=>
   have h:=uJ m cs ts nn th _ _ _ hC Eb hm (HM hm) (Rd hm FL) PE (Ez FL) FL hw
   unfold Iz EU
   rw [if_pos hm,if_pos hm,if_neg (α8 hw)]
   exact h
  |true=>
   have h:=uK m cs ts nn th _ _ _ hC Eb hm (HM hm) (Rd hm FL) PE (Ez FL) FL hw
   unfold Iz EU
   rw [if_pos hm,if_pos hm,if_pos hw]
   exact h
theorem isT {a b:Nat}(h:a<b):(!(((a:Nat):Int)==((b:Nat):Int)))=true:=by simp;omega
theorem dT (cs:List Ak)(ts:List Th)(nn:Nat)(th old:Int)(hC:BR cs ts nn)(Eb:0≤th∧th<((nn:Nat):Int))(LS:(BZ ts th).at_<(cs.getD ((th).toNat) Ak.z).l.length):CE (An cs) Tryz.prog 58 [.ptr 0 0,.int .i64 th,.int .i64 old] [some (.blk [.sl 1 nn 0]),some (Ay cs ts nn)] (Rt .tt [some (.blk [.sl 1 nn 0]),some (Ay cs (CR cs ts th old) nn)]):=
 Pv (X3 cs ts nn th old hC Eb) (fun{G}=>congrArg (fun b=>some (Value.bool b)) (isT LS))
theorem uL (m:Nat→Int)(cs:List Ak)(ts:List Th)(nn:Nat)(i th:Int)(hC:BR cs ts nn)(EP:nn≤3)(Eb:0≤th∧th<((nn:Nat):Int))(LS:(BZ ts th).at_<(cs.getD ((th).toNat) Ak.z).l.length)(hi:0≤i∧i<(((Ce cs ts nn).length:Nat):Int))(a7:((Ce cs ts nn).getD (i).toNat (0,0,0)).2.1=th):CE (TI cs) Tryz.prog 15 [.ptr 0 0,.int .i64 i] [some (.blk (Bt 1 m)),some (.blk [.sl 2 nn 0]),some (Ay cs ts nn)] (Rt (.tt) [some (.blk [.ptr 1 0,.int .i64 ((EU m (BZ ts th).r (Ax cs ts th)) 0),.int .i64 ((EU m (BZ ts th).r (Ax cs ts th)) 1),.int .i64 ((EU m (BZ ts th).r (Ax cs ts th)) 2)]),some (.blk [.sl 2 nn 0]),some (.row 125 10 nn 0 (fun zz=>HJ (cs.getD zz Ak.z) ((CR cs ts th (Iz m (BZ ts th).r (Ax cs ts th))).getD zz Th.z)))]):=
 BB (n:=31) (by kernel_rfl) Tryz.func15 rfl rfl rfl fun G w a h0 hI A=>N9 8 A rfl rfl fun A=>I9 [0,1,2] An.ok hI.1 (XN m cs ts nn hC EP) A rfl fun A=>N9 16 A rfl rfl fun A=>fork 16 A rfl
  (fun h1 A=>absurd h1 (by simp;omega))
  (fun h1 A=>N9 10 A rfl (Aj (by omega)<|Aj (by omega)<|Aj (by omega)<|Ah) fun A=>have A:=Ai A 21 (.int .i64 th) rfl (fun _=>congrArg (fun z=>some (Value.int .i64 z)) a7);N9 4 A rfl rfl fun A=>Ba hX By [] [(7,.int .i64 (Iz m (BZ ts th).r (Ax cs ts th)),[some (.blk [.ptr 1 0,.int .i64 ((EU m (BZ ts th).r (Ax cs ts th)) 0),.int .i64 ((EU m (BZ ts th).r (Ax cs ts th)) 1),.int .i64 ((EU m (BZ ts th).r (Ax cs ts th)) 2)]),some (.blk [.sl 2 nn 0]),some (Ay cs ts nn),some (.row 44 4 ((Ce cs ts nn).length) 0 (GU (Ce cs ts nn)))]),(8,.tt,[some (.blk [.ptr 1 0,.int .i64 ((EU m (BZ ts th).r (Ax cs ts th)) 0),.int .i64 ((EU m (BZ ts th).r (Ax cs ts th)) 1),.int .i64 ((EU m (BZ ts th).r (Ax cs ts th)) 2)]),some (.blk [.sl 2 nn 0]),some (.row 125 10 nn 0 (fun zz=>HJ (cs.getD zz Ak.z) ((CR cs ts th (Iz m (BZ ts th).r (Ax cs ts th))).getD zz Th.z))),some (.row 44 4 ((Ce cs ts nn).length) 0 (GU (Ce cs ts nn)))])] A rfl rfl rfl rfl (by kernel_rfl) ⟨De [0,1,2] TI.ok hI (to_ m cs ts nn th hC Eb LS) rfl rfl rfl rfl rfl rfl rfl,⟨De [1,2] An.ok hI.1 (dT cs ts nn th (Iz m (BZ ts th).r (Ax cs ts th)) hC Eb LS) rfl rfl rfl rfl rfl rfl rfl,trivial⟩⟩ trivial fun A=>N9 2 A rfl rfl fun A=>R9 A rfl h0 rfl rfl rfl)
theorem mS (m:Nat→Int)(cs:List Ak)(ts:List Th)(nn:Nat)(i:Int)(hC:BR cs ts nn)(EP:nn≤3)(hi:¬(0≤i∧i<(((Ce cs ts nn).length:Nat):Int))):CE (TI cs) Tryz.prog 15 [.ptr 0 0,.int .i64 i] [some (.blk (Bt 1 m)),some (.blk [.sl 2 nn 0]),some (Ay cs ts nn)] (Rt (.ff) [some (.blk (Bt 1 m)),some (.blk [.sl 2 nn 0]),some (Ay cs ts nn)]):=
 BB (n:=31) (by kernel_rfl) Tryz.func15 rfl rfl rfl fun G w a h0 hI A=>N9 8 A rfl rfl fun A=>I9 [0,1,2] An.ok hI.1 (XN m cs ts nn hC EP) A rfl fun A=>N9 16 A rfl rfl fun A=>fork 16 A rfl
  (fun h1 A=>N9 7 A rfl rfl fun A=>R9 A rfl h0 rfl rfl rfl)
  (fun h1 A=>absurd h1 (by simp;omega))
theorem VF (m:Nat→Int)(cs:List Ak)(ts:List Th)(nn:Nat)(hC:BR cs ts nn)(EP:nn≤3):CE (TI cs) Tryz.prog 22 [.ptr 0 0] [some (.blk (Bt 1 m)),some (.blk [.sl 2 nn 0]),some (Ay cs ts nn)] (Rt (.bool ((((Ce cs ts nn).length:Nat):Int)==0)) [some (.blk (Bt 1 m)),some (.blk [.sl 2 nn 0]),some (Ay cs ts nn)]):=
 BB (n:=7) (by kernel_rfl) Tryz.func22 rfl rfl rfl fun G w a h0 hI A=>N9 8 A rfl rfl fun A=>I9 [0,1,2] An.ok hI.1 (XN m cs ts nn hC EP) A rfl fun A=>N9 6 A rfl rfl fun A=>R9 A rfl h0 rfl rfl rfl
end Go.Proofs.YtbbdanhpphlbpaaGreatDoor.Mc
namespace Go.Proofs.YtbbdanhpphlbpaaGreatDoor
open Go.RowKit
abbrev BV:=BitVec 64
def vB (b:BV):Int:=b.toInt
theorem NL (b:BV):IntKind.wrap .i64 ((b.toNat:Nat):Int)=vB b:=by
 unfold vB
 rw [τ8,BitVec.toInt_eq_toNat_bmod,Int.bmod_def]
 have:=b.isLt
 simp only [Nat.reducePow]at*
 omega
theorem E3 (b:BV):BitVec.ofInt (IntKind.bits .i64) (vB b)=b:=BitVec.ofInt_toInt
theorem Zt (x y:BV):IntKind.wrap .i64 ((((BitVec.ofInt (IntKind.bits .i64) (vB x))|||(BitVec.ofInt (IntKind.bits .i64) (vB y))).toNat:Nat):Int)=vB (x|||y):=by
 rw [E3,E3];exact NL _
theorem Px (x y:BV):IntKind.wrap .i64 ((((BitVec.ofInt (IntKind.bits .i64) (vB x))&&&(BitVec.ofInt (IntKind.bits .i64) (vB y))).toNat:Nat):Int)=vB (x&&&y):=by
 rw [E3,E3];exact NL _
theorem Sv (x y:BV):IntKind.wrap .i64 ((((BitVec.ofInt (IntKind.bits .i64) (vB x))&&& ~~~ (BitVec.ofInt (IntKind.bits .i64) (vB y))).toNat:Nat):Int)=vB (x&&& ~~~y):=by
 rw [E3,E3];exact NL _
theorem Ig {x:Int}(h: -9223372036854775808≤x∧x≤9223372036854775807):vB (BitVec.ofInt 64 x)=x:=by
 unfold vB
 rw [BitVec.toInt_ofInt,Int.bmod_def]
 simp only [Nat.reducePow]
 omega
theorem Py (m:BV)(k:Nat)(hk:k<64):Int.fdiv (vB m) (2^min k (IntKind.bits .i64))=vB (m.sshiftRight k):=by
 have hr:min k (IntKind.bits .i64)=k:=by show min k 64=_;omega
 rw [hr]
 unfold vB
 rw [BitVec.toInt_sshiftRight,Int.shiftRight_eq_div_pow,ν8 _ (by exact Int.le_of_lt (Int.pow_pos (by decide)))]
 push_cast;rfl
end Go.Proofs.YtbbdanhpphlbpaaGreatDoor
namespace Go.Proofs.YtbbdanhpphlbpaaGreatDoor.Mc
open Go.RowKit
set_option simprocs false
set_option simprocs true in
theorem NM (m:BV)(k:Nat)(hk:k<64):IntKind.wrap .i64 (vB m*2^min k (IntKind.bits .i64))=vB (m <<< k):=by
 have hr:min k (IntKind.bits .i64)=k:=by show min k 64=_;omega
 rw [hr,τ8]
 have h2:BitVec.ofInt 64 (vB m*2^k)=m <<< k:=by
  rw [BitVec.ofInt_mul,BitVec.shiftLeft_eq_mul_twoPow]
  congr 1
  ·exact BitVec.ofInt_toInt
  ·exact π4 (by
    rw [show((2:Int)^k)=((2^k:Nat):Int) by push_cast;rfl,BitVec.ofInt_natCast]
    simp)
 rw [←h2]
 unfold vB
 rw [BitVec.toInt_ofInt,Int.bmod_def]
 simp only [Nat.reducePow]
 omega
structure FP (o s:Int)(k n:Nat)(L:BV):Prop where
 c:(!(((((((s==1)||(s==2))||(s==4))||(s==8))&&(decide (o≥0)))&&(decide (o≤(IntKind.wrap .i64 (8 - s)))))&&((Int.tmod o s)==0)))=false
 sh:(IntKind.wrap .i64 (8*o)).toNat=k
 m:IntKind.wrap .i64 ((IntKind.wrap .i64 (1*2^min ((IntKind.wrap .i64 (8*s))).toNat (IntKind.bits .i64))) - 1)=vB L
 b:∀i,i<64→L.getLsbD i=decide (i<n)
 h:k+n≤64
 p:0<n
theorem FP.get {o s:Int}{k n:Nat}{L:BV}(h:FP o s k n L)(X:BV):BS (vB X) o s=vB (X.sshiftRight k&&&L):=by
 have:=h.h;have:=h.p
 unfold BS
 rw [if_neg (by rw [h.c];decide),h.sh,Py X k (by omega),h.m,Px]
theorem FP.put {o s:Int}{k n:Nat}{L:BV}(h:FP o s k n L)(a:Int)(X:BV):Bm a o s (vB X)=vB ((BitVec.ofInt 64 a&&& ~~~(L <<< k))|||((X <<< k)&&&(L <<< k))):=by
 have:=h.h;have:=h.p
 unfold Bm
 rw [if_neg (by rw [h.c];decide),h.sh,h.m,NM L k (by omega),NM X k (by omega),Px,show BitVec.ofInt (IntKind.bits .i64) a=BitVec.ofInt (IntKind.bits .i64) (vB (BitVec.ofInt 64 a))from(E3 _).symm,Sv,Zt]
theorem FP.low {s:Int}{n:Nat}{L:BV}(h:FP 0 s 0 n L)(X:BV):Bz (vB X) s=vB (X&&&L):=by
 have e:=h.get X
 rw [BitVec.sshiftRight_zero]at e
 exact e
abbrev L1:BV:=255#64
abbrev L2:BV:=65535#64
abbrev L4:BV:=4294967295#64
abbrev L8:BV:=BitVec.allOnes 64
theorem FP.mk1 {o:Int}(k:Nat)(h:(!(((((((1:Int)==1)||((1:Int)==2))||((1:Int)==4))||((1:Int)==8))&&(decide (o≥0)))&&(decide (o≤(IntKind.wrap .i64 (8 - 1))))&&((Int.tmod o 1)==0)))=false)(hk:(IntKind.wrap .i64 (8*o)).toNat=k)(h2:k≤56):FP o 1 k 8 L1:=⟨h,hk,by decide+kernel,by decide+kernel,by omega,by decide⟩
theorem FP.mk2 {o:Int}(k:Nat)(h:(!(((((((2:Int)==1)||((2:Int)==2))||((2:Int)==4))||((2:Int)==8))&&(decide (o≥0)))&&(decide (o≤(IntKind.wrap .i64 (8 - 2))))&&((Int.tmod o 2)==0)))=false)(hk:(IntKind.wrap .i64 (8*o)).toNat=k)(h2:k≤48):FP o 2 k 16 L2:=⟨h,hk,by decide+kernel,by decide+kernel,by omega,by decide⟩
theorem FP.mk4 {o:Int}(k:Nat)(h:(!(((((((4:Int)==1)||((4:Int)==2))||((4:Int)==4))||((4:Int)==8))&&(decide (o≥0)))&&(decide (o≤(IntKind.wrap .i64 (8 - 4))))&&((Int.tmod o 4)==0)))=false)(hk:(IntKind.wrap .i64 (8*o)).toNat=k)(h2:k≤32):FP o 4 k 32 L4:=⟨h,hk,by decide+kernel,by decide+kernel,by omega,by decide⟩
theorem yK:FP 0 8 0 64 L8:=⟨by decide,by decide,by decide+kernel,by decide+kernel,by omega,by decide⟩
end Go.Proofs.YtbbdanhpphlbpaaGreatDoor.Mc
namespace Go.Proofs.YtbbdanhpphlbpaaGreatDoor.Mc
open Go.RowKit
set_option simprocs false
theorem mT (v1 k1:Int)(hk:0≤k1∧k1<8):Fn Tryz.prog 134 [.int .i64 v1,.int .i64 k1] [] (Rt (.int .i64 (IntKind.wrap .i64 ((((BitVec.ofInt (IntKind.bits .i64) (Int.fdiv v1 (2^min ((8*k1)).toNat (IntKind.bits .i64))))&&&(BitVec.ofInt (IntKind.bits .i64) 255)).toNat:Nat):Int))) []):=
 Am (n:=10) (by kernel_rfl) Tryz.func134 rfl rfl rfl fun G w a h0 A=>N9 16 A rfl (Aj (by omega)<|Aj (by omega)<|Ah) fun A=>R9 A rfl h0 rfl rfl rfl
def Tz (a1 b1 m1:Int):Nat→Int
 |0=>0
 |k+1=>if(IntKind.wrap .i64 ((((BitVec.ofInt (IntKind.bits .i64) (Int.fdiv m1 (2^min ((k:Int)).toNat (IntKind.bits .i64))))&&&(BitVec.ofInt (IntKind.bits .i64) 1)).toNat:Nat):Int))=1 then IntKind.wrap .i64 ((((BitVec.ofInt (IntKind.bits .i64) (Tz a1 b1 m1 k))|||(BitVec.ofInt (IntKind.bits .i64) (IntKind.wrap .i64 ((IntKind.wrap .i64 ((((BitVec.ofInt (IntKind.bits .i64) (Int.fdiv b1 (2^min ((8*(k:Int))).toNat (IntKind.bits .i64))))&&&(BitVec.ofInt (IntKind.bits .i64) 255)).toNat:Nat):Int))*2^min ((8*(k:Int))).toNat (IntKind.bits .i64))))).toNat:Nat):Int)else IntKind.wrap .i64 ((((BitVec.ofInt (IntKind.bits .i64) (Tz a1 b1 m1 k))|||(BitVec.ofInt (IntKind.bits .i64) (IntKind.wrap .i64 ((IntKind.wrap .i64 ((((BitVec.ofInt (IntKind.bits .i64) (Int.fdiv a1 (2^min ((8*(k:Int))).toNat (IntKind.bits .i64))))&&&(BitVec.ofInt (IntKind.bits .i64) 255)).toNat:Nat):Int))*2^min ((8*(k:Int))).toNat (IntKind.bits .i64))))).toNat:Nat):Int)
theorem Zu {a1 b1 m1:Int}{k:Nat}(h:(IntKind.wrap .i64 ((((BitVec.ofInt (IntKind.bits .i64) (Int.fdiv m1 (2^min ((k:Int)).toNat (IntKind.bits .i64))))&&&(BitVec.ofInt (IntKind.bits .i64) 1)).toNat:Nat):Int))=1):IntKind.wrap .i64 ((((BitVec.ofInt (IntKind.bits .i64) (Tz a1 b1 m1 k))|||(BitVec.ofInt (IntKind.bits .i64) (IntKind.wrap .i64 ((IntKind.wrap .i64 ((((BitVec.ofInt (IntKind.bits .i64) (Int.fdiv b1 (2^min ((8*(k:Int))).toNat (IntKind.bits .i64))))&&&(BitVec.ofInt (IntKind.bits .i64) 255)).toNat:Nat):Int))*2^min ((8*(k:Int))).toNat (IntKind.bits .i64))))).toNat:Nat):Int)=Tz a1 b1 m1 (k+1):=by show _=ite _ _ _;rw [if_pos h]
theorem Zv {a1 b1 m1:Int}{k:Nat}(h:(IntKind.wrap .i64 ((((BitVec.ofInt (IntKind.bits .i64) (Int.fdiv m1 (2^min ((k:Int)).toNat (IntKind.bits .i64))))&&&(BitVec.ofInt (IntKind.bits .i64) 1)).toNat:Nat):Int))≠1):IntKind.wrap .i64 ((((BitVec.ofInt (IntKind.bits .i64) (Tz a1 b1 m1 k))|||(BitVec.ofInt (IntKind.bits .i64) (IntKind.wrap .i64 ((IntKind.wrap .i64 ((((BitVec.ofInt (IntKind.bits .i64) (Int.fdiv a1 (2^min ((8*(k:Int))).toNat (IntKind.bits .i64))))&&&(BitVec.ofInt (IntKind.bits .i64) 255)).toNat:Nat):Int))*2^min ((8*(k:Int))).toNat (IntKind.bits .i64))))).toNat:Nat):Int)=Tz a1 b1 m1 (k+1):=by show _=ite _ _ _;rw [if_neg h]
theorem uM (a1 b1 m1:Int):Fn Tryz.prog 94 [.int .i64 a1,.int .i64 b1,.int .i64 m1] [] (Rt (.int .i64 (Tz a1 b1 m1 8)) []):=
 Am (n:=32) (by kernel_rfl) Tryz.func94 rfl rfl rfl fun G w a h0 A=>N9 17 A rfl rfl fun A=>B7 (fun(k:Nat)=>[(0,.int .i64 a1),(1,.int .i64 b1),(2,.int .i64 m1),(6,.int .i64 0),(7,.int .i64 (Tz a1 b1 m1 k)),(8,.int .i64 (k:Int))]) (fun(k:Nat)=>[]) (fun(k:Nat)=>k≤8) (fun(k:Nat)=>8 - k) 0 (β8 _) ((A.cut [0,1,2,6,7,8] rfl).trunc 0 rfl rfl rfl (Cj h0 rfl)) fun k hK {G a w} A=>N9 7 A rfl rfl fun A=>Aq 11 A rfl
   (fun h1 A=>N9 9 A rfl rfl fun A=>C9 [] (mT a1 (k:Int) (by omega)) A rfl fun A=>N9 13 A rfl (Aj (by omega)<|Ah) fun A=>Au 21 A rfl
    (fun h2 A=>N9 4 A rfl rfl fun A=>C9 [] (mT b1 (k:Int) (by omega)) A rfl fun A=>N9 14 A rfl (Aj (by omega)<|Aj (by omega)<|Ah) fun A=>N9 5 A rfl (Aj (by omega)<|Ah) fun A=>⟨k+1,_,(by omega),(by omega),(((Ai A 7 (.int .i64 (Tz a1 b1 m1 (k+1))) rfl (fun _=>congrArg (fun z=>some (Value.int .i64 z)) (Zu h2))).cut [0,1,2,6,7,8] rfl).trunc 0 rfl rfl rfl (Cj h0 rfl)).sayT (by rfl)⟩)
    (fun h2 A=>N9 14 A rfl (Aj (by omega)<|Aj (by omega)<|Ah) fun A=>N9 5 A rfl (Aj (by omega)<|Ah) fun A=>⟨k+1,_,(by omega),(by omega),(((Ai A 7 (.int .i64 (Tz a1 b1 m1 (k+1))) rfl (fun _=>congrArg (fun z=>some (Value.int .i64 z)) (Zv h2))).cut [0,1,2,6,7,8] rfl).trunc 0 rfl rfl rfl (Cj h0 rfl)).sayT (by rfl)⟩))
   (fun h1 A=>N9 10 A rfl rfl fun A=>R9 A rfl h0 rfl (by have e:k=8:=(by omega);subst e;rfl) rfl)
theorem VG {o s:Int}(h:OS o s):∀j:Nat,j<8→GT (CS o s) (j:Int)=if o≤(j:Int)∧(j:Int)<o+s then 1 else 0:=by
 rcases h with⟨rfl,rfl⟩|⟨rfl,rfl⟩|⟨rfl,rfl⟩|⟨rfl,rfl⟩|⟨rfl,rfl⟩|⟨rfl,rfl⟩|⟨rfl,rfl⟩|⟨rfl,rfl⟩|⟨rfl,rfl⟩|⟨rfl,rfl⟩|⟨rfl,rfl⟩|⟨rfl,rfl⟩|⟨rfl,rfl⟩|⟨rfl,rfl⟩|⟨rfl,rfl⟩<;>decide+kernel
theorem VH {o s:Int}(h:OS o s):0≤o∧1≤s∧o+s≤8:=by unfold OS at h;omega
theorem mU {m1:Int}{k:Nat}(h:(decide ((k:Int)<7)&&(GT m1 (k:Int)==0))=true)(hK:k≤7∧∀j:Nat,j<k→GT m1 (j:Int)=0):k+1≤7∧∀j:Nat,j<k+1→GT m1 (j:Int)=0:=by
 rw [α3,δ5,ε4]at h
 refine⟨by omega,fun j hj=>?_⟩
 by_cases e:j=k
 ·subst e;exact h.2
 ·exact hK.2 j (by omega)
theorem dU {o s m1:Int}{k:Nat}(h:(decide ((k:Int)<7)&&(GT m1 (k:Int)==0))=false)(hK:k≤7∧∀j:Nat,j<k→GT m1 (j:Int)=0)(hO:OS o s)(hm:m1=CS o s):(k:Int)=o:=by
 subst hm
 have hb:=VG hO
 have hr:=VH hO
 by_cases e:(k:Int)=o
 ·exact e
 ·exfalso
  by_cases Bn:(k:Int)<o
  ·have h1:GT (CS o s) (k:Int)=0:=by rw [hb k (by omega),if_neg (by omega)]
   rw [h1,η4 (by omega)]at h
   cases h
  ·have h1:=hK.2 o.toNat (by omega)
   rw [hb o.toNat (by omega),if_pos (by omega)]at h1
   cases h1
def Zw (A B:BV)(p:Nat→Bool):Nat→BV
 |0=>0#64
 |k+1=>Zw A B p k|||(((if p k=true then B else A).sshiftRight (8*k)&&&255#64) <<< (8*k))
theorem mV {k:Nat}(hk:k<8):(8*(k:Int)).toNat=8*k:=by omega
theorem VI (Y X:BV){k:Nat}(hk:k<8):IntKind.wrap .i64 ((((BitVec.ofInt (IntKind.bits .i64) (vB Y))|||(BitVec.ofInt (IntKind.bits .i64) (IntKind.wrap .i64 ((IntKind.wrap .i64 ((((BitVec.ofInt (IntKind.bits .i64) (Int.fdiv (vB X) (2^min ((8*(k:Int))).toNat (IntKind.bits .i64))))&&&(BitVec.ofInt (IntKind.bits .i64) 255)).toNat:Nat):Int))*2^min ((8*(k:Int))).toNat (IntKind.bits .i64))))).toNat:Nat):Int)=vB (Y|||((X.sshiftRight (8*k)&&&255#64) <<< (8*k))):=by
 rw [mV hk,Py X (8*k) (by omega),show BitVec.ofInt (IntKind.bits .i64) 255=BitVec.ofInt (IntKind.bits .i64) (vB 255#64)from by decide+kernel,Px,NM _ (8*k) (by omega),Zt]
theorem Rf {A B:BV}{m:Int}{p:Nat→Bool}(hp:∀k:Nat,k<8→(GT m (k:Int)=1↔p k=true)):∀k,k≤8→Tz (vB A) (vB B) m k=vB (Zw A B p k)
 |0,_=>by show(0:Int)=vB 0#64;decide+kernel
 | k+1,h=>by
  have ih:=Rf (A:=A) (B:=B) hp k (by omega)
  by_cases hq:GT m (k:Int)=1
  ·rw [←Zu hq,ih,VI _ B (by omega)]
   show _=vB (Zw A B p k|||(((if p k=true then B else A).sshiftRight (8*k)&&&255#64) <<< (8*k)))
   rw [if_pos ((hp k (by omega)).1 hq)]
  ·rw [←Zv hq,ih,VI _ A (by omega)]
   show _=vB (Zw A B p k|||(((if p k=true then B else A).sshiftRight (8*k)&&&255#64) <<< (8*k)))
   rw [if_neg (fun h2=>hq ((hp k (by omega)).2 h2))]
theorem uN:∀j:Nat,j<64→(255#64:BV).getLsbD j=decide (j<8):=by decide+kernel
set_option simprocs true in
theorem Rh (A B:BV)(p:Nat→Bool)(i:Nat)(hi:i<64):∀k,k≤8→(Zw A B p k).getLsbD i=(decide (i<8*k)&&(if p (i / 8)=true then B else A).getLsbD i)
 |0,_=>by simp [Zw]
 | k+1,h=>by
  unfold Zw
  rw [BitVec.getLsbD_or,Rh A B p i hi k (by omega),BitVec.getLsbD_shiftLeft,σ7,BitVec.getLsbD_sshiftRight]
  by_cases h1:i<8*k
  ·simp [h1,hi,show i<8*(k+1) by omega]
  ·have e2:8*k+(i - 8*k)=i:=by omega
   rw [uN (i - 8*k) (by omega),e2,if_pos hi,η8 (show¬64≤i - 8*k by omega),η8 h1,η4 hi]
   by_cases h2:i<8*(k+1)
   ·have e:i / 8=k:=by omega
    rw [e,η4 h2,η4 (show i - 8*k<8 by omega)]
    simp
   ·rw [η8 h2,η8 (show¬i - 8*k<8 by omega)]
    simp
theorem dW (A B M:BV)(p:Nat→Bool)(hM:∀i,i<64→M.getLsbD i=p (i / 8)):Zw A B p 8=(A&&& ~~~M)|||(B&&&M):=by
 apply BitVec.eq_of_getLsbD_eq
 intro i hi
 rw [Rh A B p i hi 8 (β7 _),η4 (show i<8*8 by omega),BitVec.getLsbD_or,σ7,σ7,BitVec.getLsbD_not,hM i hi,η4 hi]
 cases p (i / 8)
 ·rw [if_neg (by decide)];simp
 ·rw [if_pos rfl];simp
abbrev inr (x:Int):Prop:= -9223372036854775808≤x∧x≤9223372036854775807
theorem Oi (x:Int):inr (IntKind.wrap .i64 x):=by rw [τ8];constructor<;>omega
theorem Zx {o s:Int}(hO:OS o s):∃L,FP o s (8*o.toNat) (8*s.toNat) L∧FP 0 s 0 (8*s.toNat) L:=by
 rcases hO with⟨rfl,rfl⟩|⟨rfl,rfl⟩|⟨rfl,rfl⟩|⟨rfl,rfl⟩|⟨rfl,rfl⟩|⟨rfl,rfl⟩|⟨rfl,rfl⟩|⟨rfl,rfl⟩|⟨rfl,rfl⟩|⟨rfl,rfl⟩|⟨rfl,rfl⟩|⟨rfl,rfl⟩|⟨rfl,rfl⟩|⟨rfl,rfl⟩|⟨rfl,rfl⟩
 ·exact⟨L1,FP.mk1 0 (by decide) (by decide) (by decide),FP.mk1 0 (by decide) (by decide) (by decide)⟩
 ·exact⟨L1,FP.mk1 8 (by decide) (by decide) (by decide),FP.mk1 0 (by decide) (by decide) (by decide)⟩
 ·exact⟨L1,FP.mk1 16 (by decide) (by decide) (by decide),FP.mk1 0 (by decide) (by decide) (by decide)⟩
 ·exact⟨L1,FP.mk1 24 (by decide) (by decide) (by decide),FP.mk1 0 (by decide) (by decide) (by decide)⟩
 ·exact⟨L1,FP.mk1 32 (by decide) (by decide) (by decide),FP.mk1 0 (by decide) (by decide) (by decide)⟩
 ·exact⟨L1,FP.mk1 40 (by decide) (by decide) (by decide),FP.mk1 0 (by decide) (by decide) (by decide)⟩
 ·exact⟨L1,FP.mk1 48 (by decide) (by decide) (by decide),FP.mk1 0 (by decide) (by decide) (by decide)⟩
 ·exact⟨L1,FP.mk1 56 (by decide) (by decide) (by decide),FP.mk1 0 (by decide) (by decide) (by decide)⟩
 ·exact⟨L2,FP.mk2 0 (by decide) (by decide) (by decide),FP.mk2 0 (by decide) (by decide) (by decide)⟩
 ·exact⟨L2,FP.mk2 16 (by decide) (by decide) (by decide),FP.mk2 0 (by decide) (by decide) (by decide)⟩
 ·exact⟨L2,FP.mk2 32 (by decide) (by decide) (by decide),FP.mk2 0 (by decide) (by decide) (by decide)⟩
 ·exact⟨L2,FP.mk2 48 (by decide) (by decide) (by decide),FP.mk2 0 (by decide) (by decide) (by decide)⟩
 ·exact⟨L4,FP.mk4 0 (by decide) (by decide) (by decide),FP.mk4 0 (by decide) (by decide) (by decide)⟩
 ·exact⟨L4,FP.mk4 32 (by decide) (by decide) (by decide),FP.mk4 0 (by decide) (by decide) (by decide)⟩
 ·exact⟨L8,yK,yK⟩
theorem dX {o s a x:Int}(hO:OS o s)(ha:inr a)(hx:inr x):Tz a (IntKind.wrap .i64 (x*2^min (8*o).toNat (IntKind.bits .i64))) (CS o s) 8=Bm a o s x:=by
 obtain⟨L,h,_⟩:=Zx hO
 have hr:=VH hO
 have hh:=h.h
 have hp:=h.p
 conv=>lhs;rw [←Ig ha,←Ig hx]
 conv=>rhs;rw [←Ig hx]
 have e:(8*o).toNat=8*o.toNat:=by omega
 have h1:∀k:Nat,k<8→(GT (CS o s) (k:Int)=1↔(fun j=>decide (o.toNat≤j∧j<o.toNat+s.toNat)) k=true):=fun k hk=>by
  rw [VG hO k hk]
  by_cases q:o≤(k:Int)∧(k:Int)<o+s
  ·rw [if_pos q];simp only [true_iff,δ5];omega
  ·rw [if_neg q];simp only [δ5];constructor
   ·intro h2;cases h2
   ·intro h2;exact absurd h2 (by omega)
 have h2:∀i,i<64→(L <<< (8*o.toNat)).getLsbD i=(fun j=>decide (o.toNat≤j∧j<o.toNat+s.toNat)) (i / 8):=fun i hi=>by
  rw [BitVec.getLsbD_shiftLeft]
  by_cases q:8*o.toNat≤i
  ·rw [h.b (i - 8*o.toNat) (by omega),η4 hi,η8 (show¬i<8*o.toNat by omega),Bool.not_false,τ2,τ2]
   apply τ9.2
   omega
  ·rw [η4 (show i<8*o.toNat by omega),Bool.not_true,Bool.and_false,Bool.false_and]
   exact(η8 (by omega)).symm
 rw [e,NM _ (8*o.toNat) (by omega),Rf h1 8 (β7 _),dW _ _ (L <<< (8*o.toNat)) _ h2,h.put]
theorem VJ {o s m:Int}(hO:OS o s)(hm:inr m):Bz (Int.fdiv m (2^min (8*o).toNat (IntKind.bits .i64))) s=BS m o s∧Bz (BS m o s) s=BS m o s:=by
 obtain⟨L,h,h0⟩:=Zx hO
 have hr:=VH hO
 have hh:=h.h
 have hp:=h.p
 have e:(8*o).toNat=8*o.toNat:=by omega
 rw [←Ig hm,e,Py _ (8*o.toNat) (by omega),h0.low,h.get,h0.low,BitVec.and_assoc,BitVec.and_self]
 exact⟨rfl,rfl⟩
theorem Kz (v s:Int):inr (Bz v s):=by
 unfold Bz;split
 ·decide
 ·exact Oi _
theorem VK (f v a s:Int):inr (Jd f v a s):=by
 unfold Jd
 split
 ·exact Kz _ _
 ·split
  ·exact Kz _ _
  ·decide
theorem VL {v:Int}(o s x:Int)(h:inr v):inr (Bm v o s x):=by
 unfold Bm;split
 ·exact h
 ·exact Oi _
theorem Zy (o s m1:Int)(hO:OS o s)(hm:m1=CS o s):Fn Tryz.prog 95 [.int .i64 m1] [] (Rt (.int .i64 o) []):=
 Am (n:=16) (by kernel_rfl) Tryz.func95 rfl rfl rfl fun G w a h0 A=>N9 12 A rfl rfl fun A=>B7 (fun(k:Nat)=>[(0,.int .i64 m1),(2,.int .i64 0),(3,.int .i64 (k:Int))]) (fun(k:Nat)=>[]) (fun(k:Nat)=>k≤7∧∀j:Nat,j<k→GT m1 (j:Int)=0) (fun(k:Nat)=>8 - k) 0 ⟨β8 _,fun j h=>absurd h (ξ3 _)⟩ ((A.cut [0,2,3] rfl).trunc 0 rfl rfl rfl (Cj h0 rfl)) fun k hK {G a w} A=>N9 14 A rfl (Bw<|Bw<|Hu (fun hg=>(by omega))<|Bw<|Bw<|Bw<|Ah) fun A=>fork 12 A rfl
   (fun h1 A=>N9 10 A rfl (Aj (by omega)<|Ah) fun A=>⟨k+1,_,(by omega),(mU h1 hK),((A.cut [0,2,3] rfl).trunc 0 rfl rfl rfl (Cj h0 rfl)).sayT (by rfl)⟩)
   (fun h1 A=>N9 10 A rfl rfl fun A=>R9 A rfl h0 rfl (congrArg (SV.int .i64) (dU h1 hK hO hm)) rfl)
end Go.Proofs.YtbbdanhpphlbpaaGreatDoor.Mc
namespace Go.Proofs.YtbbdanhpphlbpaaGreatDoor
open Go.RowKit
section
variable {P:Program}{Y:Tb}{n:Nat}{ks:List Nat}{G0:Gr}{w0:World}{T:List (Nat×SV)}{H:Hp}{G:Gr}{a:Act}{w:World}{ops:Array Oper}{o:Oper}{Q:Exit→Act→World→Prop}{K:List Fr}{pos:Pos}
theorem Le {x:Operand}{b q:Nat}(CJ:o.op=.nilCheck x)(hg:BE ops T o.guard=some .run)(hx:Db T x=some (GP b q)):Bd P n ops ks G0 w0 T H o (GP b q) H:=fun G a w A=>by
 have hw:=BQ (gd:=none) A hg
 obtain⟨d,op,ty,pos,af,gd⟩:=o
 simp only at CJ
 subst CJ
 have CH:=A.ev hx
 unfold den at CH
 exact Fw hw (by rw [←β6 CH]) ⟨[],rfl,by simpa using A.ms⟩
theorem Lf {x:Operand}{t fi b q off:Nat}(CJ:o.op=.fieldAddr t x fi)(hg:BE ops T o.guard=some .run)(hx:Db T x=some (GP b q))(hf:Dy P t fi=some off):Bd P n ops ks G0 w0 T H o (GP b (q+off)) H:=fun G a w A=>by
 have hw:=BQ (gd:=none) A hg
 obtain⟨d,op,ty,pos,af,gd⟩:=o
 simp only at CJ
 subst CJ
 have CH:=A.ev hx
 unfold den at CH
 simp only [β2]at CH
 exact EW hw CH.symm hf ⟨[],rfl,by simpa using A.ms⟩
theorem XO {x:Operand}{ty s b q0 q:Nat}{f:Nat→List SV}{r:List SV}{v:SV}{z:Value}(hX:Y.ok P=true)(CJ:o.op=.load ty x)(hg:BE ops T o.guard=some .run)(hx:Db T x=some (GP b (q0+q)))(h0:At (some ⟨b,q0,none⟩) s 1 f w0 ks)(hr:f 0=r)(hc:DX ⟨Y,true⟩ ty r q=some v)(hv:den [] v=some z):Bd P n ops ks G0 w0 T H o v H:=fun G a w A=>by
 have h1:=At.ok w0 ks w ks h0 A.mix (fun b hb=>.inl hb)
 rcases h1.2 with q|⟨b',q',hb,_,_,h4⟩
 ·omega
 have hw:=BQ (gd:=none) A hg
 obtain⟨d,op,ty,pos,af,gd⟩:=o
 simp only at CJ
 subst CJ
 have CH:=A.ev hx
 unfold den at CH
 simp only [β2]at CH
 obtain⟨vs,v1,v2⟩:=h4 0 (by omega)
 rw [hr]at v1
 have e:b'=b∧q'=q0:=by
  have:=β6 hb
  simp only [κ9]at this
  exact⟨this.1.symm,this.2.1.symm⟩
 obtain⟨rfl,rfl⟩:=e
 have v3:Al G r=some vs:=by simpa using BT G r v1
 have v4:den G v=some z:=by simpa using BF G v hv
 exact Fx (X:=⟨Y,true⟩) hX hc v3 v4 v2 hw (by rw [←CH];simp) ⟨[],by simpa using v4,by simpa using A.ms⟩
end
section
variable {P:Program}{n:Nat}{ks:List Nat}{G0:Gr}{w0:World}{T:List (Nat×SV)}{H:Hp}{G:Gr}{a:Act}{w:World}{ops:Array Oper}{o:Oper}{Q:Exit→Act→World→Prop}{pre:World→Prop}{i fuel:Nat}{listed:Array Bool}
theorem HN {f:Nat} {args az:List SV} {H' l:Hp} {ks':List Nat} {J:SV→World→World→Prop} (m:List Nat) (ho:ops[i]?=some o) (hf:PG P f args H' ks' pre J) (A:Sy n T H ks G0 w0 G a w) (hp:pre w) (Dk:Kr H G ks') (hk:∀b,ks'.contains b=true→ks.contains b=true∨w0.heap.size≤b) (h1:B6 n ops T o=some (f,az)) (h2:EB m args=some az) (h3:DE m H'=some l) (h4:DA H m=some l) (h5:Jt m=true)
  (k:∀{x a' w'},DO ks' w w'→J x w w'→Sy n (Bh T o.dst x) H ks G0 w0 G a' w'→wpAny P .any ops Q fuel (listed.setIfInBounds i true) a' w'):wpOp P ops Q i (wpAny P .any ops Q fuel (listed.setIfInBounds i true)) a w:=by
 obtain⟨hd,us,hu,I2⟩:=Ci (P:=P) (ops:=ops) A h1 hf.1
 obtain⟨p1,p2,p3⟩:=D5 h4
 obtain⟨r1,r2⟩:=ER h3
 have hm:∀j∈m,j<G.length:=fun j hj=>by rw [←A.mem.len];exact p2 j hj
 have hM:=A.mem.sub h4 h3 h5
 have Qb:Al (BW m G) args=some us:=by rw [D4 hm args h2];exact hu
 have xB:Kr H' (BW m G) ks':=fun i e L q1 q2 q3=>by
  obtain⟨f,s1,s2⟩:=r2 i _ q1
  obtain⟨f',rfl⟩:=Ds s2
  have hi:i<m.length:=by rw [←p1];exact(α0.1 s1).1
  have hj:m[i]?=some m[i]:=by simp [hi]
  rw [B5 hm hj]at q2
  rw [p3 i _ hj]at s1
  exact Dk _ f' L s1 q2 fun h=>q3 ((C1 s2).2.1 h)
 refine Kv ho (I2 (hf.2.2 _ w us hM xB hp Qb) fun e w' he=>?_)
 obtain⟨x,v,e1,rfl,hg,hJ⟩:=he
 exact⟨v,rfl,k hg hJ (Sy.put (A.mixed hg Dk hk) hd (by simpa using BF G x e1))⟩
end
theorem Gt.lst {L:Loc}{cs:List SV}{pb:Option (Nat×Nat)}{ps:List Int}{w:World}{ks:List Nat}(h:Gt L cs pb ps w)(hk:ks.contains L.b=false):At (some ⟨L.b,L.pre.length,none⟩) (cs.length+1) 1 (fun _=>cs++[.v (PH pb ps.length)]) w ks:=by
 obtain⟨vs,XP,hb⟩:=h.blk
 have hd:Al [] (cs++[.v (PH pb ps.length)])=some (vs++[PH pb ps.length]):=HK rfl XP
 obtain⟨L',us,e1,e2,e3⟩:=BK.range (G:=[]) (w:=w) (p:=some L) (cs:=cs++[.v (PH pb ps.length)]) ⟨L,_,rfl,hd,hb⟩
 cases e1
 refine⟨fun k=>⟨_,hd⟩,.inr ⟨L.b,L.pre.length,rfl,hb.lt,hk,fun k hk=>⟨us,e2,?_⟩⟩⟩
 have xJ:k=0:=by omega
 subst xJ
 simpa using e3
end Go.Proofs.YtbbdanhpphlbpaaGreatDoor
namespace Go.Proofs.YtbbdanhpphlbpaaGreatDoor.Mc
open Go.RowKit
set_option simprocs false
def GV (r:Rg)(i:In):Int:=if((i.op==5)&&(decide (i.ra<0)))=true then i.imm else DT r i.ra 0
theorem Zz (l:List In)(ao:Option Addr)(cp:Nat)(at_:Int)(r:Rg)(ps:List Int)(g:Int)(hg: -1≤g∧g<8):Fn Tryz.prog 97 [.ptr 0 0,.int .i64 g] [some (.blk (FR (.sla ao l.length cp) r at_ (.sl 1 ps.length 0))),some (.row 3 1 ps.length 0 (Ec ps))] (Rt (.int .i64 (DT r g 0)) [some (.blk (FR (.sla ao l.length cp) r at_ (.sl 1 ps.length 0))),some (.row 3 1 ps.length 0 (Ec ps))]):=
 Am (n:=13) (by kernel_rfl) Tryz.func97 rfl rfl rfl fun G w a h0 A=>N9 12 A rfl rfl fun A=>Aq 6 A rfl
  (fun h1 A=>N9 7 A rfl rfl fun A=>R9 A rfl h0 rfl (by unfold DT;rw [if_pos (by omega)]<;>rfl) rfl)
  (fun h1 A=>N9 10 A rfl (Aj (by omega)<|Ah) fun A=>A9 A rfl (Sr (r:=r) hX rfl rfl rfl rfl rfl rfl rfl (by omega)) fun A=>N9 4 A rfl rfl fun A=>R9 A rfl h0 rfl (by unfold DT;rw [if_neg (by omega)]<;>rfl) rfl)
theorem Z0 (l:List In)(ao:Option Addr)(cp:Nat)(at_:Int)(r:Rg)(ps:List Int)(i:In)(ha: -1≤i.ra∧i.ra<8):Fn Tryz.prog 100 [.ptr 0 0,.agg (A5 i)] [some (.blk (FR (.sla ao l.length cp) r at_ (.sl 1 ps.length 0))),some (.row 3 1 ps.length 0 (Ec ps))] (Rt (.int .i64 (GV r i)) [some (.blk (FR (.sla ao l.length cp) r at_ (.sl 1 ps.length 0))),some (.row 3 1 ps.length 0 (Ec ps))]):=
 Am (n:=19) (by kernel_rfl) Tryz.func100 rfl rfl rfl fun G w a h0 A=>N9 19 A rfl rfl fun A=>fork 12 A rfl
  (fun h1 A=>N9 9 A rfl rfl fun A=>R9 A rfl h0 rfl (by unfold GV;rw [h1]<;>rfl) rfl)
  (fun h1 A=>N9 8 A rfl rfl fun A=>C9 [0,1] (Zz l ao cp at_ r ps i.ra (by omega)) A rfl fun A=>N9 4 A rfl rfl fun A=>R9 A rfl h0 rfl (by unfold GV;rw [h1]<;>rfl) rfl)
theorem mW (l:List In)(ao:Option Addr)(cp:Nat)(at_:Int)(r:Rg)(ps:List Int)(i:In)(hs:i.sz=1∨i.sz=2∨i.sz=4∨i.sz=8)(hx: -1≤i.ix∧i.ix<8):Fn Tryz.prog 63 [.ptr 0 0,.agg (A5 i)] [some (.blk (FR (.sla ao l.length cp) r at_ (.sl 1 ps.length 0))),some (.row 3 1 ps.length 0 (Ec ps))] (Rt (.agg [.int .i64 i.loc,.int .i64 (Bl (A7 i.off (DT r i.ix 0) i.sz) i.sz)]) [some (.blk (FR (.sla ao l.length cp) r at_ (.sl 1 ps.length 0))),some (.row 3 1 ps.length 0 (Ec ps))]):=
 Am (n:=11) (by kernel_rfl) Tryz.func63 rfl rfl rfl fun G w a h0 A=>N9 7 A rfl rfl fun A=>Ba hX By [(5,.agg [.int .i64 i.loc,.int .i64 (Bl (A7 i.off (DT r i.ix 0) i.sz) i.sz)])] [(4,.int .i64 (DT r i.ix 0),[some (.blk (FR (.sla ao l.length cp) r at_ (.sl 1 ps.length 0))),some (.row 3 1 ps.length 0 (Ec ps)),some (.blk (A5 i)),some (.blk [.z9,.z9])])] A rfl rfl rfl rfl (by kernel_rfl) ⟨ED [0,1] (Zz l ao cp at_ r ps i.ix hx) rfl rfl rfl rfl rfl rfl rfl,⟨trivial,trivial⟩⟩ ⟨.inl ⟨_,_,rfl,rfl,U9 i (DT r i.ix 0) hs⟩,trivial⟩ fun A=>N9 2 A rfl rfl fun A=>R9 A rfl h0 rfl rfl rfl
end Go.Proofs.YtbbdanhpphlbpaaGreatDoor.Mc
namespace Go.Proofs.YtbbdanhpphlbpaaGreatDoor.Mc
open Go.RowKit
set_option simprocs false
def mX (L:Loc)(l:List In)(ao:Option Addr)(cp:Nat)(s:Th)(pb:Option (Nat×Nat)):SV→World→World→Prop:=fun _ w w'=>∃pb' ps',Gt L (Ss (.sla ao l.length cp) s.r ((s.at_:Nat):Int)) pb' ps' w'∧ps'.length≤s.at_∧∀b,(Hj pb').contains b=true→(L.b::Hj pb).contains b=true∨w.heap.size≤b
theorem JQ {L:Loc}{l:List In}{ao:Option Addr}{cp:Nat}{s z:Th}{pb:Option (Nat×Nat)}{ps':List Int}{x:SV}{w w':World}(h:∃pb',Gt L (Ss (.sla ao l.length cp) z.r ((z.at_:Nat):Int)) pb' ps' w'∧∀b,(Hj pb').contains b=true→(L.b::Hj pb).contains b=true∨w.heap.size≤b)(e:s=z)(hl:ps'.length≤z.at_):mX L l ao cp s pb x w w':=by
 subst e;obtain⟨pb',h1,h2⟩:=h;exact⟨pb',ps',h1,hl,h2⟩
theorem Oj {H:Hp}{i:Nat}{e:Option Bo}(h:lg H i=some e):Cd H i e=H:=by
 rw [BI]at h
 rw [BJ]
 apply θ5
 intro j
 by_cases hj:j=i
 ·subst hj;rw [γ7 (α0.1 h).1,h]
 ·rw [γ0 (ζ1 hj)]
section
variable {n:Nat}{ks:List Nat}{G0:Gr}{w0:World}{T:List (Nat×SV)}{H:Hp}{G:Gr}{a:Act}{w:World}
theorem _root_.Go.Proofs.YtbbdanhpphlbpaaGreatDoor.Sy.thSay (A:Sy n T H ks G0 w0 G a w)(i q:Nat){c:SV}{r r':Rg}{at_ at':Int}{m m':Nat}{ps:List Int}{H':Hp}(hi:lg H i=some (some (.blk (FR c r at_ (.sl q m 0)))))(hq:lg H q=some (some (.row 3 1 m 0 (Ec ps))))(hr:r'=r)(ha:at'=at_)(hm:m'=m)(hH:Cd (Cd H q (some (.row 3 1 m' 0 (Ec ps)))) i (some (.blk (FR c r' at' (.sl q m' 0))))=H'):Sy n T H' ks G0 w0 G a w:=by
 subst hr;subst ha;subst hm
 rw [Oj hq,Oj hi]at hH
 subst hH
 exact A
theorem _root_.Go.Proofs.YtbbdanhpphlbpaaGreatDoor.Sy.at_pre (A:Sy n T H ks G0 w0 G a w){i:Nat}{L:Loc}(h:G0[i]?=some (some L)):G[i]?=some (some L):=by
 obtain⟨F,hF⟩:=A.pre
 rw [hF,α1 (α0.1 h).1];exact h
end
abbrev Bs (l:List In)(z:Th):In:=l.getD (((z.at_:Nat):Int)).toNat In.z
theorem Ri {l:List In}{z:Th}(hc:Fs l)(Bn:z.at_<l.length){R:Rg}{A:Int}(hR:HI z.r (Bs l z)=R)(hA:Ft ((z.at_:Nat):Int) z.r (Bs l z)=A):(GY l z).r=R∧(((GY l z).at_:Nat):Int)=A:=by
 have hr:=KD (z:=z) hc Bn
 have hA':Ft ((z.at_:Nat):Int) z.r (l.getD z.at_ In.z)=A:=hA
 refine⟨hR,?_⟩
 show(((Ft ((z.at_:Nat):Int) z.r (l.getD z.at_ In.z)).toNat:Nat):Int)=A
 omega
structure PI (l:List In)(s z:Th)(ps:List Int):Prop where
 si:SI l s z
 pl:ps.length≤z.at_
theorem PI.nx {l:List In}{s z:Th}{ps:List Int}(h:PI l s z ps)(hc:Fs l)(Bn:z.at_<l.length)(LS:HU (Bs l z)=false)(x:Int):PI l s (GY l z) (ps++[x])∧l.length - (GY l z).at_<l.length - z.at_:=by
 have h1:=h.si.nx hc (by omega) (by rw [LS];rfl)
 have h2:=h.pl
 exact⟨⟨h1.1,by rw [α4];show ps.length+1≤_;omega⟩,h1.2⟩
theorem Rj (l:List In) (ao:Option Addr) (cp:Nat) (s:Th) (L:Loc) (pb:Option (Nat×Nat)) (ps:List Int) (hc:Fs l) (Et:s.at_≤l.length) (ZL:ps.length≤s.at_):PG Tryz.prog 54 [.v (.pointer (some ⟨L.b,L.pre.length,none⟩))] [] (L.b::Hj pb) (fun w=>Gt L (Ss (.sla ao l.length cp) s.r ((s.at_:Nat):Int)) pb ps w∧F9 ao l w (L.b::Hj pb)) (mX L l ao cp (FQ l s) pb):=
 Gq (n:=133) (by kernel_rfl) Tryz.func54 rfl rfl rfl (fun i e h=>by rw [κ1]at h;cases h) fun G w a h0 ho hp A=>Zk 0 A hp.1 rfl rfl fun A SL xK=>have B:=A;have A:=B.base;have h0:=B.mem.len;have hI:=At.ok _ _ _ _ hp.2 (DO.refl _ _) xK;Zl 1 0 (cs:=Ss (.sla ao l.length cp) s.r ((s.at_:Nat):Int)) (H':=[none,some (.blk (FR (.sla ao l.length cp) s.r ((s.at_:Nat):Int) (.sl 2 ps.length 0))),some (.row 3 1 ps.length 0 (Ec ps))]) A rfl rfl rfl rfl fun A=>N9 7 A rfl rfl fun A=>ON (fun(z:Th) (ps1:List Int)=>[(0,.ptr 1 0),(2,.ff)]) (fun(z:Th) (ps1:List Int)=>[none,some (.blk (FR (.sla ao l.length cp) z.r ((z.at_:Nat):Int) (.sl 2 ps1.length 0))),some (.row 3 1 ps1.length 0 (Ec ps1))]) (fun(z:Th) (ps1:List Int)=>PI l s z ps1) (fun(z:Th) (ps1:List Int)=>l.length - z.at_) s ps ⟨SI.i0 Et,ZL⟩ ((A.cut [0,2] rfl).trunc 3 rfl rfl rfl (Cj h0 rfl)) fun z ps1 hJ {G a w} A=>N9 2 A rfl rfl fun A=>Ba hX By [] [] A rfl rfl rfl rfl (by kernel_rfl) (A8 _ _) trivial fun A=>N9 1 A rfl rfl fun A=>Aq 14 A rfl
   (fun h1 A=>N9 5 A rfl rfl fun A=>have Bn:z.at_<l.length:=(by omega);have hs:X0 (Bs l z):=hc.snd Bn;have hn:=hc.n;have KN:=hJ.pl;JO By [.ptr 1 0,.ptr 1 0,.ptr 1 0,.sla ao l.length cp,.ptr 1 0,.ptr 1 0,.ptr 1 9,.int .i64 ((z.at_:Nat):Int),.v (.pointer (Ty ao 17 ((z.at_:Nat):Int))),.agg (A5 (Bs l z)),.ptr 3 0,.tup []] [10,11] [3] 1 [([],[3],[none,some (.blk (FR (.sla ao l.length cp) z.r ((z.at_:Nat):Int) (.sl 2 ps1.length 0))),some (.row 3 1 ps1.length 0 (Ec ps1)),none]),([10],[],[none,some (.blk (FR (.sla ao l.length cp) z.r ((z.at_:Nat):Int) (.sl 2 ps1.length 0))),some (.row 3 1 ps1.length 0 (Ec ps1)),some (.blk [.z9,.z9,.z9,.z9,.z9,.z9,.z9,.z9,.z9,.z9,.ff,.ff,.ff,.z9,.z9,.z9,.ff])]),([10,11],[],[none,some (.blk (FR (.sla ao l.length cp) z.r ((z.at_:Nat):Int) (.sl 2 ps1.length 0))),some (.row 3 1 ps1.length 0 (Ec ps1)),some (.blk (A5 (Bs l z)))])] [[true,true,true,true,true,true,true,true,true,true,true,false],[true,true,true,true,true,true,true,true,true,true,false,true],[false,false,false,false,false,false,false,false,false,false,false,false]] A rfl rfl rfl rfl (by kernel_rfl) rfl (by kernel_rfl) ⟨⟨Ao 0 rfl rfl,⟨Ao 0 rfl rfl,⟨Ao 0 rfl rfl,⟨Ao 0 rfl rfl,⟨Ao 0 rfl rfl,⟨Ao 0 rfl rfl,⟨Ao 0 rfl rfl,⟨Ao 0 rfl rfl,⟨CF 0 rfl (Hz (e:=63) rfl rfl rfl rfl hI (by kernel_rfl) (by omega)),⟨CF 0 rfl (Po (C3 (Bs l z)) hX rfl rfl rfl hI (by omega) rfl rfl),⟨⟨_,_,_,_,1,rfl,rfl,rfl,rfl,Eh 3 (X:=⟨_,true⟩) hX rfl rfl (Ph h0 rfl) rfl rfl rfl rfl⟩,trivial⟩⟩⟩⟩⟩⟩⟩⟩⟩⟩⟩,⟨⟨Ao 1 rfl rfl,⟨Ao 1 rfl rfl,⟨Ao 1 rfl rfl,⟨Ao 1 rfl rfl,⟨Ao 1 rfl rfl,⟨Ao 1 rfl rfl,⟨Ao 1 rfl rfl,⟨Ao 1 rfl rfl,⟨CF 1 rfl (Hz (e:=63) rfl rfl rfl rfl hI (by kernel_rfl) (by omega)),⟨CF 1 rfl (Po (C3 (Bs l z)) hX rfl rfl rfl hI (by omega) rfl rfl),⟨CF 2 rfl (BN (X:=⟨_,true⟩) (out:=.upd 3 (A5 (Bs l z)) _) hX rfl rfl),trivial⟩⟩⟩⟩⟩⟩⟩⟩⟩⟩⟩,⟨trivial,trivial⟩⟩⟩ fun A=>N9 5 A rfl rfl fun A=>C9 [] (Zo (Bs l z)) A rfl fun A=>N9 12 A rfl rfl fun A=>fork 36 A rfl
    (fun h2 A=>N9 7 A rfl rfl fun A=>Hw hX (B.trans A) rfl rfl rfl rfl (JQ (Sy.giveT (B.trans A) 1 2 (A.at_pre SL) rfl rfl rfl rfl) (hJ.si.fin (fun q=>by rw [show HU (l.getD z.at_ In.z)=true from h2]at q;cases q.2)) hJ.pl))
    (fun h2 A=>N9 4 A rfl rfl fun A=>Ba hX By [] [(10,.sl 5 (ps1.length+1) 0,[none,some (.blk (FR (.sla ao l.length cp) z.r ((z.at_:Nat):Int) (.sl 2 ps1.length 0))),none,some (.blk (A5 (Bs l z))),some (.blk [.int .i64 ((z.at_:Nat):Int)]),some (.row 3 1 (ps1.length+1) 0 (Ec (ps1++[((z.at_:Nat):Int)])))])] A rfl rfl rfl rfl (by kernel_rfl) ⟨trivial,⟨OO (i:=2) hX (ps1.length+1) (Ec (ps1++[((z.at_:Nat):Int)])) rfl rfl rfl rfl (by omega) rfl (fun k hk=>by show [SV.int .i64 _]=[SV.int .i64 _];rw [BX hk]) (by show [SV.int .i64 _]=_;rw [EH]) (fun z=>⟨_,rfl,rfl⟩),⟨trivial,trivial⟩⟩⟩ trivial fun A=>N9 14 A rfl (Aj (by omega)<|Ah) fun A=>N9 12 A rfl rfl fun A=>Au 59 A rfl
     (fun h3 A=>N9 1 A rfl rfl fun A=>Ba hX By [] [(8,.tup [],[none,some (.blk (FR (.sla ao l.length cp) (Bk z.r ((Bs l z).dst).toNat ((Bs l z).imm)) (((z.at_:Nat):Int)+1) (.sl 5 (ps1.length+1) 0))),none,some (.blk (A5 (Bs l z))),some (.blk [.int .i64 ((z.at_:Nat):Int)]),some (.row 3 1 (ps1.length+1) 0 (Ec (ps1++[((z.at_:Nat):Int)])))])] A rfl (Aj (by first|exact hs.d (by omega)|exact hs.a (by omega)|(have hb:=hs.b (by omega);omega)|omega)<|Ah) rfl rfl (by kernel_rfl) ⟨Sq (i:=1) (r:=z.r) hX rfl rfl rfl rfl rfl rfl rfl rfl (by first|exact hs.d (by omega)|exact hs.a (by omega)|(have hb:=hs.b (by omega);omega)|omega),trivial⟩ trivial fun A=>N9 2 A rfl rfl fun A=>⟨GY l z,ps1++[((z.at_:Nat):Int)],_,(hJ.nx hc Bn h2 ((z.at_:Nat):Int)).2,(hJ.nx hc Bn h2 ((z.at_:Nat):Int)).1,(((A.thSay 1 5 (r':=(GY l z).r) (at':=(((GY l z).at_:Nat):Int)) (m':=(ps1++[((z.at_:Nat):Int)]).length) rfl rfl (Ri hc Bn (by unfold HI;rw [if_pos h3]) (by unfold Ft;rw [if_neg (by omega)])).1 (Ri hc Bn (by unfold HI;rw [if_pos h3]) (by unfold Ft;rw [if_neg (by omega)])).2 (by rw [α4];rfl) rfl).cut [0,2] rfl).mv 2 [5] rfl rfl rfl rfl (by simp only [α5,α7]at h0;omega))⟩)
     (fun h3 A=>N9 7 A rfl rfl fun A=>Au 69 A rfl
      (fun h4 A=>N9 1 A rfl rfl fun A=>JO By [.ptr 1 0,.ptr 3 1,.int .i64 ((Bs l z).dst),.ptr 1 0,.ptr 3 2,.int .i64 ((Bs l z).ra),.ptr 1 0,.ptr 1 1,.ix (.ptr 1 1) 1 8 ((Bs l z).ra) 0,.int .i64 (z.r ((Bs l z).ra).toNat),.ptr 1 0,.ptr 1 1,.ix (.ptr 1 1) 1 8 ((Bs l z).dst) 0,.tup []] [13] [] 0 [([],[],[none,some (.blk (FR (.sla ao l.length cp) z.r (((z.at_:Nat):Int)+1) (.sl 5 (ps1.length+1) 0))),none,some (.blk (A5 (Bs l z))),some (.blk [.int .i64 ((z.at_:Nat):Int)]),some (.row 3 1 (ps1.length+1) 0 (Ec (ps1++[((z.at_:Nat):Int)])))]),([13],[],[none,some (.blk (FR (.sla ao l.length cp) (Bk z.r ((Bs l z).dst).toNat (z.r ((Bs l z).ra).toNat)) (((z.at_:Nat):Int)+1) (.sl 5 (ps1.length+1) 0))),none,some (.blk (A5 (Bs l z))),some (.blk [.int .i64 ((z.at_:Nat):Int)]),some (.row 3 1 (ps1.length+1) 0 (Ec (ps1++[((z.at_:Nat):Int)])))])] [[true,true,true,true,true,true,true,true,true,true,true,true,true,true],[false,false,false,false,false,false,false,false,false,false,true,true,false,false]] A rfl rfl rfl rfl (by kernel_rfl) rfl (by kernel_rfl) ⟨⟨Ao 0 rfl rfl,⟨Ao 0 rfl rfl,⟨Ao 0 rfl rfl,⟨Ao 0 rfl rfl,⟨Ao 0 rfl rfl,⟨Ao 0 rfl rfl,⟨Ao 0 rfl rfl,⟨Ao 0 rfl rfl,⟨Ao 0 rfl (Aj (by first|exact hs.d (by omega)|exact hs.a (by omega)|(have hb:=hs.b (by omega);omega)|omega)<|Ah),⟨CF 0 rfl (Sr (r:=z.r) hX rfl rfl rfl rfl rfl rfl rfl (by first|exact hs.d (by omega)|exact hs.a (by omega)|(have hb:=hs.b (by omega);omega)|omega)),⟨Ao 0 rfl rfl,⟨Ao 0 rfl rfl,⟨Ao 0 rfl (Aj (by first|exact hs.d (by omega)|exact hs.a (by omega)|(have hb:=hs.b (by omega);omega)|omega)<|Ah),⟨CF 1 rfl (Sq (i:=1) (r:=z.r) hX rfl rfl rfl rfl rfl rfl rfl rfl (by first|exact hs.d (by omega)|exact hs.a (by omega)|(have hb:=hs.b (by omega);omega)|omega)),trivial⟩⟩⟩⟩⟩⟩⟩⟩⟩⟩⟩⟩⟩⟩,⟨⟨Ao 1 rfl rfl,⟨Ao 1 rfl rfl,trivial⟩⟩,trivial⟩⟩ fun A=>N9 2 A rfl rfl fun A=>⟨GY l z,ps1++[((z.at_:Nat):Int)],_,(hJ.nx hc Bn h2 ((z.at_:Nat):Int)).2,(hJ.nx hc Bn h2 ((z.at_:Nat):Int)).1,(((A.thSay 1 5 (r':=(GY l z).r) (at':=(((GY l z).at_:Nat):Int)) (m':=(ps1++[((z.at_:Nat):Int)]).length) rfl rfl (Ri hc Bn (by unfold HI;rw [if_neg (by omega),if_pos h4]) (by unfold Ft;rw [if_neg (by omega)])).1 (Ri hc Bn (by unfold HI;rw [if_neg (by omega),if_pos h4]) (by unfold Ft;rw [if_neg (by omega)])).2 (by rw [α4];rfl) rfl).cut [0,2] rfl).mv 2 [5] rfl rfl rfl rfl (by simp only [α5,α7]at h0;omega))⟩)
      (fun h4 A=>N9 7 A rfl rfl fun A=>Au 84 A rfl
       (fun h5 A=>N9 16 A rfl rfl fun A=>Aq 90 A rfl
        (fun h6 A=>N9 1 A rfl rfl fun A=>JO By [.ptr 1 0,.ptr 3 3,.int .i64 ((Bs l z).rb),.ptr 1 0,.ptr 1 1,.ix (.ptr 1 1) 1 8 ((Bs l z).rb) 0,.int .i64 (z.r ((Bs l z).rb).toNat),.int .i64 (z.r ((Bs l z).rb).toNat)] [] [] 0 [([],[],[none,some (.blk (FR (.sla ao l.length cp) z.r (((z.at_:Nat):Int)+1) (.sl 5 (ps1.length+1) 0))),none,some (.blk (A5 (Bs l z))),some (.blk [.int .i64 ((z.at_:Nat):Int)]),some (.row 3 1 (ps1.length+1) 0 (Ec (ps1++[((z.at_:Nat):Int)])))])] [[true,true,true,true,true,true,true,true]] A rfl rfl rfl rfl (by kernel_rfl) rfl (by kernel_rfl) ⟨⟨Ao 0 rfl rfl,⟨Ao 0 rfl rfl,⟨Ao 0 rfl rfl,⟨Ao 0 rfl rfl,⟨Ao 0 rfl rfl,⟨Ao 0 rfl (Aj (by first|exact hs.d (by omega)|exact hs.a (by omega)|(have hb:=hs.b (by omega);omega)|omega)<|Ah),⟨CF 0 rfl (Sr (r:=z.r) hX rfl rfl rfl rfl rfl rfl rfl (by first|exact hs.d (by omega)|exact hs.a (by omega)|(have hb:=hs.b (by omega);omega)|omega)),⟨Ao 0 rfl rfl,trivial⟩⟩⟩⟩⟩⟩⟩⟩,trivial⟩ fun A=>N9 1 A rfl rfl fun A=>JO By [.ptr 1 0,.ptr 3 1,.int .i64 ((Bs l z).dst),.ptr 3 9,.int .i64 ((Bs l z).fn),.ptr 1 0,.ptr 3 2,.int .i64 ((Bs l z).ra),.ptr 1 0,.ptr 1 1,.ix (.ptr 1 1) 1 8 ((Bs l z).ra) 0,.int .i64 (z.r ((Bs l z).ra).toNat),.int .i64 (z.r ((Bs l z).rb).toNat),.int .i64 (DG ((Bs l z).fn) (z.r ((Bs l z).ra).toNat) (z.r ((Bs l z).rb).toNat)),.ptr 1 0,.ptr 1 1,.ix (.ptr 1 1) 1 8 ((Bs l z).dst) 0,.tup []] [17] [] 0 [([],[],[none,some (.blk (FR (.sla ao l.length cp) z.r (((z.at_:Nat):Int)+1) (.sl 5 (ps1.length+1) 0))),none,some (.blk (A5 (Bs l z))),some (.blk [.int .i64 ((z.at_:Nat):Int)]),some (.row 3 1 (ps1.length+1) 0 (Ec (ps1++[((z.at_:Nat):Int)])))]),([17],[],[none,some (.blk [.sla ao l.length cp,.int .i64 ((Bk z.r ((Bs l z).dst).toNat (DG ((Bs l z).fn) (z.r ((Bs l z).ra).toNat) (z.r ((Bs l z).rb).toNat))) 0),.int .i64 ((Bk z.r ((Bs l z).dst).toNat (DG ((Bs l z).fn) (z.r ((Bs l z).ra).toNat) (z.r ((Bs l z).rb).toNat))) 1),.int .i64 ((Bk z.r ((Bs l z).dst).toNat (DG ((Bs l z).fn) (z.r ((Bs l z).ra).toNat) (z.r ((Bs l z).rb).toNat))) 2),.int .i64 ((Bk z.r ((Bs l z).dst).toNat (DG ((Bs l z).fn) (z.r ((Bs l z).ra).toNat) (z.r ((Bs l z).rb).toNat))) 3),.int .i64 ((Bk z.r ((Bs l z).dst).toNat (DG ((Bs l z).fn) (z.r ((Bs l z).ra).toNat) (z.r ((Bs l z).rb).toNat))) 4),.int .i64 ((Bk z.r ((Bs l z).dst).toNat (DG ((Bs l z).fn) (z.r ((Bs l z).ra).toNat) (z.r ((Bs l z).rb).toNat))) 5),.int .i64 ((Bk z.r ((Bs l z).dst).toNat (DG ((Bs l z).fn) (z.r ((Bs l z).ra).toNat) (z.r ((Bs l z).rb).toNat))) 6),.int .i64 ((Bk z.r ((Bs l z).dst).toNat (DG ((Bs l z).fn) (z.r ((Bs l z).ra).toNat) (z.r ((Bs l z).rb).toNat))) 7),.int .i64 (((z.at_:Nat):Int)+1),.sl 5 (ps1.length+1) 0]),none,some (.blk (A5 (Bs l z))),some (.blk [.int .i64 ((z.at_:Nat):Int)]),some (.row 3 1 (ps1.length+1) 0 (Ec (ps1++[((z.at_:Nat):Int)])))])] [[true,true,true,true,true,true,true,true,true,true,true,true,true,true,true,true,true,true],[false,false,false,false,false,false,false,false,false,false,false,false,false,false,true,true,false,false]] A rfl rfl rfl rfl (by kernel_rfl) rfl (by kernel_rfl) ⟨⟨Ao 0 rfl rfl,⟨Ao 0 rfl rfl,⟨Ao 0 rfl rfl,⟨Ao 0 rfl rfl,⟨Ao 0 rfl rfl,⟨Ao 0 rfl rfl,⟨Ao 0 rfl rfl,⟨Ao 0 rfl rfl,⟨Ao 0 rfl rfl,⟨Ao 0 rfl rfl,⟨Ao 0 rfl (Aj (by first|exact hs.d (by omega)|exact hs.a (by omega)|(have hb:=hs.b (by omega);omega)|omega)<|Ah),⟨CF 0 rfl (Sr (r:=z.r) hX rfl rfl rfl rfl rfl rfl rfl (by first|exact hs.d (by omega)|exact hs.a (by omega)|(have hb:=hs.b (by omega);omega)|omega)),⟨Ao 0 rfl rfl,⟨CF 0 rfl (C7 rfl rfl (Zn ((Bs l z).fn) (z.r ((Bs l z).ra).toNat) (z.r ((Bs l z).rb).toNat))),⟨Ao 0 rfl rfl,⟨Ao 0 rfl rfl,⟨Ao 0 rfl (Aj (by first|exact hs.d (by omega)|exact hs.a (by omega)|(have hb:=hs.b (by omega);omega)|omega)<|Ah),⟨CF 1 rfl (Sq (i:=1) (r:=z.r) hX rfl rfl rfl rfl rfl rfl rfl rfl (by first|exact hs.d (by omega)|exact hs.a (by omega)|(have hb:=hs.b (by omega);omega)|omega)),trivial⟩⟩⟩⟩⟩⟩⟩⟩⟩⟩⟩⟩⟩⟩⟩⟩⟩⟩,⟨⟨Ao 1 rfl rfl,⟨Ao 1 rfl rfl,trivial⟩⟩,trivial⟩⟩ fun A=>N9 2 A rfl rfl fun A=>⟨GY l z,ps1++[((z.at_:Nat):Int)],_,(hJ.nx hc Bn h2 ((z.at_:Nat):Int)).2,(hJ.nx hc Bn h2 ((z.at_:Nat):Int)).1,(((A.thSay 1 5 (r':=(GY l z).r) (at':=(((GY l z).at_:Nat):Int)) (m':=(ps1++[((z.at_:Nat):Int)]).length) rfl rfl (Ri hc Bn (by unfold HI DT;rw [if_neg (by omega),if_neg (by omega),if_pos h5,if_neg (by have hb:=hs.b (by omega);omega)]<;>rfl) (by unfold Ft;rw [if_neg (by omega)])).1 (Ri hc Bn (by unfold HI DT;rw [if_neg (by omega),if_neg (by omega),if_pos h5,if_neg (by have hb:=hs.b (by omega);omega)]<;>rfl) (by unfold Ft;rw [if_neg (by omega)])).2 (by rw [α4];rfl) rfl).cut [0,2] rfl).mv 2 [5] rfl rfl rfl rfl (by simp only [α5,α7]at h0;omega))⟩)
        (fun h6 A=>N9 3 A rfl rfl fun A=>JO By [.ptr 1 0,.ptr 3 1,.int .i64 ((Bs l z).dst),.ptr 3 9,.int .i64 ((Bs l z).fn),.ptr 1 0,.ptr 3 2,.int .i64 ((Bs l z).ra),.ptr 1 0,.ptr 1 1,.ix (.ptr 1 1) 1 8 ((Bs l z).ra) 0,.int .i64 (z.r ((Bs l z).ra).toNat),.int .i64 ((Bs l z).imm),.int .i64 (DG ((Bs l z).fn) (z.r ((Bs l z).ra).toNat) ((Bs l z).imm)),.ptr 1 0,.ptr 1 1,.ix (.ptr 1 1) 1 8 ((Bs l z).dst) 0,.tup []] [17] [] 0 [([],[],[none,some (.blk (FR (.sla ao l.length cp) z.r (((z.at_:Nat):Int)+1) (.sl 5 (ps1.length+1) 0))),none,some (.blk (A5 (Bs l z))),some (.blk [.int .i64 ((z.at_:Nat):Int)]),some (.row 3 1 (ps1.length+1) 0 (Ec (ps1++[((z.at_:Nat):Int)])))]),([17],[],[none,some (.blk [.sla ao l.length cp,.int .i64 ((Bk z.r ((Bs l z).dst).toNat (DG ((Bs l z).fn) (z.r ((Bs l z).ra).toNat) ((Bs l z).imm))) 0),.int .i64 ((Bk z.r ((Bs l z).dst).toNat (DG ((Bs l z).fn) (z.r ((Bs l z).ra).toNat) ((Bs l z).imm))) 1),.int .i64 ((Bk z.r ((Bs l z).dst).toNat (DG ((Bs l z).fn) (z.r ((Bs l z).ra).toNat) ((Bs l z).imm))) 2),.int .i64 ((Bk z.r ((Bs l z).dst).toNat (DG ((Bs l z).fn) (z.r ((Bs l z).ra).toNat) ((Bs l z).imm))) 3),.int .i64 ((Bk z.r ((Bs l z).dst).toNat (DG ((Bs l z).fn) (z.r ((Bs l z).ra).toNat) ((Bs l z).imm))) 4),.int .i64 ((Bk z.r ((Bs l z).dst).toNat (DG ((Bs l z).fn) (z.r ((Bs l z).ra).toNat) ((Bs l z).imm))) 5),.int .i64 ((Bk z.r ((Bs l z).dst).toNat (DG ((Bs l z).fn) (z.r ((Bs l z).ra).toNat) ((Bs l z).imm))) 6),.int .i64 ((Bk z.r ((Bs l z).dst).toNat (DG ((Bs l z).fn) (z.r ((Bs l z).ra).toNat) ((Bs l z).imm))) 7),.int .i64 (((z.at_:Nat):Int)+1),.sl 5 (ps1.length+1) 0]),none,some (.blk (A5 (Bs l z))),some (.blk [.int .i64 ((z.at_:Nat):Int)]),some (.row 3 1 (ps1.length+1) 0 (Ec (ps1++[((z.at_:Nat):Int)])))])] [[true,true,true,true,true,true,true,true,true,true,true,true,true,true,true,true,true,true],[false,false,false,false,false,false,false,false,false,false,false,false,false,false,true,true,false,false]] A rfl rfl rfl rfl (by kernel_rfl) rfl (by kernel_rfl) ⟨⟨Ao 0 rfl rfl,⟨Ao 0 rfl rfl,⟨Ao 0 rfl rfl,⟨Ao 0 rfl rfl,⟨Ao 0 rfl rfl,⟨Ao 0 rfl rfl,⟨Ao 0 rfl rfl,⟨Ao 0 rfl rfl,⟨Ao 0 rfl rfl,⟨Ao 0 rfl rfl,⟨Ao 0 rfl (Aj (by first|exact hs.d (by omega)|exact hs.a (by omega)|(have hb:=hs.b (by omega);omega)|omega)<|Ah),⟨CF 0 rfl (Sr (r:=z.r) hX rfl rfl rfl rfl rfl rfl rfl (by first|exact hs.d (by omega)|exact hs.a (by omega)|(have hb:=hs.b (by omega);omega)|omega)),⟨Ao 0 rfl rfl,⟨CF 0 rfl (C7 rfl rfl (Zn ((Bs l z).fn) (z.r ((Bs l z).ra).toNat) ((Bs l z).imm))),⟨Ao 0 rfl rfl,⟨Ao 0 rfl rfl,⟨Ao 0 rfl (Aj (by first|exact hs.d (by omega)|exact hs.a (by omega)|(have hb:=hs.b (by omega);omega)|omega)<|Ah),⟨CF 1 rfl (Sq (i:=1) (r:=z.r) hX rfl rfl rfl rfl rfl rfl rfl rfl (by first|exact hs.d (by omega)|exact hs.a (by omega)|(have hb:=hs.b (by omega);omega)|omega)),trivial⟩⟩⟩⟩⟩⟩⟩⟩⟩⟩⟩⟩⟩⟩⟩⟩⟩⟩,⟨⟨Ao 1 rfl rfl,⟨Ao 1 rfl rfl,trivial⟩⟩,trivial⟩⟩ fun A=>N9 2 A rfl rfl fun A=>⟨GY l z,ps1++[((z.at_:Nat):Int)],_,(hJ.nx hc Bn h2 ((z.at_:Nat):Int)).2,(hJ.nx hc Bn h2 ((z.at_:Nat):Int)).1,(((A.thSay 1 5 (r':=(GY l z).r) (at':=(((GY l z).at_:Nat):Int)) (m':=(ps1++[((z.at_:Nat):Int)]).length) rfl rfl (Ri hc Bn (by unfold HI DT;rw [if_neg (by omega),if_neg (by omega),if_pos h5,if_pos (by have hb:=hs.b (by omega);omega)]<;>rfl) (by unfold Ft;rw [if_neg (by omega)])).1 (Ri hc Bn (by unfold HI DT;rw [if_neg (by omega),if_neg (by omega),if_pos h5,if_pos (by have hb:=hs.b (by omega);omega)]<;>rfl) (by unfold Ft;rw [if_neg (by omega)])).2 (by rw [α4];rfl) rfl).cut [0,2] rfl).mv 2 [5] rfl rfl rfl rfl (by simp only [α5,α7]at h0;omega))⟩))
       (fun h5 A=>N9 7 A rfl rfl fun A=>Au 115 A rfl
        (fun h7 A=>N9 2 A rfl rfl fun A=>JO By [.ptr 1 0,.ptr 3 2,.int .i64 ((Bs l z).ra),.ptr 1 0,.ptr 1 1,.ix (.ptr 1 1) 1 8 ((Bs l z).ra) 0,.int .i64 (z.r ((Bs l z).ra).toNat),.bool ((z.r ((Bs l z).ra).toNat)==0),.ptr 3 16,.bool ((Bs l z).zero),.bool (((z.r ((Bs l z).ra).toNat)==0)==((Bs l z).zero))] [] [] 0 [([],[],[none,some (.blk (FR (.sla ao l.length cp) z.r (((z.at_:Nat):Int)+1) (.sl 5 (ps1.length+1) 0))),none,some (.blk (A5 (Bs l z))),some (.blk [.int .i64 ((z.at_:Nat):Int)]),some (.row 3 1 (ps1.length+1) 0 (Ec (ps1++[((z.at_:Nat):Int)])))])] [[true,true,true,true,true,true,true,true,true,true,true]] A rfl rfl rfl rfl (by kernel_rfl) rfl (by kernel_rfl) ⟨⟨Ao 0 rfl rfl,⟨Ao 0 rfl rfl,⟨Ao 0 rfl rfl,⟨Ao 0 rfl rfl,⟨Ao 0 rfl rfl,⟨Ao 0 rfl (Aj (by first|exact hs.d (by omega)|exact hs.a (by omega)|(have hb:=hs.b (by omega);omega)|omega)<|Ah),⟨CF 0 rfl (Sr (r:=z.r) hX rfl rfl rfl rfl rfl rfl rfl (by first|exact hs.d (by omega)|exact hs.a (by omega)|(have hb:=hs.b (by omega);omega)|omega)),⟨Ao 0 rfl rfl,⟨Ao 0 rfl rfl,⟨Ao 0 rfl rfl,⟨Ao 0 rfl rfl,trivial⟩⟩⟩⟩⟩⟩⟩⟩⟩⟩⟩,trivial⟩ fun A=>N9 1 A rfl rfl fun A=>Au 127 A rfl
         (fun h8 A=>N9 11 A rfl rfl fun A=>⟨GY l z,ps1++[((z.at_:Nat):Int)],_,(hJ.nx hc Bn h2 ((z.at_:Nat):Int)).2,(hJ.nx hc Bn h2 ((z.at_:Nat):Int)).1,(((A.thSay 1 5 (r':=(GY l z).r) (at':=(((GY l z).at_:Nat):Int)) (m':=(ps1++[((z.at_:Nat):Int)]).length) rfl rfl (Ri hc Bn (by unfold HI;rw [if_neg (by omega),if_neg (by omega),if_neg (by omega)]) (by unfold Ft;rw [if_pos h7,if_pos h8])).1 (Ri hc Bn (by unfold HI;rw [if_neg (by omega),if_neg (by omega),if_neg (by omega)]) (by unfold Ft;rw [if_pos h7,if_pos h8])).2 (by rw [α4];rfl) rfl).cut [0,2] rfl).mv 2 [5] rfl rfl rfl rfl (by simp only [α5,α7]at h0;omega))⟩)
         (fun h8 A=>N9 4 A rfl rfl fun A=>⟨GY l z,ps1++[((z.at_:Nat):Int)],_,(hJ.nx hc Bn h2 ((z.at_:Nat):Int)).2,(hJ.nx hc Bn h2 ((z.at_:Nat):Int)).1,(((A.thSay 1 5 (r':=(GY l z).r) (at':=(((GY l z).at_:Nat):Int)) (m':=(ps1++[((z.at_:Nat):Int)]).length) rfl rfl (Ri hc Bn (by unfold HI;rw [if_neg (by omega),if_neg (by omega),if_neg (by omega)]) (by unfold Ft;rw [if_pos h7,if_neg h8])).1 (Ri hc Bn (by unfold HI;rw [if_neg (by omega),if_neg (by omega),if_neg (by omega)]) (by unfold Ft;rw [if_pos h7,if_neg h8])).2 (by rw [α4];rfl) rfl).cut [0,2] rfl).mv 2 [5] rfl rfl rfl rfl (by simp only [α5,α7]at h0;omega))⟩))
        (fun h7 A=>N9 4 A rfl rfl fun A=>⟨GY l z,ps1++[((z.at_:Nat):Int)],_,(hJ.nx hc Bn h2 ((z.at_:Nat):Int)).2,(hJ.nx hc Bn h2 ((z.at_:Nat):Int)).1,(((A.thSay 1 5 (r':=(GY l z).r) (at':=(((GY l z).at_:Nat):Int)) (m':=(ps1++[((z.at_:Nat):Int)]).length) rfl rfl (Ri hc Bn (by unfold HI;rw [if_neg (by omega),if_neg (by omega),if_neg (by omega)]) (by unfold Ft;rw [if_neg (by omega)])).1 (Ri hc Bn (by unfold HI;rw [if_neg (by omega),if_neg (by omega),if_neg (by omega)]) (by unfold Ft;rw [if_neg (by omega)])).2 (by rw [α4];rfl) rfl).cut [0,2] rfl).mv 2 [5] rfl rfl rfl rfl (by simp only [α5,α7]at h0;omega))⟩))))))
   (fun h1 A=>N9 9 A rfl rfl fun A=>Hw hX (B.trans A) rfl rfl rfl rfl (JQ (Sy.giveT (B.trans A) 1 2 (A.at_pre SL) rfl rfl rfl rfl) (hJ.si.fin (fun q=>h1 (by omega))) hJ.pl))
end Go.Proofs.YtbbdanhpphlbpaaGreatDoor.Mc
namespace Go.Proofs.YtbbdanhpphlbpaaGreatDoor.Mc
open Go.RowKit
set_option simprocs false
theorem K0 {a:Int}(h:(((a==4)||(a==5))||(a==6))=true):a=4∨a=5∨a=6:=by simp at h;omega
theorem Pz {a:Int}(h:((a==4)||(a==6))=true):a=4∨a=6:=by simp at h;omega
end Go.Proofs.YtbbdanhpphlbpaaGreatDoor.Mc
namespace Go.Proofs.YtbbdanhpphlbpaaGreatDoor.Mc
open Go.RowKit
set_option simprocs false
section
variable {P:Program}{n:Nat}{ks:List Nat}{G0:Gr}{w0:World}{T:List (Nat×SV)}{H:Hp}{ops:Array Oper}{o:Oper}
theorem uO {x:Operand}{i s m q:Nat}{j:Int}{f:Nat→List SV}(CJ:o.op=.nilCheck x)(hg:BE ops T o.guard=some .run)(hx:Db T x=some (.el i s j q))(hi:lg H i=some (some (.lst s m f)))(hj:j.toNat<m):Bd P n ops ks G0 w0 T H o (.el i s j q) H:=fun G a w A=>by
 have hw:=BQ (gd:=none) A hg
 obtain⟨d,op,ty,pos,af,gd⟩:=o
 simp only at CJ
 subst CJ
 have CH:=A.ev hx
 rw [BI]at hi
 obtain⟨L,q1⟩:∃L,(G[i]?).getD none=some L:=by
  rcases(A.mem.ent i _ hi).2 with h|⟨L,q1,_⟩
  ·omega
  ·exact⟨L,q1⟩
 have hp:G[i]?=some (some L):=by
  cases hq:G[i]? with
  |none=>rw [hq]at q1;cases q1
  |some p=>rw [hq]at q1;simp only [γ8]at q1;rw [q1]
 have IB:den G (.el i s j q)=some (.pointer (some ⟨L.b,L.pre.length+j.toNat*s+q,none⟩)):=by unfold den;rw [hp];rfl
 rw [IB]at CH
 exact Fw hw (by rw [←β6 CH]) ⟨[],by simpa using IB,by simpa using A.ms⟩
end
theorem uP {r:Rg}{g:Int}(h:0≤g∧g<8):r g.toNat=[(r 0),(r 1),(r 2),(r 3),(r 4),(r 5),(r 6),(r 7)].getD g.toNat 0:=by
 rcases lR h with rfl|rfl|rfl|rfl|rfl|rfl|rfl|rfl<;>rfl
theorem dY (l:List In)(ao:Option Addr)(cp:Nat)(at_:Int)(r:Rg)(pv:Value)(g:Int)(hg: -1≤g∧g<8):Fn Tryz.prog 97 [.el 0 11 0 0,.int .i64 g] [some (.lst 11 1 (fun _=>FR (.sla ao l.length cp) r at_ (.v pv)))] (Rt (.int .i64 (DT r g 0)) [some (.lst 11 1 (fun _=>FR (.sla ao l.length cp) r at_ (.v pv)))]):=
 Am (n:=13) (by kernel_rfl) Tryz.func97 rfl rfl rfl fun G w a h0 A=>N9 12 A rfl rfl fun A=>Aq 6 A rfl
  (fun h1 A=>N9 7 A rfl rfl fun A=>R9 A rfl h0 rfl (by unfold DT;rw [if_pos (by omega)]<;>rfl) rfl)
  (fun h1 A=>N9 7 A rfl rfl fun A=>A9 A rfl (uO rfl rfl rfl rfl (by decide)) fun A=>N9 7 A rfl (Aj (by omega)<|Aj (by omega)<|Aj (by omega)<|Aj (by omega)<|Aj (by omega)<|Ah) fun A=>R9 A rfl h0 rfl (by unfold DT;rw [if_neg (by omega),uP (r:=r) (g:=g) (by omega)]<;>rfl) rfl)
theorem dZ (l:List In)(ao:Option Addr)(cp:Nat)(at_:Int)(r:Rg)(pv:Value)(i:In)(hs:i.sz=1∨i.sz=2∨i.sz=4∨i.sz=8)(hx: -1≤i.ix∧i.ix<8):Fn Tryz.prog 63 [.el 0 11 0 0,.agg (A5 i)] [some (.lst 11 1 (fun _=>FR (.sla ao l.length cp) r at_ (.v pv)))] (Rt (.agg [.int .i64 i.loc,.int .i64 (Bl (A7 i.off (DT r i.ix 0) i.sz) i.sz)]) [some (.lst 11 1 (fun _=>FR (.sla ao l.length cp) r at_ (.v pv)))]):=
 Am (n:=11) (by kernel_rfl) Tryz.func63 rfl rfl rfl fun G w a h0 A=>N9 7 A rfl rfl fun A=>Ba hX By [(5,.agg [.int .i64 i.loc,.int .i64 (Bl (A7 i.off (DT r i.ix 0) i.sz) i.sz)])] [(4,.int .i64 (DT r i.ix 0),[some (.lst 11 1 (fun _=>FR (.sla ao l.length cp) r at_ (.v pv))),some (.blk (A5 i)),some (.blk [.z9,.z9])])] A rfl rfl rfl rfl (by kernel_rfl) ⟨ED [0] (dY l ao cp at_ r pv i.ix hx) rfl rfl rfl rfl rfl rfl rfl,⟨trivial,trivial⟩⟩ ⟨.inl ⟨_,_,rfl,rfl,U9 i (DT r i.ix 0) hs⟩,trivial⟩ fun A=>N9 2 A rfl rfl fun A=>R9 A rfl h0 rfl rfl rfl
end Go.Proofs.YtbbdanhpphlbpaaGreatDoor.Mc
namespace Go.Proofs.YtbbdanhpphlbpaaGreatDoor.Mc
open Go.RowKit
set_option simprocs false
abbrev dS (tv:Nat→Value)(m:Rg)(nn:Nat)(ra:Option Addr)(rc:Nat):List SV:=[.v (tv 0),.v (tv 1),.v (tv 2),.v (tv 3),.v (tv 4),.v (tv 5),.v (tv 6),.v (tv 7),.v (tv 8),.v (tv 9),.v (tv 10),.v (tv 11),.v (tv 12),.v (tv 13),.v (tv 14),.v (tv 15),.v (tv 16),.v (tv 17),.v (tv 18),.v (tv 19),.v (tv 20),.v (tv 21),.v (tv 22),.v (tv 23),.v (tv 24),.v (tv 25),.v (tv 26),.v (tv 27),.v (tv 28),.v (tv 29),.v (tv 30),.v (tv 31),.sla ra nn rc,.int .i64 (m 0),.int .i64 (m 1),.int .i64 (m 2),.sla none 0 0,.sla none 0 0,.sla none 0 0,.ff]
def mY (cs:List Ak)(ts:List Th)(nn:Nat)(bs bo:Nat→Nat)(da:Nat→Option Addr)(dp:Nat→Nat)(pv:Nat→Value):Ef:=fun w ks=>An cs w ks∧∀k,k<nn→At (some ⟨bs k,bo k,none⟩) 11 1 (fun _=>FR (.sla (da k) (cs.getD k Ak.z).l.length (dp k)) (ts.getD k Th.z).r (((ts.getD k Th.z).at_:Nat):Int) (.v (pv k))) w ks∧F9 (da k) (cs.getD k Ak.z).l w ks
theorem mY.ok {cs:List Ak}{ts:List Th}{nn:Nat}{bs bo:Nat→Nat}{da:Nat→Option Addr}{dp:Nat→Nat}{pv:Nat→Value}:Ef.OK (mY cs ts nn bs bo da dp pv):=fun w ks w' ks' h m hk=>⟨An.ok _ _ _ _ h.1 m hk,fun k EC=>⟨At.ok _ _ _ _ (h.2 k EC).1 m hk,At.ok _ _ _ _ (h.2 k EC).2 m hk⟩⟩
def NN (cs:List Ak)(ts:List Th)(nn:Nat)(ra:Option Addr)(bs bo:Nat→Nat)(da:Nat→Option Addr)(dp:Nat→Nat)(pv:Nat→Value):Ef:=fun w ks=>At ra 1 nn (fun k=>[.v (.pointer (some ⟨bs k,bo k,none⟩))]) w ks∧mY cs ts nn bs bo da dp pv w ks
theorem NN.ok {cs:List Ak}{ts:List Th}{nn:Nat}{ra:Option Addr}{bs bo:Nat→Nat}{da:Nat→Option Addr}{dp:Nat→Nat}{pv:Nat→Value}:Ef.OK (NN cs ts nn ra bs bo da dp pv):=fun w ks w' ks' h m hk=>⟨At.ok _ _ _ _ h.1 m hk,mY.ok _ _ _ _ h.2 m hk⟩
theorem Z1 {cs:List Ak}{ts:List Th}{k:Nat}(h:Ce cs ts k=[])(e:(((ts.getD ((k:Int)).toNat Th.z).at_:Nat):Int)=(((cs.getD ((k:Int)).toNat Ak.z).l.length:Nat):Int)):Ce cs ts (k+1)=[]:=by
 show _++_=_;rw [h,if_pos e];rfl
theorem VM {cs:List Ak}{ts:List Th}{k:Nat}(e:¬(((ts.getD ((k:Int)).toNat Th.z).at_:Nat):Int)=(((cs.getD ((k:Int)).toNat Ak.z).l.length:Nat):Int)):∀{n:Nat},k<n→Ce cs ts n≠[]
 |0,h=>by cases h
 |n+1,h=>fun h2=>by
  have h3:Ce cs ts n++_=[]:=h2
  rw [List.append_eq_nil_iff]at h3
  by_cases hk:k=n
  ·subst hk;rw [if_neg e]at h3;cases h3.2
  ·exact VM e (by omega) h3.1
theorem VN (tv:Nat→Value)(m:Nat→Int)(cs:List Ak)(ts:List Th)(nn:Nat)(ra:Option Addr)(rc:Nat)(bs bo:Nat→Nat)(da:Nat→Option Addr)(dp:Nat→Nat)(pv:Nat→Value)(th:Int)(qQ:0≤th∧th<((nn:Nat):Int)):CE (NN cs ts nn ra bs bo da dp pv) Tryz.prog 57 [.ptr 0 0,.int .i64 th] [some (.blk (dS tv m nn ra rc))] (Rt (.bool (decide ((((BZ ts th).at_:Nat):Int)<(((cs.getD ((th).toNat) Ak.z).l.length:Nat):Int)))) [some (.blk (dS tv m nn ra rc))]):=
 BB (n:=27) (by kernel_rfl) Tryz.func57 rfl rfl rfl fun G w a h0 hI A=>N9 6 A rfl rfl fun A=>have Eb:At (some ⟨bs (th).toNat,bo (th).toNat,none⟩) 11 1 (fun _=>FR (.sla (da (th).toNat) (cs.getD ((th).toNat) Ak.z).l.length (dp (th).toNat)) (BZ ts th).r (((BZ ts th).at_:Nat):Int) (.v (pv (th).toNat))) _ _:=(hI.2.2 (th).toNat (by omega)).1;have EO:F9 (da (th).toNat) (cs.getD ((th).toNat) Ak.z).l _ _:=(hI.2.2 (th).toNat (by omega)).2;JO By [.ptr 0 0,.ptr 0 0,.ptr 0 32,.sla ra nn rc,.int .i64 th,.v (.pointer (Ty ra 1 th)),.v (.pointer (some ⟨bs (th).toNat,bo (th).toNat,none⟩)),.v (.pointer (some ⟨bs (th).toNat,bo (th).toNat,none⟩)),.v (.pointer (some ⟨bs (th).toNat,bo (th).toNat+9,none⟩)),.int .i64 (((BZ ts th).at_:Nat):Int),.ptr 0 0,.ptr 0 0,.ptr 0 32,.sla ra nn rc,.int .i64 th,.v (.pointer (Ty ra 1 th)),.v (.pointer (some ⟨bs (th).toNat,bo (th).toNat,none⟩)),.v (.pointer (some ⟨bs (th).toNat,bo (th).toNat,none⟩)),.v (.pointer (some ⟨bs (th).toNat,bo (th).toNat+0,none⟩)),.sla (da (th).toNat) ((cs.getD ((th).toNat) Ak.z).l.length) (dp (th).toNat),.int .i64 (((cs.getD ((th).toNat) Ak.z).l.length:Nat):Int),.bool (decide ((((BZ ts th).at_:Nat):Int)<(((cs.getD ((th).toNat) Ak.z).l.length:Nat):Int))),.bool (decide ((((BZ ts th).at_:Nat):Int)<(((cs.getD ((th).toNat) Ak.z).l.length:Nat):Int)))] [] [] 0 [([],[],[some (.blk (dS tv m nn ra rc))])] [[true,true,true,true,true,true,true,true,true,true,true,true,true,true,true,true,true,true,true,true,true,true,true]] A rfl rfl rfl rfl (by kernel_rfl) rfl (by kernel_rfl) ⟨⟨Ao 0 rfl rfl,⟨Ao 0 rfl rfl,⟨Ao 0 rfl rfl,⟨CF 0 rfl (BN (X:=⟨_,true⟩) (out:=.val (.sla ra nn rc) []) hX rfl Ah),⟨Ao 0 rfl rfl,⟨CF 0 rfl (Hz (e:=99) rfl rfl rfl rfl hI.1 (by kernel_rfl) (by omega)),⟨CF 0 rfl (ND (q:=0) (r:=[.v (.pointer (some ⟨bs (th).toNat,bo (th).toNat,none⟩))]) (v:=.v (.pointer (some ⟨bs (th).toNat,bo (th).toNat,none⟩))) hX rfl rfl rfl hI.1 (by omega) rfl rfl rfl),⟨CF 0 rfl (Le rfl rfl rfl),⟨CF 0 rfl (Lf rfl rfl rfl (by kernel_rfl)),⟨CF 0 rfl (XO (q:=9) (v:=.int .i64 (((BZ ts th).at_:Nat):Int)) hX rfl rfl rfl Eb rfl rfl rfl),⟨Ao 0 rfl rfl,⟨Ao 0 rfl rfl,⟨Ao 0 rfl rfl,⟨CF 0 rfl (BN (X:=⟨_,true⟩) (out:=.val (.sla ra nn rc) []) hX rfl Ah),⟨Ao 0 rfl rfl,⟨CF 0 rfl (Hz (e:=99) rfl rfl rfl rfl hI.1 (by kernel_rfl) (by omega)),⟨CF 0 rfl (ND (q:=0) (r:=[.v (.pointer (some ⟨bs (th).toNat,bo (th).toNat,none⟩))]) (v:=.v (.pointer (some ⟨bs (th).toNat,bo (th).toNat,none⟩))) hX rfl rfl rfl hI.1 (by omega) rfl rfl rfl),⟨CF 0 rfl (Le rfl rfl rfl),⟨CF 0 rfl (Lf rfl rfl rfl (by kernel_rfl)),⟨CF 0 rfl (XO (q:=0) (v:=.sla (da (th).toNat) ((cs.getD ((th).toNat) Ak.z).l.length) (dp (th).toNat)) hX rfl rfl rfl Eb rfl rfl rfl),⟨Ao 0 rfl rfl,⟨Ao 0 rfl rfl,⟨Ao 0 rfl rfl,trivial⟩⟩⟩⟩⟩⟩⟩⟩⟩⟩⟩⟩⟩⟩⟩⟩⟩⟩⟩⟩⟩⟩⟩,trivial⟩ fun A=>N9 2 A rfl rfl fun A=>R9 A rfl h0 rfl rfl rfl
theorem nA (tv:Nat→Value)(m:Nat→Int)(cs:List Ak)(ts:List Th)(nn:Nat)(ra:Option Addr)(rc:Nat)(bs bo:Nat→Nat)(da:Nat→Option Addr)(dp:Nat→Nat)(pv:Nat→Value)(hC:BR cs ts nn)(EP:nn≤3):CE (NN cs ts nn ra bs bo da dp pv) Tryz.prog 14 [.ptr 0 0] [some (.blk (dS tv m nn ra rc))] (Rt (.sl 1 ((Ce cs ts nn).length) 0) [some (.blk (dS tv m nn ra rc)),some (.row 44 4 ((Ce cs ts nn).length) 0 (GU (Ce cs ts nn)))]):=
 BB (n:=86) (by kernel_rfl) Tryz.func14 rfl rfl rfl fun G w a h0 hI A=>N9 12 A rfl rfl fun A=>have A:=A.nilRow 3 44 4 (GU []) rfl (fun z=>⟨_,rfl,rfl⟩);N9 5 A rfl rfl fun A=>B7 (fun(k:Nat)=>[(0,.ptr 0 0),(2,.sla none 0 0),(3,.sl 1 ((Ce cs ts k).length) 0),(4,.int .i64 (k:Int))]) (fun(k:Nat)=>[some (.blk (dS tv m nn ra rc)),some (.row 44 4 ((Ce cs ts k).length) 0 (GU (Ce cs ts k)))]) (fun(k:Nat)=>k≤nn) (fun(k:Nat)=>nn - k) 0 (β8 _) ((A.cut [0,2,3,4] rfl).trunc 2 rfl rfl rfl (Cj h0 rfl)) fun k hK {G a w} A=>N9 7 A rfl rfl fun A=>A9 A rfl (BN (X:=⟨_,true⟩) (out:=.val (.sla ra nn rc) []) hX rfl Ah) fun A=>N9 4 A rfl rfl fun A=>Aq 12 A rfl
   (fun h1 A=>N9 7 A rfl rfl fun A=>have I1:((k:Int)).toNat<nn:=(by omega);have Eb:At (some ⟨bs ((k:Int)).toNat,bo ((k:Int)).toNat,none⟩) 11 1 (fun _=>FR (.sla (da ((k:Int)).toNat) (cs.getD (((k:Int)).toNat) Ak.z).l.length (dp ((k:Int)).toNat)) (BZ ts (k:Int)).r (((BZ ts (k:Int)).at_:Nat):Int) (.v (pv ((k:Int)).toNat))) _ _:=(hI.2.2 ((k:Int)).toNat (by omega)).1;have EO:F9 (da ((k:Int)).toNat) (cs.getD (((k:Int)).toNat) Ak.z).l _ _:=(hI.2.2 ((k:Int)).toNat (by omega)).2;have jG:(BZ ts (k:Int)).at_≤(cs.getD (((k:Int)).toNat) Ak.z).l.length:=hC.a ((k:Int)).toNat (by have:=hC.m;omega);N9 3 A rfl rfl fun A=>I9 [0] NN.ok hI (VN tv m cs ts nn ra rc bs bo da dp pv (k:Int) (by omega)) A rfl fun A=>N9 2 A rfl rfl fun A=>Aq 17 A rfl
    (fun h2 A=>N9 2 A rfl rfl fun A=>JO By [.ptr 0 0,.ptr 0 0,.ptr 0 32,.sla ra nn rc,.int .i64 (k:Int),.v (.pointer (Ty ra 1 (k:Int))),.v (.pointer (some ⟨bs ((k:Int)).toNat,bo ((k:Int)).toNat,none⟩)),.v (.pointer (some ⟨bs ((k:Int)).toNat,bo ((k:Int)).toNat,none⟩)),.v (.pointer (some ⟨bs ((k:Int)).toNat,bo ((k:Int)).toNat+0,none⟩)),.sla (da ((k:Int)).toNat) ((cs.getD (((k:Int)).toNat) Ak.z).l.length) (dp ((k:Int)).toNat),.ptr 0 0,.ptr 0 0,.ptr 0 32,.sla ra nn rc,.int .i64 (k:Int),.v (.pointer (Ty ra 1 (k:Int))),.v (.pointer (some ⟨bs ((k:Int)).toNat,bo ((k:Int)).toNat,none⟩)),.v (.pointer (some ⟨bs ((k:Int)).toNat,bo ((k:Int)).toNat,none⟩)),.v (.pointer (some ⟨bs ((k:Int)).toNat,bo ((k:Int)).toNat+9,none⟩)),.int .i64 (((BZ ts (k:Int)).at_:Nat):Int),.v (.pointer (Ty (da ((k:Int)).toNat) 17 (((BZ ts (k:Int)).at_:Nat):Int))),.v (.pointer (rY (da ((k:Int)).toNat) 17 (((BZ ts (k:Int)).at_:Nat):Int) 0)),.int .i64 ((Ax cs ts (k:Int)).op),.int .i64 ((Ax cs ts (k:Int)).op)] [] [] 0 [([],[],[some (.blk (dS tv m nn ra rc)),some (.row 44 4 ((Ce cs ts k).length) 0 (GU (Ce cs ts k)))])] [[true,true,true,true,true,true,true,true,true,true,true,true,true,true,true,true,true,true,true,true,true,true,true,true]] A rfl rfl rfl rfl (by kernel_rfl) rfl (by kernel_rfl) ⟨⟨Ao 0 rfl rfl,⟨Ao 0 rfl rfl,⟨Ao 0 rfl rfl,⟨CF 0 rfl (BN (X:=⟨_,true⟩) (out:=.val (.sla ra nn rc) []) hX rfl Ah),⟨Ao 0 rfl rfl,⟨CF 0 rfl (Hz (e:=99) rfl rfl rfl rfl hI.1 (by kernel_rfl) (by omega)),⟨CF 0 rfl (ND (q:=0) (r:=[.v (.pointer (some ⟨bs ((k:Int)).toNat,bo ((k:Int)).toNat,none⟩))]) (v:=.v (.pointer (some ⟨bs ((k:Int)).toNat,bo ((k:Int)).toNat,none⟩))) hX rfl rfl rfl hI.1 (by omega) rfl rfl rfl),⟨CF 0 rfl (Le rfl rfl rfl),⟨CF 0 rfl (Lf rfl rfl rfl (by kernel_rfl)),⟨CF 0 rfl (XO (q:=0) (v:=.sla (da ((k:Int)).toNat) ((cs.getD (((k:Int)).toNat) Ak.z).l.length) (dp ((k:Int)).toNat)) hX rfl rfl rfl Eb rfl rfl rfl),⟨Ao 0 rfl rfl,⟨Ao 0 rfl rfl,⟨Ao 0 rfl rfl,⟨CF 0 rfl (BN (X:=⟨_,true⟩) (out:=.val (.sla ra nn rc) []) hX rfl Ah),⟨Ao 0 rfl rfl,⟨CF 0 rfl (Hz (e:=99) rfl rfl rfl rfl hI.1 (by kernel_rfl) (by omega)),⟨CF 0 rfl (ND (q:=0) (r:=[.v (.pointer (some ⟨bs ((k:Int)).toNat,bo ((k:Int)).toNat,none⟩))]) (v:=.v (.pointer (some ⟨bs ((k:Int)).toNat,bo ((k:Int)).toNat,none⟩))) hX rfl rfl rfl hI.1 (by omega) rfl rfl rfl),⟨CF 0 rfl (Le rfl rfl rfl),⟨CF 0 rfl (Lf rfl rfl rfl (by kernel_rfl)),⟨CF 0 rfl (XO (q:=9) (v:=.int .i64 (((BZ ts (k:Int)).at_:Nat):Int)) hX rfl rfl rfl Eb rfl rfl rfl),⟨CF 0 rfl (Hz (e:=63) rfl rfl rfl rfl EO (by kernel_rfl) (by omega)),⟨CF 0 rfl (tV rfl rfl rfl EO (by omega) (by kernel_rfl)),⟨CF 0 rfl (ND (r:=C3 (Ax cs ts (k:Int))) (v:=.int .i64 ((Ax cs ts (k:Int)).op)) hX rfl rfl rfl EO (by omega) rfl rfl rfl),⟨Ao 0 rfl rfl,trivial⟩⟩⟩⟩⟩⟩⟩⟩⟩⟩⟩⟩⟩⟩⟩⟩⟩⟩⟩⟩⟩⟩⟩⟩,trivial⟩ fun A=>N9 8 A rfl (Aj (by omega)<|Ah) fun A=>A9 A rfl (Kx (v:=fun _=>.sla none 0 0) hX rfl rfl rfl rfl rfl rfl rfl (by omega) (fun k hk=>match k,hk with|0,_=>rfl|1,_=>rfl|2,_=>rfl)) fun A=>N9 2 A rfl rfl fun A=>have A:=Ai A 48 (.tt) rfl (fun _=>rfl);N9 17 A rfl rfl fun A=>A9 A rfl (BN (X:=⟨_,true⟩) (out:=.val (.sla ra nn rc) []) hX rfl Ah) fun A=>N9 1 A rfl rfl fun A=>A9 A rfl (Hz (e:=99) rfl rfl rfl rfl hI.1 (by kernel_rfl) (by omega)) fun A=>A9 A rfl (ND (q:=0) (r:=[.v (.pointer (some ⟨bs ((k:Int)).toNat,bo ((k:Int)).toNat,none⟩))]) (v:=.v (.pointer (some ⟨bs ((k:Int)).toNat,bo ((k:Int)).toNat,none⟩))) hX rfl rfl rfl hI.1 (by omega) rfl rfl rfl) fun A=>A9 A rfl (Le rfl rfl rfl) fun A=>A9 A rfl (Lf rfl rfl rfl (by kernel_rfl)) fun A=>A9 A rfl (XO (q:=9) (v:=.int .i64 (((BZ ts (k:Int)).at_:Nat):Int)) hX rfl rfl rfl Eb rfl rfl rfl) fun A=>N9 2 A rfl rfl fun A=>OP hX ((Ce cs ts k).length+1) (GU ((Ce cs ts k)++[(2,(k:Int),(((BZ ts (k:Int)).at_:Nat):Int))])) A rfl rfl rfl rfl (by have:=HL cs ts k;first|omega|(simp only [α4,α5,α7];omega)) rfl (fun q hq=>by show dK _=dK _;rw [Zq hq]) (by show dK _=_;rw [Zr]) (fun z=>⟨_,rfl,rfl⟩) fun A=>have A:=(A.rowAs 3 (((Ce cs ts k)++[(2,(k:Int),(((BZ ts (k:Int)).at_:Nat):Int))]).length) (GU ((Ce cs ts k)++[(2,(k:Int),(((BZ ts (k:Int)).at_:Nat):Int))])) rfl (uE _ _) (fun q hq=>rfl) (fun z=>⟨_,rfl,rfl⟩)).say 71 (.sl 3 (((Ce cs ts k)++[(2,(k:Int),(((BZ ts (k:Int)).at_:Nat):Int))]).length) 0) rfl (yJ _ _ _);N9 10 A rfl (Aj (by omega)<|Ah) fun A=>A9 A rfl (Kx (v:=fun _=>.sla none 0 0) hX rfl rfl rfl rfl rfl rfl rfl (by omega) (fun k hk=>match k,hk with|0,_=>rfl|1,_=>rfl|2,_=>rfl)) fun A=>N9 2 A rfl rfl fun A=>have A:=Ai A 79 (.ff) rfl (fun _=>rfl);N9 11 A rfl (Aj (by omega)<|Ah) fun A=>⟨k+1,_,(by omega),(by omega),(((Sy.mvA 3 3 (show(Ce cs ts (k+1))=((Ce cs ts k)++[(2,(k:Int),(((BZ ts (k:Int)).at_:Nat):Int))]) by show _++_=_;rw [if_neg (by omega)]) A rfl rfl).cut [0,2,3,4] rfl).mv 1 [3] rfl rfl rfl rfl (by simp only [α5,α7]at h0;omega)).sayT (by rfl)⟩)
    (fun h2 A=>N9 10 A rfl (Aj (by omega)<|Ah) fun A=>A9 A rfl (Kx (v:=fun _=>.sla none 0 0) hX rfl rfl rfl rfl rfl rfl rfl (by omega) (fun k hk=>match k,hk with|0,_=>rfl|1,_=>rfl|2,_=>rfl)) fun A=>N9 2 A rfl rfl fun A=>have A:=Ai A 79 (.ff) rfl (fun _=>rfl);N9 11 A rfl (Aj (by omega)<|Ah) fun A=>⟨k+1,_,(by omega),(by omega),(((Sy.mvA 1 3 (show(Ce cs ts (k+1))=(Ce cs ts k) by show _++_=_;rw [if_pos (by omega)];simp only [ε9]) A rfl rfl).cut [0,2,3,4] rfl).trunc 2 rfl rfl rfl (Cj h0 rfl)).sayT (by rfl)⟩))
   (fun h1 A=>N9 4 A rfl rfl fun A=>have I1:k=nn:=(by omega);have A:=Sy.mvA 1 3 (l':=Ce cs ts nn) (by rw [I1]) A rfl rfl;N9 6 A rfl rfl fun A=>Ns hX [1] A ⟨rfl,rfl⟩ rfl rfl rfl rfl rfl rfl rfl rfl h0)
theorem nC (tv:Nat→Value)(m:Nat→Int)(cs:List Ak)(ts:List Th)(nn:Nat)(ra:Option Addr)(rc:Nat)(bs bo:Nat→Nat)(da:Nat→Option Addr)(dp:Nat→Nat)(pv:Nat→Value)(hC:BR cs ts nn)(EP:nn≤3)(xL:Ce cs ts nn=[]):CE (NN cs ts nn ra bs bo da dp pv) Tryz.prog 55 [.ptr 0 0] [some (.blk (dS tv m nn ra rc))] (Rt (.tt) [some (.blk (dS tv m nn ra rc))]):=
 BB (n:=26) (by kernel_rfl) Tryz.func55 rfl rfl rfl fun G w a h0 hI A=>N9 12 A rfl rfl fun A=>B7 (fun(k:Nat)=>[(0,.ptr 0 0),(2,.ff),(3,.int .i64 (k:Int))]) (fun(k:Nat)=>[some (.blk (dS tv m nn ra rc))]) (fun(k:Nat)=>k≤nn∧Ce cs ts k=[]) (fun(k:Nat)=>nn - k) 0 ⟨β8 _,rfl⟩ ((A.cut [0,2,3] rfl).trunc 1 rfl rfl rfl (Cj h0 rfl)) fun k hK {G a w} A=>N9 7 A rfl rfl fun A=>A9 A rfl (BN (X:=⟨_,true⟩) (out:=.val (.sla ra nn rc) []) hX rfl Ah) fun A=>N9 4 A rfl rfl fun A=>Aq 10 A rfl
   (fun h1 A=>N9 6 A rfl rfl fun A=>have I1:((k:Int)).toNat<nn:=(by omega);have Eb:At (some ⟨bs ((k:Int)).toNat,bo ((k:Int)).toNat,none⟩) 11 1 (fun _=>FR (.sla (da ((k:Int)).toNat) (cs.getD (((k:Int)).toNat) Ak.z).l.length (dp ((k:Int)).toNat)) (BZ ts (k:Int)).r (((BZ ts (k:Int)).at_:Nat):Int) (.v (pv ((k:Int)).toNat))) _ _:=(hI.2.2 ((k:Int)).toNat (by omega)).1;have EO:F9 (da ((k:Int)).toNat) (cs.getD (((k:Int)).toNat) Ak.z).l _ _:=(hI.2.2 ((k:Int)).toNat (by omega)).2;have jG:(BZ ts (k:Int)).at_≤(cs.getD (((k:Int)).toNat) Ak.z).l.length:=hC.a ((k:Int)).toNat (by have:=hC.m;omega);N9 3 A rfl rfl fun A=>I9 [0] NN.ok hI (VN tv m cs ts nn ra rc bs bo da dp pv (k:Int) (by omega)) A rfl fun A=>N9 1 A rfl rfl fun A=>Aq 16 A rfl
    (fun h2 A=>absurd xL (VM (k:=k) (by have q:=h2;unfold BZ at q;omega) (show k<nn by omega)))
    (fun h2 A=>have xM:(((BZ ts (k:Int)).at_:Nat):Int)=(((cs.getD (((k:Int)).toNat) Ak.z).l.length:Nat):Int):=(by omega);N9 5 A rfl (Aj (by omega)<|Ah) fun A=>A9 A rfl (Kx (v:=fun _=>.sla none 0 0) hX rfl rfl rfl rfl rfl rfl rfl (by omega) (fun k hk=>match k,hk with|0,_=>rfl|1,_=>rfl|2,_=>rfl)) fun A=>N9 2 A rfl rfl fun A=>have A:=Ai A 24 (.ff) rfl (fun _=>rfl);N9 12 A rfl (Aj (by omega)<|Ah) fun A=>⟨k+1,_,(by omega),⟨(by omega),Z1 hK.2 xM⟩,((A.cut [0,2,3] rfl).trunc 1 rfl rfl rfl (Cj h0 rfl)).sayT (by rfl)⟩))
   (fun h1 A=>N9 4 A rfl rfl fun A=>have I1:k=nn:=(by omega);have qR:Ce cs ts nn=[]:=(by rw [←I1];exact hK.2);N9 5 A rfl rfl fun A=>R9 A rfl h0 rfl rfl rfl)
theorem nD (tv:Nat→Value)(m:Nat→Int)(cs:List Ak)(ts:List Th)(nn:Nat)(ra:Option Addr)(rc:Nat)(bs bo:Nat→Nat)(da:Nat→Option Addr)(dp:Nat→Nat)(pv:Nat→Value)(hC:BR cs ts nn)(EP:nn≤3)(xL:Ce cs ts nn≠[]):CE (NN cs ts nn ra bs bo da dp pv) Tryz.prog 55 [.ptr 0 0] [some (.blk (dS tv m nn ra rc))] (Rt (.ff) [some (.blk (dS tv m nn ra rc))]):=
 BB (n:=26) (by kernel_rfl) Tryz.func55 rfl rfl rfl fun G w a h0 hI A=>N9 12 A rfl rfl fun A=>B7 (fun(k:Nat)=>[(0,.ptr 0 0),(2,.ff),(3,.int .i64 (k:Int))]) (fun(k:Nat)=>[some (.blk (dS tv m nn ra rc))]) (fun(k:Nat)=>k≤nn∧Ce cs ts k=[]) (fun(k:Nat)=>nn - k) 0 ⟨β8 _,rfl⟩ ((A.cut [0,2,3] rfl).trunc 1 rfl rfl rfl (Cj h0 rfl)) fun k hK {G a w} A=>N9 7 A rfl rfl fun A=>A9 A rfl (BN (X:=⟨_,true⟩) (out:=.val (.sla ra nn rc) []) hX rfl Ah) fun A=>N9 4 A rfl rfl fun A=>Aq 10 A rfl
   (fun h1 A=>N9 6 A rfl rfl fun A=>have I1:((k:Int)).toNat<nn:=(by omega);have Eb:At (some ⟨bs ((k:Int)).toNat,bo ((k:Int)).toNat,none⟩) 11 1 (fun _=>FR (.sla (da ((k:Int)).toNat) (cs.getD (((k:Int)).toNat) Ak.z).l.length (dp ((k:Int)).toNat)) (BZ ts (k:Int)).r (((BZ ts (k:Int)).at_:Nat):Int) (.v (pv ((k:Int)).toNat))) _ _:=(hI.2.2 ((k:Int)).toNat (by omega)).1;have EO:F9 (da ((k:Int)).toNat) (cs.getD (((k:Int)).toNat) Ak.z).l _ _:=(hI.2.2 ((k:Int)).toNat (by omega)).2;have jG:(BZ ts (k:Int)).at_≤(cs.getD (((k:Int)).toNat) Ak.z).l.length:=hC.a ((k:Int)).toNat (by have:=hC.m;omega);N9 3 A rfl rfl fun A=>I9 [0] NN.ok hI (VN tv m cs ts nn ra rc bs bo da dp pv (k:Int) (by omega)) A rfl fun A=>N9 1 A rfl rfl fun A=>Aq 16 A rfl
    (fun h2 A=>N9 8 A rfl rfl fun A=>N9 10 A rfl rfl fun A=>R9 A rfl h0 rfl rfl rfl)
    (fun h2 A=>N9 5 A rfl (Aj (by omega)<|Ah) fun A=>A9 A rfl (Kx (v:=fun _=>.sla none 0 0) hX rfl rfl rfl rfl rfl rfl rfl (by omega) (fun k hk=>match k,hk with|0,_=>rfl|1,_=>rfl|2,_=>rfl)) fun A=>N9 2 A rfl rfl fun A=>have A:=Ai A 24 (.ff) rfl (fun _=>rfl);N9 12 A rfl (Aj (by omega)<|Ah) fun A=>⟨k+1,_,(by omega),⟨(by omega),Z1 hK.2 (by have q:=h2;have p:=jG;unfold BZ at q p;omega)⟩,((A.cut [0,2,3] rfl).trunc 1 rfl rfl rfl (Cj h0 rfl)).sayT (by rfl)⟩))
   (fun h1 A=>N9 4 A rfl rfl fun A=>have I1:k=nn:=(by omega);have qR:Ce cs ts nn=[]:=(by rw [←I1];exact hK.2);N9 5 A rfl rfl fun A=>R9 A rfl h0 rfl (absurd qR xL) rfl)
theorem uQ (tv:Nat→Value)(m:Nat→Int)(cs:List Ak)(ts:List Th)(nn:Nat)(ra:Option Addr)(rc:Nat)(bs bo:Nat→Nat)(da:Nat→Option Addr)(dp:Nat→Nat)(pv:Nat→Value)(hC:BR cs ts nn)(EP:nn≤3):CE (NN cs ts nn ra bs bo da dp pv) Tryz.prog 55 [.ptr 0 0] [some (.blk (dS tv m nn ra rc))] (Rt (.bool ((((Ce cs ts nn).length:Nat):Int)==0)) [some (.blk (dS tv m nn ra rc))]):=by
 by_cases h:Ce cs ts nn=[]
 ·refine Pv (nC tv m cs ts nn ra rc bs bo da dp pv hC EP h) (fun{G}=>?_)
  rw [h];rfl
 ·refine Pv (nD tv m cs ts nn ra rc bs bo da dp pv hC EP h) (fun{G}=>?_)
  have hl:(((Ce cs ts nn).length:Nat):Int)≠0:=fun e=>h (δ3 (by omega))
  exact congrArg (fun b=>some (Value.bool b)) (δ1.2 hl).symm
theorem nE (tv:Nat→Value)(m:Nat→Int)(cs:List Ak)(ts:List Th)(nn:Nat)(ra:Option Addr)(rc:Nat)(bs bo:Nat→Nat)(da:Nat→Option Addr)(dp:Nat→Nat)(pv:Nat→Value)(EP:nn≤3):CE (NN cs ts nn ra bs bo da dp pv) Tryz.prog 56 [.ptr 0 0] [some (.blk (dS tv m nn ra rc))] (Rt (.agg (HW (Jf (GD ts) nn) m)) [some (.blk (dS tv m nn ra rc))]):=
 BB (n:=33) (by kernel_rfl) Tryz.func56 rfl rfl rfl fun G w a h0 hI A=>N9 18 A rfl rfl fun A=>have A:=A.sayH (H':=[some (.blk (dS tv m nn ra rc)),some (.blk [.z9,.z9,.z9,.z9,.z9,.z9,.z9,.z9,.z9,.z9,.z9,.z9,.z9,.z9,.z9,.z9,.z9,.z9,.z9,.z9,.z9,.z9,.z9,.z9,.z9,.z9,.z9]),some (.blk (HW (Jf (GD ts) 0) m))]) (by rfl);N9 5 A rfl rfl fun A=>B7 (fun(k:Nat)=>[(0,.ptr 0 0),(2,.ptr 1 0),(3,.ptr 2 0),(4,.int .i64 (k:Int))]) (fun(k:Nat)=>[some (.blk (dS tv m nn ra rc)),some (.blk [.z9,.z9,.z9,.z9,.z9,.z9,.z9,.z9,.z9,.z9,.z9,.z9,.z9,.z9,.z9,.z9,.z9,.z9,.z9,.z9,.z9,.z9,.z9,.z9,.z9,.z9,.z9]),some (.blk (HW (Jf (GD ts) k) m))]) (fun(k:Nat)=>k≤nn) (fun(k:Nat)=>nn - k) 0 (β8 _) ((A.cut [0,2,3,4] rfl).trunc 3 rfl rfl rfl (Cj h0 rfl)) fun k hK {G a w} A=>N9 7 A rfl rfl fun A=>A9 A rfl (BN (X:=⟨_,true⟩) (out:=.val (.sla ra nn rc) []) hX rfl Ah) fun A=>N9 4 A rfl rfl fun A=>Aq 16 A rfl
   (fun h1 A=>N9 5 A rfl rfl fun A=>have I1:((k:Int)).toNat<nn:=(by omega);have Eb:At (some ⟨bs ((k:Int)).toNat,bo ((k:Int)).toNat,none⟩) 11 1 (fun _=>FR (.sla (da ((k:Int)).toNat) (cs.getD (((k:Int)).toNat) Ak.z).l.length (dp ((k:Int)).toNat)) (BZ ts (k:Int)).r (((BZ ts (k:Int)).at_:Nat):Int) (.v (pv ((k:Int)).toNat))) _ _:=(hI.2.2 ((k:Int)).toNat (by omega)).1;have EO:F9 (da ((k:Int)).toNat) (cs.getD (((k:Int)).toNat) Ak.z).l _ _:=(hI.2.2 ((k:Int)).toNat (by omega)).2;N9 5 A rfl rfl fun A=>A9 A rfl (BN (X:=⟨_,true⟩) (out:=.val (.sla ra nn rc) []) hX rfl Ah) fun A=>N9 1 A rfl rfl fun A=>A9 A rfl (Hz (e:=99) rfl rfl rfl rfl hI.1 (by kernel_rfl) (by omega)) fun A=>A9 A rfl (ND (q:=0) (r:=[.v (.pointer (some ⟨bs ((k:Int)).toNat,bo ((k:Int)).toNat,none⟩))]) (v:=.v (.pointer (some ⟨bs ((k:Int)).toNat,bo ((k:Int)).toNat,none⟩))) hX rfl rfl rfl hI.1 (by omega) rfl rfl rfl) fun A=>A9 A rfl (Le rfl rfl rfl) fun A=>A9 A rfl (Lf rfl rfl rfl (by kernel_rfl)) fun A=>A9 A rfl (XO (q:=1) (v:=.agg [.int .i64 (GD ts ((k:Int)).toNat 0),.int .i64 (GD ts ((k:Int)).toNat 1),.int .i64 (GD ts ((k:Int)).toNat 2),.int .i64 (GD ts ((k:Int)).toNat 3),.int .i64 (GD ts ((k:Int)).toNat 4),.int .i64 (GD ts ((k:Int)).toNat 5),.int .i64 (GD ts ((k:Int)).toNat 6),.int .i64 (GD ts ((k:Int)).toNat 7)]) hX rfl rfl rfl Eb rfl rfl rfl) fun A=>N9 2 A rfl (Aj (by omega)<|Ah) fun A=>A9 A rfl (mN (i:=2) (r:=GD ts ((k:Int)).toNat) (f:=Jf (GD ts) k) (m:=m) hX rfl rfl rfl rfl rfl rfl rfl (by omega)) fun A=>N9 8 A rfl (Aj (by omega)<|Ah) fun A=>⟨k+1,_,(by omega),(by omega),(((A.sayH (H':=[some (.blk (dS tv m nn ra rc)),some (.blk [.z9,.z9,.z9,.z9,.z9,.z9,.z9,.z9,.z9,.z9,.z9,.z9,.z9,.z9,.z9,.z9,.z9,.z9,.z9,.z9,.z9,.z9,.z9,.z9,.z9,.z9,.z9]),some (.blk (HW (Jf (GD ts) (k+1)) m))]) (by rw [←dO (GD ts) k];rfl)).cut [0,2,3,4] rfl).trunc 3 rfl rfl rfl (Cj h0 rfl)).sayT (by rfl)⟩)
   (fun h1 A=>N9 4 A rfl rfl fun A=>have I1:k=nn:=(by omega);have A:=A.sayH (H':=[some (.blk (dS tv m nn ra rc)),some (.blk [.z9,.z9,.z9,.z9,.z9,.z9,.z9,.z9,.z9,.z9,.z9,.z9,.z9,.z9,.z9,.z9,.z9,.z9,.z9,.z9,.z9,.z9,.z9,.z9,.z9,.z9,.z9]),some (.blk (HW (Jf (GD ts) nn) m))]) (by rw [I1]);N9 6 A rfl rfl fun A=>R9 A rfl h0 rfl rfl rfl)
theorem nF (a o s v:Int)(hO:OS o s)(ha:inr a)(hv:inr v):Fn Tryz.prog 94 [.int .i64 a,.int .i64 (IntKind.wrap .i64 (v*2^min (8*o).toNat (IntKind.bits .i64))),.int .i64 (CS o s)] [] (Rt (.int .i64 (Bm a o s v)) []):=by
 have h:=uM a (IntKind.wrap .i64 (v*2^min (8*o).toNat (IntKind.bits .i64))) (CS o s)
 rw [dX hO ha hv]at h
 exact h
theorem uR (tv:Nat→Value)(m:Nat→Int)(nn:Nat)(ra:Option Addr)(rc:Nat)(th lc o s:Int)(hl:0≤lc∧lc<3)(hO:OS o s)(qQ:0≤th∧th<3):Fn Tryz.prog 62 [.ptr 0 0,.int .i64 th,.agg [.int .i64 lc,.int .i64 (CS o s)]] [some (.blk (dS tv m nn ra rc))] (Rt (.int .i64 (Int.fdiv (m (lc).toNat) (2^min (8*o).toNat (IntKind.bits .i64)))) [some (.blk (dS tv m nn ra rc))]):=
 Am (n:=62) (by kernel_rfl) Tryz.func62 rfl rfl rfl fun G w a h0 A=>N9 7 A rfl rfl fun A=>JO By [.ptr 0 0,.ptr 1 0,.int .i64 lc,.ptr 0 0,.ptr 0 33,.ix (.ptr 0 33) 1 3 lc 0,.int .i64 (m (lc).toNat),.int .i64 (m (lc).toNat)] [] [] 0 [([],[],[some (.blk (dS tv m nn ra rc)),some (.blk [.int .i64 lc,.int .i64 (CS o s)])])] [[true,true,true,true,true,true,true,true]] A rfl rfl rfl rfl (by kernel_rfl) rfl (by kernel_rfl) ⟨⟨Ao 0 rfl rfl,⟨Ao 0 rfl rfl,⟨Ao 0 rfl rfl,⟨Ao 0 rfl rfl,⟨Ao 0 rfl rfl,⟨Ao 0 rfl (Aj (by have:=Ib hO;omega)<|Ah),⟨CF 0 rfl (Kx (v:=fun k=>.int .i64 (m k)) hX rfl rfl rfl rfl rfl rfl rfl (by have:=Ib hO;omega) (fun k hk=>match k,hk with|0,_=>rfl|1,_=>rfl|2,_=>rfl)),⟨Ao 0 rfl rfl,trivial⟩⟩⟩⟩⟩⟩⟩⟩,trivial⟩ fun A=>N9 8 A rfl rfl fun A=>B7 (fun(k:Nat)=>[(0,.ptr 0 0),(1,.int .i64 th),(5,.ptr 1 0),(6,.int .i64 0),(7,.int .i64 (m (lc).toNat)),(8,.int .i64 (k:Int))]) (fun(k:Nat)=>[some (.blk (dS tv m nn ra rc)),some (.blk [.int .i64 lc,.int .i64 (CS o s)])]) (fun(k:Nat)=>k≤1) (fun(k:Nat)=>1 - k) 0 (β8 _) ((A.cut [0,1,5,6,7,8] rfl).trunc 2 rfl rfl rfl (Cj h0 rfl)) fun k hK {G a w} A=>N9 9 A rfl (Aj (by have:=Ib hO;omega)<|Ah) fun A=>A9 A rfl (Kx (v:=fun _=>.sla none 0 0) hX rfl rfl rfl rfl rfl rfl rfl (by have:=Ib hO;omega) (fun k hk=>match k,hk with|0,_=>rfl|1,_=>rfl|2,_=>rfl)) fun A=>N9 2 A rfl rfl fun A=>have A:=Ai A 25 (.ff) rfl (fun _=>congrArg (fun b=>some (Value.bool b)) (η8 (by omega)));N9 10 A rfl rfl fun A=>C9 [] (Zy o s (CS o s) hO rfl) A rfl fun A=>N9 6 A rfl (Aj (by have:=Ib hO;omega)<|Aj (by have:=Ib hO;omega)<|Ah) fun A=>R9 A rfl h0 rfl rfl rfl
theorem Z2 (tv:Nat→Value)(m:Nat→Int)(nn:Nat)(ra:Option Addr)(rc:Nat)(lc o s v:Int)(hl:0≤lc∧lc<3)(hO:OS o s)(ha:inr (m (lc).toNat))(hv:inr v):Fn Tryz.prog 60 [.ptr 0 0,.agg [.int .i64 lc,.int .i64 (CS o s),.int .i64 v]] [some (.blk (dS tv m nn ra rc))] (Rt (.tup []) [some (.blk (dS tv (Bk m (lc).toNat (Bm (m (lc).toNat) o s v)) nn ra rc))]):=
 Am (n:=31) (by kernel_rfl) Tryz.func60 rfl rfl rfl fun G w a h0 A=>N9 5 A rfl rfl fun A=>JO By [.ptr 0 0,.ptr 1 0,.ptr 1 0,.int .i64 lc,.ptr 0 0,.ptr 1 0,.ptr 1 0,.int .i64 lc,.ptr 0 0,.ptr 0 33,.ix (.ptr 0 33) 1 3 lc 0,.int .i64 (m (lc).toNat),.ptr 1 2,.int .i64 v,.ptr 1 0,.ptr 1 1,.int .i64 (CS o s),.int .i64 o,.int .i64 (8*o),.int .i64 (IntKind.wrap .i64 (v*2^min ((8*o)).toNat (IntKind.bits .i64))),.ptr 1 0,.ptr 1 1,.int .i64 (CS o s),.int .i64 (Bm (m (lc).toNat) o s v),.ptr 0 0,.ptr 0 33,.ix (.ptr 0 33) 1 3 lc 0,.tup []] [27] [] 0 [([],[],[some (.blk (dS tv m nn ra rc)),some (.blk [.int .i64 lc,.int .i64 (CS o s),.int .i64 v])]),([27],[],[some (.blk (dS tv (Bk m (lc).toNat (Bm (m (lc).toNat) o s v)) nn ra rc)),some (.blk [.int .i64 lc,.int .i64 (CS o s),.int .i64 v])])] [[true,true,true,true,true,true,true,true,true,true,true,true,true,true,true,true,true,true,true,true,true,true,true,true,true,true,true,true],[false,false,false,false,false,false,false,false,false,false,false,false,false,false,false,false,false,false,false,false,false,false,false,false,true,true,false,false]] A rfl rfl rfl rfl (by kernel_rfl) rfl (by kernel_rfl) ⟨⟨Ao 0 rfl rfl,⟨Ao 0 rfl rfl,⟨Ao 0 rfl rfl,⟨Ao 0 rfl rfl,⟨Ao 0 rfl rfl,⟨Ao 0 rfl rfl,⟨Ao 0 rfl rfl,⟨Ao 0 rfl rfl,⟨Ao 0 rfl rfl,⟨Ao 0 rfl rfl,⟨Ao 0 rfl (Aj (by have:=Ib hO;omega)<|Ah),⟨CF 0 rfl (Kx (v:=fun k=>.int .i64 (m k)) hX rfl rfl rfl rfl rfl rfl rfl (by have:=Ib hO;omega) (fun k hk=>match k,hk with|0,_=>rfl|1,_=>rfl|2,_=>rfl)),⟨Ao 0 rfl rfl,⟨Ao 0 rfl rfl,⟨Ao 0 rfl rfl,⟨Ao 0 rfl rfl,⟨Ao 0 rfl rfl,⟨CF 0 rfl (C7 rfl rfl (Zy o s (CS o s) hO rfl)),⟨Ao 0 rfl (Aj (by have:=Ib hO;omega)<|Ah),⟨Ao 0 rfl (Aj (by have:=Ib hO;omega)<|Ah),⟨Ao 0 rfl rfl,⟨Ao 0 rfl rfl,⟨Ao 0 rfl rfl,⟨CF 0 rfl (C7 rfl rfl (nF (m (lc).toNat) o s v hO ha hv)),⟨Ao 0 rfl rfl,⟨Ao 0 rfl rfl,⟨Ao 0 rfl (Aj (by have:=Ib hO;omega)<|Ah),⟨CF 1 rfl (uG (cs':=fun k=>(dS tv (Bk m k (Bm (m (lc).toNat) o s v)) nn ra rc)) hX rfl rfl rfl rfl rfl rfl rfl rfl (by have:=Ib hO;omega) (fun k hk=>match k,hk with|0,_=>rfl|1,_=>rfl|2,_=>rfl) rfl),trivial⟩⟩⟩⟩⟩⟩⟩⟩⟩⟩⟩⟩⟩⟩⟩⟩⟩⟩⟩⟩⟩⟩⟩⟩⟩⟩⟩⟩,⟨⟨Ao 1 rfl rfl,⟨Ao 1 rfl rfl,trivial⟩⟩,trivial⟩⟩ fun A=>Ee (R9 A rfl h0 rfl rfl rfl)
end Go.Proofs.YtbbdanhpphlbpaaGreatDoor.Mc
namespace Go.Proofs.YtbbdanhpphlbpaaGreatDoor.Mc
open Go.RowKit
set_option simprocs false
def YE (i:In):Int:=if(((i.op==4)||(i.op==5))||(i.op==6))=true then i.loc else 0
def YF (r:Rg)(i:In):Int:=if(((i.op==4)||(i.op==5))||(i.op==6))=true then Bl (A7 i.off (DT r i.ix 0) i.sz) i.sz else 0
def Nr (i:In)(old:Int):Int:=if((i.op==4)||(i.op==6))=true then Bz old i.sz else 0
def VO (r:Rg)(i:In)(old:Int):Int:=if i.op=6 then Ie i.fn (Bz old i.sz) (GV r i) i.sz else if i.op=5 then Bz (GV r i) i.sz else 0
abbrev jV (r:Rg)(i:In)(p a old:Int):List SV:=[.z9,.int .i64 p,.int .i64 a,.int .i64 i.op,.int .i64 (YE i),.int .i64 (YF r i),.bool ((i.op==4)||(i.op==6)),.bool ((i.op==5)||(i.op==6)),.int .i64 (Nr i old),.int .i64 (VO r i old),.bool i.acq,.bool i.weak,.bool i.rel,.int .i64 i.pred,.int .i64 i.succ]
def nG (l:List In)(ao:Option Addr)(cp:Nat)(s:Th)(L:Loc)(pb:Option (Nat×Nat))(ps:List Int)(old:Int):SV→World→World→Prop:=fun x w w'=>mX L l ao cp ⟨s.at_+1,IC s.r (Ap l s) old⟩ pb x w w'∧x=.agg (jV s.r (Ap l s) ((ps.length:Nat):Int) ((s.at_:Nat):Int) old)
abbrev Hk (l:List In)(s:Th)(old:Int):Rg:=Bk s.r ((Ap l s).dst).toNat (Bz old ((Ap l s).sz))
theorem YG (l:List In)(ao:Option Addr)(cp:Nat)(s:Th)(L:Loc)(pb:Option (Nat×Nat))(ps:List Int)(old:Int)(hc:Fs l)(Bn:s.at_<l.length)(ZL:ps.length≤s.at_):PG Tryz.prog 64 [.v (.pointer (some ⟨L.b,L.pre.length,none⟩)),.int .i64 old] [] (L.b::Hj pb) (fun w=>Gt L (Ss (.sla ao l.length cp) s.r ((s.at_:Nat):Int)) pb ps w∧F9 ao l w (L.b::Hj pb)) (nG l ao cp s L pb ps old):=
 Gq (n:=111) (by kernel_rfl) Tryz.func64 rfl rfl rfl (fun i e h=>by rw [κ1]at h;cases h) fun G w a h0 ho hp A=>have hs:X0 (Ap l s):=hc.snd Bn;have hn:=hc.n;Zk 0 A hp.1 rfl rfl fun A SL xK=>have B:=A;have A:=B.base;have h0:=B.mem.len;have hI:=At.ok _ _ _ _ hp.2 (DO.refl _ _) xK;Zl 1 0 (cs:=Ss (.sla ao l.length cp) s.r ((s.at_:Nat):Int)) (H':=[none,some (.blk [.sla ao l.length cp,.int .i64 (s.r 0),.int .i64 (s.r 1),.int .i64 (s.r 2),.int .i64 (s.r 3),.int .i64 (s.r 4),.int .i64 (s.r 5),.int .i64 (s.r 6),.int .i64 (s.r 7),.int .i64 ((s.at_:Nat):Int),.sl 2 ps.length 0]),some (.row 3 1 ps.length 0 (Ec ps))]) A rfl rfl rfl rfl fun A=>N9 6 A rfl rfl fun A=>JO By [.ptr 1 0,.ptr 1 0,.ptr 1 0,.sla ao l.length cp,.ptr 1 0,.ptr 1 0,.ptr 1 9,.int .i64 ((s.at_:Nat):Int),.v (.pointer (Ty ao 17 ((s.at_:Nat):Int))),.agg (A5 (Ap l s)),.ptr 4 0,.tup []] [10,11] [4] 1 [([],[4],[none,some (.blk [.sla ao l.length cp,.int .i64 (s.r 0),.int .i64 (s.r 1),.int .i64 (s.r 2),.int .i64 (s.r 3),.int .i64 (s.r 4),.int .i64 (s.r 5),.int .i64 (s.r 6),.int .i64 (s.r 7),.int .i64 ((s.at_:Nat):Int),.sl 2 ps.length 0]),some (.row 3 1 ps.length 0 (Ec ps)),some (.blk [.z9,.z9,.z9,.z9,.z9,.z9,.ff,.ff,.z9,.z9,.ff,.ff,.ff,.z9,.z9]),none]),([10],[],[none,some (.blk [.sla ao l.length cp,.int .i64 (s.r 0),.int .i64 (s.r 1),.int .i64 (s.r 2),.int .i64 (s.r 3),.int .i64 (s.r 4),.int .i64 (s.r 5),.int .i64 (s.r 6),.int .i64 (s.r 7),.int .i64 ((s.at_:Nat):Int),.sl 2 ps.length 0]),some (.row 3 1 ps.length 0 (Ec ps)),some (.blk [.z9,.z9,.z9,.z9,.z9,.z9,.ff,.ff,.z9,.z9,.ff,.ff,.ff,.z9,.z9]),some (.blk [.z9,.z9,.z9,.z9,.z9,.z9,.z9,.z9,.z9,.z9,.ff,.ff,.ff,.z9,.z9,.z9,.ff])]),([10,11],[],[none,some (.blk [.sla ao l.length cp,.int .i64 (s.r 0),.int .i64 (s.r 1),.int .i64 (s.r 2),.int .i64 (s.r 3),.int .i64 (s.r 4),.int .i64 (s.r 5),.int .i64 (s.r 6),.int .i64 (s.r 7),.int .i64 ((s.at_:Nat):Int),.sl 2 ps.length 0]),some (.row 3 1 ps.length 0 (Ec ps)),some (.blk [.z9,.z9,.z9,.z9,.z9,.z9,.ff,.ff,.z9,.z9,.ff,.ff,.ff,.z9,.z9]),some (.blk (A5 (Ap l s)))])] [[true,true,true,true,true,true,true,true,true,true,true,false],[true,true,true,true,true,true,true,true,true,true,false,true],[false,false,false,false,false,false,false,false,false,false,false,false]] A rfl rfl rfl rfl (by kernel_rfl) rfl (by kernel_rfl) ⟨⟨Ao 0 rfl rfl,⟨Ao 0 rfl rfl,⟨Ao 0 rfl rfl,⟨Ao 0 rfl rfl,⟨Ao 0 rfl rfl,⟨Ao 0 rfl rfl,⟨Ao 0 rfl rfl,⟨Ao 0 rfl rfl,⟨CF 0 rfl (Hz (e:=63) rfl rfl rfl rfl hI (by kernel_rfl) (by omega)),⟨CF 0 rfl (Po (C3 (Ap l s)) hX rfl rfl rfl hI (by omega) rfl rfl),⟨⟨_,_,_,_,1,rfl,rfl,rfl,rfl,Eh 4 (X:=⟨_,true⟩) hX rfl rfl (Ph h0 rfl) rfl rfl rfl rfl⟩,trivial⟩⟩⟩⟩⟩⟩⟩⟩⟩⟩⟩,⟨⟨Ao 1 rfl rfl,⟨Ao 1 rfl rfl,⟨Ao 1 rfl rfl,⟨Ao 1 rfl rfl,⟨Ao 1 rfl rfl,⟨Ao 1 rfl rfl,⟨Ao 1 rfl rfl,⟨Ao 1 rfl rfl,⟨CF 1 rfl (Hz (e:=63) rfl rfl rfl rfl hI (by kernel_rfl) (by omega)),⟨CF 1 rfl (Po (C3 (Ap l s)) hX rfl rfl rfl hI (by omega) rfl rfl),⟨CF 2 rfl (BN (X:=⟨_,true⟩) (out:=.upd 4 (A5 (Ap l s)) _) hX rfl rfl),trivial⟩⟩⟩⟩⟩⟩⟩⟩⟩⟩⟩,⟨trivial,trivial⟩⟩⟩ fun A=>N9 2 A rfl rfl fun A=>Ba hX By [(22,.bool (((Ap l s).op==4)||((Ap l s).op==6))),(24,.bool (((Ap l s).op==5)||((Ap l s).op==6)))] [] A rfl rfl rfl rfl (by kernel_rfl) (A8 _ _) ⟨.inl ⟨_,_,rfl,rfl,Zp (Ap l s)⟩,⟨.inl ⟨_,_,rfl,rfl,mL (Ap l s)⟩,trivial⟩⟩ fun A=>N9 5 A rfl rfl fun A=>C9 [] (Zo (Ap l s)) A rfl fun A=>N9 2 A rfl rfl fun A=>fork 44 A rfl
  (fun h1 A=>N9 4 A rfl rfl fun A=>C9 [1,2] (mW l ao cp ((s.at_:Nat):Int) s.r ps (Ap l s) (by have q3:=K0 h1;exact hc.szs Bn (by show _∨_∨_;first|exact q3|(have q4:(Ap l s).op=4∨(Ap l s).op=5∨(Ap l s).op=6:=(by omega);exact q4))) (by have q3:=K0 h1;exact hs.x (by first|exact q3|omega))) A rfl fun A=>N9 11 A rfl rfl fun A=>fork 50 A rfl
   (fun h2 A=>N9 5 A rfl rfl fun A=>C9 [] (Rc old ((Ap l s).sz) (by have q3:=K0 h1;have q2:=Pz h2;exact hc.szs Bn (by show _∨_∨_;first|exact q3|(have q4:(Ap l s).op=4∨(Ap l s).op=5∨(Ap l s).op=6:=(by omega);exact q4)))) A rfl fun A=>N9 12 A rfl rfl fun A=>Au 58 A rfl
    (fun h3 A=>False.elim (by simp only [β9,δ6,ε4,δ1,ne_eq]at h1 h2;omega))
    (fun h3 A=>N9 11 A rfl rfl fun A=>Au 68 A rfl
     (fun h4 A=>N9 1 A rfl rfl fun A=>Ba hX By [(9,.int .i64 (Ie ((Ap l s).fn) (Bz old ((Ap l s).sz)) (GV s.r (Ap l s)) ((Ap l s).sz)))] [(6,.int .i64 (GV s.r (Ap l s)),[none,some (.blk [.sla ao l.length cp,.int .i64 (s.r 0),.int .i64 (s.r 1),.int .i64 (s.r 2),.int .i64 (s.r 3),.int .i64 (s.r 4),.int .i64 (s.r 5),.int .i64 (s.r 6),.int .i64 (s.r 7),.int .i64 ((s.at_:Nat):Int),.sl 2 ps.length 0]),some (.row 3 1 ps.length 0 (Ec ps)),some (.blk [.z9,.z9,.z9,.z9,.z9,.z9,.ff,.ff,.z9,.z9,.ff,.ff,.ff,.z9,.z9]),some (.blk (A5 (Ap l s))),some (.blk [.z9,.int .i64 ((ps.length:Nat):Int),.int .i64 ((s.at_:Nat):Int),.int .i64 ((Ap l s).op),.int .i64 ((Ap l s).loc),.int .i64 (Bl (A7 (Ap l s).off (DT s.r (Ap l s).ix 0) (Ap l s).sz) (Ap l s).sz),.bool (((Ap l s).op==4)||((Ap l s).op==6)),.bool (((Ap l s).op==5)||((Ap l s).op==6)),.int .i64 (Bz old ((Ap l s).sz)),.z9,.bool ((Ap l s).acq),.bool ((Ap l s).weak),.bool ((Ap l s).rel),.int .i64 ((Ap l s).pred),.int .i64 ((Ap l s).succ)])])] A rfl rfl rfl rfl (by kernel_rfl) ⟨ED [1,2] (Z0 l ao cp ((s.at_:Nat):Int) s.r ps (Ap l s) (by have q3:=K0 h1;have q2:=Pz h2;first|(have h5:=hs.a5 (by omega);omega)|(have h6:=hs.a (by omega);omega))) rfl rfl rfl rfl rfl rfl rfl,⟨trivial,trivial⟩⟩ ⟨.inl ⟨_,_,rfl,rfl,mK ((Ap l s).fn) (Bz old ((Ap l s).sz)) (GV s.r (Ap l s)) ((Ap l s).sz) (by have q3:=K0 h1;have q2:=Pz h2;exact hc.szs Bn (by show _∨_∨_;first|exact q3|(have q4:(Ap l s).op=4∨(Ap l s).op=5∨(Ap l s).op=6:=(by omega);exact q4)))⟩,trivial⟩ fun A=>N9 8 A rfl rfl fun A=>fork 81 A rfl
      (fun h5 A=>N9 1 A rfl rfl fun A=>Ba hX By [] [(8,.tup [],[none,some (.blk [.sla ao l.length cp,.int .i64 ((Hk l s old) 0),.int .i64 ((Hk l s old) 1),.int .i64 ((Hk l s old) 2),.int .i64 ((Hk l s old) 3),.int .i64 ((Hk l s old) 4),.int .i64 ((Hk l s old) 5),.int .i64 ((Hk l s old) 6),.int .i64 ((Hk l s old) 7),.int .i64 ((s.at_:Nat):Int),.sl 2 ps.length 0]),some (.row 3 1 ps.length 0 (Ec ps)),some (.blk [.z9,.z9,.z9,.z9,.z9,.z9,.ff,.ff,.z9,.z9,.ff,.ff,.ff,.z9,.z9]),some (.blk (A5 (Ap l s))),some (.blk [.z9,.int .i64 ((ps.length:Nat):Int),.int .i64 ((s.at_:Nat):Int),.int .i64 ((Ap l s).op),.int .i64 ((Ap l s).loc),.int .i64 (Bl (A7 (Ap l s).off (DT s.r (Ap l s).ix 0) (Ap l s).sz) (Ap l s).sz),.bool (((Ap l s).op==4)||((Ap l s).op==6)),.bool (((Ap l s).op==5)||((Ap l s).op==6)),.int .i64 (Bz old ((Ap l s).sz)),.int .i64 (Ie ((Ap l s).fn) (Bz old ((Ap l s).sz)) (GV s.r (Ap l s)) ((Ap l s).sz)),.bool ((Ap l s).acq),.bool ((Ap l s).weak),.bool ((Ap l s).rel),.int .i64 ((Ap l s).pred),.int .i64 ((Ap l s).succ)])])] A rfl (Aj (by have q3:=K0 h1;have q2:=Pz h2;first|exact hs.d (by omega)|omega)<|Ah) rfl rfl (by kernel_rfl) ⟨Sq (i:=1) (r:=s.r) hX rfl rfl rfl rfl rfl rfl rfl rfl (by have q3:=K0 h1;have q2:=Pz h2;first|exact hs.d (by omega)|omega),trivial⟩ trivial fun A=>N9 2 A rfl rfl fun A=>Ba hX By [] [(10,.sl 7 (ps.length+1) 0,[none,some (.blk [.sla ao l.length cp,.int .i64 ((Hk l s old) 0),.int .i64 ((Hk l s old) 1),.int .i64 ((Hk l s old) 2),.int .i64 ((Hk l s old) 3),.int .i64 ((Hk l s old) 4),.int .i64 ((Hk l s old) 5),.int .i64 ((Hk l s old) 6),.int .i64 ((Hk l s old) 7),.int .i64 ((s.at_:Nat):Int),.sl 2 ps.length 0]),none,some (.blk [.z9,.z9,.z9,.z9,.z9,.z9,.ff,.ff,.z9,.z9,.ff,.ff,.ff,.z9,.z9]),some (.blk (A5 (Ap l s))),some (.blk [.z9,.int .i64 ((ps.length:Nat):Int),.int .i64 ((s.at_:Nat):Int),.int .i64 ((Ap l s).op),.int .i64 ((Ap l s).loc),.int .i64 (Bl (A7 (Ap l s).off (DT s.r (Ap l s).ix 0) (Ap l s).sz) (Ap l s).sz),.bool (((Ap l s).op==4)||((Ap l s).op==6)),.bool (((Ap l s).op==5)||((Ap l s).op==6)),.int .i64 (Bz old ((Ap l s).sz)),.int .i64 (Ie ((Ap l s).fn) (Bz old ((Ap l s).sz)) (GV s.r (Ap l s)) ((Ap l s).sz)),.bool ((Ap l s).acq),.bool ((Ap l s).weak),.bool ((Ap l s).rel),.int .i64 ((Ap l s).pred),.int .i64 ((Ap l s).succ)]),some (.blk [.int .i64 ((s.at_:Nat):Int)]),some (.row 3 1 (ps.length+1) 0 (Ec (ps++[((s.at_:Nat):Int)])))])] A rfl rfl rfl rfl (by kernel_rfl) ⟨trivial,⟨OO (i:=2) hX (ps.length+1) (Ec (ps++[((s.at_:Nat):Int)])) rfl rfl rfl rfl (by omega) rfl (fun k hk=>by show [SV.int .i64 _]=[SV.int .i64 _];rw [BX hk]) (by show [SV.int .i64 _]=_;rw [EH]) (fun z=>⟨_,rfl,rfl⟩),⟨trivial,trivial⟩⟩⟩ trivial fun A=>N9 14 A rfl (Aj (by omega)<|Ah) fun A=>N9 6 A rfl rfl fun A=>have A:=A.thSay 1 7 (r':=IC s.r (Ap l s) old) (at':=(((s.at_+1:Nat):Nat):Int)) (m':=(ps++[((s.at_:Nat):Int)]).length) rfl rfl (by unfold IC;rw [if_pos h5]) (by omega) (by rw [α4];rfl) rfl;Hw (J:=nG l ao cp s L pb ps old) hX (B.trans A) rfl rfl rfl rfl ⟨JQ (z:=⟨s.at_+1,IC s.r (Ap l s) old⟩) (Sy.giveT (B.trans A) 1 7 (A.at_pre SL) rfl rfl rfl rfl) rfl (by rw [α4];show ps.length+1≤s.at_+1;omega),(by simp only [BA,jV,YE,YF,Nr,VO,if_pos h1,if_pos h2,if_neg h3,if_pos h4,if_pos h5])⟩)
      (fun h5 A=>False.elim (by simp only [β9,δ6,ε4,δ1,ne_eq]at h1 h2 h5;omega)))
     (fun h4 A=>N9 10 A rfl rfl fun A=>fork 81 A rfl
      (fun h6 A=>N9 1 A rfl rfl fun A=>Ba hX By [] [(8,.tup [],[none,some (.blk [.sla ao l.length cp,.int .i64 ((Hk l s old) 0),.int .i64 ((Hk l s old) 1),.int .i64 ((Hk l s old) 2),.int .i64 ((Hk l s old) 3),.int .i64 ((Hk l s old) 4),.int .i64 ((Hk l s old) 5),.int .i64 ((Hk l s old) 6),.int .i64 ((Hk l s old) 7),.int .i64 ((s.at_:Nat):Int),.sl 2 ps.length 0]),some (.row 3 1 ps.length 0 (Ec ps)),some (.blk [.z9,.z9,.z9,.z9,.z9,.z9,.ff,.ff,.z9,.z9,.ff,.ff,.ff,.z9,.z9]),some (.blk (A5 (Ap l s))),some (.blk [.z9,.int .i64 ((ps.length:Nat):Int),.int .i64 ((s.at_:Nat):Int),.int .i64 ((Ap l s).op),.int .i64 ((Ap l s).loc),.int .i64 (Bl (A7 (Ap l s).off (DT s.r (Ap l s).ix 0) (Ap l s).sz) (Ap l s).sz),.bool (((Ap l s).op==4)||((Ap l s).op==6)),.bool (((Ap l s).op==5)||((Ap l s).op==6)),.int .i64 (Bz old ((Ap l s).sz)),.z9,.bool ((Ap l s).acq),.bool ((Ap l s).weak),.bool ((Ap l s).rel),.int .i64 ((Ap l s).pred),.int .i64 ((Ap l s).succ)])])] A rfl (Aj (by have q3:=K0 h1;have q2:=Pz h2;first|exact hs.d (by omega)|omega)<|Ah) rfl rfl (by kernel_rfl) ⟨Sq (i:=1) (r:=s.r) hX rfl rfl rfl rfl rfl rfl rfl rfl (by have q3:=K0 h1;have q2:=Pz h2;first|exact hs.d (by omega)|omega),trivial⟩ trivial fun A=>N9 2 A rfl rfl fun A=>Ba hX By [] [(10,.sl 7 (ps.length+1) 0,[none,some (.blk [.sla ao l.length cp,.int .i64 ((Hk l s old) 0),.int .i64 ((Hk l s old) 1),.int .i64 ((Hk l s old) 2),.int .i64 ((Hk l s old) 3),.int .i64 ((Hk l s old) 4),.int .i64 ((Hk l s old) 5),.int .i64 ((Hk l s old) 6),.int .i64 ((Hk l s old) 7),.int .i64 ((s.at_:Nat):Int),.sl 2 ps.length 0]),none,some (.blk [.z9,.z9,.z9,.z9,.z9,.z9,.ff,.ff,.z9,.z9,.ff,.ff,.ff,.z9,.z9]),some (.blk (A5 (Ap l s))),some (.blk [.z9,.int .i64 ((ps.length:Nat):Int),.int .i64 ((s.at_:Nat):Int),.int .i64 ((Ap l s).op),.int .i64 ((Ap l s).loc),.int .i64 (Bl (A7 (Ap l s).off (DT s.r (Ap l s).ix 0) (Ap l s).sz) (Ap l s).sz),.bool (((Ap l s).op==4)||((Ap l s).op==6)),.bool (((Ap l s).op==5)||((Ap l s).op==6)),.int .i64 (Bz old ((Ap l s).sz)),.z9,.bool ((Ap l s).acq),.bool ((Ap l s).weak),.bool ((Ap l s).rel),.int .i64 ((Ap l s).pred),.int .i64 ((Ap l s).succ)]),some (.blk [.int .i64 ((s.at_:Nat):Int)]),some (.row 3 1 (ps.length+1) 0 (Ec (ps++[((s.at_:Nat):Int)])))])] A rfl rfl rfl rfl (by kernel_rfl) ⟨trivial,⟨OO (i:=2) hX (ps.length+1) (Ec (ps++[((s.at_:Nat):Int)])) rfl rfl rfl rfl (by omega) rfl (fun k hk=>by show [SV.int .i64 _]=[SV.int .i64 _];rw [BX hk]) (by show [SV.int .i64 _]=_;rw [EH]) (fun z=>⟨_,rfl,rfl⟩),⟨trivial,trivial⟩⟩⟩ trivial fun A=>N9 14 A rfl (Aj (by omega)<|Ah) fun A=>N9 6 A rfl rfl fun A=>have A:=A.thSay 1 7 (r':=IC s.r (Ap l s) old) (at':=(((s.at_+1:Nat):Nat):Int)) (m':=(ps++[((s.at_:Nat):Int)]).length) rfl rfl (by unfold IC;rw [if_pos h6]) (by omega) (by rw [α4];rfl) rfl;Hw (J:=nG l ao cp s L pb ps old) hX (B.trans A) rfl rfl rfl rfl ⟨JQ (z:=⟨s.at_+1,IC s.r (Ap l s) old⟩) (Sy.giveT (B.trans A) 1 7 (A.at_pre SL) rfl rfl rfl rfl) rfl (by rw [α4];show ps.length+1≤s.at_+1;omega),(by simp only [BA,jV,YE,YF,Nr,VO,if_pos h1,if_pos h2,if_neg h3,if_neg h4,if_pos h6])⟩)
      (fun h6 A=>False.elim (by simp only [β9,δ6,ε4,δ1,ne_eq]at h1 h2 h6;omega)))))
   (fun h2 A=>N9 11 A rfl rfl fun A=>Au 58 A rfl
    (fun h7 A=>N9 1 A rfl rfl fun A=>Ba hX By [(5,.int .i64 (Bz (GV s.r (Ap l s)) ((Ap l s).sz)))] [(2,.int .i64 (GV s.r (Ap l s)),[none,some (.blk [.sla ao l.length cp,.int .i64 (s.r 0),.int .i64 (s.r 1),.int .i64 (s.r 2),.int .i64 (s.r 3),.int .i64 (s.r 4),.int .i64 (s.r 5),.int .i64 (s.r 6),.int .i64 (s.r 7),.int .i64 ((s.at_:Nat):Int),.sl 2 ps.length 0]),some (.row 3 1 ps.length 0 (Ec ps)),some (.blk [.z9,.z9,.z9,.z9,.z9,.z9,.ff,.ff,.z9,.z9,.ff,.ff,.ff,.z9,.z9]),some (.blk (A5 (Ap l s))),some (.blk [.z9,.int .i64 ((ps.length:Nat):Int),.int .i64 ((s.at_:Nat):Int),.int .i64 ((Ap l s).op),.int .i64 ((Ap l s).loc),.int .i64 (Bl (A7 (Ap l s).off (DT s.r (Ap l s).ix 0) (Ap l s).sz) (Ap l s).sz),.bool (((Ap l s).op==4)||((Ap l s).op==6)),.bool (((Ap l s).op==5)||((Ap l s).op==6)),.z9,.z9,.bool ((Ap l s).acq),.bool ((Ap l s).weak),.bool ((Ap l s).rel),.int .i64 ((Ap l s).pred),.int .i64 ((Ap l s).succ)])])] A rfl rfl rfl rfl (by kernel_rfl) ⟨ED [1,2] (Z0 l ao cp ((s.at_:Nat):Int) s.r ps (Ap l s) (by have q3:=K0 h1;first|(have h5:=hs.a5 (by omega);omega)|(have h6:=hs.a (by omega);omega))) rfl rfl rfl rfl rfl rfl rfl,⟨trivial,trivial⟩⟩ ⟨.inl ⟨_,_,rfl,rfl,Rc (GV s.r (Ap l s)) ((Ap l s).sz) (by have q3:=K0 h1;exact hc.szs Bn (by show _∨_∨_;first|exact q3|(have q4:(Ap l s).op=4∨(Ap l s).op=5∨(Ap l s).op=6:=(by omega);exact q4)))⟩,trivial⟩ fun A=>N9 9 A rfl rfl fun A=>Au 68 A rfl
     (fun h8 A=>False.elim (by simp only [β9,δ6,ε4,δ1,ne_eq]at h1 h2;omega))
     (fun h8 A=>N9 10 A rfl rfl fun A=>fork 81 A rfl
      (fun h9 A=>False.elim (by simp only [β9,δ6,ε4,δ1,ne_eq]at h1 h2 h9;omega))
      (fun h9 A=>N9 4 A rfl rfl fun A=>Ba hX By [] [(10,.sl 7 (ps.length+1) 0,[none,some (.blk [.sla ao l.length cp,.int .i64 (s.r 0),.int .i64 (s.r 1),.int .i64 (s.r 2),.int .i64 (s.r 3),.int .i64 (s.r 4),.int .i64 (s.r 5),.int .i64 (s.r 6),.int .i64 (s.r 7),.int .i64 ((s.at_:Nat):Int),.sl 2 ps.length 0]),none,some (.blk [.z9,.z9,.z9,.z9,.z9,.z9,.ff,.ff,.z9,.z9,.ff,.ff,.ff,.z9,.z9]),some (.blk (A5 (Ap l s))),some (.blk [.z9,.int .i64 ((ps.length:Nat):Int),.int .i64 ((s.at_:Nat):Int),.int .i64 ((Ap l s).op),.int .i64 ((Ap l s).loc),.int .i64 (Bl (A7 (Ap l s).off (DT s.r (Ap l s).ix 0) (Ap l s).sz) (Ap l s).sz),.bool (((Ap l s).op==4)||((Ap l s).op==6)),.bool (((Ap l s).op==5)||((Ap l s).op==6)),.z9,.int .i64 (Bz (GV s.r (Ap l s)) ((Ap l s).sz)),.bool ((Ap l s).acq),.bool ((Ap l s).weak),.bool ((Ap l s).rel),.int .i64 ((Ap l s).pred),.int .i64 ((Ap l s).succ)]),some (.blk [.int .i64 ((s.at_:Nat):Int)]),some (.row 3 1 (ps.length+1) 0 (Ec (ps++[((s.at_:Nat):Int)])))])] A rfl rfl rfl rfl (by kernel_rfl) ⟨trivial,⟨OO (i:=2) hX (ps.length+1) (Ec (ps++[((s.at_:Nat):Int)])) rfl rfl rfl rfl (by omega) rfl (fun k hk=>by show [SV.int .i64 _]=[SV.int .i64 _];rw [BX hk]) (by show [SV.int .i64 _]=_;rw [EH]) (fun z=>⟨_,rfl,rfl⟩),⟨trivial,trivial⟩⟩⟩ trivial fun A=>N9 14 A rfl (Aj (by omega)<|Ah) fun A=>N9 6 A rfl rfl fun A=>have A:=A.thSay 1 7 (r':=IC s.r (Ap l s) old) (at':=(((s.at_+1:Nat):Nat):Int)) (m':=(ps++[((s.at_:Nat):Int)]).length) rfl rfl (by unfold IC;rw [if_neg (α8 h9)]) (by omega) (by rw [α4];rfl) rfl;Hw (J:=nG l ao cp s L pb ps old) hX (B.trans A) rfl rfl rfl rfl ⟨JQ (z:=⟨s.at_+1,IC s.r (Ap l s) old⟩) (Sy.giveT (B.trans A) 1 7 (A.at_pre SL) rfl rfl rfl rfl) rfl (by rw [α4];show ps.length+1≤s.at_+1;omega),(by simp only [BA,jV,YE,YF,Nr,VO,if_pos h1,if_neg (α8 h2),if_pos h7,if_neg h8,if_neg (α8 h9)])⟩)))
    (fun h7 A=>False.elim (by simp only [β9,δ6,ε4,δ1,ne_eq]at h1 h2;omega))))
  (fun h1 A=>N9 10 A rfl rfl fun A=>fork 50 A rfl
   (fun GL A=>False.elim (by simp only [β9,δ6,ε4,δ1,ne_eq]at h1 GL;omega))
   (fun GL A=>N9 11 A rfl rfl fun A=>Au 58 A rfl
    (fun Fv A=>False.elim (by simp only [β9,δ6,ε4,δ1,ne_eq]at h1 GL;omega))
    (fun Fv A=>N9 11 A rfl rfl fun A=>Au 68 A rfl
     (fun No A=>False.elim (by simp only [β9,δ6,ε4,δ1,ne_eq]at h1 GL;omega))
     (fun No A=>N9 10 A rfl rfl fun A=>fork 81 A rfl
      (fun Ll A=>False.elim (by simp only [β9,δ6,ε4,δ1,ne_eq]at h1 GL Ll;omega))
      (fun Ll A=>N9 4 A rfl rfl fun A=>Ba hX By [] [(10,.sl 7 (ps.length+1) 0,[none,some (.blk [.sla ao l.length cp,.int .i64 (s.r 0),.int .i64 (s.r 1),.int .i64 (s.r 2),.int .i64 (s.r 3),.int .i64 (s.r 4),.int .i64 (s.r 5),.int .i64 (s.r 6),.int .i64 (s.r 7),.int .i64 ((s.at_:Nat):Int),.sl 2 ps.length 0]),none,some (.blk [.z9,.z9,.z9,.z9,.z9,.z9,.ff,.ff,.z9,.z9,.ff,.ff,.ff,.z9,.z9]),some (.blk (A5 (Ap l s))),some (.blk [.z9,.int .i64 ((ps.length:Nat):Int),.int .i64 ((s.at_:Nat):Int),.int .i64 ((Ap l s).op),.z9,.z9,.bool (((Ap l s).op==4)||((Ap l s).op==6)),.bool (((Ap l s).op==5)||((Ap l s).op==6)),.z9,.z9,.bool ((Ap l s).acq),.bool ((Ap l s).weak),.bool ((Ap l s).rel),.int .i64 ((Ap l s).pred),.int .i64 ((Ap l s).succ)]),some (.blk [.int .i64 ((s.at_:Nat):Int)]),some (.row 3 1 (ps.length+1) 0 (Ec (ps++[((s.at_:Nat):Int)])))])] A rfl rfl rfl rfl (by kernel_rfl) ⟨trivial,⟨OO (i:=2) hX (ps.length+1) (Ec (ps++[((s.at_:Nat):Int)])) rfl rfl rfl rfl (by omega) rfl (fun k hk=>by show [SV.int .i64 _]=[SV.int .i64 _];rw [BX hk]) (by show [SV.int .i64 _]=_;rw [EH]) (fun z=>⟨_,rfl,rfl⟩),⟨trivial,trivial⟩⟩⟩ trivial fun A=>N9 14 A rfl (Aj (by omega)<|Ah) fun A=>N9 6 A rfl rfl fun A=>have A:=A.thSay 1 7 (r':=IC s.r (Ap l s) old) (at':=(((s.at_+1:Nat):Nat):Int)) (m':=(ps++[((s.at_:Nat):Int)]).length) rfl rfl (by unfold IC;rw [if_neg (α8 Ll)]) (by omega) (by rw [α4];rfl) rfl;Hw (J:=nG l ao cp s L pb ps old) hX (B.trans A) rfl rfl rfl rfl ⟨JQ (z:=⟨s.at_+1,IC s.r (Ap l s) old⟩) (Sy.giveT (B.trans A) 1 7 (A.at_pre SL) rfl rfl rfl rfl) rfl (by rw [α4];show ps.length+1≤s.at_+1;omega),(by simp only [BA,jV,YE,YF,Nr,VO,if_neg (α8 h1),if_neg (α8 GL),if_neg Fv,if_neg No,if_neg (α8 Ll)])⟩)))))
end Go.Proofs.YtbbdanhpphlbpaaGreatDoor.Mc
namespace Go.Proofs.YtbbdanhpphlbpaaGreatDoor.Mc
open Go.RowKit
theorem K1 {L:Loc}{cs:List SV}{pb:Option (Nat×Nat)}{ps:List Int}{w w':World}{ks:List Nat}(h:Gt L cs pb ps w)(m:DO ks w w')(hk:∀b,(L.b::Hj pb).contains b=true→ks.contains b=false):Gt L cs pb ps w':=by
 obtain⟨vs,h1,h2⟩:=h.blk
 refine⟨⟨vs,h1,h2.mix m (hk _ (by simp))⟩,?_,h.ne⟩
 cases pb with
 |none=>exact h.path
 | some q=>
  obtain⟨g1,xs,g2,g3⟩:Cb 3 1 ps.length (Ec ps) q.1 q.2 w:=h.path
  exact⟨g1,xs,g2,Mj g3 m (fun k hv=>by
   have:k=q.1:=by simpa [Value.ownBlock]using hv.symm
   subst this
   exact hk _ (by simp [Hj]))⟩
theorem HO {L:Loc}{cs:List SV}{pb:Option (Nat×Nat)}{ps:List Int}{w:World}(h:Gt L cs pb ps w):∀b,(L.b::Hj pb).contains b=true→b<w.heap.size:=fun b hb=>by
 obtain⟨vs,h1,h2⟩:=h.blk
 cases pb with
 |none=>
  have:b=L.b:=by simpa [Hj]using hb
  subst this;exact h2.lt
 |some q=>
  obtain⟨g1,xs,g2,g3⟩:Cb 3 1 ps.length (Ec ps) q.1 q.2 w:=h.path
  have:b=L.b∨b=q.1:=by simpa [Hj]using hb
  rcases this with rfl|rfl
  ·exact h2.lt
  ·exact(Mg g3 _ (by simp [Value.ownBlock])).2
structure Tr where (L:Loc) (pb:Option (Nat×Nat)) (ps:List Int)
def Tr.z:Tr:=⟨⟨0,[],[],0⟩,none,[]⟩
abbrev Tr.bl (t:Tr):List Nat:=t.L.b::Hj t.pb
structure JT (cs:List Ak)(ts:List Th)(tr:List Tr)(N:Nat)(w:World)(ks:List Nat):Prop where
 out:∀k,k<tr.length→Gt (tr.getD k Tr.z).L (Ss (.sla (cs.getD k Ak.z).ao (cs.getD k Ak.z).l.length (cs.getD k Ak.z).cp) (ts.getD k Th.z).r (((ts.getD k Th.z).at_:Nat):Int)) (tr.getD k Tr.z).pb (tr.getD k Tr.z).ps w
 len:∀k,k<tr.length→(tr.getD k Tr.z).ps.length≤(ts.getD k Th.z).at_
 lo:∀k,k<tr.length→∀b,(tr.getD k Tr.z).bl.contains b=true→N≤b∧ks.contains b=false
 ap:∀j k,j<tr.length→k<tr.length→j≠k→∀b,(tr.getD j Tr.z).bl.contains b=true→(tr.getD k Tr.z).bl.contains b=false
theorem JT.ok {cs:List Ak}{ts:List Th}{tr:List Tr}{N:Nat}:Ef.OK (JT cs ts tr N):=fun w ks w' ks' h m hk=>by
 have hm:∀k,k<tr.length→∀b,(tr.getD k Tr.z).bl.contains b=true→ks.contains b=false:=fun k hk b hb=>(h.lo k hk b hb).2
 refine⟨fun k EC=>K1 (h.out k EC) m (hm k EC),h.len,fun k EC b hb=>⟨(h.lo k EC b hb).1,?_⟩,h.ap⟩
 cases hz:ks'.contains b with
 |false=>rfl
 |true=>
  rcases hk b hz with q|q
  ·rw [hm k EC b hb]at q;cases q
  ·have:=HO (h.out k EC) b hb;omega
theorem JT.set {cs:List Ak}{ts:List Th}{tr:List Tr}{N j:Nat}{w w':World}{ks:List Nat}{s':Th}{x:SV}(h:JT cs ts tr N w ks)(hj:j<tr.length)(PF:tr.length≤ts.length)(hN:N≤w.heap.size)(Tq:∀b,ks.contains b=true→b<w.heap.size)(m:DO (tr.getD j Tr.z).bl w w')(hJ:mX (tr.getD j Tr.z).L (cs.getD j Ak.z).l (cs.getD j Ak.z).ao (cs.getD j Ak.z).cp s' (tr.getD j Tr.z).pb x w w'):
  ∃pb ps,JT cs (ts.set j s') (tr.set j ⟨(tr.getD j Tr.z).L,pb,ps⟩) N w' ks∧∀b,((tr.getD j Tr.z).L.b::Hj pb).contains b=true→(tr.getD j Tr.z).bl.contains b=true∨w.heap.size≤b:=by
 obtain⟨pb,ps,h1,h2,h3⟩:=hJ
 have lg:∀{α:Type} (l:List α) (x d:α),j<l.length→(l.set j x).getD j d=x:=fun l x d hl=>by simp [List.getD,hl]
 have ln:∀{α:Type} (l:List α) (x d:α) (k:Nat),k≠j→(l.set j x).getD k d=l.getD k d:=fun l x d k hk=>by simp [List.getD,γ0 (ζ1 hk)]
 have hb:∀b,((tr.getD j Tr.z).L.b::Hj pb).contains b=true→(tr.getD j Tr.z).bl.contains b=true∨w.heap.size≤b:=fun b hb=>by
  rw [ζ3,β9]at hb
  rcases hb with hb|hb
  ·exact .inl (by rw [ζ3,hb];rfl)
  ·exact h3 b hb
 refine⟨pb,ps,⟨?_,?_,?_,?_⟩,hb⟩
 ·intro k hk
  rw [θ7]at hk
  by_cases e:k=j
  ·subst e;rw [lg _ _ _ hk,lg _ _ _ (by omega)];exact h1
  ·rw [ln _ _ _ k e,ln _ _ _ k e]
   exact K1 (h.out k hk) m (h.ap k j hk hj e)
 ·intro k hk
  rw [θ7]at hk
  by_cases e:k=j
  ·subst e;rw [lg _ _ _ hk,lg _ _ _ (by omega)];exact h2
  ·rw [ln _ _ _ k e,ln _ _ _ k e];exact h.len k hk
 ·intro k hk b Jo
  rw [θ7]at hk
  by_cases e:k=j
  ·subst e
   rw [lg _ _ _ hk]at Jo
   rcases hb b Jo with q|q
   ·exact h.lo k hk b q
   ·refine⟨by omega,?_⟩
    cases hz:ks.contains b with
    |false=>rfl
    |true=>have:=Tq b hz;omega
  ·rw [ln _ _ _ k e]at Jo;exact h.lo k hk b Jo
 ·intro i k hi hk ZD b Jo
  rw [θ7]at hi hk
  by_cases e:i=j
  ·subst e
   rw [lg _ _ _ hi]at Jo
   rw [ln _ _ _ k (ζ1 ZD)]
   rcases hb b Jo with q|q
   ·exact h.ap i k hi hk ZD b q
   ·cases hz:(tr.getD k Tr.z).bl.contains b with
    |false=>rfl
    |true=>have:=HO (h.out k hk) b hz;omega
  ·rw [ln _ _ _ i e]at Jo
   by_cases e2:k=j
   ·subst e2
    rw [lg _ _ _ hk]
    cases hz:((tr.getD k Tr.z).L.b::Hj pb).contains b with
    |false=>rfl
    |true=>
     rcases hb b hz with q|q
     ·have:=h.ap i k hi hk ZD b Jo;rw [q]at this;cases this
     ·have:=HO (h.out i hi) b Jo;omega
   ·rw [ln _ _ _ k e2];exact h.ap i k hi hk ZD b Jo
theorem JT.add {cs:List Ak}{ts:List Th}{tr:List Tr}{N:Nat}{w:World}{ks:List Nat}{t:Tr}(h:JT cs ts tr N w ks)(ho:Gt t.L (Ss (.sla (cs.getD tr.length Ak.z).ao (cs.getD tr.length Ak.z).l.length (cs.getD tr.length Ak.z).cp) (ts.getD tr.length Th.z).r (((ts.getD tr.length Th.z).at_:Nat):Int)) t.pb t.ps w)(hl:t.ps.length≤(ts.getD tr.length Th.z).at_)(hb:∀b,t.bl.contains b=true→N≤b∧ks.contains b=false)(ha:∀k,k<tr.length→∀b,(tr.getD k Tr.z).bl.contains b=true→t.bl.contains b=false):JT cs ts (tr++[t]) N w ks:=by
 have gl:∀k,k<tr.length→(tr++[t]).getD k Tr.z=tr.getD k Tr.z:=fun k hk=>by simp [List.getD,α1 hk]
 have gn:(tr++[t]).getD tr.length Tr.z=t:=by simp [List.getD]
 have cse:∀k,k<(tr++[t]).length→k<tr.length∨k=tr.length:=fun k hk=>by simp at hk;omega
 refine⟨fun k hk=>?_,fun k hk=>?_,fun k hk=>?_,fun j k hj hk HY b Jo=>?_⟩
 ·rcases cse k hk with q|rfl
  ·rw [gl k q];exact h.out k q
  ·rw [gn];exact ho
 ·rcases cse k hk with q|rfl
  ·rw [gl k q];exact h.len k q
  ·rw [gn];exact hl
 ·rcases cse k hk with q|rfl
  ·rw [gl k q];exact h.lo k q
  ·rw [gn];exact hb
 ·rcases cse j hj with q|rfl
  ·rw [gl j q]at Jo
   rcases cse k hk with q2|rfl
   ·rw [gl k q2];exact h.ap j k q q2 HY b Jo
   ·rw [gn];exact ha j q b Jo
  ·rw [gn]at Jo
   rcases cse k hk with q2|rfl
   ·rw [gl k q2]
    cases hz:(tr.getD k Tr.z).bl.contains b with
    |false=>rfl
    |true=>rw [ha k q2 b hz]at Jo;cases Jo
   ·exact absurd rfl HY
theorem JT.i0 {cs:List Ak}{ts:List Th}{N:Nat}{w:World}{ks:List Nat}:JT cs ts [] N w ks:=⟨fun k hk=>(by cases hk),fun k hk=>(by cases hk),fun k hk=>(by cases hk),fun j k hj=>(by cases hj)⟩
def YH (H:Hp):Bool:=H.all fun x=>match x with|some e=>e.mut|none=>true
theorem Ih {H:Hp}{G:Gr}{w:World}(h:Mem H G w){b:Nat}(hb:(keys H G).contains b=true):b<w.heap.size:=by
 obtain⟨i,e,L,h1,h2,h3,h4⟩:=mem_keys.1 hb
 have:=h.ent i e h1
 rw [h3]at this
 rw [←h4];exact BK.lt this (Bf h2)
def Rk (H:Hp)(G:Gr)(N:Nat):Prop:=∀(i:Nat) (e:Bo) (L:Loc),H[i]?=some (some e)→e.mut=false→G[i]?=some (some L)→¬e.empty→L.b<N
theorem yL {H0 H:Hp}{G0 G:Gr}{w0:World}(k:Nat)(hM:Mem H0 G0 w0)(hp:∃F,G=G0++F)(ht:H.take k=H0.take k)(hm:YH (H.drop k)=true):Rk H G w0.heap.size:=fun i e L h1 h2 h3 h4=>by
 by_cases hi:i<k
 ·have h5:H0[i]?=some (some e):=by
   have:(H.take k)[i]?=(H0.take k)[i]?:=by rw [ht]
   rw [γ1 hi,γ1 hi]at this
   rw [←this];exact h1
  obtain⟨F,rfl⟩:=hp
  rw [α1 (by rw [←hM.len];exact(α0.1 h5).1)]at h3
  have h6:=hM.ent i e h5
  rw [h3]at h6
  exact BK.lt h6 h4
 ·exfalso
  have h5:(H.drop k)[i - k]?=some (some e):=by rw [η1,show k+(i - k)=i by omega];exact h1
  have:=δ7.1 hm _ (θ0 h5)
  simp only at this;rw [h2]at this;cases this
section
variable {cs cs2:List Ak}{ts:List Th}{tr z:List Tr}{N nn:Nat}{w w':World}{ks:List Nat}
theorem JT.off {H:Hp}{G:Gr}(h:JT cs ts tr N w (keys H G))(Bn:Rk H G N){j:Nat}(hj:j<tr.length):Kr H G (tr.getD j Tr.z).bl:=fun i e L q1 q2 q3=>by
 cases hz:(tr.getD j Tr.z).bl.contains L.b with
 |false=>rfl
 |true=>
  obtain⟨h1,h2⟩:=h.lo j hj _ hz
  cases hm:e.mut with
  |true=>rw [mem_keys.2 ⟨i,e,L,q1,hm,q2,rfl⟩]at h2;cases h2
  |false=>have:=Bn i e L q1 hm q2 q3;omega
theorem JT.mixo (h:JT cs ts tr N w ks){bs:List Nat}(m:DO bs w w')(hd:∀k,k<tr.length→∀b,(tr.getD k Tr.z).bl.contains b=true→bs.contains b=false):JT cs ts tr N w' ks:=⟨fun k hk=>K1 (h.out k hk) m (hd k hk),h.len,h.lo,h.ap⟩
theorem JT.get (h:JT cs ts tr N w ks){j:Nat}(hj:j<tr.length){s:Th}(e:ts.getD j Th.z=s){L:Loc}(eL:(tr.getD j Tr.z).L=L):Gt L (Ss (.sla (cs.getD j Ak.z).ao (cs.getD j Ak.z).l.length (cs.getD j Ak.z).cp) s.r ((s.at_:Nat):Int)) (tr.getD j Tr.z).pb (tr.getD j Tr.z).ps w:=by
 subst e;subst eL;exact h.out j hj
theorem JT.look2 (h:JT cs ts tr N w ks)(qS:An cs2 w ks)(hc:An cs w ks)(hn:tr.length=nn)(hl:nn≤cs.length)(heq:∀k,k<nn→(cs2.getD k Ak.z).l=(cs.getD k Ak.z).l)(hL:∀k,k<nn→(tr.getD k Tr.z).L=(z.getD k Tr.z).L):mY cs2 ts nn (fun k=>(z.getD k Tr.z).L.b) (fun k=>(z.getD k Tr.z).L.pre.length) (fun k=>(cs.getD k Ak.z).ao) (fun k=>(cs.getD k Ak.z).cp) (fun k=>PH (tr.getD k Tr.z).pb (tr.getD k Tr.z).ps.length) w ks:=
 ⟨qS,fun k hk=>by
  rw [heq k hk]
  have h1:=(h.out k (by omega)).lst (h.lo k (by omega) _ (by simp)).2
  rw [hL k hk]at h1
  exact⟨h1,hc.at (by omega)⟩⟩
theorem VQ (hC:An cs w ks){n:Nat}{T:List (Nat×SV)}{H:Hp}{G0 G:Gr}{a:Act}(A:Sy n T H ks G0 w G a w'){k:Nat}(hk:k<cs.length){bs:List Nat}(hb:∀b,bs.contains b=true→w.heap.size≤b):F9 (cs.getD k Ak.z).ao (cs.getD k Ak.z).l w' bs:=
 At.ok _ _ _ _ (hC.at hk) A.mix fun b h=>.inr (hb b h)
end
theorem Z3 {P:Program} {n:Nat} {ks:List Nat} {G0:Gr} {w0:World} {T:List (Nat×SV)} {H:Hp} {G:Gr} {a:Act} {w:World} {Q:Prop} (i t:Nat) {cs:List SV} {vs:List Value} {H':Hp} (A:Sy n T H ks G0 w0 G a w) (hi:lg H i=some (some (.blk cs))) (hc:Al [] cs=some vs) (ht:look T t=some (.ptr i 0)) (hH:Cd H i none=H')
  (k:∀L:Loc,Sy n ((t,GP L.b L.pre.length)::T) H' ks G0 w0 G a w→EV w L.b (L.pre++vs++L.post).toArray L.t→(keys H' G).contains L.b=false→Kr H' G [L.b]→(ks.contains L.b=true∨w0.heap.size≤L.b)→G[i]?=some (some L)→Q):Q:=by
 subst hH
 rw [BI]at hi
 obtain⟨L,us,p1,p2,p3⟩:=A.mem.ent i _ hi
 have Fq:G[i]?=some (some L):=by
  cases hz:G[i]? with
  |none=>rw [hz]at p1;cases p1
  |some p=>rw [hz]at p1;simp only [γ8]at p1;rw [p1]
 have hu:us=vs:=by
  have:Al G cs=some vs:=by simpa using BT G cs hc
  rw [this]at p2;exact(β6 p2).symm
 subst hu
 have hold:∀(j:Nat) (e:Bo),(Cd H i none)[j]?=some (some e)→j≠i∧H[j]?=some (some e):=by
  intro j e h
  rw [BJ]at h
  by_cases hj:j=i
  ·subst hj;rw [γ7 (α0.1 hi).1]at h;cases h
  ·rw [γ0 (ζ1 hj)]at h;exact⟨hj,h⟩
 have Dk:Kr (Cd H i none) G [L.b]:=fun j e M q1 q2 q3=>by
  obtain⟨k1,k2⟩:=hold j e q1
  have:=A.mem.sep i j _ e L M (ζ1 k1) hi k2 rfl Fq q2 q3
  simp [ζ1 this]
 refine k L ((A.hide i).slotEq t ht (by unfold den;rw [Fq];rfl)) p3 ?_ Dk (A.own i _ L hi rfl Fq) Fq
 cases hz:(keys (Cd H i none) G).contains L.b with
 |false=>rfl
 |true=>
  obtain⟨j,e,M,g1,g2,g3,g4⟩:=mem_keys.1 hz
  have:=Dk j e M g1 g3 (Bf g2)
  rw [g4]at this
  simp at this
theorem VR {G:Gr}{i:Nat}{L:Loc}(h:G[i]?=some (some L)):Al G [GP L.b L.pre.length]=Al G [.ptr i 0]:=by
 unfold Al Al den;rw [h];rfl
theorem VS {H:Hp}{G F:Gr}{r:Hp}(hl:H.length=G.length){b:Nat}(h:(keys H G).contains b=true):(keys (H++r) (G++F)).contains b=true:=by
 obtain⟨i,e,L,h1,h2,h3,h4⟩:=mem_keys.1 h
 have hi:=(α0.1 h1).1
 exact mem_keys.2 ⟨i,e,L,by rw [α1 hi];exact h1,h2,by rw [α1 (by omega)];exact h3,h4⟩
section
variable {n:Nat}{ks:List Nat}{G0:Gr}{w0:World}{T:List (Nat×SV)}{H:Hp}{G:Gr}{a:Act}{w:World}{ops:Array Oper}{o:Oper}{rest:List Oper}{Q:Exit→Act→World→Prop}{K:List Fr}{cs cs2:List Ak}{ts:List Th}{tr z:List Tr}{nn:Nat}
theorem nH {nB:Nat} {TB:List (Nat×SV)} {Gr_:Gr} {aB:Act} {wr:World} {rg:Nat→Rg} {cells:List SV} (t:Nat) (B:Sy nB TB H ks G0 w0 Gr_ aB wr) (A:Sy n T (H++[some (.blk cells)]) (keys H Gr_) Gr_ wr G a w) (hz:JT cs (BU cs rg) z w0.heap.size wr (keys H Gr_)) (hk:z.length<cs.length) (hC:An cs w0 ks) (hc:Fs (cs.getD z.length Ak.z).l) (Bn:Rk (H++[none]) G w0.heap.size)
  (hce:cells=Ss (.sla (cs.getD z.length Ak.z).ao (cs.getD z.length Ak.z).l.length (cs.getD z.length Ak.z).cp) (rg z.length) 0++[.sla none 0 0]) (ht:look T t=some (.ptr H.length 0))
  (h1:∀L:Loc,B6 n ops ((t,GP L.b L.pre.length)::T) o=some (54,[GP L.b L.pre.length]))
  (k:∀L pb ps {a' w' x},JT cs (BU cs rg) (z++[⟨L,pb,ps⟩]) w0.heap.size w' (keys (H++[none]) G)→G[H.length]?=some (some L)→Sy n (Bh ((t,GP L.b L.pre.length)::T) o.dst x) (H++[none]) ks G0 w0 G a' w'→Goal Tryz.prog Q K (.ops ops rest) a' w'):Goal Tryz.prog Q K (.ops ops (o::rest)) a w:=by
 subst hce
 have hlB:=B.mem.len
 have LS:Cd (H++[some (Bo.blk (Ss (.sla (cs.getD z.length Ak.z).ao (cs.getD z.length Ak.z).l.length (cs.getD z.length Ak.z).cp) (rg z.length) 0++[.sla none 0 0]))]) H.length none=H++[none]:=by rw [BJ];simp
 have QW:lg (H++[some (Bo.blk (Ss (.sla (cs.getD z.length Ak.z).ao (cs.getD z.length Ak.z).l.length (cs.getD z.length Ak.z).cp) (rg z.length) 0++[.sla none 0 0]))]) H.length=some (some (.blk (Ss (.sla (cs.getD z.length Ak.z).ao (cs.getD z.length Ak.z).l.length (cs.getD z.length Ak.z).cp) (rg z.length) 0++[.sla none 0 0]))):=by rw [BI];simp
 refine Z3 (P:=Tryz.prog) H.length t (vs:=[.slice (cs.getD z.length Ak.z).ao (cs.getD z.length Ak.z).l.length (cs.getD z.length Ak.z).cp,.int .i64 (rg z.length 0),.int .i64 (rg z.length 1),.int .i64 (rg z.length 2),.int .i64 (rg z.length 3),.int .i64 (rg z.length 4),.int .i64 (rg z.length 5),.int .i64 (rg z.length 6),.int .i64 (rg z.length 7),.int .i64 0,.slice none 0 0]) A QW rfl ht LS fun L A2 hbk sR Dk EA Fq=>?_
 have sS:(keys H Gr_).contains L.b=false:=by
  cases hq:(keys H Gr_).contains L.b with
  |false=>rfl
  |true=>
   obtain⟨F,hF⟩:=A2.pre
   have:=VS (r:=[none]) (F:=F) hlB hq
   rw [←hF,sR]at this;cases this
 have hwr:wr.heap.size≤L.b:=EA.elim (fun h=>by rw [sS]at h;cases h) id
 have hN:=B.mix.size
 have sJ:=JT.ok.now A2 hz
 have ZN:∀k,k<z.length→∀b,(z.getD k Tr.z).bl.contains b=true→[L.b].contains b=false:=fun k EC b hb=>by
  have:=HO (hz.out k EC) b hb
  have:b≠L.b:=by omega
  simp [this]
 have Dl:∀b,[L.b].contains b=true→w0.heap.size≤b:=fun b hb=>by
  have:b=L.b:=by simpa using hb
  omega
 have A3:=B.trans A2
 refine L7 [] (Rj (cs.getD z.length Ak.z).l (cs.getD z.length Ak.z).ao (cs.getD z.length Ak.z).cp ⟨0,rg z.length⟩ L none [] hc (β8 _) (β8 _)) A3 ⟨⟨⟨_,rfl,hbk⟩,rfl,fun q h=>by cases h⟩,VQ hC A3 hk Dl⟩ Dk (fun b hb=>.inr (Dl b hb)) (h1 L) rfl rfl rfl rfl fun{x a' w'} hm hJ A'=>?_
 obtain⟨pb,ps,j1,j2,j3⟩:=hJ
 have Nu:=sJ.mixo hm ZN
 refine k L pb ps (Nu.add (t:=⟨L,pb,ps⟩) ?_ ?_ (fun b hb=>?_) (fun q hq b hb=>?_)) Fq A'
 ·show Gt L _ pb ps w'
  rw [Ic hk];exact j1
 ·rw [Ic hk];exact j2
 ·rw [ζ3,β9]at hb
  rcases hb with hb|hb
  ·have:b=L.b:=by simpa using hb
   subst this
   exact⟨by omega,sR⟩
  ·rcases j3 b hb with q|q
   ·have:b=L.b:=by simpa [Hj]using q
    subst this
    exact⟨by omega,sR⟩
   ·have hw:=A3.mix.size
    refine⟨by omega,?_⟩
    cases hq:(keys (H++[none]) G).contains b with
    |false=>rfl
    |true=>have:=Ih A2.mem hq;omega
 ·have hbo:=HO (hz.out q hq) b hb
  have T3:=HO (sJ.out q hq) b hb
  cases hx:(Tr.mk L pb ps).bl.contains b with
  |false=>rfl
  | true=>
   rw [ζ3,β9]at hx
   rcases hx with hx|hx
   ·have:b=L.b:=by simpa using hx
    omega
   ·rcases j3 b hx with q|q
    ·have:b=L.b:=by simpa [Hj]using q
     omega
    ·omega
end
theorem HP {cs2:List Ak}{ts:List Th}{j old:Int}{l:List In}(he:(cs2.getD j.toNat Ak.z).l=l)(h:(ts.getD j.toNat Th.z).at_<l.length):(ts.set j.toNat ⟨(ts.getD j.toNat Th.z).at_+1,IC (ts.getD j.toNat Th.z).r (l.getD (((ts.getD j.toNat Th.z).at_:Nat):Int).toNat In.z) old⟩).set j.toNat (FQ l ⟨(ts.getD j.toNat Th.z).at_+1,IC (ts.getD j.toNat Th.z).r (l.getD (((ts.getD j.toNat Th.z).at_:Nat):Int).toNat In.z) old⟩)=CR cs2 ts j old:=by
 unfold CR Sm
 rw [he,if_neg (by omega),List.set_set];rfl
theorem JT.as {cs:List Ak}{ts ts':List Th}{tr:List Tr}{N:Nat}{w:World}{ks:List Nat}(h:JT cs ts tr N w ks)(e:ts=ts'):JT cs ts' tr N w ks:=e▸h
theorem JT.mv {cs:List Ak}{ts:List Th}{tr:List Tr}{N:Nat}{w:World}{H H' l:Hp}{G:Gr}{m:List Nat}(h:JT cs ts tr N w (keys H G))(hlen:H.length=G.length)(h1:DA H m=some l)(h2:DE m H'=some l):JT cs ts tr N w (keys H' (BW m G)):=JT.ok _ _ _ _ h (DO.refl _ _) (fun b hb=>.inl (CB hlen h1 h2 b hb))
theorem JT.take {cs:List Ak}{ts:List Th}{tr:List Tr}{N:Nat}{w:World}{H:Hp}{G:Gr}(k:Nat)(h:JT cs ts tr N w (keys H G)):JT cs ts tr N w (keys (H.take k) (G.take k)):=JT.ok _ _ _ _ h (DO.refl _ _) (fun b hb=>.inl (by
 obtain⟨i,e,L,h1,h2,h3,h4⟩:=mem_keys.1 hb
 rw [σ5]at h1 h3
 split at h1
 ·next hi=>rw [if_pos hi]at h3;exact mem_keys.2 ⟨i,e,L,h1,h2,h3,h4⟩
 ·cases h1))
theorem VT {cs Qi:List Ak}{rg:Nat→Rg}(hl:Qi.length=cs.length)(he:∀k,k<cs.length→(Qi.getD k Ak.z).l=(cs.getD k Ak.z).l):BU cs rg=BU Qi rg:=by
 unfold BU;rw [hl];apply ρ9;intro k hk;rw [he k (ε8.1 hk)]
theorem trA {z:List Tr}{t:Tr}{k:Nat}(h:k<z.length):(z++[t]).getD k Tr.z=z.getD k Tr.z:=by simp [List.getD,α1 h]
theorem trN {z:List Tr}{t:Tr}:(z++[t]).getD z.length Tr.z=t:=by simp [List.getD]
theorem eA {α:Type}{l:List α}{j k:Nat}{x d:α}(h:k≠j):(l.set j x).getD k d=l.getD k d:=by simp [List.getD,γ0 (ζ1 h)]
theorem eB {α:Type}{l:List α}{j:Nat}{x d:α}(h:j<l.length):(l.set j x).getD j d=x:=by simp [List.getD,h]
def En (tr:List Tr):List Nat:=tr.flatMap Tr.bl
theorem Di {tr:List Tr}{b:Nat}:(En tr).contains b=true↔∃k,k<tr.length∧(tr.getD k Tr.z).bl.contains b=true:=by
 unfold En
 rw [ε5,List.mem_flatMap]
 constructor
 ·rintro ⟨t,h1,h2⟩
  obtain⟨k,hk,rfl⟩:=ρ4.1 h1
  refine⟨k,hk,?_⟩
  rw [α6,β0 hk,γ8]
  exact ε5.2 h2
 ·rintro ⟨k,hk,h⟩
  rw [α6,β0 hk,γ8]at h
  exact⟨tr[k],η9 hk,ε5.1 h⟩
section
variable {cs cs2:List Ak}{ts:List Th}{tr z:List Tr}{N nn:Nat}{w w':World}{ks:List Nat}
theorem JT.one (jt:JT cs ts tr N w ks)(ln:tr.length=nn)(hl:∀k,k<nn→(tr.getD k Tr.z).L=(z.getD k Tr.z).L){j:Nat}(hj:j<nn)(PF:ts.length=nn)(hN:N≤w.heap.size)(Tq:∀b,ks.contains b=true→b<w.heap.size){s':Th}{x:SV}(m:DO (tr.getD j Tr.z).bl w w')(hJ:mX (tr.getD j Tr.z).L (cs.getD j Ak.z).l (cs.getD j Ak.z).ao (cs.getD j Ak.z).cp s' (tr.getD j Tr.z).pb x w w'):
  ∃tr',JT cs (ts.set j s') tr' N w' ks∧tr'.length=nn∧(∀k,k<nn→(tr'.getD k Tr.z).L=(z.getD k Tr.z).L)∧∀b,(En tr').contains b=true→(En tr).contains b=true∨w.heap.size≤b:=by
 obtain⟨pb,ps,h,hb⟩:=jt.set (by omega) (by omega) hN Tq m hJ
 refine⟨_,h,by rw [θ7];exact ln,fun k hk=>?_,fun b Jo=>?_⟩
 ·by_cases e:k=j
  ·subst e;rw [Jc (by omega)];exact hl k hk
  ·rw [RV e];exact hl k hk
 ·obtain⟨k,hk,h2⟩:=Di.1 Jo
  rw [θ7]at hk
  by_cases e:k=j
  ·subst e
   rw [eB hk]at h2
   rcases hb b h2 with q|q
   ·exact .inl (Di.2 ⟨k,hk,q⟩)
   ·exact .inr q
  ·rw [eA e]at h2
   exact .inl (Di.2 ⟨k,hk,h2⟩)
end
section
variable {n:Nat}{ks:List Nat}{G0:Gr}{w0:World}{T:List (Nat×SV)}{H:Hp}{G:Gr}{a:Act}{w:World}{ops:Array Oper}{o:Oper}{rest:List Oper}{Q:Exit→Act→World→Prop}{K:List Fr}{cs cs2:List Ak}{ts:List Th}{tr z:List Tr}{nn N:Nat}
theorem nI (A:Sy n T H ks G0 w0 G a w)(jt:JT cs ts tr N w (keys H G)){j:Nat}(hj:j<tr.length)(hm:YH H=true):Kr H G (tr.getD j Tr.z).bl:=
 cM A (fun b hb=>(jt.lo j hj b hb).2) (fun i e L h1 h2 h3 h4=>by
  have:=δ7.1 hm _ (θ0 h1)
  simp only at this;rw [h2]at this;cases this)
theorem Z4 (A:Sy n T H ks G0 w0 G a w) (hC:An cs w0 ks) (Tq:∀b,(En tr).contains b=true→ks.contains b=true∨w0.heap.size≤b) (jt:JT cs ts tr N w (keys H G)) (hN:N≤w.heap.size) (ln:tr.length=nn) (hl:∀k,k<nn→(tr.getD k Tr.z).L=(z.getD k Tr.z).L) {j:Nat} (hj:j<nn) (PF:ts.length=nn) (Ab:nn≤cs.length) (hm:YH H=true) (hc:Fs (cs.getD j Ak.z).l) (old:Int) {s:Th} (hs:ts.getD j Th.z=s) (Et:s.at_<(cs.getD j Ak.z).l.length)
  (h1:B6 n ops T o=some (64,[GP (z.getD j Tr.z).L.b (z.getD j Tr.z).L.pre.length,.int .i64 old]))
  (k:∀tr' (p:Int) {a' w'},JT cs (ts.set j ⟨s.at_+1,IC s.r ((cs.getD j Ak.z).l.getD (((s.at_:Nat):Int)).toNat In.z) old⟩) tr' N w' (keys H G)→tr'.length=nn→(∀k,k<nn→(tr'.getD k Tr.z).L=(z.getD k Tr.z).L)→(∀b,(En tr').contains b=true→ks.contains b=true∨w0.heap.size≤b)→Sy n (Bh T o.dst (.agg (jV s.r ((cs.getD j Ak.z).l.getD (((s.at_:Nat):Int)).toNat In.z) p ((s.at_:Nat):Int) old))) H ks G0 w0 G a' w'→Goal Tryz.prog Q K (.ops ops rest) a' w'):Goal Tryz.prog Q K (.ops ops (o::rest)) a w:=by
 have SF:j<tr.length:=by omega
 have eL:=hl j hj
 rw [←eL]at h1
 have JY:∀b,(tr.getD j Tr.z).bl.contains b=true→ks.contains b=true∨w0.heap.size≤b:=fun b hb=>Tq b (Di.2 ⟨j,SF,hb⟩)
 have EO:F9 (cs.getD j Ak.z).ao (cs.getD j Ak.z).l w (tr.getD j Tr.z).bl:=At.ok _ _ _ _ (hC.at (by omega)) A.mix JY
 refine L7 [] (YG (cs.getD j Ak.z).l (cs.getD j Ak.z).ao (cs.getD j Ak.z).cp s (tr.getD j Tr.z).L (tr.getD j Tr.z).pb (tr.getD j Tr.z).ps old hc Et (by have:=jt.len j SF;rw [hs]at this;exact this)) A ⟨jt.get SF hs rfl,EO⟩ (nI A jt SF hm) JY h1 rfl rfl rfl rfl fun{x a' w'} T5 hJ A'=>?_
 obtain⟨hJ1,rfl⟩:=hJ
 obtain⟨tr',g1,g2,g3,g4⟩:=jt.one ln hl hj PF hN (fun b hb=>Ih A.mem hb) T5 hJ1
 exact k tr' _ g1 g2 g3 (fun b hb=>(g4 b hb).elim (Tq b) (fun q=>.inr (β4 A.mix.size q))) A'
theorem NO (A:Sy n T H ks G0 w0 G a w) (hC:An cs w0 ks) (Tq:∀b,(En tr).contains b=true→ks.contains b=true∨w0.heap.size≤b) (jt:JT cs ts tr N w (keys H G)) (hN:N≤w.heap.size) (ln:tr.length=nn) (hl:∀k,k<nn→(tr.getD k Tr.z).L=(z.getD k Tr.z).L) {j:Nat} (hj:j<nn) (PF:ts.length=nn) (Ab:nn≤cs.length) (hm:YH H=true) (hc:Fs (cs.getD j Ak.z).l) {s:Th} (hs:ts.getD j Th.z=s) (Et:s.at_≤(cs.getD j Ak.z).l.length)
  (h1:B6 n ops T o=some (54,[GP (z.getD j Tr.z).L.b (z.getD j Tr.z).L.pre.length]))
  (k:∀tr' {a' w' x},JT cs (ts.set j (FQ (cs.getD j Ak.z).l s)) tr' N w' (keys H G)→tr'.length=nn→(∀k,k<nn→(tr'.getD k Tr.z).L=(z.getD k Tr.z).L)→(∀b,(En tr').contains b=true→ks.contains b=true∨w0.heap.size≤b)→Sy n (Bh T o.dst x) H ks G0 w0 G a' w'→Goal Tryz.prog Q K (.ops ops rest) a' w'):Goal Tryz.prog Q K (.ops ops (o::rest)) a w:=by
 have SF:j<tr.length:=by omega
 have eL:=hl j hj
 rw [←eL]at h1
 have JY:∀b,(tr.getD j Tr.z).bl.contains b=true→ks.contains b=true∨w0.heap.size≤b:=fun b hb=>Tq b (Di.2 ⟨j,SF,hb⟩)
 have EO:F9 (cs.getD j Ak.z).ao (cs.getD j Ak.z).l w (tr.getD j Tr.z).bl:=At.ok _ _ _ _ (hC.at (by omega)) A.mix JY
 refine L7 [] (Rj (cs.getD j Ak.z).l (cs.getD j Ak.z).ao (cs.getD j Ak.z).cp s (tr.getD j Tr.z).L (tr.getD j Tr.z).pb (tr.getD j Tr.z).ps hc Et (by have:=jt.len j SF;rw [hs]at this;exact this)) A ⟨jt.get SF hs rfl,EO⟩ (nI A jt SF hm) JY h1 rfl rfl rfl rfl fun{x a' w'} T5 hJ A'=>?_
 obtain⟨tr',g1,g2,g3,g4⟩:=jt.one ln hl hj PF hN (fun b hb=>Ih A.mem hb) T5 hJ
 exact k tr' g1 g2 g3 (fun b hb=>(g4 b hb).elim (Tq b) (fun q=>.inr (β4 A.mix.size q))) A'
end
end Go.Proofs.YtbbdanhpphlbpaaGreatDoor.Mc
namespace Go.Proofs.YtbbdanhpphlbpaaGreatDoor.Mc
open Go.RowKit
def Ok (cs:List Ak)(N:Nat):Ef:=fun w ks=>∀ks',(∀b,ks'.contains b=true→b<N∨ks.contains b=true)→An cs w ks'
theorem uS {ks ks':List Nat}{w w':World}(m:DO ks w w')(h:∀b,ks.contains b=true→ks'.contains b=true):DO ks' w w':=⟨m.os,m.tape,m.output,m.size,fun k hk hc=>m.block k hk (by
 cases hz:ks.contains k with
 |false=>rfl
 |true=>rw [h k hz]at hc;cases hc)⟩
theorem Ok.ok {cs:List Ak}{N:Nat}:Ef.OK (Ok cs N):=fun w ks w' ks' h m hk ks2 h2 c hc=>by
 have h3:=h (ks++ks2.filter (fun b=>decide (b<w.heap.size))) (fun b hb=>by
  rw [ε5,ζ6]at hb
  rcases hb with hb|hb
  ·exact .inr (ε5.2 hb)
  ·rw [ι7,δ5]at hb
   rcases h2 b (ε5.2 hb.1)with q|q
   ·exact .inl q
   ·rcases hk b q with q|q
    ·exact .inr q
    ·omega) c hc
 refine At.ok _ _ _ _ h3 (uS m fun b hb=>by rw [ε5]at hb⊢;exact ρ2 _ hb) fun b hb=>?_
 by_cases hl:b<w.heap.size
 ·refine .inl ?_
  rw [ε5]at hb⊢
  exact π3 _ (ι7.2 ⟨hb,η4 hl⟩)
 ·exact .inr (by omega)
section
variable {P:Program}{n:Nat}{ks:List Nat}{G0:Gr}{w0:World}{T:List (Nat×SV)}{H:Hp}{G:Gr}{a:Act}{w:World}{ops:Array Oper}{o:Oper}{rest:List Oper}{Q:Exit→Act→World→Prop}{K:List Fr}{pre:World→Prop}{i fuel:Nat}{listed:Array Bool}
theorem Fi {f:Nat} {args az:List SV} {cs:List Ak} {rg:Nat→Rg} {t:Nat} {H':List Ak→Hp} (ho:ops[i]?=some o) (hf:PG P f args [] [] pre (U3 cs rg)) (A:Sy n T H ks G0 w0 G a w) (hp:pre w) (h1:B6 n ops T o=some (f,az)) (h2:EB [] args=some az) (hd:o.dst=some t)
  (hH:∀cs':List Ak,H++[some (Ay cs' (BU cs rg) cs.length)]++[some (.blk [.sl H.length cs.length 0])]=H' cs')
  (k:∀cs' {G a w'},BR cs' (BU cs rg) cs.length→(∀k,k<cs.length→(cs'.getD k Ak.z).l=(cs.getD k Ak.z).l)→Ok cs' w0.heap.size w' (keys (H' cs') G)→Sy n ((t,.ptr (H.length+1) 0)::T) (H' cs') ks G0 w0 G a w'→wpAny P .any ops Q fuel (listed.setIfInBounds i true) a w'):wpOp P ops Q i (wpAny P .any ops Q fuel (listed.setIfInBounds i true)) a w:=by
 refine HN [] ho hf A hp Kr.nil (fun b h=>by cases h) h1 h2 rfl rfl rfl fun{x a' w'} hm hJ A'=>?_
 obtain⟨L,bt,cp,cs',rfl,qT,AW,heq,EO⟩:=hJ
 rw [hd]at A'
 obtain⟨G',A2,hk⟩:=A'.takeCore t qT A.mix.size (fun i e M q1 q2 q3=>by
  have:=A.mem.ent i e q1
  rw [q2]at this
  exact BK.lt this q3) (by simp [Bh,look,η7]) (hH cs')
 refine k cs' AW heq (fun ks' EC=>EO ks' fun b hb=>?_) ⟨A2.size,A2.defers,fun q x hx=>A2.get q x ?_,A2.mem,A2.pre,A2.own,A2.mix⟩
 ·rcases EC b hb with q|q
  ·exact .inl (ζ2 q A.mix.size)
  ·exact hk b q
 ·unfold look at hx⊢
  cases hb:Nat.beq t q with
  |true=>rw [hb]at hx;exact hx
  |false=>
   rw [hb]at hx
   show look (Bh T (some t) _) q=some x
   simp only [Bh]
   unfold look
   rw [hb]
   exact hx
end
abbrev nJ (L:Loc)(m:Nat→Int):List Value:=[.pointer (some ⟨L.b,L.pre.length,none⟩),.int .i64 (m 0),.int .i64 (m 1),.int .i64 (m 2)]
def Ol (cs:List Ak)(rg:Nat→Rg)(m:Nat→Int):SV→World→World→Prop:=fun x w w'=>∃(M L:Loc) (bt cp:Nat) (cs':List Ak),x=GP M.b M.pre.length∧w.heap.size≤M.b∧M.b≠L.b∧M.b≠bt∧EV w' M.b (M.pre++(nJ L m)++M.post).toArray M.t∧So 125 10 cs.length (fun zz=>HJ (cs'.getD zz Ak.z) ((BU cs rg).getD zz Th.z)) L bt cp w.heap.size w'∧BR cs' (BU cs rg) cs.length∧(∀k,k<cs.length→(cs'.getD k Ak.z).l=(cs.getD k Ak.z).l)∧∀ks,(∀b,ks.contains b=true→b<w.heap.size∨b=L.b∨b=bt∨b=M.b)→An cs' w' ks
section
variable {n:Nat}{T:List (Nat×SV)}{H:Hp}{G0:Gr}{w0:World}{G:Gr}{a:Act}{w:World}
theorem VU {cs cs':List Ak}{rg:Nat→Rg}{m:Nat→Int}(p i q t:Nat)(A:Sy n T H [] G0 w0 G a w)(hn:0<cs.length)(hp:lg H p=some (some (.blk (Bt i m))))(hi:lg H i=some (some (.blk [.sl q cs.length 0])))(hq:lg H q=some (some (Ay cs' (BU cs rg) cs.length)))(T7:Nat.beq i q=false)(hpi:Nat.beq p i=false)(hpq:Nat.beq p q=false)(ht:look T t=some (.ptr p 0))(AW:BR cs' (BU cs rg) cs.length)(he:∀k,k<cs.length→(cs'.getD k Ak.z).l=(cs.getD k Ak.z).l)(hc:Ok cs' w0.heap.size w (keys H G)):
  ∃M:Loc,Sy n ((t,GP M.b M.pre.length)::T) H [] G0 w0 G a w∧Ol cs rg m (GP M.b M.pre.length) w0 w:=by
 have A0:Sy n ((t+1,.ptr i 0)::((t,.ptr p 0)::T)) H [] G0 w0 G a w→True:=fun _=>trivial
 rw [BI]at hp hi hq
 obtain⟨M,vs,p1,p2,p3⟩:=A.mem.ent p _ hp
 have ZO:G[p]?=some (some M):=by
  cases hz:G[p]? with
  |none=>rw [hz]at p1;cases p1
  |some z=>rw [hz]at p1;simp only [γ8]at p1;rw [p1]
 obtain⟨L,us,q1,q2,q3⟩:=A.mem.ent i _ hi
 have Fq:G[i]?=some (some L):=by
  cases hz:G[i]? with
  |none=>rw [hz]at q1;cases q1
  |some z=>rw [hz]at q1;simp only [γ8]at q1;rw [q1]
 obtain⟨h1,h2,xs,h3,h4⟩:=A.mem.ent q _ hq
 obtain⟨R,_,r1,_⟩:=DP (A.mem.ent q _ hq) (k:=0) hn
 have Np:G[q]?=some (some R):=by
  cases hz:G[q]? with
  |none=>rw [hz]at r1;cases r1
  |some z=>rw [hz]at r1;simp only [γ8]at r1;rw [r1]
 rw [Np]at h2 h4
 have AM:R.pre=[]:=h2 R rfl
 have jE:w.ownsRow 0 125 10 (.slice (some ⟨R.b,0,none⟩) cs.length (0+rm (some R))) cs.length xs:=by
  have:(Option.map (fun L:Loc=>(⟨L.b,L.pre.length,none⟩:Addr)) (some R))=some ⟨R.b,0,none⟩:=by simp [AM]
  rw [←this];exact h4
 have Y9:us=[.slice (some ⟨R.b,0,none⟩) cs.length (0+rm (some R))]:=by
  have:Al G [.sl q cs.length 0]=some [.slice (some ⟨R.b,0,none⟩) cs.length (0+rm (some R))]:=by
   unfold Al den
   rw [Np]
   simp [AM,Al]
  rw [this]at q2;exact(β6 q2).symm
 subst Y9
 have XP:vs=(nJ L m):=by
  have e1:den G (.ptr i 0)=some (.pointer (some ⟨L.b,L.pre.length,none⟩)):=by unfold den;rw [Fq];rfl
  have e2:Al G (Bt i m)=some (nJ L m):=Bb e1 (by simpa using BT (G:=[]) G [.int .i64 (m 0),.int .i64 (m 1),.int .i64 (m 2)] rfl)
  rw [e2]at p2;exact(β6 p2).symm
 subst XP
 have ne:∀{x y:Nat},Nat.beq x y=false→x≠y:=fun h e=>by subst e;rw [η7]at h;cases h
 have own:∀{k:Nat} {en:Bo} {L:Loc},H[k]?=some (some en)→en.mut=true→G[k]?=some (some L)→w0.heap.size≤L.b:=fun h1 h2 h3=>(A.own _ _ _ h1 h2 h3).elim (fun h=>by cases h) id
 refine⟨M,A.slotEq t ht (by unfold den;rw [ZO];rfl),M,L,R.b,0+rm (some R),cs',rfl,own hp rfl ZO,A.mem.sep p i _ _ M L (ne hpi) hp hi rfl ZO Fq (fun h=>h),A.mem.sep p q _ _ M R (ne hpq) hp hq rfl ZO Np (fun h=>h),p3,⟨q3,⟨h1,xs,h3,jE⟩,A.mem.sep i q _ _ L R (ne T7) hi hq rfl Fq Np (fun h=>h),own hi rfl Fq,own hq rfl Np⟩,AW,he,fun ks hk=>hc ks fun b hb=>?_⟩
 rcases hk b hb with z|rfl|rfl|rfl
 ·exact .inl z
 ·exact .inr (mem_keys.2 ⟨i,_,L,hi,rfl,Fq,rfl⟩)
 ·exact .inr (mem_keys.2 ⟨q,_,R,hq,rfl,Np,rfl⟩)
 ·exact .inr (mem_keys.2 ⟨p,_,M,hp,rfl,ZO,rfl⟩)
end
end Go.Proofs.YtbbdanhpphlbpaaGreatDoor.Mc
namespace Go.Proofs.YtbbdanhpphlbpaaGreatDoor.Mc
open Go.RowKit
set_option simprocs false
theorem nK (cs:List Ak)(ao:Option Addr)(cx:Nat)(rg:Nat→Rg)(m:Nat→Int)(x0 x1:Int)(nm:List UInt8)(co:Option Addr)(cn cc:Nat)(GX:M2 cs=0)(hcn:0<cs.length):PG Tryz.prog 10 [.agg (Ey x0 nm (m 0) (m 1) (m 2) rg (.sla ao cs.length cx) x1 (.sla co cn cc))] [] [] (fun w=>At ao 1 cs.length (fun zz=>JL (cs.getD zz Ak.z)) w []∧An cs w []) (Ol cs rg m):=
 Gq (n:=9) (by kernel_rfl) Tryz.func10 rfl rfl rfl (fun i e h=>by rw [κ1]at h;cases h) fun G w a h0 ho hp A=>N9 7 A rfl rfl fun A=>NC 7 By rfl A fun{w2} A=>KE (fun(tail:∀(cs':List Ak) {G1:Gr} {a1:Act} {w1:World},BR cs' (BU cs rg) cs.length→(∀k,k<cs.length→(cs'.getD k Ak.z).l=(cs.getD k Ak.z).l)→Ok cs' w.heap.size w1 (keys [some (.blk (Ey x0 nm (m 0) (m 1) (m 2) rg (.sla ao cs.length cx) x1 (.sla co cn cc))),some (Ay cs' (BU cs rg) cs.length),some (.blk [.sl 1 cs.length 0])] G1)→Sy 9 [(4,.ptr 2 0),(6,.agg [.int .i64 (m 0),.int .i64 (m 1),.int .i64 (m 2)])] [some (.blk (Ey x0 nm (m 0) (m 1) (m 2) rg (.sla ao cs.length cx) x1 (.sla co cn cc))),some (Ay cs' (BU cs rg) cs.length),some (.blk [.sl 1 cs.length 0])] [] G w G1 a1 w1→wpAny Tryz.prog .any _ _ _ _ a1 w1)=>Aw (rs:=[0,2]) (by kernel_rfl) (by decide) (Cc ⟨Da (.agg (Ey x0 nm (m 0) (m 1) (m 2) rg (.sla ao cs.length cx) x1 (.sla co cn cc))) rfl A rfl rfl fun A=>Aw (rs:=[1,2]) (by kernel_rfl) (by decide) (Cc ⟨Fi (H':=fun cs'=>[some (.blk (Ey x0 nm (m 0) (m 1) (m 2) rg (.sla ao cs.length cx) x1 (.sla co cn cc))),some (Ay cs' (BU cs rg) cs.length),some (.blk [.sl 1 cs.length 0])]) rfl (Fh cs ao cx rg x0 x1 (m 0) (m 1) (m 2) nm co cn cc GX) A ⟨At.ok _ _ _ _ hp.1 A.mix (fun b hb=>.inl hb),An.ok _ _ _ _ hp.2 A.mix (fun b hb=>.inl hb)⟩ rfl rfl rfl (fun _=>rfl) fun cs' {_ _ _} AW he EO A=>have B:=A;have A:=B.base;Aw (rs:=[2]) (by kernel_rfl) (by decide) (Cc ⟨Da (.ptr 0 2) rfl A rfl rfl fun A=>Aw (rs:=[3]) (by kernel_rfl) (by decide) (Cc ⟨Da (.agg [.int .i64 (m 0),.int .i64 (m 1),.int .i64 (m 2)]) rfl A rfl rfl fun A=>tail cs' AW he (Ok.ok.now A EO) ((B.trans A).cut [4,6] rfl),
     (DF)⟩),
    (DF)⟩),
   (Cc ⟨Da (.ptr 0 2) rfl A rfl rfl fun A=>Aw (rs:=[1,3]) (by kernel_rfl) (by decide) (Cc ⟨Fi (H':=fun cs'=>[some (.blk (Ey x0 nm (m 0) (m 1) (m 2) rg (.sla ao cs.length cx) x1 (.sla co cn cc))),some (Ay cs' (BU cs rg) cs.length),some (.blk [.sl 1 cs.length 0])]) rfl (Fh cs ao cx rg x0 x1 (m 0) (m 1) (m 2) nm co cn cc GX) A ⟨At.ok _ _ _ _ hp.1 A.mix (fun b hb=>.inl hb),An.ok _ _ _ _ hp.2 A.mix (fun b hb=>.inl hb)⟩ rfl rfl rfl (fun _=>rfl) fun cs' {_ _ _} AW he EO A=>have B:=A;have A:=B.base;Aw (rs:=[3]) (by kernel_rfl) (by decide) (Cc ⟨Da (.agg [.int .i64 (m 0),.int .i64 (m 1),.int .i64 (m 2)]) rfl A rfl rfl fun A=>tail cs' AW he (Ok.ok.now A EO) ((B.trans A).cut [4,6] rfl),
     (DF)⟩),
    (Cc ⟨Da (.agg [.int .i64 (m 0),.int .i64 (m 1),.int .i64 (m 2)]) rfl A rfl rfl fun A=>Aw (rs:=[1]) (by kernel_rfl) (by decide) (Cc ⟨Fi (H':=fun cs'=>[some (.blk (Ey x0 nm (m 0) (m 1) (m 2) rg (.sla ao cs.length cx) x1 (.sla co cn cc))),some (Ay cs' (BU cs rg) cs.length),some (.blk [.sl 1 cs.length 0])]) rfl (Fh cs ao cx rg x0 x1 (m 0) (m 1) (m 2) nm co cn cc GX) A ⟨At.ok _ _ _ _ hp.1 A.mix (fun b hb=>.inl hb),An.ok _ _ _ _ hp.2 A.mix (fun b hb=>.inl hb)⟩ rfl rfl rfl (fun _=>rfl) fun cs' {_ _ _} AW he EO A=>have B:=A;have A:=B.base;tail cs' AW he (Ok.ok.now A EO) ((B.trans A).cut [4,6] rfl),
     (DF)⟩),
    (DF)⟩)⟩),
   (DF)⟩)⟩),
  (Cc ⟨Da (.ptr 0 2) rfl A rfl rfl fun A=>Aw (rs:=[0,3]) (by kernel_rfl) (by decide) (Cc ⟨Da (.agg (Ey x0 nm (m 0) (m 1) (m 2) rg (.sla ao cs.length cx) x1 (.sla co cn cc))) rfl A rfl rfl fun A=>Aw (rs:=[1,3]) (by kernel_rfl) (by decide) (Cc ⟨Fi (H':=fun cs'=>[some (.blk (Ey x0 nm (m 0) (m 1) (m 2) rg (.sla ao cs.length cx) x1 (.sla co cn cc))),some (Ay cs' (BU cs rg) cs.length),some (.blk [.sl 1 cs.length 0])]) rfl (Fh cs ao cx rg x0 x1 (m 0) (m 1) (m 2) nm co cn cc GX) A ⟨At.ok _ _ _ _ hp.1 A.mix (fun b hb=>.inl hb),An.ok _ _ _ _ hp.2 A.mix (fun b hb=>.inl hb)⟩ rfl rfl rfl (fun _=>rfl) fun cs' {_ _ _} AW he EO A=>have B:=A;have A:=B.base;Aw (rs:=[3]) (by kernel_rfl) (by decide) (Cc ⟨Da (.agg [.int .i64 (m 0),.int .i64 (m 1),.int .i64 (m 2)]) rfl A rfl rfl fun A=>tail cs' AW he (Ok.ok.now A EO) ((B.trans A).cut [4,6] rfl),
     (DF)⟩),
    (Cc ⟨Da (.agg [.int .i64 (m 0),.int .i64 (m 1),.int .i64 (m 2)]) rfl A rfl rfl fun A=>Aw (rs:=[1]) (by kernel_rfl) (by decide) (Cc ⟨Fi (H':=fun cs'=>[some (.blk (Ey x0 nm (m 0) (m 1) (m 2) rg (.sla ao cs.length cx) x1 (.sla co cn cc))),some (Ay cs' (BU cs rg) cs.length),some (.blk [.sl 1 cs.length 0])]) rfl (Fh cs ao cx rg x0 x1 (m 0) (m 1) (m 2) nm co cn cc GX) A ⟨At.ok _ _ _ _ hp.1 A.mix (fun b hb=>.inl hb),An.ok _ _ _ _ hp.2 A.mix (fun b hb=>.inl hb)⟩ rfl rfl rfl (fun _=>rfl) fun cs' {_ _ _} AW he EO A=>have B:=A;have A:=B.base;tail cs' AW he (Ok.ok.now A EO) ((B.trans A).cut [4,6] rfl),
     (DF)⟩),
    (DF)⟩)⟩),
   (Cc ⟨Da (.agg [.int .i64 (m 0),.int .i64 (m 1),.int .i64 (m 2)]) rfl A rfl rfl fun A=>Aw (rs:=[0]) (by kernel_rfl) (by decide) (Cc ⟨Da (.agg (Ey x0 nm (m 0) (m 1) (m 2) rg (.sla ao cs.length cx) x1 (.sla co cn cc))) rfl A rfl rfl fun A=>Aw (rs:=[1]) (by kernel_rfl) (by decide) (Cc ⟨Fi (H':=fun cs'=>[some (.blk (Ey x0 nm (m 0) (m 1) (m 2) rg (.sla ao cs.length cx) x1 (.sla co cn cc))),some (Ay cs' (BU cs rg) cs.length),some (.blk [.sl 1 cs.length 0])]) rfl (Fh cs ao cx rg x0 x1 (m 0) (m 1) (m 2) nm co cn cc GX) A ⟨At.ok _ _ _ _ hp.1 A.mix (fun b hb=>.inl hb),An.ok _ _ _ _ hp.2 A.mix (fun b hb=>.inl hb)⟩ rfl rfl rfl (fun _=>rfl) fun cs' {_ _ _} AW he EO A=>have B:=A;have A:=B.base;tail cs' AW he (Ok.ok.now A EO) ((B.trans A).cut [4,6] rfl),
     (DF)⟩),
    (DF)⟩),
   (DF)⟩)⟩),
  (DF)⟩)⟩)) (fun cs' {G1 a1 w1} AW he EO A=>have B:=A;have A:=B.base;Aw (rs:=[4]) (by kernel_rfl) (by decide) (Cc ⟨Da (.agg (Bt 2 m)) rfl A rfl rfl fun A=>Aw (rs:=[5]) (by kernel_rfl) (by decide) (Cc ⟨Em (x:=.ptr 3 0) (H':=[some (.blk (Ey x0 nm (m 0) (m 1) (m 2) rg (.sla ao cs.length cx) x1 (.sla co cn cc))),some (Ay cs' (BU cs rg) cs.length),some (.blk [.sl 1 cs.length 0]),some (.blk (Bt 2 m))]) rfl A rfl (BN (X:=⟨_,true⟩) (out:=.new _ _ _) hX rfl rfl) fun A=>Aw (rs:=[6]) (by kernel_rfl) (by decide) (Cc ⟨Da (.ptr 3 0) rfl A rfl rfl fun A=>El (by kernel_rfl) (N9 2 A rfl rfl fun A=>ρ5 (VU (m:=m) 3 2 1 2 (B.trans A) hcn rfl rfl rfl rfl rfl rfl rfl AW he (Ok.ok.now A EO)) fun M ⟨A,hJ⟩=>Hw (J:=Ol cs rg m) hX A rfl rfl rfl rfl hJ),
    (DF)⟩),
   (DF)⟩),
  (DF)⟩))
theorem _root_.Go.Proofs.YtbbdanhpphlbpaaGreatDoor.Sy.takeCoreG {n:Nat}{ks:List Nat}{G0:Gr}{w0:World}{T:List (Nat×SV)}{H:Hp}{G:Gr}{a:Act}{w:World}(A:Sy n T H ks G0 w0 G a w){e s m bt cp N:Nat}{f:Nat→List SV}{L:Loc}(ho:So e s m f L bt cp N w)(hN:w0.heap.size≤N)(hold:∀(i:Nat) (e:Bo) (M:Loc),H[i]?=some (some e)→G[i]?=some (some M)→¬e.empty→M.b<N):
  ∃R:Loc,R.b=bt∧Sy n T (H++[some (.row e s m 0 f)]++[some (.blk [.sl H.length m 0])]) ks G0 w0 (G++[some R]++[some L]) a w:=by
 have hlen:=A.mem.len
 obtain⟨p1,xs,p2,p3⟩:=ho.row
 have A1:=A.takeEnt (L:=⟨bt,[],List.replicate cp undef,e⟩) (en:=.row e s m 0 f) ⟨p1,fun L hL=>by cases hL;rfl,xs,p2,by simpa [rm]using p3⟩ rfl (fun i e M h1 h2 h3=>by have:=hold i e M h1 h2 h3;have:=ho.lt;show M.b≠bt;omega) (β4 hN ho.lt)
 have SL:(G++[some (⟨bt,[],List.replicate cp undef,e⟩:Loc)])[H.length]?=some (some ⟨bt,[],List.replicate cp undef,e⟩):=by rw [α2 (by omega),hlen];simp
 have hd:Al (G++[some (⟨bt,[],List.replicate cp undef,e⟩:Loc)]) [.sl H.length m 0]=some [.slice (some ⟨bt,0,none⟩) m cp]:=by
  unfold Al den
  rw [SL]
  simp [rm,Al]
 exact⟨_,rfl,A1.takeEnt (L:=L) (en:=.blk [.sl H.length m 0]) ⟨L,_,rfl,hd,ho.blk⟩ rfl (fun i e' M h1 h2 h3=>by
  by_cases hi:i<H.length
  ·rw [α1 hi]at h1
   rw [α1 (by omega)]at h2
   have:=hold i e' M h1 h2 h3;have:=ho.lo;omega
  ·have Qf:i=H.length:=by
    have:=(α0.1 h1).1
    simp at this;omega
   subst Qf
   rw [SL]at h2
   cases h2
   exact fun z=>ho.ne z.symm) (β4 hN ho.lo)⟩
abbrev jW (i:Nat)(m:Nat→Int):List SV:=(Bt i m)
theorem uT {P:Program} {n:Nat} {ks:List Nat} {G0:Gr} {w0:World} {T:List (Nat×SV)} {H:Hp} {G:Gr} {a:Act} {w:World} {Q:Exit→Act→World→Prop} {K:List Fr} {ops:Array Oper} {o:Oper} {rest:List Oper} {f:Nat} {args az:List SV} {pre:World→Prop} {cs:List Ak} {rg:Nat→Rg} {m:Nat→Int} {t:Nat} {H':List Ak→Hp} (hf:PG P f args [] [] pre (Ol cs rg m)) (A:Sy n T H ks G0 w0 G a w) (hp:pre w) (h1:B6 n ops T o=some (f,az)) (h2:EB [] args=some az) (hd:o.dst=some t)
  (hH:∀cs':List Ak,H++[some (Ay cs' (BU cs rg) cs.length)]++[some (.blk [.sl H.length cs.length 0])]++[some (.blk (jW (H.length+1) m))]=H' cs')
  (k:∀cs' {G a w},BR cs' (BU cs rg) cs.length→(∀k,k<cs.length→(cs'.getD k Ak.z).l=(cs.getD k Ak.z).l)→An cs' w (keys (H' cs') G)→Sy n ((t,.ptr (H.length+2) 0)::(Bh T (some t) (.v .nilFunc))) (H' cs') ks G0 w0 G a w→Goal P Q K (.ops ops rest) a w):Goal P Q K (.ops ops (o::rest)) a w:=by
 refine L7 [] hf A hp Kr.nil (fun b h=>by cases h) h1 h2 rfl rfl rfl fun{x a' w'} hm hJ A'=>?_
 obtain⟨M,L,bt,cp,cs',rfl,jH,qU,xN,XI,qT,AW,heq,EO⟩:=hJ
 rw [hd]at A'
 have hlen:=A.mem.len
 have hold:∀(i:Nat) (e:Bo) (M:Loc),H[i]?=some (some e)→G[i]?=some (some M)→¬e.empty→M.b<w.heap.size:=fun i e M q1 q2 q3=>by
  have:=A.mem.ent i e q1
  rw [q2]at this
  exact BK.lt this q3
 obtain⟨R,hR,A2⟩:=A'.takeCoreG qT A.mix.size hold
 have qV:(G++[some R]++[some L])[H.length+1]?=some (some L):=by
  rw [α2 (by simp;omega)];simp [hlen]
 have FM:Al (G++[some R]++[some L]) (jW (H.length+1) m)=some (nJ L m):=
  Bb (by unfold den;rw [qV];rfl) (by simpa using BT (G:=[]) (G++[some R]++[some L]) [.int .i64 (m 0),.int .i64 (m 1),.int .i64 (m 2)] rfl)
 have PE:∀(i:Nat) (e:Bo) (Z:Loc),(H++[some (Ay cs' (BU cs rg) cs.length)]++[some (.blk [.sl H.length cs.length 0])])[i]?=some (some e)→(G++[some R]++[some L])[i]?=some (some Z)→¬e.empty→Z.b<w.heap.size∨Z.b=L.b∨Z.b=bt:=fun i e Z q1 q2 q3=>by
  by_cases hi:i<H.length
  ·rw [γ2,α1 hi]at q1
   rw [γ2,α1 (by omega)]at q2
   exact .inl (hold i e Z q1 q2 q3)
  ·by_cases Qf:i=H.length
   ·subst Qf
    rw [γ2,α2 (by omega)]at q2
    simp [hlen]at q2
    subst q2;exact .inr (.inr hR)
   ·have ZK:i=H.length+1:=by
     have:=(α0.1 q1).1
     simp at this;omega
    subst ZK
    rw [qV]at q2;cases q2
    exact .inr (.inl rfl)
 have A3:=A2.takeEnt (L:=M) (en:=.blk (jW (H.length+1) m)) ⟨M,_,rfl,FM,XI⟩ rfl (fun i e Z q1 q2 q3=>by
  rcases PE i e Z q1 q2 q3 with q|q|q
  ·omega
  ·rw [q];exact fun h=>qU h.symm
  ·rw [q];exact fun h=>xN h.symm) (β4 A.mix.size jH)
 rw [hH cs']at A3
 have J1:∀b,(keys (H' cs') (G++[some R]++[some L]++[some M])).contains b=true→b<w.heap.size∨b=L.b∨b=bt∨b=M.b:=fun b hb=>by
  rw [←hH cs']at hb
  obtain⟨i,en,Z,g1,g2,g3,g4⟩:=mem_keys.1 hb
  by_cases hi:i<H.length+2
  ·rw [α1 (by simp;omega)]at g1
   rw [α1 (by simp;omega)]at g3
   rw [←g4]
   rcases PE i en Z g1 g3 (Bf g2)with q|q|q
   ·exact .inl q
   ·exact .inr (.inl q)
   ·exact .inr (.inr (.inl q))
  ·have ZK:i=H.length+2:=by
    have:=(α0.1 g1).1
    simp at this;omega
   subst ZK
   rw [α2 (by simp;omega)]at g3
   simp [hlen]at g3
   subst g3
   exact .inr (.inr (.inr g4.symm))
 refine k cs' AW heq (EO _ J1) ?_
 have A4:=A3.slotEq t (x:=GP M.b M.pre.length) (y:=.ptr (H.length+2) 0) (by simp [Bh,look,η7]) (by
  unfold den
  rw [α2 (by simp;omega)]
  simp [hlen])
 refine⟨A4.size,A4.defers,fun q x hx=>A4.get q x ?_,A4.mem,A4.pre,A4.own,A4.mix⟩
 unfold look at hx⊢
 cases hb:Nat.beq t q with
 |true=>rw [hb]at hx;exact hx
 |false=>
  rw [hb]at hx
  simp only [Bh,cond_false]at hx⊢
  unfold look at hx⊢
  rw [hb]at hx⊢
  exact hx
end Go.Proofs.YtbbdanhpphlbpaaGreatDoor.Mc
namespace Go.Proofs.YtbbdanhpphlbpaaGreatDoor.Mc
open Go.RowKit
set_option simprocs false
abbrev E4:List In:=[(⟨5, -1,7, -1,0,0,0, -1,8,0,false,false,false,0,0,0,false⟩:In),(⟨4,0, -1, -1,0,1,0, -1,8,0,false,false,false,0,0,0,false⟩:In)]
abbrev Gu:List In:=[(⟨5, -1,7, -1,0,1,0, -1,8,0,false,false,false,0,0,0,false⟩:In),(⟨4,0, -1, -1,0,0,0, -1,8,0,false,false,false,0,0,0,false⟩:In)]
abbrev E9 (b1 b2:Nat):List Ak:=[⟨some ⟨b1,0,none⟩,E4,2⟩,⟨some ⟨b2,0,none⟩,Gu,2⟩]
abbrev GE:Nat→Rg:=fun t k=>if k=7 then(if t=2 then 0 else 1)else 0
abbrev mZ:Nat→Int:=fun _=>0
theorem uU (b1 b2:Nat):M2 (E9 b1 b2)=0:=by rfl
theorem uV {b1 b2 b3 b4 lo:Nat}{cz c1 c2:List SV}{w:World}{ks:List Nat}(hA:Acc lo [(b4,cz),(b3,[.sla (some ⟨b1,0,none⟩) 2 2,.sla (some ⟨b2,0,none⟩) 2 2]),(b2,c2),(b1,c1)] w ks)(jA:Al [] c1=Al [] (E4.flatMap C3))(qS:Al [] c2=Al [] (Gu.flatMap C3)):At (some ⟨b3,0,none⟩) 1 (E9 b1 b2).length (fun zz=>JL ((E9 b1 b2).getD zz Ak.z)) w []∧An (E9 b1 b2) w []:=by
 have hA:=hA.bare
 obtain⟨_,v3,d3,l3⟩:=hA (b3,_) (.tail _ (.head _))
 obtain⟨_,v2,d2,l2⟩:=hA (b2,_) (.tail _ (.tail _ (.head _)))
 obtain⟨_,v1,d1,l1⟩:=hA (b1,_) (.tail _ (.tail _ (.tail _ (.head _))))
 refine⟨NF Ak.z JL 1 (fun _=>rfl) (fun _=>rfl) (fun x=>⟨_,rfl⟩) (E9 b1 b2) l3 d3,fun c hc=>?_⟩
 rcases ζ9.1 hc with rfl|hc
 ·exact NF In.z C3 17 (fun _=>rfl) (fun _=>rfl) (fun x=>⟨_,rfl⟩) E4 l1 (jA.symm.trans d1)
 ·rw [η5]at hc
  subst hc
  exact NF In.z C3 17 (fun _=>rfl) (fun _=>rfl) (fun x=>⟨_,rfl⟩) Gu l2 (qS.symm.trans d2)
def yM:SV→World→World→Prop:=fun x w w'=>∃b1 b2 b3 b4:Nat,x=.agg [.int .i64 1,.str [83,66],.z9,.z9,.z9,.z9,.z9,.z9,.z9,.z9,.z9,.z9,.int .i64 1,.z9,.z9,.z9,.z9,.z9,.z9,.z9,.int .i64 1,.z9,.z9,.z9,.z9,.z9,.z9,.z9,.z9,.sla (some ⟨b3,0,none⟩) 2 2,.int .i64 1,.sla (some ⟨b4,0,none⟩) 1 1]∧At (some ⟨b3,0,none⟩) 1 (E9 b1 b2).length (fun zz=>JL ((E9 b1 b2).getD zz Ak.z)) w' []∧An (E9 b1 b2) w' []
theorem sb_:PG Tryz.prog 43 [.int .i64 1] [] [] (fun _=>True) yM:=
 Gq (n:=32) (by kernel_rfl) Tryz.func43 rfl rfl rfl (fun i e h=>by rw [κ1]at h;cases h) fun G w a h0 ho hp A=>have B:=A;have hA:=Acc.nil (lo:=w.heap.size) (w:=w) (ks:=keys [] G);have A:=A.base;N9 20 A rfl rfl fun A=>JO By [.agg [.int .i64 5,.int .i64 (-1),.int .i64 7,.int .i64 (-1),.z9,.z9,.z9,.int .i64 (-1),.int .i64 8,.z9,.ff,.ff,.ff,.z9,.z9,.z9,.ff],.agg [.int .i64 4,.z9,.int .i64 (-1),.int .i64 (-1),.z9,.z9,.z9,.int .i64 (-1),.int .i64 8,.z9,.ff,.ff,.ff,.z9,.z9,.z9,.ff],.ptr 3 0,.ptr 4 0,.tup [],.tup []] [2,3,4,5] [3,4] 2 [([],[3,4],[some (.blk [.z9,.str [],.z9,.z9,.z9,.z9,.z9,.z9,.z9,.z9,.z9,.z9,.z9,.z9,.z9,.z9,.z9,.z9,.z9,.z9,.z9,.z9,.z9,.z9,.z9,.z9,.z9,.z9,.z9,.sla none 0 0,.z9,.sla none 0 0]),some (.blk [.int .i64 5,.int .i64 (-1),.int .i64 7,.int .i64 (-1),.z9,.z9,.z9,.int .i64 (-1),.int .i64 8,.z9,.ff,.ff,.ff,.z9,.z9,.z9,.ff]),some (.blk [.int .i64 4,.z9,.int .i64 (-1),.int .i64 (-1),.z9,.z9,.z9,.int .i64 (-1),.int .i64 8,.z9,.ff,.ff,.ff,.z9,.z9,.z9,.ff]),none,none]),([2],[4],[some (.blk [.z9,.str [],.z9,.z9,.z9,.z9,.z9,.z9,.z9,.z9,.z9,.z9,.z9,.z9,.z9,.z9,.z9,.z9,.z9,.z9,.z9,.z9,.z9,.z9,.z9,.z9,.z9,.z9,.z9,.sla none 0 0,.z9,.sla none 0 0]),some (.blk [.int .i64 5,.int .i64 (-1),.int .i64 7,.int .i64 (-1),.z9,.z9,.z9,.int .i64 (-1),.int .i64 8,.z9,.ff,.ff,.ff,.z9,.z9,.z9,.ff]),some (.blk [.int .i64 4,.z9,.int .i64 (-1),.int .i64 (-1),.z9,.z9,.z9,.int .i64 (-1),.int .i64 8,.z9,.ff,.ff,.ff,.z9,.z9,.z9,.ff]),some (.blk [.z9,.z9,.z9,.z9,.z9,.z9,.z9,.z9,.z9,.z9,.ff,.ff,.ff,.z9,.z9,.z9,.ff]),none]),([3],[3],[some (.blk [.z9,.str [],.z9,.z9,.z9,.z9,.z9,.z9,.z9,.z9,.z9,.z9,.z9,.z9,.z9,.z9,.z9,.z9,.z9,.z9,.z9,.z9,.z9,.z9,.z9,.z9,.z9,.z9,.z9,.sla none 0 0,.z9,.sla none 0 0]),some (.blk [.int .i64 5,.int .i64 (-1),.int .i64 7,.int .i64 (-1),.z9,.z9,.z9,.int .i64 (-1),.int .i64 8,.z9,.ff,.ff,.ff,.z9,.z9,.z9,.ff]),some (.blk [.int .i64 4,.z9,.int .i64 (-1),.int .i64 (-1),.z9,.z9,.z9,.int .i64 (-1),.int .i64 8,.z9,.ff,.ff,.ff,.z9,.z9,.z9,.ff]),none,some (.blk [.z9,.z9,.z9,.z9,.z9,.z9,.z9,.z9,.z9,.z9,.ff,.ff,.ff,.z9,.z9,.z9,.ff])]),([2,3],[],[some (.blk [.z9,.str [],.z9,.z9,.z9,.z9,.z9,.z9,.z9,.z9,.z9,.z9,.z9,.z9,.z9,.z9,.z9,.z9,.z9,.z9,.z9,.z9,.z9,.z9,.z9,.z9,.z9,.z9,.z9,.sla none 0 0,.z9,.sla none 0 0]),some (.blk [.int .i64 5,.int .i64 (-1),.int .i64 7,.int .i64 (-1),.z9,.z9,.z9,.int .i64 (-1),.int .i64 8,.z9,.ff,.ff,.ff,.z9,.z9,.z9,.ff]),some (.blk [.int .i64 4,.z9,.int .i64 (-1),.int .i64 (-1),.z9,.z9,.z9,.int .i64 (-1),.int .i64 8,.z9,.ff,.ff,.ff,.z9,.z9,.z9,.ff]),some (.blk [.z9,.z9,.z9,.z9,.z9,.z9,.z9,.z9,.z9,.z9,.ff,.ff,.ff,.z9,.z9,.z9,.ff]),some (.blk [.z9,.z9,.z9,.z9,.z9,.z9,.z9,.z9,.z9,.z9,.ff,.ff,.ff,.z9,.z9,.z9,.ff])]),([2,3,4],[],[some (.blk [.z9,.str [],.z9,.z9,.z9,.z9,.z9,.z9,.z9,.z9,.z9,.z9,.z9,.z9,.z9,.z9,.z9,.z9,.z9,.z9,.z9,.z9,.z9,.z9,.z9,.z9,.z9,.z9,.z9,.sla none 0 0,.z9,.sla none 0 0]),some (.blk [.int .i64 5,.int .i64 (-1),.int .i64 7,.int .i64 (-1),.z9,.z9,.z9,.int .i64 (-1),.int .i64 8,.z9,.ff,.ff,.ff,.z9,.z9,.z9,.ff]),some (.blk [.int .i64 4,.z9,.int .i64 (-1),.int .i64 (-1),.z9,.z9,.z9,.int .i64 (-1),.int .i64 8,.z9,.ff,.ff,.ff,.z9,.z9,.z9,.ff]),some (.blk [.int .i64 5,.int .i64 (-1),.int .i64 7,.int .i64 (-1),.z9,.z9,.z9,.int .i64 (-1),.int .i64 8,.z9,.ff,.ff,.ff,.z9,.z9,.z9,.ff]),some (.blk [.z9,.z9,.z9,.z9,.z9,.z9,.z9,.z9,.z9,.z9,.ff,.ff,.ff,.z9,.z9,.z9,.ff])]),([2,3,4,5],[],[some (.blk [.z9,.str [],.z9,.z9,.z9,.z9,.z9,.z9,.z9,.z9,.z9,.z9,.z9,.z9,.z9,.z9,.z9,.z9,.z9,.z9,.z9,.z9,.z9,.z9,.z9,.z9,.z9,.z9,.z9,.sla none 0 0,.z9,.sla none 0 0]),some (.blk [.int .i64 5,.int .i64 (-1),.int .i64 7,.int .i64 (-1),.z9,.z9,.z9,.int .i64 (-1),.int .i64 8,.z9,.ff,.ff,.ff,.z9,.z9,.z9,.ff]),some (.blk [.int .i64 4,.z9,.int .i64 (-1),.int .i64 (-1),.z9,.z9,.z9,.int .i64 (-1),.int .i64 8,.z9,.ff,.ff,.ff,.z9,.z9,.z9,.ff]),some (.blk [.int .i64 5,.int .i64 (-1),.int .i64 7,.int .i64 (-1),.z9,.z9,.z9,.int .i64 (-1),.int .i64 8,.z9,.ff,.ff,.ff,.z9,.z9,.z9,.ff]),some (.blk [.int .i64 4,.z9,.int .i64 (-1),.int .i64 (-1),.z9,.z9,.z9,.int .i64 (-1),.int .i64 8,.z9,.ff,.ff,.ff,.z9,.z9,.z9,.ff])])] [[true,true,true,true,false,false],[true,true,false,true,false,false],[true,true,true,false,false,false],[true,true,false,false,true,false],[false,true,false,false,false,true],[false,false,false,false,false,false]] A rfl rfl rfl rfl (by kernel_rfl) rfl (by kernel_rfl) ⟨⟨Ao 0 rfl rfl,⟨Ao 0 rfl rfl,⟨⟨_,_,_,_,1,rfl,rfl,rfl,rfl,Eh 3 (X:=⟨_,true⟩) hX rfl rfl (Ph h0 rfl) rfl rfl rfl rfl⟩,⟨⟨_,_,_,_,2,rfl,rfl,rfl,rfl,Eh 4 (X:=⟨_,true⟩) hX rfl rfl (Ph h0 rfl) rfl rfl rfl rfl⟩,trivial⟩⟩⟩⟩,⟨⟨Ao 1 rfl rfl,⟨Ao 1 rfl rfl,⟨⟨_,_,_,_,3,rfl,rfl,rfl,rfl,Eh 4 (X:=⟨_,true⟩) hX rfl rfl (Ph h0 rfl) rfl rfl rfl rfl⟩,trivial⟩⟩⟩,⟨⟨Ao 2 rfl rfl,⟨Ao 2 rfl rfl,⟨⟨_,_,_,_,3,rfl,rfl,rfl,rfl,Eh 3 (X:=⟨_,true⟩) hX rfl rfl (Ph h0 rfl) rfl rfl rfl rfl⟩,trivial⟩⟩⟩,⟨⟨Ao 3 rfl rfl,⟨Ao 3 rfl rfl,⟨CF 4 rfl (BN (X:=⟨_,true⟩) (out:=.upd 3 [.int .i64 5,.int .i64 (-1),.int .i64 7,.int .i64 (-1),.z9,.z9,.z9,.int .i64 (-1),.int .i64 8,.z9,.ff,.ff,.ff,.z9,.z9,.z9,.ff] _) hX rfl rfl),trivial⟩⟩⟩,⟨⟨Ao 4 rfl rfl,⟨CF 5 rfl (BN (X:=⟨_,true⟩) (out:=.upd 4 [.int .i64 4,.z9,.int .i64 (-1),.int .i64 (-1),.z9,.z9,.z9,.int .i64 (-1),.int .i64 8,.z9,.ff,.ff,.ff,.z9,.z9,.z9,.ff] _) hX rfl rfl),trivial⟩⟩,⟨trivial,trivial⟩⟩⟩⟩⟩⟩ fun A=>N9 14 A rfl rfl fun A=>Dw [.int .i64 5,.int .i64 (-1),.int .i64 7,.int .i64 (-1),.z9,.z9,.z9,.int .i64 (-1),.int .i64 8,.z9,.ff,.ff,.ff,.z9,.z9,.z9,.ff,.int .i64 4,.z9,.int .i64 (-1),.int .i64 (-1),.z9,.int .i64 1,.z9,.int .i64 (-1),.int .i64 8,.z9,.ff,.ff,.ff,.z9,.z9,.z9,.ff] (X:=⟨_,true⟩) hX B hA A rfl rfl rfl rfl fun b1 B hA A=>
 N9 2 A rfl rfl fun A=>Dw [.int .i64 5,.int .i64 (-1),.int .i64 7,.int .i64 (-1),.z9,.int .i64 1,.z9,.int .i64 (-1),.int .i64 8,.z9,.ff,.ff,.ff,.z9,.z9,.z9,.ff,.int .i64 4,.z9,.int .i64 (-1),.int .i64 (-1),.z9,.z9,.z9,.int .i64 (-1),.int .i64 8,.z9,.ff,.ff,.ff,.z9,.z9,.z9,.ff] (X:=⟨_,true⟩) hX B hA A rfl rfl rfl rfl fun b2 B hA A=>
 Dw [.sla (some ⟨b1,0,none⟩) 2 2,.sla (some ⟨b2,0,none⟩) 2 2] (X:=⟨_,true⟩) hX B hA A rfl rfl rfl rfl fun b3 B hA A=>
 N9 1 A rfl rfl fun A=>Dw [.int .i64 2,.z9,.z9,.z9,.z9] (X:=⟨_,true⟩) hX B hA A rfl rfl rfl rfl fun b4 B hA A=>
 N9 9 A rfl (Aj (by omega)<|Ah) fun A=>have A:=Ai A 26 (.ptr 5 5) rfl (Cy 0 rfl);N9 1 A rfl (Aj (by omega)<|Ah) fun A=>have A:=Ai A 27 (.ptr 5 12) rfl (Cy 7 rfl);N9 3 A rfl (Aj (by omega)<|Ah) fun A=>have A:=Ai A 29 (.ptr 5 13) rfl (Cy 1 rfl);N9 1 A rfl (Aj (by omega)<|Ah) fun A=>have A:=Ai A 30 (.ptr 5 20) rfl (Cy 7 rfl);N9 10 A rfl rfl fun A=>Hw (J:=yM) hX (B.trans A) rfl rfl rfl rfl ⟨b1,b2,b3,b4,rfl,uV (hA.now A) rfl rfl⟩
abbrev yN (a n k:Nat):List Mv:=if((a:Nat):Int)=((n:Nat):Int)then []else [(2,(k:Int),(a:Int))]
theorem nL {cs:List Ak}{ts:List Th}{s0 s1:Th}{l l1:List In}(hs:ts.getD 0 Th.z=s0)(hl:(cs.getD 0 Ak.z).l=l)(iU:ts.getD 1 Th.z=s1)(Nq:(cs.getD 1 Ak.z).l=l1):Ce cs ts 2=yN s0.at_ l.length 0++yN s1.at_ l1.length 1:=by subst hs;subst hl;subst iU;subst Nq;rfl
theorem stP {cs:List Ak}{ts:List Th}{old:Int}{s0:Th}{l:List In}(hn:0<ts.length)(hs:ts.getD 0 Th.z=s0)(hl:(cs.getD 0 Ak.z).l=l):(CR cs ts 0 old).getD 0 Th.z=Sm l s0 old:=by
 subst hs;subst hl
 match ts,hn with
 |x::_,_=>rfl
theorem nM {b1 b2:Nat}:(BU (E9 b1 b2) GE).getD 0 Th.z=⟨0,GE 0⟩:=rfl
abbrev jX (b1 b2:Nat)(cs':List Ak):Hp:=[some (.blk [.ptr 1 0,.int .i64 ((EU mZ (BZ (BU (E9 b1 b2) GE) (0:Int)).r (Ax cs' (BU (E9 b1 b2) GE) (0:Int))) 0),.int .i64 ((EU mZ (BZ (BU (E9 b1 b2) GE) (0:Int)).r (Ax cs' (BU (E9 b1 b2) GE) (0:Int))) 1),.int .i64 ((EU mZ (BZ (BU (E9 b1 b2) GE) (0:Int)).r (Ax cs' (BU (E9 b1 b2) GE) (0:Int))) 2)]),some (.blk [.sl 2 2 0]),some (.row 125 10 2 0 (fun zz=>HJ (cs'.getD zz Ak.z) ((CR cs' (BU (E9 b1 b2) GE) 0 (Iz mZ (BZ (BU (E9 b1 b2) GE) (0:Int)).r (Ax cs' (BU (E9 b1 b2) GE) (0:Int)))).getD zz Th.z)))]
abbrev T0 (b1 b2:Nat)(cs':List Ak):List Th:=CR cs' (BU (E9 b1 b2) GE) 0 (Iz mZ (BZ (BU (E9 b1 b2) GE) (0:Int)).r (Ax cs' (BU (E9 b1 b2) GE) (0:Int)))
abbrev jY (b1 b2:Nat)(cs':List Ak):Rg:=EU mZ (BZ (BU (E9 b1 b2) GE) (0:Int)).r (Ax cs' (BU (E9 b1 b2) GE) (0:Int))
theorem nN {b1 b2:Nat}{cs':List Ak}(he:(cs'.getD 0 Ak.z).l=E4):(T0 b1 b2 cs').getD 0 Th.z=⟨1,GE 0⟩:=(stP (by rw [Oe];exact Nat.zero_lt_succ _) nM he).trans rfl
theorem nO {b1 b2:Nat}:(BU (E9 b1 b2) GE).getD 1 Th.z=⟨0,GE 1⟩:=rfl
theorem nP {b1 b2:Nat}{cs':List Ak}:(T0 b1 b2 cs').getD 1 Th.z=⟨0,GE 1⟩:=rfl
theorem eC {b1 b2:Nat}{cs':List Ak}(he:(cs'.getD 0 Ak.z).l=E4)(Jq:(cs'.getD 1 Ak.z).l=Gu):Ce cs' (BU (E9 b1 b2) GE) 2=[(2,0,0),(2,1,0)]:=(nL nM he nO Jq).trans rfl
theorem nQ {b1 b2:Nat}{cs':List Ak}(he:(cs'.getD 0 Ak.z).l=E4)(Jq:(cs'.getD 1 Ak.z).l=Gu):Ce cs' (T0 b1 b2 cs') 2=[(2,0,1),(2,1,0)]:=(nL (nN he) he nP Jq).trans rfl
abbrev nR {b1 b2:Nat}{cs':List Ak}(AW:BR cs' (BU (E9 b1 b2) GE) 2):BR cs' (T0 b1 b2 cs') 2:=AW.set ⟨by decide,by decide⟩ _
theorem uW {b1 b2:Nat}{cs':List Ak}(he:(cs'.getD 0 Ak.z).l=E4):(EU mZ ((BU (E9 b1 b2) GE).getD (((0:Int)).toNat) Th.z).r ((cs'.getD (((0:Int)).toNat) Ak.z).l.getD (((((BU (E9 b1 b2) GE).getD (((0:Int)).toNat) Th.z).at_:Nat):Int)).toNat In.z)) 0=1:=by
 have h:((cs'.getD (((0:Int)).toNat) Ak.z).l.getD (((((BU (E9 b1 b2) GE).getD (((0:Int)).toNat) Th.z).at_:Nat):Int)).toNat In.z)=E4.getD 0 In.z:=by show((cs'.getD 0 Ak.z).l).getD 0 In.z=_;rw [he]
 rw [h];show EU mZ (GE 0) (E4.getD 0 In.z) 0=1;decide+kernel
theorem uX {b1 b2:Nat}{cs':List Ak}(AW:BR cs' (BU (E9 b1 b2) GE) 2)(he:(cs'.getD 0 Ak.z).l=E4)(Jq:(cs'.getD 1 Ak.z).l=Gu):CE (An cs') Tryz.prog 21 [.ptr 0 0] [some (.blk (Bt 1 mZ)),some (.blk [.sl 2 2 0]),some (Ay cs' (BU (E9 b1 b2) GE) 2)] (Rt (.sl 3 2 0) [some (.blk (Bt 1 mZ)),some (.blk [.sl 2 2 0]),some (Ay cs' (BU (E9 b1 b2) GE) 2),some (.row 44 4 2 0 (GU [(2,0,0),(2,1,0)]))]):=by have h:=XN mZ cs' (BU (E9 b1 b2) GE) 2 AW (by decide);rw [eC he Jq]at h;exact h
theorem uY {b1 b2:Nat}{cs':List Ak}(AW:BR cs' (BU (E9 b1 b2) GE) 2)(he:(cs'.getD 0 Ak.z).l=E4)(Jq:(cs'.getD 1 Ak.z).l=Gu):CE (An cs') Tryz.prog 21 [.ptr 0 0] (jX b1 b2 cs') (Rt (.sl 3 2 0) [some (.blk [.ptr 1 0,.int .i64 ((jY b1 b2 cs') 0),.int .i64 ((jY b1 b2 cs') 1),.int .i64 ((jY b1 b2 cs') 2)]),some (.blk [.sl 2 2 0]),some (.row 125 10 2 0 (fun zz=>HJ (cs'.getD zz Ak.z) ((T0 b1 b2 cs').getD zz Th.z))),some (.row 44 4 2 0 (GU [(2,0,1),(2,1,0)]))]):=by have h:=XN (jY b1 b2 cs') cs' (T0 b1 b2 cs') 2 (nR AW) (by decide);rw [nQ he Jq]at h;exact h
theorem uZ {b1 b2:Nat}{cs':List Ak}(AW:BR cs' (BU (E9 b1 b2) GE) 2)(he:(cs'.getD 0 Ak.z).l=E4)(Jq:(cs'.getD 1 Ak.z).l=Gu):CE (TI cs') Tryz.prog 15 [.ptr 0 0,.z9] [some (.blk (Bt 1 mZ)),some (.blk [.sl 2 2 0]),some (Ay cs' (BU (E9 b1 b2) GE) 2)] (Rt (.tt) (jX b1 b2 cs')):=uL mZ cs' (BU (E9 b1 b2) GE) 2 0 0 AW (by decide) ⟨by decide,by decide⟩ (by show 0<(cs'.getD 0 Ak.z).l.length;rw [he];decide) ⟨by decide,by rw [eC he Jq];decide⟩ (by rw [eC he Jq];rfl)
theorem u5 {b1 b2:Nat}{cs':List Ak}(AW:BR cs' (BU (E9 b1 b2) GE) 2)(he:(cs'.getD 0 Ak.z).l=E4)(Jq:(cs'.getD 1 Ak.z).l=Gu):CE (TI cs') Tryz.prog 15 [.ptr 0 0,.int .i64 9] (jX b1 b2 cs') (Rt (.ff) (jX b1 b2 cs')):=mS (jY b1 b2 cs') cs' (T0 b1 b2 cs') 2 9 (nR AW) (by decide) (by rw [nQ he Jq];decide)
theorem u6 {b1 b2:Nat}{cs':List Ak}(AW:BR cs' (BU (E9 b1 b2) GE) 2)(he:(cs'.getD 0 Ak.z).l=E4)(Jq:(cs'.getD 1 Ak.z).l=Gu):Fn Tryz.prog 44 [.ptr 0 0,.z9] (jX b1 b2 cs') (Rt (.int .i64 1) (jX b1 b2 cs')):=Zh (dL (jY b1 b2 cs') cs' (T0 b1 b2 cs') 2 0 (by decide)) (fun{G}=>congrArg (fun z=>some (Value.int .i64 z)) (uW he))
theorem u7 {b1 b2:Nat}{cs':List Ak}(AW:BR cs' (BU (E9 b1 b2) GE) 2)(he:(cs'.getD 0 Ak.z).l=E4)(Jq:(cs'.getD 1 Ak.z).l=Gu):Fn Tryz.prog 45 [.ptr 0 0,.z9] [some (.blk [.sl 1 2 0]),some (.row 125 10 2 0 (fun zz=>HJ (cs'.getD zz Ak.z) ((T0 b1 b2 cs').getD zz Th.z)))] (Rt (.int .i64 1) [some (.blk [.sl 1 2 0]),some (.row 125 10 2 0 (fun zz=>HJ (cs'.getD zz Ak.z) ((T0 b1 b2 cs').getD zz Th.z)))]):=Zh (Zi cs' (T0 b1 b2 cs') 2 0 ⟨by decide,by decide⟩) (fun{G}=>congrArg (fun z=>some (Value.int .i64 z)) (show((((T0 b1 b2 cs').getD 0 Th.z).at_:Nat):Int)=_ by rw [nN he];rfl))
end Go.Proofs.YtbbdanhpphlbpaaGreatDoor.Mc
namespace Go.Proofs.YtbbdanhpphlbpaaGreatDoor.Mc
open Go.RowKit
set_option simprocs false
theorem eD {n:Nat} {ks:List Nat} {G0:Gr} {w0:World} {T:List (Nat×SV)} {H:Hp} {G:Gr} {a:Act} {w:World} {Q:Exit→Act→World→Prop} {K:List Fr} {ops:Array Oper} {o:Oper} {rest:List Oper} {t:Nat} (A:Sy n T H ks G0 w0 G a w) (h1:B6 n ops T o=some (43,[.int .i64 1])) (hd:o.dst=some t)
  (k:∀(b1 b2 b3 b4:Nat) {a w},At (some ⟨b3,0,none⟩) 1 (E9 b1 b2).length (fun zz=>JL ((E9 b1 b2).getD zz Ak.z)) w []∧An (E9 b1 b2) w []→Sy n ((t,.agg [.int .i64 1,.str [83,66],.z9,.z9,.z9,.z9,.z9,.z9,.z9,.z9,.z9,.z9,.int .i64 1,.z9,.z9,.z9,.z9,.z9,.z9,.z9,.int .i64 1,.z9,.z9,.z9,.z9,.z9,.z9,.z9,.z9,.sla (some ⟨b3,0,none⟩) 2 2,.int .i64 1,.sla (some ⟨b4,0,none⟩) 1 1])::T) H ks G0 w0 G a w→Goal Tryz.prog Q K (.ops ops rest) a w):Goal Tryz.prog Q K (.ops ops (o::rest)) a w:=by
 refine L7 [] sb_ A trivial Kr.nil (fun b h=>by cases h) h1 rfl rfl rfl rfl fun{x a' w'} hm hJ A'=>?_
 obtain⟨b1,b2,b3,b4,rfl,hp⟩:=hJ
 rw [hd]at A'
 exact k b1 b2 b3 b4 hp A'
theorem nS:CE JP Tryz.prog 8 [] [] (Rt .tt []):=
 BB (n:=47) (by kernel_rfl) Tryz.func8 rfl rfl rfl fun G w a h0 hD A=>have B:=A;have hD:=At.ok.now A hD;have A:=A.base;N9 7 A rfl rfl fun A=>eD A rfl rfl fun b1 b2 b3 b4 {_ _} hp A=>
 uT (H':=fun cs'=>[some (Ay cs' (BU (E9 b1 b2) GE) 2),some (.blk [.sl 0 2 0]),some (.blk (Bt 1 mZ))]) (nK (E9 b1 b2) (some ⟨b3,0,none⟩) 2 GE mZ 1 1 [83,66] (some ⟨b4,0,none⟩) 1 1 (uU b1 b2) (show 0<2 by decide)) A hp rfl rfl rfl (fun _=>rfl) fun cs' {_ _ _} AW he hC A=>have hD:=At.ok.now A hD;have B:=B.trans A;have A:=B.base;have Jq:=he 1 (show 1<2 by decide);have he:=he 0 (show 0<2 by decide);have hI:=(⟨hC,hD⟩:TI cs' _ _);
 N9 7 A rfl rfl fun A=>A9 A rfl (Zg rfl rfl rfl rfl rfl (by kernel_rfl)) fun A=>N9 5 A rfl rfl fun A=>A9 A rfl (Zg rfl rfl rfl rfl rfl (by kernel_rfl)) fun A=>N9 9 A rfl rfl fun A=>I9 [2,1,0] An.ok hI.1 (uX AW he Jq) A rfl fun A=>N9 9 A rfl rfl fun A=>Au 19 A rfl
  (fun h1 A=>N9 1 A rfl rfl fun A=>I9 [2,1,0] TI.ok hI (uZ AW he Jq) A rfl fun A=>N9 3 A rfl rfl fun A=>I9 [2,1,0] TI.ok hI (u5 AW he Jq) A rfl fun A=>N9 4 A rfl rfl fun A=>I9 [2,1,0] An.ok hI.1 (uY AW he Jq) A rfl fun A=>N9 4 A rfl rfl fun A=>Au 34 A rfl
   (fun h2 A=>N9 1 A rfl rfl fun A=>C9 [2,1,0] (u6 AW he Jq) A rfl fun A=>N9 3 A rfl rfl fun A=>Au 39 A rfl
    (fun h3 A=>N9 4 A rfl rfl fun A=>C9 [1,0] (u7 AW he Jq) A rfl fun A=>N9 6 A rfl rfl fun A=>R9 (B.trans A) rfl h0 rfl rfl rfl)
    (fun h3 A=>absurd h3 (by decide)))
   (fun h2 A=>absurd h2 (by decide)))
  (fun h1 A=>absurd h1 (by decide))
end Go.Proofs.YtbbdanhpphlbpaaGreatDoor.Mc
namespace Go.Proofs.YtbbdanhpphlbpaaGreatDoor.Mc
open Go.RowKit
set_option simprocs false
theorem r8 {x:Int}(h:0≤x∧x<3):x.toNat<3:=by omega
abbrev dV (tv:Nat→Value)(m:Rg)(nn:Nat)(ra:Option Addr)(rc:Nat):List Value:=[tv 0,tv 1,tv 2,tv 3,tv 4,tv 5,tv 6,tv 7,tv 8,tv 9,tv 10,tv 11,tv 12,tv 13,tv 14,tv 15,tv 16,tv 17,tv 18,tv 19,tv 20,tv 21,tv 22,tv 23,tv 24,tv 25,tv 26,tv 27,tv 28,tv 29,tv 30,tv 31,.slice ra nn rc,.int .i64 (m 0),.int .i64 (m 1),.int .i64 (m 2),.slice none 0 0,.slice none 0 0,.slice none 0 0,.bool false]
abbrev Rl (tr:List Tr):Nat→List SV:=fun k=>[.v (.pointer (some ⟨(tr.getD k Tr.z).L.b,(tr.getD k Tr.z).L.pre.length,none⟩))]
structure yO (tv:Nat→Value)(m:Rg)(cs:List Ak)(ts:List Th)(nn:Nat)(ra:Option Addr)(rc:Nat)(tr:List Tr)(DL:Loc)(w:World):Prop where
 blk:EV w DL.b (DL.pre++dV tv m nn ra rc++DL.post).toArray DL.t
 row:At ra 1 nn (Rl tr) w (DL.b::En tr)
 jt:JT cs ts tr 0 w [DL.b]
 cd:An cs w (DL.b::En tr)
def nT (tv:Nat→Value)(m:Rg)(cs:List Ak)(ts:List Th)(nn:Nat)(ra:Option Addr)(rc:Nat)(tr:List Tr)(DL:Loc):SV→World→World→Prop:=fun _ w w'=>∃tr',EV w' DL.b (DL.pre++dV tv m nn ra rc++DL.post).toArray DL.t∧JT cs ts tr' 0 w' [DL.b]∧tr'.length=nn∧(∀k,k<nn→(tr'.getD k Tr.z).L=(tr.getD k Tr.z).L)∧∀b,(En tr').contains b=true→(DL.b::En tr).contains b=true∨w.heap.size≤b
section
variable {P:Program}{n:Nat}{ks:List Nat}{G0:Gr}{w0:World}{T:List (Nat×SV)}{H:Hp}{G:Gr}{a:Act}{w:World}{Q:Exit→Act→World→Prop}{K:List Fr}{pos:Pos}
theorem nU {bs:List Nat} (t:Nat) {L:Loc} {cs:List SV} {vs:List Value} (A:Sy n T [] (L.b::bs) G0 w0 G a w) (hb:EV w L.b (L.pre++vs++L.post).toArray L.t) (hc:Al [] cs=some vs) (ht:look T t=some (GP L.b L.pre.length))
  (k:Sy n ((t,.ptr 0 0)::T) [some (.blk cs)] (L.b::bs) G0 w0 [some L] a w→Goal P Q K pos a w):Goal P Q K pos a w:=by
 have hG:G=[]:=δ3 (by rw [←A.mem.len];rfl)
 subst hG
 have A1:=A.takeK (L:=L) (en:=.blk cs) ⟨L,vs,rfl,by simpa using BT [] cs hc,hb⟩ rfl (fun i e M h _ _=>by rw [κ1]at h;cases h) (.inl (by simp))
 exact k (A1.slotEq t ht (by unfold den;rfl))
theorem NP (A:Sy n T H ks G0 w0 G a w)(i:Nat){L:Loc}{cs:List SV}{vs:List Value}(hi:lg H i=some (some (.blk cs)))(hG:G[i]?=some (some L))(hc:Al [] cs=some vs):EV w L.b (L.pre++vs++L.post).toArray L.t:=by
 rw [BI]at hi
 obtain⟨M,us,p1,p2,p3⟩:=A.mem.ent i _ hi
 rw [hG]at p1
 cases p1
 have:Al G cs=some vs:=by simpa using BT G cs hc
 rw [this]at p2
 cases p2
 exact p3
theorem Om {cs:List SV}{L:Loc}{bs:List Nat}(b:Nat)(hb:(keys [some (.blk cs)] [some L]).contains b=true):(L.b::bs).contains b=true:=by
 have h:b=L.b:=by simpa using (show [L.b].contains b=true from hb)
 rw [h,ζ3,beq_self_eq_true,Bool.true_or]
theorem Ii {cs:List SV}{L:Loc}(h:G[0]?=some (some L)):keys [some (.blk cs)] (G.take 1)=[L.b]:=by
 match G,h with
 |x::_,h=>cases h;rfl
end
theorem eE (f v a s:Int):Ie f v a s=Jd f v a s:=rfl
theorem eF {m r:Rg}{i:In}(hr:((i.op==4)||(i.op==6))=true)(By:C4 i=true)(hs:i.sz=1∨i.sz=2∨i.sz=4∨i.sz=8)(hm:inr (m i.loc.toNat)):IC r i (Int.fdiv (m i.loc.toNat) (2^min (8*GZ r i).toNat (IntKind.bits .i64)))=IC r i (Iz m r i):=by
 unfold IC Iz
 rw [if_pos hr,if_pos hr,if_pos By,(VJ (Ez hs) hm).1,(VJ (Ez hs) hm).2]
theorem eG {r:Rg}{i:In}(hr:((i.op==4)||(i.op==6))=false)(x y:Int):IC r i x=IC r i y:=by
 unfold IC;rw [if_neg (α8 hr),if_neg (α8 hr)]
theorem nV {i:In}(hr:((i.op==4)||(i.op==6))=true):C4 i=true:=by
 simp only [β9,ε4]at hr;unfold C4
 rcases hr with h|h<;>rw [h]<;>rfl
theorem VV {i:In}(hr:Re i=true):C4 i=true:=by
 unfold Re at hr
 simp only [β9,ε4]at hr;unfold C4
 rcases hr with h|h<;>rw [h]<;>rfl
theorem VW {i:In}(hm:C4 i=true):YE i=i.loc:=by
 have h:=Ky hm
 unfold YE
 rw [if_pos (by simp only [β9,ε4];omega)]
theorem VX {r:Rg}{i:In}(hm:C4 i=true)(hs:i.sz=1∨i.sz=2∨i.sz=4∨i.sz=8):YF r i=CS (GZ r i) i.sz:=by
 have h:=Ky hm
 unfold YF CS
 rw [if_pos (by simp only [β9,ε4];omega),VE (Ez hs)]
theorem VY {i:In}{r:Rg}(h5:i.op=5)(ha: -1≤i.ra∧i.ra<8):Gs r i=Bz (GV r i) i.sz:=by
 have hm:C4 i=true:=by unfold C4;rw [h5];rfl
 unfold Gs GV DT
 rw [hm,if_pos rfl,if_pos h5,h5]
 by_cases h:i.ra= -1
 ·rw [h];rfl
 ·have h2:¬i.ra<0:=by omega
  rw [if_neg h,if_neg h,η8 h2];rfl
theorem eI {i:In}{r:Rg}(h6:i.op=6)(ha:0≤i.ra∧i.ra<8):Gs r i=GV r i:=by
 have hm:C4 i=true:=by unfold C4;rw [h6];rfl
 unfold Gs GV DT
 have h:¬i.ra= -1:=by omega
 rw [hm,if_pos rfl,if_neg (by omega),if_pos h6,h6,if_neg h];rfl
theorem nW {m r:Rg}{i:In}(hw:Re i=true)(hr:((i.op==4)||(i.op==6))=false)(hs:X0 i)(old:Int):VO r i old=HV i (BS (m i.loc.toNat) (GZ r i) i.sz) (Gs r i):=by
 unfold Re at hw
 simp only [β9,ε4,δ6,δ1,ne_eq]at hw hr
 have h5:i.op=5:=by omega
 unfold VO HV
 rw [if_neg (by omega),if_pos h5,if_neg (by simp only [β9,ε4];omega),VY h5 (hs.a5 h5)]
theorem nX {m r:Rg}{i:In}(hw:Re i=true)(hr:((i.op==4)||(i.op==6))=true)(hs:X0 i)(hz:i.sz=1∨i.sz=2∨i.sz=4∨i.sz=8)(hm:inr (m i.loc.toNat)):VO r i (Int.fdiv (m i.loc.toNat) (2^min (8*GZ r i).toNat (IntKind.bits .i64)))=HV i (BS (m i.loc.toNat) (GZ r i) i.sz) (Gs r i):=by
 have a8:=hr
 unfold Re at hw
 simp only [β9,ε4]at hw hr
 have h6:i.op=6:=by omega
 unfold VO HV
 rw [if_pos h6,if_pos a8,(VJ (Ez hz) hm).1,eI h6 (hs.a (.inr (.inr (.inl h6)))),eE]
theorem Z5 {m r:Rg}{i:In}(hw:Re i=true):EU m r i=Bk m i.loc.toNat (Bm (m i.loc.toNat) (GZ r i) i.sz (HV i (BS (m i.loc.toNat) (GZ r i) i.sz) (Gs r i))):=by
 unfold EU;rw [if_pos (VV hw),if_pos hw]
theorem Z6 {m r:Rg}{i:In}(hw:Re i=false):EU m r i=m:=by
 unfold EU;split
 ·rw [if_neg (α8 hw)]
 ·rfl
theorem Rm {i:In}(hw:Re i=true)(hs:X0 i)(old:Int)(r:Rg):inr (HV i old (Gs r i)):=by
 unfold Re at hw
 simp only [β9,ε4]at hw
 unfold HV
 split
 ·exact VK _ _ _ _
 ·next h=>
  simp only [β9,ε4]at h
  have h5:i.op=5:=by omega
  rw [VY h5 (hs.a5 h5)];exact Kz _ _
theorem Rn {m r:Rg}{i:In}(h:∀k,k<3→inr (m k)):∀k,k<3→inr (EU m r i k):=fun k hk=>by
 unfold EU
 split
 ·split
  ·unfold Bk
   split
   ·next e=>subst e;exact VL _ _ _ (h _ hk)
   ·exact h k hk
  ·exact h k hk
 ·exact h k hk
theorem nY (l:List In)(ao:Option Addr)(cp:Nat)(at_:Int)(r:Rg)(pv:Value)(i:In)(hs:i.sz=1∨i.sz=2∨i.sz=4∨i.sz=8)(hx: -1≤i.ix∧i.ix<8):Fn Tryz.prog 63 [.el 0 11 0 0,.agg (C3 i)] [some (.lst 11 1 (fun _=>FR (.sla ao l.length cp) r at_ (.v pv)))] (Rt (.agg [.int .i64 i.loc,.int .i64 (CS (GZ r i) i.sz)]) [some (.lst 11 1 (fun _=>FR (.sla ao l.length cp) r at_ (.v pv)))]):=by
 have h:=dZ l ao cp at_ r pv i hs hx
 have e:Bl (A7 i.off (DT r i.ix 0) i.sz) i.sz=CS (GZ r i) i.sz:=by unfold CS;rw [VE (Ez hs)]
 rw [e]at h
 exact h
theorem u9 (tv:Nat→Value)(m:Nat→Int)(cs:List Ak)(ts:List Th)(nn:Nat)(ra:Option Addr)(rc:Nat)(tr:List Tr)(DL:Loc)(th at_:Int)(jI:tr.length=nn)(PF:ts.length=nn)(hle:nn≤cs.length)(EP:nn≤3)(qQ:0≤th∧th<((nn:Nat):Int))(Hn:Fs (cs.getD ((th).toNat) Ak.z).l)(Et:(BZ ts th).at_<(cs.getD ((th).toNat) Ak.z).l.length)(kE:∀k,k<3→inr (m k)):PG Tryz.prog 16 [GP DL.b DL.pre.length,.agg [.int .i64 2,.int .i64 th,.int .i64 at_,.z9]] [] (DL.b::En tr) (yO tv m cs ts nn ra rc tr DL) (nT tv (EU m (BZ ts th).r (Ax cs ts th)) cs (CR cs ts th (Iz m (BZ ts th).r (Ax cs ts th))) nn ra rc tr DL):=
 Gq (n:=103) (by kernel_rfl) Tryz.func16 rfl rfl rfl (fun i e h=>by rw [κ1]at h;cases h) fun G w a h0 ho hp A=>have I1:(th).toNat<nn:=(by omega);have kD:X0 (Ax cs ts th):=Hn.snd Et;have jJ:((Ax cs ts th).op=4∨(Ax cs ts th).op=5∨(Ax cs ts th).op=6)→((Ax cs ts th).sz=1∨(Ax cs ts th).sz=2∨(Ax cs ts th).sz=4∨(Ax cs ts th).sz=8):=Hn.szs Et;have jK:((Ax cs ts th).op=4∨(Ax cs ts th).op=5∨(Ax cs ts th).op=6)→(0≤(Ax cs ts th).loc∧(Ax cs ts th).loc<3):=Hn.loc Et;nU 0 A hp.blk rfl rfl fun A=>have B:=A;have A:=B.base;have h0:=B.mem.len;have hG:[some DL][0]?=some (some DL):=rfl;have xO:JT cs ts tr 0 _ (keys [some (.blk (dS tv m nn ra rc))] [some DL]):=hp.jt;have qW:An cs _ (keys [some (.blk (dS tv m nn ra rc))] [some DL]):=An.ok _ _ _ _ hp.cd (DO.refl _ _) (fun b hb=>.inl (Om b hb));have hI:NN cs ts nn ra (fun k=>(tr.getD k Tr.z).L.b) (fun k=>(tr.getD k Tr.z).L.pre.length) (fun k=>(cs.getD k Ak.z).ao) (fun k=>(cs.getD k Ak.z).cp) (fun k=>PH (tr.getD k Tr.z).pb (tr.getD k Tr.z).ps.length) _ _:=⟨At.ok _ _ _ _ hp.row (DO.refl _ _) (fun b hb=>.inl (Om b hb)),JT.look2 (z:=tr) xO qW qW jI hle (fun _ _=>rfl) (fun _ _=>rfl)⟩;
 N9 9 A rfl rfl fun A=>N9 9 A rfl rfl fun A=>have A:=Ai A 15 (.ff) rfl (fun _=>rfl);N9 6 A rfl rfl fun A=>have Eb:At (some ⟨(tr.getD (th).toNat Tr.z).L.b,(tr.getD (th).toNat Tr.z).L.pre.length,none⟩) 11 1 (fun _=>FR (.sla (cs.getD ((th).toNat) Ak.z).ao (cs.getD ((th).toNat) Ak.z).l.length (cs.getD ((th).toNat) Ak.z).cp) (BZ ts th).r (((BZ ts th).at_:Nat):Int) (.v (PH (tr.getD (th).toNat Tr.z).pb (tr.getD (th).toNat Tr.z).ps.length))) _ _:=(hI.2.2 (th).toNat I1).1;have EO:F9 (cs.getD ((th).toNat) Ak.z).ao (cs.getD ((th).toNat) Ak.z).l _ _:=(hI.2.2 (th).toNat I1).2;N9 4 A rfl rfl fun A=>A9 A rfl (BN (X:=⟨_,true⟩) (out:=.val (.sla ra nn rc) []) hX rfl Ah) fun A=>N9 1 A rfl rfl fun A=>A9 A rfl (Hz (e:=99) rfl rfl rfl rfl hI.1 (by kernel_rfl) (by omega)) fun A=>A9 A rfl (ND (q:=0) (r:=[.v (.pointer (some ⟨(tr.getD (th).toNat Tr.z).L.b,(tr.getD (th).toNat Tr.z).L.pre.length,none⟩))]) (v:=.v (.pointer (some ⟨(tr.getD (th).toNat Tr.z).L.b,(tr.getD (th).toNat Tr.z).L.pre.length,none⟩))) hX rfl rfl rfl hI.1 (by omega) rfl rfl rfl) fun A=>N9 4 A rfl rfl fun A=>JO By [.v (.pointer (some ⟨(tr.getD (th).toNat Tr.z).L.b,(tr.getD (th).toNat Tr.z).L.pre.length,none⟩)),.v (.pointer (some ⟨(tr.getD (th).toNat Tr.z).L.b,(tr.getD (th).toNat Tr.z).L.pre.length,none⟩)),.v (.pointer (some ⟨(tr.getD (th).toNat Tr.z).L.b,(tr.getD (th).toNat Tr.z).L.pre.length+0,none⟩)),.sla ((cs.getD ((th).toNat) Ak.z).ao) ((cs.getD ((th).toNat) Ak.z).l.length) ((cs.getD ((th).toNat) Ak.z).cp),.v (.pointer (some ⟨(tr.getD (th).toNat Tr.z).L.b,(tr.getD (th).toNat Tr.z).L.pre.length,none⟩)),.v (.pointer (some ⟨(tr.getD (th).toNat Tr.z).L.b,(tr.getD (th).toNat Tr.z).L.pre.length,none⟩)),.v (.pointer (some ⟨(tr.getD (th).toNat Tr.z).L.b,(tr.getD (th).toNat Tr.z).L.pre.length+9,none⟩)),.int .i64 (((BZ ts th).at_:Nat):Int),.v (.pointer (Ty ((cs.getD ((th).toNat) Ak.z).ao) 17 (((BZ ts th).at_:Nat):Int))),.agg (A5 (Ax cs ts th)),.ptr 2 0,.tup []] [10,11] [2] 1 [([],[2],[some (.blk (dS tv m nn ra rc)),some (.blk [.int .i64 2,.int .i64 th,.int .i64 at_,.z9]),none]),([10],[],[some (.blk (dS tv m nn ra rc)),some (.blk [.int .i64 2,.int .i64 th,.int .i64 at_,.z9]),some (.blk [.z9,.z9,.z9,.z9,.z9,.z9,.z9,.z9,.z9,.z9,.ff,.ff,.ff,.z9,.z9,.z9,.ff])]),([10,11],[],[some (.blk (dS tv m nn ra rc)),some (.blk [.int .i64 2,.int .i64 th,.int .i64 at_,.z9]),some (.blk (A5 (Ax cs ts th)))])] [[true,true,true,true,true,true,true,true,true,true,true,false],[true,true,true,true,true,true,true,true,true,true,false,true],[false,false,false,false,false,false,false,false,false,false,false,false]] A rfl rfl rfl rfl (by kernel_rfl) rfl (by kernel_rfl) ⟨⟨Ao 0 rfl rfl,⟨CF 0 rfl (Le rfl rfl rfl),⟨CF 0 rfl (Lf rfl rfl rfl (by kernel_rfl)),⟨CF 0 rfl (XO (q:=0) (v:=.sla ((cs.getD ((th).toNat) Ak.z).ao) ((cs.getD ((th).toNat) Ak.z).l.length) ((cs.getD ((th).toNat) Ak.z).cp)) hX rfl rfl rfl Eb rfl rfl rfl),⟨Ao 0 rfl rfl,⟨CF 0 rfl (Le rfl rfl rfl),⟨CF 0 rfl (Lf rfl rfl rfl (by kernel_rfl)),⟨CF 0 rfl (XO (q:=9) (v:=.int .i64 (((BZ ts th).at_:Nat):Int)) hX rfl rfl rfl Eb rfl rfl rfl),⟨CF 0 rfl (Hz (e:=63) rfl rfl rfl rfl EO (by kernel_rfl) (by omega)),⟨CF 0 rfl (Po (C3 (Ax cs ts th)) hX rfl rfl rfl EO (by omega) rfl rfl),⟨⟨_,_,_,_,1,rfl,rfl,rfl,rfl,Eh 2 (X:=⟨_,true⟩) hX rfl rfl (Ph h0 rfl) rfl rfl rfl rfl⟩,trivial⟩⟩⟩⟩⟩⟩⟩⟩⟩⟩⟩,⟨⟨Ao 1 rfl rfl,⟨CF 1 rfl (Le rfl rfl rfl),⟨CF 1 rfl (Lf rfl rfl rfl (by kernel_rfl)),⟨CF 1 rfl (XO (q:=0) (v:=.sla ((cs.getD ((th).toNat) Ak.z).ao) ((cs.getD ((th).toNat) Ak.z).l.length) ((cs.getD ((th).toNat) Ak.z).cp)) hX rfl rfl rfl Eb rfl rfl rfl),⟨Ao 1 rfl rfl,⟨CF 1 rfl (Le rfl rfl rfl),⟨CF 1 rfl (Lf rfl rfl rfl (by kernel_rfl)),⟨CF 1 rfl (XO (q:=9) (v:=.int .i64 (((BZ ts th).at_:Nat):Int)) hX rfl rfl rfl Eb rfl rfl rfl),⟨CF 1 rfl (Hz (e:=63) rfl rfl rfl rfl EO (by kernel_rfl) (by omega)),⟨CF 1 rfl (Po (C3 (Ax cs ts th)) hX rfl rfl rfl EO (by omega) rfl rfl),⟨CF 2 rfl (BN (X:=⟨_,true⟩) (out:=.upd 2 (A5 (Ax cs ts th)) _) hX rfl rfl),trivial⟩⟩⟩⟩⟩⟩⟩⟩⟩⟩⟩,⟨trivial,trivial⟩⟩⟩ fun A=>N9 10 A rfl rfl fun A=>C9 [] (Zp (Ax cs ts th)) A rfl fun A=>N9 2 A rfl rfl fun A=>fork 58 A rfl
  (fun hr A=>have By:=nV hr;have FL:=jJ (Ky By);have QV:=jK (Ky By);have qX:=Ez (r:=(BZ ts th).r) FL;N9 6 A rfl rfl fun A=>dA 61 Eb A rfl rfl fun A=>C9 [3] (nY ((cs.getD ((th).toNat) Ak.z).l) ((cs.getD ((th).toNat) Ak.z).ao) ((cs.getD ((th).toNat) Ak.z).cp) (((BZ ts th).at_:Nat):Int) ((BZ ts th).r) (PH (tr.getD (th).toNat Tr.z).pb (tr.getD (th).toNat Tr.z).ps.length) (Ax cs ts th) FL (kD.x (Ky By))) A rfl fun A=>C9 [0] (uR tv m nn ra rc th (Ax cs ts th).loc (GZ (BZ ts th).r (Ax cs ts th)) (Ax cs ts th).sz QV qX (by omega)) A rfl fun A=>N9 4 A rfl rfl fun A=>have A:=A.hide 3;N9 3 A rfl rfl fun A=>have hG:=A.at_pre hG;Z4 (z:=tr) (B.trans A) hp.cd (fun b hb=>.inl (by rw [ζ3,hb,σ0])) (JT.ok.now A xO) (β8 _) jI (fun _ _=>rfl) I1 PF hle rfl Hn (Int.fdiv (m ((Ax cs ts th).loc).toNat) (2^min (8*(GZ (BZ ts th).r (Ax cs ts th))).toNat (IntKind.bits .i64))) rfl Et rfl fun tr1 p {a w} Nn qY Nq PM B=>have Nn:=Nn.as (congrArg (fun r=>ts.set (th).toNat ⟨(BZ ts th).at_+1,r⟩) (eF hr By FL (kE _ (r8 QV))));have A:=B.base;have h0:=B.mem.len;N9 11 A rfl rfl fun A=>fork 69 A rfl
   (fun hw A=>have By:=VV hw;have FL:=jJ (Ky By);have QV:=jK (Ky By);have qX:=Ez (r:=(BZ ts th).r) FL;N9 2 A rfl rfl fun A=>have A:=A.sayH (H':=[some (.blk (dS tv m nn ra rc)),some (.blk [.int .i64 2,.int .i64 th,.int .i64 at_,.z9]),some (.blk (A5 (Ax cs ts th))),none,some (.blk [.z9,.int .i64 p,.int .i64 (((BZ ts th).at_:Nat):Int),.int .i64 ((Ax cs ts th).op),.int .i64 ((Ax cs ts th).loc),.int .i64 (CS (GZ (BZ ts th).r (Ax cs ts th)) (Ax cs ts th).sz),.bool (((Ax cs ts th).op==4)||((Ax cs ts th).op==6)),.bool (((Ax cs ts th).op==5)||((Ax cs ts th).op==6)),.int .i64 (Nr (Ax cs ts th) (Int.fdiv (m ((Ax cs ts th).loc).toNat) (2^min (8*(GZ (BZ ts th).r (Ax cs ts th))).toNat (IntKind.bits .i64)))),.int .i64 (HV (Ax cs ts th) (BS (m (Ax cs ts th).loc.toNat) (GZ (BZ ts th).r (Ax cs ts th)) (Ax cs ts th).sz) (Gs (BZ ts th).r (Ax cs ts th))),.bool ((Ax cs ts th).acq),.bool ((Ax cs ts th).weak),.bool ((Ax cs ts th).rel),.int .i64 ((Ax cs ts th).pred),.int .i64 ((Ax cs ts th).succ)])]) (by rw [VW By,VX By FL,(nX hw hr kD FL (kE _ (r8 QV)))]);N9 27 A rfl rfl fun A=>C9 [0] (Z2 tv m nn ra rc (Ax cs ts th).loc (GZ (BZ ts th).r (Ax cs ts th)) (Ax cs ts th).sz (HV (Ax cs ts th) (BS (m (Ax cs ts th).loc.toNat) (GZ (BZ ts th).r (Ax cs ts th)) (Ax cs ts th).sz) (Gs (BZ ts th).r (Ax cs ts th))) QV qX (kE _ (r8 QV)) (Rm hw kD _ _)) A rfl fun A=>N9 4 A rfl rfl fun A=>have hG:=A.at_pre hG;NO (z:=tr) (B.trans A) hp.cd PM (JT.ok.now A Nn) (β8 _) qY Nq I1 (by rw [θ7];exact PF) hle rfl Hn (Jc (by omega)) (π0 Et) rfl fun tr2 {a w x} PB jL Ma JW B=>have PB:=PB.as (HP rfl Et);have A:=B.base;have h0:=B.mem.len;N9 1 A rfl rfl fun A=>Ee (have A:=A.sayH (H':=[some (.blk (dS tv (EU m (BZ ts th).r (Ax cs ts th)) nn ra rc)),some (.blk [.int .i64 2,.int .i64 th,.int .i64 at_,.z9]),some (.blk (A5 (Ax cs ts th))),none,some (.blk [.z9,.int .i64 p,.int .i64 (((BZ ts th).at_:Nat):Int),.int .i64 ((Ax cs ts th).op),.int .i64 ((Ax cs ts th).loc),.int .i64 (CS (GZ (BZ ts th).r (Ax cs ts th)) (Ax cs ts th).sz),.bool (((Ax cs ts th).op==4)||((Ax cs ts th).op==6)),.bool (((Ax cs ts th).op==5)||((Ax cs ts th).op==6)),.int .i64 (Nr (Ax cs ts th) (Int.fdiv (m ((Ax cs ts th).loc).toNat) (2^min (8*(GZ (BZ ts th).r (Ax cs ts th))).toNat (IntKind.bits .i64)))),.int .i64 (HV (Ax cs ts th) (BS (m (Ax cs ts th).loc.toNat) (GZ (BZ ts th).r (Ax cs ts th)) (Ax cs ts th).sz) (Gs (BZ ts th).r (Ax cs ts th))),.bool ((Ax cs ts th).acq),.bool ((Ax cs ts th).weak),.bool ((Ax cs ts th).rel),.int .i64 ((Ax cs ts th).pred),.int .i64 ((Ax cs ts th).succ)]),some (.blk [.int .i64 ((Ax cs ts th).loc),.int .i64 (CS (GZ (BZ ts th).r (Ax cs ts th)) (Ax cs ts th).sz),.int .i64 (HV (Ax cs ts th) (BS (m (Ax cs ts th).loc.toNat) (GZ (BZ ts th).r (Ax cs ts th)) (Ax cs ts th).sz) (Gs (BZ ts th).r (Ax cs ts th)))])]) (by rw [Z5 hw]);have C:=B.trans A;have hG:=A.at_pre hG;Hw (J:=nT tv (EU m (BZ ts th).r (Ax cs ts th)) cs (CR cs ts th (Iz m (BZ ts th).r (Ax cs ts th))) nn ra rc tr DL) hX C rfl rfl rfl rfl ⟨tr2,NP A 0 rfl hG rfl,(Ii hG)▸(JT.ok.now A PB).take 1,jL,Ma,JW⟩))
   (fun hw A=>N9 5 A rfl rfl fun A=>have hG:=A.at_pre hG;NO (z:=tr) (B.trans A) hp.cd PM (JT.ok.now A Nn) (β8 _) qY Nq I1 (by rw [θ7];exact PF) hle rfl Hn (Jc (by omega)) (π0 Et) rfl fun tr2 {a w x} PB jL Ma JW B=>have PB:=PB.as (HP rfl Et);have A:=B.base;have h0:=B.mem.len;N9 1 A rfl rfl fun A=>Ee (have A:=A.sayH (H':=[some (.blk (dS tv (EU m (BZ ts th).r (Ax cs ts th)) nn ra rc)),some (.blk [.int .i64 2,.int .i64 th,.int .i64 at_,.z9]),some (.blk (A5 (Ax cs ts th))),none,some (.blk [.z9,.int .i64 p,.int .i64 (((BZ ts th).at_:Nat):Int),.int .i64 ((Ax cs ts th).op),.int .i64 (YE (Ax cs ts th)),.int .i64 (YF (BZ ts th).r (Ax cs ts th)),.bool (((Ax cs ts th).op==4)||((Ax cs ts th).op==6)),.bool (((Ax cs ts th).op==5)||((Ax cs ts th).op==6)),.int .i64 (Nr (Ax cs ts th) (Int.fdiv (m ((Ax cs ts th).loc).toNat) (2^min (8*(GZ (BZ ts th).r (Ax cs ts th))).toNat (IntKind.bits .i64)))),.int .i64 (VO (BZ ts th).r (Ax cs ts th) (Int.fdiv (m ((Ax cs ts th).loc).toNat) (2^min (8*(GZ (BZ ts th).r (Ax cs ts th))).toNat (IntKind.bits .i64)))),.bool ((Ax cs ts th).acq),.bool ((Ax cs ts th).weak),.bool ((Ax cs ts th).rel),.int .i64 ((Ax cs ts th).pred),.int .i64 ((Ax cs ts th).succ)])]) (by rw [Z6 hw]);have C:=B.trans A;have hG:=A.at_pre hG;Hw (J:=nT tv (EU m (BZ ts th).r (Ax cs ts th)) cs (CR cs ts th (Iz m (BZ ts th).r (Ax cs ts th))) nn ra rc tr DL) hX C rfl rfl rfl rfl ⟨tr2,NP A 0 rfl hG rfl,(Ii hG)▸(JT.ok.now A PB).take 1,jL,Ma,JW⟩)))
  (fun hr A=>N9 4 A rfl rfl fun A=>N9 3 A rfl rfl fun A=>have hG:=A.at_pre hG;Z4 (z:=tr) (B.trans A) hp.cd (fun b hb=>.inl (by rw [ζ3,hb,σ0])) (JT.ok.now A xO) (β8 _) jI (fun _ _=>rfl) I1 PF hle rfl Hn 0 rfl Et rfl fun tr1 p {a w} Nn qY Nq PM B=>have Nn:=Nn.as (congrArg (fun r=>ts.set (th).toNat ⟨(BZ ts th).at_+1,r⟩) (eG hr 0 (Iz m (BZ ts th).r (Ax cs ts th))));have A:=B.base;have h0:=B.mem.len;N9 11 A rfl rfl fun A=>fork 69 A rfl
   (fun hw A=>have By:=VV hw;have FL:=jJ (Ky By);have QV:=jK (Ky By);have qX:=Ez (r:=(BZ ts th).r) FL;N9 2 A rfl rfl fun A=>have A:=A.sayH (H':=[some (.blk (dS tv m nn ra rc)),some (.blk [.int .i64 2,.int .i64 th,.int .i64 at_,.z9]),some (.blk (A5 (Ax cs ts th))),some (.blk [.z9,.int .i64 p,.int .i64 (((BZ ts th).at_:Nat):Int),.int .i64 ((Ax cs ts th).op),.int .i64 ((Ax cs ts th).loc),.int .i64 (CS (GZ (BZ ts th).r (Ax cs ts th)) (Ax cs ts th).sz),.bool (((Ax cs ts th).op==4)||((Ax cs ts th).op==6)),.bool (((Ax cs ts th).op==5)||((Ax cs ts th).op==6)),.int .i64 (Nr (Ax cs ts th) 0),.int .i64 (HV (Ax cs ts th) (BS (m (Ax cs ts th).loc.toNat) (GZ (BZ ts th).r (Ax cs ts th)) (Ax cs ts th).sz) (Gs (BZ ts th).r (Ax cs ts th))),.bool ((Ax cs ts th).acq),.bool ((Ax cs ts th).weak),.bool ((Ax cs ts th).rel),.int .i64 ((Ax cs ts th).pred),.int .i64 ((Ax cs ts th).succ)])]) (by rw [VW By,VX By FL,(nW (m:=m) hw hr kD 0)]);N9 27 A rfl rfl fun A=>C9 [0] (Z2 tv m nn ra rc (Ax cs ts th).loc (GZ (BZ ts th).r (Ax cs ts th)) (Ax cs ts th).sz (HV (Ax cs ts th) (BS (m (Ax cs ts th).loc.toNat) (GZ (BZ ts th).r (Ax cs ts th)) (Ax cs ts th).sz) (Gs (BZ ts th).r (Ax cs ts th))) QV qX (kE _ (r8 QV)) (Rm hw kD _ _)) A rfl fun A=>N9 4 A rfl rfl fun A=>have hG:=A.at_pre hG;NO (z:=tr) (B.trans A) hp.cd PM (JT.ok.now A Nn) (β8 _) qY Nq I1 (by rw [θ7];exact PF) hle rfl Hn (Jc (by omega)) (π0 Et) rfl fun tr2 {a w x} PB jL Ma JW B=>have PB:=PB.as (HP rfl Et);have A:=B.base;have h0:=B.mem.len;N9 1 A rfl rfl fun A=>Ee (have A:=A.sayH (H':=[some (.blk (dS tv (EU m (BZ ts th).r (Ax cs ts th)) nn ra rc)),some (.blk [.int .i64 2,.int .i64 th,.int .i64 at_,.z9]),some (.blk (A5 (Ax cs ts th))),some (.blk [.z9,.int .i64 p,.int .i64 (((BZ ts th).at_:Nat):Int),.int .i64 ((Ax cs ts th).op),.int .i64 ((Ax cs ts th).loc),.int .i64 (CS (GZ (BZ ts th).r (Ax cs ts th)) (Ax cs ts th).sz),.bool (((Ax cs ts th).op==4)||((Ax cs ts th).op==6)),.bool (((Ax cs ts th).op==5)||((Ax cs ts th).op==6)),.int .i64 (Nr (Ax cs ts th) 0),.int .i64 (HV (Ax cs ts th) (BS (m (Ax cs ts th).loc.toNat) (GZ (BZ ts th).r (Ax cs ts th)) (Ax cs ts th).sz) (Gs (BZ ts th).r (Ax cs ts th))),.bool ((Ax cs ts th).acq),.bool ((Ax cs ts th).weak),.bool ((Ax cs ts th).rel),.int .i64 ((Ax cs ts th).pred),.int .i64 ((Ax cs ts th).succ)]),some (.blk [.int .i64 ((Ax cs ts th).loc),.int .i64 (CS (GZ (BZ ts th).r (Ax cs ts th)) (Ax cs ts th).sz),.int .i64 (HV (Ax cs ts th) (BS (m (Ax cs ts th).loc.toNat) (GZ (BZ ts th).r (Ax cs ts th)) (Ax cs ts th).sz) (Gs (BZ ts th).r (Ax cs ts th)))])]) (by rw [Z5 hw]);have C:=B.trans A;have hG:=A.at_pre hG;Hw (J:=nT tv (EU m (BZ ts th).r (Ax cs ts th)) cs (CR cs ts th (Iz m (BZ ts th).r (Ax cs ts th))) nn ra rc tr DL) hX C rfl rfl rfl rfl ⟨tr2,NP A 0 rfl hG rfl,(Ii hG)▸(JT.ok.now A PB).take 1,jL,Ma,JW⟩))
   (fun hw A=>N9 5 A rfl rfl fun A=>have hG:=A.at_pre hG;NO (z:=tr) (B.trans A) hp.cd PM (JT.ok.now A Nn) (β8 _) qY Nq I1 (by rw [θ7];exact PF) hle rfl Hn (Jc (by omega)) (π0 Et) rfl fun tr2 {a w x} PB jL Ma JW B=>have PB:=PB.as (HP rfl Et);have A:=B.base;have h0:=B.mem.len;N9 1 A rfl rfl fun A=>Ee (have A:=A.sayH (H':=[some (.blk (dS tv (EU m (BZ ts th).r (Ax cs ts th)) nn ra rc)),some (.blk [.int .i64 2,.int .i64 th,.int .i64 at_,.z9]),some (.blk (A5 (Ax cs ts th))),some (.blk [.z9,.int .i64 p,.int .i64 (((BZ ts th).at_:Nat):Int),.int .i64 ((Ax cs ts th).op),.int .i64 (YE (Ax cs ts th)),.int .i64 (YF (BZ ts th).r (Ax cs ts th)),.bool (((Ax cs ts th).op==4)||((Ax cs ts th).op==6)),.bool (((Ax cs ts th).op==5)||((Ax cs ts th).op==6)),.int .i64 (Nr (Ax cs ts th) 0),.int .i64 (VO (BZ ts th).r (Ax cs ts th) 0),.bool ((Ax cs ts th).acq),.bool ((Ax cs ts th).weak),.bool ((Ax cs ts th).rel),.int .i64 ((Ax cs ts th).pred),.int .i64 ((Ax cs ts th).succ)])]) (by rw [Z6 hw]);have C:=B.trans A;have hG:=A.at_pre hG;Hw (J:=nT tv (EU m (BZ ts th).r (Ax cs ts th)) cs (CR cs ts th (Iz m (BZ ts th).r (Ax cs ts th))) nn ra rc tr DL) hX C rfl rfl rfl rfl ⟨tr2,NP A 0 rfl hG rfl,(Ii hG)▸(JT.ok.now A PB).take 1,jL,Ma,JW⟩)))
end Go.Proofs.YtbbdanhpphlbpaaGreatDoor.Mc
namespace Go.Proofs.YtbbdanhpphlbpaaGreatDoor
open Go.Shelf Go.RowKit
def On:Go.Shelf.Ren:=⟨fun|137=>207|217=>233|266=>264|n=>n,fun|9=>9|5=>5|3=>3|n=>n,fun|n=>n⟩
theorem YI:Go.Proofs.Lays.n137 Tryz.prog On:={
 mixed:=by kernel_rfl
 f137:=Tryz.func207.trans (congrArg some (by kernel_rfl))
 f217:=Tryz.func233.trans (congrArg some (by kernel_rfl))
 f266:=Tryz.func264.trans (congrArg some (by kernel_rfl))
 t3:=Tryz.underlying3
 a3:=Tryz.isAgg3
 z3:=Tryz.sizeOf3
 v3:=Tryz.zeroValue3
 t5:=Tryz.underlying5
 a5:=Tryz.isAgg5
 z5:=Tryz.sizeOf5
 v5:=Tryz.zeroValue5
 t9:=Tryz.underlying9
 a9:=Tryz.isAgg9
 z9:=Tryz.sizeOf9
 v9:=Tryz.zeroValue9}
def Oo:Go.Shelf.Ren:=⟨fun|143=>152|219=>203|217=>233|225=>234|224=>235|267=>236|266=>264|314=>265|n=>n,fun|9=>9|3=>3|4=>4|5=>5|46=>188|146=>278|51=>226|n=>n,fun|1=>0|n=>n⟩
theorem YJ:Go.Proofs.Lays.n143 Tryz.prog Oo:={
 mixed:=by kernel_rfl
 f143:=Tryz.func152.trans (congrArg some (by kernel_rfl))
 f217:=Tryz.func233.trans (congrArg some (by kernel_rfl))
 f219:=Tryz.func203.trans (congrArg some (by kernel_rfl))
 f224:=Tryz.func235.trans (congrArg some (by kernel_rfl))
 f225:=Tryz.func234.trans (congrArg some (by kernel_rfl))
 f266:=Tryz.func264.trans (congrArg some (by kernel_rfl))
 f267:=Tryz.func236.trans (congrArg some (by kernel_rfl))
 f314:=Tryz.func265.trans (congrArg some (by kernel_rfl))
 t3:=Tryz.underlying3
 a3:=Tryz.isAgg3
 z3:=Tryz.sizeOf3
 v3:=Tryz.zeroValue3
 t4:=Tryz.underlying4
 a4:=Tryz.isAgg4
 z4:=Tryz.sizeOf4
 v4:=Tryz.zeroValue4
 t5:=Tryz.underlying5
 a5:=Tryz.isAgg5
 z5:=Tryz.sizeOf5
 v5:=Tryz.zeroValue5
 t9:=Tryz.underlying9
 a9:=Tryz.isAgg9
 z9:=Tryz.sizeOf9
 v9:=Tryz.zeroValue9
 t46:=Tryz.underlying188
 a46:=Tryz.isAgg188
 z46:=Tryz.sizeOf188
 v46:=Tryz.zeroValue188
 t51:=Tryz.underlying226
 a51:=Tryz.isAgg226
 z51:=Tryz.sizeOf226
 v51:=Tryz.zeroValue226
 t146:=Tryz.underlying278
 a146:=Tryz.isAgg278
 z146:=Tryz.sizeOf278
 v146:=Tryz.zeroValue278
 g1:=by kernel_rfl}
def Gv:List UInt8:=[123,125,40,41,91,93,59,124,44,58,61,43,45,35,36,126,42,47,92,38,63,94]
def VZ (b:UInt8):Bool:=Gv.contains b
theorem Gw (l:List UInt8)(b:UInt8):decide (Lib.indexByte l b≥0)=l.contains b:=by
 induction l with
 |nil=>rfl
 | cons x l ih=>
  unfold Lib.indexByte
  rw [ζ3]
  by_cases h:x=b
  ·subst h;simp
  ·have h1:(x==b)=false:=by simp [h]
   have h2:(b==x)=false:=by simp [ζ1 h]
   rw [h1,h2]
   simp only [θ1,ξ7,Bool.false_or]
   rw [←ih]
   have h3:=Lib.indexByte_ge l b
   by_cases h4:Lib.indexByte l b= -1
   ·simp [h4]
   ·have h5:(Lib.indexByte l b== -1)=false:=by simp [h4]
    rw [h5]
    simp only [θ1,ξ7]
    exact τ9.2 (by omega)
theorem Lh (b:UInt8)(w:World):Calls Tryz.prog 207 #[.string (S Gv),.int .u8 ((b.toNat:Nat):Int)] w fun e w'=>e=.returned (.int .i64 (Lib.indexByte Gv b))∧CI w w':=by
 refine(Any.strings_IndexByte YI (S Gv) ((b.toNat:Nat):Int) w).mono ?_
 rintro e w' ⟨rfl,rfl⟩
 refine⟨?_,CI.refl _⟩
 rw [FN,β5]
 simp
theorem Sw (l q:List UInt8)(m:Int)(w:World)(hl:l.length≤8192)(hm:w.cell? ⟨0,0,none⟩=some (.int .i64 m)):Calls Tryz.prog 152 #[.string (S l),.string (S q)] w fun e w'=>e=.returned (.int .i64 (Lib.index l q))∧CI w w':=by
 refine(Any.strings_Index YJ (S l) (S q) m w (by rw [DV];omega) hm).mono ?_
 rintro e w' ⟨rfl,rfl⟩
 exact⟨by rw [FN,FN],CI.refl _⟩
end Go.Proofs.YtbbdanhpphlbpaaGreatDoor
namespace Go.Proofs.YtbbdanhpphlbpaaGreatDoor
def preB (l q:List UInt8):Bool:=decide (q.length≤l.length)&&(l.take q.length==q)
def Ei (l:List UInt8):Nat:=if preB l [47,92]||preB l [92,47]then 2 else if(match l[0]? with|some b=>VZ b|none=>false)then 1 else 0
theorem YK {l:List UInt8}(h:preB l [47,92]=true):Ei l=2:=by unfold Ei;simp [h]
theorem Va {l:List UInt8}(h:preB l [92,47]=true):Ei l=2:=by unfold Ei;simp [h]
theorem YL {l:List UInt8}{b:UInt8}(h1:preB l [47,92]=false)(h2:preB l [92,47]=false)(hb:l[0]?=some b)(h:decide (Lib.indexByte Gv b≥0)=true):Ei l=1:=by
 have:VZ b=true:=by unfold VZ;rw [←Gw];exact h
 unfold Ei;simp [h1,h2,hb,this]
theorem eJ {l:List UInt8}{b:UInt8}(h1:preB l [47,92]=false)(h2:preB l [92,47]=false)(hb:l[0]?=some b)(h:decide (Lib.indexByte Gv b≥0)=false):Ei l=0:=by
 have:VZ b=false:=by unfold VZ;rw [←Gw];exact h
 unfold Ei;simp [h1,h2,hb,this]
def EJ (l:List UInt8):Int:=Lib.index l [42,41]
theorem YM (l:List UInt8): -1≤EJ l:=Lib.index_ge l _
theorem YN {l:List UInt8}(n:Nat)(h:0<l.length)(hn:0<n):(l.drop n).length<l.length:=by rw [γ5];omega
def BP (l:List UInt8):Nat×Bool:=
 match l with
 | []=>(0,false)
 | b::r=>
  if HS b then((BP r).1+1,(BP r).2)
  else if preB (b::r) [40,42]then
   if EJ ((b::r).drop 2)<0 then(0,true)
   else((BP ((b::r).drop (EJ ((b::r).drop 2)).toNat.succ.succ.succ.succ)).1+((EJ ((b::r).drop 2)).toNat+4),(BP ((b::r).drop (EJ ((b::r).drop 2)).toNat.succ.succ.succ.succ)).2)
  else(0,false)
termination_by l.length
decreasing_by
 ·simp
 all_goals exact YN _ (by simp) (by omega)
theorem K2:BP []=(0,false):=by rw [BP]
theorem Vb {l:List UInt8}{n:Nat}(h:l.length≤n):BP (l.drop n)=(0,false):=by rw [ι0 h,K2]
theorem K3 {l:List UInt8}{n:Nat}{b:UInt8}(hb:l[n]?=some b)(h:HS b=true):BP (l.drop n)=((BP (l.drop (n+1))).1+1,(BP (l.drop (n+1))).2):=by
 rw [HC hb,BP,if_pos h]
theorem MC {l:List UInt8}{n:Nat}{b:UInt8}(hb:l[n]?=some b)(h:HS b=false)(hp:preB (l.drop n) [40,42]=false):BP (l.drop n)=(0,false):=by
 rw [HC hb]at hp⊢
 rw [BP,if_neg (by simp [h]),if_neg (by simp [hp])]
theorem MD {l:List UInt8}{n:Nat}{b:UInt8}(hb:l[n]?=some b)(h:HS b=false)(hp:preB (l.drop n) [40,42]=true)(he:EJ (l.drop (n+2))<0):BP (l.drop n)=(0,true):=by
 have e:l.drop (n+2)=(l.drop n).drop 2:=by rw [μ2]
 rw [e]at he
 rw [HC hb]at hp he⊢
 rw [BP,if_neg (by simp [h]),if_pos hp,if_pos he]
theorem Jg {l:List UInt8}{n:Nat}{b:UInt8}(hb:l[n]?=some b)(h:HS b=false)(hp:preB (l.drop n) [40,42]=true)(he:¬EJ (l.drop (n+2))<0):
  BP (l.drop n)=((BP (l.drop (n+2+(EJ (l.drop (n+2))).toNat+2))).1+((EJ (l.drop (n+2))).toNat+4),(BP (l.drop (n+2+(EJ (l.drop (n+2))).toNat+2))).2):=by
 have e:l.drop (n+2)=(l.drop n).drop 2:=by rw [μ2]
 have e2:l.drop (n+2+(EJ (l.drop (n+2))).toNat+2)=(l.drop n).drop (EJ (l.drop (n+2))).toNat.succ.succ.succ.succ:=by
  rw [μ2];congr 1;omega
 rw [e2,e]
 rw [e]at he
 rw [HC hb]at hp he⊢
 rw [BP,if_neg (by simp [h]),if_pos hp,if_neg he]
theorem Vc:EJ []= -1:=rfl
theorem Sx (b:UInt8)(l:List UInt8):EJ (b::l)=if [42,41].isPrefixOf (b::l)then 0 else if EJ l== -1 then -1 else EJ l+1:=by
 unfold EJ;rw [Lib.index]
theorem GF (l:List UInt8):EJ l<0∨(EJ l).toNat+2≤l.length:=by
 induction l with
 |nil=>exact .inl (by rw [Vc];omega)
 | cons b l ih=>
  rw [Sx]
  split
  ·next h=>
   right
   match l,h with
   | [],h=>simp at h
   |c::l,h=>simp
  ·split
   ·left;omega
   ·next h=>
    have h1:EJ l≠ -1:=by simpa using h
    have h2:=YM l
    rcases ih with h3|h3
    ·omega
    ·right;simp only [α5];omega
end Go.Proofs.YtbbdanhpphlbpaaGreatDoor
namespace Go.Proofs.YtbbdanhpphlbpaaGreatDoor
def Ij (l q:List UInt8):List UInt8:=if preB l q then l.drop q.length else l
theorem Eo {l q:List UInt8}(h:preB l q=true):q.length≤l.length:=by unfold preB at h;rw [α3]at h;exact δ0 h.1
end Go.Proofs.YtbbdanhpphlbpaaGreatDoor
namespace Go.Proofs.YtbbdanhpphlbpaaGreatDoor
open Go.RowKit
set_option simprocs false
theorem YO (l q:List UInt8):((decide ((l.length:Int)≥(q.length:Int)))&&((l.take ((q.length:Int)).toNat)==q))=preB l q:=by
 unfold preB;rw [β5];congr 1;exact τ9.2 (by omega)
theorem Z7 (l q:List UInt8):Fn Tryz.prog 202 [.str l,.str q] [] (Rt (.bool (preB l q)) []):=
 Am (n:=18) (by kernel_rfl) Tryz.func202 rfl rfl rfl fun G w a h0 A=>N9 24 A rfl (Bw<|Bw<|Bw<|Hu (fun hg=>(by have:=δ0 hg;omega))<|Bw<|Bw<|Bw<|Ah) fun A=>R9 A rfl h0 rfl (congrArg SV.bool (YO l q)) rfl
theorem Vd (l q:List UInt8):Fn Tryz.prog 151 [.str l,.str q] [] (Rt (.bool (preB l q)) []):=
 Am (n:=8) (by kernel_rfl) Tryz.func151 rfl rfl rfl fun G w a h0 A=>N9 9 A rfl rfl fun A=>C9 [] (Z7 l q) A rfl fun A=>N9 4 A rfl rfl fun A=>R9 A rfl h0 rfl rfl rfl
theorem eK (l q:List UInt8):Fn Tryz.prog 237 [.str l,.str q] [] (Rt (.tup [.str (Ij l q),.bool (preB l q)]) []):=
 Am (n:=15) (by kernel_rfl) Tryz.func237 rfl rfl rfl fun G w a h0 A=>N9 11 A rfl rfl fun A=>C9 [] (Z7 l q) A rfl fun A=>N9 3 A rfl rfl fun A=>fork 9 A rfl
  (fun h1 A=>N9 9 A rfl rfl fun A=>R9 A rfl h0 rfl (by have e:preB l q=false:=(by have:=h1;revert this;cases preB l q<;>simp);unfold Ij;rw [e];simp [BA,nb,CK]) rfl)
  (fun h1 A=>N9 14 A rfl (Aj (by have e:preB l q=true:=(by have:=h1;revert this;cases preB l q<;>simp);have:=Eo e;omega)<|Ah) fun A=>R9 A rfl h0 rfl (by have e:preB l q=true:=(by have:=h1;revert this;cases preB l q<;>simp);unfold Ij;rw [e];simp [BA,nb,CK]) rfl)
theorem nZ (l q:List UInt8):Fn Tryz.prog 204 [.str l,.str q] [] (Rt (.tup [.str (Ij l q),.bool (preB l q)]) []):=
 Am (n:=11) (by kernel_rfl) Tryz.func204 rfl rfl rfl fun G w a h0 A=>N9 10 A rfl rfl fun A=>C9 [] (eK l q) A rfl fun A=>N9 7 A rfl rfl fun A=>R9 A rfl h0 rfl rfl rfl
theorem vA (b:UInt8):Fn Tryz.prog 207 [.str Gv,.int .u8 ((b.toNat:Nat):Int)] [] (Rt (.int .i64 (Lib.indexByte Gv b)) []):=Xs (by kernel_rfl) rfl rfl (Lh b)
theorem eM {l:List UInt8}(h:0<l.length):l[0]?=some (l.getD (0:Int).toNat 0):=by simp [List.getD,h]
theorem eN (l:List UInt8)(hl:0<l.length):Fn Tryz.prog 159 [.str l] [] (Rt (.int .i64 ((Ei l:Nat):Int)) []):=
 Am (n:=13) (by kernel_rfl) Tryz.func159 rfl rfl rfl fun G w a h0 A=>N9 11 A rfl rfl fun A=>C9 [] (Vd l [47,92]) A rfl fun A=>N9 3 A rfl rfl fun A=>fork 3 A rfl
  (fun h1 A=>N9 10 A rfl rfl fun A=>R9 A rfl h0 rfl (by rw [YK h1];rfl) rfl)
  (fun h1 A=>N9 3 A rfl rfl fun A=>C9 [] (Vd l [92,47]) A rfl fun A=>N9 3 A rfl rfl fun A=>fork 3 A rfl
   (fun h2 A=>N9 7 A rfl rfl fun A=>R9 A rfl h0 rfl (by rw [Va h2];rfl) rfl)
   (fun h2 A=>N9 5 A rfl (Aj (by omega)<|Ah) fun A=>C9 [] (vA (l.getD (0:Int).toNat 0)) A rfl fun A=>N9 4 A rfl rfl fun A=>Aq 8 A rfl
    (fun h3 A=>N9 7 A rfl rfl fun A=>R9 A rfl h0 rfl (by rw [YL h1 h2 (eM hl) (η4 h3)];rfl) rfl)
    (fun h3 A=>N9 10 A rfl rfl fun A=>R9 A rfl h0 rfl (by rw [eJ h1 h2 (eM hl) (η8 h3)];rfl) rfl)))
abbrev _root_.Go.Proofs.YtbbdanhpphlbpaaGreatDoor.LR (os:List (Nat×Obj)):Prop:=∀w ks,Gl os w ks→∃m,w.cell? ⟨0,0,none⟩=some (.int .i64 m)
theorem ix_ (l q:List UInt8)(os:List (Nat×Obj))(hM:LR os)(hl:l.length≤8192):CE (Gl os) Tryz.prog 152 [.str l,.str q] [] (Rt (.int .i64 (Lib.index l q)) []):=IT (by kernel_rfl) rfl rfl fun w ks h=>by
 obtain⟨m,hm⟩:=hM w ks h
 exact Sw l q m w hl hm
structure KI (l:List UInt8)(a k:Nat):Prop where
 le:k≤l.length
 ge:a≤k
 eq:(BP (l.drop a))=((BP (l.drop k)).1+(k - a),(BP (l.drop k)).2)
section
variable {l:List UInt8}{a k:Nat}
theorem KI.i0 (h:a≤l.length):KI l a a:=⟨h,β7 _,by simp⟩
theorem KI.bl (hI:KI l a k)(h1:(k:Int)<(l.length:Int))(h:HS (l.getD ((k:Int)).toNat 0)=true):KI l a (k+1):=by
 have:=hI.ge
 refine⟨by omega,by omega,?_⟩
 rw [hI.eq,K3 (DB h1) h]
 simp;omega
theorem KI.rm (hI:KI l a k)(h1:(k:Int)<(l.length:Int))(h:HS (l.getD ((k:Int)).toNat 0)=false)(hp:preB (l.drop ((k:Int)).toNat) [40,42]=true)(he:¬EJ (l.drop (((k:Int)+2)).toNat)<0):KI l a (k+2+(EJ (l.drop (k+2))).toNat+2):=by
 have hg:=hI.ge
 have hk:((k:Int)).toNat=k:=by omega
 have JW:(((k:Int)+2)).toNat=k+2:=by omega
 rw [hk]at hp
 rw [JW]at he
 have hl:=Eo hp
 simp only [γ5,α5,α7]at hl
 have hr:=GF (l.drop (k+2))
 rw [γ5]at hr
 refine⟨by omega,by omega,?_⟩
 rw [hI.eq,Jg (DB h1) h hp he]
 simp;omega
theorem KI.fi (hI:KI l a k)(h:¬(k:Int)<(l.length:Int)):BP (l.drop a)=(k - a,false):=by
 rw [hI.eq,Vb (by omega)];simp
theorem KI.wd (hI:KI l a k)(h1:(k:Int)<(l.length:Int))(h:HS (l.getD ((k:Int)).toNat 0)=false)(hp:preB (l.drop ((k:Int)).toNat) [40,42]=false):BP (l.drop a)=(k - a,false):=by
 have hk:((k:Int)).toNat=k:=by omega
 rw [hk]at hp
 rw [hI.eq,MC (DB h1) h hp];simp
theorem KI.op (hI:KI l a k)(h1:(k:Int)<(l.length:Int))(h:HS (l.getD ((k:Int)).toNat 0)=false)(hp:preB (l.drop ((k:Int)).toNat) [40,42]=true)(he:EJ (l.drop (((k:Int)+2)).toNat)<0):BP (l.drop a)=(k - a,true):=by
 have hk:((k:Int)).toNat=k:=by omega
 have JW:(((k:Int)+2)).toNat=k+2:=by omega
 rw [hk]at hp
 rw [JW]at he
 rw [hI.eq,MD (DB h1) h hp he];simp
end
def P0 (l:List UInt8)(a:Nat):Int:=if(BP (l.drop a)).2 then 24 else 0
theorem n0 (l:List UInt8)(s0:Nat)(os:List (Nat×Obj))(hM:LR os)(ha:s0≤l.length)(hl:l.length≤8192):CE (Gl os) Tryz.prog 118 [.str l,.int .i64 (s0:Int)] [] (Rt (.tup [.int .i64 ((s0+(BP (l.drop s0)).1:Nat):Int),.int .i64 (P0 l s0)]) []):=
 BB (n:=39) (by kernel_rfl) Tryz.func118 rfl rfl rfl fun G w a h0 hI A=>N9 8 A rfl rfl fun A=>B7 (fun(k:Nat)=>[(0,.str l),(1,.int .i64 (k:Int)),(4,.int .i64 0),(5,.int .i64 0)]) (fun(k:Nat)=>[]) (fun(k:Nat)=>KI l s0 k) (fun(k:Nat)=>l.length - k) s0 (KI.i0 ha) ((A.cut [0,1,4,5] rfl).trunc 0 rfl rfl rfl (Cj h0 rfl)) fun k CT {G a w} A=>N9 9 A rfl rfl fun A=>Aq 11 A rfl
   (fun h1 A=>N9 10 A rfl (Aj (by have hle:=CT.le;(try simp only [γ5]);omega)<|Ah) fun A=>C9 [] (Sg (l.getD ((k:Int)).toNat 0)) A rfl fun A=>N9 3 A rfl rfl fun A=>fork 13 A rfl
    (fun h2 A=>N9 8 A rfl (Aj (by have hle:=CT.le;(try simp only [γ5]);omega)<|Ah) fun A=>⟨k+1,_,(by omega),(CT.bl h1 h2),((A.cut [0,1,4,5] rfl).trunc 0 rfl rfl rfl (Cj h0 rfl)).sayT (by simp)⟩)
    (fun h2 A=>N9 6 A rfl (Aj (by have hle:=CT.le;(try simp only [γ5]);omega)<|Ah) fun A=>C9 [] (Vd (l.drop ((k:Int)).toNat) [40,42]) A rfl fun A=>N9 3 A rfl rfl fun A=>fork 20 A rfl
     (fun h3 A=>N9 9 A rfl (Aj (by have hle:=CT.le;have KN:=Eo h3;simp only [γ5,α5,α7]at KN;have MY:=GF (l.drop (((k:Int)+2)).toNat);rw [γ5]at MY;(try simp only [γ5]);omega)<|Ah) fun A=>N9 4 A rfl (Aj (by have hle:=CT.le;have KN:=Eo h3;simp only [γ5,α5,α7]at KN;have MY:=GF (l.drop (((k:Int)+2)).toNat);rw [γ5]at MY;(try simp only [γ5]);omega)<|Ah) fun A=>I9 [] Gl.ok hI (RE (ix_ (l.drop ((k:Int)+2).toNat) [42,41] os hM (by have hle:=CT.le;have KN:=Eo h3;simp only [γ5,α5,α7]at KN;have MY:=GF (l.drop (((k:Int)+2)).toNat);rw [γ5]at MY;(try simp only [γ5]);omega)) (y:=.int .i64 (EJ (l.drop ((k:Int)+2).toNat))) fun _=>rfl) A rfl fun A=>N9 10 A rfl rfl fun A=>Aq 32 A rfl
      (fun h4 A=>N9 9 A rfl rfl fun A=>R9 A rfl h0 rfl (by have e:=CT.op h1 h2 h3 h4;have hg:=CT.ge;unfold P0;rw [e];simp [BA,nb,CK];omega) rfl)
      (fun h4 A=>N9 12 A rfl (Aj (by have hle:=CT.le;have KN:=Eo h3;simp only [γ5,α5,α7]at KN;have MY:=GF (l.drop (((k:Int)+2)).toNat);rw [γ5]at MY;(try simp only [γ5]);omega)<|Aj (by have hle:=CT.le;have KN:=Eo h3;simp only [γ5,α5,α7]at KN;have MY:=GF (l.drop (((k:Int)+2)).toNat);rw [γ5]at MY;(try simp only [γ5]);omega)<|Ah) fun A=>⟨k+2+(EJ (l.drop (k+2))).toNat+2,_,(by omega),(CT.rm h1 h2 h3 h4),((A.cut [0,1,4,5] rfl).trunc 0 rfl rfl rfl (Cj h0 rfl)).sayT (by have e2:(((k:Int)+2)).toNat=k+2:=(by omega);simp only [e2]at h4⊢;congr 5;omega)⟩))
     (fun h3 A=>N9 9 A rfl rfl fun A=>R9 A rfl h0 rfl (by have e:=CT.wd h1 h2 h3;have hg:=CT.ge;unfold P0;rw [e];simp [BA,nb,CK];omega) rfl)))
   (fun h1 A=>N9 11 A rfl rfl fun A=>R9 A rfl h0 rfl (by have e:=CT.fi h1;have hg:=CT.ge;unfold P0;rw [e];simp [BA,nb,CK];omega) rfl)
end Go.Proofs.YtbbdanhpphlbpaaGreatDoor
namespace Go.Proofs.YtbbdanhpphlbpaaGreatDoor
def Gy (b:UInt8):Nat:=(b|||32).toNat
theorem YP (b:UInt8):Gy b≤255:=by unfold Gy;exact Nat.le_of_lt_succ (b|||32).toNat_lt
def dv (b:UInt8):Nat:=if 48≤b.toNat∧b.toNat≤57 then b.toNat - 48 else if 97≤Gy b∧Gy b≤122 then Gy b - 97+10 else 99
theorem Ve {b:UInt8}(h1:48≤b.toNat)(h2:b.toNat≤57):dv b=b.toNat - 48:=if_pos ⟨h1,h2⟩
theorem Vf {b:UInt8}(h:¬(48≤b.toNat∧b.toNat≤57))(h1:97≤Gy b)(h2:Gy b≤122):dv b=Gy b - 97+10:=by unfold dv;rw [if_neg h,if_pos ⟨h1,h2⟩]
theorem NQ {b:UInt8}(h:¬(48≤b.toNat∧b.toNat≤57))(h1:¬(97≤Gy b∧Gy b≤122)):dv b=99:=by unfold dv;rw [if_neg h,if_neg h1]
def nv (bs:Nat)(l:List UInt8):Nat:=l.foldl (fun n b=>n*bs+dv b) 0
def K4 (bs:Nat)(l:List UInt8):Bool:=l.all fun b=>decide (dv b<bs)
def EK (bs:Nat)(l:List UInt8):Option Nat:=if l=[]∨K4 bs l=false then none else some (nv bs l)
theorem YQ (bs:Nat)(l:List UInt8):nv bs (l.take 0)=0:=rfl
theorem NR {l:List UInt8}{i:Nat}{y:UInt8}(h:l[i]?=some y):l.take (i+1)=l.take i++[y]:=by
 rw [ξ9,h];rfl
theorem Ik {bs:Nat}{l:List UInt8}{i:Nat}{y:UInt8}(h:l[i]?=some y):nv bs (l.take (i+1))=nv bs (l.take i)*bs+dv y:=by
 rw [NR h];unfold nv;rw [List.foldl_append];rfl
theorem NS {bs:Nat}{l:List UInt8}{i:Nat}{y:UInt8}(h:l[i]?=some y)(ha:K4 bs (l.take i)=true)(hy:dv y<bs):K4 bs (l.take (i+1))=true:=by
 rw [NR h];unfold K4 at*;rw [ξ4,ha];simp [hy]
theorem FK {bs:Nat}{l:List UInt8}{i:Nat}{y:UInt8}(h:l[i]?=some y)(hy:bs≤dv y):EK bs l=none:=by
 unfold EK;rw [if_pos];right
 cases ha:K4 bs l
 ·rfl
 ·exfalso
  have:=δ7.1 ha y (θ0 h)
  have:=δ0 this
  omega
theorem Rp {bs:Nat}{l:List UInt8}(h:l=[]):EK bs l=none:=by unfold EK;rw [if_pos (.inl h)]
theorem Rq {bs:Nat}{l:List UInt8}{i:Nat}(h:l≠[])(ha:K4 bs (l.take i)=true)(hi:l.length≤i):EK bs l=some (nv bs (l.take i)):=by
 rw [ε7 hi]at*
 unfold EK;rw [if_neg (by simp [h,ha])]
theorem Vg {bs:Nat}(hb:0<bs)(l:List UInt8)(i:Nat)(ha:K4 bs (l.take i)=true):nv bs (l.take i)<bs^i:=by
 induction i with
 |zero=>rw [YQ];simp
 | succ i ih=>
  cases hy:l[i]? with
  |none=>
   have hl:l.length≤i:=by simpa using hy
   have e:l.take (i+1)=l.take i:=by rw [ε7 hl,ε7 (by omega)]
   rw [e]at ha⊢
   exact ζ2 (ih ha) (ρ6 hb (by omega))
  | some y=>
   rw [NR hy]at ha
   unfold K4 at ha
   rw [ξ4,α3]at ha
   have h1:=ih ha.1
   have h2:dv y<bs:=by simpa using ha.2
   rw [Ik hy,Nat.pow_succ]
   calc nv bs (l.take i)*bs+dv y<nv bs (l.take i)*bs+bs:=by omega
    _=(nv bs (l.take i)+1)*bs:=by rw [ι9,Nat.one_mul]
    _≤bs^i*bs:=θ6 _ h1
theorem Jh {l:List UInt8}{i:Nat}(ha:K4 10 (l.take i)=true)(hi:i≤18):nv 10 (l.take i)<1000000000000000000:=
 ζ2 (Vg (by omega) l i ha) (ρ6 (n:=10) (by omega) hi)
theorem Ji {l:List UInt8}{i:Nat}(ha:K4 16 (l.take i)=true)(hi:i≤15):nv 16 (l.take i)<1152921504606846976:=
 ζ2 (Vg (by omega) l i ha) (ρ6 (n:=16) (by omega) hi)
end Go.Proofs.YtbbdanhpphlbpaaGreatDoor
