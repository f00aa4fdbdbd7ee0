/- TsoPlays, part 4: the engine, contracts, theory. -/
import Derived.Test.YtbbdanhpphlbpaaGreatDoorTsoPlaysP3
import Derived.WalkKit
import Derived.Shelf.Small.Strs
import Derived.Shelf.Strings.Search3
import Derived.Lib.IndexMore
import Derived.Shelf.Pu.ParseUintPublic10
import Derived.Ground.MpProg
import Derived.Shelf.Strconv.Itoa3
import Derived.Shelf.Strings.Replace
import Derived.Lib.ItoaLen
import Derived.Shelf.Strings.Cut
import Derived.Shelf.Strings.OnBuilder
set_option linter.unusedVariables false
set_option linter.unusedSimpArgs false
set_option linter.unusedSectionVars false
set_option maxRecDepth 100000
set_option maxHeartbeats 2000000
namespace Go.Proofs.YtbbdanhpphlbpaaGreatDoor
section
open Go.RowKit
abbrev Ij (f m:Rg):List SV:=[.int .i64 (f 0),.int .i64 (f 1),.int .i64 (f 2),.int .i64 (f 3),.int .i64 (f 4),.int .i64 (f 5),.int .i64 (f 6),.int .i64 (f 7),.int .i64 (f 8),.int .i64 (f 9),.int .i64 (f 10),.int .i64 (f 11),.int .i64 (f 12),.int .i64 (f 13),.int .i64 (f 14),.int .i64 (f 15),.int .i64 (f 16),.int .i64 (f 17),.int .i64 (f 18),.int .i64 (f 19),.int .i64 (f 20),.int .i64 (f 21),.int .i64 (f 22),.int .i64 (f 23),.int .i64 (m 0),.int .i64 (m 1),.int .i64 (m 2)]
abbrev qV (r:Rg):List SV:=[.int .i64 (r 0),.int .i64 (r 1),.int .i64 (r 2),.int .i64 (r 3),.int .i64 (r 4),.int .i64 (r 5),.int .i64 (r 6),.int .i64 (r 7)]
def VG (f:Rg)(t:Nat)(r:Rg):Rg:=fun j=>if 8*t≤j∧j<8*t+8 then r (j - 8*t)else f j
theorem dB {p p':SV}{s m k:Nat}{j:Int}{G:Gr}(h:den G p=den G p'):den G (.ix p s m j k)=den G (.ix p' s m j k):=by
 unfold den;rw [h]
theorem lU {i q a b:Nat}(h:8*a+b=q){G:Gr}:den G (.ix (.ix (.ptr i 0) 8 3 (a:Int) 0) 1 8 (b:Int) 0)=den G (.ptr i q):=by
 rw [dB (Al (q:=8*a) a (by omega) G)]
 exact Al b (by omega) G
section
variable {P:Program}{Y:Tb}{n:Nat}{ks:ae}{G0:Gr}{w0:World}{T:List (Nat×SV)}{H:Hp}{G:Gr}{a:Act}{w:World}{ops:ah}{o:Oper}
theorem sU {x y:Operand}{ty i:Nat}{t j v:Int}{f m:Rg}{ti:TI}(hX:Y.ok P=true)(BM:o.op=.store ty x y)(hg:Av ops T o.guard=some .run)(hx:DA T x=some (.ix (.ix (.ptr i 0) 8 3 t 0) 1 8 j 0))(hy:DA T y=some (.int .i64 v))(hH:lg H i=some (some (.blk (Ij f m))))(Fm:Y.get ty=some ti)(DV:ti.row=none)(Bc:ti.one=true)(ht:0≤t∧t<3)(hj:0≤j∧j<8):
  BG P n ops ks G0 w0 T H o (.tup []) (CE H i (some (.blk (Ij (AX f (8*t.toNat+j.toNat) v) m)))):=fun G a w A=>by
 have hw:=A7 (gd:=none) A hg
 obtain⟨d,op,ty',pos,af,gd⟩:=o
 simp only at BM
 subst BM
 have Bb:=A.ev hx
 have C8:=A.ev hy
 have key:∀p k:Nat,t=(p:Int)→j=(k:Int)→(∀q:List SV,sp (8*p+k) (Ij f m) [.int .i64 v]=some q→q=Ij (AX f (8*t.toNat+j.toNat) v) m)→(∃q,sp (8*p+k) (Ij f m) [.int .i64 v]=some q)→BY P ops {dst:=d,op:=.store ty x y,type:=ty',pos:=pos,after:=af,guard:=gd} a w fun v' w'=>∃F,den (G++F) (.tup [])=some v'∧Ms (CE H i (some (.blk (Ij (AX f (8*t.toNat+j.toNat) v) m)))) ks G0 w0 (G++F) w':=by
  intro p k hp hk hr ⟨q,hq⟩
  have e:=hr q hq
  rw [hp,hk,lU U]at Bb
  have hs:DM ⟨Y,true⟩ H ty (.ptr i (8*p+k)) (.int .i64 v)=some (i,q,[]):=by
   have ht:Tx.get ⟨Y,true⟩ ty=some ti:=Fm
   simp only [DM,hH,ht,DV,Bc,hq]
   rfl
  refine Di (X:=⟨Y,true⟩) hX A hs AB Bb C8 U U hw fun cs L vs' w' a1 a2 a3 a4 a5=>⟨[],rfl,?_⟩
  subst e
  simpa using (A.turn a1 a2 a3 a4 a5).ms
 have l8:j=0∨j=1∨j=2∨j=3∨j=4∨j=5∨j=6∨j=7:=by omega
 rcases PX ht with rfl|rfl|rfl
 ·rcases l8 with rfl|rfl|rfl|rfl|rfl|rfl|rfl|rfl
  ·exact key 0 0 U U (fun q h=>(β6 h).symm) ⟨_,rfl⟩
  ·exact key 0 1 U U (fun q h=>(β6 h).symm) ⟨_,rfl⟩
  ·exact key 0 2 U U (fun q h=>(β6 h).symm) ⟨_,rfl⟩
  ·exact key 0 3 U U (fun q h=>(β6 h).symm) ⟨_,rfl⟩
  ·exact key 0 4 U U (fun q h=>(β6 h).symm) ⟨_,rfl⟩
  ·exact key 0 5 U U (fun q h=>(β6 h).symm) ⟨_,rfl⟩
  ·exact key 0 6 U U (fun q h=>(β6 h).symm) ⟨_,rfl⟩
  ·exact key 0 7 U U (fun q h=>(β6 h).symm) ⟨_,rfl⟩
 ·rcases l8 with rfl|rfl|rfl|rfl|rfl|rfl|rfl|rfl
  ·exact key 1 0 U U (fun q h=>(β6 h).symm) ⟨_,rfl⟩
  ·exact key 1 1 U U (fun q h=>(β6 h).symm) ⟨_,rfl⟩
  ·exact key 1 2 U U (fun q h=>(β6 h).symm) ⟨_,rfl⟩
  ·exact key 1 3 U U (fun q h=>(β6 h).symm) ⟨_,rfl⟩
  ·exact key 1 4 U U (fun q h=>(β6 h).symm) ⟨_,rfl⟩
  ·exact key 1 5 U U (fun q h=>(β6 h).symm) ⟨_,rfl⟩
  ·exact key 1 6 U U (fun q h=>(β6 h).symm) ⟨_,rfl⟩
  ·exact key 1 7 U U (fun q h=>(β6 h).symm) ⟨_,rfl⟩
 ·rcases l8 with rfl|rfl|rfl|rfl|rfl|rfl|rfl|rfl
  ·exact key 2 0 U U (fun q h=>(β6 h).symm) ⟨_,rfl⟩
  ·exact key 2 1 U U (fun q h=>(β6 h).symm) ⟨_,rfl⟩
  ·exact key 2 2 U U (fun q h=>(β6 h).symm) ⟨_,rfl⟩
  ·exact key 2 3 U U (fun q h=>(β6 h).symm) ⟨_,rfl⟩
  ·exact key 2 4 U U (fun q h=>(β6 h).symm) ⟨_,rfl⟩
  ·exact key 2 5 U U (fun q h=>(β6 h).symm) ⟨_,rfl⟩
  ·exact key 2 6 U U (fun q h=>(β6 h).symm) ⟨_,rfl⟩
  ·exact key 2 7 U U (fun q h=>(β6 h).symm) ⟨_,rfl⟩
theorem lV {x y:Operand}{ty i:Nat}{t:Int}{r f m:Rg}{ti:TI}(hX:Y.ok P=true)(BM:o.op=.store ty x y)(hg:Av ops T o.guard=some .run)(hx:DA T x=some (.ix (.ptr i 0) 8 3 t 0))(hy:DA T y=some (.agg (qV r)))(hH:lg H i=some (some (.blk (Ij f m))))(Fm:Y.get ty=some ti)(DV:ti.row=some 8)(ht:0≤t∧t<3):
  BG P n ops ks G0 w0 T H o (.tup []) (CE H i (some (.blk (Ij (VG f t.toNat r) m)))):=fun G a w A=>by
 have hw:=A7 (gd:=none) A hg
 obtain⟨d,op,ty',pos,af,gd⟩:=o
 simp only at BM
 subst BM
 have Bb:=A.ev hx
 have C8:=A.ev hy
 have key:∀p:Nat,t=(p:Int)→(∀q:List SV,sp (8*p) (Ij f m) (qV r)=some q→q=Ij (VG f t.toNat r) m)→(∃q,sp (8*p) (Ij f m) (qV r)=some q)→BY P ops {dst:=d,op:=.store ty x y,type:=ty',pos:=pos,after:=af,guard:=gd} a w fun v' w'=>∃F,den (G++F) (.tup [])=some v'∧Ms (CE H i (some (.blk (Ij (VG f t.toNat r) m)))) ks G0 w0 (G++F) w':=by
  intro p hp hr ⟨q,hq⟩
  have e:=hr q hq
  rw [hp,Al (q:=8*p) p (by omega)]at Bb
  have hs:DM ⟨Y,true⟩ H ty (.ptr i (8*p)) (.agg (qV r))=some (i,q,[]):=by
   have ht:Tx.get ⟨Y,true⟩ ty=some ti:=Fm
   simp only [DM,hH,ht,DV,hq]
   rfl
  refine Di (X:=⟨Y,true⟩) hX A hs AB Bb C8 U U hw fun cs L vs' w' a1 a2 a3 a4 a5=>⟨[],rfl,?_⟩
  subst e
  simpa using (A.turn a1 a2 a3 a4 a5).ms
 rcases PX ht with rfl|rfl|rfl
 ·exact key 0 U (fun q h=>(β6 h).symm) ⟨_,rfl⟩
 ·exact key 1 U (fun q h=>(β6 h).symm) ⟨_,rfl⟩
 ·exact key 2 U (fun q h=>(β6 h).symm) ⟨_,rfl⟩
theorem F7 {x:Operand}{ty i q:Nat}{j:Int}{cs:List SV}{v:Nat→SV}{ti:TI}(hX:Y.ok P=true)(BM:o.op=.load ty x)(hg:Av ops T o.guard=some .run)(hx:DA T x=some (.ix (.ptr i q) 1 3 j 0))(hH:lg H i=some (some (.blk cs)))(Fm:Y.get ty=some ti)(DV:ti.row=none)(Bc:ti.one=true)(hj:0≤j∧j<3)(hc:∀k,k<3→lg cs (q+k)=some (v k)):
  BG P n ops ks G0 w0 T H o (v j.toNat) H:=fun G a w A=>by
 have hw:=A7 (gd:=none) A hg
 obtain⟨d,op,ty',pos,af,gd⟩:=o
 simp only at BM
 subst BM
 have Bb:=A.ev hx
 have key:∀k:Nat,j=(k:Int)→k<3→v j.toNat=v k→BY P ops {dst:=d,op:=.load ty x,type:=ty',pos:=pos,after:=af,guard:=gd} a w fun v' w'=>∃F,den (G++F) (v j.toNat)=some v'∧Ms H ks G0 w0 (G++F) w':=by
  intro k hk h3 e
  have hr:=hc k h3
  rw [hk,Al (q:=q+k) k (by omega)]at Bb
  have hs:Ec ⟨Y,true⟩ H ty (.ptr i (q+k))=some (v k,[]):=by
   have ht:Tx.get ⟨Y,true⟩ ty=some ti:=Fm
   simp only [Ec,Gk,hH,Lu,DK,ht,DV,Bc,hr,θ5]
  obtain⟨z,hz,h3⟩:=FV (X:=⟨Y,true⟩) (P:=P) (ops:=ops) (d:=d) (ty:=ty') (pos:=pos) (af:=af) (gd:=gd) (x:=x) hX A hs Bb
  rw [e]
  exact h3 (fun p hp=>by cases hp) rfl hw _ ⟨[],by simpa using hz,by simpa using A.ms⟩
 rcases PX hj with rfl|rfl|rfl
 ·exact key 0 U (by decide) U
 ·exact key 1 U (by decide) U
 ·exact key 2 U (by decide) U
theorem sV {x y:Operand}{ty i q:Nat}{j v:Int}{cs:List SV}{cs':Nat→List SV}{ti:TI}(hX:Y.ok P=true)(BM:o.op=.store ty x y)(hg:Av ops T o.guard=some .run)(hx:DA T x=some (.ix (.ptr i q) 1 3 j 0))(hy:DA T y=some (.int .i64 v))(hH:lg H i=some (some (.blk cs)))(Fm:Y.get ty=some ti)(DV:ti.row=none)(Bc:ti.one=true)(hj:0≤j∧j<3)(hc:∀k,k<3→sp (q+k) cs [.int .i64 v]=some (cs' k)){H':Hp}(W1:CE H i (some (.blk (cs' j.toNat)))=H'):
  BG P n ops ks G0 w0 T H o (.tup []) H':=fun G a w A=>by
 subst W1
 have hw:=A7 (gd:=none) A hg
 obtain⟨d,op,ty',pos,af,gd⟩:=o
 simp only at BM
 subst BM
 have Bb:=A.ev hx
 have C8:=A.ev hy
 have key:∀k:Nat,j=(k:Int)→k<3→cs' j.toNat=cs' k→BY P ops {dst:=d,op:=.store ty x y,type:=ty',pos:=pos,after:=af,guard:=gd} a w fun v' w'=>∃F,den (G++F) (.tup [])=some v'∧Ms (CE H i (some (.blk (cs' j.toNat)))) ks G0 w0 (G++F) w':=by
  intro k hk h3 e
  have hr:=hc k h3
  rw [hk,Al (q:=q+k) k (by omega)]at Bb
  have hs:DM ⟨Y,true⟩ H ty (.ptr i (q+k)) (.int .i64 v)=some (i,cs' k,[]):=by
   have ht:Tx.get ⟨Y,true⟩ ty=some ti:=Fm
   simp only [DM,hH,ht,DV,Bc,hr]
   rfl
  rw [e]
  refine Di (X:=⟨Y,true⟩) hX A hs AB Bb C8 U U hw fun cs L vs' w' a1 a2 a3 a4 a5=>⟨[],rfl,?_⟩
  simpa using (A.turn a1 a2 a3 a4 a5).ms
 rcases PX hj with rfl|rfl|rfl
 ·exact key 0 U (by decide) U
 ·exact key 1 U (by decide) U
 ·exact key 2 U (by decide) U
end
def Mi (R:Nat→Rg)(n:Nat):Rg:=fun j=>if j / 8<n then R (j / 8) (j % 8)else 0
def S0 (R:Nat→Rg)(n k:Nat):Rg:=fun j=>if j / 8<n∨(j / 8=n∧j % 8<k)then R (j / 8) (j % 8)else 0
theorem lW (R:Nat→Rg)(n:Nat):S0 R n 0=Mi R n:=by
 funext j;unfold S0 Mi
 by_cases h:j / 8<n
 ·rw [if_pos h,if_pos (.inl h)]
 ·rw [if_neg h,if_neg (by omega)]
theorem lX (R:Nat→Rg)(n:Nat):S0 R n 8=Mi R (n+1):=by
 funext j;unfold S0 Mi
 by_cases h:j / 8<n+1
 ·rw [if_pos h,if_pos (by omega)]
 ·rw [if_neg h,if_neg (by omega)]
theorem dC (R:Nat→Rg)(n k:Nat)(hk:k<8):AX (S0 R n k) (8*n+k) (R n k)=S0 R n (k+1):=by
 funext j;unfold AX S0
 by_cases h:j=8*n+k
 ·subst h
  have h1:(8*n+k) / 8=n:=by omega
  have h2:(8*n+k) % 8=k:=by omega
  rw [if_pos U,if_pos (by omega),h1,h2]
 ·rw [if_neg h]
  by_cases h2:j / 8<n∨(j / 8=n∧j % 8<k)
  ·rw [if_pos h2,if_pos (by omega)]
  ·rw [if_neg h2,if_neg (by omega)]
theorem dD (R:Nat→Rg)(n:Nat):VG (Mi R n) n (R n)=Mi R (n+1):=by
 funext j;unfold VG Mi
 by_cases h:8*n≤j∧j<8*n+8
 ·have h1:j / 8=n:=by omega
  have h2:j % 8=j - 8*n:=by omega
  rw [if_pos h,if_pos (by omega),h1,h2]
 ·rw [if_neg h]
  by_cases h2:j / 8<n
  ·rw [if_pos h2,if_pos (by omega)]
  ·rw [if_neg h2,if_neg (by omega)]
end
namespace Mc
open Go.RowKit
set_option simprocs false
theorem dE (cs:List AD)(ts:List Th)(nn:Nat)(th g:Int)(Bo:0≤th∧th<((nn:Nat):Int))(hg:0≤g∧g<8):Fn Tryz.prog 41 [.ptr 0 0,.n9 th,.n9 g] [O [.sl 1 nn 0],aq cs ts nn] (Rt (.int .i64 ([((ts.getD (th.toNat) Th.z).r 0),((ts.getD (th.toNat) Th.z).r 1),((ts.getD (th.toNat) Th.z).r 2),((ts.getD (th.toNat) Th.z).r 3),((ts.getD (th.toNat) Th.z).r 4),((ts.getD (th.toNat) Th.z).r 5),((ts.getD (th.toNat) Th.z).r 6),((ts.getD (th.toNat) Th.z).r 7)].getD g.toNat 0)) [O [.sl 1 nn 0],aq cs ts nn]):=
 AR (n:=21) (by kernel_rfl) Tryz.func41 U U U fun G w a h0 A=>N9 16 A U U fun A=>fork 12 A U
  (fun h1 A=>absurd h1 (by simp;omega))
  (fun h1 A=>N9 7 A U U fun A=>C9 [0,1] (U4 cs ts nn th Bo) A U fun A=>N9 1 A U U fun A=>Af A U (lC U U U U (by omega)) fun A=>N9 7 A U (AE (by omega)<|AE (by omega)<|AE (by omega)<|AE (by omega)<|AE (by omega)<|AB) fun A=>R9 A U h0 U U U)
end Mc
namespace Mc
open Go.RowKit
set_option simprocs false
abbrev HW (ts:List Th):Nat→Rg:=fun k=>(ts.getD k Th.z).r
theorem sW {r:Rg}{g:Int}(h:0≤g∧g<8):[(r 0),(r 1),(r 2),(r 3),(r 4),(r 5),(r 6),(r 7)].getD g.toNat 0=r g.toNat:=by
 have:g=0∨g=1∨g=2∨g=3∨g=4∨g=5∨g=6∨g=7:=by omega
 rcases this with rfl|rfl|rfl|rfl|rfl|rfl|rfl|rfl<;>rfl
theorem dF (cs:List AD)(ts:List Th)(nn:Nat)(th g:Int)(Bo:0≤th∧th<((nn:Nat):Int))(hg:0≤g∧g<8):Fn Tryz.prog 41 [.ptr 0 0,.n9 th,.n9 g] [O [.sl 1 nn 0],aq cs ts nn] (Rt (.int .i64 (HW ts th.toNat g.toNat)) [O [.sl 1 nn 0],aq cs ts nn]):=by
 have h:=dE cs ts nn th g Bo hg
 rw [sW hg]at h
 exact h
end Mc
namespace Mc
open Go.RowKit
set_option simprocs false
def TI (cs:List AD):Dl:=fun w ks=>AH cs w ks∧FL w ks
theorem TI.ok {cs:List AD}:Dl.OK (TI cs):=fun w ks w' ks' h m hk=>⟨AH.ok _ _ _ _ h.1 m hk,AP.ok _ _ _ _ h.2 m hk⟩
abbrev _root_.Go.Proofs.YtbbdanhpphlbpaaGreatDoor.Nk (ts:List Th)(k:Int):Th:=ts.getD (k.toNat) Th.z
abbrev _root_.Go.Proofs.YtbbdanhpphlbpaaGreatDoor.Ea (cs:List AD)(ts:List Th)(k:Int):In:=(cs.getD (k.toNat) AD.z).l.getD ((((Nk ts k).at_:Nat):Int)).toNat In.z
theorem Nl (cs:List AD)(ts:List Th)(nn:Nat)(th lc o s:Int)(hC:Ac cs ts nn)(Bo:0≤th∧th<((nn:Nat):Int))(h1:Jq (Ea cs ts th)=lc)(h2:Jr (Nk ts th).r (Ea cs ts th)=AY o s):BQ (AH cs) Tryz.prog 92 [.ptr 0 0,.n9 th] [O [.sl 1 nn 0],aq cs ts nn] (Rt (.tup [.agg [.n9 lc,.n9 (AY o s)],.n9 (BR (Nk ts th).r (Ea cs ts th)),.bool (CK (Ea cs ts th))]) [O [.sl 1 nn 0],aq cs ts nn]):=by
 have h:=Ig cs ts nn th hC Bo
 rw [h1,h2]at h
 exact h
abbrev Bg (r:Rg)(i:In):Int:=Ah i.off (DD r i.ix 0) i.sz
theorem lY {p s:Int}(hs:s=1∨s=2∨s=4∨s=8)(h:0≤p∧p≤8 - s∧Int.tmod p s=0):OS p s:=by
 obtain⟨h1,h2,h3⟩:=h
 unfold OS
 rcases hs with rfl|rfl|rfl|rfl
 ·omega
 ·have:p=0∨p=1∨p=2∨p=3∨p=4∨p=5∨p=6:=by omega
  rcases this with rfl|rfl|rfl|rfl|rfl|rfl|rfl<;>first|(exact absurd h3 (by decide))|omega
 ·have:p=0∨p=1∨p=2∨p=3∨p=4:=by omega
  rcases this with rfl|rfl|rfl|rfl|rfl<;>first|(exact absurd h3 (by decide))|omega
 ·omega
theorem VH {o s:Int}(h:OS o s):Ah o 0 s=o:=by
 rcases h with⟨rfl,rfl⟩|⟨rfl,rfl⟩|⟨rfl,rfl⟩|⟨rfl,rfl⟩|⟨rfl,rfl⟩|⟨rfl,rfl⟩|⟨rfl,rfl⟩|⟨rfl,rfl⟩|⟨rfl,rfl⟩|⟨rfl,rfl⟩|⟨rfl,rfl⟩|⟨rfl,rfl⟩|⟨rfl,rfl⟩|⟨rfl,rfl⟩|⟨rfl,rfl⟩<;>decide+kernel
theorem QC {i:In}(h:Sr i=true):0≤i.loc∧i.loc<3:=by
 unfold Sr CH at h
 split at h
 ·split at h
  ·omega
  ·cases h
 ·cases h
theorem YC {i:In}(h:Nc i=true)(ho:i.op=4∨i.op=5∨i.op=6):0≤i.loc∧i.loc<3:=by
 unfold Nc Bs at h
 rw [if_neg (by omega),if_neg (by omega),if_neg (by omega)]at h
 rcases ho with ho|ho|ho
 ·rw [if_pos ho]at h
  split at h
  ·rw [α3]at h;exact QC h.1
  ·cases h
 ·rw [if_neg (by omega),if_pos ho]at h
  split at h
  ·exact QC h
  ·cases h
 ·rw [if_neg (by omega),if_neg (by omega),if_pos ho]at h
  split at h
  ·split at h
   ·rw [α3]at h;exact QC h.1
   ·cases h
  ·cases h
theorem Fo.loc {l:List In}(h:Fo l){k:Nat}(hk:k<l.length)(ho:(l.getD k In.z).op=4∨(l.getD k In.z).op=5∨(l.getD k In.z).op=6):0≤(l.getD k In.z).loc∧(l.getD k In.z).loc<3:=YC (E3 (h.r k hk)).1 ho
theorem Df {r:Rg}{i:In}(hs:i.sz=1∨i.sz=2∨i.sz=4∨i.sz=8):OS (Bg r i) i.sz:=lY hs (VC i.off (DD r i.ix 0) hs).2
theorem F8 {r:Rg}{i:In}(hm:CK i=true)(hs:i.sz=1∨i.sz=2∨i.sz=4∨i.sz=8):Jr r i=AY (Bg r i) i.sz:=by
 unfold Jr AY
 rw [hm,VH (Df hs)];rfl
theorem Dx {i:In}(hm:CK i=true):Jq i=i.loc:=by unfold Jq;rw [hm];rfl
theorem HX {i:In}(hm:CK i=true):i.op=4∨i.op=5∨i.op=6:=by unfold CK at hm;simp at hm;omega
abbrev MC (i:In):Bool:=(i.op==5)||(i.op==6)
def Hk (m r:Rg)(i:In):Int:=if CK i=true then Aq (m i.loc.toNat) (Bg r i) i.sz else 0
def D5 (m r:Rg)(i:In):Rg:=if CK i=true then(if MC i=true then AX m i.loc.toNat (AM (m i.loc.toNat) (Bg r i) i.sz (F6 i (Aq (m i.loc.toNat) (Bg r i) i.sz) (BR r i)))else m)else m
theorem isT {a b:Nat}(h:a<b):(!(((a:Nat):Int)==((b:Nat):Int)))=true:=by simp;omega
theorem Nm (cs:List AD)(ts:List Th)(nn:Nat)(th old:Int)(hC:Ac cs ts nn)(Bo:0≤th∧th<((nn:Nat):Int))(GX:(Nk ts th).at_<(cs.getD (th.toNat) AD.z).l.length):BQ (AH cs) Tryz.prog 58 [.ptr 0 0,.n9 th,.n9 old] [O [.sl 1 nn 0],aq cs ts nn] (Rt .tt [O [.sl 1 nn 0],aq cs (Ak cs ts th old) nn]):=
 LG (Rj cs ts nn th old hC Bo) (fun{G}=>congrArg (fun b=>some (Value.bool b)) (isT GX))
end Mc
section
open Go.RowKit
abbrev BV:=BitVec 64
def vB (b:BV):Int:=b.toInt
theorem Nn (b:BV):IntKind.wrap .i64 ((b.toNat:Nat):Int)=vB b:=by
 unfold vB
 rw [τ7,BitVec.toInt_eq_toNat_bmod,Int.bmod_def]
 have:=b.isLt
 simp only [Nat.reducePow]at*
 omega
theorem Eh (b:BV):BitVec.ofInt (IntKind.bits .i64) (vB b)=b:=BitVec.ofInt_toInt
theorem Zs (x y:BV):IntKind.wrap .i64 ((((BitVec.ofInt (IntKind.bits .i64) (vB x))|||(BitVec.ofInt (IntKind.bits .i64) (vB y))).toNat:Nat):Int)=vB (x|||y):=by
 rw [Eh,Eh];exact Nn _
theorem QD (x y:BV):IntKind.wrap .i64 ((((BitVec.ofInt (IntKind.bits .i64) (vB x))&&&(BitVec.ofInt (IntKind.bits .i64) (vB y))).toNat:Nat):Int)=vB (x&&&y):=by
 rw [Eh,Eh];exact Nn _
theorem S2 (x y:BV):IntKind.wrap .i64 ((((BitVec.ofInt (IntKind.bits .i64) (vB x))&&& ~~~ (BitVec.ofInt (IntKind.bits .i64) (vB y))).toNat:Nat):Int)=vB (x&&& ~~~y):=by
 rw [Eh,Eh];exact Nn _
theorem Ik {x:Int}(h: -9223372036854775808≤x∧x≤9223372036854775807):vB (BitVec.ofInt 64 x)=x:=by
 unfold vB
 rw [BitVec.toInt_ofInt,Int.bmod_def]
 simp only [Nat.reducePow]
 omega
theorem QE (m:BV)(k:Nat)(hk:k<64):Int.fdiv (vB m) (2^min k (IntKind.bits .i64))=vB (m.sshiftRight k):=by
 have hr:min k (IntKind.bits .i64)=k:=by show min k 64=_;omega
 rw [hr]
 unfold vB
 rw [BitVec.toInt_sshiftRight,Int.shiftRight_eq_div_pow,ν7 _ (by exact Int.le_of_lt (Int.pow_pos (by decide)))]
 push_cast;rfl
end
namespace Mc
open Go.RowKit
set_option simprocs false
set_option simprocs true in
theorem No (m:BV)(k:Nat)(hk:k<64):IntKind.wrap .i64 (vB m*2^min k (IntKind.bits .i64))=vB (m <<< k):=by
 have hr:min k (IntKind.bits .i64)=k:=by show min k 64=_;omega
 rw [hr,τ7]
 have h2:BitVec.ofInt 64 (vB m*2^k)=m <<< k:=by
  rw [BitVec.ofInt_mul,BitVec.shiftLeft_eq_mul_twoPow]
  congr 1
  ·exact BitVec.ofInt_toInt
  ·exact π2 (by
    rw [show((2:Int)^k)=((2^k:Nat):Int) by push_cast;rfl,BitVec.ofInt_natCast]
    simp)
 rw [←h2]
 unfold vB
 rw [BitVec.toInt_ofInt,Int.bmod_def]
 simp only [Nat.reducePow]
 omega
structure FP (o s:Int)(k n:Nat)(L:BV):Prop where
 c:(!(((((((s==1)||(s==2))||(s==4))||(s==8))&&(decide (o≥0)))&&(decide (o≤(IntKind.wrap .i64 (8 - s)))))&&((Int.tmod o s)==0)))=false
 sh:(IntKind.wrap .i64 (8*o)).toNat=k
 m:IntKind.wrap .i64 ((IntKind.wrap .i64 (1*2^min ((IntKind.wrap .i64 (8*s))).toNat (IntKind.bits .i64))) - 1)=vB L
 b:∀i,i<64→L.getLsbD i=decide (i<n)
 h:k+n≤64
 p:0<n
theorem FP.get {o s:Int}{k n:Nat}{L:BV}(h:FP o s k n L)(X:BV):Aq (vB X) o s=vB (X.sshiftRight k&&&L):=by
 have:=h.h;have:=h.p
 unfold Aq
 rw [if_neg (by rw [h.c];decide),h.sh,QE X k (by omega),h.m,QD]
theorem FP.put {o s:Int}{k n:Nat}{L:BV}(h:FP o s k n L)(a:Int)(X:BV):AM a o s (vB X)=vB ((BitVec.ofInt 64 a&&& ~~~(L <<< k))|||((X <<< k)&&&(L <<< k))):=by
 have:=h.h;have:=h.p
 unfold AM
 rw [if_neg (by rw [h.c];decide),h.sh,h.m,No L k (by omega),No X k (by omega),QD,show BitVec.ofInt (IntKind.bits .i64) a=BitVec.ofInt (IntKind.bits .i64) (vB (BitVec.ofInt 64 a))from(Eh _).symm,S2,Zs]
theorem FP.low {s:Int}{n:Nat}{L:BV}(h:FP 0 s 0 n L)(X:BV):Bm (vB X) s=vB (X&&&L):=by
 have e:=h.get X
 rw [BitVec.sshiftRight_zero]at e
 exact e
abbrev L1:BV:=255#64
abbrev L2:BV:=65535#64
abbrev L4:BV:=4294967295#64
abbrev L8:BV:=BitVec.allOnes 64
theorem FP.mk1 {o:Int}(k:Nat)(h:(!(((((((1:Int)==1)||((1:Int)==2))||((1:Int)==4))||((1:Int)==8))&&(decide (o≥0)))&&(decide (o≤(IntKind.wrap .i64 (8 - 1))))&&((Int.tmod o 1)==0)))=false)(hk:(IntKind.wrap .i64 (8*o)).toNat=k)(h2:k≤56):FP o 1 k 8 L1:=⟨h,hk,by decide+kernel,by decide+kernel,by omega,by decide⟩
theorem FP.mk2 {o:Int}(k:Nat)(h:(!(((((((2:Int)==1)||((2:Int)==2))||((2:Int)==4))||((2:Int)==8))&&(decide (o≥0)))&&(decide (o≤(IntKind.wrap .i64 (8 - 2))))&&((Int.tmod o 2)==0)))=false)(hk:(IntKind.wrap .i64 (8*o)).toNat=k)(h2:k≤48):FP o 2 k 16 L2:=⟨h,hk,by decide+kernel,by decide+kernel,by omega,by decide⟩
theorem FP.mk4 {o:Int}(k:Nat)(h:(!(((((((4:Int)==1)||((4:Int)==2))||((4:Int)==4))||((4:Int)==8))&&(decide (o≥0)))&&(decide (o≤(IntKind.wrap .i64 (8 - 4))))&&((Int.tmod o 4)==0)))=false)(hk:(IntKind.wrap .i64 (8*o)).toNat=k)(h2:k≤32):FP o 4 k 32 L4:=⟨h,hk,by decide+kernel,by decide+kernel,by omega,by decide⟩
theorem xV:FP 0 8 0 64 L8:=⟨by decide,by decide,by decide+kernel,by decide+kernel,by omega,by decide⟩
end Mc
namespace Mc
open Go.RowKit
set_option simprocs false
theorem lZ (v1 k1:Int)(hk:0≤k1∧k1<8):Fn Tryz.prog 134 [.n9 v1,.n9 k1] [] (Rt (.int .i64 (IntKind.wrap .i64 ((((BitVec.ofInt (IntKind.bits .i64) (Int.fdiv v1 (2^min ((8*k1)).toNat (IntKind.bits .i64))))&&&(BitVec.ofInt (IntKind.bits .i64) 255)).toNat:Nat):Int))) []):=
 AR (n:=10) (by kernel_rfl) Tryz.func134 U U U fun G w a h0 A=>N9 16 A U (AE (by omega)<|AE (by omega)<|AB) fun A=>R9 A U h0 U U U
def T7 (a1 b1 m1:Int):Nat→Int
 |0=>0
 |k+1=>if(IntKind.wrap .i64 ((((BitVec.ofInt (IntKind.bits .i64) (Int.fdiv m1 (2^min ((k:Int)).toNat (IntKind.bits .i64))))&&&(BitVec.ofInt (IntKind.bits .i64) 1)).toNat:Nat):Int))=1 then IntKind.wrap .i64 ((((BitVec.ofInt (IntKind.bits .i64) (T7 a1 b1 m1 k))|||(BitVec.ofInt (IntKind.bits .i64) (IntKind.wrap .i64 ((IntKind.wrap .i64 ((((BitVec.ofInt (IntKind.bits .i64) (Int.fdiv b1 (2^min ((8*(k:Int))).toNat (IntKind.bits .i64))))&&&(BitVec.ofInt (IntKind.bits .i64) 255)).toNat:Nat):Int))*2^min ((8*(k:Int))).toNat (IntKind.bits .i64))))).toNat:Nat):Int)else IntKind.wrap .i64 ((((BitVec.ofInt (IntKind.bits .i64) (T7 a1 b1 m1 k))|||(BitVec.ofInt (IntKind.bits .i64) (IntKind.wrap .i64 ((IntKind.wrap .i64 ((((BitVec.ofInt (IntKind.bits .i64) (Int.fdiv a1 (2^min ((8*(k:Int))).toNat (IntKind.bits .i64))))&&&(BitVec.ofInt (IntKind.bits .i64) 255)).toNat:Nat):Int))*2^min ((8*(k:Int))).toNat (IntKind.bits .i64))))).toNat:Nat):Int)
theorem Zt {a1 b1 m1:Int}{k:Nat}(h:(IntKind.wrap .i64 ((((BitVec.ofInt (IntKind.bits .i64) (Int.fdiv m1 (2^min ((k:Int)).toNat (IntKind.bits .i64))))&&&(BitVec.ofInt (IntKind.bits .i64) 1)).toNat:Nat):Int))=1):IntKind.wrap .i64 ((((BitVec.ofInt (IntKind.bits .i64) (T7 a1 b1 m1 k))|||(BitVec.ofInt (IntKind.bits .i64) (IntKind.wrap .i64 ((IntKind.wrap .i64 ((((BitVec.ofInt (IntKind.bits .i64) (Int.fdiv b1 (2^min ((8*(k:Int))).toNat (IntKind.bits .i64))))&&&(BitVec.ofInt (IntKind.bits .i64) 255)).toNat:Nat):Int))*2^min ((8*(k:Int))).toNat (IntKind.bits .i64))))).toNat:Nat):Int)=T7 a1 b1 m1 (k+1):=by show _=ite _ _ _;rw [if_pos h]
theorem Zu {a1 b1 m1:Int}{k:Nat}(h:(IntKind.wrap .i64 ((((BitVec.ofInt (IntKind.bits .i64) (Int.fdiv m1 (2^min ((k:Int)).toNat (IntKind.bits .i64))))&&&(BitVec.ofInt (IntKind.bits .i64) 1)).toNat:Nat):Int))≠1):IntKind.wrap .i64 ((((BitVec.ofInt (IntKind.bits .i64) (T7 a1 b1 m1 k))|||(BitVec.ofInt (IntKind.bits .i64) (IntKind.wrap .i64 ((IntKind.wrap .i64 ((((BitVec.ofInt (IntKind.bits .i64) (Int.fdiv a1 (2^min ((8*(k:Int))).toNat (IntKind.bits .i64))))&&&(BitVec.ofInt (IntKind.bits .i64) 255)).toNat:Nat):Int))*2^min ((8*(k:Int))).toNat (IntKind.bits .i64))))).toNat:Nat):Int)=T7 a1 b1 m1 (k+1):=by show _=ite _ _ _;rw [if_neg h]
theorem s8 (a1 b1 m1:Int):Fn Tryz.prog 94 [.n9 a1,.n9 b1,.n9 m1] [] (Rt (.int .i64 (T7 a1 b1 m1 8)) []):=
 AR (n:=32) (by kernel_rfl) Tryz.func94 U U U fun G w a h0 A=>N9 17 A U U fun A=>Bq (fun(k:Nat)=>[(0,.n9 a1),(1,.n9 b1),(2,.n9 m1),(6,.n9 0),(7,.n9 (T7 a1 b1 m1 k)),(8,.n9 (k:Int))]) (fun(k:Nat)=>[]) (fun(k:Nat)=>k≤8) (fun(k:Nat)=>8 - k) 0 (β7 _) ((A.cut [0,1,2,6,7,8] U).trunc 0 U U U (CL h0 U)) fun k hK {G a w} A=>N9 7 A U U fun A=>AU 11 A U
   (fun h1 A=>N9 9 A U U fun A=>C9 [] (lZ a1 (k:Int) (by omega)) A U fun A=>N9 13 A U (AE (by omega)<|AB) fun A=>AV 21 A U
    (fun h2 A=>N9 4 A U U fun A=>C9 [] (lZ b1 (k:Int) (by omega)) A U fun A=>N9 14 A U (AE (by omega)<|AE (by omega)<|AB) fun A=>N9 5 A U (AE (by omega)<|AB) fun A=>⟨k+1,_,(by omega),(by omega),(((AG A 7 (.int .i64 (T7 a1 b1 m1 (k+1))) U (fun _=>congrArg (fun z=>some (Value.int .i64 z)) (Zt h2))).cut [0,1,2,6,7,8] U).trunc 0 U U U (CL h0 U)).sayT (by rfl)⟩)
    (fun h2 A=>N9 14 A U (AE (by omega)<|AE (by omega)<|AB) fun A=>N9 5 A U (AE (by omega)<|AB) fun A=>⟨k+1,_,(by omega),(by omega),(((AG A 7 (.int .i64 (T7 a1 b1 m1 (k+1))) U (fun _=>congrArg (fun z=>some (Value.int .i64 z)) (Zu h2))).cut [0,1,2,6,7,8] U).trunc 0 U U U (CL h0 U)).sayT (by rfl)⟩))
   (fun h1 A=>N9 10 A U U fun A=>R9 A U h0 U (by have e:k=8:=(by omega);subst e;rfl) U)
theorem VI {o s:Int}(h:OS o s):∀j:Nat,j<8→GT (AY o s) (j:Int)=if o≤(j:Int)∧(j:Int)<o+s then 1 else 0:=by
 rcases h with⟨rfl,rfl⟩|⟨rfl,rfl⟩|⟨rfl,rfl⟩|⟨rfl,rfl⟩|⟨rfl,rfl⟩|⟨rfl,rfl⟩|⟨rfl,rfl⟩|⟨rfl,rfl⟩|⟨rfl,rfl⟩|⟨rfl,rfl⟩|⟨rfl,rfl⟩|⟨rfl,rfl⟩|⟨rfl,rfl⟩|⟨rfl,rfl⟩|⟨rfl,rfl⟩<;>decide+kernel
theorem VJ {o s:Int}(h:OS o s):0≤o∧1≤s∧o+s≤8:=by unfold OS at h;omega
theorem l4 {m1:Int}{k:Nat}(h:(decide ((k:Int)<7)&&(GT m1 (k:Int)==0))=true)(hK:k≤7∧∀j:Nat,j<k→GT m1 (j:Int)=0):k+1≤7∧∀j:Nat,j<k+1→GT m1 (j:Int)=0:=by
 rw [α3,δ4,ε5]at h
 refine⟨by omega,fun j hj=>?_⟩
 by_cases e:j=k
 ·subst e;exact h.2
 ·exact hK.2 j (by omega)
theorem dG {o s m1:Int}{k:Nat}(h:(decide ((k:Int)<7)&&(GT m1 (k:Int)==0))=false)(hK:k≤7∧∀j:Nat,j<k→GT m1 (j:Int)=0)(hO:OS o s)(hm:m1=AY o s):(k:Int)=o:=by
 subst hm
 have hb:=VI hO
 have hr:=VJ hO
 by_cases e:(k:Int)=o
 ·exact e
 ·exfalso
  by_cases BU:(k:Int)<o
  ·have h1:GT (AY o s) (k:Int)=0:=by rw [hb k (by omega),if_neg (by omega)]
   rw [h1,η3 (by omega)]at h
   cases h
  ·have h1:=hK.2 o.toNat (by omega)
   rw [hb o.toNat (by omega),if_pos (by omega)]at h1
   cases h1
def Zv (A B:BV)(p:Nat→Bool):Nat→BV
 |0=>0#64
 |k+1=>Zv A B p k|||(((if p k=true then B else A).sshiftRight (8*k)&&&255#64) <<< (8*k))
theorem l5 {k:Nat}(hk:k<8):(8*(k:Int)).toNat=8*k:=by omega
theorem VK (Y X:BV){k:Nat}(hk:k<8):IntKind.wrap .i64 ((((BitVec.ofInt (IntKind.bits .i64) (vB Y))|||(BitVec.ofInt (IntKind.bits .i64) (IntKind.wrap .i64 ((IntKind.wrap .i64 ((((BitVec.ofInt (IntKind.bits .i64) (Int.fdiv (vB X) (2^min ((8*(k:Int))).toNat (IntKind.bits .i64))))&&&(BitVec.ofInt (IntKind.bits .i64) 255)).toNat:Nat):Int))*2^min ((8*(k:Int))).toNat (IntKind.bits .i64))))).toNat:Nat):Int)=vB (Y|||((X.sshiftRight (8*k)&&&255#64) <<< (8*k))):=by
 rw [l5 hk,QE X (8*k) (by omega),show BitVec.ofInt (IntKind.bits .i64) 255=BitVec.ofInt (IntKind.bits .i64) (vB 255#64)from by decide+kernel,QD,No _ (8*k) (by omega),Zs]
theorem Rs {A B:BV}{m:Int}{p:Nat→Bool}(hp:∀k:Nat,k<8→(GT m (k:Int)=1↔p k=true)):∀k,k≤8→T7 (vB A) (vB B) m k=vB (Zv A B p k)
 |0,_=>by show(0:Int)=vB 0#64;decide+kernel
 | k+1,h=>by
  have ih:=Rs (A:=A) (B:=B) hp k (by omega)
  by_cases hq:GT m (k:Int)=1
  ·rw [←Zt hq,ih,VK _ B (by omega)]
   show _=vB (Zv A B p k|||(((if p k=true then B else A).sshiftRight (8*k)&&&255#64) <<< (8*k)))
   rw [if_pos ((hp k (by omega)).1 hq)]
  ·rw [←Zu hq,ih,VK _ A (by omega)]
   show _=vB (Zv A B p k|||(((if p k=true then B else A).sshiftRight (8*k)&&&255#64) <<< (8*k)))
   rw [if_neg (fun h2=>hq ((hp k (by omega)).2 h2))]
theorem s9:∀j:Nat,j<64→(255#64:BV).getLsbD j=decide (j<8):=by decide+kernel
set_option simprocs true in
theorem Ru (A B:BV)(p:Nat→Bool)(i:Nat)(hi:i<64):∀k,k≤8→(Zv A B p k).getLsbD i=(decide (i<8*k)&&(if p (i / 8)=true then B else A).getLsbD i)
 |0,_=>by simp [Zv]
 | k+1,h=>by
  unfold Zv
  rw [BitVec.getLsbD_or,Ru A B p i hi k (by omega),BitVec.getLsbD_shiftLeft,σ6,BitVec.getLsbD_sshiftRight]
  by_cases h1:i<8*k
  ·simp [h1,hi,show i<8*(k+1) by omega]
  ·have e2:8*k+(i - 8*k)=i:=by omega
   rw [s9 (i - 8*k) (by omega),e2,if_pos hi,η9 (show¬64≤i - 8*k by omega),η9 h1,η3 hi]
   by_cases h2:i<8*(k+1)
   ·have e:i / 8=k:=by omega
    rw [e,η3 h2,η3 (show i - 8*k<8 by omega)]
    simp
   ·rw [η9 h2,η9 (show¬i - 8*k<8 by omega)]
    simp
theorem dH (A B M:BV)(p:Nat→Bool)(hM:∀i,i<64→M.getLsbD i=p (i / 8)):Zv A B p 8=(A&&& ~~~M)|||(B&&&M):=by
 apply BitVec.eq_of_getLsbD_eq
 intro i hi
 rw [Ru A B p i hi 8 (β8 _),η3 (show i<8*8 by omega),BitVec.getLsbD_or,σ6,σ6,BitVec.getLsbD_not,hM i hi,η3 hi]
 cases p (i / 8)
 ·rw [if_neg (by decide)];simp
 ·rw [if_pos U];simp
abbrev inr (x:Int):Prop:= -9223372036854775808≤x∧x≤9223372036854775807
theorem O3 (x:Int):inr (IntKind.wrap .i64 x):=by rw [τ7];constructor<;>omega
theorem Zw {o s:Int}(hO:OS o s):∃L,FP o s (8*o.toNat) (8*s.toNat) L∧FP 0 s 0 (8*s.toNat) L:=by
 rcases hO with⟨rfl,rfl⟩|⟨rfl,rfl⟩|⟨rfl,rfl⟩|⟨rfl,rfl⟩|⟨rfl,rfl⟩|⟨rfl,rfl⟩|⟨rfl,rfl⟩|⟨rfl,rfl⟩|⟨rfl,rfl⟩|⟨rfl,rfl⟩|⟨rfl,rfl⟩|⟨rfl,rfl⟩|⟨rfl,rfl⟩|⟨rfl,rfl⟩|⟨rfl,rfl⟩
 ·exact⟨L1,FP.mk1 0 (by decide) (by decide) (by decide),FP.mk1 0 (by decide) (by decide) (by decide)⟩
 ·exact⟨L1,FP.mk1 8 (by decide) (by decide) (by decide),FP.mk1 0 (by decide) (by decide) (by decide)⟩
 ·exact⟨L1,FP.mk1 16 (by decide) (by decide) (by decide),FP.mk1 0 (by decide) (by decide) (by decide)⟩
 ·exact⟨L1,FP.mk1 24 (by decide) (by decide) (by decide),FP.mk1 0 (by decide) (by decide) (by decide)⟩
 ·exact⟨L1,FP.mk1 32 (by decide) (by decide) (by decide),FP.mk1 0 (by decide) (by decide) (by decide)⟩
 ·exact⟨L1,FP.mk1 40 (by decide) (by decide) (by decide),FP.mk1 0 (by decide) (by decide) (by decide)⟩
 ·exact⟨L1,FP.mk1 48 (by decide) (by decide) (by decide),FP.mk1 0 (by decide) (by decide) (by decide)⟩
 ·exact⟨L1,FP.mk1 56 (by decide) (by decide) (by decide),FP.mk1 0 (by decide) (by decide) (by decide)⟩
 ·exact⟨L2,FP.mk2 0 (by decide) (by decide) (by decide),FP.mk2 0 (by decide) (by decide) (by decide)⟩
 ·exact⟨L2,FP.mk2 16 (by decide) (by decide) (by decide),FP.mk2 0 (by decide) (by decide) (by decide)⟩
 ·exact⟨L2,FP.mk2 32 (by decide) (by decide) (by decide),FP.mk2 0 (by decide) (by decide) (by decide)⟩
 ·exact⟨L2,FP.mk2 48 (by decide) (by decide) (by decide),FP.mk2 0 (by decide) (by decide) (by decide)⟩
 ·exact⟨L4,FP.mk4 0 (by decide) (by decide) (by decide),FP.mk4 0 (by decide) (by decide) (by decide)⟩
 ·exact⟨L4,FP.mk4 32 (by decide) (by decide) (by decide),FP.mk4 0 (by decide) (by decide) (by decide)⟩
 ·exact⟨L8,xV,xV⟩
theorem dI {o s a x:Int}(hO:OS o s)(ha:inr a)(hx:inr x):T7 a (IntKind.wrap .i64 (x*2^min (8*o).toNat (IntKind.bits .i64))) (AY o s) 8=AM a o s x:=by
 obtain⟨L,h,_⟩:=Zw hO
 have hr:=VJ hO
 have hh:=h.h
 have hp:=h.p
 conv=>lhs;rw [←Ik ha,←Ik hx]
 conv=>rhs;rw [←Ik hx]
 have e:(8*o).toNat=8*o.toNat:=by omega
 have h1:∀k:Nat,k<8→(GT (AY o s) (k:Int)=1↔(fun j=>decide (o.toNat≤j∧j<o.toNat+s.toNat)) k=true):=fun k hk=>by
  rw [VI hO k hk]
  by_cases q:o≤(k:Int)∧(k:Int)<o+s
  ·rw [if_pos q];simp only [true_iff,δ4];omega
  ·rw [if_neg q];simp only [δ4];constructor
   ·intro h2;cases h2
   ·intro h2;exact absurd h2 (by omega)
 have h2:∀i,i<64→(L <<< (8*o.toNat)).getLsbD i=(fun j=>decide (o.toNat≤j∧j<o.toNat+s.toNat)) (i / 8):=fun i hi=>by
  rw [BitVec.getLsbD_shiftLeft]
  by_cases q:8*o.toNat≤i
  ·rw [h.b (i - 8*o.toNat) (by omega),η3 hi,η9 (show¬i<8*o.toNat by omega),Bool.not_false,Bool.true_and,Bool.true_and]
   apply τ8.2
   omega
  ·rw [η3 (show i<8*o.toNat by omega),Bool.not_true,Bool.and_false,Bool.false_and]
   exact(η9 (by omega)).symm
 rw [e,No _ (8*o.toNat) (by omega),Rs h1 8 (β8 _),dH _ _ (L <<< (8*o.toNat)) _ h2,h.put]
theorem VL {o s m:Int}(hO:OS o s)(hm:inr m):Bm (Int.fdiv m (2^min (8*o).toNat (IntKind.bits .i64))) s=Aq m o s∧Bm (Aq m o s) s=Aq m o s:=by
 obtain⟨L,h,h0⟩:=Zw hO
 have hr:=VJ hO
 have hh:=h.h
 have hp:=h.p
 have e:(8*o).toNat=8*o.toNat:=by omega
 rw [←Ik hm,e,QE _ (8*o.toNat) (by omega),h0.low,h.get,h0.low,BitVec.and_assoc,BitVec.and_self]
 exact⟨rfl,rfl⟩
theorem Il (v s:Int):inr (Bm v s):=by
 unfold Bm;split
 ·decide
 ·exact O3 _
theorem VM (f v a s:Int):inr (Ju f v a s):=by
 unfold Ju
 split
 ·exact Il _ _
 ·split
  ·exact Il _ _
  ·decide
theorem LH {v:Int}(o s x:Int)(h:inr v):inr (AM v o s x):=by
 unfold AM;split
 ·exact h
 ·exact O3 _
theorem VN (o s m1:Int)(hO:OS o s)(hm:m1=AY o s):Fn Tryz.prog 95 [.n9 m1] [] (Rt (.int .i64 o) []):=
 AR (n:=16) (by kernel_rfl) Tryz.func95 U U U fun G w a h0 A=>N9 12 A U U fun A=>Bq (fun(k:Nat)=>[(0,.n9 m1),(2,.n9 0),(3,.n9 (k:Int))]) (fun(k:Nat)=>[]) (fun(k:Nat)=>k≤7∧∀j:Nat,j<k→GT m1 (j:Int)=0) (fun(k:Nat)=>8 - k) 0 ⟨β7 _,fun j h=>absurd h (υ4 _)⟩ ((A.cut [0,2,3] U).trunc 0 U U U (CL h0 U)) fun k hK {G a w} A=>N9 14 A U (Bz<|Bz<|JP (fun hg=>(by omega))<|Bz<|Bz<|Bz<|AB) fun A=>fork 12 A U
   (fun h1 A=>N9 10 A U (AE (by omega)<|AB) fun A=>⟨k+1,_,(by omega),(l4 h1 hK),((A.cut [0,2,3] U).trunc 0 U U U (CL h0 U)).sayT (by rfl)⟩)
   (fun h1 A=>N9 10 A U U fun A=>R9 A U h0 U (congrArg (SV.int .i64) (dG h1 hK hO hm)) U)
end Mc
section
open Go.RowKit
section
variable {P:Program}{Y:Tb}{n:Nat}{ks:ae}{G0:Gr}{w0:World}{T:List (Nat×SV)}{H:Hp}{G:Gr}{a:Act}{w:World}{ops:ah}{o:Oper}{Q:ab}{K:List Fr}{pos:Pos}
theorem Im {x:Operand}{b q:Nat}(BM:o.op=.nilCheck x)(hg:Av ops T o.guard=some .run)(hx:DA T x=some (EZ b q)):BG P n ops ks G0 w0 T H o (EZ b q) H:=fun G a w A=>by
 have hw:=A7 (gd:=none) A hg
 obtain⟨d,op,ty,pos,af,gd⟩:=o
 simp only at BM
 subst BM
 have Bb:=A.ev hx
 unfold den at Bb
 exact Fs hw (by rw [←β6 Bb]) ⟨[],rfl,by simpa using A.ms⟩
theorem Io {x:Operand}{t fi b q off:Nat}(BM:o.op=.fieldAddr t x fi)(hg:Av ops T o.guard=some .run)(hx:DA T x=some (EZ b q))(hf:Dp P t fi=some off):BG P n ops ks G0 w0 T H o (EZ b (q+off)) H:=fun G a w A=>by
 have hw:=A7 (gd:=none) A hg
 obtain⟨d,op,ty,pos,af,gd⟩:=o
 simp only at BM
 subst BM
 have Bb:=A.ev hx
 unfold den at Bb
 simp only [β1]at Bb
 exact EL hw Bb.symm hf ⟨[],rfl,by simpa using A.ms⟩
theorem Rv {x:Operand}{ty s b q0 q:Nat}{f:Nat→List SV}{r:List SV}{v:SV}{z:Value}(hX:Y.ok P=true)(BM:o.op=.load ty x)(hg:Av ops T o.guard=some .run)(hx:DA T x=some (EZ b (q0+q)))(h0:AP (some ⟨b,q0,none⟩) s 1 f w0 ks)(hr:f 0=r)(hc:DK ⟨Y,true⟩ ty r q=some v)(hv:den [] v=some z):BG P n ops ks G0 w0 T H o v H:=fun G a w A=>by
 have h1:=AP.ok w0 ks w ks h0 A.mix (fun b hb=>.inl hb)
 rcases h1.2 with q|⟨b',q',hb,_,_,h4⟩
 ·omega
 have hw:=A7 (gd:=none) A hg
 obtain⟨d,op,ty,pos,af,gd⟩:=o
 simp only at BM
 subst BM
 have Bb:=A.ev hx
 unfold den at Bb
 simp only [β1]at Bb
 obtain⟨vs,v1,v2⟩:=h4 0 (by omega)
 rw [hr]at v1
 have e:b'=b∧q'=q0:=by
  have:=β6 hb
  simp only [μ6]at this
  exact⟨this.1.symm,this.2.1.symm⟩
 obtain⟨rfl,rfl⟩:=e
 have v3:AO G r=some vs:=by simpa using A6 G r v1
 have v4:den G v=some z:=by simpa using Ax G v hv
 exact Ft (X:=⟨Y,true⟩) hX hc v3 v4 v2 hw (by rw [←Bb];simp) ⟨[],by simpa using v4,by simpa using A.ms⟩
end
section
variable {P:Program}{n:Nat}{ks:ae}{G0:Gr}{w0:World}{T:List (Nat×SV)}{H:Hp}{G:Gr}{a:Act}{w:World}{ops:ah}{o:Oper}{Q:ab}{pre:World→Prop}{i fuel:Nat}{listed:Array Bool}
theorem Ff {f:Nat} {args az:List SV} {H' l:Hp} {ks':ae} {J:SV→World→World→Prop} (m:ae) (ho:ops[i]?=some o) (hf:Mf P f args H' ks' pre J) (A:Sy n T H ks G0 w0 G a w) (hp:pre w) (Cy:IC H G ks') (hk:∀b,ks'.contains b=true→ks.contains b=true∨w0.heap.size≤b) (h1:Bi n ops T o=some (f,az)) (h2:D8 m args=some az) (h3:DR m H'=some l) (h4:DC H m=some l) (h5:Ks m=true)
  (k:∀{x a' w'},CQ ks' w w'→J x w w'→Sy n (BN T o.dst x) H ks G0 w0 G a' w'→wpAny P .any ops Q fuel (listed.setIfInBounds i true) a' w'):wpOp P ops Q i (wpAny P .any ops Q fuel (listed.setIfInBounds i true)) a w:=by
 obtain⟨hd,us,hu,Lp⟩:=DO (P:=P) (ops:=ops) A h1 hf.1
 obtain⟨p1,p2,p3⟩:=Du h4
 obtain⟨r1,r2⟩:=EG h3
 have hm:∀j∈m,j<G.length:=fun j hj=>by rw [←A.mem.len];exact p2 j hj
 have hM:=A.mem.sub h4 h3 h5
 have Qp:AO (BE m G) args=some us:=by rw [Dt hm args h2];exact hu
 have vW:IC H' (BE m G) ks':=fun i e L q1 q2 q3=>by
  obtain⟨f,s1,s2⟩:=r2 i _ q1
  obtain⟨f',rfl⟩:=Dj s2
  have hi:i<m.length:=by rw [←p1];exact(α0.1 s1).1
  have hj:m[i]?=some m[i]:=by simp [hi]
  rw [Bp hm hj]at q2
  rw [p3 i _ hj]at s1
  exact Cy _ f' L s1 q2 fun h=>q3 ((Ck s2).2.1 h)
 refine LD ho (Lp (hf.2.2 _ w us hM vW hp Qp) fun e w' he=>?_)
 obtain⟨x,v,e1,rfl,hg,hJ⟩:=he
 exact⟨v,rfl,k hg hJ (Sy.put (A.mixed hg Cy hk) hd (by simpa using Ax G x e1))⟩
end
theorem Gv.lst {L:Loc}{cs:List SV}{pb:Option (Nat×Nat)}{ps:List Int}{w:World}{ks:ae}(h:Gv L cs pb ps w)(hk:ks.contains L.b=false):AP (some ⟨L.b,L.pre.length,none⟩) (cs.length+1) 1 (fun _=>cs++[.v (Jt pb ps.length)]) w ks:=by
 obtain⟨vs,T8,hb⟩:=h.blk
 have hd:AO [] (cs++[.v (Jt pb ps.length)])=some (vs++[Jt pb ps.length]):=HQ U T8
 obtain⟨L',us,e1,e2,e3⟩:=Ag.range (G:=[]) (w:=w) (p:=some L) (cs:=cs++[.v (Jt pb ps.length)]) ⟨L,_,rfl,hd,hb⟩
 cases e1
 refine⟨fun k=>⟨_,hd⟩,.inr ⟨L.b,L.pre.length,rfl,hb.lt,hk,fun k hk=>⟨us,e2,?_⟩⟩⟩
 have wC:k=0:=by omega
 subst wC
 simpa using e3
end
namespace Mc
open Go.RowKit
set_option simprocs false
def GU (r:Rg)(i:In):Int:=if((i.op==5)&&(decide (i.ra<0)))=true then i.imm else DD r i.ra 0
theorem Zx (l:List In)(ao:ak)(cp:Nat)(at_:Int)(r:Rg)(ps:List Int)(g:Int)(hg: -1≤g∧g<8):Fn Tryz.prog 97 [.ptr 0 0,.n9 g] [O (E5 (.sla ao l.length cp) r at_ (.sl 1 ps.length 0)),some (.row 3 1 ps.length 0 (EO ps))] (Rt (.int .i64 (DD r g 0)) [O (E5 (.sla ao l.length cp) r at_ (.sl 1 ps.length 0)),some (.row 3 1 ps.length 0 (EO ps))]):=
 AR (n:=13) (by kernel_rfl) Tryz.func97 U U U fun G w a h0 A=>N9 12 A U U fun A=>AU 6 A U
  (fun h1 A=>N9 7 A U U fun A=>R9 A U h0 U (by unfold DD;rw [if_pos (by omega)]<;>rfl) U)
  (fun h1 A=>N9 10 A U (AE (by omega)<|AB) fun A=>Af A U (Sx (r:=r) hX U U U U U U U (by omega)) fun A=>N9 4 A U U fun A=>R9 A U h0 U (by unfold DD;rw [if_neg (by omega)]<;>rfl) U)
theorem Zy (l:List In)(ao:ak)(cp:Nat)(at_:Int)(r:Rg)(ps:List Int)(i:In)(ha: -1≤i.ra∧i.ra<8):Fn Tryz.prog 100 [.ptr 0 0,.agg (AZ i)] [O (E5 (.sla ao l.length cp) r at_ (.sl 1 ps.length 0)),some (.row 3 1 ps.length 0 (EO ps))] (Rt (.int .i64 (GU r i)) [O (E5 (.sla ao l.length cp) r at_ (.sl 1 ps.length 0)),some (.row 3 1 ps.length 0 (EO ps))]):=
 AR (n:=19) (by kernel_rfl) Tryz.func100 U U U fun G w a h0 A=>N9 19 A U U fun A=>fork 12 A U
  (fun h1 A=>N9 9 A U U fun A=>R9 A U h0 U (by unfold GU;rw [h1]<;>rfl) U)
  (fun h1 A=>N9 8 A U U fun A=>C9 [0,1] (Zx l ao cp at_ r ps i.ra (by omega)) A U fun A=>N9 4 A U U fun A=>R9 A U h0 U (by unfold GU;rw [h1]<;>rfl) U)
theorem l6 (l:List In)(ao:ak)(cp:Nat)(at_:Int)(r:Rg)(ps:List Int)(i:In)(hs:i.sz=1∨i.sz=2∨i.sz=4∨i.sz=8)(hx: -1≤i.ix∧i.ix<8):Fn Tryz.prog 63 [.ptr 0 0,.agg (AZ i)] [O (E5 (.sla ao l.length cp) r at_ (.sl 1 ps.length 0)),some (.row 3 1 ps.length 0 (EO ps))] (Rt (.agg [.n9 i.loc,.n9 (BX (Ah i.off (DD r i.ix 0) i.sz) i.sz)]) [O (E5 (.sla ao l.length cp) r at_ (.sl 1 ps.length 0)),some (.row 3 1 ps.length 0 (EO ps))]):=
 AR (n:=11) (by kernel_rfl) Tryz.func63 U U U fun G w a h0 A=>N9 7 A U U fun A=>A9 hX BW [(5,.agg [.n9 i.loc,.n9 (BX (Ah i.off (DD r i.ix 0) i.sz) i.sz)])] [(4,.n9 (DD r i.ix 0),[O (E5 (.sla ao l.length cp) r at_ (.sl 1 ps.length 0)),some (.row 3 1 ps.length 0 (EO ps)),O (AZ i),O [.z9,.z9]])] A U U U U (by kernel_rfl) ⟨Ef [0,1] (Zx l ao cp at_ r ps i.ix hx) U U U U U U U,⟨trivial,trivial⟩⟩ ⟨.inl ⟨_,_,rfl,rfl,VF i (DD r i.ix 0) hs⟩,trivial⟩ fun A=>N9 2 A U U fun A=>R9 A U h0 U U U
end Mc
namespace Mc
open Go.RowKit
set_option simprocs false
def l7 (L:Loc)(l:List In)(ao:ak)(cp:Nat)(s:Th)(pb:Option (Nat×Nat)):SV→World→World→Prop:=fun _ w w'=>∃pb' ps',Gv L (Sz (.sla ao l.length cp) s.r ((s.at_:Nat):Int)) pb' ps' w'∧ps'.length≤s.at_∧∀b,(Hj pb').contains b=true→(L.b::Hj pb).contains b=true∨w.heap.size≤b
theorem Jd {L:Loc}{l:List In}{ao:ak}{cp:Nat}{s z:Th}{pb:Option (Nat×Nat)}{ps':List Int}{x:SV}{w w':World}(h:∃pb',Gv L (Sz (.sla ao l.length cp) z.r ((z.at_:Nat):Int)) pb' ps' w'∧∀b,(Hj pb').contains b=true→(L.b::Hj pb).contains b=true∨w.heap.size≤b)(e:s=z)(hl:ps'.length≤z.at_):l7 L l ao cp s pb x w w':=by
 subst e;obtain⟨pb',h1,h2⟩:=h;exact⟨pb',ps',h1,hl,h2⟩
theorem O4 {H:Hp}{i:Nat}{e:Option BZ}(h:lg H i=some e):CE H i e=H:=by
 rw [At]at h
 rw [Aw]
 apply θ9
 intro j
 by_cases hj:j=i
 ·subst hj;rw [γ7 (α0.1 h).1,h]
 ·rw [γ0 (ε9 hj)]
section
variable {n:Nat}{ks:ae}{G0:Gr}{w0:World}{T:List (Nat×SV)}{H:Hp}{G:Gr}{a:Act}{w:World}
theorem _root_.Go.Proofs.YtbbdanhpphlbpaaGreatDoor.Sy.thSay (A:Sy n T H ks G0 w0 G a w)(i q:Nat){c:SV}{r r':Rg}{at_ at':Int}{m m':Nat}{ps:List Int}{H':Hp}(hi:lg H i=some (some (.blk (E5 c r at_ (.sl q m 0)))))(hq:lg H q=some (some (.row 3 1 m 0 (EO ps))))(hr:r'=r)(ha:at'=at_)(hm:m'=m)(hH:CE (CE H q (some (.row 3 1 m' 0 (EO ps)))) i (some (.blk (E5 c r' at' (.sl q m' 0))))=H'):Sy n T H' ks G0 w0 G a w:=by
 subst hr;subst ha;subst hm
 rw [O4 hq,O4 hi]at hH
 subst hH
 exact A
theorem _root_.Go.Proofs.YtbbdanhpphlbpaaGreatDoor.Sy.at_pre (A:Sy n T H ks G0 w0 G a w){i:Nat}{L:Loc}(h:G0[i]?=some (some L)):G[i]?=some (some L):=by
 obtain⟨F,hF⟩:=A.pre
 rw [hF,α2 (α0.1 h).1];exact h
end
abbrev Bd (l:List In)(z:Th):In:=l.getD (((z.at_:Nat):Int)).toNat In.z
theorem Rx {l:List In}{z:Th}(hc:Fo l)(BU:z.at_<l.length){R:Rg}{A:Int}(hR:ID z.r (Bd l z)=R)(hA:Fp ((z.at_:Nat):Int) z.r (Bd l z)=A):(Gb l z).r=R∧(((Gb l z).at_:Nat):Int)=A:=by
 have hr:=KY (z:=z) hc BU
 have hA':Fp ((z.at_:Nat):Int) z.r (l.getD z.at_ In.z)=A:=hA
 refine⟨hR,?_⟩
 show(((Fp ((z.at_:Nat):Int) z.r (l.getD z.at_ In.z)).toNat:Nat):Int)=A
 omega
structure PI (l:List In)(s z:Th)(ps:List Int):Prop where
 si:SI l s z
 pl:ps.length≤z.at_
theorem PI.nx {l:List In}{s z:Th}{ps:List Int}(h:PI l s z ps)(hc:Fo l)(BU:z.at_<l.length)(GX:H4 (Bd l z)=false)(x:Int):PI l s (Gb l z) (ps++[x])∧l.length - (Gb l z).at_<l.length - z.at_:=by
 have h1:=h.si.nx hc (by omega) (by rw [GX];rfl)
 have h2:=h.pl
 exact⟨⟨h1.1,by rw [α4];show ps.length+1≤_;omega⟩,h1.2⟩
theorem Ry (l:List In) (ao:ak) (cp:Nat) (s:Th) (L:Loc) (pb:Option (Nat×Nat)) (ps:List Int) (hc:Fo l) (D6:s.at_≤l.length) (ZO:ps.length≤s.at_):Mf Tryz.prog 54 [.v (.pointer (some ⟨L.b,L.pre.length,none⟩))] [] (L.b::Hj pb) (fun w=>Gv L (Sz (.sla ao l.length cp) s.r ((s.at_:Nat):Int)) pb ps w∧Fe ao l w (L.b::Hj pb)) (l7 L l ao cp (FK l s) pb):=
 Eg (n:=133) (by kernel_rfl) Tryz.func54 U U U (fun i e h=>by rw [ι1]at h;cases h) fun G w a h0 ho hp A=>Zn 0 A hp.1 U U fun A PV wD=>have B:=A;have A:=B.base;have h0:=B.mem.len;have hI:=AP.ok _ _ _ _ hp.2 (CQ.refl _ _) wD;Zo 1 0 (cs:=Sz (.sla ao l.length cp) s.r ((s.at_:Nat):Int)) (H':=[none,O (E5 (.sla ao l.length cp) s.r ((s.at_:Nat):Int) (.sl 2 ps.length 0)),some (.row 3 1 ps.length 0 (EO ps))]) A U U U U fun A=>N9 7 A U U fun A=>Ok (fun(z:Th) (ps1:List Int)=>[(0,.ptr 1 0),(2,.ff)]) (fun(z:Th) (ps1:List Int)=>[none,O (E5 (.sla ao l.length cp) z.r ((z.at_:Nat):Int) (.sl 2 ps1.length 0)),some (.row 3 1 ps1.length 0 (EO ps1))]) (fun(z:Th) (ps1:List Int)=>PI l s z ps1) (fun(z:Th) (ps1:List Int)=>l.length - z.at_) s ps ⟨SI.i0 D6,ZO⟩ ((A.cut [0,2] U).trunc 3 U U U (CL h0 U)) fun z ps1 hJ {G a w} A=>N9 2 A U U fun A=>A9 hX BW [] [] A U U U U (by kernel_rfl) (An _ _) trivial fun A=>N9 1 A U U fun A=>AU 14 A U
   (fun h1 A=>N9 5 A U U fun A=>have BU:z.at_<l.length:=(by omega);have hs:Uv (Bd l z):=hc.snd BU;have hn:=hc.n;have I4:=hJ.pl;GL BW [.ptr 1 0,.ptr 1 0,.ptr 1 0,.sla ao l.length cp,.ptr 1 0,.ptr 1 0,.ptr 1 9,.n9 ((z.at_:Nat):Int),.v (.pointer (Sq ao 17 ((z.at_:Nat):Int))),.agg (AZ (Bd l z)),.ptr 3 0,.tup []] [10,11] [3] 1 [([],[3],[none,O (E5 (.sla ao l.length cp) z.r ((z.at_:Nat):Int) (.sl 2 ps1.length 0)),some (.row 3 1 ps1.length 0 (EO ps1)),none]),([10],[],[none,O (E5 (.sla ao l.length cp) z.r ((z.at_:Nat):Int) (.sl 2 ps1.length 0)),some (.row 3 1 ps1.length 0 (EO ps1)),O [.z9,.z9,.z9,.z9,.z9,.z9,.z9,.z9,.z9,.z9,.ff,.ff,.ff,.z9,.z9,.z9,.ff]]),([10,11],[],[none,O (E5 (.sla ao l.length cp) z.r ((z.at_:Nat):Int) (.sl 2 ps1.length 0)),some (.row 3 1 ps1.length 0 (EO ps1)),O (AZ (Bd l z))])] [[true,true,true,true,true,true,true,true,true,true,true,false],[true,true,true,true,true,true,true,true,true,true,false,true],[false,false,false,false,false,false,false,false,false,false,false,false]] A U U U U (by kernel_rfl) U (by kernel_rfl) ⟨⟨AJ 0 U U,⟨AJ 0 U U,⟨AJ 0 U U,⟨AJ 0 U U,⟨AJ 0 U U,⟨AJ 0 U U,⟨AJ 0 U U,⟨AJ 0 U U,⟨BB 0 U (Fb (e:=63) U U U U hI (by kernel_rfl) (by omega)),⟨BB 0 U (K9 (Ce (Bd l z)) hX U U U hI (by omega) U U),⟨⟨_,_,_,_,1,rfl,rfl,rfl,rfl,C7 3 (X:=⟨_,true⟩) hX U U (JZ h0 U) U U U U⟩,trivial⟩⟩⟩⟩⟩⟩⟩⟩⟩⟩⟩,⟨⟨AJ 1 U U,⟨AJ 1 U U,⟨AJ 1 U U,⟨AJ 1 U U,⟨AJ 1 U U,⟨AJ 1 U U,⟨AJ 1 U U,⟨AJ 1 U U,⟨BB 1 U (Fb (e:=63) U U U U hI (by kernel_rfl) (by omega)),⟨BB 1 U (K9 (Ce (Bd l z)) hX U U U hI (by omega) U U),⟨BB 2 U (AT (X:=⟨_,true⟩) (out:=.upd 3 (AZ (Bd l z)) _) hX U U),trivial⟩⟩⟩⟩⟩⟩⟩⟩⟩⟩⟩,⟨trivial,trivial⟩⟩⟩ fun A=>N9 5 A U U fun A=>C9 [] (Zr (Bd l z)) A U fun A=>N9 12 A U U fun A=>fork 36 A U
    (fun h2 A=>N9 7 A U U fun A=>GS hX (B.trans A) U U U U (Jd (Sy.giveT (B.trans A) 1 2 (A.at_pre PV) U U U U) (hJ.si.fin (fun q=>by rw [show H4 (l.getD z.at_ In.z)=true from h2]at q;cases q.2)) hJ.pl))
    (fun h2 A=>N9 4 A U U fun A=>A9 hX BW [] [(10,.sl 5 (ps1.length+1) 0,[none,O (E5 (.sla ao l.length cp) z.r ((z.at_:Nat):Int) (.sl 2 ps1.length 0)),none,O (AZ (Bd l z)),O [.n9 ((z.at_:Nat):Int)],some (.row 3 1 (ps1.length+1) 0 (EO (ps1++[((z.at_:Nat):Int)])))])] A U U U U (by kernel_rfl) ⟨trivial,⟨NR (i:=2) hX (ps1.length+1) (EO (ps1++[((z.at_:Nat):Int)])) U U U U (by omega) U (fun k hk=>by show [SV.int .i64 _]=[SV.int .i64 _];rw [BC hk]) (by show [SV.int .i64 _]=_;rw [De]) (fun z=>⟨_,rfl,rfl⟩),⟨trivial,trivial⟩⟩⟩ trivial fun A=>N9 14 A U (AE (by omega)<|AB) fun A=>N9 12 A U U fun A=>AV 59 A U
     (fun h3 A=>N9 1 A U U fun A=>A9 hX BW [] [(8,.tup [],[none,O (E5 (.sla ao l.length cp) (AX z.r ((Bd l z).dst).toNat ((Bd l z).imm)) (((z.at_:Nat):Int)+1) (.sl 5 (ps1.length+1) 0)),none,O (AZ (Bd l z)),O [.n9 ((z.at_:Nat):Int)],some (.row 3 1 (ps1.length+1) 0 (EO (ps1++[((z.at_:Nat):Int)])))])] A U (AE (by first|exact hs.d (by omega)|exact hs.a (by omega)|(have hb:=hs.b (by omega);omega)|omega)<|AB) U U (by kernel_rfl) ⟨Sw (i:=1) (r:=z.r) hX U U U U U U U U (by first|exact hs.d (by omega)|exact hs.a (by omega)|(have hb:=hs.b (by omega);omega)|omega),trivial⟩ trivial fun A=>N9 2 A U U fun A=>⟨Gb l z,ps1++[((z.at_:Nat):Int)],_,(hJ.nx hc BU h2 ((z.at_:Nat):Int)).2,(hJ.nx hc BU h2 ((z.at_:Nat):Int)).1,(((A.thSay 1 5 (r':=(Gb l z).r) (at':=(((Gb l z).at_:Nat):Int)) (m':=(ps1++[((z.at_:Nat):Int)]).length) U U (Rx hc BU (by unfold ID;rw [if_pos h3]) (by unfold Fp;rw [if_neg (by omega)])).1 (Rx hc BU (by unfold ID;rw [if_pos h3]) (by unfold Fp;rw [if_neg (by omega)])).2 (by rw [α4];rfl) U).cut [0,2] U).mv 2 [5] U U U U (by simp only [β0,β2]at h0;omega))⟩)
     (fun h3 A=>N9 7 A U U fun A=>AV 69 A U
      (fun h4 A=>N9 1 A U U fun A=>GL BW [.ptr 1 0,.ptr 3 1,.n9 ((Bd l z).dst),.ptr 1 0,.ptr 3 2,.n9 ((Bd l z).ra),.ptr 1 0,.ptr 1 1,.ix (.ptr 1 1) 1 8 ((Bd l z).ra) 0,.n9 (z.r ((Bd l z).ra).toNat),.ptr 1 0,.ptr 1 1,.ix (.ptr 1 1) 1 8 ((Bd l z).dst) 0,.tup []] [13] [] 0 [([],[],[none,O (E5 (.sla ao l.length cp) z.r (((z.at_:Nat):Int)+1) (.sl 5 (ps1.length+1) 0)),none,O (AZ (Bd l z)),O [.n9 ((z.at_:Nat):Int)],some (.row 3 1 (ps1.length+1) 0 (EO (ps1++[((z.at_:Nat):Int)])))]),([13],[],[none,O (E5 (.sla ao l.length cp) (AX z.r ((Bd l z).dst).toNat (z.r ((Bd l z).ra).toNat)) (((z.at_:Nat):Int)+1) (.sl 5 (ps1.length+1) 0)),none,O (AZ (Bd l z)),O [.n9 ((z.at_:Nat):Int)],some (.row 3 1 (ps1.length+1) 0 (EO (ps1++[((z.at_:Nat):Int)])))])] [[true,true,true,true,true,true,true,true,true,true,true,true,true,true],[false,false,false,false,false,false,false,false,false,false,true,true,false,false]] A U U U U (by kernel_rfl) U (by kernel_rfl) ⟨⟨AJ 0 U U,⟨AJ 0 U U,⟨AJ 0 U U,⟨AJ 0 U U,⟨AJ 0 U U,⟨AJ 0 U U,⟨AJ 0 U U,⟨AJ 0 U U,⟨AJ 0 U (AE (by first|exact hs.d (by omega)|exact hs.a (by omega)|(have hb:=hs.b (by omega);omega)|omega)<|AB),⟨BB 0 U (Sx (r:=z.r) hX U U U U U U U (by first|exact hs.d (by omega)|exact hs.a (by omega)|(have hb:=hs.b (by omega);omega)|omega)),⟨AJ 0 U U,⟨AJ 0 U U,⟨AJ 0 U (AE (by first|exact hs.d (by omega)|exact hs.a (by omega)|(have hb:=hs.b (by omega);omega)|omega)<|AB),⟨BB 1 U (Sw (i:=1) (r:=z.r) hX U U U U U U U U (by first|exact hs.d (by omega)|exact hs.a (by omega)|(have hb:=hs.b (by omega);omega)|omega)),trivial⟩⟩⟩⟩⟩⟩⟩⟩⟩⟩⟩⟩⟩⟩,⟨⟨AJ 1 U U,⟨AJ 1 U U,trivial⟩⟩,trivial⟩⟩ fun A=>N9 2 A U U fun A=>⟨Gb l z,ps1++[((z.at_:Nat):Int)],_,(hJ.nx hc BU h2 ((z.at_:Nat):Int)).2,(hJ.nx hc BU h2 ((z.at_:Nat):Int)).1,(((A.thSay 1 5 (r':=(Gb l z).r) (at':=(((Gb l z).at_:Nat):Int)) (m':=(ps1++[((z.at_:Nat):Int)]).length) U U (Rx hc BU (by unfold ID;rw [if_neg (by omega),if_pos h4]) (by unfold Fp;rw [if_neg (by omega)])).1 (Rx hc BU (by unfold ID;rw [if_neg (by omega),if_pos h4]) (by unfold Fp;rw [if_neg (by omega)])).2 (by rw [α4];rfl) U).cut [0,2] U).mv 2 [5] U U U U (by simp only [β0,β2]at h0;omega))⟩)
      (fun h4 A=>N9 7 A U U fun A=>AV 84 A U
       (fun h5 A=>N9 16 A U U fun A=>AU 90 A U
        (fun h6 A=>N9 1 A U U fun A=>GL BW [.ptr 1 0,.ptr 3 3,.n9 ((Bd l z).rb),.ptr 1 0,.ptr 1 1,.ix (.ptr 1 1) 1 8 ((Bd l z).rb) 0,.n9 (z.r ((Bd l z).rb).toNat),.n9 (z.r ((Bd l z).rb).toNat)] [] [] 0 [([],[],[none,O (E5 (.sla ao l.length cp) z.r (((z.at_:Nat):Int)+1) (.sl 5 (ps1.length+1) 0)),none,O (AZ (Bd l z)),O [.n9 ((z.at_:Nat):Int)],some (.row 3 1 (ps1.length+1) 0 (EO (ps1++[((z.at_:Nat):Int)])))])] [[true,true,true,true,true,true,true,true]] A U U U U (by kernel_rfl) U (by kernel_rfl) ⟨⟨AJ 0 U U,⟨AJ 0 U U,⟨AJ 0 U U,⟨AJ 0 U U,⟨AJ 0 U U,⟨AJ 0 U (AE (by first|exact hs.d (by omega)|exact hs.a (by omega)|(have hb:=hs.b (by omega);omega)|omega)<|AB),⟨BB 0 U (Sx (r:=z.r) hX U U U U U U U (by first|exact hs.d (by omega)|exact hs.a (by omega)|(have hb:=hs.b (by omega);omega)|omega)),⟨AJ 0 U U,trivial⟩⟩⟩⟩⟩⟩⟩⟩,trivial⟩ fun A=>N9 1 A U U fun A=>GL BW [.ptr 1 0,.ptr 3 1,.n9 ((Bd l z).dst),.ptr 3 9,.n9 ((Bd l z).fn),.ptr 1 0,.ptr 3 2,.n9 ((Bd l z).ra),.ptr 1 0,.ptr 1 1,.ix (.ptr 1 1) 1 8 ((Bd l z).ra) 0,.n9 (z.r ((Bd l z).ra).toNat),.n9 (z.r ((Bd l z).rb).toNat),.n9 (C3 ((Bd l z).fn) (z.r ((Bd l z).ra).toNat) (z.r ((Bd l z).rb).toNat)),.ptr 1 0,.ptr 1 1,.ix (.ptr 1 1) 1 8 ((Bd l z).dst) 0,.tup []] [17] [] 0 [([],[],[none,O (E5 (.sla ao l.length cp) z.r (((z.at_:Nat):Int)+1) (.sl 5 (ps1.length+1) 0)),none,O (AZ (Bd l z)),O [.n9 ((z.at_:Nat):Int)],some (.row 3 1 (ps1.length+1) 0 (EO (ps1++[((z.at_:Nat):Int)])))]),([17],[],[none,O [.sla ao l.length cp,.n9 ((AX z.r ((Bd l z).dst).toNat (C3 ((Bd l z).fn) (z.r ((Bd l z).ra).toNat) (z.r ((Bd l z).rb).toNat))) 0),.n9 ((AX z.r ((Bd l z).dst).toNat (C3 ((Bd l z).fn) (z.r ((Bd l z).ra).toNat) (z.r ((Bd l z).rb).toNat))) 1),.n9 ((AX z.r ((Bd l z).dst).toNat (C3 ((Bd l z).fn) (z.r ((Bd l z).ra).toNat) (z.r ((Bd l z).rb).toNat))) 2),.n9 ((AX z.r ((Bd l z).dst).toNat (C3 ((Bd l z).fn) (z.r ((Bd l z).ra).toNat) (z.r ((Bd l z).rb).toNat))) 3),.n9 ((AX z.r ((Bd l z).dst).toNat (C3 ((Bd l z).fn) (z.r ((Bd l z).ra).toNat) (z.r ((Bd l z).rb).toNat))) 4),.n9 ((AX z.r ((Bd l z).dst).toNat (C3 ((Bd l z).fn) (z.r ((Bd l z).ra).toNat) (z.r ((Bd l z).rb).toNat))) 5),.n9 ((AX z.r ((Bd l z).dst).toNat (C3 ((Bd l z).fn) (z.r ((Bd l z).ra).toNat) (z.r ((Bd l z).rb).toNat))) 6),.n9 ((AX z.r ((Bd l z).dst).toNat (C3 ((Bd l z).fn) (z.r ((Bd l z).ra).toNat) (z.r ((Bd l z).rb).toNat))) 7),.n9 (((z.at_:Nat):Int)+1),.sl 5 (ps1.length+1) 0],none,O (AZ (Bd l z)),O [.n9 ((z.at_:Nat):Int)],some (.row 3 1 (ps1.length+1) 0 (EO (ps1++[((z.at_:Nat):Int)])))])] [[true,true,true,true,true,true,true,true,true,true,true,true,true,true,true,true,true,true],[false,false,false,false,false,false,false,false,false,false,false,false,false,false,true,true,false,false]] A U U U U (by kernel_rfl) U (by kernel_rfl) ⟨⟨AJ 0 U U,⟨AJ 0 U U,⟨AJ 0 U U,⟨AJ 0 U U,⟨AJ 0 U U,⟨AJ 0 U U,⟨AJ 0 U U,⟨AJ 0 U U,⟨AJ 0 U U,⟨AJ 0 U U,⟨AJ 0 U (AE (by first|exact hs.d (by omega)|exact hs.a (by omega)|(have hb:=hs.b (by omega);omega)|omega)<|AB),⟨BB 0 U (Sx (r:=z.r) hX U U U U U U U (by first|exact hs.d (by omega)|exact hs.a (by omega)|(have hb:=hs.b (by omega);omega)|omega)),⟨AJ 0 U U,⟨BB 0 U (Ct U U (Zq ((Bd l z).fn) (z.r ((Bd l z).ra).toNat) (z.r ((Bd l z).rb).toNat))),⟨AJ 0 U U,⟨AJ 0 U U,⟨AJ 0 U (AE (by first|exact hs.d (by omega)|exact hs.a (by omega)|(have hb:=hs.b (by omega);omega)|omega)<|AB),⟨BB 1 U (Sw (i:=1) (r:=z.r) hX U U U U U U U U (by first|exact hs.d (by omega)|exact hs.a (by omega)|(have hb:=hs.b (by omega);omega)|omega)),trivial⟩⟩⟩⟩⟩⟩⟩⟩⟩⟩⟩⟩⟩⟩⟩⟩⟩⟩,⟨⟨AJ 1 U U,⟨AJ 1 U U,trivial⟩⟩,trivial⟩⟩ fun A=>N9 2 A U U fun A=>⟨Gb l z,ps1++[((z.at_:Nat):Int)],_,(hJ.nx hc BU h2 ((z.at_:Nat):Int)).2,(hJ.nx hc BU h2 ((z.at_:Nat):Int)).1,(((A.thSay 1 5 (r':=(Gb l z).r) (at':=(((Gb l z).at_:Nat):Int)) (m':=(ps1++[((z.at_:Nat):Int)]).length) U U (Rx hc BU (by unfold ID DD;rw [if_neg (by omega),if_neg (by omega),if_pos h5,if_neg (by have hb:=hs.b (by omega);omega)]<;>rfl) (by unfold Fp;rw [if_neg (by omega)])).1 (Rx hc BU (by unfold ID DD;rw [if_neg (by omega),if_neg (by omega),if_pos h5,if_neg (by have hb:=hs.b (by omega);omega)]<;>rfl) (by unfold Fp;rw [if_neg (by omega)])).2 (by rw [α4];rfl) U).cut [0,2] U).mv 2 [5] U U U U (by simp only [β0,β2]at h0;omega))⟩)
        (fun h6 A=>N9 3 A U U fun A=>GL BW [.ptr 1 0,.ptr 3 1,.n9 ((Bd l z).dst),.ptr 3 9,.n9 ((Bd l z).fn),.ptr 1 0,.ptr 3 2,.n9 ((Bd l z).ra),.ptr 1 0,.ptr 1 1,.ix (.ptr 1 1) 1 8 ((Bd l z).ra) 0,.n9 (z.r ((Bd l z).ra).toNat),.n9 ((Bd l z).imm),.n9 (C3 ((Bd l z).fn) (z.r ((Bd l z).ra).toNat) ((Bd l z).imm)),.ptr 1 0,.ptr 1 1,.ix (.ptr 1 1) 1 8 ((Bd l z).dst) 0,.tup []] [17] [] 0 [([],[],[none,O (E5 (.sla ao l.length cp) z.r (((z.at_:Nat):Int)+1) (.sl 5 (ps1.length+1) 0)),none,O (AZ (Bd l z)),O [.n9 ((z.at_:Nat):Int)],some (.row 3 1 (ps1.length+1) 0 (EO (ps1++[((z.at_:Nat):Int)])))]),([17],[],[none,O [.sla ao l.length cp,.n9 ((AX z.r ((Bd l z).dst).toNat (C3 ((Bd l z).fn) (z.r ((Bd l z).ra).toNat) ((Bd l z).imm))) 0),.n9 ((AX z.r ((Bd l z).dst).toNat (C3 ((Bd l z).fn) (z.r ((Bd l z).ra).toNat) ((Bd l z).imm))) 1),.n9 ((AX z.r ((Bd l z).dst).toNat (C3 ((Bd l z).fn) (z.r ((Bd l z).ra).toNat) ((Bd l z).imm))) 2),.n9 ((AX z.r ((Bd l z).dst).toNat (C3 ((Bd l z).fn) (z.r ((Bd l z).ra).toNat) ((Bd l z).imm))) 3),.n9 ((AX z.r ((Bd l z).dst).toNat (C3 ((Bd l z).fn) (z.r ((Bd l z).ra).toNat) ((Bd l z).imm))) 4),.n9 ((AX z.r ((Bd l z).dst).toNat (C3 ((Bd l z).fn) (z.r ((Bd l z).ra).toNat) ((Bd l z).imm))) 5),.n9 ((AX z.r ((Bd l z).dst).toNat (C3 ((Bd l z).fn) (z.r ((Bd l z).ra).toNat) ((Bd l z).imm))) 6),.n9 ((AX z.r ((Bd l z).dst).toNat (C3 ((Bd l z).fn) (z.r ((Bd l z).ra).toNat) ((Bd l z).imm))) 7),.n9 (((z.at_:Nat):Int)+1),.sl 5 (ps1.length+1) 0],none,O (AZ (Bd l z)),O [.n9 ((z.at_:Nat):Int)],some (.row 3 1 (ps1.length+1) 0 (EO (ps1++[((z.at_:Nat):Int)])))])] [[true,true,true,true,true,true,true,true,true,true,true,true,true,true,true,true,true,true],[false,false,false,false,false,false,false,false,false,false,false,false,false,false,true,true,false,false]] A U U U U (by kernel_rfl) U (by kernel_rfl) ⟨⟨AJ 0 U U,⟨AJ 0 U U,⟨AJ 0 U U,⟨AJ 0 U U,⟨AJ 0 U U,⟨AJ 0 U U,⟨AJ 0 U U,⟨AJ 0 U U,⟨AJ 0 U U,⟨AJ 0 U U,⟨AJ 0 U (AE (by first|exact hs.d (by omega)|exact hs.a (by omega)|(have hb:=hs.b (by omega);omega)|omega)<|AB),⟨BB 0 U (Sx (r:=z.r) hX U U U U U U U (by first|exact hs.d (by omega)|exact hs.a (by omega)|(have hb:=hs.b (by omega);omega)|omega)),⟨AJ 0 U U,⟨BB 0 U (Ct U U (Zq ((Bd l z).fn) (z.r ((Bd l z).ra).toNat) ((Bd l z).imm))),⟨AJ 0 U U,⟨AJ 0 U U,⟨AJ 0 U (AE (by first|exact hs.d (by omega)|exact hs.a (by omega)|(have hb:=hs.b (by omega);omega)|omega)<|AB),⟨BB 1 U (Sw (i:=1) (r:=z.r) hX U U U U U U U U (by first|exact hs.d (by omega)|exact hs.a (by omega)|(have hb:=hs.b (by omega);omega)|omega)),trivial⟩⟩⟩⟩⟩⟩⟩⟩⟩⟩⟩⟩⟩⟩⟩⟩⟩⟩,⟨⟨AJ 1 U U,⟨AJ 1 U U,trivial⟩⟩,trivial⟩⟩ fun A=>N9 2 A U U fun A=>⟨Gb l z,ps1++[((z.at_:Nat):Int)],_,(hJ.nx hc BU h2 ((z.at_:Nat):Int)).2,(hJ.nx hc BU h2 ((z.at_:Nat):Int)).1,(((A.thSay 1 5 (r':=(Gb l z).r) (at':=(((Gb l z).at_:Nat):Int)) (m':=(ps1++[((z.at_:Nat):Int)]).length) U U (Rx hc BU (by unfold ID DD;rw [if_neg (by omega),if_neg (by omega),if_pos h5,if_pos (by have hb:=hs.b (by omega);omega)]<;>rfl) (by unfold Fp;rw [if_neg (by omega)])).1 (Rx hc BU (by unfold ID DD;rw [if_neg (by omega),if_neg (by omega),if_pos h5,if_pos (by have hb:=hs.b (by omega);omega)]<;>rfl) (by unfold Fp;rw [if_neg (by omega)])).2 (by rw [α4];rfl) U).cut [0,2] U).mv 2 [5] U U U U (by simp only [β0,β2]at h0;omega))⟩))
       (fun h5 A=>N9 7 A U U fun A=>AV 115 A U
        (fun h7 A=>N9 2 A U U fun A=>GL BW [.ptr 1 0,.ptr 3 2,.n9 ((Bd l z).ra),.ptr 1 0,.ptr 1 1,.ix (.ptr 1 1) 1 8 ((Bd l z).ra) 0,.n9 (z.r ((Bd l z).ra).toNat),.bool ((z.r ((Bd l z).ra).toNat)==0),.ptr 3 16,.bool ((Bd l z).zero),.bool (((z.r ((Bd l z).ra).toNat)==0)==((Bd l z).zero))] [] [] 0 [([],[],[none,O (E5 (.sla ao l.length cp) z.r (((z.at_:Nat):Int)+1) (.sl 5 (ps1.length+1) 0)),none,O (AZ (Bd l z)),O [.n9 ((z.at_:Nat):Int)],some (.row 3 1 (ps1.length+1) 0 (EO (ps1++[((z.at_:Nat):Int)])))])] [[true,true,true,true,true,true,true,true,true,true,true]] A U U U U (by kernel_rfl) U (by kernel_rfl) ⟨⟨AJ 0 U U,⟨AJ 0 U U,⟨AJ 0 U U,⟨AJ 0 U U,⟨AJ 0 U U,⟨AJ 0 U (AE (by first|exact hs.d (by omega)|exact hs.a (by omega)|(have hb:=hs.b (by omega);omega)|omega)<|AB),⟨BB 0 U (Sx (r:=z.r) hX U U U U U U U (by first|exact hs.d (by omega)|exact hs.a (by omega)|(have hb:=hs.b (by omega);omega)|omega)),⟨AJ 0 U U,⟨AJ 0 U U,⟨AJ 0 U U,⟨AJ 0 U U,trivial⟩⟩⟩⟩⟩⟩⟩⟩⟩⟩⟩,trivial⟩ fun A=>N9 1 A U U fun A=>AV 127 A U
         (fun h8 A=>N9 11 A U U fun A=>⟨Gb l z,ps1++[((z.at_:Nat):Int)],_,(hJ.nx hc BU h2 ((z.at_:Nat):Int)).2,(hJ.nx hc BU h2 ((z.at_:Nat):Int)).1,(((A.thSay 1 5 (r':=(Gb l z).r) (at':=(((Gb l z).at_:Nat):Int)) (m':=(ps1++[((z.at_:Nat):Int)]).length) U U (Rx hc BU (by unfold ID;rw [if_neg (by omega),if_neg (by omega),if_neg (by omega)]) (by unfold Fp;rw [if_pos h7,if_pos h8])).1 (Rx hc BU (by unfold ID;rw [if_neg (by omega),if_neg (by omega),if_neg (by omega)]) (by unfold Fp;rw [if_pos h7,if_pos h8])).2 (by rw [α4];rfl) U).cut [0,2] U).mv 2 [5] U U U U (by simp only [β0,β2]at h0;omega))⟩)
         (fun h8 A=>N9 4 A U U fun A=>⟨Gb l z,ps1++[((z.at_:Nat):Int)],_,(hJ.nx hc BU h2 ((z.at_:Nat):Int)).2,(hJ.nx hc BU h2 ((z.at_:Nat):Int)).1,(((A.thSay 1 5 (r':=(Gb l z).r) (at':=(((Gb l z).at_:Nat):Int)) (m':=(ps1++[((z.at_:Nat):Int)]).length) U U (Rx hc BU (by unfold ID;rw [if_neg (by omega),if_neg (by omega),if_neg (by omega)]) (by unfold Fp;rw [if_pos h7,if_neg h8])).1 (Rx hc BU (by unfold ID;rw [if_neg (by omega),if_neg (by omega),if_neg (by omega)]) (by unfold Fp;rw [if_pos h7,if_neg h8])).2 (by rw [α4];rfl) U).cut [0,2] U).mv 2 [5] U U U U (by simp only [β0,β2]at h0;omega))⟩))
        (fun h7 A=>N9 4 A U U fun A=>⟨Gb l z,ps1++[((z.at_:Nat):Int)],_,(hJ.nx hc BU h2 ((z.at_:Nat):Int)).2,(hJ.nx hc BU h2 ((z.at_:Nat):Int)).1,(((A.thSay 1 5 (r':=(Gb l z).r) (at':=(((Gb l z).at_:Nat):Int)) (m':=(ps1++[((z.at_:Nat):Int)]).length) U U (Rx hc BU (by unfold ID;rw [if_neg (by omega),if_neg (by omega),if_neg (by omega)]) (by unfold Fp;rw [if_neg (by omega)])).1 (Rx hc BU (by unfold ID;rw [if_neg (by omega),if_neg (by omega),if_neg (by omega)]) (by unfold Fp;rw [if_neg (by omega)])).2 (by rw [α4];rfl) U).cut [0,2] U).mv 2 [5] U U U U (by simp only [β0,β2]at h0;omega))⟩))))))
   (fun h1 A=>N9 9 A U U fun A=>GS hX (B.trans A) U U U U (Jd (Sy.giveT (B.trans A) 1 2 (A.at_pre PV) U U U U) (hJ.si.fin (fun q=>h1 (by omega))) hJ.pl))
end Mc
namespace Mc
open Go.RowKit
set_option simprocs false
theorem LI {a:Int}(h:(((a==4)||(a==5))||(a==6))=true):a=4∨a=5∨a=6:=by simp at h;omega
theorem QF {a:Int}(h:((a==4)||(a==6))=true):a=4∨a=6:=by simp at h;omega
end Mc
namespace Mc
open Go.RowKit
set_option simprocs false
section
variable {P:Program}{n:Nat}{ks:ae}{G0:Gr}{w0:World}{T:List (Nat×SV)}{H:Hp}{ops:ah}{o:Oper}
theorem tA {x:Operand}{i s m q:Nat}{j:Int}{f:Nat→List SV}(BM:o.op=.nilCheck x)(hg:Av ops T o.guard=some .run)(hx:DA T x=some (.el i s j q))(hi:lg H i=some (some (.lst s m f)))(hj:j.toNat<m):BG P n ops ks G0 w0 T H o (.el i s j q) H:=fun G a w A=>by
 have hw:=A7 (gd:=none) A hg
 obtain⟨d,op,ty,pos,af,gd⟩:=o
 simp only at BM
 subst BM
 have Bb:=A.ev hx
 rw [At]at hi
 obtain⟨L,q1⟩:∃L,(G[i]?).getD none=some L:=by
  rcases(A.mem.ent i _ hi).2 with h|⟨L,q1,_⟩
  ·omega
  ·exact⟨L,q1⟩
 have hp:G[i]?=some (some L):=by
  cases hq:G[i]? with
  |none=>rw [hq]at q1;cases q1
  |some p=>rw [hq]at q1;simp only [δ2]at q1;rw [q1]
 have IB:den G (.el i s j q)=some (.pointer (some ⟨L.b,L.pre.length+j.toNat*s+q,none⟩)):=by unfold den;rw [hp];rfl
 rw [IB]at Bb
 exact Fs hw (by rw [←β6 Bb]) ⟨[],by simpa using IB,by simpa using A.ms⟩
end
theorem tB {r:Rg}{g:Int}(h:0≤g∧g<8):r g.toNat=[(r 0),(r 1),(r 2),(r 3),(r 4),(r 5),(r 6),(r 7)].getD g.toNat 0:=by
 rcases kY h with rfl|rfl|rfl|rfl|rfl|rfl|rfl|rfl<;>rfl
theorem dJ (l:List In)(ao:ak)(cp:Nat)(at_:Int)(r:Rg)(pv:Value)(g:Int)(hg: -1≤g∧g<8):Fn Tryz.prog 97 [.el 0 11 0 0,.n9 g] [some (.lst 11 1 (fun _=>E5 (.sla ao l.length cp) r at_ (.v pv)))] (Rt (.int .i64 (DD r g 0)) [some (.lst 11 1 (fun _=>E5 (.sla ao l.length cp) r at_ (.v pv)))]):=
 AR (n:=13) (by kernel_rfl) Tryz.func97 U U U fun G w a h0 A=>N9 12 A U U fun A=>AU 6 A U
  (fun h1 A=>N9 7 A U U fun A=>R9 A U h0 U (by unfold DD;rw [if_pos (by omega)]<;>rfl) U)
  (fun h1 A=>N9 7 A U U fun A=>Af A U (tA U U U U (by decide)) fun A=>N9 7 A U (AE (by omega)<|AE (by omega)<|AE (by omega)<|AE (by omega)<|AE (by omega)<|AB) fun A=>R9 A U h0 U (by unfold DD;rw [if_neg (by omega),tB (r:=r) (g:=g) (by omega)]<;>rfl) U)
theorem dK (l:List In)(ao:ak)(cp:Nat)(at_:Int)(r:Rg)(pv:Value)(i:In)(hs:i.sz=1∨i.sz=2∨i.sz=4∨i.sz=8)(hx: -1≤i.ix∧i.ix<8):Fn Tryz.prog 63 [.el 0 11 0 0,.agg (AZ i)] [some (.lst 11 1 (fun _=>E5 (.sla ao l.length cp) r at_ (.v pv)))] (Rt (.agg [.n9 i.loc,.n9 (BX (Ah i.off (DD r i.ix 0) i.sz) i.sz)]) [some (.lst 11 1 (fun _=>E5 (.sla ao l.length cp) r at_ (.v pv)))]):=
 AR (n:=11) (by kernel_rfl) Tryz.func63 U U U fun G w a h0 A=>N9 7 A U U fun A=>A9 hX BW [(5,.agg [.n9 i.loc,.n9 (BX (Ah i.off (DD r i.ix 0) i.sz) i.sz)])] [(4,.n9 (DD r i.ix 0),[some (.lst 11 1 (fun _=>E5 (.sla ao l.length cp) r at_ (.v pv))),O (AZ i),O [.z9,.z9]])] A U U U U (by kernel_rfl) ⟨Ef [0] (dJ l ao cp at_ r pv i.ix hx) U U U U U U U,⟨trivial,trivial⟩⟩ ⟨.inl ⟨_,_,rfl,rfl,VF i (DD r i.ix 0) hs⟩,trivial⟩ fun A=>N9 2 A U U fun A=>R9 A U h0 U U U
end Mc
namespace Mc
open Go.RowKit
set_option simprocs false
def l9 (cs:List AD)(ts:List Th)(nn:Nat)(bs bo:Nat→Nat)(da:Nat→Option Addr)(dp:Nat→Nat)(pv:Nat→Value):Dl:=fun w ks=>AH cs w ks∧∀k,k<nn→AP (some ⟨bs k,bo k,none⟩) 11 1 (fun _=>E5 (.sla (da k) (cs.getD k AD.z).l.length (dp k)) (ts.getD k Th.z).r (((ts.getD k Th.z).at_:Nat):Int) (.v (pv k))) w ks∧Fe (da k) (cs.getD k AD.z).l w ks
theorem l9.ok {cs:List AD}{ts:List Th}{nn:Nat}{bs bo:Nat→Nat}{da:Nat→Option Addr}{dp:Nat→Nat}{pv:Nat→Value}:Dl.OK (l9 cs ts nn bs bo da dp pv):=fun w ks w' ks' h m hk=>⟨AH.ok _ _ _ _ h.1 m hk,fun k Dz=>⟨AP.ok _ _ _ _ (h.2 k Dz).1 m hk,AP.ok _ _ _ _ (h.2 k Dz).2 m hk⟩⟩
def Mj (cs:List AD)(ts:List Th)(nn:Nat)(ra:ak)(bs bo:Nat→Nat)(da:Nat→Option Addr)(dp:Nat→Nat)(pv:Nat→Value):Dl:=fun w ks=>AP ra 1 nn (fun k=>[.v (.pointer (some ⟨bs k,bo k,none⟩))]) w ks∧l9 cs ts nn bs bo da dp pv w ks
theorem Mj.ok {cs:List AD}{ts:List Th}{nn:Nat}{ra:ak}{bs bo:Nat→Nat}{da:Nat→Option Addr}{dp:Nat→Nat}{pv:Nat→Value}:Dl.OK (Mj cs ts nn ra bs bo da dp pv):=fun w ks w' ks' h m hk=>⟨AP.ok _ _ _ _ h.1 m hk,l9.ok _ _ _ _ h.2 m hk⟩
theorem Zz (a o s v:Int)(hO:OS o s)(ha:inr a)(hv:inr v):Fn Tryz.prog 94 [.n9 a,.n9 (IntKind.wrap .i64 (v*2^min (8*o).toNat (IntKind.bits .i64))),.n9 (AY o s)] [] (Rt (.int .i64 (AM a o s v)) []):=by
 have h:=s8 a (IntKind.wrap .i64 (v*2^min (8*o).toNat (IntKind.bits .i64))) (AY o s)
 rw [dI hO ha hv]at h
 exact h
end Mc
namespace Mc
open Go.RowKit
set_option simprocs false
def YD (i:In):Int:=if(((i.op==4)||(i.op==5))||(i.op==6))=true then i.loc else 0
def YE (r:Rg)(i:In):Int:=if(((i.op==4)||(i.op==5))||(i.op==6))=true then BX (Ah i.off (DD r i.ix 0) i.sz) i.sz else 0
def KN (i:In)(old:Int):Int:=if((i.op==4)||(i.op==6))=true then Bm old i.sz else 0
def S3 (r:Rg)(i:In)(old:Int):Int:=if i.op=6 then Ih i.fn (Bm old i.sz) (GU r i) i.sz else if i.op=5 then Bm (GU r i) i.sz else 0
abbrev jA (r:Rg)(i:In)(p a old:Int):List SV:=[.z9,.int .i64 p,.int .i64 a,.int .i64 i.op,.int .i64 (YD i),.int .i64 (YE r i),.bool ((i.op==4)||(i.op==6)),.bool ((i.op==5)||(i.op==6)),.int .i64 (KN i old),.int .i64 (S3 r i old),.bool i.acq,.bool i.weak,.bool i.rel,.int .i64 i.pred,.int .i64 i.succ]
def mA (l:List In)(ao:ak)(cp:Nat)(s:Th)(L:Loc)(pb:Option (Nat×Nat))(ps:List Int)(old:Int):SV→World→World→Prop:=fun x w w'=>l7 L l ao cp ⟨s.at_+1,Jb s.r (AW l s) old⟩ pb x w w'∧x=.agg (jA s.r (AW l s) ((ps.length:Nat):Int) ((s.at_:Nat):Int) old)
abbrev Hl (l:List In)(s:Th)(old:Int):Rg:=AX s.r ((AW l s).dst).toNat (Bm old ((AW l s).sz))
theorem YF (l:List In)(ao:ak)(cp:Nat)(s:Th)(L:Loc)(pb:Option (Nat×Nat))(ps:List Int)(old:Int)(hc:Fo l)(BU:s.at_<l.length)(ZO:ps.length≤s.at_):Mf Tryz.prog 64 [.v (.pointer (some ⟨L.b,L.pre.length,none⟩)),.int .i64 old] [] (L.b::Hj pb) (fun w=>Gv L (Sz (.sla ao l.length cp) s.r ((s.at_:Nat):Int)) pb ps w∧Fe ao l w (L.b::Hj pb)) (mA l ao cp s L pb ps old):=
 Eg (n:=111) (by kernel_rfl) Tryz.func64 U U U (fun i e h=>by rw [ι1]at h;cases h) fun G w a h0 ho hp A=>have hs:Uv (AW l s):=hc.snd BU;have hn:=hc.n;Zn 0 A hp.1 U U fun A PV wD=>have B:=A;have A:=B.base;have h0:=B.mem.len;have hI:=AP.ok _ _ _ _ hp.2 (CQ.refl _ _) wD;Zo 1 0 (cs:=Sz (.sla ao l.length cp) s.r ((s.at_:Nat):Int)) (H':=[none,O [.sla ao l.length cp,.n9 (s.r 0),.n9 (s.r 1),.n9 (s.r 2),.n9 (s.r 3),.n9 (s.r 4),.n9 (s.r 5),.n9 (s.r 6),.n9 (s.r 7),.n9 ((s.at_:Nat):Int),.sl 2 ps.length 0],some (.row 3 1 ps.length 0 (EO ps))]) A U U U U fun A=>N9 6 A U U fun A=>GL BW [.ptr 1 0,.ptr 1 0,.ptr 1 0,.sla ao l.length cp,.ptr 1 0,.ptr 1 0,.ptr 1 9,.n9 ((s.at_:Nat):Int),.v (.pointer (Sq ao 17 ((s.at_:Nat):Int))),.agg (AZ (AW l s)),.ptr 4 0,.tup []] [10,11] [4] 1 [([],[4],[none,O [.sla ao l.length cp,.n9 (s.r 0),.n9 (s.r 1),.n9 (s.r 2),.n9 (s.r 3),.n9 (s.r 4),.n9 (s.r 5),.n9 (s.r 6),.n9 (s.r 7),.n9 ((s.at_:Nat):Int),.sl 2 ps.length 0],some (.row 3 1 ps.length 0 (EO ps)),O [.z9,.z9,.z9,.z9,.z9,.z9,.ff,.ff,.z9,.z9,.ff,.ff,.ff,.z9,.z9],none]),([10],[],[none,O [.sla ao l.length cp,.n9 (s.r 0),.n9 (s.r 1),.n9 (s.r 2),.n9 (s.r 3),.n9 (s.r 4),.n9 (s.r 5),.n9 (s.r 6),.n9 (s.r 7),.n9 ((s.at_:Nat):Int),.sl 2 ps.length 0],some (.row 3 1 ps.length 0 (EO ps)),O [.z9,.z9,.z9,.z9,.z9,.z9,.ff,.ff,.z9,.z9,.ff,.ff,.ff,.z9,.z9],O [.z9,.z9,.z9,.z9,.z9,.z9,.z9,.z9,.z9,.z9,.ff,.ff,.ff,.z9,.z9,.z9,.ff]]),([10,11],[],[none,O [.sla ao l.length cp,.n9 (s.r 0),.n9 (s.r 1),.n9 (s.r 2),.n9 (s.r 3),.n9 (s.r 4),.n9 (s.r 5),.n9 (s.r 6),.n9 (s.r 7),.n9 ((s.at_:Nat):Int),.sl 2 ps.length 0],some (.row 3 1 ps.length 0 (EO ps)),O [.z9,.z9,.z9,.z9,.z9,.z9,.ff,.ff,.z9,.z9,.ff,.ff,.ff,.z9,.z9],O (AZ (AW l s))])] [[true,true,true,true,true,true,true,true,true,true,true,false],[true,true,true,true,true,true,true,true,true,true,false,true],[false,false,false,false,false,false,false,false,false,false,false,false]] A U U U U (by kernel_rfl) U (by kernel_rfl) ⟨⟨AJ 0 U U,⟨AJ 0 U U,⟨AJ 0 U U,⟨AJ 0 U U,⟨AJ 0 U U,⟨AJ 0 U U,⟨AJ 0 U U,⟨AJ 0 U U,⟨BB 0 U (Fb (e:=63) U U U U hI (by kernel_rfl) (by omega)),⟨BB 0 U (K9 (Ce (AW l s)) hX U U U hI (by omega) U U),⟨⟨_,_,_,_,1,rfl,rfl,rfl,rfl,C7 4 (X:=⟨_,true⟩) hX U U (JZ h0 U) U U U U⟩,trivial⟩⟩⟩⟩⟩⟩⟩⟩⟩⟩⟩,⟨⟨AJ 1 U U,⟨AJ 1 U U,⟨AJ 1 U U,⟨AJ 1 U U,⟨AJ 1 U U,⟨AJ 1 U U,⟨AJ 1 U U,⟨AJ 1 U U,⟨BB 1 U (Fb (e:=63) U U U U hI (by kernel_rfl) (by omega)),⟨BB 1 U (K9 (Ce (AW l s)) hX U U U hI (by omega) U U),⟨BB 2 U (AT (X:=⟨_,true⟩) (out:=.upd 4 (AZ (AW l s)) _) hX U U),trivial⟩⟩⟩⟩⟩⟩⟩⟩⟩⟩⟩,⟨trivial,trivial⟩⟩⟩ fun A=>N9 2 A U U fun A=>A9 hX BW [(22,.bool (((AW l s).op==4)||((AW l s).op==6))),(24,.bool (((AW l s).op==5)||((AW l s).op==6)))] [] A U U U U (by kernel_rfl) (An _ _) ⟨.inl ⟨_,_,rfl,rfl,VD (AW l s)⟩,⟨.inl ⟨_,_,rfl,rfl,lT (AW l s)⟩,trivial⟩⟩ fun A=>N9 5 A U U fun A=>C9 [] (Zr (AW l s)) A U fun A=>N9 2 A U U fun A=>fork 44 A U
  (fun h1 A=>N9 4 A U U fun A=>C9 [1,2] (l6 l ao cp ((s.at_:Nat):Int) s.r ps (AW l s) (by have q3:=LI h1;exact hc.szs BU (by show _∨_∨_;first|exact q3|(have q4:(AW l s).op=4∨(AW l s).op=5∨(AW l s).op=6:=(by omega);exact q4))) (by have q3:=LI h1;exact hs.x (by first|exact q3|omega))) A U fun A=>N9 11 A U U fun A=>fork 50 A U
   (fun h2 A=>N9 5 A U U fun A=>C9 [] (Rq old ((AW l s).sz) (by have q3:=LI h1;have q2:=QF h2;exact hc.szs BU (by show _∨_∨_;first|exact q3|(have q4:(AW l s).op=4∨(AW l s).op=5∨(AW l s).op=6:=(by omega);exact q4)))) A U fun A=>N9 12 A U U fun A=>AV 58 A U
    (fun h3 A=>False.elim (by simp only [β9,ε3,ε5,δ7,ne_eq]at h1 h2;omega))
    (fun h3 A=>N9 11 A U U fun A=>AV 68 A U
     (fun h4 A=>N9 1 A U U fun A=>A9 hX BW [(9,.n9 (Ih ((AW l s).fn) (Bm old ((AW l s).sz)) (GU s.r (AW l s)) ((AW l s).sz)))] [(6,.n9 (GU s.r (AW l s)),[none,O [.sla ao l.length cp,.n9 (s.r 0),.n9 (s.r 1),.n9 (s.r 2),.n9 (s.r 3),.n9 (s.r 4),.n9 (s.r 5),.n9 (s.r 6),.n9 (s.r 7),.n9 ((s.at_:Nat):Int),.sl 2 ps.length 0],some (.row 3 1 ps.length 0 (EO ps)),O [.z9,.z9,.z9,.z9,.z9,.z9,.ff,.ff,.z9,.z9,.ff,.ff,.ff,.z9,.z9],O (AZ (AW l s)),O [.z9,.n9 ((ps.length:Nat):Int),.n9 ((s.at_:Nat):Int),.n9 ((AW l s).op),.n9 ((AW l s).loc),.n9 (BX (Ah (AW l s).off (DD s.r (AW l s).ix 0) (AW l s).sz) (AW l s).sz),.bool (((AW l s).op==4)||((AW l s).op==6)),.bool (((AW l s).op==5)||((AW l s).op==6)),.n9 (Bm old ((AW l s).sz)),.z9,.bool ((AW l s).acq),.bool ((AW l s).weak),.bool ((AW l s).rel),.n9 ((AW l s).pred),.n9 ((AW l s).succ)]])] A U U U U (by kernel_rfl) ⟨Ef [1,2] (Zy l ao cp ((s.at_:Nat):Int) s.r ps (AW l s) (by have q3:=LI h1;have q2:=QF h2;first|(have h5:=hs.a5 (by omega);omega)|(have h6:=hs.a (by omega);omega))) U U U U U U U,⟨trivial,trivial⟩⟩ ⟨.inl ⟨_,_,rfl,rfl,lS ((AW l s).fn) (Bm old ((AW l s).sz)) (GU s.r (AW l s)) ((AW l s).sz) (by have q3:=LI h1;have q2:=QF h2;exact hc.szs BU (by show _∨_∨_;first|exact q3|(have q4:(AW l s).op=4∨(AW l s).op=5∨(AW l s).op=6:=(by omega);exact q4)))⟩,trivial⟩ fun A=>N9 8 A U U fun A=>fork 81 A U
      (fun h5 A=>N9 1 A U U fun A=>A9 hX BW [] [(8,.tup [],[none,O [.sla ao l.length cp,.n9 ((Hl l s old) 0),.n9 ((Hl l s old) 1),.n9 ((Hl l s old) 2),.n9 ((Hl l s old) 3),.n9 ((Hl l s old) 4),.n9 ((Hl l s old) 5),.n9 ((Hl l s old) 6),.n9 ((Hl l s old) 7),.n9 ((s.at_:Nat):Int),.sl 2 ps.length 0],some (.row 3 1 ps.length 0 (EO ps)),O [.z9,.z9,.z9,.z9,.z9,.z9,.ff,.ff,.z9,.z9,.ff,.ff,.ff,.z9,.z9],O (AZ (AW l s)),O [.z9,.n9 ((ps.length:Nat):Int),.n9 ((s.at_:Nat):Int),.n9 ((AW l s).op),.n9 ((AW l s).loc),.n9 (BX (Ah (AW l s).off (DD s.r (AW l s).ix 0) (AW l s).sz) (AW l s).sz),.bool (((AW l s).op==4)||((AW l s).op==6)),.bool (((AW l s).op==5)||((AW l s).op==6)),.n9 (Bm old ((AW l s).sz)),.n9 (Ih ((AW l s).fn) (Bm old ((AW l s).sz)) (GU s.r (AW l s)) ((AW l s).sz)),.bool ((AW l s).acq),.bool ((AW l s).weak),.bool ((AW l s).rel),.n9 ((AW l s).pred),.n9 ((AW l s).succ)]])] A U (AE (by have q3:=LI h1;have q2:=QF h2;first|exact hs.d (by omega)|omega)<|AB) U U (by kernel_rfl) ⟨Sw (i:=1) (r:=s.r) hX U U U U U U U U (by have q3:=LI h1;have q2:=QF h2;first|exact hs.d (by omega)|omega),trivial⟩ trivial fun A=>N9 2 A U U fun A=>A9 hX BW [] [(10,.sl 7 (ps.length+1) 0,[none,O [.sla ao l.length cp,.n9 ((Hl l s old) 0),.n9 ((Hl l s old) 1),.n9 ((Hl l s old) 2),.n9 ((Hl l s old) 3),.n9 ((Hl l s old) 4),.n9 ((Hl l s old) 5),.n9 ((Hl l s old) 6),.n9 ((Hl l s old) 7),.n9 ((s.at_:Nat):Int),.sl 2 ps.length 0],none,O [.z9,.z9,.z9,.z9,.z9,.z9,.ff,.ff,.z9,.z9,.ff,.ff,.ff,.z9,.z9],O (AZ (AW l s)),O [.z9,.n9 ((ps.length:Nat):Int),.n9 ((s.at_:Nat):Int),.n9 ((AW l s).op),.n9 ((AW l s).loc),.n9 (BX (Ah (AW l s).off (DD s.r (AW l s).ix 0) (AW l s).sz) (AW l s).sz),.bool (((AW l s).op==4)||((AW l s).op==6)),.bool (((AW l s).op==5)||((AW l s).op==6)),.n9 (Bm old ((AW l s).sz)),.n9 (Ih ((AW l s).fn) (Bm old ((AW l s).sz)) (GU s.r (AW l s)) ((AW l s).sz)),.bool ((AW l s).acq),.bool ((AW l s).weak),.bool ((AW l s).rel),.n9 ((AW l s).pred),.n9 ((AW l s).succ)],O [.n9 ((s.at_:Nat):Int)],some (.row 3 1 (ps.length+1) 0 (EO (ps++[((s.at_:Nat):Int)])))])] A U U U U (by kernel_rfl) ⟨trivial,⟨NR (i:=2) hX (ps.length+1) (EO (ps++[((s.at_:Nat):Int)])) U U U U (by omega) U (fun k hk=>by show [SV.int .i64 _]=[SV.int .i64 _];rw [BC hk]) (by show [SV.int .i64 _]=_;rw [De]) (fun z=>⟨_,rfl,rfl⟩),⟨trivial,trivial⟩⟩⟩ trivial fun A=>N9 14 A U (AE (by omega)<|AB) fun A=>N9 6 A U U fun A=>have A:=A.thSay 1 7 (r':=Jb s.r (AW l s) old) (at':=(((s.at_+1:Nat):Nat):Int)) (m':=(ps++[((s.at_:Nat):Int)]).length) U U (by unfold Jb;rw [if_pos h5]) (by omega) (by rw [α4];rfl) U;GS (J:=mA l ao cp s L pb ps old) hX (B.trans A) U U U U ⟨Jd (z:=⟨s.at_+1,Jb s.r (AW l s) old⟩) (Sy.giveT (B.trans A) 1 7 (A.at_pre PV) U U U U) U (by rw [α4];show ps.length+1≤s.at_+1;omega),(by simp only [Am,jA,YD,YE,KN,S3,if_pos h1,if_pos h2,if_neg h3,if_pos h4,if_pos h5])⟩)
      (fun h5 A=>False.elim (by simp only [β9,ε3,ε5,δ7,ne_eq]at h1 h2 h5;omega)))
     (fun h4 A=>N9 10 A U U fun A=>fork 81 A U
      (fun h6 A=>N9 1 A U U fun A=>A9 hX BW [] [(8,.tup [],[none,O [.sla ao l.length cp,.n9 ((Hl l s old) 0),.n9 ((Hl l s old) 1),.n9 ((Hl l s old) 2),.n9 ((Hl l s old) 3),.n9 ((Hl l s old) 4),.n9 ((Hl l s old) 5),.n9 ((Hl l s old) 6),.n9 ((Hl l s old) 7),.n9 ((s.at_:Nat):Int),.sl 2 ps.length 0],some (.row 3 1 ps.length 0 (EO ps)),O [.z9,.z9,.z9,.z9,.z9,.z9,.ff,.ff,.z9,.z9,.ff,.ff,.ff,.z9,.z9],O (AZ (AW l s)),O [.z9,.n9 ((ps.length:Nat):Int),.n9 ((s.at_:Nat):Int),.n9 ((AW l s).op),.n9 ((AW l s).loc),.n9 (BX (Ah (AW l s).off (DD s.r (AW l s).ix 0) (AW l s).sz) (AW l s).sz),.bool (((AW l s).op==4)||((AW l s).op==6)),.bool (((AW l s).op==5)||((AW l s).op==6)),.n9 (Bm old ((AW l s).sz)),.z9,.bool ((AW l s).acq),.bool ((AW l s).weak),.bool ((AW l s).rel),.n9 ((AW l s).pred),.n9 ((AW l s).succ)]])] A U (AE (by have q3:=LI h1;have q2:=QF h2;first|exact hs.d (by omega)|omega)<|AB) U U (by kernel_rfl) ⟨Sw (i:=1) (r:=s.r) hX U U U U U U U U (by have q3:=LI h1;have q2:=QF h2;first|exact hs.d (by omega)|omega),trivial⟩ trivial fun A=>N9 2 A U U fun A=>A9 hX BW [] [(10,.sl 7 (ps.length+1) 0,[none,O [.sla ao l.length cp,.n9 ((Hl l s old) 0),.n9 ((Hl l s old) 1),.n9 ((Hl l s old) 2),.n9 ((Hl l s old) 3),.n9 ((Hl l s old) 4),.n9 ((Hl l s old) 5),.n9 ((Hl l s old) 6),.n9 ((Hl l s old) 7),.n9 ((s.at_:Nat):Int),.sl 2 ps.length 0],none,O [.z9,.z9,.z9,.z9,.z9,.z9,.ff,.ff,.z9,.z9,.ff,.ff,.ff,.z9,.z9],O (AZ (AW l s)),O [.z9,.n9 ((ps.length:Nat):Int),.n9 ((s.at_:Nat):Int),.n9 ((AW l s).op),.n9 ((AW l s).loc),.n9 (BX (Ah (AW l s).off (DD s.r (AW l s).ix 0) (AW l s).sz) (AW l s).sz),.bool (((AW l s).op==4)||((AW l s).op==6)),.bool (((AW l s).op==5)||((AW l s).op==6)),.n9 (Bm old ((AW l s).sz)),.z9,.bool ((AW l s).acq),.bool ((AW l s).weak),.bool ((AW l s).rel),.n9 ((AW l s).pred),.n9 ((AW l s).succ)],O [.n9 ((s.at_:Nat):Int)],some (.row 3 1 (ps.length+1) 0 (EO (ps++[((s.at_:Nat):Int)])))])] A U U U U (by kernel_rfl) ⟨trivial,⟨NR (i:=2) hX (ps.length+1) (EO (ps++[((s.at_:Nat):Int)])) U U U U (by omega) U (fun k hk=>by show [SV.int .i64 _]=[SV.int .i64 _];rw [BC hk]) (by show [SV.int .i64 _]=_;rw [De]) (fun z=>⟨_,rfl,rfl⟩),⟨trivial,trivial⟩⟩⟩ trivial fun A=>N9 14 A U (AE (by omega)<|AB) fun A=>N9 6 A U U fun A=>have A:=A.thSay 1 7 (r':=Jb s.r (AW l s) old) (at':=(((s.at_+1:Nat):Nat):Int)) (m':=(ps++[((s.at_:Nat):Int)]).length) U U (by unfold Jb;rw [if_pos h6]) (by omega) (by rw [α4];rfl) U;GS (J:=mA l ao cp s L pb ps old) hX (B.trans A) U U U U ⟨Jd (z:=⟨s.at_+1,Jb s.r (AW l s) old⟩) (Sy.giveT (B.trans A) 1 7 (A.at_pre PV) U U U U) U (by rw [α4];show ps.length+1≤s.at_+1;omega),(by simp only [Am,jA,YD,YE,KN,S3,if_pos h1,if_pos h2,if_neg h3,if_neg h4,if_pos h6])⟩)
      (fun h6 A=>False.elim (by simp only [β9,ε3,ε5,δ7,ne_eq]at h1 h2 h6;omega)))))
   (fun h2 A=>N9 11 A U U fun A=>AV 58 A U
    (fun h7 A=>N9 1 A U U fun A=>A9 hX BW [(5,.n9 (Bm (GU s.r (AW l s)) ((AW l s).sz)))] [(2,.n9 (GU s.r (AW l s)),[none,O [.sla ao l.length cp,.n9 (s.r 0),.n9 (s.r 1),.n9 (s.r 2),.n9 (s.r 3),.n9 (s.r 4),.n9 (s.r 5),.n9 (s.r 6),.n9 (s.r 7),.n9 ((s.at_:Nat):Int),.sl 2 ps.length 0],some (.row 3 1 ps.length 0 (EO ps)),O [.z9,.z9,.z9,.z9,.z9,.z9,.ff,.ff,.z9,.z9,.ff,.ff,.ff,.z9,.z9],O (AZ (AW l s)),O [.z9,.n9 ((ps.length:Nat):Int),.n9 ((s.at_:Nat):Int),.n9 ((AW l s).op),.n9 ((AW l s).loc),.n9 (BX (Ah (AW l s).off (DD s.r (AW l s).ix 0) (AW l s).sz) (AW l s).sz),.bool (((AW l s).op==4)||((AW l s).op==6)),.bool (((AW l s).op==5)||((AW l s).op==6)),.z9,.z9,.bool ((AW l s).acq),.bool ((AW l s).weak),.bool ((AW l s).rel),.n9 ((AW l s).pred),.n9 ((AW l s).succ)]])] A U U U U (by kernel_rfl) ⟨Ef [1,2] (Zy l ao cp ((s.at_:Nat):Int) s.r ps (AW l s) (by have q3:=LI h1;first|(have h5:=hs.a5 (by omega);omega)|(have h6:=hs.a (by omega);omega))) U U U U U U U,⟨trivial,trivial⟩⟩ ⟨.inl ⟨_,_,rfl,rfl,Rq (GU s.r (AW l s)) ((AW l s).sz) (by have q3:=LI h1;exact hc.szs BU (by show _∨_∨_;first|exact q3|(have q4:(AW l s).op=4∨(AW l s).op=5∨(AW l s).op=6:=(by omega);exact q4)))⟩,trivial⟩ fun A=>N9 9 A U U fun A=>AV 68 A U
     (fun h8 A=>False.elim (by simp only [β9,ε3,ε5,δ7,ne_eq]at h1 h2;omega))
     (fun h8 A=>N9 10 A U U fun A=>fork 81 A U
      (fun h9 A=>False.elim (by simp only [β9,ε3,ε5,δ7,ne_eq]at h1 h2 h9;omega))
      (fun h9 A=>N9 4 A U U fun A=>A9 hX BW [] [(10,.sl 7 (ps.length+1) 0,[none,O [.sla ao l.length cp,.n9 (s.r 0),.n9 (s.r 1),.n9 (s.r 2),.n9 (s.r 3),.n9 (s.r 4),.n9 (s.r 5),.n9 (s.r 6),.n9 (s.r 7),.n9 ((s.at_:Nat):Int),.sl 2 ps.length 0],none,O [.z9,.z9,.z9,.z9,.z9,.z9,.ff,.ff,.z9,.z9,.ff,.ff,.ff,.z9,.z9],O (AZ (AW l s)),O [.z9,.n9 ((ps.length:Nat):Int),.n9 ((s.at_:Nat):Int),.n9 ((AW l s).op),.n9 ((AW l s).loc),.n9 (BX (Ah (AW l s).off (DD s.r (AW l s).ix 0) (AW l s).sz) (AW l s).sz),.bool (((AW l s).op==4)||((AW l s).op==6)),.bool (((AW l s).op==5)||((AW l s).op==6)),.z9,.n9 (Bm (GU s.r (AW l s)) ((AW l s).sz)),.bool ((AW l s).acq),.bool ((AW l s).weak),.bool ((AW l s).rel),.n9 ((AW l s).pred),.n9 ((AW l s).succ)],O [.n9 ((s.at_:Nat):Int)],some (.row 3 1 (ps.length+1) 0 (EO (ps++[((s.at_:Nat):Int)])))])] A U U U U (by kernel_rfl) ⟨trivial,⟨NR (i:=2) hX (ps.length+1) (EO (ps++[((s.at_:Nat):Int)])) U U U U (by omega) U (fun k hk=>by show [SV.int .i64 _]=[SV.int .i64 _];rw [BC hk]) (by show [SV.int .i64 _]=_;rw [De]) (fun z=>⟨_,rfl,rfl⟩),⟨trivial,trivial⟩⟩⟩ trivial fun A=>N9 14 A U (AE (by omega)<|AB) fun A=>N9 6 A U U fun A=>have A:=A.thSay 1 7 (r':=Jb s.r (AW l s) old) (at':=(((s.at_+1:Nat):Nat):Int)) (m':=(ps++[((s.at_:Nat):Int)]).length) U U (by unfold Jb;rw [if_neg (α7 h9)]) (by omega) (by rw [α4];rfl) U;GS (J:=mA l ao cp s L pb ps old) hX (B.trans A) U U U U ⟨Jd (z:=⟨s.at_+1,Jb s.r (AW l s) old⟩) (Sy.giveT (B.trans A) 1 7 (A.at_pre PV) U U U U) U (by rw [α4];show ps.length+1≤s.at_+1;omega),(by simp only [Am,jA,YD,YE,KN,S3,if_pos h1,if_neg (α7 h2),if_pos h7,if_neg h8,if_neg (α7 h9)])⟩)))
    (fun h7 A=>False.elim (by simp only [β9,ε3,ε5,δ7,ne_eq]at h1 h2;omega))))
  (fun h1 A=>N9 10 A U U fun A=>fork 50 A U
   (fun GG A=>False.elim (by simp only [β9,ε3,ε5,δ7,ne_eq]at h1 GG;omega))
   (fun GG A=>N9 11 A U U fun A=>AV 58 A U
    (fun Fq A=>False.elim (by simp only [β9,ε3,ε5,δ7,ne_eq]at h1 GG;omega))
    (fun Fq A=>N9 11 A U U fun A=>AV 68 A U
     (fun OC A=>False.elim (by simp only [β9,ε3,ε5,δ7,ne_eq]at h1 GG;omega))
     (fun OC A=>N9 10 A U U fun A=>fork 81 A U
      (fun MM A=>False.elim (by simp only [β9,ε3,ε5,δ7,ne_eq]at h1 GG MM;omega))
      (fun MM A=>N9 4 A U U fun A=>A9 hX BW [] [(10,.sl 7 (ps.length+1) 0,[none,O [.sla ao l.length cp,.n9 (s.r 0),.n9 (s.r 1),.n9 (s.r 2),.n9 (s.r 3),.n9 (s.r 4),.n9 (s.r 5),.n9 (s.r 6),.n9 (s.r 7),.n9 ((s.at_:Nat):Int),.sl 2 ps.length 0],none,O [.z9,.z9,.z9,.z9,.z9,.z9,.ff,.ff,.z9,.z9,.ff,.ff,.ff,.z9,.z9],O (AZ (AW l s)),O [.z9,.n9 ((ps.length:Nat):Int),.n9 ((s.at_:Nat):Int),.n9 ((AW l s).op),.z9,.z9,.bool (((AW l s).op==4)||((AW l s).op==6)),.bool (((AW l s).op==5)||((AW l s).op==6)),.z9,.z9,.bool ((AW l s).acq),.bool ((AW l s).weak),.bool ((AW l s).rel),.n9 ((AW l s).pred),.n9 ((AW l s).succ)],O [.n9 ((s.at_:Nat):Int)],some (.row 3 1 (ps.length+1) 0 (EO (ps++[((s.at_:Nat):Int)])))])] A U U U U (by kernel_rfl) ⟨trivial,⟨NR (i:=2) hX (ps.length+1) (EO (ps++[((s.at_:Nat):Int)])) U U U U (by omega) U (fun k hk=>by show [SV.int .i64 _]=[SV.int .i64 _];rw [BC hk]) (by show [SV.int .i64 _]=_;rw [De]) (fun z=>⟨_,rfl,rfl⟩),⟨trivial,trivial⟩⟩⟩ trivial fun A=>N9 14 A U (AE (by omega)<|AB) fun A=>N9 6 A U U fun A=>have A:=A.thSay 1 7 (r':=Jb s.r (AW l s) old) (at':=(((s.at_+1:Nat):Nat):Int)) (m':=(ps++[((s.at_:Nat):Int)]).length) U U (by unfold Jb;rw [if_neg (α7 MM)]) (by omega) (by rw [α4];rfl) U;GS (J:=mA l ao cp s L pb ps old) hX (B.trans A) U U U U ⟨Jd (z:=⟨s.at_+1,Jb s.r (AW l s) old⟩) (Sy.giveT (B.trans A) 1 7 (A.at_pre PV) U U U U) U (by rw [α4];show ps.length+1≤s.at_+1;omega),(by simp only [Am,jA,YD,YE,KN,S3,if_neg (α7 h1),if_neg (α7 GG),if_neg Fq,if_neg OC,if_neg (α7 MM)])⟩)))))
end Mc
namespace Mc
open Go.RowKit
theorem LJ {L:Loc}{cs:List SV}{pb:Option (Nat×Nat)}{ps:List Int}{w w':World}{ks:ae}(h:Gv L cs pb ps w)(m:CQ ks w w')(hk:∀b,(L.b::Hj pb).contains b=true→ks.contains b=false):Gv L cs pb ps w':=by
 obtain⟨vs,h1,h2⟩:=h.blk
 refine⟨⟨vs,h1,h2.mix m (hk _ (by simp))⟩,?_,h.ne⟩
 cases pb with
 |none=>exact h.path
 | some q=>
  obtain⟨g1,xs,g2,g3⟩:CI 3 1 ps.length (EO ps) q.1 q.2 w:=h.path
  exact⟨g1,xs,g2,KM g3 m (fun k hv=>by
   have:k=q.1:=by simpa [Value.ownBlock]using hv.symm
   subst this
   exact hk _ (by simp [Hj]))⟩
theorem F9 {L:Loc}{cs:List SV}{pb:Option (Nat×Nat)}{ps:List Int}{w:World}(h:Gv L cs pb ps w):∀b,(L.b::Hj pb).contains b=true→b<w.heap.size:=fun b hb=>by
 obtain⟨vs,h1,h2⟩:=h.blk
 cases pb with
 |none=>
  have:b=L.b:=by simpa [Hj]using hb
  subst this;exact h2.lt
 |some q=>
  obtain⟨g1,xs,g2,g3⟩:CI 3 1 ps.length (EO ps) q.1 q.2 w:=h.path
  have:b=L.b∨b=q.1:=by simpa [Hj]using hb
  rcases this with rfl|rfl
  ·exact h2.lt
  ·exact(Hs g3 _ (by simp [Value.ownBlock])).2
structure Tr where (L:Loc) (pb:Option (Nat×Nat)) (ps:List Int)
def Tr.z:Tr:=⟨⟨0,[],[],0⟩,none,[]⟩
abbrev Tr.bl (t:Tr):List Nat:=t.L.b::Hj t.pb
structure JT (cs:List AD)(ts:List Th)(tr:List Tr)(N:Nat)(w:World)(ks:ae):Prop where
 out:∀k,k<tr.length→Gv (tr.getD k Tr.z).L (Sz (.sla (cs.getD k AD.z).ao (cs.getD k AD.z).l.length (cs.getD k AD.z).cp) (ts.getD k Th.z).r (((ts.getD k Th.z).at_:Nat):Int)) (tr.getD k Tr.z).pb (tr.getD k Tr.z).ps w
 len:∀k,k<tr.length→(tr.getD k Tr.z).ps.length≤(ts.getD k Th.z).at_
 lo:∀k,k<tr.length→∀b,(tr.getD k Tr.z).bl.contains b=true→N≤b∧ks.contains b=false
 ap:∀j k,j<tr.length→k<tr.length→j≠k→∀b,(tr.getD j Tr.z).bl.contains b=true→(tr.getD k Tr.z).bl.contains b=false
theorem JT.ok {cs:List AD}{ts:List Th}{tr:List Tr}{N:Nat}:Dl.OK (JT cs ts tr N):=fun w ks w' ks' h m hk=>by
 have hm:∀k,k<tr.length→∀b,(tr.getD k Tr.z).bl.contains b=true→ks.contains b=false:=fun k hk b hb=>(h.lo k hk b hb).2
 refine⟨fun k Dz=>LJ (h.out k Dz) m (hm k Dz),h.len,fun k Dz b hb=>⟨(h.lo k Dz b hb).1,?_⟩,h.ap⟩
 cases hz:ks'.contains b with
 |false=>rfl
 |true=>
  rcases hk b hz with q|q
  ·rw [hm k Dz b hb]at q;cases q
  ·have:=F9 (h.out k Dz) b hb;omega
theorem JT.set {cs:List AD}{ts:List Th}{tr:List Tr}{N j:Nat}{w w':World}{ks:ae}{s':Th}{x:SV}(h:JT cs ts tr N w ks)(hj:j<tr.length)(Ls:tr.length≤ts.length)(hN:N≤w.heap.size)(Lr:∀b,ks.contains b=true→b<w.heap.size)(m:CQ (tr.getD j Tr.z).bl w w')(hJ:l7 (tr.getD j Tr.z).L (cs.getD j AD.z).l (cs.getD j AD.z).ao (cs.getD j AD.z).cp s' (tr.getD j Tr.z).pb x w w'):
  ∃pb ps,JT cs (ts.set j s') (tr.set j ⟨(tr.getD j Tr.z).L,pb,ps⟩) N w' ks∧∀b,((tr.getD j Tr.z).L.b::Hj pb).contains b=true→(tr.getD j Tr.z).bl.contains b=true∨w.heap.size≤b:=by
 obtain⟨pb,ps,h1,h2,h3⟩:=hJ
 have lg:∀{α:Type} (l:List α) (x d:α),j<l.length→(l.set j x).getD j d=x:=fun l x d hl=>by simp [List.getD,hl]
 have ln:∀{α:Type} (l:List α) (x d:α) (k:Nat),k≠j→(l.set j x).getD k d=l.getD k d:=fun l x d k hk=>by simp [List.getD,γ0 (ε9 hk)]
 have hb:∀b,((tr.getD j Tr.z).L.b::Hj pb).contains b=true→(tr.getD j Tr.z).bl.contains b=true∨w.heap.size≤b:=fun b hb=>by
  rw [ε8,β9]at hb
  rcases hb with hb|hb
  ·exact .inl (by rw [ε8,hb];rfl)
  ·exact h3 b hb
 refine⟨pb,ps,⟨?_,?_,?_,?_⟩,hb⟩
 ·intro k hk
  rw [η2]at hk
  by_cases e:k=j
  ·subst e;rw [lg _ _ _ hk,lg _ _ _ (by omega)];exact h1
  ·rw [ln _ _ _ k e,ln _ _ _ k e]
   exact LJ (h.out k hk) m (h.ap k j hk hj e)
 ·intro k hk
  rw [η2]at hk
  by_cases e:k=j
  ·subst e;rw [lg _ _ _ hk,lg _ _ _ (by omega)];exact h2
  ·rw [ln _ _ _ k e,ln _ _ _ k e];exact h.len k hk
 ·intro k hk b JA
  rw [η2]at hk
  by_cases e:k=j
  ·subst e
   rw [lg _ _ _ hk]at JA
   rcases hb b JA with q|q
   ·exact h.lo k hk b q
   ·refine⟨by omega,?_⟩
    cases hz:ks.contains b with
    |false=>rfl
    |true=>have:=Lr b hz;omega
  ·rw [ln _ _ _ k e]at JA;exact h.lo k hk b JA
 ·intro i k hi hk ZD b JA
  rw [η2]at hi hk
  by_cases e:i=j
  ·subst e
   rw [lg _ _ _ hi]at JA
   rw [ln _ _ _ k (ε9 ZD)]
   rcases hb b JA with q|q
   ·exact h.ap i k hi hk ZD b q
   ·cases hz:(tr.getD k Tr.z).bl.contains b with
    |false=>rfl
    |true=>have:=F9 (h.out k hk) b hz;omega
  ·rw [ln _ _ _ i e]at JA
   by_cases e2:k=j
   ·subst e2
    rw [lg _ _ _ hk]
    cases hz:((tr.getD k Tr.z).L.b::Hj pb).contains b with
    |false=>rfl
    |true=>
     rcases hb b hz with q|q
     ·have:=h.ap i k hi hk ZD b JA;rw [q]at this;cases this
     ·have:=F9 (h.out i hi) b JA;omega
   ·rw [ln _ _ _ k e2];exact h.ap i k hi hk ZD b JA
theorem JT.add {cs:List AD}{ts:List Th}{tr:List Tr}{N:Nat}{w:World}{ks:ae}{t:Tr}(h:JT cs ts tr N w ks)(ho:Gv t.L (Sz (.sla (cs.getD tr.length AD.z).ao (cs.getD tr.length AD.z).l.length (cs.getD tr.length AD.z).cp) (ts.getD tr.length Th.z).r (((ts.getD tr.length Th.z).at_:Nat):Int)) t.pb t.ps w)(hl:t.ps.length≤(ts.getD tr.length Th.z).at_)(hb:∀b,t.bl.contains b=true→N≤b∧ks.contains b=false)(ha:∀k,k<tr.length→∀b,(tr.getD k Tr.z).bl.contains b=true→t.bl.contains b=false):JT cs ts (tr++[t]) N w ks:=by
 have gl:∀k,k<tr.length→(tr++[t]).getD k Tr.z=tr.getD k Tr.z:=fun k hk=>by simp [List.getD,α2 hk]
 have gn:(tr++[t]).getD tr.length Tr.z=t:=by simp [List.getD]
 have cse:∀k,k<(tr++[t]).length→k<tr.length∨k=tr.length:=fun k hk=>by simp at hk;omega
 refine⟨fun k hk=>?_,fun k hk=>?_,fun k hk=>?_,fun j k hj hk Eb b JA=>?_⟩
 ·rcases cse k hk with q|rfl
  ·rw [gl k q];exact h.out k q
  ·rw [gn];exact ho
 ·rcases cse k hk with q|rfl
  ·rw [gl k q];exact h.len k q
  ·rw [gn];exact hl
 ·rcases cse k hk with q|rfl
  ·rw [gl k q];exact h.lo k q
  ·rw [gn];exact hb
 ·rcases cse j hj with q|rfl
  ·rw [gl j q]at JA
   rcases cse k hk with q2|rfl
   ·rw [gl k q2];exact h.ap j k q q2 Eb b JA
   ·rw [gn];exact ha j q b JA
  ·rw [gn]at JA
   rcases cse k hk with q2|rfl
   ·rw [gl k q2]
    cases hz:(tr.getD k Tr.z).bl.contains b with
    |false=>rfl
    |true=>rw [ha k q2 b hz]at JA;cases JA
   ·exact absurd U Eb
theorem JT.i0 {cs:List AD}{ts:List Th}{N:Nat}{w:World}{ks:ae}:JT cs ts [] N w ks:=⟨fun k hk=>(by cases hk),fun k hk=>(by cases hk),fun k hk=>(by cases hk),fun j k hj=>(by cases hj)⟩
def YG (H:Hp):Bool:=H.all fun x=>match x with|some e=>e.mut|none=>true
theorem EK {H:Hp}{G:Gr}{w:World}(h:Mem H G w){b:Nat}(hb:(keys H G).contains b=true):b<w.heap.size:=by
 obtain⟨i,e,L,h1,h2,h3,h4⟩:=mem_keys.1 hb
 have:=h.ent i e h1
 rw [h3]at this
 rw [←h4];exact Ag.lt this (BI h2)
def Jw (H:Hp)(G:Gr)(N:Nat):Prop:=∀(i:Nat) (e:BZ) (L:Loc),H[i]?=some (some e)→e.mut=false→G[i]?=some (some L)→¬e.empty→L.b<N
theorem XL {H0 H:Hp}{G0 G:Gr}{w0:World}(k:Nat)(hM:Mem H0 G0 w0)(hp:∃F,G=G0++F)(ht:H.take k=H0.take k)(hm:YG (H.drop k)=true):Jw H G w0.heap.size:=fun i e L h1 h2 h3 h4=>by
 by_cases hi:i<k
 ·have h5:H0[i]?=some (some e):=by
   have:(H.take k)[i]?=(H0.take k)[i]?:=by rw [ht]
   rw [γ1 hi,γ1 hi]at this
   rw [←this];exact h1
  obtain⟨F,rfl⟩:=hp
  rw [α2 (by rw [←hM.len];exact(α0.1 h5).1)]at h3
  have h6:=hM.ent i e h5
  rw [h3]at h6
  exact Ag.lt h6 h4
 ·exfalso
  have h5:(H.drop k)[i - k]?=some (some e):=by rw [η0,show k+(i - k)=i by omega];exact h1
  have:=δ3.1 hm _ (θ1 h5)
  simp only at this;rw [h2]at this;cases this
section
variable {cs cs2:List AD}{ts:List Th}{tr z:List Tr}{N nn:Nat}{w w':World}{ks:ae}
theorem JT.mixo (h:JT cs ts tr N w ks){bs:ae}(m:CQ bs w w')(hd:∀k,k<tr.length→∀b,(tr.getD k Tr.z).bl.contains b=true→bs.contains b=false):JT cs ts tr N w' ks:=⟨fun k hk=>LJ (h.out k hk) m (hd k hk),h.len,h.lo,h.ap⟩
theorem JT.get (h:JT cs ts tr N w ks){j:Nat}(hj:j<tr.length){s:Th}(e:ts.getD j Th.z=s){L:Loc}(eL:(tr.getD j Tr.z).L=L):Gv L (Sz (.sla (cs.getD j AD.z).ao (cs.getD j AD.z).l.length (cs.getD j AD.z).cp) s.r ((s.at_:Nat):Int)) (tr.getD j Tr.z).pb (tr.getD j Tr.z).ps w:=by
 subst e;subst eL;exact h.out j hj
theorem JT.look2 (h:JT cs ts tr N w ks)(p5:AH cs2 w ks)(hc:AH cs w ks)(hn:tr.length=nn)(hl:nn≤cs.length)(heq:∀k,k<nn→(cs2.getD k AD.z).l=(cs.getD k AD.z).l)(hL:∀k,k<nn→(tr.getD k Tr.z).L=(z.getD k Tr.z).L):l9 cs2 ts nn (fun k=>(z.getD k Tr.z).L.b) (fun k=>(z.getD k Tr.z).L.pre.length) (fun k=>(cs.getD k AD.z).ao) (fun k=>(cs.getD k AD.z).cp) (fun k=>Jt (tr.getD k Tr.z).pb (tr.getD k Tr.z).ps.length) w ks:=
 ⟨p5,fun k hk=>by
  rw [heq k hk]
  have h1:=(h.out k (by omega)).lst (h.lo k (by omega) _ (by simp)).2
  rw [hL k hk]at h1
  exact⟨h1,hc.at (by omega)⟩⟩
theorem VO (hC:AH cs w ks){n:Nat}{T:List (Nat×SV)}{H:Hp}{G0 G:Gr}{a:Act}(A:Sy n T H ks G0 w G a w'){k:Nat}(hk:k<cs.length){bs:ae}(hb:∀b,bs.contains b=true→w.heap.size≤b):Fe (cs.getD k AD.z).ao (cs.getD k AD.z).l w' bs:=
 AP.ok _ _ _ _ (hC.at hk) A.mix fun b h=>.inr (hb b h)
end
theorem Rz {P:Program} {n:Nat} {ks:ae} {G0:Gr} {w0:World} {T:List (Nat×SV)} {H:Hp} {G:Gr} {a:Act} {w:World} {Q:Prop} (i t:Nat) {cs:List SV} {vs:aj} {H':Hp} (A:Sy n T H ks G0 w0 G a w) (hi:lg H i=some (some (.blk cs))) (hc:AO [] cs=some vs) (ht:look T t=some (.ptr i 0)) (hH:CE H i none=H')
  (k:∀L:Loc,Sy n ((t,EZ L.b L.pre.length)::T) H' ks G0 w0 G a w→D3 w L.b (L.pre++vs++L.post).toArray L.t→(keys H' G).contains L.b=false→IC H' G [L.b]→(ks.contains L.b=true∨w0.heap.size≤L.b)→G[i]?=some (some L)→Q):Q:=by
 subst hH
 rw [At]at hi
 obtain⟨L,us,p1,p2,p3⟩:=A.mem.ent i _ hi
 have Eo:G[i]?=some (some L):=by
  cases hz:G[i]? with
  |none=>rw [hz]at p1;cases p1
  |some p=>rw [hz]at p1;simp only [δ2]at p1;rw [p1]
 have hu:us=vs:=by
  have:AO G cs=some vs:=by simpa using A6 G cs hc
  rw [this]at p2;exact(β6 p2).symm
 subst hu
 have hold:∀(j:Nat) (e:BZ),(CE H i none)[j]?=some (some e)→j≠i∧H[j]?=some (some e):=by
  intro j e h
  rw [Aw]at h
  by_cases hj:j=i
  ·subst hj;rw [γ7 (α0.1 hi).1]at h;cases h
  ·rw [γ0 (ε9 hj)]at h;exact⟨hj,h⟩
 have Cy:IC (CE H i none) G [L.b]:=fun j e M q1 q2 q3=>by
  obtain⟨k1,k2⟩:=hold j e q1
  have:=A.mem.sep i j _ e L M (ε9 k1) hi k2 U Eo q2 q3
  simp [ε9 this]
 refine k L ((A.hide i).slotEq t ht (by unfold den;rw [Eo];rfl)) p3 ?_ Cy (A.own i _ L hi U Eo) Eo
 cases hz:(keys (CE H i none) G).contains L.b with
 |false=>rfl
 |true=>
  obtain⟨j,e,M,g1,g2,g3,g4⟩:=mem_keys.1 hz
  have:=Cy j e M g1 g3 (BI g2)
  rw [g4]at this
  simp at this
theorem VP {G:Gr}{i:Nat}{L:Loc}(h:G[i]?=some (some L)):AO G [EZ L.b L.pre.length]=AO G [.ptr i 0]:=by
 unfold AO AO den;rw [h];rfl
theorem VQ {H:Hp}{G F:Gr}{r:Hp}(hl:H.length=G.length){b:Nat}(h:(keys H G).contains b=true):(keys (H++r) (G++F)).contains b=true:=by
 obtain⟨i,e,L,h1,h2,h3,h4⟩:=mem_keys.1 h
 have hi:=(α0.1 h1).1
 exact mem_keys.2 ⟨i,e,L,by rw [α2 hi];exact h1,h2,by rw [α2 (by omega)];exact h3,h4⟩
section
variable {n:Nat}{ks:ae}{G0:Gr}{w0:World}{T:List (Nat×SV)}{H:Hp}{G:Gr}{a:Act}{w:World}{ops:ah}{o:Oper}{rest:ai}{Q:ab}{K:List Fr}{cs cs2:List AD}{ts:List Th}{tr z:List Tr}{nn:Nat}
theorem mB {nB:Nat} {TB:List (Nat×SV)} {Gr_:Gr} {aB:Act} {wr:World} {rg:Nat→Rg} {cells:List SV} (t:Nat) (B:Sy nB TB H ks G0 w0 Gr_ aB wr) (A:Sy n T (H++[O cells]) (keys H Gr_) Gr_ wr G a w) (hz:JT cs (Ai cs rg) z w0.heap.size wr (keys H Gr_)) (hk:z.length<cs.length) (hC:AH cs w0 ks) (hc:Fo (cs.getD z.length AD.z).l) (BU:Jw (H++[none]) G w0.heap.size)
  (hce:cells=Sz (.sla (cs.getD z.length AD.z).ao (cs.getD z.length AD.z).l.length (cs.getD z.length AD.z).cp) (rg z.length) 0++[.sla none 0 0]) (ht:look T t=some (.ptr H.length 0))
  (h1:∀L:Loc,Bi n ops ((t,EZ L.b L.pre.length)::T) o=some (54,[EZ L.b L.pre.length]))
  (k:∀L pb ps {a' w' x},JT cs (Ai cs rg) (z++[⟨L,pb,ps⟩]) w0.heap.size w' (keys (H++[none]) G)→G[H.length]?=some (some L)→Sy n (BN ((t,EZ L.b L.pre.length)::T) o.dst x) (H++[none]) ks G0 w0 G a' w'→Goal Tryz.prog Q K (.ops ops rest) a' w'):Goal Tryz.prog Q K (.ops ops (o::rest)) a w:=by
 subst hce
 have hlB:=B.mem.len
 have GX:CE (H++[some (BZ.blk (Sz (.sla (cs.getD z.length AD.z).ao (cs.getD z.length AD.z).l.length (cs.getD z.length AD.z).cp) (rg z.length) 0++[.sla none 0 0]))]) H.length none=H++[none]:=by rw [Aw];simp
 have J6:lg (H++[some (BZ.blk (Sz (.sla (cs.getD z.length AD.z).ao (cs.getD z.length AD.z).l.length (cs.getD z.length AD.z).cp) (rg z.length) 0++[.sla none 0 0]))]) H.length=some (some (.blk (Sz (.sla (cs.getD z.length AD.z).ao (cs.getD z.length AD.z).l.length (cs.getD z.length AD.z).cp) (rg z.length) 0++[.sla none 0 0]))):=by rw [At];simp
 refine Rz (P:=Tryz.prog) H.length t (vs:=[.slice (cs.getD z.length AD.z).ao (cs.getD z.length AD.z).l.length (cs.getD z.length AD.z).cp,.int .i64 (rg z.length 0),.int .i64 (rg z.length 1),.int .i64 (rg z.length 2),.int .i64 (rg z.length 3),.int .i64 (rg z.length 4),.int .i64 (rg z.length 5),.int .i64 (rg z.length 6),.int .i64 (rg z.length 7),.int .i64 0,.slice none 0 0]) A J6 U ht GX fun L A2 hbk UC Cy Do Eo=>?_
 have rO:(keys H Gr_).contains L.b=false:=by
  cases hq:(keys H Gr_).contains L.b with
  |false=>rfl
  |true=>
   obtain⟨F,hF⟩:=A2.pre
   have:=VQ (r:=[none]) (F:=F) hlB hq
   rw [←hF,UC]at this;cases this
 have hwr:wr.heap.size≤L.b:=Do.elim (fun h=>by rw [rO]at h;cases h) id
 have hN:=B.mix.size
 have rF:=JT.ok.now A2 hz
 have Er:∀k,k<z.length→∀b,(z.getD k Tr.z).bl.contains b=true→[L.b].contains b=false:=fun k Dz b hb=>by
  have:=F9 (hz.out k Dz) b hb
  have:b≠L.b:=by omega
  simp [this]
 have D2:∀b,[L.b].contains b=true→w0.heap.size≤b:=fun b hb=>by
  have:b=L.b:=by simpa using hb
  omega
 have A3:=B.trans A2
 refine Jp [] (Ry (cs.getD z.length AD.z).l (cs.getD z.length AD.z).ao (cs.getD z.length AD.z).cp ⟨0,rg z.length⟩ L none [] hc (β7 _) (β7 _)) A3 ⟨⟨⟨_,rfl,hbk⟩,rfl,fun q h=>by cases h⟩,VO hC A3 hk D2⟩ Cy (fun b hb=>.inr (D2 b hb)) (h1 L) U U U U fun{x a' w'} hm hJ A'=>?_
 obtain⟨pb,ps,j1,j2,j3⟩:=hJ
 have OE:=rF.mixo hm Er
 refine k L pb ps (OE.add (t:=⟨L,pb,ps⟩) ?_ ?_ (fun b hb=>?_) (fun q hq b hb=>?_)) Eo A'
 ·show Gv L _ pb ps w'
  rw [Kb hk];exact j1
 ·rw [Kb hk];exact j2
 ·rw [ε8,β9]at hb
  rcases hb with hb|hb
  ·have:b=L.b:=by simpa using hb
   subst this
   exact⟨by omega,UC⟩
  ·rcases j3 b hb with q|q
   ·have:b=L.b:=by simpa [Hj]using q
    subst this
    exact⟨by omega,UC⟩
   ·have hw:=A3.mix.size
    refine⟨by omega,?_⟩
    cases hq:(keys (H++[none]) G).contains b with
    |false=>rfl
    |true=>have:=EK A2.mem hq;omega
 ·have hbo:=F9 (hz.out q hq) b hb
  have UA:=F9 (rF.out q hq) b hb
  cases hx:(Tr.mk L pb ps).bl.contains b with
  |false=>rfl
  | true=>
   rw [ε8,β9]at hx
   rcases hx with hx|hx
   ·have:b=L.b:=by simpa using hx
    omega
   ·rcases j3 b hx with q|q
    ·have:b=L.b:=by simpa [Hj]using q
     omega
    ·omega
end
theorem Fg {cs2:List AD}{ts:List Th}{j old:Int}{l:List In}(he:(cs2.getD j.toNat AD.z).l=l)(h:(ts.getD j.toNat Th.z).at_<l.length):(ts.set j.toNat ⟨(ts.getD j.toNat Th.z).at_+1,Jb (ts.getD j.toNat Th.z).r (l.getD (((ts.getD j.toNat Th.z).at_:Nat):Int).toNat In.z) old⟩).set j.toNat (FK l ⟨(ts.getD j.toNat Th.z).at_+1,Jb (ts.getD j.toNat Th.z).r (l.getD (((ts.getD j.toNat Th.z).at_:Nat):Int).toNat In.z) old⟩)=Ak cs2 ts j old:=by
 unfold Ak Uy
 rw [he,if_neg (by omega),List.set_set];rfl
theorem JT.as {cs:List AD}{ts ts':List Th}{tr:List Tr}{N:Nat}{w:World}{ks:ae}(h:JT cs ts tr N w ks)(e:ts=ts'):JT cs ts' tr N w ks:=e▸h
theorem JT.mv {cs:List AD}{ts:List Th}{tr:List Tr}{N:Nat}{w:World}{H H' l:Hp}{G:Gr}{m:ae}(h:JT cs ts tr N w (keys H G))(hlen:H.length=G.length)(h1:DC H m=some l)(h2:DR m H'=some l):JT cs ts tr N w (keys H' (BE m G)):=JT.ok _ _ _ _ h (CQ.refl _ _) (fun b hb=>.inl (Bv hlen h1 h2 b hb))
theorem JT.take {cs:List AD}{ts:List Th}{tr:List Tr}{N:Nat}{w:World}{H:Hp}{G:Gr}(k:Nat)(h:JT cs ts tr N w (keys H G)):JT cs ts tr N w (keys (H.take k) (G.take k)):=JT.ok _ _ _ _ h (CQ.refl _ _) (fun b hb=>.inl (by
 obtain⟨i,e,L,h1,h2,h3,h4⟩:=mem_keys.1 hb
 rw [σ4]at h1 h3
 split at h1
 ·next hi=>rw [if_pos hi]at h3;exact mem_keys.2 ⟨i,e,L,h1,h2,h3,h4⟩
 ·cases h1))
theorem Gw {cs GO:List AD}{rg:Nat→Rg}(hl:GO.length=cs.length)(he:∀k,k<cs.length→(GO.getD k AD.z).l=(cs.getD k AD.z).l):Ai cs rg=Ai GO rg:=by
 unfold Ai;rw [hl];apply ρ6;intro k hk;rw [he k (ζ8.1 hk)]
theorem zN {z:List Tr}{t:Tr}{k:Nat}(h:k<z.length):(z++[t]).getD k Tr.z=z.getD k Tr.z:=by simp [List.getD,α2 h]
theorem zO {z:List Tr}{t:Tr}:(z++[t]).getD z.length Tr.z=t:=by simp [List.getD]
theorem dL {α:Type}{l:List α}{j k:Nat}{x d:α}(h:k≠j):(l.set j x).getD k d=l.getD k d:=by simp [List.getD,γ0 (ε9 h)]
theorem dM {α:Type}{l:List α}{j:Nat}{x d:α}(h:j<l.length):(l.set j x).getD j d=x:=by simp [List.getD,h]
def CF (tr:List Tr):List Nat:=tr.flatMap Tr.bl
theorem C4 {tr:List Tr}{b:Nat}:(CF tr).contains b=true↔∃k,k<tr.length∧(tr.getD k Tr.z).bl.contains b=true:=by
 unfold CF
 rw [δ9,List.mem_flatMap]
 constructor
 ·rintro ⟨t,h1,h2⟩
  obtain⟨k,hk,rfl⟩:=ρ2.1 h1
  refine⟨k,hk,?_⟩
  rw [α8,β4 hk,δ2]
  exact δ9.2 h2
 ·rintro ⟨k,hk,h⟩
  rw [α8,β4 hk,δ2]at h
  exact⟨tr[k],ι3 hk,δ9.1 h⟩
section
variable {cs cs2:List AD}{ts:List Th}{tr z:List Tr}{N nn:Nat}{w w':World}{ks:ae}
theorem JT.one (jt:JT cs ts tr N w ks)(ln:tr.length=nn)(hl:∀k,k<nn→(tr.getD k Tr.z).L=(z.getD k Tr.z).L){j:Nat}(hj:j<nn)(Ls:ts.length=nn)(hN:N≤w.heap.size)(Lr:∀b,ks.contains b=true→b<w.heap.size){s':Th}{x:SV}(m:CQ (tr.getD j Tr.z).bl w w')(hJ:l7 (tr.getD j Tr.z).L (cs.getD j AD.z).l (cs.getD j AD.z).ao (cs.getD j AD.z).cp s' (tr.getD j Tr.z).pb x w w'):
  ∃tr',JT cs (ts.set j s') tr' N w' ks∧tr'.length=nn∧(∀k,k<nn→(tr'.getD k Tr.z).L=(z.getD k Tr.z).L)∧∀b,(CF tr').contains b=true→(CF tr).contains b=true∨w.heap.size≤b:=by
 obtain⟨pb,ps,h,hb⟩:=jt.set (by omega) (by omega) hN Lr m hJ
 refine⟨_,h,by rw [η2];exact ln,fun k hk=>?_,fun b JA=>?_⟩
 ·by_cases e:k=j
  ·subst e;rw [Js (by omega)];exact hl k hk
  ·rw [U3 e];exact hl k hk
 ·obtain⟨k,hk,h2⟩:=C4.1 JA
  rw [η2]at hk
  by_cases e:k=j
  ·subst e
   rw [dM hk]at h2
   rcases hb b h2 with q|q
   ·exact .inl (C4.2 ⟨k,hk,q⟩)
   ·exact .inr q
  ·rw [dL e]at h2
   exact .inl (C4.2 ⟨k,hk,h2⟩)
end
section
variable {n:Nat}{ks:ae}{G0:Gr}{w0:World}{T:List (Nat×SV)}{H:Hp}{G:Gr}{a:Act}{w:World}{ops:ah}{o:Oper}{rest:ai}{Q:ab}{K:List Fr}{cs cs2:List AD}{ts:List Th}{tr z:List Tr}{nn N:Nat}
theorem Np (A:Sy n T H ks G0 w0 G a w)(jt:JT cs ts tr N w (keys H G)){j:Nat}(hj:j<tr.length)(hm:YG H=true):IC H G (tr.getD j Tr.z).bl:=
 cB A (fun b hb=>(jt.lo j hj b hb).2) (fun i e L h1 h2 h3 h4=>by
  have:=δ3.1 hm _ (θ1 h1)
  simp only at this;rw [h2]at this;cases this)
theorem VR (A:Sy n T H ks G0 w0 G a w) (hC:AH cs w0 ks) (Lr:∀b,(CF tr).contains b=true→ks.contains b=true∨w0.heap.size≤b) (jt:JT cs ts tr N w (keys H G)) (hN:N≤w.heap.size) (ln:tr.length=nn) (hl:∀k,k<nn→(tr.getD k Tr.z).L=(z.getD k Tr.z).L) {j:Nat} (hj:j<nn) (Ls:ts.length=nn) (Ld:nn≤cs.length) (hm:YG H=true) (hc:Fo (cs.getD j AD.z).l) (old:Int) {s:Th} (hs:ts.getD j Th.z=s) (D6:s.at_<(cs.getD j AD.z).l.length)
  (h1:Bi n ops T o=some (64,[EZ (z.getD j Tr.z).L.b (z.getD j Tr.z).L.pre.length,.int .i64 old]))
  (k:∀tr' (p:Int) {a' w'},JT cs (ts.set j ⟨s.at_+1,Jb s.r ((cs.getD j AD.z).l.getD (((s.at_:Nat):Int)).toNat In.z) old⟩) tr' N w' (keys H G)→tr'.length=nn→(∀k,k<nn→(tr'.getD k Tr.z).L=(z.getD k Tr.z).L)→(∀b,(CF tr').contains b=true→ks.contains b=true∨w0.heap.size≤b)→Sy n (BN T o.dst (.agg (jA s.r ((cs.getD j AD.z).l.getD (((s.at_:Nat):Int)).toNat In.z) p ((s.at_:Nat):Int) old))) H ks G0 w0 G a' w'→Goal Tryz.prog Q K (.ops ops rest) a' w'):Goal Tryz.prog Q K (.ops ops (o::rest)) a w:=by
 have SP:j<tr.length:=by omega
 have eL:=hl j hj
 rw [←eL]at h1
 have HD:∀b,(tr.getD j Tr.z).bl.contains b=true→ks.contains b=true∨w0.heap.size≤b:=fun b hb=>Lr b (C4.2 ⟨j,SP,hb⟩)
 have Ch:Fe (cs.getD j AD.z).ao (cs.getD j AD.z).l w (tr.getD j Tr.z).bl:=AP.ok _ _ _ _ (hC.at (by omega)) A.mix HD
 refine Jp [] (YF (cs.getD j AD.z).l (cs.getD j AD.z).ao (cs.getD j AD.z).cp s (tr.getD j Tr.z).L (tr.getD j Tr.z).pb (tr.getD j Tr.z).ps old hc D6 (by have:=jt.len j SP;rw [hs]at this;exact this)) A ⟨jt.get SP hs U,Ch⟩ (Np A jt SP hm) HD h1 U U U U fun{x a' w'} ML hJ A'=>?_
 obtain⟨hJ1,rfl⟩:=hJ
 obtain⟨tr',g1,g2,g3,g4⟩:=jt.one ln hl hj Ls hN (fun b hb=>EK A.mem hb) ML hJ1
 exact k tr' _ g1 g2 g3 (fun b hb=>(g4 b hb).elim (Lr b) (fun q=>.inr (β3 A.mix.size q))) A'
theorem LK (A:Sy n T H ks G0 w0 G a w) (hC:AH cs w0 ks) (Lr:∀b,(CF tr).contains b=true→ks.contains b=true∨w0.heap.size≤b) (jt:JT cs ts tr N w (keys H G)) (hN:N≤w.heap.size) (ln:tr.length=nn) (hl:∀k,k<nn→(tr.getD k Tr.z).L=(z.getD k Tr.z).L) {j:Nat} (hj:j<nn) (Ls:ts.length=nn) (Ld:nn≤cs.length) (hm:YG H=true) (hc:Fo (cs.getD j AD.z).l) {s:Th} (hs:ts.getD j Th.z=s) (D6:s.at_≤(cs.getD j AD.z).l.length)
  (h1:Bi n ops T o=some (54,[EZ (z.getD j Tr.z).L.b (z.getD j Tr.z).L.pre.length]))
  (k:∀tr' {a' w' x},JT cs (ts.set j (FK (cs.getD j AD.z).l s)) tr' N w' (keys H G)→tr'.length=nn→(∀k,k<nn→(tr'.getD k Tr.z).L=(z.getD k Tr.z).L)→(∀b,(CF tr').contains b=true→ks.contains b=true∨w0.heap.size≤b)→Sy n (BN T o.dst x) H ks G0 w0 G a' w'→Goal Tryz.prog Q K (.ops ops rest) a' w'):Goal Tryz.prog Q K (.ops ops (o::rest)) a w:=by
 have SP:j<tr.length:=by omega
 have eL:=hl j hj
 rw [←eL]at h1
 have HD:∀b,(tr.getD j Tr.z).bl.contains b=true→ks.contains b=true∨w0.heap.size≤b:=fun b hb=>Lr b (C4.2 ⟨j,SP,hb⟩)
 have Ch:Fe (cs.getD j AD.z).ao (cs.getD j AD.z).l w (tr.getD j Tr.z).bl:=AP.ok _ _ _ _ (hC.at (by omega)) A.mix HD
 refine Jp [] (Ry (cs.getD j AD.z).l (cs.getD j AD.z).ao (cs.getD j AD.z).cp s (tr.getD j Tr.z).L (tr.getD j Tr.z).pb (tr.getD j Tr.z).ps hc D6 (by have:=jt.len j SP;rw [hs]at this;exact this)) A ⟨jt.get SP hs U,Ch⟩ (Np A jt SP hm) HD h1 U U U U fun{x a' w'} ML hJ A'=>?_
 obtain⟨tr',g1,g2,g3,g4⟩:=jt.one ln hl hj Ls hN (fun b hb=>EK A.mem hb) ML hJ
 exact k tr' g1 g2 g3 (fun b hb=>(g4 b hb).elim (Lr b) (fun q=>.inr (β3 A.mix.size q))) A'
end
end Mc
namespace Mc
open Go.RowKit
def GM (cs:List AD)(N:Nat):Dl:=fun w ks=>∀ks',(∀b,ks'.contains b=true→b<N∨ks.contains b=true)→AH cs w ks'
theorem MD {ks ks':ae}{w w':World}(m:CQ ks w w')(h:∀b,ks.contains b=true→ks'.contains b=true):CQ ks' w w':=⟨m.os,m.tape,m.output,m.size,fun k hk hc=>m.block k hk (by
 cases hz:ks.contains k with
 |false=>rfl
 |true=>rw [h k hz]at hc;cases hc)⟩
theorem GM.ok {cs:List AD}{N:Nat}:Dl.OK (GM cs N):=fun w ks w' ks' h m hk ks2 h2 c hc=>by
 have h3:=h (ks++ks2.filter (fun b=>decide (b<w.heap.size))) (fun b hb=>by
  rw [δ9,ζ9]at hb
  rcases hb with hb|hb
  ·exact .inr (δ9.2 hb)
  ·rw [ν0,δ4]at hb
   rcases h2 b (δ9.2 hb.1)with q|q
   ·exact .inl q
   ·rcases hk b q with q|q
    ·exact .inr q
    ·omega) c hc
 refine AP.ok _ _ _ _ h3 (MD m fun b hb=>by rw [δ9]at hb⊢;exact ρ0 _ hb) fun b hb=>?_
 by_cases hl:b<w.heap.size
 ·refine .inl ?_
  rw [δ9]at hb⊢
  exact π1 _ (ν0.2 ⟨hb,η3 hl⟩)
 ·exact .inr (by omega)
section
variable {P:Program}{n:Nat}{ks:ae}{G0:Gr}{w0:World}{T:List (Nat×SV)}{H:Hp}{G:Gr}{a:Act}{w:World}{ops:ah}{o:Oper}{rest:ai}{Q:ab}{K:List Fr}{pre:World→Prop}{i fuel:Nat}{listed:Array Bool}
theorem Cu {f:Nat} {args az:List SV} {cs:List AD} {rg:Nat→Rg} {t:Nat} {H':List AD→Hp} (ho:ops[i]?=some o) (hf:Mf P f args [] [] pre (Rp cs rg)) (A:Sy n T H ks G0 w0 G a w) (hp:pre w) (h1:Bi n ops T o=some (f,az)) (h2:D8 [] args=some az) (hd:o.dst=some t)
  (hH:∀cs':List AD,H++[aq cs' (Ai cs rg) cs.length]++[O [.sl H.length cs.length 0]]=H' cs')
  (k:∀cs' {G a w'},Ac cs' (Ai cs rg) cs.length→(∀k,k<cs.length→(cs'.getD k AD.z).l=(cs.getD k AD.z).l)→GM cs' w0.heap.size w' (keys (H' cs') G)→Sy n ((t,.ptr (H.length+1) 0)::T) (H' cs') ks G0 w0 G a w'→wpAny P .any ops Q fuel (listed.setIfInBounds i true) a w'):wpOp P ops Q i (wpAny P .any ops Q fuel (listed.setIfInBounds i true)) a w:=by
 refine Ff [] ho hf A hp IC.nil (fun b h=>by cases h) h1 h2 rfl rfl rfl fun{x a' w'} hm hJ A'=>?_
 obtain⟨L,bt,cp,cs',rfl,iP,CJ,heq,Ch⟩:=hJ
 rw [hd]at A'
 obtain⟨G',A2,hk⟩:=A'.takeCore t iP A.mix.size (fun i e M q1 q2 q3=>by
  have:=A.mem.ent i e q1
  rw [q2]at this
  exact Ag.lt this q3) (by simp [BN,look,η8]) (hH cs')
 refine k cs' CJ heq (fun ks' Dz=>Ch ks' fun b hb=>?_) ⟨A2.size,A2.defers,fun q x hx=>A2.get q x ?_,A2.mem,A2.pre,A2.own,A2.mix⟩
 ·rcases Dz b hb with q|q
  ·exact .inl (ζ7 q A.mix.size)
  ·exact hk b q
 ·unfold look at hx⊢
  cases hb:Nat.beq t q with
  |true=>rw [hb]at hx;exact hx
  |false=>
   rw [hb]at hx
   show look (BN T (some t) _) q=some x
   simp only [BN]
   unfold look
   rw [hb]
   exact hx
end
section
variable {n:Nat}{T:List (Nat×SV)}{H:Hp}{G0:Gr}{w0:World}{G:Gr}{a:Act}{w:World}
end
end Mc
namespace Mc
open Go.RowKit
set_option simprocs false
theorem _root_.Go.Proofs.YtbbdanhpphlbpaaGreatDoor.Sy.takeCoreG {n:Nat}{ks:ae}{G0:Gr}{w0:World}{T:List (Nat×SV)}{H:Hp}{G:Gr}{a:Act}{w:World}(A:Sy n T H ks G0 w0 G a w){e s m bt cp N:Nat}{f:Nat→List SV}{L:Loc}(ho:Oy e s m f L bt cp N w)(hN:w0.heap.size≤N)(hold:∀(i:Nat) (e:BZ) (M:Loc),H[i]?=some (some e)→G[i]?=some (some M)→¬e.empty→M.b<N):
  ∃R:Loc,R.b=bt∧Sy n T (H++[some (.row e s m 0 f)]++[O [.sl H.length m 0]]) ks G0 w0 (G++[some R]++[some L]) a w:=by
 have hlen:=A.mem.len
 obtain⟨p1,xs,p2,p3⟩:=ho.row
 have A1:=A.takeEnt (L:=⟨bt,[],List.replicate cp undef,e⟩) (en:=.row e s m 0 f) ⟨p1,fun L hL=>by cases hL;rfl,xs,p2,by simpa [rm]using p3⟩ U (fun i e M h1 h2 h3=>by have:=hold i e M h1 h2 h3;have:=ho.lt;show M.b≠bt;omega) (β3 hN ho.lt)
 have PV:(G++[some (⟨bt,[],List.replicate cp undef,e⟩:Loc)])[H.length]?=some (some ⟨bt,[],List.replicate cp undef,e⟩):=by rw [α1 (by omega),hlen];simp
 have hd:AO (G++[some (⟨bt,[],List.replicate cp undef,e⟩:Loc)]) [.sl H.length m 0]=some [.slice (some ⟨bt,0,none⟩) m cp]:=by
  unfold AO den
  rw [PV]
  simp [rm,AO]
 exact⟨_,rfl,A1.takeEnt (L:=L) (en:=.blk [.sl H.length m 0]) ⟨L,_,rfl,hd,ho.blk⟩ U (fun i e' M h1 h2 h3=>by
  by_cases hi:i<H.length
  ·rw [α2 hi]at h1
   rw [α2 (by omega)]at h2
   have:=hold i e' M h1 h2 h3;have:=ho.lo;omega
  ·have PT:i=H.length:=by
    have:=(α0.1 h1).1
    simp at this;omega
   subst PT
   rw [PV]at h2
   cases h2
   exact fun z=>ho.ne z.symm) (β3 hN ho.lo)⟩
end Mc
namespace Mc
open Go.RowKit
set_option simprocs false
end Mc
namespace Mc
open Go.RowKit
set_option simprocs false
end Mc
namespace Mc
open Go.RowKit
set_option simprocs false
theorem lt9 {x:Int}(h:0≤x∧x<3):x.toNat<3:=by omega
abbrev R0 (tr:List Tr):Nat→List SV:=fun k=>[.v (.pointer (some ⟨(tr.getD k Tr.z).L.b,(tr.getD k Tr.z).L.pre.length,none⟩))]
section
variable {P:Program}{n:Nat}{ks:ae}{G0:Gr}{w0:World}{T:List (Nat×SV)}{H:Hp}{G:Gr}{a:Act}{w:World}{Q:ab}{K:List Fr}{pos:Pos}
theorem VS {bs:ae} (t:Nat) {L:Loc} {cs:List SV} {vs:aj} (A:Sy n T [] (L.b::bs) G0 w0 G a w) (hb:D3 w L.b (L.pre++vs++L.post).toArray L.t) (hc:AO [] cs=some vs) (ht:look T t=some (EZ L.b L.pre.length))
  (k:Sy n ((t,.ptr 0 0)::T) [O cs] (L.b::bs) G0 w0 [some L] a w→Goal P Q K pos a w):Goal P Q K pos a w:=by
 have hG:G=[]:=γ9 (by rw [←A.mem.len];rfl)
 subst hG
 have A1:=A.takeK (L:=L) (en:=.blk cs) ⟨L,vs,rfl,by simpa using A6 [] cs hc,hb⟩ U (fun i e M h _ _=>by rw [ι1]at h;cases h) (.inl (by simp))
 exact k (A1.slotEq t ht (by unfold den;rfl))
theorem Je (A:Sy n T H ks G0 w0 G a w)(i:Nat){L:Loc}{cs:List SV}{vs:aj}(hi:lg H i=some (some (.blk cs)))(hG:G[i]?=some (some L))(hc:AO [] cs=some vs):D3 w L.b (L.pre++vs++L.post).toArray L.t:=by
 rw [At]at hi
 obtain⟨M,us,p1,p2,p3⟩:=A.mem.ent i _ hi
 rw [hG]at p1
 cases p1
 have:AO G cs=some vs:=by simpa using A6 G cs hc
 rw [this]at p2
 cases p2
 exact p3
theorem Ip {cs:List SV}{L:Loc}{bs:ae}(b:Nat)(hb:(keys [O cs] [some L]).contains b=true):(L.b::bs).contains b=true:=by
 have h:b=L.b:=by simpa using (show [L.b].contains b=true from hb)
 rw [h,ε8,beq_self_eq_true,Bool.true_or]
theorem Iq {cs:List SV}{L:Loc}(h:G[0]?=some (some L)):keys [O cs] (G.take 1)=[L.b]:=by
 match G,h with
 |x::_,h=>cases h;rfl
end
theorem dN (f v a s:Int):Ih f v a s=Ju f v a s:=rfl
theorem dO {m r:Rg}{i:In}(hr:((i.op==4)||(i.op==6))=true)(BW:CK i=true)(hs:i.sz=1∨i.sz=2∨i.sz=4∨i.sz=8)(hm:inr (m i.loc.toNat)):Jb r i (Int.fdiv (m i.loc.toNat) (2^min (8*Bg r i).toNat (IntKind.bits .i64)))=Jb r i (Hk m r i):=by
 unfold Jb Hk
 rw [if_pos hr,if_pos hr,if_pos BW,(VL (Df hs) hm).1,(VL (Df hs) hm).2]
theorem VT {r:Rg}{i:In}(hr:((i.op==4)||(i.op==6))=false)(x y:Int):Jb r i x=Jb r i y:=by
 unfold Jb;rw [if_neg (α7 hr),if_neg (α7 hr)]
theorem mC {i:In}(hr:((i.op==4)||(i.op==6))=true):CK i=true:=by
 simp only [β9,ε5]at hr;unfold CK
 rcases hr with h|h<;>rw [h]<;>rfl
theorem R1 {i:In}(hr:MC i=true):CK i=true:=by
 unfold MC at hr
 simp only [β9,ε5]at hr;unfold CK
 rcases hr with h|h<;>rw [h]<;>rfl
theorem QG {i:In}(hm:CK i=true):YD i=i.loc:=by
 have h:=HX hm
 unfold YD
 rw [if_pos (by simp only [β9,ε5];omega)]
theorem QH {r:Rg}{i:In}(hm:CK i=true)(hs:i.sz=1∨i.sz=2∨i.sz=4∨i.sz=8):YE r i=AY (Bg r i) i.sz:=by
 have h:=HX hm
 unfold YE AY
 rw [if_pos (by simp only [β9,ε5];omega),VH (Df hs)]
theorem Nq {i:In}{r:Rg}(h5:i.op=5)(ha: -1≤i.ra∧i.ra<8):BR r i=Bm (GU r i) i.sz:=by
 have hm:CK i=true:=by unfold CK;rw [h5];rfl
 unfold BR GU DD
 rw [hm,if_pos U,if_pos h5,h5]
 by_cases h:i.ra= -1
 ·rw [h];rfl
 ·have h2:¬i.ra<0:=by omega
  rw [if_neg h,if_neg h,η9 h2];rfl
theorem dQ {i:In}{r:Rg}(h6:i.op=6)(ha:0≤i.ra∧i.ra<8):BR r i=GU r i:=by
 have hm:CK i=true:=by unfold CK;rw [h6];rfl
 unfold BR GU DD
 have h:¬i.ra= -1:=by omega
 rw [hm,if_pos U,if_neg (by omega),if_pos h6,h6,if_neg h];rfl
theorem mD {m r:Rg}{i:In}(hw:MC i=true)(hr:((i.op==4)||(i.op==6))=false)(hs:Uv i)(old:Int):S3 r i old=F6 i (Aq (m i.loc.toNat) (Bg r i) i.sz) (BR r i):=by
 unfold MC at hw
 simp only [β9,ε5,ε3,δ7,ne_eq]at hw hr
 have h5:i.op=5:=by omega
 unfold S3 F6
 rw [if_neg (by omega),if_pos h5,if_neg (by simp only [β9,ε5];omega),Nq h5 (hs.a5 h5)]
theorem mE {m r:Rg}{i:In}(hw:MC i=true)(hr:((i.op==4)||(i.op==6))=true)(hs:Uv i)(hz:i.sz=1∨i.sz=2∨i.sz=4∨i.sz=8)(hm:inr (m i.loc.toNat)):S3 r i (Int.fdiv (m i.loc.toNat) (2^min (8*Bg r i).toNat (IntKind.bits .i64)))=F6 i (Aq (m i.loc.toNat) (Bg r i) i.sz) (BR r i):=by
 have aK:=hr
 unfold MC at hw
 simp only [β9,ε5]at hw hr
 have h6:i.op=6:=by omega
 unfold S3 F6
 rw [if_pos h6,if_pos aK,(VL (Df hz) hm).1,dQ h6 (hs.a (.inr (.inr (.inl h6)))),dN]
theorem Z0 {m r:Rg}{i:In}(hw:MC i=true):D5 m r i=AX m i.loc.toNat (AM (m i.loc.toNat) (Bg r i) i.sz (F6 i (Aq (m i.loc.toNat) (Bg r i) i.sz) (BR r i))):=by
 unfold D5;rw [if_pos (R1 hw),if_pos hw]
theorem Z1 {m r:Rg}{i:In}(hw:MC i=false):D5 m r i=m:=by
 unfold D5;split
 ·rw [if_neg (α7 hw)]
 ·rfl
theorem R3 {i:In}(hw:MC i=true)(hs:Uv i)(old:Int)(r:Rg):inr (F6 i old (BR r i)):=by
 unfold MC at hw
 simp only [β9,ε5]at hw
 unfold F6
 split
 ·exact VM _ _ _ _
 ·next h=>
  simp only [β9,ε5]at h
  have h5:i.op=5:=by omega
  rw [Nq h5 (hs.a5 h5)];exact Il _ _
theorem YH {m r:Rg}{i:In}(h:∀k,k<3→inr (m k)):∀k,k<3→inr (D5 m r i k):=fun k hk=>by
 unfold D5
 split
 ·split
  ·unfold AX
   split
   ·next e=>subst e;exact LH _ _ _ (h _ hk)
   ·exact h k hk
  ·exact h k hk
 ·exact h k hk
theorem mF (l:List In)(ao:ak)(cp:Nat)(at_:Int)(r:Rg)(pv:Value)(i:In)(hs:i.sz=1∨i.sz=2∨i.sz=4∨i.sz=8)(hx: -1≤i.ix∧i.ix<8):Fn Tryz.prog 63 [.el 0 11 0 0,.agg (Ce i)] [some (.lst 11 1 (fun _=>E5 (.sla ao l.length cp) r at_ (.v pv)))] (Rt (.agg [.n9 i.loc,.n9 (AY (Bg r i) i.sz)]) [some (.lst 11 1 (fun _=>E5 (.sla ao l.length cp) r at_ (.v pv)))]):=by
 have h:=dK l ao cp at_ r pv i hs hx
 have e:BX (Ah i.off (DD r i.ix 0) i.sz) i.sz=AY (Bg r i) i.sz:=by unfold AY;rw [VH (Df hs)]
 rw [e]at h
 exact h
end Mc
section
open Go.Shelf Go.RowKit
def O5:Go.Shelf.Ren:=⟨fun|137=>207|217=>233|266=>264|n=>n,fun|9=>9|5=>5|3=>3|n=>n,fun|n=>n⟩
theorem YI:Go.Proofs.Lays.n137 Tryz.prog O5:={
 mixed:=by kernel_rfl
 f137:=Tryz.func207.trans (congrArg some (by kernel_rfl))
 f217:=Tryz.func233.trans (congrArg some (by kernel_rfl))
 f266:=Tryz.func264.trans (congrArg some (by kernel_rfl))
 t3:=Tryz.underlying3
 a3:=Tryz.isAgg3
 z3:=Tryz.sizeOf3
 v3:=Tryz.zeroValue3
 t5:=Tryz.underlying5
 a5:=Tryz.isAgg5
 z5:=Tryz.sizeOf5
 v5:=Tryz.zeroValue5
 t9:=Tryz.underlying9
 a9:=Tryz.isAgg9
 z9:=Tryz.sizeOf9
 v9:=Tryz.zeroValue9}
def O6:Go.Shelf.Ren:=⟨fun|143=>152|219=>203|217=>233|225=>234|224=>235|267=>236|266=>264|314=>265|n=>n,fun|9=>9|3=>3|4=>4|5=>5|46=>188|146=>278|51=>226|n=>n,fun|1=>0|n=>n⟩
theorem YJ:Go.Proofs.Lays.n143 Tryz.prog O6:={
 mixed:=by kernel_rfl
 f143:=Tryz.func152.trans (congrArg some (by kernel_rfl))
 f217:=Tryz.func233.trans (congrArg some (by kernel_rfl))
 f219:=Tryz.func203.trans (congrArg some (by kernel_rfl))
 f224:=Tryz.func235.trans (congrArg some (by kernel_rfl))
 f225:=Tryz.func234.trans (congrArg some (by kernel_rfl))
 f266:=Tryz.func264.trans (congrArg some (by kernel_rfl))
 f267:=Tryz.func236.trans (congrArg some (by kernel_rfl))
 f314:=Tryz.func265.trans (congrArg some (by kernel_rfl))
 t3:=Tryz.underlying3
 a3:=Tryz.isAgg3
 z3:=Tryz.sizeOf3
 v3:=Tryz.zeroValue3
 t4:=Tryz.underlying4
 a4:=Tryz.isAgg4
 z4:=Tryz.sizeOf4
 v4:=Tryz.zeroValue4
 t5:=Tryz.underlying5
 a5:=Tryz.isAgg5
 z5:=Tryz.sizeOf5
 v5:=Tryz.zeroValue5
 t9:=Tryz.underlying9
 a9:=Tryz.isAgg9
 z9:=Tryz.sizeOf9
 v9:=Tryz.zeroValue9
 t46:=Tryz.underlying188
 a46:=Tryz.isAgg188
 z46:=Tryz.sizeOf188
 v46:=Tryz.zeroValue188
 t51:=Tryz.underlying226
 a51:=Tryz.isAgg226
 z51:=Tryz.sizeOf226
 v51:=Tryz.zeroValue226
 t146:=Tryz.underlying278
 a146:=Tryz.isAgg278
 z146:=Tryz.sizeOf278
 v146:=Tryz.zeroValue278
 g1:=by kernel_rfl}
def Gy:List UInt8:=[123,125,40,41,91,93,59,124,44,58,61,43,45,35,36,126,42,47,92,38,63,94]
def VU (b:UInt8):Bool:=Gy.contains b
theorem Gz (l:ag)(b:UInt8):decide (Lib.indexByte l b≥0)=l.contains b:=by
 induction l with
 |nil=>rfl
 | cons x l ih=>
  unfold Lib.indexByte
  rw [ε8]
  by_cases h:x=b
  ·subst h;simp
  ·have h1:(x==b)=false:=by simp [h]
   have h2:(b==x)=false:=by simp [ε9 h]
   rw [h1,h2]
   simp only [θ3,ξ6,Bool.false_or]
   rw [←ih]
   have h3:=Lib.indexByte_ge l b
   by_cases h4:Lib.indexByte l b= -1
   ·simp [h4]
   ·have h5:(Lib.indexByte l b== -1)=false:=by simp [h4]
    rw [h5]
    simp only [θ3,ξ6]
    exact τ8.2 (by omega)
theorem ME (b:UInt8)(w:World):Calls Tryz.prog 207 #[.string (S Gy),.int .u8 ((b.toNat:Nat):Int)] w fun e w'=>e=.returned (.int .i64 (Lib.indexByte Gy b))∧By w w':=by
 refine(Any.strings_IndexByte YI (S Gy) ((b.toNat:Nat):Int) w).mono ?_
 rintro e w' ⟨rfl,rfl⟩
 refine⟨?_,By.refl _⟩
 rw [FG,α6]
 simp
theorem S4 (l q:ag)(m:Int)(w:World)(hl:l.length≤8192)(hm:w.cell? ⟨0,0,none⟩=some (.int .i64 m)):Calls Tryz.prog 152 #[.string (S l),.string (S q)] w fun e w'=>e=.returned (.int .i64 (Lib.index l q))∧By w w':=by
 refine(Any.strings_Index YJ (S l) (S q) m w (by rw [DT];omega) hm).mono ?_
 rintro e w' ⟨rfl,rfl⟩
 exact⟨by rw [FG,FG],By.refl _⟩
end
section
def preB (l q:ag):Bool:=decide (q.length≤l.length)&&(l.take q.length==q)
def O7 (l:ag):Nat:=if preB l [47,92]||preB l [92,47]then 2 else if(match l[0]? with|some b=>VU b|none=>false)then 1 else 0
theorem YK {l:ag}(h:preB l [47,92]=true):O7 l=2:=by unfold O7;simp [h]
theorem VV {l:ag}(h:preB l [92,47]=true):O7 l=2:=by unfold O7;simp [h]
theorem YL {l:ag}{b:UInt8}(h1:preB l [47,92]=false)(h2:preB l [92,47]=false)(hb:l[0]?=some b)(h:decide (Lib.indexByte Gy b≥0)=true):O7 l=1:=by
 have:VU b=true:=by unfold VU;rw [←Gz];exact h
 unfold O7;simp [h1,h2,hb,this]
theorem dR {l:ag}{b:UInt8}(h1:preB l [47,92]=false)(h2:preB l [92,47]=false)(hb:l[0]?=some b)(h:decide (Lib.indexByte Gy b≥0)=false):O7 l=0:=by
 have:VU b=false:=by unfold VU;rw [←Gz];exact h
 unfold O7;simp [h1,h2,hb,this]
def EB (l:ag):Int:=Lib.index l [42,41]
theorem YM (l:ag): -1≤EB l:=Lib.index_ge l _
theorem YN {l:ag}(n:Nat)(h:0<l.length)(hn:0<n):(l.drop n).length<l.length:=by rw [γ3];omega
def Az (l:ag):Nat×Bool:=
 match l with
 | []=>(0,false)
 | b::r=>
  if HU b then((Az r).1+1,(Az r).2)
  else if preB (b::r) [40,42]then
   if EB ((b::r).drop 2)<0 then(0,true)
   else((Az ((b::r).drop (EB ((b::r).drop 2)).toNat.succ.succ.succ.succ)).1+((EB ((b::r).drop 2)).toNat+4),(Az ((b::r).drop (EB ((b::r).drop 2)).toNat.succ.succ.succ.succ)).2)
  else(0,false)
termination_by l.length
decreasing_by
 ·simp
 all_goals exact YN _ (by simp) (by omega)
theorem LL:Az []=(0,false):=by rw [Az]
theorem VW {l:ag}{n:Nat}(h:l.length≤n):Az (l.drop n)=(0,false):=by rw [ι4 h,LL]
theorem LM {l:ag}{n:Nat}{b:UInt8}(hb:l[n]?=some b)(h:HU b=true):Az (l.drop n)=((Az (l.drop (n+1))).1+1,(Az (l.drop (n+1))).2):=by
 rw [HI hb,Az,if_pos h]
theorem Mk {l:ag}{n:Nat}{b:UInt8}(hb:l[n]?=some b)(h:HU b=false)(hp:preB (l.drop n) [40,42]=false):Az (l.drop n)=(0,false):=by
 rw [HI hb]at hp⊢
 rw [Az,if_neg (by simp [h]),if_neg (by simp [hp])]
theorem Ml {l:ag}{n:Nat}{b:UInt8}(hb:l[n]?=some b)(h:HU b=false)(hp:preB (l.drop n) [40,42]=true)(he:EB (l.drop (n+2))<0):Az (l.drop n)=(0,true):=by
 have e:l.drop (n+2)=(l.drop n).drop 2:=by rw [μ1]
 rw [e]at he
 rw [HI hb]at hp he⊢
 rw [Az,if_neg (by simp [h]),if_pos hp,if_pos he]
theorem Jx {l:ag}{n:Nat}{b:UInt8}(hb:l[n]?=some b)(h:HU b=false)(hp:preB (l.drop n) [40,42]=true)(he:¬EB (l.drop (n+2))<0):
  Az (l.drop n)=((Az (l.drop (n+2+(EB (l.drop (n+2))).toNat+2))).1+((EB (l.drop (n+2))).toNat+4),(Az (l.drop (n+2+(EB (l.drop (n+2))).toNat+2))).2):=by
 have e:l.drop (n+2)=(l.drop n).drop 2:=by rw [μ1]
 have e2:l.drop (n+2+(EB (l.drop (n+2))).toNat+2)=(l.drop n).drop (EB (l.drop (n+2))).toNat.succ.succ.succ.succ:=by
  rw [μ1];congr 1;omega
 rw [e2,e]
 rw [e]at he
 rw [HI hb]at hp he⊢
 rw [Az,if_neg (by simp [h]),if_pos hp,if_neg he]
theorem VX:EB []= -1:=rfl
theorem S5 (b:UInt8)(l:ag):EB (b::l)=if [42,41].isPrefixOf (b::l)then 0 else if EB l== -1 then -1 else EB l+1:=by
 unfold EB;rw [Lib.index]
theorem GA (l:ag):EB l<0∨(EB l).toNat+2≤l.length:=by
 induction l with
 |nil=>exact .inl (by rw [VX];omega)
 | cons b l ih=>
  rw [S5]
  split
  ·next h=>
   right
   match l,h with
   | [],h=>simp at h
   |c::l,h=>simp
  ·split
   ·left;omega
   ·next h=>
    have h1:EB l≠ -1:=by simpa using h
    have h2:=YM l
    rcases ih with h3|h3
    ·omega
    ·right;simp only [β0];omega
end
section
def Ir (l q:ag):List UInt8:=if preB l q then l.drop q.length else l
theorem ET {l q:ag}(h:preB l q=true):q.length≤l.length:=by unfold preB at h;rw [α3]at h;exact δ5 h.1
end
section
open Go.RowKit
set_option simprocs false
theorem YO (l q:ag):((decide ((l.length:Int)≥(q.length:Int)))&&((l.take ((q.length:Int)).toNat)==q))=preB l q:=by
 unfold preB;rw [α6];congr 1;exact τ8.2 (by omega)
theorem Z2 (l q:ag):Fn Tryz.prog 202 [.str l,.str q] [] (Rt (.bool (preB l q)) []):=
 AR (n:=18) (by kernel_rfl) Tryz.func202 U U U fun G w a h0 A=>N9 24 A U (Bz<|Bz<|Bz<|JP (fun hg=>(by have:=δ5 hg;omega))<|Bz<|Bz<|Bz<|AB) fun A=>R9 A U h0 U (congrArg SV.bool (YO l q)) U
theorem VY (l q:ag):Fn Tryz.prog 151 [.str l,.str q] [] (Rt (.bool (preB l q)) []):=
 AR (n:=8) (by kernel_rfl) Tryz.func151 U U U fun G w a h0 A=>N9 9 A U U fun A=>C9 [] (Z2 l q) A U fun A=>N9 4 A U U fun A=>R9 A U h0 U U U
theorem dS (l q:ag):Fn Tryz.prog 237 [.str l,.str q] [] (Rt (.tup [.str (Ir l q),.bool (preB l q)]) []):=
 AR (n:=15) (by kernel_rfl) Tryz.func237 U U U fun G w a h0 A=>N9 11 A U U fun A=>C9 [] (Z2 l q) A U fun A=>N9 3 A U U fun A=>fork 9 A U
  (fun h1 A=>N9 9 A U U fun A=>R9 A U h0 U (by have e:preB l q=false:=(by have:=h1;revert this;cases preB l q<;>simp);unfold Ir;rw [e];simp [Am,nb,B5]) U)
  (fun h1 A=>N9 14 A U (AE (by have e:preB l q=true:=(by have:=h1;revert this;cases preB l q<;>simp);have:=ET e;omega)<|AB) fun A=>R9 A U h0 U (by have e:preB l q=true:=(by have:=h1;revert this;cases preB l q<;>simp);unfold Ir;rw [e];simp [Am,nb,B5]) U)
theorem mG (l q:ag):Fn Tryz.prog 204 [.str l,.str q] [] (Rt (.tup [.str (Ir l q),.bool (preB l q)]) []):=
 AR (n:=11) (by kernel_rfl) Tryz.func204 U U U fun G w a h0 A=>N9 10 A U U fun A=>C9 [] (dS l q) A U fun A=>N9 7 A U U fun A=>R9 A U h0 U U U
theorem tC (b:UInt8):Fn Tryz.prog 207 [.str Gy,.int .u8 ((b.toNat:Nat):Int)] [] (Rt (.int .i64 (Lib.indexByte Gy b)) []):=Xu (by kernel_rfl) U U (ME b)
theorem dV {l:ag}(h:0<l.length):l[0]?=some (l.getD (0:Int).toNat 0):=by simp [List.getD,h]
theorem dX (l:ag)(hl:0<l.length):Fn Tryz.prog 159 [.str l] [] (Rt (.int .i64 ((O7 l:Nat):Int)) []):=
 AR (n:=13) (by kernel_rfl) Tryz.func159 U U U fun G w a h0 A=>N9 11 A U U fun A=>C9 [] (VY l [47,92]) A U fun A=>N9 3 A U U fun A=>fork 3 A U
  (fun h1 A=>N9 10 A U U fun A=>R9 A U h0 U (by rw [YK h1];rfl) U)
  (fun h1 A=>N9 3 A U U fun A=>C9 [] (VY l [92,47]) A U fun A=>N9 3 A U U fun A=>fork 3 A U
   (fun h2 A=>N9 7 A U U fun A=>R9 A U h0 U (by rw [VV h2];rfl) U)
   (fun h2 A=>N9 5 A U (AE (by omega)<|AB) fun A=>C9 [] (tC (l.getD (0:Int).toNat 0)) A U fun A=>N9 4 A U U fun A=>AU 8 A U
    (fun h3 A=>N9 7 A U U fun A=>R9 A U h0 U (by rw [YL h1 h2 (dV hl) (η3 h3)];rfl) U)
    (fun h3 A=>N9 10 A U U fun A=>R9 A U h0 U (by rw [dR h1 h2 (dV hl) (η9 h3)];rfl) U)))
abbrev _root_.Go.Proofs.YtbbdanhpphlbpaaGreatDoor.Ln (os:List (Nat×Obj)):Prop:=∀w ks,Gl os w ks→∃m,w.cell? ⟨0,0,none⟩=some (.int .i64 m)
theorem zP (l q:ag)(os:List (Nat×Obj))(hM:Ln os)(hl:l.length≤8192):BQ (Gl os) Tryz.prog 152 [.str l,.str q] [] (Rt (.int .i64 (Lib.index l q)) []):=IX (by kernel_rfl) U U fun w ks h=>by
 obtain⟨m,hm⟩:=hM w ks h
 exact S4 l q m w hl hm
structure KI (l:ag)(a k:Nat):Prop where
 le:k≤l.length
 ge:a≤k
 eq:(Az (l.drop a))=((Az (l.drop k)).1+(k - a),(Az (l.drop k)).2)
section
variable {l:ag}{a k:Nat}
theorem KI.i0 (h:a≤l.length):KI l a a:=⟨h,β8 _,by simp⟩
theorem KI.bl (hI:KI l a k)(h1:(k:Int)<(l.length:Int))(h:HU (l.getD ((k:Int)).toNat 0)=true):KI l a (k+1):=by
 have:=hI.ge
 refine⟨by omega,by omega,?_⟩
 rw [hI.eq,LM (Cz h1) h]
 simp;omega
theorem KI.rm (hI:KI l a k)(h1:(k:Int)<(l.length:Int))(h:HU (l.getD ((k:Int)).toNat 0)=false)(hp:preB (l.drop ((k:Int)).toNat) [40,42]=true)(he:¬EB (l.drop (((k:Int)+2)).toNat)<0):KI l a (k+2+(EB (l.drop (k+2))).toNat+2):=by
 have hg:=hI.ge
 have hk:((k:Int)).toNat=k:=by omega
 have FC:(((k:Int)+2)).toNat=k+2:=by omega
 rw [hk]at hp
 rw [FC]at he
 have hl:=ET hp
 simp only [γ3,β0,β2]at hl
 have hr:=GA (l.drop (k+2))
 rw [γ3]at hr
 refine⟨by omega,by omega,?_⟩
 rw [hI.eq,Jx (Cz h1) h hp he]
 simp;omega
theorem KI.fi (hI:KI l a k)(h:¬(k:Int)<(l.length:Int)):Az (l.drop a)=(k - a,false):=by
 rw [hI.eq,VW (by omega)];simp
theorem KI.wd (hI:KI l a k)(h1:(k:Int)<(l.length:Int))(h:HU (l.getD ((k:Int)).toNat 0)=false)(hp:preB (l.drop ((k:Int)).toNat) [40,42]=false):Az (l.drop a)=(k - a,false):=by
 have hk:((k:Int)).toNat=k:=by omega
 rw [hk]at hp
 rw [hI.eq,Mk (Cz h1) h hp];simp
theorem KI.op (hI:KI l a k)(h1:(k:Int)<(l.length:Int))(h:HU (l.getD ((k:Int)).toNat 0)=false)(hp:preB (l.drop ((k:Int)).toNat) [40,42]=true)(he:EB (l.drop (((k:Int)+2)).toNat)<0):Az (l.drop a)=(k - a,true):=by
 have hk:((k:Int)).toNat=k:=by omega
 have FC:(((k:Int)+2)).toNat=k+2:=by omega
 rw [hk]at hp
 rw [FC]at he
 rw [hI.eq,Ml (Cz h1) h hp he];simp
end
def QI (l:ag)(a:Nat):Int:=if(Az (l.drop a)).2 then 24 else 0
theorem mH (l:ag)(s0:Nat)(os:List (Nat×Obj))(hM:Ln os)(ha:s0≤l.length)(hl:l.length≤8192):BQ (Gl os) Tryz.prog 118 [.str l,.n9 (s0:Int)] [] (Rt (.tup [.n9 ((s0+(Az (l.drop s0)).1:Nat):Int),.n9 (QI l s0)]) []):=
 Aa (n:=39) (by kernel_rfl) Tryz.func118 U U U fun G w a h0 hI A=>N9 8 A U U fun A=>Bq (fun(k:Nat)=>[(0,.str l),(1,.n9 (k:Int)),(4,.n9 0),(5,.n9 0)]) (fun(k:Nat)=>[]) (fun(k:Nat)=>KI l s0 k) (fun(k:Nat)=>l.length - k) s0 (KI.i0 ha) ((A.cut [0,1,4,5] U).trunc 0 U U U (CL h0 U)) fun k Bu {G a w} A=>N9 9 A U U fun A=>AU 11 A U
   (fun h1 A=>N9 10 A U (AE (by have hle:=Bu.le;(try simp only [γ3]);omega)<|AB) fun A=>C9 [] (Sn (l.getD ((k:Int)).toNat 0)) A U fun A=>N9 3 A U U fun A=>fork 13 A U
    (fun h2 A=>N9 8 A U (AE (by have hle:=Bu.le;(try simp only [γ3]);omega)<|AB) fun A=>⟨k+1,_,(by omega),(Bu.bl h1 h2),((A.cut [0,1,4,5] U).trunc 0 U U U (CL h0 U)).sayT (by simp)⟩)
    (fun h2 A=>N9 6 A U (AE (by have hle:=Bu.le;(try simp only [γ3]);omega)<|AB) fun A=>C9 [] (VY (l.drop ((k:Int)).toNat) [40,42]) A U fun A=>N9 3 A U U fun A=>fork 20 A U
     (fun h3 A=>N9 9 A U (AE (by have hle:=Bu.le;have I4:=ET h3;simp only [γ3,β0,β2]at I4;have M8:=GA (l.drop (((k:Int)+2)).toNat);rw [γ3]at M8;(try simp only [γ3]);omega)<|AB) fun A=>N9 4 A U (AE (by have hle:=Bu.le;have I4:=ET h3;simp only [γ3,β0,β2]at I4;have M8:=GA (l.drop (((k:Int)+2)).toNat);rw [γ3]at M8;(try simp only [γ3]);omega)<|AB) fun A=>I9 [] Gl.ok hI (RT (zP (l.drop ((k:Int)+2).toNat) [42,41] os hM (by have hle:=Bu.le;have I4:=ET h3;simp only [γ3,β0,β2]at I4;have M8:=GA (l.drop (((k:Int)+2)).toNat);rw [γ3]at M8;(try simp only [γ3]);omega)) (y:=.int .i64 (EB (l.drop ((k:Int)+2).toNat))) fun _=>rfl) A U fun A=>N9 10 A U U fun A=>AU 32 A U
      (fun h4 A=>N9 9 A U U fun A=>R9 A U h0 U (by have e:=Bu.op h1 h2 h3 h4;have hg:=Bu.ge;unfold QI;rw [e];simp [Am,nb,B5];omega) U)
      (fun h4 A=>N9 12 A U (AE (by have hle:=Bu.le;have I4:=ET h3;simp only [γ3,β0,β2]at I4;have M8:=GA (l.drop (((k:Int)+2)).toNat);rw [γ3]at M8;(try simp only [γ3]);omega)<|AE (by have hle:=Bu.le;have I4:=ET h3;simp only [γ3,β0,β2]at I4;have M8:=GA (l.drop (((k:Int)+2)).toNat);rw [γ3]at M8;(try simp only [γ3]);omega)<|AB) fun A=>⟨k+2+(EB (l.drop (k+2))).toNat+2,_,(by omega),(Bu.rm h1 h2 h3 h4),((A.cut [0,1,4,5] U).trunc 0 U U U (CL h0 U)).sayT (by have e2:(((k:Int)+2)).toNat=k+2:=(by omega);simp only [e2]at h4⊢;congr 5;omega)⟩))
     (fun h3 A=>N9 9 A U U fun A=>R9 A U h0 U (by have e:=Bu.wd h1 h2 h3;have hg:=Bu.ge;unfold QI;rw [e];simp [Am,nb,B5];omega) U)))
   (fun h1 A=>N9 11 A U U fun A=>R9 A U h0 U (by have e:=Bu.fi h1;have hg:=Bu.ge;unfold QI;rw [e];simp [Am,nb,B5];omega) U)
end
section
def G5 (b:UInt8):Nat:=(b|||32).toNat
theorem YP (b:UInt8):G5 b≤255:=by unfold G5;exact Nat.le_of_lt_succ (b|||32).toNat_lt
def dv (b:UInt8):Nat:=if 48≤b.toNat∧b.toNat≤57 then b.toNat - 48 else if 97≤G5 b∧G5 b≤122 then G5 b - 97+10 else 99
theorem VZ {b:UInt8}(h1:48≤b.toNat)(h2:b.toNat≤57):dv b=b.toNat - 48:=if_pos ⟨h1,h2⟩
theorem Va {b:UInt8}(h:¬(48≤b.toNat∧b.toNat≤57))(h1:97≤G5 b)(h2:G5 b≤122):dv b=G5 b - 97+10:=by unfold dv;rw [if_neg h,if_pos ⟨h1,h2⟩]
theorem Nr {b:UInt8}(h:¬(48≤b.toNat∧b.toNat≤57))(h1:¬(97≤G5 b∧G5 b≤122)):dv b=99:=by unfold dv;rw [if_neg h,if_neg h1]
def nv (bs:Nat)(l:ag):Nat:=l.foldl (fun n b=>n*bs+dv b) 0
def LN (bs:Nat)(l:ag):Bool:=l.all fun b=>decide (dv b<bs)
def EC (bs:Nat)(l:ag):Option Nat:=if l=[]∨LN bs l=false then none else some (nv bs l)
theorem YQ (bs:Nat)(l:ag):nv bs (l.take 0)=0:=rfl
theorem Ns {l:ag}{i:Nat}{y:UInt8}(h:l[i]?=some y):l.take (i+1)=l.take i++[y]:=by
 rw [List.take_add_one,h];rfl
theorem Is {bs:Nat}{l:ag}{i:Nat}{y:UInt8}(h:l[i]?=some y):nv bs (l.take (i+1))=nv bs (l.take i)*bs+dv y:=by
 rw [Ns h];unfold nv;rw [List.foldl_append];rfl
theorem Nt {bs:Nat}{l:ag}{i:Nat}{y:UInt8}(h:l[i]?=some y)(ha:LN bs (l.take i)=true)(hy:dv y<bs):LN bs (l.take (i+1))=true:=by
 rw [Ns h];unfold LN at*;rw [ξ3,ha];simp [hy]
theorem E9 {bs:Nat}{l:ag}{i:Nat}{y:UInt8}(h:l[i]?=some y)(hy:bs≤dv y):EC bs l=none:=by
 unfold EC;rw [if_pos];right
 cases ha:LN bs l
 ·rfl
 ·exfalso
  have:=δ3.1 ha y (θ1 h)
  have:=δ5 this
  omega
theorem R4 {bs:Nat}{l:ag}(h:l=[]):EC bs l=none:=by unfold EC;rw [if_pos (.inl h)]
theorem R5 {bs:Nat}{l:ag}{i:Nat}(h:l≠[])(ha:LN bs (l.take i)=true)(hi:l.length≤i):EC bs l=some (nv bs (l.take i)):=by
 rw [ε4 hi]at*
 unfold EC;rw [if_neg (by simp [h,ha])]
theorem Vb {bs:Nat}(hb:0<bs)(l:ag)(i:Nat)(ha:LN bs (l.take i)=true):nv bs (l.take i)<bs^i:=by
 induction i with
 |zero=>rw [YQ];simp
 | succ i ih=>
  cases hy:l[i]? with
  |none=>
   have hl:l.length≤i:=by simpa using hy
   have e:l.take (i+1)=l.take i:=by rw [ε4 hl,ε4 (by omega)]
   rw [e]at ha⊢
   exact ζ7 (ih ha) (ρ3 hb (by omega))
  | some y=>
   rw [Ns hy]at ha
   unfold LN at ha
   rw [ξ3,α3]at ha
   have h1:=ih ha.1
   have h2:dv y<bs:=by simpa using ha.2
   rw [Is hy,Nat.pow_succ]
   calc nv bs (l.take i)*bs+dv y<nv bs (l.take i)*bs+bs:=by omega
    _=(nv bs (l.take i)+1)*bs:=by rw [θ6,υ6]
    _≤bs^i*bs:=θ2 _ h1
theorem Jy {l:ag}{i:Nat}(ha:LN 10 (l.take i)=true)(hi:i≤18):nv 10 (l.take i)<1000000000000000000:=
 ζ7 (Vb (by omega) l i ha) (ρ3 (n:=10) (by omega) hi)
theorem Jz {l:ag}{i:Nat}(ha:LN 16 (l.take i)=true)(hi:i≤15):nv 16 (l.take i)<1152921504606846976:=
 ζ7 (Vb (by omega) l i ha) (ρ3 (n:=16) (by omega) hi)
end
section
open Go.RowKit
set_option simprocs false
theorem dY (c:Int):Fn Tryz.prog 266 [.int .u8 c] [] (Rt (.int .u8 (IntKind.wrap .u8 ((((BitVec.ofInt (IntKind.bits .u8) c)|||(BitVec.ofInt (IntKind.bits .u8) 32)).toNat:Nat):Int))) []):=
 AR (n:=5) (by kernel_rfl) Tryz.func266 U U U fun G w a h0 A=>N9 13 A U U fun A=>R9 A U h0 U U U
theorem dZ (b:UInt8):IntKind.wrap .u8 ((((BitVec.ofInt (IntKind.bits .u8) ((b.toNat:Nat):Int))|||(BitVec.ofInt (IntKind.bits .u8) 32)).toNat:Nat):Int)=((G5 b:Nat):Int):=by
 have h:(BitVec.ofInt 8 ((b.toNat:Nat):Int)|||BitVec.ofInt 8 32).toNat=(b|||32).toNat:=by
  have e1:BitVec.ofInt 8 ((b.toNat:Nat):Int)=b.toBitVec:=by
   apply π2
   rw [BitVec.toNat_ofInt]
   have:=b.toNat_lt
   simp;omega
  rw [e1];rfl
 show IntKind.wrap .u8 (((BitVec.ofInt 8 ((b.toNat:Nat):Int)|||BitVec.ofInt 8 32).toNat:Nat):Int)=_
 rw [h]
 have:=YP b
 unfold G5 at this⊢
 exact K6 (by omega) (by omega)
theorem Mm (b:UInt8):Fn Tryz.prog 266 [.int .u8 ((b.toNat:Nat):Int)] [] (Rt (.int .u8 ((G5 b:Nat):Int)) []):=JU (dY _) (Bf (dZ b))
def jB (bs:Nat)(l:ag):SV:=match EC bs l with|some n=>.tup [.int .u64 (n:Int),.v .nilIface]|none=>.tup [.int .u64 0,.v (.iface 280 (.int .i64 2))]
theorem C5 {bs:Nat}{l:ag}(h:EC bs l=none):jB bs l=.tup [.int .u64 0,.v (.iface 280 (.int .i64 2))]:=by unfold jB;rw [h]
theorem It {bs:Nat}{l:ag}{n:Nat}(h:EC bs l=some n):jB bs l=.tup [.int .u64 (n:Int),.v .nilIface]:=by unfold jB;rw [h]
structure NI (bs:Nat)(l:ag)(j:Nat):Prop where
 le:j≤l.length
 al:LN bs (l.take j)=true
theorem O8 (l:ag) (hl:l.length≤19):Fn Tryz.prog 238 [.str l,.n9 10,.n9 64] [] (Rt (jB 10 l) []):=
 AR (n :=172) (by kernel_rfl) Tryz.func238 U U U fun G w a h0 A=>N9 13 A U U fun A=>AV 19 A U
  (fun h1 A=>N9 3 A U U fun A=>Af A U (L6 U U U U (by kernel_rfl)) fun A=>N9 5 A U U fun A=>R9 A U h0 U (by rw [C5 (R4 h1)];rfl) U)
  (fun h1 A=>N9 7 A U U fun A=>have A:=AG A 22 (.ff) U (fun _=>congrArg (fun b=>some (Value.bool b)) (show(10==0)=false by decide));N9 19 A U U fun A=>have A:=AG A 31 (.tt) U (fun _=>congrArg (fun b=>some (Value.bool b)) (show((decide (2≤10))&&(decide (10≤36)))=true by decide));N9 14 A U U fun A=>AV 77 A U
   (fun h2 A=>absurd h2 (by decide))
   (fun h2 A=>N9 9 A U U fun A=>have A:=AG A 83 (.ff) U (fun _=>congrArg (fun b=>some (Value.bool b)) (show((decide (64<0))||(decide (64>64)))=false by decide));N9 23 A U U fun A=>AV 90 A U
    (fun h3 A=>N9 10 A U U fun A=>have A:=AG A 95 (.int .u64 64) U (Bf (show IntKind.wrap .u64 64=64 by decide));N9 1 A U (AE (by omega)<|AB) fun A=>have A:=AG A 96 (.int .u64 0) U (Bf (show IntKind.wrap .u64 (1*2^min (64:Int).toNat (IntKind.bits .u64))=0 by decide));N9 1 A U U fun A=>have A:=AG A 97 (.int .u64 18446744073709551615) U (Bf (show IntKind.wrap .u64 (0 - 1)=18446744073709551615 by decide));N9 17 A U U fun A=>Af A U (Up (i:=0) (e:=5) U U U (by kernel_rfl) (by kernel_rfl) (by kernel_rfl) U) fun A=>N9 5 A U U fun A=>Bq (fun(j:Nat)=>[(1,.n9 10),(6,.int .u64 0),(7,.v .nilIface),(8,.ff),(9,.str l),(10,.int .u64 1844674407370955162),(11,.int .u64 18446744073709551615),(12,.ff),(13,.int .u64 ((nv 10 (l.take j):Nat):Int)),(99,.sl 0 l.length 0),(100,.n9 ((l.length:Nat):Int)),(101,.n9 (j:Int))]) (fun(j:Nat)=>[some (.lst 1 l.length (fun k=>[.int .u8 (((l.getD k 0).toNat:Nat):Int)]))]) (fun(j:Nat)=>NI 10 l j) (fun(j:Nat)=>l.length - j) 0 ⟨β7 _,rfl⟩ ((A.cut [1,6,7,8,9,10,11,12,13,99,100,101] U).trunc 1 U U U (CL h0 U)) fun j hI {G a w} A=>N9 6 A U U fun A=>AU 102 A U
      (fun h4 A=>N9 13 A U (AE (by have:=hI.le;omega)<|AE (by have:=hI.le;omega)<|AB) fun A=>N9 13 A U U fun A=>have A:=AG A 111 (.ff) U (fun _=>congrArg (fun b=>some (Value.bool b)) (show(bif (((l.getD (((j:Int)).toNat) 0).toNat:Nat):Int)==95 then false else false)=false by simp));N9 15 A U U fun A=>fork 112 A U
       (fun h5 A=>N9 4 A U U fun A=>have A:=AG A 120 (.int .u8 ((dv (l.getD (((j:Int)).toNat) 0):Nat):Int)) U (Bf (show IntKind.wrap .u8 ((((l.getD (((j:Int)).toNat) 0).toNat:Nat):Int) - 48)=((dv (l.getD (((j:Int)).toNat) 0):Nat):Int) by have h:=h5;simp only [α3,δ4]at h;rw [VZ (by omega) (by omega),K6 (by omega) (by omega)];omega));N9 10 A U U fun A=>have A:=AG A 136 (.int .u8 10) U (Bf (show IntKind.wrap .u8 10=10 by decide));N9 3 A U U fun A=>AU 137 A U
        (fun h6 A=>N9 3 A U U fun A=>Af A U (L6 U U U U (by kernel_rfl)) fun A=>N9 5 A U U fun A=>R9 A U h0 U (by rw [C5 (E9 (Cz h4) (by have:=h6;omega))];rfl) U)
        (fun h6 A=>N9 11 A U U fun A=>AU 141 A U
         (fun h7 A=>absurd h7 (by have hp:=Jy hI.al;have hle:=hI.le;have hj:=h4;omega))
         (fun h7 A=>N9 8 A U U fun A=>have A:=AG A 146 (.int .u64 10) U (Bf (show IntKind.wrap .u64 10=10 by decide));N9 1 A U U fun A=>have A:=AG A 147 (.int .u64 (((nv 10 (l.take j):Nat):Int)*10)) U (Bf (show IntKind.wrap .u64 (((nv 10 (l.take j):Nat):Int)*10)=((nv 10 (l.take j):Nat):Int)*10 by have hp:=Jy hI.al;have hle:=hI.le;have hj:=h4;exact wrap64 (by omega) (by omega)));N9 8 A U U fun A=>have A:=AG A 150 (.int .u64 ((dv (l.getD (((j:Int)).toNat) 0):Nat):Int)) U (Bf (show IntKind.wrap .u64 ((dv (l.getD (((j:Int)).toNat) 0):Nat):Int)=((dv (l.getD (((j:Int)).toNat) 0):Nat):Int) by have:=h6;exact wrap64 (by omega) (by omega)));N9 1 A U U fun A=>have A:=AG A 151 (.int .u64 ((nv 10 (l.take (j+1)):Nat):Int)) U (Bf (show IntKind.wrap .u64 ((((nv 10 (l.take j):Nat):Int)*10)+((dv (l.getD (((j:Int)).toNat) 0):Nat):Int))=((nv 10 (l.take (j+1)):Nat):Int) by have hp:=Jy hI.al;have hle:=hI.le;have hj:=h4;have hd:dv (l.getD (((j:Int)).toNat) 0)<10:=(by have:=h6;omega);rw [Is (Cz hj)];have e0:(((j:Int)).toNat)=((j:Int)).toNat:=rfl;rw [wrap64 (by omega) (by omega)];omega));N9 14 A U U fun A=>have A:=AG A 159 (.ff) U (fun _=>congrArg (fun b=>some (Value.bool b)) (show((decide (((nv 10 (l.take (j+1)):Nat):Int)<(((nv 10 (l.take j):Nat):Int)*10)))||(decide (((nv 10 (l.take (j+1)):Nat):Int)>18446744073709551615)))=false by have hp:=Jy hI.al;have hle:=hI.le;have hj:=h4;have hd:dv (l.getD (((j:Int)).toNat) 0)<10:=(by have:=h6;omega);have hg:=Is (bs:=10) (Cz hj);rw [ξ8];intro hc;simp only [β9,δ4]at hc;omega));N9 15 A U (AE (by have:=hI.le;omega)<|AB) fun A=>⟨j+1,_,(by omega),⟨by have:=hI.le;omega,Nt (Cz h4) hI.al (by have:=h6;omega)⟩,((A.cut [1,6,7,8,9,10,11,12,13,99,100,101] U).trunc 1 U U U (CL h0 U))⟩)))
       (fun h5 A=>N9 4 A U U fun A=>C9 [] (Mm (l.getD (((j:Int)).toNat) 0)) A U fun A=>N9 2 A U U fun A=>AU 125 A U
        (fun h8 A=>N9 1 A U U fun A=>C9 [] (Mm (l.getD (((j:Int)).toNat) 0)) A U fun A=>N9 5 A U U fun A=>AU 121 A U
         (fun h9 A=>N9 3 A U U fun A=>C9 [] (Mm (l.getD (((j:Int)).toNat) 0)) A U fun A=>N9 2 A U U fun A=>have A:=AG A 133 (.int .u8 ((dv (l.getD (((j:Int)).toNat) 0):Nat):Int)) U (Bf (show IntKind.wrap .u8 ((IntKind.wrap .u8 (((G5 (l.getD (((j:Int)).toNat) 0):Nat):Int) - 97))+10)=((dv (l.getD (((j:Int)).toNat) 0):Nat):Int) by have h:=h5;simp only [κ3,ζ1]at h;have h2:=h8;have h3:=h9;rw [Va (by omega) (by omega) (by omega),K6 (n:=((G5 (l.getD (((j:Int)).toNat) 0):Nat):Int) - 97) (by omega) (by omega),K6 (by omega) (by omega)];omega));N9 10 A U U fun A=>have A:=AG A 136 (.int .u8 10) U (Bf (show IntKind.wrap .u8 10=10 by decide));N9 3 A U U fun A=>AU 137 A U
          (fun GG A=>N9 3 A U U fun A=>Af A U (L6 U U U U (by kernel_rfl)) fun A=>N9 5 A U U fun A=>R9 A U h0 U (by rw [C5 (E9 (Cz h4) (by have:=GG;omega))];rfl) U)
          (fun GG A=>N9 11 A U U fun A=>AU 141 A U
           (fun Fq A=>absurd Fq (by have hp:=Jy hI.al;have hle:=hI.le;have hj:=h4;omega))
           (fun Fq A=>N9 8 A U U fun A=>have A:=AG A 146 (.int .u64 10) U (Bf (show IntKind.wrap .u64 10=10 by decide));N9 1 A U U fun A=>have A:=AG A 147 (.int .u64 (((nv 10 (l.take j):Nat):Int)*10)) U (Bf (show IntKind.wrap .u64 (((nv 10 (l.take j):Nat):Int)*10)=((nv 10 (l.take j):Nat):Int)*10 by have hp:=Jy hI.al;have hle:=hI.le;have hj:=h4;exact wrap64 (by omega) (by omega)));N9 8 A U U fun A=>have A:=AG A 150 (.int .u64 ((dv (l.getD (((j:Int)).toNat) 0):Nat):Int)) U (Bf (show IntKind.wrap .u64 ((dv (l.getD (((j:Int)).toNat) 0):Nat):Int)=((dv (l.getD (((j:Int)).toNat) 0):Nat):Int) by have:=GG;exact wrap64 (by omega) (by omega)));N9 1 A U U fun A=>have A:=AG A 151 (.int .u64 ((nv 10 (l.take (j+1)):Nat):Int)) U (Bf (show IntKind.wrap .u64 ((((nv 10 (l.take j):Nat):Int)*10)+((dv (l.getD (((j:Int)).toNat) 0):Nat):Int))=((nv 10 (l.take (j+1)):Nat):Int) by have hp:=Jy hI.al;have hle:=hI.le;have hj:=h4;have hd:dv (l.getD (((j:Int)).toNat) 0)<10:=(by have:=GG;omega);rw [Is (Cz hj)];have e0:(((j:Int)).toNat)=((j:Int)).toNat:=rfl;rw [wrap64 (by omega) (by omega)];omega));N9 14 A U U fun A=>have A:=AG A 159 (.ff) U (fun _=>congrArg (fun b=>some (Value.bool b)) (show((decide (((nv 10 (l.take (j+1)):Nat):Int)<(((nv 10 (l.take j):Nat):Int)*10)))||(decide (((nv 10 (l.take (j+1)):Nat):Int)>18446744073709551615)))=false by have hp:=Jy hI.al;have hle:=hI.le;have hj:=h4;have hd:dv (l.getD (((j:Int)).toNat) 0)<10:=(by have:=GG;omega);have hg:=Is (bs:=10) (Cz hj);rw [ξ8];intro hc;simp only [β9,δ4]at hc;omega));N9 15 A U (AE (by have:=hI.le;omega)<|AB) fun A=>⟨j+1,_,(by omega),⟨by have:=hI.le;omega,Nt (Cz h4) hI.al (by have:=GG;omega)⟩,((A.cut [1,6,7,8,9,10,11,12,13,99,100,101] U).trunc 1 U U U (CL h0 U))⟩)))
         (fun h9 A=>N9 3 A U U fun A=>Af A U (L6 U U U U (by kernel_rfl)) fun A=>N9 5 A U U fun A=>R9 A U h0 U (by rw [C5 (E9 (Cz h4) (by have h:=h5;simp only [κ3,ζ1]at h;have h0:=h8;have h1:=h9;rw [Nr (by omega) (by omega)];omega))];rfl) U))
        (fun h8 A=>N9 10 A U U fun A=>Af A U (L6 U U U U (by kernel_rfl)) fun A=>N9 5 A U U fun A=>R9 A U h0 U (by rw [C5 (E9 (Cz h4) (by have h:=h5;simp only [κ3,ζ1]at h;have h0:=h8;rw [Nr (by omega) (by omega)];omega))];rfl) U)))
      (fun h4 A=>N9 25 A U U fun A=>R9 A U h0 U (by rw [It (R5 h1 hI.al (by have:=h4;omega))];rfl) U))
    (fun h3 A=>absurd U h3)))
theorem S6 (l:ag)(n:Nat)(hl:l.length≤19)(h:EC 10 l=some n):Fn Tryz.prog 238 [.str l,.n9 10,.n9 64] [] (Rt (.tup [.int .u64 (n:Int),.v .nilIface]) []):=by have:=O8 l hl;rw [It h]at this;exact this
theorem S7 (l:ag)(hl:l.length≤19)(h:EC 10 l=none):Fn Tryz.prog 238 [.str l,.n9 10,.n9 64] [] (Rt (.tup [.int .u64 0,.v (.iface 280 (.int .i64 2))]) []):=by have:=O8 l hl;rw [C5 h]at this;exact this
theorem O9 (l:ag) (hl:l.length≤16):Fn Tryz.prog 238 [.str l,.n9 16,.n9 64] [] (Rt (jB 16 l) []):=
 AR (n :=172) (by kernel_rfl) Tryz.func238 U U U fun G w a h0 A=>N9 13 A U U fun A=>AV 19 A U
  (fun h1 A=>N9 3 A U U fun A=>Af A U (L6 U U U U (by kernel_rfl)) fun A=>N9 5 A U U fun A=>R9 A U h0 U (by rw [C5 (R4 h1)];rfl) U)
  (fun h1 A =>N9 7 A U U fun A=>have A:=AG A 22 (.ff) U (fun _=>congrArg (fun b=>some (Value.bool b)) (show(16==0)=false by decide));N9 19 A U U fun A=>have A:=AG A 31 (.tt) U (fun _=>congrArg (fun b=>some (Value.bool b)) (show((decide (2≤16))&&(decide (16≤36)))=true by decide));N9 14 A U U fun A=>AV 77 A U
   (fun h2 A=>absurd h2 (by decide))
   (fun h2 A=>N9 9 A U U fun A=>have A:=AG A 83 (.ff) U (fun _=>congrArg (fun b=>some (Value.bool b)) (show((decide (64<0))||(decide (64>64)))=false by decide));N9 23 A U U fun A=>AV 90 A U
    (fun h3 A=>absurd h3 (by decide))
    (fun h3 A=>N9 7 A U U fun A=>AV 92 A U
     (fun h4 A=>N9 10 A U U fun A=>have A:=AG A 95 (.int .u64 64) U (Bf (show IntKind.wrap .u64 64=64 by decide));N9 1 A U (AE (by omega)<|AB) fun A=>have A:=AG A 96 (.int .u64 0) U (Bf (show IntKind.wrap .u64 (1*2^min (64:Int).toNat (IntKind.bits .u64))=0 by decide));N9 1 A U U fun A=>have A:=AG A 97 (.int .u64 18446744073709551615) U (Bf (show IntKind.wrap .u64 (0 - 1)=18446744073709551615 by decide));N9 17 A U U fun A=>Af A U (Up (i:=0) (e:=5) U U U (by kernel_rfl) (by kernel_rfl) (by kernel_rfl) U) fun A=>N9 5 A U U fun A=>Bq (fun(j:Nat)=>[(1,.n9 16),(6,.int .u64 0),(7,.v .nilIface),(8,.ff),(9,.str l),(10,.int .u64 1152921504606846976),(11,.int .u64 18446744073709551615),(12,.ff),(13,.int .u64 ((nv 16 (l.take j):Nat):Int)),(99,.sl 0 l.length 0),(100,.n9 ((l.length:Nat):Int)),(101,.n9 (j:Int))]) (fun(j:Nat)=>[some (.lst 1 l.length (fun k=>[.int .u8 (((l.getD k 0).toNat:Nat):Int)]))]) (fun(j:Nat)=>NI 16 l j) (fun(j:Nat)=>l.length - j) 0 ⟨β7 _,rfl⟩ ((A.cut [1,6,7,8,9,10,11,12,13,99,100,101] U).trunc 1 U U U (CL h0 U)) fun j hI {G a w} A=>N9 6 A U U fun A=>AU 102 A U
       (fun h5 A=>N9 13 A U (AE (by have:=hI.le;omega)<|AE (by have:=hI.le;omega)<|AB) fun A=>N9 13 A U U fun A=>have A:=AG A 111 (.ff) U (fun _=>congrArg (fun b=>some (Value.bool b)) (show(bif (((l.getD (((j:Int)).toNat) 0).toNat:Nat):Int)==95 then false else false)=false by simp));N9 15 A U U fun A=>fork 112 A U
        (fun h6 A=>N9 4 A U U fun A=>have A:=AG A 120 (.int .u8 ((dv (l.getD (((j:Int)).toNat) 0):Nat):Int)) U (Bf (show IntKind.wrap .u8 ((((l.getD (((j:Int)).toNat) 0).toNat:Nat):Int) - 48)=((dv (l.getD (((j:Int)).toNat) 0):Nat):Int) by have h:=h6;simp only [α3,δ4]at h;rw [VZ (by omega) (by omega),K6 (by omega) (by omega)];omega));N9 10 A U U fun A=>have A:=AG A 136 (.int .u8 16) U (Bf (show IntKind.wrap .u8 16=16 by decide));N9 3 A U U fun A=>AU 137 A U
         (fun h7 A=>N9 3 A U U fun A=>Af A U (L6 U U U U (by kernel_rfl)) fun A=>N9 5 A U U fun A=>R9 A U h0 U (by rw [C5 (E9 (Cz h5) (by have:=h7;omega))];rfl) U)
         (fun h7 A=>N9 11 A U U fun A=>AU 141 A U
          (fun h8 A=>absurd h8 (by have hp:=Jz hI.al;have hle:=hI.le;have hj:=h5;omega))
          (fun h8 A=>N9 8 A U U fun A=>have A:=AG A 146 (.int .u64 16) U (Bf (show IntKind.wrap .u64 16=16 by decide));N9 1 A U U fun A=>have A:=AG A 147 (.int .u64 (((nv 16 (l.take j):Nat):Int)*16)) U (Bf (show IntKind.wrap .u64 (((nv 16 (l.take j):Nat):Int)*16)=((nv 16 (l.take j):Nat):Int)*16 by have hp:=Jz hI.al;have hle:=hI.le;have hj:=h5;exact wrap64 (by omega) (by omega)));N9 8 A U U fun A=>have A:=AG A 150 (.int .u64 ((dv (l.getD (((j:Int)).toNat) 0):Nat):Int)) U (Bf (show IntKind.wrap .u64 ((dv (l.getD (((j:Int)).toNat) 0):Nat):Int)=((dv (l.getD (((j:Int)).toNat) 0):Nat):Int) by have:=h7;exact wrap64 (by omega) (by omega)));N9 1 A U U fun A=>have A:=AG A 151 (.int .u64 ((nv 16 (l.take (j+1)):Nat):Int)) U (Bf (show IntKind.wrap .u64 ((((nv 16 (l.take j):Nat):Int)*16)+((dv (l.getD (((j:Int)).toNat) 0):Nat):Int))=((nv 16 (l.take (j+1)):Nat):Int) by have hp:=Jz hI.al;have hle:=hI.le;have hj:=h5;have hd:dv (l.getD (((j:Int)).toNat) 0)<16:=(by have:=h7;omega);rw [Is (Cz hj)];have e0:(((j:Int)).toNat)=((j:Int)).toNat:=rfl;rw [wrap64 (by omega) (by omega)];omega));N9 14 A U U fun A=>have A:=AG A 159 (.ff) U (fun _=>congrArg (fun b=>some (Value.bool b)) (show((decide (((nv 16 (l.take (j+1)):Nat):Int)<(((nv 16 (l.take j):Nat):Int)*16)))||(decide (((nv 16 (l.take (j+1)):Nat):Int)>18446744073709551615)))=false by have hp:=Jz hI.al;have hle:=hI.le;have hj:=h5;have hd:dv (l.getD (((j:Int)).toNat) 0)<16:=(by have:=h7;omega);have hg:=Is (bs:=16) (Cz hj);rw [ξ8];intro hc;simp only [β9,δ4]at hc;omega));N9 15 A U (AE (by have:=hI.le;omega)<|AB) fun A=>⟨j+1,_,(by omega),⟨by have:=hI.le;omega,Nt (Cz h5) hI.al (by have:=h7;omega)⟩,((A.cut [1,6,7,8,9,10,11,12,13,99,100,101] U).trunc 1 U U U (CL h0 U))⟩)))
        (fun h6 A=>N9 4 A U U fun A=>C9 [] (Mm (l.getD (((j:Int)).toNat) 0)) A U fun A=>N9 2 A U U fun A=>AU 125 A U
         (fun h9 A=>N9 1 A U U fun A=>C9 [] (Mm (l.getD (((j:Int)).toNat) 0)) A U fun A=>N9 5 A U U fun A=>AU 121 A U
          (fun GG A=>N9 3 A U U fun A=>C9 [] (Mm (l.getD (((j:Int)).toNat) 0)) A U fun A=>N9 2 A U U fun A=>have A:=AG A 133 (.int .u8 ((dv (l.getD (((j:Int)).toNat) 0):Nat):Int)) U (Bf (show IntKind.wrap .u8 ((IntKind.wrap .u8 (((G5 (l.getD (((j:Int)).toNat) 0):Nat):Int) - 97))+10)=((dv (l.getD (((j:Int)).toNat) 0):Nat):Int) by have h:=h6;simp only [κ3,ζ1]at h;have h2:=h9;have h3:=GG;rw [Va (by omega) (by omega) (by omega),K6 (n:=((G5 (l.getD (((j:Int)).toNat) 0):Nat):Int) - 97) (by omega) (by omega),K6 (by omega) (by omega)];omega));N9 10 A U U fun A=>have A:=AG A 136 (.int .u8 16) U (Bf (show IntKind.wrap .u8 16=16 by decide));N9 3 A U U fun A=>AU 137 A U
           (fun Fq A=>N9 3 A U U fun A=>Af A U (L6 U U U U (by kernel_rfl)) fun A=>N9 5 A U U fun A=>R9 A U h0 U (by rw [C5 (E9 (Cz h5) (by have:=Fq;omega))];rfl) U)
           (fun Fq A=>N9 11 A U U fun A=>AU 141 A U
            (fun OC A=>absurd OC (by have hp:=Jz hI.al;have hle:=hI.le;have hj:=h5;omega))
            (fun OC A=>N9 8 A U U fun A=>have A:=AG A 146 (.int .u64 16) U (Bf (show IntKind.wrap .u64 16=16 by decide));N9 1 A U U fun A=>have A:=AG A 147 (.int .u64 (((nv 16 (l.take j):Nat):Int)*16)) U (Bf (show IntKind.wrap .u64 (((nv 16 (l.take j):Nat):Int)*16)=((nv 16 (l.take j):Nat):Int)*16 by have hp:=Jz hI.al;have hle:=hI.le;have hj:=h5;exact wrap64 (by omega) (by omega)));N9 8 A U U fun A=>have A:=AG A 150 (.int .u64 ((dv (l.getD (((j:Int)).toNat) 0):Nat):Int)) U (Bf (show IntKind.wrap .u64 ((dv (l.getD (((j:Int)).toNat) 0):Nat):Int)=((dv (l.getD (((j:Int)).toNat) 0):Nat):Int) by have:=Fq;exact wrap64 (by omega) (by omega)));N9 1 A U U fun A=>have A:=AG A 151 (.int .u64 ((nv 16 (l.take (j+1)):Nat):Int)) U (Bf (show IntKind.wrap .u64 ((((nv 16 (l.take j):Nat):Int)*16)+((dv (l.getD (((j:Int)).toNat) 0):Nat):Int))=((nv 16 (l.take (j+1)):Nat):Int) by have hp:=Jz hI.al;have hle:=hI.le;have hj:=h5;have hd:dv (l.getD (((j:Int)).toNat) 0)<16:=(by have:=Fq;omega);rw [Is (Cz hj)];have e0:(((j:Int)).toNat)=((j:Int)).toNat:=rfl;rw [wrap64 (by omega) (by omega)];omega));N9 14 A U U fun A=>have A:=AG A 159 (.ff) U (fun _=>congrArg (fun b=>some (Value.bool b)) (show((decide (((nv 16 (l.take (j+1)):Nat):Int)<(((nv 16 (l.take j):Nat):Int)*16)))||(decide (((nv 16 (l.take (j+1)):Nat):Int)>18446744073709551615)))=false by have hp:=Jz hI.al;have hle:=hI.le;have hj:=h5;have hd:dv (l.getD (((j:Int)).toNat) 0)<16:=(by have:=Fq;omega);have hg:=Is (bs:=16) (Cz hj);rw [ξ8];intro hc;simp only [β9,δ4]at hc;omega));N9 15 A U (AE (by have:=hI.le;omega)<|AB) fun A=>⟨j+1,_,(by omega),⟨by have:=hI.le;omega,Nt (Cz h5) hI.al (by have:=Fq;omega)⟩,((A.cut [1,6,7,8,9,10,11,12,13,99,100,101] U).trunc 1 U U U (CL h0 U))⟩)))
          (fun GG A=>N9 3 A U U fun A=>Af A U (L6 U U U U (by kernel_rfl)) fun A=>N9 5 A U U fun A=>R9 A U h0 U (by rw [C5 (E9 (Cz h5) (by have h:=h6;simp only [κ3,ζ1]at h;have h0:=h9;have h1:=GG;rw [Nr (by omega) (by omega)];omega))];rfl) U))
         (fun h9 A=>N9 10 A U U fun A=>Af A U (L6 U U U U (by kernel_rfl)) fun A=>N9 5 A U U fun A=>R9 A U h0 U (by rw [C5 (E9 (Cz h5) (by have h:=h6;simp only [κ3,ζ1]at h;have h0:=h9;rw [Nr (by omega) (by omega)];omega))];rfl) U)))
       (fun h5 A=>N9 25 A U U fun A=>R9 A U h0 U (by rw [It (R5 h1 hI.al (by have:=h5;omega))];rfl) U))
     (fun h4 A=>absurd U h4))))
theorem S8 (l:ag)(n:Nat)(hl:l.length≤16)(h:EC 16 l=some n):Fn Tryz.prog 238 [.str l,.n9 16,.n9 64] [] (Rt (.tup [.int .u64 (n:Int),.v .nilIface]) []):=by have:=O9 l hl;rw [It h]at this;exact this
theorem S9 (l:ag)(hl:l.length≤16)(h:EC 16 l=none):Fn Tryz.prog 238 [.str l,.n9 16,.n9 64] [] (Rt (.tup [.int .u64 0,.v (.iface 280 (.int .i64 2))]) []):=by have:=O9 l hl;rw [C5 h]at this;exact this
end
section
open Go.Shelf Go.RowKit
def QJ:Go.Shelf.Ren:=⟨fun|14=>205|16=>238|17=>239|19=>266|20=>267|21=>268|22=>269|23=>270|24=>271|25=>287|27=>125|26=>288|28=>167|29=>208|30=>210|31=>211|32=>212|33=>213|35=>241|34=>240|36=>242|37=>243|38=>179|39=>214|40=>215|n=>n,fun|9=>9|3=>3|22=>185|24=>215|25=>216|4=>4|34=>280|5=>5|36=>188|37=>152|0=>0|39=>282|21=>21|44=>298|47=>277|50=>308|48=>306|2=>2|52=>220|55=>223|59=>260|60=>226|20=>20|61=>261|65=>262|66=>263|67=>50|n=>n,fun|0=>4|1=>5|2=>1|3=>2|4=>3|n=>n⟩
theorem eA:Go.Proofs.LaysPu.n14 Tryz.prog QJ:={
 mixed:=by kernel_rfl
 f14:=Tryz.func205.trans (congrArg some (by kernel_rfl))
 f16:=Tryz.func238.trans (congrArg some (by kernel_rfl))
 f17:=Tryz.func239.trans (congrArg some (by kernel_rfl))
 f19:=Tryz.func266.trans (congrArg some (by kernel_rfl))
 f20:=Tryz.func267.trans (congrArg some (by kernel_rfl))
 f21:=Tryz.func268.trans (congrArg some (by kernel_rfl))
 f22:=Tryz.func269.trans (congrArg some (by kernel_rfl))
 f23:=Tryz.func270.trans (congrArg some (by kernel_rfl))
 f24:=Tryz.func271.trans (congrArg some (by kernel_rfl))
 f25:=Tryz.func287.trans (congrArg some (by kernel_rfl))
 f26:=Tryz.func288.trans (congrArg some (by kernel_rfl))
 f27:=Tryz.func125.trans (congrArg some (by kernel_rfl))
 f28:=Tryz.func167.trans (congrArg some (by kernel_rfl))
 f29:=Tryz.func208.trans (congrArg some (by kernel_rfl))
 f30:=Tryz.func210.trans (congrArg some (by kernel_rfl))
 f31:=Tryz.func211.trans (congrArg some (by kernel_rfl))
 f32:=Tryz.func212.trans (congrArg some (by kernel_rfl))
 f33:=Tryz.func213.trans (congrArg some (by kernel_rfl))
 f34:=Tryz.func240.trans (congrArg some (by kernel_rfl))
 f35:=Tryz.func241.trans (congrArg some (by kernel_rfl))
 f36:=Tryz.func242.trans (congrArg some (by kernel_rfl))
 f37:=Tryz.func243.trans (congrArg some (by kernel_rfl))
 f38:=Tryz.func179.trans (congrArg some (by kernel_rfl))
 f39:=Tryz.func214.trans (congrArg some (by kernel_rfl))
 f40:=Tryz.func215.trans (congrArg some (by kernel_rfl))
 t0:=Tryz.underlying0
 a0:=Tryz.isAgg0
 z0:=Tryz.sizeOf0
 v0:=Tryz.zeroValue0
 i0:=by kernel_rfl
 t2:=Tryz.underlying2
 a2:=Tryz.isAgg2
 z2:=Tryz.sizeOf2
 v2:=Tryz.zeroValue2
 i2:=by kernel_rfl
 t3:=Tryz.underlying3
 a3:=Tryz.isAgg3
 z3:=Tryz.sizeOf3
 v3:=Tryz.zeroValue3
 i3:=by kernel_rfl
 t4:=Tryz.underlying4
 a4:=Tryz.isAgg4
 z4:=Tryz.sizeOf4
 v4:=Tryz.zeroValue4
 i4:=by kernel_rfl
 t5:=Tryz.underlying5
 a5:=Tryz.isAgg5
 z5:=Tryz.sizeOf5
 v5:=Tryz.zeroValue5
 i5:=by kernel_rfl
 t9:=Tryz.underlying9
 a9:=Tryz.isAgg9
 z9:=Tryz.sizeOf9
 v9:=Tryz.zeroValue9
 i9:=by kernel_rfl
 t20:=Tryz.underlying20
 a20:=Tryz.isAgg20
 z20:=Tryz.sizeOf20
 v20:=Tryz.zeroValue20
 i20:=by kernel_rfl
 t21:=Tryz.underlying21
 a21:=Tryz.isAgg21
 z21:=Tryz.sizeOf21
 v21:=Tryz.zeroValue21
 i21:=by kernel_rfl
 t22:=Tryz.underlying185
 a22:=Tryz.isAgg185
 z22:=Tryz.sizeOf185
 v22:=Tryz.zeroValue185
 i22:=by kernel_rfl
 t24:=Tryz.underlying215
 a24:=Tryz.isAgg215
 z24:=Tryz.sizeOf215
 v24:=Tryz.zeroValue215
 i24:=by kernel_rfl
 t25:=Tryz.underlying216
 a25:=Tryz.isAgg216
 z25:=Tryz.sizeOf216
 v25:=Tryz.zeroValue216
 i25:=by kernel_rfl
 t34:=Tryz.underlying280
 a34:=Tryz.isAgg280
 z34:=Tryz.sizeOf280
 v34:=Tryz.zeroValue280
 i34:=by kernel_rfl
 c34:=by kernel_rfl
 t36:=Tryz.underlying188
 a36:=Tryz.isAgg188
 z36:=Tryz.sizeOf188
 v36:=Tryz.zeroValue188
 i36:=by kernel_rfl
 t37:=Tryz.underlying152
 a37:=Tryz.isAgg152
 z37:=Tryz.sizeOf152
 v37:=Tryz.zeroValue152
 i37:=by kernel_rfl
 t39:=Tryz.underlying282
 a39:=Tryz.isAgg282
 z39:=Tryz.sizeOf282
 v39:=Tryz.zeroValue282
 i39:=by kernel_rfl
 t44:=Tryz.underlying298
 a44:=Tryz.isAgg298
 z44:=Tryz.sizeOf298
 v44:=Tryz.zeroValue298
 i44:=by kernel_rfl
 t47:=Tryz.underlying277
 a47:=Tryz.isAgg277
 z47:=Tryz.sizeOf277
 v47:=Tryz.zeroValue277
 i47:=by kernel_rfl
 t48:=Tryz.underlying306
 a48:=Tryz.isAgg306
 z48:=Tryz.sizeOf306
 v48:=Tryz.zeroValue306
 i48:=by kernel_rfl
 t50:=Tryz.underlying308
 a50:=Tryz.isAgg308
 z50:=Tryz.sizeOf308
 v50:=Tryz.zeroValue308
 i50:=by kernel_rfl
 t52:=Tryz.underlying220
 a52:=Tryz.isAgg220
 z52:=Tryz.sizeOf220
 v52:=Tryz.zeroValue220
 i52:=by kernel_rfl
 t55:=Tryz.underlying223
 a55:=Tryz.isAgg223
 z55:=Tryz.sizeOf223
 v55:=Tryz.zeroValue223
 i55:=by kernel_rfl
 t59:=Tryz.underlying260
 a59:=Tryz.isAgg260
 z59:=Tryz.sizeOf260
 v59:=Tryz.zeroValue260
 i59:=by kernel_rfl
 t60:=Tryz.underlying226
 a60:=Tryz.isAgg226
 z60:=Tryz.sizeOf226
 v60:=Tryz.zeroValue226
 i60:=by kernel_rfl
 t61:=Tryz.underlying261
 a61:=Tryz.isAgg261
 z61:=Tryz.sizeOf261
 t65:=Tryz.underlying262
 a65:=Tryz.isAgg262
 z65:=Tryz.sizeOf262
 v65:=Tryz.zeroValue262
 i65:=by kernel_rfl
 t66:=Tryz.underlying263
 a66:=Tryz.isAgg263
 z66:=Tryz.sizeOf263
 v66:=Tryz.zeroValue263
 i66:=by kernel_rfl
 t67:=Tryz.underlying50
 a67:=Tryz.isAgg50
 z67:=Tryz.sizeOf50
 v67:=Tryz.zeroValue50
 i67:=by kernel_rfl
 g0:=by kernel_rfl
 m0:=by kernel_rfl
 g1:=by kernel_rfl
 m1:=by kernel_rfl
 g2:=by kernel_rfl
 m2:=by kernel_rfl
 g3:=by kernel_rfl
 m3:=by kernel_rfl
 g4:=by kernel_rfl
 m4:=by kernel_rfl}
theorem PA (fn l:ag)(base bits:Int)(ev:Value)(w:World)(hl:l.length≤19)(hv:w.cell? ⟨4,0,none⟩=some ev)(p6:ev=.nilIface∨∃te pe,ev=.iface te pe):
  Calls Tryz.prog 239 #[.string (S fn),.string (S l),.int .i64 base,.int .i64 bits,.iface 280 (.int .i64 2)] w fun e w'=>(∃N,e=.returned (.iface 282 (.pointer (some ⟨N,0,none⟩))))∧By w w':=by
 refine(AnyPu.strconv_toError_syntax {eA with} (S fn) (S l) base bits ev w (by rw [DT];omega) hv p6).mono ?_
 rintro e w' ⟨N,he,_,_,hb⟩
 exact⟨⟨N,he⟩,hb⟩
end
section
open Go.RowKit
set_option simprocs false
abbrev _root_.Go.Proofs.YtbbdanhpphlbpaaGreatDoor.Mn (os:List (Nat×Obj)):Prop:=∀w ks,Gl os w ks→∃ev,w.cell? ⟨4,0,none⟩=some ev∧(ev=.nilIface∨∃te pe,ev=.iface te pe)
theorem Vc (fn l:ag)(base bits:Int)(os:List (Nat×Obj))(hE:Mn os)(hl:l.length≤19):i6 (Gl os) Tryz.prog 239 [.str fn,.str l,.n9 base,.n9 bits,.v (.iface 280 (.int .i64 2))] (fun x=>∃pN,x=.v (.iface 282 (.pointer (some ⟨pN,0,none⟩)))):=by
 refine⟨by kernel_rfl,fun w ks vs hv hI=>?_⟩
 cases hv
 obtain⟨ev,h1,h2⟩:=hE w ks hI
 refine(PA fn l base bits ev w hl h1 h2).mono ?_
 rintro e w' ⟨⟨pN,rfl⟩,hg⟩
 exact⟨_,_,⟨pN,rfl⟩,rfl,rfl,hg⟩
theorem eB (l:ag)(n:Nat)(hl:l.length≤19)(hv:EC 10 l=some n):Fn Tryz.prog 205 [.str l,.n9 10,.n9 64] [] (Rt (.tup [.int .u64 (n:Int),.v .nilIface]) []):=
 AR (n:=26) (by kernel_rfl) Tryz.func205 U U U fun G w a h0 A=>N9 11 A U U fun A=>C9 [] (S6 l n hl hv) A U fun A=>N9 11 A U U fun A=>Af A U (NX U U U U (by kernel_rfl)) fun A=>N9 13 A U U fun A=>R9 A U h0 U U U
theorem eC (l:ag)(os:List (Nat×Obj))(hE:Mn os)(hl:l.length≤19)(hv:EC 10 l=none):i6 (Gl os) Tryz.prog 205 [.str l,.n9 10,.n9 64] (fun x=>∃pN,x=.tup [.int .u64 0,.v (.iface 282 (.pointer (some ⟨pN,0,none⟩)))]):=
 Uq Gl.ok (n:=26) (by kernel_rfl) Tryz.func205 U U U fun w a hI A=>N9 11 A U U fun A=>C9 [] (S7 l hl hv) A U fun A=>N9 11 A U U fun A=>Af A U (RY U U U U (by kernel_rfl)) fun A=>N9 10 A U U fun A=>RZ (fun pN=>.v (.iface 282 (.pointer (some ⟨pN,0,none⟩)))) Gl.ok hI (Vc [80,97,114,115,101,85,105,110,116] l 10 64 os hE (by omega)) A U U fun pN=>fun A=>N9 5 A U U fun A=>kV (J:=fun x=>∃pN,x=.tup [.int .u64 0,.v (.iface 282 (.pointer (some ⟨pN,0,none⟩)))]) hX A U U U U ⟨pN,rfl⟩
theorem eD (l:ag)(n:Nat)(hl:l.length≤16)(hv:EC 16 l=some n):Fn Tryz.prog 205 [.str l,.n9 16,.n9 64] [] (Rt (.tup [.int .u64 (n:Int),.v .nilIface]) []):=
 AR (n:=26) (by kernel_rfl) Tryz.func205 U U U fun G w a h0 A=>N9 11 A U U fun A=>C9 [] (S8 l n hl hv) A U fun A=>N9 11 A U U fun A=>Af A U (NX U U U U (by kernel_rfl)) fun A=>N9 13 A U U fun A=>R9 A U h0 U U U
theorem eE (l:ag)(os:List (Nat×Obj))(hE:Mn os)(hl:l.length≤16)(hv:EC 16 l=none):i6 (Gl os) Tryz.prog 205 [.str l,.n9 16,.n9 64] (fun x=>∃pN,x=.tup [.int .u64 0,.v (.iface 282 (.pointer (some ⟨pN,0,none⟩)))]):=
 Uq Gl.ok (n:=26) (by kernel_rfl) Tryz.func205 U U U fun w a hI A=>N9 11 A U U fun A=>C9 [] (S9 l hl hv) A U fun A=>N9 11 A U U fun A=>Af A U (RY U U U U (by kernel_rfl)) fun A=>N9 10 A U U fun A=>RZ (fun pN=>.v (.iface 282 (.pointer (some ⟨pN,0,none⟩)))) Gl.ok hI (Vc [80,97,114,115,101,85,105,110,116] l 16 64 os hE (by omega)) A U U fun pN=>fun A=>N9 5 A U U fun A=>kV (J:=fun x=>∃pN,x=.tup [.int .u64 0,.v (.iface 282 (.pointer (some ⟨pN,0,none⟩)))]) hX A U U U U ⟨pN,rfl⟩
end
section
structure Tk where
 kind:Int
 text:List UInt8
 n:Int
 at_:Int
def CR:Tk:=⟨0,[],0,0⟩
def fits (o:Option Nat):Option Int:=match o with|some n=>if n>9223372036854775808 then none else some (IntKind.wrap .i64 (n:Int))|none=>none
def ED (l:ag):Option Int:=
 if preB l [48,120]then(if(Ir l [48,120]).length>16 then none else fits (EC 16 (Ir l [48,120])))else(if l.length>19 then none else fits (EC 10 l))
section
variable {l:ag}{n:Nat}
theorem TA (h:preB l [48,120]=true)(hl:(Ir l [48,120]).length>16):ED l=none:=by unfold ED;rw [if_pos h,if_pos hl]
theorem TC (h:preB l [48,120]=false)(hl:l.length>19):ED l=none:=by unfold ED;rw [if_neg (by simp [h]),if_pos hl]
theorem TD (h:preB l [48,120]=true)(hv:EC 16 (Ir l [48,120])=none):ED l=none:=by unfold ED;rw [if_pos h,hv];simp [fits]
theorem TE (h:preB l [48,120]=false)(hv:EC 10 l=none):ED l=none:=by unfold ED;rw [if_neg (by simp [h]),hv];simp [fits]
theorem Vd (h:preB l [48,120]=true)(hv:EC 16 (Ir l [48,120])=some n)(hn:n>9223372036854775808):ED l=none:=by unfold ED;rw [if_pos h,hv];simp [fits,hn]
theorem Ve (h:preB l [48,120]=false)(hv:EC 10 l=some n)(hn:n>9223372036854775808):ED l=none:=by unfold ED;rw [if_neg (by simp [h]),hv];simp [fits,hn]
theorem YR (h:preB l [48,120]=true)(hl:(Ir l [48,120]).length≤16)(hv:EC 16 (Ir l [48,120])=some n)(hn:n≤9223372036854775808):ED l=some (IntKind.wrap .i64 (n:Int)):=by
 unfold ED;rw [if_pos h,if_neg (by omega),hv];simp only [fits];rw [if_neg (by omega)]
theorem YS (h:preB l [48,120]=false)(hl:l.length≤19)(hv:EC 10 l=some n)(hn:n≤9223372036854775808):ED l=some (IntKind.wrap .i64 (n:Int)):=by
 unfold ED;rw [if_neg (by simp [h]),if_neg (by omega),hv];simp only [fits];rw [if_neg (by omega)]
end
end
section
open Go.RowKit
set_option simprocs false
def nk (l:ag):Int:=match ED l with|some _=>2|none=>0
def nt (l:ag):List UInt8:=match ED l with|some _=>l|none=>[]
def nn (l:ag):Int:=match ED l with|some n=>n|none=>0
def mI (l:ag):Int:=match ED l with|some _=>0|none=>23
theorem H5 {l:ag}(h:ED l=none):nk l=0∧nt l=[]∧nn l=0∧mI l=23:=by unfold nk nt nn mI;rw [h];exact⟨rfl,rfl,rfl,rfl⟩
theorem QK {l:ag}{n:Int}(h:ED l=some n):nk l=2∧nt l=l∧nn l=n∧mI l=0:=by unfold nk nt nn mI;rw [h];exact⟨rfl,rfl,rfl,rfl⟩
theorem YT (l:ag)(os:List (Nat×Obj))(hE:Mn os)(hlen:l.length≤8192):BQ (Gl os) Tryz.prog 154 [.str l] [] (Rt (.tup [.agg [.n9 (nk l),.str (nt l),.n9 (nn l),.z9],.n9 (mI l)]) []):=
 Aa (n:=41) (by kernel_rfl) Tryz.func154 U U U fun G w a h0 hI A=>N9 18 A U U fun A=>C9 [] (mG l [48,120]) A U fun A=>N9 12 A U U fun A=>fork 17 A U
  (fun h1 A=>N9 17 A U U fun A=>AU 22 A U
   (fun h2 A=>N9 9 A U U fun A=>R9 A U h0 U (by obtain⟨e1,e2,e3,e4⟩:=H5 (TA h1 (by have:=h2;omega));rw [e1,e2,e3,e4];rfl) U)
   (fun h2 A=>N9 7 A U U fun A=>kT (EC 16 (Ir l [48,120]))
    (fun hv=>RZ (fun pN=>.tup [.int .u64 0,.v (.iface 282 (.pointer (some ⟨pN,0,none⟩)))]) Gl.ok hI (eE (Ir l [48,120]) os hE (by have:=h2;omega) hv) A U U fun pN=>fun A=>N9 11 A U U fun A=>Af A U (RY U U U U (by kernel_rfl)) fun A=>N9 15 A U U fun A=>R9 A U h0 U (by obtain⟨e1,e2,e3,e4⟩:=H5 (TD h1 hv);rw [e1,e2,e3,e4];rfl) U)
    (fun n hv=>C9 [] (eD (Ir l [48,120]) n (by have:=h2;omega) hv) A U fun A=>N9 11 A U U fun A=>Af A U (NX U U U U (by kernel_rfl)) fun A=>N9 6 A U U fun A=>AU 35 A U
     (fun h3 A=>N9 9 A U U fun A=>R9 A U h0 U (by obtain⟨e1,e2,e3,e4⟩:=H5 (Vd h1 hv (by have:=h3;omega));rw [e1,e2,e3,e4];rfl) U)
     (fun h3 A=>N9 14 A U U fun A=>R9 A U h0 U (by obtain⟨e1,e2,e3,e4⟩:=QK (YR h1 (by have:=h2;omega) hv (by have:=h3;omega));rw [e1,e2,e3,e4];rfl) U))))
  (fun h1 A=>N9 12 A U U fun A=>AU 22 A U
   (fun h4 A=>N9 9 A U U fun A=>R9 A U h0 U (by obtain⟨e1,e2,e3,e4⟩:=H5 (TC h1 (by have:=h4;omega));rw [e1,e2,e3,e4];rfl) U)
   (fun h4 A=>N9 7 A U U fun A=>kT (EC 10 l)
    (fun hv=>RZ (fun pN=>.tup [.int .u64 0,.v (.iface 282 (.pointer (some ⟨pN,0,none⟩)))]) Gl.ok hI (eC l os hE (by have:=h4;omega) hv) A U U fun pN=>fun A=>N9 11 A U U fun A=>Af A U (RY U U U U (by kernel_rfl)) fun A=>N9 15 A U U fun A=>R9 A U h0 U (by obtain⟨e1,e2,e3,e4⟩:=H5 (TE h1 hv);rw [e1,e2,e3,e4];rfl) U)
    (fun n hv=>C9 [] (eB l n (by have:=h4;omega) hv) A U fun A=>N9 11 A U U fun A=>Af A U (NX U U U U (by kernel_rfl)) fun A=>N9 6 A U U fun A=>AU 35 A U
     (fun h5 A=>N9 9 A U U fun A=>R9 A U h0 U (by obtain⟨e1,e2,e3,e4⟩:=H5 (Ve h1 hv (by have:=h5;omega));rw [e1,e2,e3,e4];rfl) U)
     (fun h5 A=>N9 14 A U U fun A=>R9 A U h0 U (by obtain⟨e1,e2,e3,e4⟩:=QK (YS h1 (by have:=h4;omega) hv (by have:=h5;omega));rw [e1,e2,e3,e4];rfl) U))))
end
section
theorem H6 {l:ag}(h:0<l.length):O7 l≤l.length:=by
 unfold O7
 split
 ·next h1=>
  rw [β9]at h1
  rcases h1 with h1|h1
  ·exact ET h1
  ·exact ET h1
 ·split<;>split<;>omega
def Ap (l:ag):Tk×Int:=
 match l[0]? with
 |none=>(CR,20)
 |some b=>
  if Hz b then(match ED (l.take (rn ES l))with|some n=>(⟨2,l.take (rn ES l),n,0⟩,0)|none=>(CR,23))
  else if KD b then(⟨1,l.take (rn GQ l),0,0⟩,0)
  else if O7 l>0 then(⟨3,l.take (O7 l),0,0⟩,0)else(CR,20)
section
variable {l:ag}{b:UInt8}
theorem Mo {n:Int}(hb:l[0]?=some b)(h:Hz b=true)(hn:ED (l.take (rn ES l))=some n):Ap l=(⟨2,l.take (rn ES l),n,0⟩,0):=by unfold Ap;simp [hb,h,hn]
theorem Mp (hb:l[0]?=some b)(h:Hz b=true)(hn:ED (l.take (rn ES l))=none):Ap l=(CR,23):=by unfold Ap;simp [hb,h,hn]
theorem LO (hb:l[0]?=some b)(h:Hz b=false)(h2:KD b=true):Ap l=(⟨1,l.take (rn GQ l),0,0⟩,0):=by unfold Ap;simp [hb,h,h2]
theorem LP (hb:l[0]?=some b)(h:Hz b=false)(h2:KD b=false)(h3:O7 l>0):Ap l=(⟨3,l.take (O7 l),0,0⟩,0):=by unfold Ap;simp [hb,h,h2,h3]
theorem LQ (hb:l[0]?=some b)(h:Hz b=false)(h2:KD b=false)(h3:¬O7 l>0):Ap l=(CR,20):=by unfold Ap;simp [hb,h,h2,h3]
end
end
section
open Go.RowKit
set_option simprocs false
theorem eF (l:ag)(os:List (Nat×Obj))(hE:Mn os)(hl:0<l.length)(hlen:l.length≤8192):BQ (Gl os) Tryz.prog 119 [.str l] [] (Rt (.tup [.agg [.n9 ((Ap l).1.kind),.str ((Ap l).1.text),.n9 ((Ap l).1.n),.n9 ((Ap l).1.at_)],.n9 ((Ap l).2)]) []):=
 Aa (n:=35) (by kernel_rfl) Tryz.func119 U U U fun G w a h0 hI A=>N9 16 A U (AE (by have h1:=Ew ES l;have h2:=Ew GQ l;have h3:=H6 hl;(try simp only [δ6]);omega)<|AB) fun A=>N9 2 A U U fun A=>C9 [] (Sm (l.getD (0:Int).toNat 0)) A U fun A=>N9 3 A U U fun A=>fork 8 A U
  (fun h1 A=>N9 5 A U U fun A=>C9 [] (kK 156 ES l K4 (by omega)) A U fun A=>N9 1 A U (AE (by have h1:=Ew ES l;have h2:=Ew GQ l;have h3:=H6 hl;(try simp only [δ6]);omega)<|AB) fun A=>I9 [] Gl.ok hI (YT (l.take (((rn ES l:Nat):Int)).toNat) os hE (by have h1:=Ew ES l;have h2:=Ew GQ l;have h3:=H6 hl;(try simp only [δ6]);omega)) A U fun A=>N9 7 A U U fun A=>R9 A U h0 U (by cases hn:ED (l.take (rn ES l))with|none=>(obtain⟨e1,e2,e3,e4⟩:=H5 hn;rw [Mp (dV hl) h1 hn];simp only [α6,e1,e2,e3,e4];rfl)|some n=>(obtain⟨e1,e2,e3,e4⟩:=QK hn;rw [Mo (dV hl) h1 hn];simp only [α6,e1,e2,e3,e4];rfl)) U)
  (fun h1 A=>N9 4 A U U fun A=>C9 [] (Lz (l.getD (0:Int).toNat 0)) A U fun A=>N9 3 A U U fun A=>fork 18 A U
   (fun h2 A=>N9 5 A U U fun A=>C9 [] (kK 158 GQ l NT (by omega)) A U fun A=>N9 7 A U (AE (by have h1:=Ew ES l;have h2:=Ew GQ l;have h3:=H6 hl;(try simp only [δ6]);omega)<|AB) fun A=>R9 A U h0 U (by rw [LO (dV hl) h1 h2];rfl) U)
   (fun h2 A=>N9 8 A U U fun A=>C9 [] (dX l (by have h1:=Ew ES l;have h2:=Ew GQ l;have h3:=H6 hl;(try simp only [δ6]);omega)) A U fun A=>N9 9 A U U fun A=>AU 29 A U
    (fun h3 A=>N9 12 A U (AE (by have h1:=Ew ES l;have h2:=Ew GQ l;have h3:=H6 hl;(try simp only [δ6]);omega)<|AB) fun A=>R9 A U h0 U (by rw [LP (dV hl) h1 h2 (by have:=h3;omega)];rfl) U)
    (fun h3 A=>N9 11 A U U fun A=>R9 A U h0 U (by rw [LQ (dV hl) h1 h2 (by have:=h3;omega)];rfl) U)))
end
section
theorem R6 (l:ag):(Az l).1≤l.length:=by
 have go:∀n (l:ag),l.length≤n→(Az l).1≤l.length:=by
  intro n
  induction n with
  |zero=>intro l hl;obtain rfl:l=[]:=γ9 (Nat.le_zero.1 hl);rw [LL];simp
  | succ n ih=>
   intro l hl
   match l,hl with
   | [],_=>rw [LL];simp
   | b ::r,hl=>
    have h0:(b::r)[0]?=some b:=rfl
    rcases μ8 (HU b)with h1|h1
    ·have e:=LM h0 h1
     rw [ζ6]at e
     rw [e]
     have:=ih r (by simpa using hl)
     simp only [β0,δ1,List.drop_succ_cons,ζ6]
     omega
    ·rcases μ8 (preB (b::r) [40,42])with h2|h2
     ·by_cases h3:EB ((b::r).drop 2)<0
      ·have e:=Ml (n:=0) h0 h1 (by rw [ζ6];exact h2) (by rw [δ1];exact h3)
       rw [ζ6]at e;rw [e];simp
      ·have e:=Jx (n:=0) h0 h1 (by rw [ζ6];exact h2) (by rw [δ1];exact h3)
       rw [ζ6]at e;rw [e]
       simp only [δ1]
       have h4:=GA ((b::r).drop 2)
       have h5:=ih ((b::r).drop (2+(EB ((b::r).drop 2)).toNat+2)) (by rw [γ3];omega)
       rw [γ3]at h4 h5
       omega
     ·have e:=Mk (n:=0) h0 h1 (by rw [ζ6];exact h2)
      rw [ζ6]at e;rw [e];simp
 exact go l.length l (β8 _)
theorem Vf {p:UInt8→Bool}{l:ag}{b:UInt8}(hb:l[0]?=some b)(h:p b=true):0<rn p l:=by
 have:=Zf (p:=p) (n:=0) hb h
 rw [ζ6]at this;omega
theorem Mq {l:ag}(h:(Ap l).2=0):0<(Ap l).1.text.length∧(Ap l).1.text.length≤l.length:=by
 cases hb:l[0]? with
 |none=>unfold Ap at h;simp [hb]at h
 | some b=>
  have hl:0<l.length:=(α0.1 hb).1
  rcases μ8 (Hz b)with h1|h1
  ·cases hn:ED (l.take (rn ES l))with
   |none=>rw [Mp hb h1 hn]at h;simp at h
   |some n=>
    rw [Mo hb h1 hn]
    have h2:=Vf (p:=ES) hb (by unfold ES;rw [h1,ρ9])
    have h3:=Ew ES l
    simp only [δ6];omega
  ·rcases μ8 (KD b)with h2|h2
   ·rw [LO hb h1 h2]
    have h3:=Vf (p:=GQ) hb (by unfold GQ;rw [h2,Bool.true_or])
    have h4:=Ew GQ l
    simp only [δ6];omega
   ·by_cases h3:O7 l>0
    ·rw [LP hb h1 h2 h3]
     have h4:=H6 hl
     simp only [δ6];omega
    ·rw [LQ hb h1 h2 h3]at h;simp at h
def Ei:Nat→List UInt8→Nat→List Tk→List Tk×Int×Nat
 |0,_,_,_=>([],0,0)
 | f+1,l,a,ws=>
  if(Az (l.drop a)).2 then([],24,a+(Az (l.drop a)).1)
  else if a+(Az (l.drop a)).1=l.length then(ws,0,0)
  else if(Ap (l.drop (a+(Az (l.drop a)).1))).2=0 then
   Ei f l (a+(Az (l.drop a)).1+(Ap (l.drop (a+(Az (l.drop a)).1))).1.text.length) (ws++[{(Ap (l.drop (a+(Az (l.drop a)).1))).1 with at_:=((a+(Az (l.drop a)).1:Nat):Int)}])
  else([],(Ap (l.drop (a+(Az (l.drop a)).1))).2,a+(Az (l.drop a)).1)
def Bt (l:ag):List Tk×Int×Nat:=if l.length>8192 then([],2,0)else Ei (l.length+1) l 0 []
section
variable {f a:Nat}{l:ag}{ws:List Tk}
theorem Vg (h:(Az (l.drop a)).2=true):Ei (f+1) l a ws=([],24,a+(Az (l.drop a)).1):=by rw [Ei,if_pos h]
theorem Vh (h:(Az (l.drop a)).2=false)(h1:a+(Az (l.drop a)).1=l.length):Ei (f+1) l a ws=(ws,0,0):=by rw [Ei,if_neg (by simp [h]),if_pos h1]
theorem Vi (h:(Az (l.drop a)).2=false)(h1:¬a+(Az (l.drop a)).1=l.length)(h2:¬(Ap (l.drop (a+(Az (l.drop a)).1))).2=0):Ei (f+1) l a ws=([],(Ap (l.drop (a+(Az (l.drop a)).1))).2,a+(Az (l.drop a)).1):=by
 rw [Ei,if_neg (by simp [h]),if_neg h1,if_neg h2]
theorem Z3 (h:(Az (l.drop a)).2=false)(h1:¬a+(Az (l.drop a)).1=l.length)(h2:(Ap (l.drop (a+(Az (l.drop a)).1))).2=0):Ei (f+1) l a ws=Ei f l (a+(Az (l.drop a)).1+(Ap (l.drop (a+(Az (l.drop a)).1))).1.text.length) (ws++[{(Ap (l.drop (a+(Az (l.drop a)).1))).1 with at_:=((a+(Az (l.drop a)).1:Nat):Int)}]):=by
 rw [Ei,if_neg (by simp [h]),if_neg h1,if_pos h2]
theorem J1 (h:l.length>8192):Bt l=([],2,0):=by unfold Bt;rw [if_pos h]
theorem GB (h:l.length≤8192):Bt l=Ei (l.length+1) l 0 []:=by unfold Bt;rw [if_neg (by omega)]
end
end
section
open Go.RowKit
set_option simprocs false
def PB (t:Tk):List SV:=[.int .i64 t.kind,.str t.text,.int .i64 t.n,.int .i64 t.at_]
abbrev xW (ws:List Tk):BZ:=.lst 4 ws.length (fun zz=>PB (ws.getD zz CR))
structure PC (l:ag)(a:Nat)(ws:List Tk):Prop where
 le:a≤l.length
 wl:ws.length≤a
 eq:∃f,l.length<f+a∧Bt l=Ei f l a ws
section
variable {l:ag}{a:Nat}{ws:List Tk}
def EP (l:ag)(a:Nat):Nat:=a+(Az (l.drop a)).1
theorem PC.i0 (h:l.length≤8192):PC l 0 []:=⟨β7 _,β7 _,l.length+1,by omega,GB h⟩
theorem PC.sk (hI:PC l a ws):EP l a≤l.length:=by
 have h:=R6 (l.drop a);rw [γ3]at h;have:=hI.le;unfold EP;omega
theorem PC.rem (hI:PC l a ws)(h:QI l a≠0):Bt l=([],24,EP l a)∧QI l a=24:=by
 have hs:(Az (l.drop a)).2=true:=by
  cases hc:(Az (l.drop a)).2 with
  |true=>rfl
  |false=>unfold QI at h;rw [hc]at h;exact absurd U h
 obtain⟨f,hf,he⟩:=hI.eq
 cases f with
 |zero=>have:=hI.le;omega
 |succ f=>exact⟨by rw [he,Vg hs];rfl,by unfold QI;rw [hs];rfl⟩
theorem QL (h:QI l a=0):(Az (l.drop a)).2=false:=by
 cases hc:(Az (l.drop a)).2 with
 |false=>rfl
 |true=>unfold QI at h;rw [hc]at h;exact absurd h (by decide)
theorem PC.done (hI:PC l a ws)(h:QI l a=0)(h1:EP l a=l.length):Bt l=(ws,0,0):=by
 obtain⟨f,hf,he⟩:=hI.eq
 cases f with
 |zero=>have:=hI.le;omega
 |succ f=>rw [he,Vh (QL h) h1]
theorem PC.bad (hI:PC l a ws)(h:QI l a=0)(h1:EP l a≠l.length)(h2:(Ap (l.drop (EP l a))).2≠0):Bt l=([],(Ap (l.drop (EP l a))).2,EP l a):=by
 obtain⟨f,hf,he⟩:=hI.eq
 cases f with
 |zero=>have:=hI.le;omega
 |succ f=>rw [he,Vi (QL h) h1 h2];rfl
theorem PC.len (hI:PC l a ws)(h1:EP l a≠l.length)(h2:(Ap (l.drop (EP l a))).2=0):0<(Ap (l.drop (EP l a))).1.text.length∧(Ap (l.drop (EP l a))).1.text.length+EP l a≤l.length:=by
 have h:=Mq h2
 rw [γ3]at h
 have:=hI.sk
 omega
theorem PC.nx (hI:PC l a ws)(h:QI l a=0)(h1:EP l a≠l.length)(h2:(Ap (l.drop (EP l a))).2=0):PC l (EP l a+(Ap (l.drop (EP l a))).1.text.length) (ws++[⟨(Ap (l.drop (EP l a))).1.kind,(Ap (l.drop (EP l a))).1.text,(Ap (l.drop (EP l a))).1.n,((EP l a:Nat):Int)⟩]):=by
 obtain⟨f,hf,he⟩:=hI.eq
 have hn:=hI.len h1 h2
 have hw:=hI.wl
 have hs:a≤EP l a:=by unfold EP;omega
 cases f with
 |zero=>have:=hI.le;omega
 |succ f=>exact⟨by omega,by simp;omega,f,by omega,by rw [he,Z3 (QL h) h1 h2];rfl⟩
theorem eG {x:Tk}{k:Nat}(hk:k<ws.length):(ws++[x]).getD k CR=ws.getD k CR:=by simp [List.getD,α2 hk]
theorem eI {x:Tk}:(ws++[x]).getD ws.length CR=x:=by simp [List.getD]
end
def eJ (l:ag):SV→Hp→Prop:=fun x H2=>((Bt l).2.1=0∧x=.tup [.sl 0 (Bt l).1.length 0,.z9,.z9]∧H2=[some (.row 134 4 (Bt l).1.length 0 fun zz=>PB ((Bt l).1.getD zz CR))])∨((Bt l).2.1≠0∧x=.tup [.sla none 0 0,.int .i64 (Bt l).2.1,.int .i64 ((Bt l).2.2:Int)]∧H2=[])
theorem R7 (l:ag)(os:List (Nat×Obj))(hM:Ln os)(hE:Mn os):BQ (Gl os) Tryz.prog 81 [.str l] [] (eJ l):=
 Aa (n:=50) (by kernel_rfl) Tryz.func81 U U U fun G w a h0 hI A=>N9 15 A U U fun A=>AU 12 A U
  (fun h1 A=>N9 9 A U U fun A=>KC (x:=.tup [.sla none 0 0,.n9 2,.z9]) (H':=[]) hX [] A (by have e:=J1 (l:=l) (by omega);unfold eJ;rw [e];exact .inr ⟨(by show(2:Int)≠0;decide),rfl,rfl⟩) U U U U U U U U h0)
  (fun h1 A=>N9 14 A U U fun A=>have A:=A.nilRow 5 134 4 (fun zz=>PB (([]:List Tk).getD zz CR)) U (fun z=>⟨_,rfl,rfl⟩);Ok (fun(e0:Nat) (ws:List Tk)=>[(0,.str l),(2,.sla none 0 0),(3,.n9 0),(4,.n9 0),(5,.sl 0 ws.length 0),(6,.n9 (e0:Int))]) (fun(e0:Nat) (ws:List Tk)=>[some (.row 134 4 ws.length 0 (fun zz=>PB (ws.getD zz CR)))]) (fun(e0:Nat) (ws:List Tk)=>PC l e0 ws) (fun(e0:Nat) (ws:List Tk)=>l.length - e0) 0 [] (PC.i0 (by omega)) ((A.cut [0,2,3,4,5,6] U).trunc 1 U U U (CL h0 U)) fun e0 ws Bu {G a w} A=>N9 5 A U U fun A=>I9 [] Gl.ok hI (RT (mH l e0 os hM Bu.le (by omega)) (y:=.tup [.n9 ((EP l e0:Nat):Int),.n9 (QI l e0)]) fun _=>rfl) A U fun A=>N9 14 A U U fun A=>FY 20 A U
    (fun h2 A=>N9 11 A U U fun A=>KC (x:=.tup [.sla none 0 0,.n9 (QI l e0),.n9 ((EP l e0:Nat):Int)]) (H':=[]) hX [] A (by have e:=(Bu.rem h2).1;unfold eJ;rw [e];have e2:=(Bu.rem h2).2;rw [e2];exact .inr ⟨(by show(24:Int)≠0;decide),rfl,rfl⟩) U U U U U U U U h0)
    (fun h2 A=>N9 12 A U U fun A=>AV 26 A U
     (fun h3 A=>N9 10 A U U fun A=>KC (x:=.tup [.sl 0 ws.length 0,.z9,.z9]) (H':=[some (.row 134 4 ws.length 0 (fun zz=>PB (ws.getD zz CR)))]) hX [0] A (by have e:=Bu.done h2 (by omega);unfold eJ;rw [e];exact .inl ⟨rfl,rfl,rfl⟩) U U U U U U U U h0)
     (fun h3 A=>N9 8 A U (AE (by have hs:=Bu.sk;have hle:=Bu.le;have XR:=Bu.wl;(try simp only [γ3,α6]);omega)<|AB) fun A=>I9 [] Gl.ok hI (eF (l.drop (((EP l e0:Nat):Int)).toNat) os hE (by have hs:=Bu.sk;have hle:=Bu.le;have XR:=Bu.wl;(try simp only [γ3,α6]);omega) (by have hs:=Bu.sk;have hle:=Bu.le;have XR:=Bu.wl;(try simp only [γ3,α6]);omega)) A U fun A=>N9 15 A U U fun A=>FY 36 A U
      (fun h4 A=>N9 11 A U U fun A=>KC (x:=.tup [.sla none 0 0,.n9 ((Ap (l.drop (((EP l e0:Nat):Int)).toNat)).2),.n9 ((EP l e0:Nat):Int)]) (H':=[]) hX [] A (by have e:=Bu.bad h2 (by intro e;apply h3;rw [e]) (by have:=h4;rwa [α6]at this);unfold eJ;rw [e];exact .inr ⟨(by have:=h4;rwa [α6]at this),by simp only [α6],rfl⟩) U U U U U U U U h0)
      (fun h4 A=>N9 15 A U U fun A=>Hw hX (ws.length+1) (fun zz=>PB ((ws++[(⟨(Ap (l.drop (((EP l e0:Nat):Int)).toNat)).1.kind,(Ap (l.drop (((EP l e0:Nat):Int)).toNat)).1.text,(Ap (l.drop (((EP l e0:Nat):Int)).toNat)).1.n,((EP l e0:Nat):Int)⟩:Tk)]).getD zz CR)) A U U U U (by have hs:=Bu.sk;have hle:=Bu.le;have XR:=Bu.wl;have hn:=Bu.len (by intro e;apply h3;rw [e]) (by have:=h4;rwa [α6]at this);(try simp only [γ3,α6]);omega) U (fun k hk=>by show PB _=PB _;rw [eG hk]) (by show PB _=_;rw [eI];rfl) (fun z=>⟨_,rfl,rfl⟩) fun A=>have A:=(A.rowAs 3 ((ws++[(⟨(Ap (l.drop (((EP l e0:Nat):Int)).toNat)).1.kind,(Ap (l.drop (((EP l e0:Nat):Int)).toNat)).1.text,(Ap (l.drop (((EP l e0:Nat):Int)).toNat)).1.n,((EP l e0:Nat):Int)⟩:Tk)]).length) (fun zz=>PB ((ws++[(⟨(Ap (l.drop (((EP l e0:Nat):Int)).toNat)).1.kind,(Ap (l.drop (((EP l e0:Nat):Int)).toNat)).1.text,(Ap (l.drop (((EP l e0:Nat):Int)).toNat)).1.n,((EP l e0:Nat):Int)⟩:Tk)]).getD zz CR)) U (by rw [α4];rfl) (fun q hq=>rfl) (fun z=>⟨_,rfl,rfl⟩)).say 44 (.sl 3 ((ws++[(⟨(Ap (l.drop (((EP l e0:Nat):Int)).toNat)).1.kind,(Ap (l.drop (((EP l e0:Nat):Int)).toNat)).1.text,(Ap (l.drop (((EP l e0:Nat):Int)).toNat)).1.n,((EP l e0:Nat):Int)⟩:Tk)]).length) 0) U (by rw [α4]<;>rfl);N9 12 A U (AE (by have hs:=Bu.sk;have hle:=Bu.le;have XR:=Bu.wl;have hn:=Bu.len (by intro e;apply h3;rw [e]) (by have:=h4;rwa [α6]at this);(try simp only [γ3,α6]);omega)<|AB) fun A=>⟨EP l e0+(Ap (l.drop (EP l e0))).1.text.length,ws++[(⟨(Ap (l.drop (((EP l e0:Nat):Int)).toNat)).1.kind,(Ap (l.drop (((EP l e0:Nat):Int)).toNat)).1.text,(Ap (l.drop (((EP l e0:Nat):Int)).toNat)).1.n,((EP l e0:Nat):Int)⟩:Tk)],_,(by have:=Bu.len (by intro e;apply h3;rw [e]) (by have:=h4;rwa [α6]at this);have:=Bu.le;have hq:e0≤EP l e0:=(by unfold EP;omega);omega),(Bu.nx h2 (by intro e;apply h3;rw [e]) (by have:=h4;rwa [α6]at this)),((A.cut [0,2,3,4,5,6] U).mv 0 [3] U U U U (by simp only [β0,β2]at h0;omega)).sayT (by simp only [α6];rfl)⟩))))
theorem PD {I:Dl}{P:Program}{f:Nat}{az:List SV}{H:Hp}{R R':SV→Hp→Prop}(h:BQ I P f az H R)(e:∀x H2,R x H2→R' x H2):BQ I P f az H R':=⟨h.1,fun G w vs hM hI hv=>π3 (h.2 G w vs hM hI hv) fun e' w' ⟨x',H',F,v,q,r⟩=>⟨x',H',F,v,e _ _ q,r⟩⟩
theorem TF (l:ag)(ws:List Tk)(os:List (Nat×Obj))(hM:Ln os)(hE:Mn os)(h:Bt l=(ws,0,0)):BQ (Gl os) Tryz.prog 81 [.str l] [] (Rt (.tup [.sl 0 ws.length 0,.z9,.z9]) [some (.row 134 4 ws.length 0 (fun zz=>PB (ws.getD zz CR)))]):=PD (R7 l os hM hE) fun x H2 q=>by
 unfold eJ at q
 rw [h]at q
 rcases q with⟨_,q1,q2⟩|⟨q1,_⟩
 ·exact⟨q1,q2⟩
 ·exact absurd U q1
theorem TG (l:ag)(e:Int)(k:Nat)(os:List (Nat×Obj))(hM:Ln os)(hE:Mn os)(h:Bt l=([],e,k))(he:e≠0):BQ (Gl os) Tryz.prog 81 [.str l] [] (Rt (.tup [.sla none 0 0,.n9 e,.n9 (k:Int)]) []):=PD (R7 l os hM hE) fun x H2 q=>by
 unfold eJ at q
 rw [h]at q
 rcases q with⟨q1,_⟩|⟨_,q1,q2⟩
 ·exact absurd q1 he
 ·exact⟨q1,q2⟩
def xX (ws:List Tk)(k:Nat):Nat:=if k<ws.length then k+1 else k
def tD (ws:List Tk)(k:Nat)(m:ag):Bool:=decide (k<ws.length)&&(!((ws.getD k CR).kind==2)&&((ws.getD k CR).text==m))
def qW (ws:List Tk)(k:Nat)(m:ag):Nat:=if tD ws k m=true then k+1 else k
def zQ (ws:List Tk)(k:Nat):Int:=if k<ws.length then(ws.getD k CR).at_ else if ws.length=0 then 0 else(ws.getD (ws.length - 1) CR).at_+((ws.getD (ws.length - 1) CR).text.length:Int)
def xY (ws:List Tk)(k:Nat):Bool:=decide (k<ws.length)&&((ws.getD k CR).kind==1)
def zR (ws:List Tk)(k:Nat):Nat:=if xY ws k=true then k+1 else k
def zT (ws:List Tk)(k:Nat):List UInt8:=if xY ws k=true then(ws.getD k CR).text else []
def jC (ws:List Tk)(k:Nat):Bool:=decide (k<ws.length)&&((ws.getD k CR).kind==2)
def tE (ws:List Tk)(k:Nat):Bool:=((decide (k<ws.length))&&((ws.getD k CR).kind==3))&&((ws.getD k CR).text==[45])
def zU (ws:List Tk)(k:Nat):Bool:=if tE ws k=true then jC ws (k+1)else jC ws k
def tF (ws:List Tk)(k:Nat):Nat:=if tE ws k=true then(if jC ws (k+1)=true then k+1+1 else k)else(if jC ws k=true then k+1 else k)
def tG (ws:List Tk)(k:Nat):Int:=if tE ws k=true then IntKind.wrap .i64 (0 - (if jC ws (k+1)=true then(ws.getD (k+1) CR).n else 0))else(if jC ws k=true then(ws.getD k CR).n else 0)
section
variable {ws:List Tk}{k:Nat}{m:ag}
end
structure As where (p:Nat) (e a:Int)
def mJ (s:As)(x y:Int):As:=if s.e=0 then⟨s.p,x,y⟩else s
def Vj (ws:List Tk)(s:As)(x:Int):As:=mJ s (if s.p<ws.length then x else 24) (zQ ws s.p)
def mK (s:As)(k:Nat):As:=⟨k,s.e,s.a⟩
def mL (ws:List Tk)(s:As)(m:ag):As:=if tD ws s.p m=true then mK s (qW ws s.p m)else Vj ws (mK s (qW ws s.p m)) 22
def mM (ws:List Tk)(s:As):As:=if zU ws s.p=true then mK s (tF ws s.p)else Vj ws (mK s (qW ws (tF ws s.p) [45])) 22
section
variable {ws:List Tk}{s:As}{x y:Int}{m:ag}
end
structure Rw where (nm wd:ag) (ins:In) (pa:ak) (ps:List Int) (cp:Nat)
def Rw.z:Rw:=⟨[],[],⟨0,0,0,0,0,0,0,0,0,0,false,false,false,0,0,0,false⟩,none,[],0⟩
def Rw.lay (r:Rw)(i:In):In:=r.ps.foldl (Dv i) (bare r.ins)
def Z4 (L:List Rw):Dl:=fun w ks=>∀r∈L,C6 r.pa r.ps w ks
theorem Z4.ok {L:List Rw}:Dl.OK (Z4 L):=fun w ks w' ks' h m hk r hr=>(h r hr).go m hk
theorem Z4.at {L:List Rw}{w:World}{ks:ae}(h:Z4 L w ks){k:Nat}(hk:k<L.length):C6 (L.getD k Rw.z).pa (L.getD k Rw.z).ps w ks:=by
 rw [α8,β4 hk];exact h _ (ι3 hk)
def A8 (r:Rw):List SV:=[.str r.nm,.str r.wd,.int .i64 r.ins.op,.int .i64 r.ins.dst,.int .i64 r.ins.ra,.int .i64 r.ins.rb,.int .i64 r.ins.imm,.int .i64 r.ins.loc,.int .i64 r.ins.off,.int .i64 r.ins.ix,.int .i64 r.ins.sz,.int .i64 r.ins.fn,.bool r.ins.acq,.bool r.ins.weak,.bool r.ins.rel,.int .i64 r.ins.pred,.int .i64 r.ins.succ,.int .i64 r.ins.to_,.bool r.ins.zero,.sla r.pa r.ps.length r.cp]
abbrev Iu (r:Rw):List SV:=[.str r.nm,.str r.wd,.int .i64 r.ins.op,.int .i64 r.ins.dst,.int .i64 r.ins.ra,.int .i64 r.ins.rb,.int .i64 r.ins.imm,.int .i64 r.ins.loc,.int .i64 r.ins.off,.int .i64 r.ins.ix,.int .i64 r.ins.sz,.int .i64 r.ins.fn,.bool r.ins.acq,.bool r.ins.weak,.bool r.ins.rel,.int .i64 r.ins.pred,.int .i64 r.ins.succ,.int .i64 r.ins.to_,.bool r.ins.zero,.sla r.pa r.ps.length r.cp]
abbrev IE (L:List Rw):BZ:=.lst 20 L.length (fun zz=>A8 (L.getD zz Rw.z))
abbrev au(L:List Rw):Option BZ:=some (IE L)
theorem CC {i:Nat}{e:Option BZ}{R:Prop}(h:([]:Hp)[i]?=some e):R:=by rw [ι1]at h;cases h
theorem Mr {P:Program}{f:Nat}{az az':List SV}{ao:ak}{ps:List Int}{x:SV}(h:Fn P f az [some (iZ ps)] (Rt x [some (iZ ps)]))(ha:bQ 0 az'=az)(hs:Px az'=[ao])(hx:Lm 0 x=true):BQ (C6 ao ps) P f az' [] (Rt x []):=by
 refine⟨h.1,fun G w vs hM hI hv=>?_⟩
 have hG:G=[]:=γ9 hM.len.symm
 subst hG
 have yU:C6 ao ps w []:=C6.ok _ _ _ _ hI (CQ.refl _ _) fun b hb=>(by cases hb)
 have A1:Sy 1 [(0,.tt)] [] [] [] w [] ⟨#[.bool true],[]⟩ w:=⟨rfl,rfl,fun t x hx=>(by
  unfold look at hx
  cases hb:Nat.beq 0 t with
  |true=>rw [hb]at hx;cases hx;have:=α5 hb;subst this;rfl
  |false=>rw [hb]at hx;cases hx),hM,⟨[],by simp⟩,fun i e L h1=>CC h1,CQ.refl _ _⟩
 have A2:=A1.adopt yU 0 (x:=.tt) U (fun z hz=>by cases hz)
 have ha0:∀q,ao=some q→q=⟨q.block,0,none⟩:=by
  intro q hq
  rcases yU with⟨h1,_⟩|⟨b,h1,_⟩
  ·rw [h1]at hq;cases hq
  ·rw [h1]at hq;cases hq;rfl
 have hd:=NS (G:=[K1 ao]) (i:=0) ha0 U az' (fun z hz=>by rw [hs]at hz;exact ι9.1 hz)
 rw [ha]at hd
 have Qp:AO [K1 ao] az'=some vs:=by simpa using A6 [K1 ao] az' hv
 rw [Qp]at hd
 refine(h.2 [K1 ao] w vs (by simpa using A2.mem) hd).mono ?_
 rintro e w' ⟨y,H',F,v,⟨rfl,rfl⟩,h1,rfl,h3,DE,_⟩
 have hk:keys [some (iZ ps)] [K1 ao]=[]:=by cases ao<;>rfl
 rw [hk]at DE
 refine⟨y,[],[],v,⟨rfl,rfl⟩,?_,rfl,⟨rfl,fun i e he=>CC he,fun i j e f L M _ he=>CC he⟩,by simpa [keys]using DE,β8 _,fun i e he _=>CC he,fun i e he=>CC he⟩
 have:=Ds (G:=[K1 ao]++F) (k:=0) y hx
 simp only [θ4]at this
 rw [ε0,this];exact h1
theorem eK (r:Rw)(i:In)(hn:r.ps.length≤1000000):BQ (C6 r.pa r.ps) Tryz.prog 222 [.agg (Iu r),.agg (AZ i)] [] (Rt (.agg (AZ (r.lay i))) []):=Mr (kM r.nm r.wd r.ins r.ps r.cp i hn) U U U
theorem YU (r:Rw)(i:In)(hn:r.ps.length≤1000000):BQ (C6 r.pa r.ps) Tryz.prog 225 [.agg (Iu r),.agg (AZ i)] [] (Rt (.bool (Gu r.ps i)) []):=Mr (bW r.nm r.wd r.ins r.ps r.cp i hn) U U U
structure Lg where (r0 r1 r2 r3 r4 r5 r6 r7 l0 l1 l2 l3 im f0 f1 f2:ag)
def PE (a b:In):Bool:=((a.op==b.op)&&((a.dst==b.dst)&&((a.ra==b.ra)&&((a.rb==b.rb)&&((a.imm==b.imm)&&((a.loc==b.loc)&&((a.off==b.off)&&((a.ix==b.ix)&&((a.sz==b.sz)&&((a.fn==b.fn)&&((a.acq==b.acq)&&((a.weak==b.weak)&&((a.rel==b.rel)&&((a.pred==b.pred)&&((a.succ==b.succ)&&((a.to_==b.to_)&&(a.zero==b.zero)))))))))))))))))
def Fh (i:In)(r:Rw):Bool:=PE (r.lay i) i&&Gu r.ps i
def Au (L:List Rw)(i:In):Rw:=(L.find? (Fh i)).getD Rw.z
def Fi (L:List Rw)(i:In):Bool:=(L.find? (Fh i)).isSome
structure FI (L:List Rw)(i:In)(k:Nat):Prop where
 le:k≤L.length
 eq:L.find? (Fh i)=(L.drop k).find? (Fh i)
section
variable {L:List Rw}{i:In}{k:Nat}
theorem FI.i0:FI L i 0:=⟨β7 _,by simp⟩
theorem FI.at (hI:FI L i k)(h1:(k:Int)<((L.length:Nat):Int)):L.find? (Fh i)=if Fh i (L.getD ((k:Int)).toNat Rw.z)then some (L.getD ((k:Int)).toNat Rw.z)else(L.drop (k+1)).find? (Fh i):=by
 have hk:k<L.length:=by omega
 have e:L.getD ((k:Int)).toNat Rw.z=L[k]:=by simp [List.getD,hk]
 rw [hI.eq,η1 hk,υ5,e]
 cases Fh i L[k]<;>rfl
theorem FI.hit (hI:FI L i k)(h1:(k:Int)<((L.length:Nat):Int))(h:Fh i (L.getD ((k:Int)).toNat Rw.z)=true):Au L i=L.getD ((k:Int)).toNat Rw.z∧Fi L i=true:=by
 unfold Au Fi;rw [hI.at h1,h];exact⟨rfl,rfl⟩
theorem FI.nx (hI:FI L i k)(h1:(k:Int)<((L.length:Nat):Int))(h:Fh i (L.getD ((k:Int)).toNat Rw.z)=false):FI L i (k+1):=⟨by omega,by rw [hI.at h1,h];rfl⟩
theorem FI.fi (hI:FI L i k)(h1:¬(k:Int)<((L.length:Nat):Int)):Au L i=Rw.z∧Fi L i=false:=by
 unfold Au Fi;rw [hI.eq,ι4 (by omega)];exact⟨rfl,rfl⟩
end
theorem eM (g:Lg)(L:List Rw)(c:Nat)(i:In)(hp:∀k,(L.getD k Rw.z).ps.length≤1000000)(hn:L.length≤1000000):BQ (Z4 L) Tryz.prog 189 [.agg [.str g.r0,.str g.r1,.str g.r2,.str g.r3,.str g.r4,.str g.r5,.str g.r6,.str g.r7,.str g.l0,.str g.l1,.str g.l2,.str g.l3,.str g.im,.str g.f0,.str g.f1,.str g.f2,.sl 0 L.length c],.agg (AZ i)] [au L] (Rt (.tup [.agg (Iu (Au L i)),.bool (Fi L i)]) [au L]):=
 Aa (n:=28) (by kernel_rfl) Tryz.func189 U U U fun G w a h0 hI A=>N9 18 A U U fun A=>Bq (fun(k:Nat)=>[(3,.ptr 2 0),(4,.ptr 3 0),(5,.ff),(9,.sl 0 L.length c),(10,.n9 ((L.length:Nat):Int)),(11,.n9 (k:Int))]) (fun(k:Nat)=>[au L,O [.str g.r0,.str g.r1,.str g.r2,.str g.r3,.str g.r4,.str g.r5,.str g.r6,.str g.r7,.str g.l0,.str g.l1,.str g.l2,.str g.l3,.str g.im,.str g.f0,.str g.f1,.str g.f2,.sl 0 L.length c],O (AZ i),O [.str [],.str [],.z9,.z9,.z9,.z9,.z9,.z9,.z9,.z9,.z9,.z9,.ff,.ff,.ff,.z9,.z9,.z9,.ff,.sla none 0 0]]) (fun(k:Nat)=>FI L i k) (fun(k:Nat)=>L.length - k) 0 FI.i0 ((A.cut [3,4,5,9,10,11] U).trunc 4 U U U (CL h0 U)) fun k Bu {G a w} A=>N9 6 A U U fun A=>AU 12 A U
   (fun h1 A=>N9 14 A U (AE (by have:=Bu.le;omega)<|AE (by have:=Bu.le;omega)<|AB) fun A=>GL BW [.agg (Iu (L.getD (((k:Int)).toNat) Rw.z)),.agg (AZ i),.agg (AZ ((L.getD (((k:Int)).toNat) Rw.z).lay i)),.agg (AZ i),.bool (PE ((L.getD (((k:Int)).toNat) Rw.z).lay i) i),.bool (PE ((L.getD (((k:Int)).toNat) Rw.z).lay i) i),.opt (PE ((L.getD (((k:Int)).toNat) Rw.z).lay i) i) (.agg (Iu (L.getD (((k:Int)).toNat) Rw.z))),.opt (PE ((L.getD (((k:Int)).toNat) Rw.z).lay i) i) (.agg (AZ i)),.opt (PE ((L.getD (((k:Int)).toNat) Rw.z).lay i) i) (.bool (Gu (L.getD (((k:Int)).toNat) Rw.z).ps i)),.bool ((PE ((L.getD (((k:Int)).toNat) Rw.z).lay i) i)&&(Gu (L.getD (((k:Int)).toNat) Rw.z).ps i))] [] [] 0 [([],[],[au L,O [.str g.r0,.str g.r1,.str g.r2,.str g.r3,.str g.r4,.str g.r5,.str g.r6,.str g.r7,.str g.l0,.str g.l1,.str g.l2,.str g.l3,.str g.im,.str g.f0,.str g.f1,.str g.f2,.sl 0 L.length c],O (AZ i),O [.str [],.str [],.z9,.z9,.z9,.z9,.z9,.z9,.z9,.z9,.z9,.z9,.ff,.ff,.ff,.z9,.z9,.z9,.ff,.sla none 0 0],O (Iu (L.getD (((k:Int)).toNat) Rw.z))])] [[true,true,true,true,true,true,true,true,true,true]] A U U U U (by kernel_rfl) U (by kernel_rfl) ⟨⟨AJ 0 U U,⟨AJ 0 U U,⟨BB 0 U (CU [] C6.ok (hI.at (k:=((k:Int)).toNat) (by omega)) (eK (L.getD (((k:Int)).toNat) Rw.z) i (hp _)) U U U U U U U),⟨AJ 0 U U,⟨BB 0 U (BP (x:=.bool (((((L.getD (((k:Int)).toNat) Rw.z).lay i).op)==i.op)&&(((((L.getD (((k:Int)).toNat) Rw.z).lay i).dst)==i.dst)&&(((((L.getD (((k:Int)).toNat) Rw.z).lay i).ra)==i.ra)&&(((((L.getD (((k:Int)).toNat) Rw.z).lay i).rb)==i.rb)&&(((((L.getD (((k:Int)).toNat) Rw.z).lay i).imm)==i.imm)&&(((((L.getD (((k:Int)).toNat) Rw.z).lay i).loc)==i.loc)&&(((((L.getD (((k:Int)).toNat) Rw.z).lay i).off)==i.off)&&(((((L.getD (((k:Int)).toNat) Rw.z).lay i).ix)==i.ix)&&(((((L.getD (((k:Int)).toNat) Rw.z).lay i).sz)==i.sz)&&(((((L.getD (((k:Int)).toNat) Rw.z).lay i).fn)==i.fn)&&(((((L.getD (((k:Int)).toNat) Rw.z).lay i).acq)==i.acq)&&(((((L.getD (((k:Int)).toNat) Rw.z).lay i).weak)==i.weak)&&(((((L.getD (((k:Int)).toNat) Rw.z).lay i).rel)==i.rel)&&(((((L.getD (((k:Int)).toNat) Rw.z).lay i).pred)==i.pred)&&(((((L.getD (((k:Int)).toNat) Rw.z).lay i).succ)==i.succ)&&(((((L.getD (((k:Int)).toNat) Rw.z).lay i).to_)==i.to_)&&((((L.getD (((k:Int)).toNat) Rw.z).lay i).zero)==i.zero)))))))))))))))))) (fun _=>rfl) (AT (X:=⟨_,true⟩) (out:=.val _ _) hX U U)),⟨AJ 0 U U,⟨AJ 0 U U,⟨AJ 0 U U,⟨BB 0 U (Py C6.ok (hI.at (k:=((k:Int)).toNat) (by omega)) U U U U (fun hg=>YU (L.getD (((k:Int)).toNat) Rw.z) i (hp _))),⟨AJ 0 U U,trivial⟩⟩⟩⟩⟩⟩⟩⟩⟩⟩,trivial⟩ fun A=>N9 1 A U U fun A=>fork 24 A U
    (fun h2 A=>N9 9 A U U fun A=>R9 A U h0 U (by obtain⟨e1,e2⟩:=Bu.hit h1 h2;rw [e1,e2];rfl) U)
    (fun h2 A=>N9 8 A U (AE (by have:=Bu.le;omega)<|AB) fun A=>⟨k+1,_,(by omega),(Bu.nx h1 h2),((A.cut [3,4,5,9,10,11] U).trunc 4 U U U (CL h0 U))⟩))
   (fun h1 A=>N9 11 A U U fun A=>R9 A U h0 U (by obtain⟨e1,e2⟩:=Bu.fi h1;rw [e1,e2];rfl) U)
end
section
open Go.Shelf Go.RowKit
def Nu:Go.Shelf.Ren:=⟨fun|129=>241|171=>125|243=>167|246=>208|283=>210|284=>211|285=>212|286=>213|317=>240|318=>242|319=>243|320=>179|337=>214|338=>215|n=>n,fun|0=>0|2=>2|3=>3|4=>4|5=>5|9=>9|20=>20|37=>152|46=>188|51=>226|53=>185|171=>220|173=>223|212=>260|213=>261|232=>262|233=>263|n=>n,fun|17=>1|18=>2|19=>3|n=>n⟩
theorem Vk:Go.Proofs.LaysM.n171 Tryz.prog Nu:={
 mixed:=by kernel_rfl
 f129:=Tryz.func241.trans (congrArg some (by kernel_rfl))
 f171:=Tryz.func125.trans (congrArg some (by kernel_rfl))
 f243:=Tryz.func167.trans (congrArg some (by kernel_rfl))
 f246:=Tryz.func208.trans (congrArg some (by kernel_rfl))
 f283:=Tryz.func210.trans (congrArg some (by kernel_rfl))
 f284:=Tryz.func211.trans (congrArg some (by kernel_rfl))
 f285:=Tryz.func212.trans (congrArg some (by kernel_rfl))
 f286:=Tryz.func213.trans (congrArg some (by kernel_rfl))
 f317:=Tryz.func240.trans (congrArg some (by kernel_rfl))
 f318:=Tryz.func242.trans (congrArg some (by kernel_rfl))
 f319:=Tryz.func243.trans (congrArg some (by kernel_rfl))
 f320:=Tryz.func179.trans (congrArg some (by kernel_rfl))
 f337:=Tryz.func214.trans (congrArg some (by kernel_rfl))
 f338:=Tryz.func215.trans (congrArg some (by kernel_rfl))
 t0:=Tryz.underlying0
 a0:=Tryz.isAgg0
 z0:=Tryz.sizeOf0
 v0:=Tryz.zeroValue0
 t2:=Tryz.underlying2
 a2:=Tryz.isAgg2
 z2:=Tryz.sizeOf2
 v2:=Tryz.zeroValue2
 t3:=Tryz.underlying3
 a3:=Tryz.isAgg3
 z3:=Tryz.sizeOf3
 v3:=Tryz.zeroValue3
 t4:=Tryz.underlying4
 a4:=Tryz.isAgg4
 z4:=Tryz.sizeOf4
 v4:=Tryz.zeroValue4
 t5:=Tryz.underlying5
 a5:=Tryz.isAgg5
 z5:=Tryz.sizeOf5
 v5:=Tryz.zeroValue5
 t9:=Tryz.underlying9
 a9:=Tryz.isAgg9
 z9:=Tryz.sizeOf9
 v9:=Tryz.zeroValue9
 t20:=Tryz.underlying20
 a20:=Tryz.isAgg20
 z20:=Tryz.sizeOf20
 v20:=Tryz.zeroValue20
 t37:=Tryz.underlying152
 a37:=Tryz.isAgg152
 z37:=Tryz.sizeOf152
 v37:=Tryz.zeroValue152
 t46:=Tryz.underlying188
 a46:=Tryz.isAgg188
 z46:=Tryz.sizeOf188
 v46:=Tryz.zeroValue188
 t51:=Tryz.underlying226
 a51:=Tryz.isAgg226
 z51:=Tryz.sizeOf226
 v51:=Tryz.zeroValue226
 t53:=Tryz.underlying185
 a53:=Tryz.isAgg185
 z53:=Tryz.sizeOf185
 v53:=Tryz.zeroValue185
 t171:=Tryz.underlying220
 a171:=Tryz.isAgg220
 z171:=Tryz.sizeOf220
 v171:=Tryz.zeroValue220
 t173:=Tryz.underlying223
 a173:=Tryz.isAgg223
 z173:=Tryz.sizeOf223
 v173:=Tryz.zeroValue223
 t212:=Tryz.underlying260
 a212:=Tryz.isAgg260
 z212:=Tryz.sizeOf260
 v212:=Tryz.zeroValue260
 t213:=Tryz.underlying261
 a213:=Tryz.isAgg261
 z213:=Tryz.sizeOf261
 t232:=Tryz.underlying262
 a232:=Tryz.isAgg262
 z232:=Tryz.sizeOf262
 v232:=Tryz.zeroValue262
 t233:=Tryz.underlying263
 a233:=Tryz.isAgg263
 z233:=Tryz.sizeOf263
 v233:=Tryz.zeroValue263
 g17:=by kernel_rfl
 g18:=by kernel_rfl
 g19:=by kernel_rfl
 i0:=by kernel_rfl
 i2:=by kernel_rfl
 i3:=by kernel_rfl
 i4:=by kernel_rfl
 i5:=by kernel_rfl
 i9:=by kernel_rfl
 i20:=by kernel_rfl
 i37:=by kernel_rfl
 i46:=by kernel_rfl
 i51:=by kernel_rfl
 i53:=by kernel_rfl
 i171:=by kernel_rfl
 i173:=by kernel_rfl
 i212:=by kernel_rfl
 i232:=by kernel_rfl
 i233:=by kernel_rfl
 m17:=by kernel_rfl
 m18:=by kernel_rfl
 m19:=by kernel_rfl}
theorem Vl (n:Int)(h0: -9223372036854775808≤n)(h1:n≤9223372036854775807)(w:World)(MN:Lib.TabIs Tryz.prog w "internal/strconv.uint64pow10" .u64 Lib.pow10Tab):Calls Tryz.prog 125 #[.int .i64 n] w fun e w'=>e=.returned (.string (S (Lib.itoa n)))∧By w w':=by
 refine(Any.strconv_Itoa Vk n h0 h1 w MN).mono ?_
 rintro e w' ⟨rfl,k,os,rfl⟩
 refine⟨rfl,⟨rfl,rfl,rfl,?_,fun j hj=>?_⟩⟩
 ·show w.heap.size≤((w.drewN k).heap++os).size
  rw [ξ9]
  exact ν8 _ _
 ·show((w.drewN k).heap++os)[j]?=w.heap[j]?
  exact Array.getElem?_append_left hj
def Iv:Go.Shelf.Ren:=⟨fun|138=>259|143=>152|154=>226|165=>229|166=>230|169=>231|195=>282|197=>260|217=>233|218=>283|219=>203|224=>235|225=>234|240=>262|241=>263|260=>284|266=>264|267=>236|276=>285|277=>286|314=>265|n=>n,fun|0=>0|3=>3|4=>4|5=>5|9=>9|20=>20|21=>21|37=>152|46=>188|51=>226|70=>242|72=>244|75=>215|76=>245|105=>274|119=>302|127=>277|138=>304|139=>305|146=>278|164=>293|80=>50|n=>n,fun|1=>0|3=>6|4=>7|n=>n⟩
theorem Vm:Go.Proofs.Lays.n154 Tryz.prog Iv:={
 mixed:=by kernel_rfl
 f138:=Tryz.func259.trans (congrArg some (by kernel_rfl))
 f143:=Tryz.func152.trans (congrArg some (by kernel_rfl))
 f154:=Tryz.func226.trans (congrArg some (by kernel_rfl))
 f165:=Tryz.func229.trans (congrArg some (by kernel_rfl))
 f166:=Tryz.func230.trans (congrArg some (by kernel_rfl))
 f169:=Tryz.func231.trans (congrArg some (by kernel_rfl))
 f195:=Tryz.func282.trans (congrArg some (by kernel_rfl))
 f197:=Tryz.func260.trans (congrArg some (by kernel_rfl))
 f217:=Tryz.func233.trans (congrArg some (by kernel_rfl))
 f218:=Tryz.func283.trans (congrArg some (by kernel_rfl))
 f219:=Tryz.func203.trans (congrArg some (by kernel_rfl))
 f224:=Tryz.func235.trans (congrArg some (by kernel_rfl))
 f225:=Tryz.func234.trans (congrArg some (by kernel_rfl))
 f240:=Tryz.func262.trans (congrArg some (by kernel_rfl))
 f241:=Tryz.func263.trans (congrArg some (by kernel_rfl))
 f260:=Tryz.func284.trans (congrArg some (by kernel_rfl))
 f266:=Tryz.func264.trans (congrArg some (by kernel_rfl))
 f267:=Tryz.func236.trans (congrArg some (by kernel_rfl))
 f276:=Tryz.func285.trans (congrArg some (by kernel_rfl))
 f277:=Tryz.func286.trans (congrArg some (by kernel_rfl))
 f314:=Tryz.func265.trans (congrArg some (by kernel_rfl))
 t0:=Tryz.underlying0
 a0:=Tryz.isAgg0
 z0:=Tryz.sizeOf0
 v0:=Tryz.zeroValue0
 t3:=Tryz.underlying3
 a3:=Tryz.isAgg3
 z3:=Tryz.sizeOf3
 v3:=Tryz.zeroValue3
 t4:=Tryz.underlying4
 a4:=Tryz.isAgg4
 z4:=Tryz.sizeOf4
 v4:=Tryz.zeroValue4
 t5:=Tryz.underlying5
 a5:=Tryz.isAgg5
 z5:=Tryz.sizeOf5
 v5:=Tryz.zeroValue5
 t9:=Tryz.underlying9
 a9:=Tryz.isAgg9
 z9:=Tryz.sizeOf9
 v9:=Tryz.zeroValue9
 t20:=Tryz.underlying20
 a20:=Tryz.isAgg20
 z20:=Tryz.sizeOf20
 v20:=Tryz.zeroValue20
 t21:=Tryz.underlying21
 a21:=Tryz.isAgg21
 z21:=Tryz.sizeOf21
 v21:=Tryz.zeroValue21
 t37:=Tryz.underlying152
 a37:=Tryz.isAgg152
 z37:=Tryz.sizeOf152
 v37:=Tryz.zeroValue152
 t46:=Tryz.underlying188
 a46:=Tryz.isAgg188
 z46:=Tryz.sizeOf188
 v46:=Tryz.zeroValue188
 t51:=Tryz.underlying226
 a51:=Tryz.isAgg226
 z51:=Tryz.sizeOf226
 v51:=Tryz.zeroValue226
 t70:=Tryz.underlying242
 a70:=Tryz.isAgg242
 z70:=Tryz.sizeOf242
 v70:=Tryz.zeroValue242
 t72:=Tryz.underlying244
 a72:=Tryz.isAgg244
 z72:=Tryz.sizeOf244
 v72:=Tryz.zeroValue244
 t75:=Tryz.underlying215
 a75:=Tryz.isAgg215
 z75:=Tryz.sizeOf215
 v75:=Tryz.zeroValue215
 t76:=Tryz.underlying245
 a76:=Tryz.isAgg245
 z76:=Tryz.sizeOf245
 v76:=Tryz.zeroValue245
 t105:=Tryz.underlying274
 a105:=Tryz.isAgg274
 z105:=Tryz.sizeOf274
 v105:=Tryz.zeroValue274
 t119:=Tryz.underlying302
 a119:=Tryz.isAgg302
 z119:=Tryz.sizeOf302
 t127:=Tryz.underlying277
 a127:=Tryz.isAgg277
 z127:=Tryz.sizeOf277
 v127:=Tryz.zeroValue277
 t138:=Tryz.underlying304
 a138:=Tryz.isAgg304
 z138:=Tryz.sizeOf304
 v138:=Tryz.zeroValue304
 t139:=Tryz.underlying305
 a139:=Tryz.isAgg305
 z139:=Tryz.sizeOf305
 v139:=Tryz.zeroValue305
 t146:=Tryz.underlying278
 a146:=Tryz.isAgg278
 z146:=Tryz.sizeOf278
 v146:=Tryz.zeroValue278
 t164:=Tryz.underlying293
 a164:=Tryz.isAgg293
 z164:=Tryz.sizeOf293
 v164:=Tryz.zeroValue293
 g1:=by kernel_rfl
 g3:=by kernel_rfl
 g4:=by kernel_rfl}
theorem TH:Go.Proofs.Builder.Extra Tryz.prog Iv where
 sizeBuilder:=by kernel_rfl
 liesBuilder:=by kernel_rfl
 t5:=Tryz.underlying5
 a5:=Tryz.isAgg5
 z5:=Tryz.sizeOf5
 v5:=Tryz.zeroValue5
 infoByte:=by kernel_rfl
 cellsByte:=by kernel_rfl
 sizeByte:=by kernel_rfl
 neB5:=by decide
theorem PF (l o q:ag)(n m:Int)(w:World)(hl:l.length≤1000)(ho:1≤o.length)(hq:q.length≤1000)(hc:Lib.countB (S l) (S o)≤1000)(hm:w.cell? ⟨0,0,none⟩=some (.int .i64 m)):Calls Tryz.prog 226 #[.string (S l),.string (S o),.string (S q),.int .i64 n] w fun e w'=>e=.returned (.string (S (Lib.replace l o q n)))∧By w w':=by
 have hmul:Lib.countB (S l) (S o)*(S q).size≤1000*1000:=μ2 hc (by rw [DT];exact hq)
 refine(Any.strings_Replace Vm TH (S l) (S o) (S q) n m w (by rw [DT];omega) hm (by rw [DT];omega) (by rw [DT];omega)).mono ?_
 rintro e w' ⟨rfl,hb⟩
 exact⟨by rw [FG,FG,FG];rfl,hb⟩
end
section
open Go.RowKit
set_option simprocs false
abbrev _root_.Go.Proofs.YtbbdanhpphlbpaaGreatDoor.PZ (os:List (Nat×Obj)):Prop:=∀w ks,Gl os w ks→Lib.TabIs Tryz.prog w "internal/strconv.uint64pow10" .u64 Lib.pow10Tab
theorem QM (v:Int)(os:List (Nat×Obj))(hM:Ln os)(hT:PZ os)(h0: -9223372036854775808≤v)(h1:v≤9223372036854775807):BQ (Gl os) Tryz.prog 125 [.n9 v] [] (Rt (.str (Lib.itoa v)) []):=IX (by kernel_rfl) U U fun w ks h=>Vl v h0 h1 w (hT w ks h)
theorem eN (l q r:ag)(n:Int)(os:List (Nat×Obj))(hM:Ln os)(hT:PZ os)(hl:l.length≤1000)(ho:1≤q.length)(hq:r.length≤1000)(hc:Lib.countB (S l) (S q)≤1000):BQ (Gl os) Tryz.prog 226 [.str l,.str q,.str r,.n9 n] [] (Rt (.str (Lib.replace l q r n)) []):=IX (by kernel_rfl) U U fun w ks h=>by
 obtain⟨m,hm⟩:=hM w ks h
 exact PF l q r n m w hl ho hq hc hm
def GD (s0 s1 s2 s3 s4 s5 s6 s7:ag)(r:Int):List UInt8:=if((decide (r<0))||(decide (r≥8)))=true then []else [s0,s1,s2,s3,s4,s5,s6,s7].getD r.toNat []
theorem QN (s0 s1 s2 s3 s4 s5 s6 s7:ag)(r:Int):Fn Tryz.prog 145 [.agg [.str s0,.str s1,.str s2,.str s3,.str s4,.str s5,.str s6,.str s7],.n9 r] [] (Rt (.str (GD s0 s1 s2 s3 s4 s5 s6 s7 r)) []):=
 AR (n:=14) (by kernel_rfl) Tryz.func145 U U U fun G w a h0 A=>N9 17 A U U fun A=>fork 10 A U
  (fun h1 A=>N9 7 A U U fun A=>R9 A U h0 U (by simp only [Am,nb,B5,Bx,GD,if_pos h1]) U)
  (fun h1 A=>N9 12 A U (AE (by have hz:=h1;simp only [ε3,ζ1]at hz;omega)<|AE (by have hz:=h1;simp only [ε3,ζ1]at hz;omega)<|AB) fun A=>R9 A U h0 U (by simp only [Am,nb,B5,Bx,GD,if_neg (α7 h1)]) U)
def Vn (sz:Int):Nat:=if sz=1 then 0 else if sz=2 then 1 else if sz=4 then 2 else if sz=8 then 3 else 4
def Lg.let (g:Lg):List (List UInt8):=[g.l0,g.l1,g.l2,g.l3]
def GN (g:Lg)(nm:ag)(sz:Int):List UInt8:=if Vn sz<4 then Lib.replace nm [42] (g.let.getD (Vn sz) []) 1 else nm
structure NK (sz:Int)(k:Nat):Prop where
 le:k≤4
 ge:k≤Vn sz
section
variable {g:Lg}{nm:ag}{sz:Int}{k:Nat}
theorem eO (k:Nat)(hk:k<4)(h:sz=IntKind.wrap .i64 (1*2^min ((k:Int)).toNat (IntKind.bits .i64))):Vn sz=k:=by
 have:k=0∨k=1∨k=2∨k=3:=by omega
 rcases this with rfl|rfl|rfl|rfl<;>(subst h;decide)
theorem NK.i0:NK sz 0:=⟨by omega,by omega⟩
theorem NK.nx (hI:NK sz k)(h1:(k:Int)<4)(h:sz≠IntKind.wrap .i64 (1*2^min ((k:Int)).toNat (IntKind.bits .i64))):NK sz (k+1):=by
 have hg:=hI.ge
 refine⟨by omega,?_⟩
 rcases Nat.lt_or_ge k (Vn sz)with h2|h2
 ·exact h2
 ·exfalso
  have he:Vn sz=k:=by omega
  have:k=0∨k=1∨k=2∨k=3:=by omega
  apply h
  unfold Vn at he
  rcases this with rfl|rfl|rfl|rfl
  all_goals
   split at he
   ·next e=>first|(rw [e];decide)|omega
   ·split at he
    ·next e=>first|(rw [e];decide)|omega
    ·split at he
     ·next e=>first|(rw [e];decide)|omega
     ·split at he
      ·next e=>first|(rw [e];decide)|omega
      ·omega
theorem NK.hit (hI:NK sz k)(h1:(k:Int)<4)(h:sz=IntKind.wrap .i64 (1*2^min ((k:Int)).toNat (IntKind.bits .i64))):GN g nm sz=Lib.replace nm [42] ([g.l0,g.l1,g.l2,g.l3].getD ((k:Int)).toNat []) 1:=by
 have e:=eO (sz:=sz) k (by omega) h
 unfold GN
 rw [e,if_pos (by omega),α6];rfl
theorem NK.fi (hI:NK sz k)(h1:¬(k:Int)<4):GN g nm sz=nm:=by
 unfold GN;have:=hI.ge;rw [if_neg (by omega)]
end
theorem R8 (g:Lg)(L:List Rw)(c:Nat)(r:Rw)(sz:Int)(os:List (Nat×Obj))(hM:Ln os)(hT:PZ os)(p7:r.nm.length≤1000∧Lib.countB (S r.nm) (S [42])≤1000)(wE:∀k,([g.l0,g.l1,g.l2,g.l3].getD k []).length≤1000):BQ (Gl os) Tryz.prog 190 [.agg [.str g.r0,.str g.r1,.str g.r2,.str g.r3,.str g.r4,.str g.r5,.str g.r6,.str g.r7,.str g.l0,.str g.l1,.str g.l2,.str g.l3,.str g.im,.str g.f0,.str g.f1,.str g.f2,.sl 0 L.length c],.agg (Iu r),.n9 sz] [au L] (Rt (.str (GN g r.nm sz)) [au L]):=
 Aa (n:=26) (by kernel_rfl) Tryz.func190 U U U fun G w a h0 hI A=>N9 16 A U U fun A=>Bq (fun(k:Nat)=>[(2,.n9 sz),(4,.ptr 2 0),(6,.str []),(10,.agg [.str g.l0,.str g.l1,.str g.l2,.str g.l3]),(11,.n9 (k:Int))]) (fun(k:Nat)=>[au L,O [.str g.r0,.str g.r1,.str g.r2,.str g.r3,.str g.r4,.str g.r5,.str g.r6,.str g.r7,.str g.l0,.str g.l1,.str g.l2,.str g.l3,.str g.im,.str g.f0,.str g.f1,.str g.f2,.sl 0 L.length c],O (Iu r)]) (fun(k:Nat)=>NK sz k) (fun(k:Nat)=>4 - k) 0 NK.i0 ((A.cut [2,4,6,10,11] U).trunc 3 U U U (CL h0 U)) fun k Bu {G a w} A=>N9 6 A U U fun A=>AU 12 A U
   (fun h1 A=>N9 14 A U (AE (by have:=Bu.le;omega)<|AB) fun A=>N9 7 A U (AE (by have:=Bu.le;omega)<|AB) fun A=>AV 18 A U
    (fun h2 A=>N9 6 A U U fun A=>I9 [] Gl.ok hI (eN r.nm [42] ([g.l0,g.l1,g.l2,g.l3].getD ((k:Int)).toNat []) 1 os hM hT p7.1 (by decide) (wE _) p7.2) A U fun A=>N9 4 A U U fun A=>R9 A U h0 U (by rw [Bu.hit h1 h2];rfl) U)
    (fun h2 A=>N9 8 A U (AE (by have:=Bu.le;omega)<|AB) fun A=>⟨k+1,_,(by omega),(Bu.nx h1 h2),((A.cut [2,4,6,10,11] U).trunc 3 U U U (CL h0 U))⟩))
   (fun h1 A=>N9 11 A U U fun A=>R9 A U h0 U (by rw [Bu.fi h1];rfl) U)
theorem mN:Fn Tryz.prog 261 [] [] (Rt (.sl 0 3 3) [O [.str [120],.str [121],.str [122]]]):=
 AR (n:=2) (by kernel_rfl) Tryz.func261 U U U fun G w a h0 A=>N9 12 A U U fun A=>KC hX [0] A ⟨rfl,rfl⟩ U U U U U U U U h0
def eP (i:In):List UInt8:=[91]++([[120],[121],[122]].getD (i.loc).toNat [])
def QO (i:In):List UInt8:=if i.off≠0 then eP i++([43]++Lib.itoa i.off)else eP i
def PG (g:Lg)(i:In):List UInt8:=(if i.ix≠ -1 then QO i++([43]++GD g.r0 g.r1 g.r2 g.r3 g.r4 g.r5 g.r6 g.r7 i.ix)else QO i)++[93]
def Jf (g:Lg)(r:Rw)(p:Int)(i:In)(lb:ag):List UInt8:=
 if(Fz p i).2=true then GD g.r0 g.r1 g.r2 g.r3 g.r4 g.r5 g.r6 g.r7 (Fz p i).1 else
 if p=5 then g.im++Lib.itoa i.imm else
 if p=6 then PG g i else
 if p=8 then [g.f0,g.f1,g.f2].getD (i.pred - 1).toNat []else
 if p=9 then [g.f0,g.f1,g.f2].getD (i.succ - 1).toNat []else
 if p=10 then r.wd else lb
structure YV (g:Lg):Prop where
 rg:∀r,(GD g.r0 g.r1 g.r2 g.r3 g.r4 g.r5 g.r6 g.r7 r).length≤1000
 im:g.im.length≤1000
structure eQ (i:In):Prop where
 lc:0≤i.loc∧i.loc<3
 of_: -9223372036854775808≤i.off∧i.off≤9223372036854775807
theorem Ej (g:Int)(h:0≤g∧g<3):([[120],[121],[122]].getD g.toNat ([]:ag)).length≤1:=by
 have:g.toNat=0∨g.toNat=1∨g.toNat=2:=by omega
 rcases this with e|e|e<;>rw [e]<;>decide
theorem mO (g:Lg)(L:List Rw)(c:Nat)(i:In)(os:List (Nat×Obj))(hM:Ln os)(hT:PZ os)(hg:YV g)(hi:eQ i):BQ (Gl os) Tryz.prog 228 [.agg [.str g.r0,.str g.r1,.str g.r2,.str g.r3,.str g.r4,.str g.r5,.str g.r6,.str g.r7,.str g.l0,.str g.l1,.str g.l2,.str g.l3,.str g.im,.str g.f0,.str g.f1,.str g.f2,.sl 0 L.length c],.agg (AZ i)] [au L] (Rt (.str (PG g i)) [au L]):=
 Aa (n:=34) (by kernel_rfl) Tryz.func228 U U U fun G w a h0 hI A=>N9 8 A U U fun A=>A9 hX BW [] [(0,.sl 3 3 3,[au L,O [.str g.r0,.str g.r1,.str g.r2,.str g.r3,.str g.r4,.str g.r5,.str g.r6,.str g.r7,.str g.l0,.str g.l1,.str g.l2,.str g.l3,.str g.im,.str g.f0,.str g.f1,.str g.f2,.sl 0 L.length c],O (AZ i),O [.str [120],.str [121],.str [122]]])] A U (AE (by have q1:=hi.lc;have q2:=hi.of_;omega)<|AE (by have q1:=hi.lc;have q2:=hi.of_;omega)<|AE (by have q1:=hg.rg i.ix;have q2:=Lib.itoa_length_le i.off hi.of_.1 hi.of_.2;have q3:=Ej i.loc hi.lc;(try simp only [α4,β0,β2]);omega)<|AB) U U (by kernel_rfl) ⟨Ef [] mN U U U U U U U,trivial⟩ trivial fun A=>N9 9 A U U fun A=>FY 14 A U
  (fun h1 A=>N9 5 A U U fun A=>I9 [] Gl.ok hI (QM i.off os hM hT (by have q1:=hi.lc;have q2:=hi.of_;omega) (by have q1:=hi.lc;have q2:=hi.of_;omega)) A U fun A=>N9 7 A U (AE (by have q1:=hg.rg i.ix;have q2:=Lib.itoa_length_le i.off hi.of_.1 hi.of_.2;have q3:=Ej i.loc hi.lc;(try simp only [α4,β0,β2]);omega)<|AE (by have q1:=hg.rg i.ix;have q2:=Lib.itoa_length_le i.off hi.of_.1 hi.of_.2;have q3:=Ej i.loc hi.lc;(try simp only [α4,β0,β2]);omega)<|AB) fun A=>N9 6 A U U fun A=>FY 23 A U
   (fun h2 A=>N9 7 A U U fun A=>C9 [] (QN g.r0 g.r1 g.r2 g.r3 g.r4 g.r5 g.r6 g.r7 i.ix) A U fun A=>N9 6 A U (AE (by have q1:=hg.rg i.ix;have q2:=Lib.itoa_length_le i.off hi.of_.1 hi.of_.2;have q3:=Ej i.loc hi.lc;(try simp only [α4,β0,β2]);omega)<|AE (by have q1:=hg.rg i.ix;have q2:=Lib.itoa_length_le i.off hi.of_.1 hi.of_.2;have q3:=Ej i.loc hi.lc;(try simp only [α4,β0,β2]);omega)<|AB) fun A=>N9 7 A U (AE (by have q1:=hg.rg i.ix;have q2:=Lib.itoa_length_le i.off hi.of_.1 hi.of_.2;have q3:=Ej i.loc hi.lc;(try simp only [α4,β0,β2]);omega)<|AB) fun A=>R9 A U h0 U (by unfold PG QO;rw [if_pos h2,if_pos h1];rfl) U)
   (fun h2 A=>N9 11 A U (AE (by have q1:=hg.rg i.ix;have q2:=Lib.itoa_length_le i.off hi.of_.1 hi.of_.2;have q3:=Ej i.loc hi.lc;(try simp only [α4,β0,β2]);omega)<|AB) fun A=>R9 A U h0 U (by unfold PG QO;rw [if_neg (fun z=>z h2),if_pos h1];rfl) U))
  (fun h1 A=>N9 11 A U U fun A=>FY 23 A U
   (fun h3 A=>N9 7 A U U fun A=>C9 [] (QN g.r0 g.r1 g.r2 g.r3 g.r4 g.r5 g.r6 g.r7 i.ix) A U fun A=>N9 6 A U (AE (by have q1:=hg.rg i.ix;have q2:=Lib.itoa_length_le i.off hi.of_.1 hi.of_.2;have q3:=Ej i.loc hi.lc;(try simp only [α4,β0,β2]);omega)<|AE (by have q1:=hg.rg i.ix;have q2:=Lib.itoa_length_le i.off hi.of_.1 hi.of_.2;have q3:=Ej i.loc hi.lc;(try simp only [α4,β0,β2]);omega)<|AB) fun A=>N9 7 A U (AE (by have q1:=hg.rg i.ix;have q2:=Lib.itoa_length_le i.off hi.of_.1 hi.of_.2;have q3:=Ej i.loc hi.lc;(try simp only [α4,β0,β2]);omega)<|AB) fun A=>R9 A U h0 U (by unfold PG QO;rw [if_pos h3,if_neg (fun z=>z h1)];rfl) U)
   (fun h3 A=>N9 11 A U (AE (by have q1:=hg.rg i.ix;have q2:=Lib.itoa_length_le i.off hi.of_.1 hi.of_.2;have q3:=Ej i.loc hi.lc;(try simp only [α4,β0,β2]);omega)<|AB) fun A=>R9 A U h0 U (by unfold PG QO;rw [if_neg (fun z=>z h3),if_neg (fun z=>z h1)];rfl) U))
theorem mP (g:Lg)(L:List Rw)(c:Nat)(r:Rw)(p:Int)(i:In)(lb:ag)(os:List (Nat×Obj))(hM:Ln os)(hT:PZ os)(hg:YV g)(hv: -9223372036854775808≤i.imm∧i.imm≤9223372036854775807)(hi6:p=6→eQ i)(wF:p=8→1≤i.pred∧i.pred≤3)(wG:p=9→1≤i.succ∧i.succ≤3):BQ (Gl os) Tryz.prog 191 [.agg [.str g.r0,.str g.r1,.str g.r2,.str g.r3,.str g.r4,.str g.r5,.str g.r6,.str g.r7,.str g.l0,.str g.l1,.str g.l2,.str g.l3,.str g.im,.str g.f0,.str g.f1,.str g.f2,.sl 0 L.length c],.agg (Iu r),.n9 p,.agg (AZ i),.str lb] [au L] (Rt (.str (Jf g r p i lb)) [au L]):=
 Aa (n:=59) (by kernel_rfl) Tryz.func191 U U U fun G w a h0 hI A=>N9 13 A U U fun A=>C9 [] (Zg p i) A U fun A=>N9 12 A U U fun A=>fork 19 A U
  (fun h1 A=>N9 6 A U U fun A=>C9 [] (QN g.r0 g.r1 g.r2 g.r3 g.r4 g.r5 g.r6 g.r7 ((Fz p i).1)) A U fun A=>N9 4 A U U fun A=>R9 A U h0 U (by unfold Jf;rw [if_pos h1];rfl) U)
  (fun h1 A=>N9 16 A U U fun A=>AV 25 A U
   (fun h2 A=>N9 2 A U U fun A=>GL BW [.ptr 1 12,.str g.im,.ptr 3 4,.n9 i.imm,.str (Lib.itoa i.imm),.str (g.im++(Lib.itoa i.imm)),.str (g.im++(Lib.itoa i.imm))] [] [] 0 [([],[],[au L,O [.str g.r0,.str g.r1,.str g.r2,.str g.r3,.str g.r4,.str g.r5,.str g.r6,.str g.r7,.str g.l0,.str g.l1,.str g.l2,.str g.l3,.str g.im,.str g.f0,.str g.f1,.str g.f2,.sl 0 L.length c],O (Iu r),O (AZ i)])] [[true,true,true,true,true,true,true]] A U U U U (by kernel_rfl) U (by kernel_rfl) ⟨⟨AJ 0 U U,⟨AJ 0 U U,⟨AJ 0 U U,⟨AJ 0 U U,⟨BB 0 U (CU [] Gl.ok hI (QM i.imm os hM hT (by have q0:=hv;omega) (by have q0:=hv;omega)) U U U U U U U),⟨AJ 0 U (AE (by have q0:=hv;have q1:=hg.im;have q2:=Lib.itoa_length_le i.imm hv.1 hv.2;(try simp only [α4,β0,β2]);omega)<|AB),⟨AJ 0 U U,trivial⟩⟩⟩⟩⟩⟩⟩,trivial⟩ fun A=>N9 2 A U U fun A=>R9 A U h0 U (by unfold Jf;rw [if_neg (by rw [h1];decide),if_pos h2];rfl) U)
   (fun h2 A=>N9 7 A U U fun A=>AV 33 A U
    (fun h3 A=>N9 5 A U U fun A=>I9 [0] Gl.ok hI (mO g L c i os hM hT hg (hi6 h3)) A U fun A=>N9 4 A U U fun A=>R9 A U h0 U (by unfold Jf;rw [if_neg (by rw [h1];decide),if_neg h2,if_pos h3];rfl) U)
    (fun h3 A=>N9 7 A U U fun A=>AV 38 A U
     (fun h4 A=>N9 13 A U (AE (by have q0:=hv;have q8:=wF h4;omega)<|AE (by have q0:=hv;have q8:=wF h4;omega)<|AE (by have q0:=hv;have q8:=wF h4;omega)<|AB) fun A=>R9 A U h0 U (by unfold Jf;rw [if_neg (by rw [h1];decide),if_neg h2,if_neg h3,if_pos h4];rfl) U)
     (fun h4 A=>N9 7 A U U fun A=>AV 46 A U
      (fun h5 A=>N9 13 A U (AE (by have q0:=hv;have q9:=wG h5;omega)<|AE (by have q0:=hv;have q9:=wG h5;omega)<|AE (by have q0:=hv;have q9:=wG h5;omega)<|AB) fun A=>R9 A U h0 U (by unfold Jf;rw [if_neg (by rw [h1];decide),if_neg h2,if_neg h3,if_neg h4,if_pos h5];rfl) U)
      (fun h5 A=>N9 7 A U U fun A=>AV 54 A U
       (fun h6 A=>N9 9 A U U fun A=>R9 A U h0 U (by unfold Jf;rw [if_neg (by rw [h1];decide),if_neg h2,if_neg h3,if_neg h4,if_neg h5,if_pos h6];rfl) U)
       (fun h6 A=>N9 11 A U U fun A=>R9 A U h0 U (by unfold Jf;rw [if_neg (by rw [h1];decide),if_neg h2,if_neg h3,if_neg h4,if_neg h5,if_neg h6];rfl) U))))))
structure Ps where (ins:In) (lab:ag) (e a:Int) (p:Nat)
def Ps.as (s:Ps):As:=⟨s.p,s.e,s.a⟩
def Ps.wa (s:Ps)(t:As):Ps:=⟨s.ins,s.lab,t.e,t.a,t.p⟩
def eR (ls:List (List UInt8))(q:ag):Int:=match(List.range ls.length).find? (fun j=>q==ls.getD j [])with|some j=>(j:Int)|none=> -1
section
variable {ls:List (List UInt8)}{q:ag}{k:Nat}
end
def Z5 (ws:List Tk)(s:As)(ls:List (List UInt8)):Int:=if(ws.getD s.p CR).kind=1 then(if eR ls (ws.getD s.p CR).text<0 then -1 else eR ls (ws.getD s.p CR).text)else -1
def Kc (ws:List Tk)(s:As)(ls:List (List UInt8)):As:=if(ws.getD s.p CR).kind=1 then(if eR ls (ws.getD s.p CR).text<0 then Vj ws s 21 else mK s (xX ws s.p))else Vj ws s 22
section
variable {ws:List Tk}{s:As}{ls:List (List UInt8)}
end
def eS (g:Lg)(ws:List Tk)(s:As):As:=if g.im=[]then mM ws s else mM ws (mL ws s g.im)
def tH (g:Lg)(ws:List Tk)(s:As):Int:=if g.im=[]then tG ws s.p else tG ws (mL ws s g.im).p
structure Cn where (k t r l v:Int)
def Cn.z:Cn:=⟨0,0,0,0,0⟩
def cc (c:Cn):List SV:=[.int .i64 c.k,.int .i64 c.t,.int .i64 c.r,.int .i64 c.l,.int .i64 c.v]
def LC (k:Int)(wf:Nat→Int):Nat→List Cn→Nat×List Cn
 |0,ns=>(0,ns)
 |n+1,ns=>if wf n≤k then LC k wf n (ns++[⟨wf n,0,0,0,0⟩])else(n+1,ns)
section
variable {k:Int}{wf:Nat→Int}{m:Nat}{ns cur:List Cn}{j:Nat}
end
end
namespace Mc
open Go.RowKit
set_option simprocs false
abbrev _root_.Go.Proofs.YtbbdanhpphlbpaaGreatDoor.FM (ar:Int)(nm:ag)(mi r:Nat→Int)(c:SV)(q:Int)(k:SV):List SV:=[.int .i64 ar,.str nm,.int .i64 (mi 0),.int .i64 (mi 1),.int .i64 (mi 2),.int .i64 (r 0),.int .i64 (r 1),.int .i64 (r 2),.int .i64 (r 3),.int .i64 (r 4),.int .i64 (r 5),.int .i64 (r 6),.int .i64 (r 7),.int .i64 (r 8),.int .i64 (r 9),.int .i64 (r 10),.int .i64 (r 11),.int .i64 (r 12),.int .i64 (r 13),.int .i64 (r 14),.int .i64 (r 15),.int .i64 (r 16),.int .i64 (r 17),.int .i64 (r 18),.int .i64 (r 19),.int .i64 (r 20),.int .i64 (r 21),.int .i64 (r 22),.int .i64 (r 23),c,.int .i64 q,k]
abbrev _root_.Go.Proofs.YtbbdanhpphlbpaaGreatDoor.mQ (ar:Int)(nm:ag)(mi r:Nat→Int):List SV:=[.int .i64 ar,.str nm,.int .i64 (mi 0),.int .i64 (mi 1),.int .i64 (mi 2),.int .i64 (r 0),.int .i64 (r 1),.int .i64 (r 2),.int .i64 (r 3),.int .i64 (r 4),.int .i64 (r 5),.int .i64 (r 6),.int .i64 (r 7),.int .i64 (r 8),.int .i64 (r 9),.int .i64 (r 10),.int .i64 (r 11),.int .i64 (r 12),.int .i64 (r 13),.int .i64 (r 14),.int .i64 (r 15),.int .i64 (r 16),.int .i64 (r 17),.int .i64 (r 18),.int .i64 (r 19),.int .i64 (r 20),.int .i64 (r 21),.int .i64 (r 22),.int .i64 (r 23)]
def qX (cs:List AD)(kd:List Cn)(ar:Int)(nm:ag)(mi r:Nat→Int)(qu:Int):SV→World→World→Prop:=fun x w w'=>∃(ao1 ao2:ak) (cp1 cp2:Nat) (cs':List AD),x=.agg (FM ar nm mi r (.sla ao1 cs.length cp1) qu (.sla ao2 kd.length cp2))∧cs'.length=cs.length∧(∀k,k<cs.length→(cs'.getD k AD.z).l=(cs.getD k AD.z).l)∧∀ks,(∀b,ks.contains b=true→b<w.heap.size)→AP ao1 1 cs.length (fun zz=>I7 (cs'.getD zz AD.z)) w' ks∧AH cs' w' ks
theorem SA {ao:ak}{s n N:Nat}{f:Nat→List SV}{w:World}{ks:ae}(h:AP ao s n f w ks)(hf:∀q:Addr,ao=some q→N≤q.block){ks':ae}(hk:∀b,ks'.contains b=true→b<N):AP ao s n f w ks':=by
 refine⟨h.1,?_⟩
 rcases h.2 with h|⟨b,o,e1,e2,e3,e4⟩
 ·exact .inl h
 ·refine .inr ⟨b,o,e1,e2,?_,e4⟩
  cases hq:ks'.contains b with
  |false=>rfl
  |true=>have h1:=hk b hq;have h2:N≤b:=hf _ e1;omega
theorem eT {cs:List AD}{kd:List Cn}{ar:Int}{nm:ag}{mi r:Nat→Int}{qu:Int}{z:List AD×Nat}{w w':World}{ks ks1:ae}{ao1 ao2:ak}{cp1 cp2:Nat}(FF:∀c∈cs,Fo c.l)(hz:NJ cs w.heap.size z w' ks)(OE:z.2=cs.length)(hl:AP ao1 1 z.2 (fun zz=>I7 (z.1.getD zz AD.z)) w' ks1)(hf:∀q:Addr,ao1=some q→w.heap.size≤q.block):qX cs kd ar nm mi r qu (.agg (FM ar nm mi r (.sla ao1 z.2 cp1) qu (.sla ao2 kd.length cp2))) w w':=by
 have hm:=hz.m
 refine⟨ao1,ao2,cp1,cp2,z.1,by rw [OE],by omega,fun k hk=>hz.eq k (by omega),fun ks' hk=>⟨by rw [←OE];exact SA hl hf hk,fun c hc=>SA (hz.at_ c hc).1 (hz.at_ c hc).2 hk⟩⟩
theorem tI {n:Nat}{T:List (Nat×SV)}{H:Hp}{G0:Gr}{w0:World}{G:Gr}{a:Act}{w:World}(B:Sy n T H [] G0 w0 G a w){ao:ak}(h:∀q:Addr,ao=some q→(keys H G).contains q.block=true∨w.heap.size≤q.block):∀q:Addr,ao=some q→w0.heap.size≤q.block:=fun q hq=>(h q hq).elim (fun h=>(B.keys_own _ h).elim (fun h=>by cases h) id) (fun h=>β3 B.mix.size h)
end Mc
namespace Mc
open Go.RowKit
set_option simprocs false
theorem eU {ao:ak}{s n:Nat}{f:Nat→List SV}{w:World}{ks ks':ae}(h:AP ao s n f w ks)(hk:∀q:Addr,n≠0→ao=some q→ks'.contains q.block=false):AP ao s n f w ks':=by
 refine⟨h.1,?_⟩
 rcases h.2 with h2|⟨b,o,e1,e2,e3,e4⟩
 ·exact .inl h2
 ·by_cases hn:n=0
  ·exact .inl hn
  ·exact .inr ⟨b,o,e1,e2,hk _ hn e1,e4⟩
theorem Vo {ao:ak}{s n:Nat}{f:Nat→List SV}{w:World}{ks:ae}(h:AP ao s n f w ks)(hn:n≠0){q:Addr}(hq:ao=some q):ks.contains q.block=false∧q.block<w.heap.size:=by
 rcases h.2 with h2|⟨b,o,e1,e2,e3,e4⟩
 ·exact absurd h2 hn
 ·rw [hq]at e1
  cases e1
  exact⟨e3,e2⟩
theorem zV {vs:aj}(h:vs.length=32):∃tv:Nat→Value,vs=[tv 0,tv 1,tv 2,tv 3,tv 4,tv 5,tv 6,tv 7,tv 8,tv 9,tv 10,tv 11,tv 12,tv 13,tv 14,tv 15,tv 16,tv 17,tv 18,tv 19,tv 20,tv 21,tv 22,tv 23,tv 24,tv 25,tv 26,tv 27,tv 28,tv 29,tv 30,tv 31]:=by
 refine⟨fun k=>vs.getD k undef,?_⟩
 apply τ6
 ·simpa using h
 ·intro k h1 h2
  have e:vs.getD k undef=vs[k]:=by rw [α8,β4 h1,δ2]
  rw [←e]
  have hk:k<32:=by omega
  have key:∀f:Nat→Value,∀k:Nat,k<32→[f 0,f 1,f 2,f 3,f 4,f 5,f 6,f 7,f 8,f 9,f 10,f 11,f 12,f 13,f 14,f 15,f 16,f 17,f 18,f 19,f 20,f 21,f 22,f 23,f 24,f 25,f 26,f 27,f 28,f 29,f 30,f 31][k]?=some (f k):=fun f k hk=>by
   rw [show [f 0,f 1,f 2,f 3,f 4,f 5,f 6,f 7,f 8,f 9,f 10,f 11,f 12,f 13,f 14,f 15,f 16,f 17,f 18,f 19,f 20,f 21,f 22,f 23,f 24,f 25,f 26,f 27,f 28,f 29,f 30,f 31]=(List.range 32).map f from rfl,ι0,List.getElem?_range hk];rfl
  have h3:=key (fun k=>vs.getD k undef) k hk
  exact(β6 ((β4 h2).symm.trans h3)).symm
section
variable {n:Nat}{T:List (Nat×SV)}{H H2:Hp}{G0 G0':Gr}{w0:World}{G:Gr}{a a':Act}{w:World}{cs:List AD}{rg:Nat→Rg}{mi:Rg}{z:List Tr}
theorem eV (B:Sy n T H [] G0 w0 G a w)(jt:JT cs (Ai cs rg) z w0.heap.size w (keys H G)){ra:ak}{f:Nat→List SV}{m:Nat}{ks:ae}(hl:AP ra 1 m f w ks)(hf:∀q:Addr,ra=some q→(keys H G).contains q.block=true∨w.heap.size≤q.block):∀q:Addr,m≠0→ra=some q→w0.heap.size≤q.block∧(CF z).contains q.block=false:=fun q hm hq=>by
 have h1:=(Vo hl hm hq).2
 have h2:(keys H G).contains q.block=true:=(hf q hq).elim id (fun h=>by omega)
 refine⟨(B.keys_own _ h2).elim (fun h=>by cases h) id,?_⟩
 cases hc:(CF z).contains q.block with
 |false=>rfl
 |true=>
  obtain⟨k,hk,hb⟩:=C4.1 hc
  rw [(jt.lo k hk _ hb).2]at h2;cases h2
end
abbrev _root_.Go.Proofs.YtbbdanhpphlbpaaGreatDoor.BA (ar:Int)(nm:ag)(mi r:Nat→Int)(cs:List AD)(cx:Nat)(qu:Int)(kd:List Cn)(ck:Nat):List SV:=FM ar nm mi r (.sl 0 cs.length cx) qu (.sl 1 kd.length ck)
theorem Vp {cs:List AD}{kd:List Cn}{ar:Int}{nm:ag}{mi r:Nat→Int}{qu:Int}{cx ck k:Nat}(h:k<3):DK ⟨X,true⟩ 23 (BA ar nm mi r cs cx qu kd ck) (5+k*8)=some (.agg [.n9 (r (8*k+0)),.n9 (r (8*k+1)),.n9 (r (8*k+2)),.n9 (r (8*k+3)),.n9 (r (8*k+4)),.n9 (r (8*k+5)),.n9 (r (8*k+6)),.n9 (r (8*k+7))]):=by
 match k,h with
 |0,_=>rfl
 |1,_=>rfl
 |2,_=>rfl
end Mc
namespace Mc
open Go.RowKit
set_option simprocs false
theorem GE {cs:List AD}{w:World}{ks:ae}(h:AH cs w ks):AH cs w []:=AH.ok _ _ _ _ h (CQ.refl _ _) (fun b hb=>by cases hb)
structure RD (cs:List AD)(ts:List Th)(tr z:List Tr)(ra:ak)(nn N:Nat)(w:World)(ks:ae):Prop where
 jt:JT cs ts tr N w ks
 row:AP ra 1 nn (R0 z) w (ks++CF tr)
 ln:tr.length=nn
 hl:∀k,k<nn→(tr.getD k Tr.z).L=(z.getD k Tr.z).L
theorem AN {a b:ae}{x:Nat}:(a++b).contains x=true↔a.contains x=true∨b.contains x=true:=by
 rw [δ9,δ9,δ9,ζ9]
theorem RD.ok {cs:List AD}{ts:List Th}{tr z:List Tr}{ra:ak}{nn N:Nat}:Dl.OK (RD cs ts tr z ra nn N):=fun w ks w' ks' h m hk=>by
 refine⟨JT.ok _ _ _ _ h.jt m hk,?_,h.ln,h.hl⟩
 refine AP.ok _ _ _ _ h.row ⟨m.os,m.tape,m.output,m.size,fun k FC hc=>m.block k FC ?_⟩ fun b hb=>?_
 ·cases hq:ks.contains k with
  |false=>rfl
  |true=>rw [AN.2 (.inl hq)]at hc;cases hc
 ·rcases AN.1 hb with q|q
  ·exact(hk b q).elim (fun r=>.inl (AN.2 (.inl r))) .inr
  ·exact .inl (AN.2 (.inr q))
theorem RD.rf {cs cs2:List AD}{ts:List Th}{tr z:List Tr}{ra:ak}{nn N:Nat}{w:World}{ks:ae}(h:RD cs ts tr z ra nn N w ks)(p5:AH cs2 w ks)(hc:AH cs w ks)(hle:nn≤cs.length)(heq:∀k,k<nn→(cs2.getD k AD.z).l=(cs.getD k AD.z).l):Mj cs2 ts nn ra (fun k=>(z.getD k Tr.z).L.b) (fun k=>(z.getD k Tr.z).L.pre.length) (fun k=>(cs.getD k AD.z).ao) (fun k=>(cs.getD k AD.z).cp) (fun k=>Jt (tr.getD k Tr.z).pb (tr.getD k Tr.z).ps.length) w ks:=
 ⟨AP.ok _ _ _ _ h.row (CQ.refl _ _) (fun b hb=>.inl (AN.2 (.inl hb))),JT.look2 (z:=z) h.jt p5 hc h.ln hle heq h.hl⟩
section
variable {n:Nat}{ks:ae}{G0:Gr}{w0:World}{T:List (Nat×SV)}{H:Hp}{G:Gr}{a:Act}{w:World}
theorem Jg (A:Sy n T H ks G0 w0 G a w)(p:Nat){L:Loc}{cs:List SV}{vs:aj}{H':Hp}(hp:p<H.length)(hG:G[p]?=some (some L))(hc:AO [] cs=some vs)(hb:D3 w L.b (L.pre++vs++L.post).toArray L.t)(Cy:IC H G [L.b])(ho:ks.contains L.b=true∨w0.heap.size≤L.b)(hH:CE H p (some (.blk cs))=H'):Sy n T H' ks G0 w0 G a w:=by
 subst hH
 have hold:∀(j:Nat) (e:BZ),(CE H p (some (.blk cs)))[j]?=some (some e)→(j=p∧e=.blk cs)∨(j≠p∧H[j]?=some (some e)):=by
  intro j e h
  rw [Aw]at h
  by_cases hj:j=p
  ·subst hj
   rw [γ7 hp]at h
   cases h
   exact .inl ⟨rfl,rfl⟩
  ·rw [γ0 (ε9 hj)]at h;exact .inr ⟨hj,h⟩
 have Bw:∀(j:Nat) (e:BZ) (M:Loc),H[j]?=some (some e)→G[j]?=some (some M)→¬e.empty→M.b≠L.b:=fun j e M g1 g2 g3 h=>by
  have:=Cy j e M g1 g2 g3
  rw [h]at this;simp at this
 refine⟨A.size,A.defers,A.get,⟨by rw [Aw];simpa using A.mem.len,fun j e he=>?_,fun j k e f L' M Eb g1 g2 g3 g4 g5 g6=>?_⟩,A.pre,fun j e L' g1 g2 g3=>?_,A.mix⟩
 ·rcases hold j e he with⟨rfl,rfl⟩|⟨_,h⟩
  ·rw [hG]
   exact⟨L,vs,rfl,by simpa using A6 G cs hc,hb⟩
  ·exact A.mem.ent j e h
 ·rcases hold j e g1 with⟨rfl,rfl⟩|⟨hj,h1⟩
  ·rw [hG]at g4;cases g4
   rcases hold k f g2 with⟨rfl,_⟩|⟨_,h2⟩
   ·exact absurd U Eb
   ·exact fun h=>Bw k f M h2 g5 g6 h.symm
  ·rcases hold k f g2 with⟨rfl,rfl⟩|⟨_,h2⟩
   ·rw [hG]at g5;cases g5
    exact Bw j e L' h1 g4 (BI g3)
   ·exact A.mem.sep j k e f L' M Eb h1 h2 g3 g4 g5 g6
 ·rcases hold j e g1 with⟨rfl,rfl⟩|⟨_,h1⟩
  ·rw [hG]at g3;cases g3;exact ho
  ·exact A.own j e L' h1 g2 g3
end
section
variable {n:Nat}{ks:ae}{G0:Gr}{w0:World}{T:List (Nat×SV)}{H:Hp}{G:Gr}{a:Act}{w:World}{ops:ah}{o:Oper}{rest:ai}{Q:ab}{K:List Fr}{cs:List AD}{ts:List Th}{tr z:List Tr}{ra:ak}{rc nn:Nat}{tv:Nat→Value}{m:Rg}
end
section
variable {P:Program}{n:Nat}{ks:ae}{G0:Gr}{w0:World}{T:List (Nat×SV)}{H:Hp}{G:Gr}{a:Act}{w:World}{ops:ah}{o:Oper}{Q:ab}{pre:World→Prop}{i fuel:Nat}{listed:Array Bool}
theorem LR {f:Nat} {args az:List SV} {t:Nat} {cs:List AD} {kd:List Cn} {ar qu:Int} {nm:ag} {mi r:Nat→Int} {H' l:Hp} (m:ae) (ho:ops[i]?=some o) (hf:Mf P f args H' [] pre (qX cs kd ar nm mi r qu)) (A:Sy n T H ks G0 w0 G a w) (hp:pre w) (h1:Bi n ops T o=some (f,az)) (h2:D8 m args=some az) (h3:DR m H'=some l) (h4:DC H m=some l) (h5:Ks m=true) (hd:o.dst=some t)
  (k:∀(ao1 ao2:ak) (cp1 cp2:Nat) (cs':List AD) {a' w'},cs'.length=cs.length→(∀k,k<cs.length→(cs'.getD k AD.z).l=(cs.getD k AD.z).l)→(AP ao1 1 cs'.length (fun zz=>I7 (cs'.getD zz AD.z)) w' (keys H G)∧AH cs' w' (keys H G))→Sy n ((t,.agg (FM ar nm mi r (.sla ao1 cs'.length cp1) qu (.sla ao2 kd.length cp2)))::T) H ks G0 w0 G a' w'→wpAny P .any ops Q fuel (listed.setIfInBounds i true) a' w'):wpOp P ops Q i (wpAny P .any ops Q fuel (listed.setIfInBounds i true)) a w:=by
 refine Ff m ho hf A hp IC.nil (fun b h=>by cases h) h1 h2 h3 h4 h5 fun{x a' w'} hm hJ A'=>?_
 obtain⟨ao1,ao2,cp1,cp2,cs',hx,hl,he,hK⟩:=hJ
 have h0:=hK (keys H G) (fun b h=>EK A.mem h)
 rw [←hl]at hx h0
 subst hx
 rw [hd]at A'
 exact k ao1 ao2 cp1 cp2 cs' hl he h0 A'
end
end Mc
namespace Mc
open Go.RowKit
set_option simprocs false
def TJ (cs:List AD)(ts:List Th)(nn:Nat)(ra:ak)(bs bo:Nat→Nat)(da:Nat→Option Addr)(dp:Nat→Nat)(pv:Nat→Value):Dl:=fun w ks=>Mj cs ts nn ra bs bo da dp pv w ks∧FL w ks
theorem TJ.ok {cs:List AD}{ts:List Th}{nn:Nat}{ra:ak}{bs bo:Nat→Nat}{da:Nat→Option Addr}{dp:Nat→Nat}{pv:Nat→Value}:Dl.OK (TJ cs ts nn ra bs bo da dp pv):=fun w ks w' ks' h m hk=>⟨Mj.ok _ _ _ _ h.1 m hk,AP.ok _ _ _ _ h.2 m hk⟩
end Mc
section
open Go.RowKit
set_option simprocs false
def m1 (ws:List Tk)(s:Ps):Ps:=s.wa (mL ws s.as [91])
def m2 (ws:List Tk)(s:Ps):Ps:=⟨{s.ins with loc:=Z5 ws s.as [[120],[121],[122]],ix:= -1},s.lab,(Kc ws s.as [[120],[121],[122]]).e,(Kc ws s.as [[120],[121],[122]]).a,(Kc ws s.as [[120],[121],[122]]).p⟩
def xZ (ws:List Tk)(s:Ps):Bool:=tD ws s.p [43]
def m3 (ws:List Tk)(s:Ps):Ps:=⟨s.ins,s.lab,s.e,s.a,qW ws s.p [43]⟩
def zW (ws:List Tk)(s:Ps):Bool:=(ws.getD s.p CR).kind==2
def eW (ws:List Tk)(s:Ps):Ps:=⟨{s.ins with off:=tG ws s.p},s.lab,s.e,s.a,tF ws s.p⟩
def mR (g:Lg)(ws:List Tk)(s:Ps):Ps:=⟨{s.ins with ix:=Z5 ws s.as [g.r0,g.r1,g.r2,g.r3,g.r4,g.r5,g.r6,g.r7]},s.lab,(Kc ws s.as [g.r0,g.r1,g.r2,g.r3,g.r4,g.r5,g.r6,g.r7]).e,(Kc ws s.as [g.r0,g.r1,g.r2,g.r3,g.r4,g.r5,g.r6,g.r7]).a,(Kc ws s.as [g.r0,g.r1,g.r2,g.r3,g.r4,g.r5,g.r6,g.r7]).p⟩
def m5 (ws:List Tk)(s:Ps):Ps:=s.wa (mL ws s.as [93])
def TK (ws:List Tk)(s:Ps):Ps:=m3 ws (m2 ws (m1 ws s))
def tJ (g:Lg)(ws:List Tk)(s:Ps):Ps:=m5 ws (if xZ ws (m2 ws (m1 ws s))=true then(if zW ws (TK ws s)=true then(if xZ ws (eW ws (TK ws s))=true then mR g ws (m3 ws (eW ws (TK ws s)))else m3 ws (eW ws (TK ws s)))else mR g ws (TK ws s))else TK ws s)
section
variable {g:Lg}{ws:List Tk}{s:Ps}
end
def tK (g:Lg)(t:Tk):Bool:=if g.im=[]then((t.kind==2)||((t.kind==3)&&(t.text==[45])))else((t.kind==3)&&(t.text==g.im))
def tL (g:Lg)(r:Rw)(p:Int)(t:Tk):Bool:=if p=5 then tK g t else if p=6 then((t.kind==3)&&(t.text==[91]))else if p=10 then((t.kind==1)&&(t.text==r.wd))else(t.kind==1)
def zX (g:Lg)(ws:List Tk)(p:Int)(s:Ps):Ps:=
 if p=1 then⟨{s.ins with dst:=Z5 ws s.as [g.r0,g.r1,g.r2,g.r3,g.r4,g.r5,g.r6,g.r7]},s.lab,(Kc ws s.as [g.r0,g.r1,g.r2,g.r3,g.r4,g.r5,g.r6,g.r7]).e,(Kc ws s.as [g.r0,g.r1,g.r2,g.r3,g.r4,g.r5,g.r6,g.r7]).a,(Kc ws s.as [g.r0,g.r1,g.r2,g.r3,g.r4,g.r5,g.r6,g.r7]).p⟩else
 if p=4 then⟨{s.ins with dst:=Z5 ws s.as [g.r0,g.r1,g.r2,g.r3,g.r4,g.r5,g.r6,g.r7]},s.lab,(Kc ws s.as [g.r0,g.r1,g.r2,g.r3,g.r4,g.r5,g.r6,g.r7]).e,(Kc ws s.as [g.r0,g.r1,g.r2,g.r3,g.r4,g.r5,g.r6,g.r7]).a,(Kc ws s.as [g.r0,g.r1,g.r2,g.r3,g.r4,g.r5,g.r6,g.r7]).p⟩else
 if p=2 then⟨{s.ins with ra:=Z5 ws s.as [g.r0,g.r1,g.r2,g.r3,g.r4,g.r5,g.r6,g.r7]},s.lab,(Kc ws s.as [g.r0,g.r1,g.r2,g.r3,g.r4,g.r5,g.r6,g.r7]).e,(Kc ws s.as [g.r0,g.r1,g.r2,g.r3,g.r4,g.r5,g.r6,g.r7]).a,(Kc ws s.as [g.r0,g.r1,g.r2,g.r3,g.r4,g.r5,g.r6,g.r7]).p⟩else
 if p=3 then⟨{s.ins with rb:=Z5 ws s.as [g.r0,g.r1,g.r2,g.r3,g.r4,g.r5,g.r6,g.r7]},s.lab,(Kc ws s.as [g.r0,g.r1,g.r2,g.r3,g.r4,g.r5,g.r6,g.r7]).e,(Kc ws s.as [g.r0,g.r1,g.r2,g.r3,g.r4,g.r5,g.r6,g.r7]).a,(Kc ws s.as [g.r0,g.r1,g.r2,g.r3,g.r4,g.r5,g.r6,g.r7]).p⟩else
 if p=5 then⟨{s.ins with imm:=tH g ws s.as},s.lab,(eS g ws s.as).e,(eS g ws s.as).a,(eS g ws s.as).p⟩else
 if p=6 then tJ g ws s else
 if p=7 then⟨s.ins,zT ws s.p,s.e,s.a,zR ws s.p⟩else
 if p=8 then⟨{s.ins with pred:=Z5 ws s.as [g.f0,g.f1,g.f2]+1},s.lab,(Kc ws s.as [g.f0,g.f1,g.f2]).e,(Kc ws s.as [g.f0,g.f1,g.f2]).a,(Kc ws s.as [g.f0,g.f1,g.f2]).p⟩else
 if p=9 then⟨{s.ins with succ:=Z5 ws s.as [g.f0,g.f1,g.f2]+1},s.lab,(Kc ws s.as [g.f0,g.f1,g.f2]).e,(Kc ws s.as [g.f0,g.f1,g.f2]).a,(Kc ws s.as [g.f0,g.f1,g.f2]).p⟩else
 if p=10 then⟨s.ins,s.lab,s.e,s.a,xX ws s.p⟩else
 s
end
section
open Go.Shelf Go.RowKit
end
section
open Go.RowKit
set_option simprocs false
section
variable {g:Lg}{q:ag}{L:List Rw}{z:Int}{k:Nat}
end
def zY (g:Lg)(k:Nat)(t:Tk)(r:Rw):Bool:= !(tL g r (r.ps.getD k 0) t)
def mS (k:Nat)(r:Rw):Bool:=r.ps.getD k 0==10
def tM (f:Rw→Bool)(R:List Rw):Int:=match(List.range R.length).find? (fun j=>f (R.getD j Rw.z))with|some j=>(j:Int)|none=> -1
section
variable {f:Rw→Bool}{R cur:List Rw}{k i j:Nat}
end
def zZ (kk:Nat)(t:Tk)(R:List Rw):Int:=if((decide (tM (mS kk) R≥0))&&(t.kind==1))=true then 21 else 22
def x4 (g:Lg)(kk:Nat)(t:Tk)(R:List Rw):List Rw:=R.filter (fun r=> !zY g kk t r)
def x6 (g:Lg)(ws:List Tk)(kk:Nat)(R:List Rw)(s:Ps):Ps:=if(x4 g kk (ws.getD s.p CR) R).length=0 then s.wa (Vj ws s.as (zZ kk (ws.getD s.p CR) R))else s
section
variable {f:Rw→Bool}{R cur:List Rw}{i j kk:Nat}{w:World}{ks:ae}{x:Rw}
end
end
section
open Go.Shelf Go.RowKit
def mT (l:ag):List Value:=[.string (S l)]
def Iw:Go.Shelf.Ren:=⟨fun|156=>192|165=>229|166=>230|169=>231|240=>262|241=>263|276=>285|277=>286|n=>n,fun|0=>0|3=>3|4=>4|9=>9|20=>20|31=>207|37=>152|70=>242|72=>244|75=>215|76=>245|127=>277|164=>293|5=>5|80=>50|n=>n,fun|n=>n⟩
theorem Vq:Go.Proofs.Lays.n156 Tryz.prog Iw:={
 mixed:=by kernel_rfl
 f156:=Tryz.func192.trans (congrArg some (by kernel_rfl))
 f165:=Tryz.func229.trans (congrArg some (by kernel_rfl))
 f166:=Tryz.func230.trans (congrArg some (by kernel_rfl))
 f169:=Tryz.func231.trans (congrArg some (by kernel_rfl))
 f240:=Tryz.func262.trans (congrArg some (by kernel_rfl))
 f241:=Tryz.func263.trans (congrArg some (by kernel_rfl))
 f276:=Tryz.func285.trans (congrArg some (by kernel_rfl))
 f277:=Tryz.func286.trans (congrArg some (by kernel_rfl))
 t0:=Tryz.underlying0
 a0:=Tryz.isAgg0
 z0:=Tryz.sizeOf0
 v0:=Tryz.zeroValue0
 t3:=Tryz.underlying3
 a3:=Tryz.isAgg3
 z3:=Tryz.sizeOf3
 v3:=Tryz.zeroValue3
 t4:=Tryz.underlying4
 a4:=Tryz.isAgg4
 z4:=Tryz.sizeOf4
 v4:=Tryz.zeroValue4
 t9:=Tryz.underlying9
 a9:=Tryz.isAgg9
 z9:=Tryz.sizeOf9
 v9:=Tryz.zeroValue9
 t20:=Tryz.underlying20
 a20:=Tryz.isAgg20
 z20:=Tryz.sizeOf20
 v20:=Tryz.zeroValue20
 t31:=Tryz.underlying207
 a31:=Tryz.isAgg207
 z31:=Tryz.sizeOf207
 v31:=Tryz.zeroValue207
 t37:=Tryz.underlying152
 a37:=Tryz.isAgg152
 z37:=Tryz.sizeOf152
 v37:=Tryz.zeroValue152
 t70:=Tryz.underlying242
 a70:=Tryz.isAgg242
 z70:=Tryz.sizeOf242
 v70:=Tryz.zeroValue242
 t72:=Tryz.underlying244
 a72:=Tryz.isAgg244
 z72:=Tryz.sizeOf244
 v72:=Tryz.zeroValue244
 t75:=Tryz.underlying215
 a75:=Tryz.isAgg215
 z75:=Tryz.sizeOf215
 v75:=Tryz.zeroValue215
 t76:=Tryz.underlying245
 a76:=Tryz.isAgg245
 z76:=Tryz.sizeOf245
 v76:=Tryz.zeroValue245
 t127:=Tryz.underlying277
 a127:=Tryz.isAgg277
 z127:=Tryz.sizeOf277
 v127:=Tryz.zeroValue277
 t164:=Tryz.underlying293
 a164:=Tryz.isAgg293
 z164:=Tryz.sizeOf293
 v164:=Tryz.zeroValue293}
theorem TL:Go.Proofs.Builder.Extra Tryz.prog Iw where
 sizeBuilder:=by kernel_rfl
 liesBuilder:=by kernel_rfl
 t5:=Tryz.underlying5
 a5:=Tryz.isAgg5
 z5:=Tryz.sizeOf5
 v5:=Tryz.zeroValue5
 infoByte:=by kernel_rfl
 cellsByte:=by kernel_rfl
 sizeByte:=by kernel_rfl
 neB5:=by decide
theorem Vr (mv:Value)(ls:List (List UInt8))(q:ag)(w:World)(hM:Sl mT 1 w.heap.size w mv ls)(h0:ls≠[])(hn:ls.length≤1000)(hl:(Lib.join ls q).length≤1000000):Calls Tryz.prog 192 #[mv,.string (S q)] w fun e w'=>e=.returned (.string (S (Lib.join ls q)))∧By w w':=by
 obtain⟨ao,cap,rfl,Pa,MK⟩:=hM
 obtain⟨x,r,rfl⟩:∃x r,ls=x::r:=by cases ls with
  |nil=>exact absurd U h0
  |cons x r=>exact⟨x,r,rfl⟩
 obtain⟨b,o,rfl,hb,_⟩:=MK 0 x U
 have p8:((x::r).map S).map (fun s=>s.data.toList)=x::r:=by
  rw [τ9]
  conv=>rhs;rw [←List.map_id (x::r)]
  exact ρ6 fun y _=>FG y
 have hlen:((x::r).map S).length=(x::r).length:=ε7 _
 have hc:=Any.strings_Join Vq TL b o cap ((x::r).map S) (S q) w (fun j y hy=>by
   rw [ι0]at hy
   cases hz:(x::r)[j]? with
   |none=>rw [hz]at hy;cases hy
   |some z=>
    rw [hz]at hy
    simp only [δ0,β1]at hy
    subst hy
    obtain⟨b',o',h1,_,h3⟩:=MK j z hz
    simp only [β1,μ6]at h1
    obtain⟨rfl,rfl,_⟩:=h1
    have:=h3 0 (.string (S z)) U
    rw [Nat.mul_one,ι6]at this
    exact this) hb (by rw [hlen];omega) (by rw [hlen];exact Pa) (by rw [p8,FG];omega)
 rw [hlen,p8,FG]at hc
 exact hc.mono fun e w' h=>⟨h.1,h.2⟩
end
end Go.Proofs.YtbbdanhpphlbpaaGreatDoor
